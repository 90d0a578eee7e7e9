import PyProof.Rows.All
import Wide.All
import OpenK.AllK
import Wide.FinOn
import Lean
import PyProof.EqAt
import PyProof.EqKinds
import PyProof.TupleCall
import PyProof.NeKinds
import PyProof.WalksEnum
import PyProof.StrWalks
import PyProof.ExcAttrAll.ValueError
import PyProof.ZipIter
import KE.KRevIter
import PyProof.ListNew
import PyProof.WalksMore
import PyProof.ReprLoop
import PyProof.FactsAll.list
import PyProof.CollectIter
import PyProof.TupleOfGen
import PyProof.Draws
import PyProof.EnumMake
import PyProof.SeqI3
import KE.KMinBuiltin
import PyProof.SetRoads
import PyProof.CollectWalk
import KE.KDictSum
import PyProof.AttrMiss
import PyProof.IsiH_tuple
import KE.KDictOf
import PyProof.FitsBits
import PyProof.SliceList
import PyProof.InstFacts
import PyProof.Rows.StrNews2
import PyProof.StrBlockH
import PyProof.CallStr
import KE.KIntText
import PyProof.Rows.RuleB_pow
import PyProof.StrLawsTight
import PyProof.StrLawsLast
import PyProof.StrLawsNeg
import PyProof.Rows.StrItems
import PySem.Challenge.RW_worthkinds_k70_whole_texts
noncomputable section
set_option maxHeartbeats 4000000
set_option Elab.async false
set_option linter.all false
set_option maxRecDepth 100000
namespace L2
open PySem PySem.Spec PyProof.Rows
abbrev Key:=Sum Int Str
def XM:Key->Value->Bool
 | .inl k,v=>Value.isInt k v
 | .inr x,v=>Value.isStrOf x v
def keyH (w:World):Key->Int
 | .inl k=>hashInt k
 | .inr x=>hashStr w x
theorem Zh:∀ {k:Key} {v:Value},XM k v=true->(∃ i t,k=Sum.inl i/\v=Value.int i t)\/(∃ x t,k=Sum.inr x/\v=Value.str x t)
 | .inl i,v,h=>by
  obtain ⟨t,e⟩:=Value.isInt_shape (k:=i) (v:=v) h;exact .inl ⟨i,t,rfl,e⟩
 | .inr x,v,h=>by
  obtain ⟨t,e⟩:=Value.isStrOf_shape (x:=x) (v:=v) h;exact .inr ⟨x,t,rfl,e⟩
theorem XN (a b:Int):decide ((Sum.inl a:Key)=Sum.inl b)=(a == b):=by
 by_cases e:a=b
 ·subst e; simp
 ·have h:¬ (Sum.inl a:Key)=Sum.inl b:=λq=>e (Sum.inl.inj q);rw [decide_eq_false h];exact (beq_eq_false_iff_ne.mpr e).symm
theorem XO (a b:Str):decide ((Sum.inr a:Key)=Sum.inr b)=decide (a=b):=by
 by_cases e:a=b
 ·subst e; simp
 ·have h:¬ (Sum.inr a:Key)=Sum.inr b:=λq=>e (Sum.inr.inj q);rw [decide_eq_false h,decide_eq_false e]
theorem XQ (a:Int) (b:Str):decide ((Sum.inl a:Key)=Sum.inr b)=false:=decide_eq_false (λq=>nomatch q)
theorem XR (a:Str) (b:Int):decide ((Sum.inr a:Key)=Sum.inl b)=false:=decide_eq_false (λq=>nomatch q)
def uW (prog:Program) (w:World):PySem.KeyKind prog w Key where
 is:=XM
 hash:=keyH w
 inj:=λv a b ha hb=>by
  rcases Zh ha with ⟨i,t,rfl,rfl⟩ | ⟨x,t,rfl,rfl⟩
  ·rcases Zh hb with ⟨j,u,rfl,e⟩ | ⟨y,u,rfl,e⟩
   ·injection e with e1 _; rw [e1]
   ·exact nomatch e
  ·rcases Zh hb with ⟨j,u,rfl,e⟩ | ⟨y,u,rfl,e⟩
   ·exact nomatch e
   ·injection e with e1 _; rw [e1]
 byValue:=λk v h=>by
  rcases Zh h with ⟨i,t,rfl,rfl⟩ | ⟨x,t,rfl,rfl⟩ <;> rfl
 pyHash:=λhv h=>by
  rcases Zh hv with ⟨i,t,rfl,rfl⟩ | ⟨x,t,rfl,rfl⟩
  ·exact wpAny_pyHash_int h
  ·exact wpAny_pyHash_str h
 eqBool:=λhu hv h=>by
  rcases Zh hu with ⟨i,t,rfl,rfl⟩ | ⟨x,t,rfl,rfl⟩
  ·rcases Zh hv with ⟨j,u,rfl,rfl⟩ | ⟨y,u,rfl,rfl⟩
   ·rw [XN] at h; exact wpAny_eqBool_int h
   ·rw [XQ] at h; exact SeqAt.EqAt.int_str i t y u _ _ _ _ h
  ·rcases Zh hv with ⟨j,u,rfl,rfl⟩ | ⟨y,u,rfl,rfl⟩
   ·rw [XR] at h; exact SeqAt.EqAt.str_int x t j u _ _ _ _ h
   ·rw [XO] at h; exact wpAny_eqBool_str h
 «strs»:=λk x t v h=>by
  rcases Zh h with ⟨i,u,rfl,e⟩ | ⟨y,u,rfl,e⟩
  ·exact nomatch e
  ·injection e with e1 _;subst e1;cases v <;> rfl
end L2
namespace L2
open PySem PySem.Spec PyProof.Rows
inductive V where
 | non | bl (b:Bool) | int (i:Int) | str (x:Str) | byt (b:Array UInt8) | flt (b:UInt64) | ref (a:Addr) | ty (n:String)
 deriving DecidableEq
def ZJ:V->Value->Prop
 | .non,u=>u=Value.none
 | .bl b,u=>u=Value.bool b
 | .int i,u=>∃ t,u=Value.int i t
 | .str x,u=>∃ t,u=Value.str x t
 | .byt b,u=>∃ t,u=Value.bytes b t
 | .flt b,u=>∃ t,u=Value.float b t
 | .ref a,u=>u=Value.ref a
 | .ty n,u=>u=Value.type n
abbrev Zy:List V->List Value->Prop:=Paired ZJ
theorem Zy.length {xs:List V} {us:List Value} (r:Zy xs us):xs.length=us.length:=Paired.length r
theorem Zy.get:∀ {xs:List V} {us:List Value} {i:Nat} {x:V},Zy xs us->xs[i]? =some x->∃ u,us[i]? =some u/\ZJ x u
 | _,_,_,_, .nil,e=>by simp at e
 | _,_,0,_, .cons r _,e=>by simp at e; subst e; exact ⟨_,rfl,r⟩
 | _,_,i+1,x, .cons _ t,e=>by
  obtain ⟨u,h1,h2⟩:=Zy.get (i:=i) (x:=x) t (by simpa using e)
  exact ⟨u,by simpa using h1,h2⟩
theorem Zy.append:∀ {xs ys:List V} {us ws:List Value},Zy xs us->Zy ys ws->Zy (xs++ys) (us++ws)
 | _,_,_,_, .nil,s=>s
 | _,_,_,_, .cons r t,s=> .cons r (Zy.append t s)
theorem Zy.take:∀ {xs:List V} {us:List Value} (n:Nat),Zy xs us->Zy (xs.take n) (us.take n)
 | _,_,0,_=> .nil
 | _,_,_+1, .nil=> .nil
 | _,_,n+1, .cons r t=> .cons r (Zy.take n t)
theorem Zy.drop:∀ {xs:List V} {us:List Value} (n:Nat),Zy xs us->Zy (xs.drop n) (us.drop n)
 | _,_,0,r=>r
 | _,_,_+1, .nil=> .nil
 | _,_,n+1, .cons _ t=>Zy.drop n t
def gL:Option V->Option Value->Prop
 | some v,some u=>ZJ v u
 | none,none=>True
 | _,_=>False
def KV {κ:Type}:List (κ×V)->List (κ×Value)->Prop:=Paired λ(p:κ×V) (q:κ×Value)=>p.1=q.1/\ZJ p.2 q.2
def kV:Key->V
 | .inl i=> .int i
 | .inr x=> .str x
inductive HO where
 | lst (xs:List V)
 | tup (xs:List V)
 | dK (kvs:List (Key×V)) | dT (kvs:List (List Key×V))
 | set (S:Int->Bool) (n:Nat)
 | ins (C dx:Addr) (fs:List (Str×V))
 | own (x:Addr)
 | xd (fs:List (Str×V))
 | met (f x:Addr)
 | rng (lo hi:Int)
 | frz (o:Obj) (u:HO)
 | tbl (ps:Array Value)
 | ext (φ:Heap->Prop)
abbrev Hp:=Addr->Option HO
def upd (H:Hp) (a:Addr) (o:HO):Hp:=λb=>if b=a then some o else H b
theorem Zc {H:Hp} {a:Addr} {o:HO}:upd H a o a=some o:=by unfold upd; rw [if_pos rfl]
theorem zD {H:Hp} {a b:Addr} {o:HO} (h:b ≠ a):upd H a o b=H b:=by unfold upd; rw [if_neg h]
theorem Z3 {H:Hp} {a b:Addr} {o:HO} (h:H a=some o) (h' :H b=none):a ≠ b:=by
 intro e; subst e; rw [h] at h'; cases h'
def ITN (h:Heap) (a:Addr) (its:Array Value):Prop:=IsTup h a its/\((∃ i t,its[0]? =some (Value.int i t))\/∃ o,h.get? a=some o/\o.dict=none)
theorem ITN.new (h:Heap) (its:Array Value):ITN (h.push { cls:= .type "tuple",data:= .seq its }) h.objs.size its:=⟨IsTup.new h its, .inr ⟨_,Heap.get?_push_size _ rfl,rfl⟩⟩
section
variable (P:Program) (w:World)
def ZD (H:Hp) (h:Heap) (a:Addr):HO->Prop
 | .lst xs=>xs.length<=sizeLine/\∃ (its:List Value) (n:Nat),Zy xs its/\h.get? a=some { cls:= .type "list",data:= .seq its.toArray n }
 | .tup xs=>xs.length<=sizeLine/\∃ its:List Value,Zy xs its/\ITN h a its.toArray
 | .dK kvs=>kvs.length<=sizeLine/\(a == sysModules)=false/\∃ vs,KV kvs vs/\h.DictOf (uW P w) a vs
 | .dT kvs=>kvs.length<=sizeLine/\(a == sysModules)=false/\∃ xs:List (List Key×Addr×Value),
   Paired (λ(p:List Key×V) (q:List Key×Addr×Value)=>p.1=q.1/\H q.2.1=some (.tup (p.1.map kV))/\ZJ p.2 q.2.2) kvs xs/\
   ∃ o es ep,h.get? a=some o/\o.ExactDict/\o.data= .dict es ep/\es.toList=xs.map (entryOfKey (tupleKind (uW P w)))/\(xs.map (·.1)).Nodup
 | .set S n=>h.SetOf (intKind P w) a S n
 | .ins C dx fs=>H dx=some (.own a)/\fs.length<=1000/\dx ≠ a/\h.get? a=some (PySem.W.instObj C dx)/\
   ∃ mA,h.Ns1 dx mA/\(∀ f,gL (fs.lookup f) (mA f))/\PySem.Within mA (fs.map (·.1))
 | .own _=>∃ o,h.get? a=some o
 | .xd fs=>∃ mA,h.Ns1 a mA/\∀ f,gL (fs.lookup f) (mA f)
 | .rng lo hi=>∃ t u v,h.get? a=some { cls:= .type "range",data:= .fields #[.int lo t, .int hi u, .int 1 v] }
 | .frz o u=>h.get? a=some o/\ZD H h a u
 | .tbl ps=>h.get? a=some { cls:= .none,data:= .fields ps }
 | .met f x=>h.get? a=some (PySem.W.methodObj (.ref f) (.ref x))
 | .ext φ=>φ h/\(∃ o,h.get? a=some o)/\∀ h1 h2:Heap,φ h1->(∀ o,h1.get? a=some o->h2.get? a=some o)->φ h2
def HOk (H:Hp) (h:Heap):Prop:=∀ a o,H a=some o->ZD P w H h a o
end
section
variable {P:Program} {w:World} {H H' :Hp} {h h' :Heap} {a:Addr} {o:HO}
theorem ZD.lt (x:ZD P w H h a o):a < h.objs.size:=by
 cases o with
 | lst xs=>obtain ⟨_,_,_,_,e⟩:=x; exact Heap.lt_size e
 | tup xs=>obtain ⟨_,_,_,p,_⟩:=x; exact p.lt
 | dK kvs=>obtain ⟨_,_,_,_,o,_,_,e,_⟩:=x; exact Heap.lt_size e
 | dT kvs=>obtain ⟨_,_,_,_,o,_,_,e,_⟩:=x; exact Heap.lt_size e
 | set S n=>obtain ⟨o,_,_,_,e,_⟩:=x; exact Heap.lt_size e
 | ins C dx fs=>obtain ⟨_,_,_,e,_⟩:=x; exact Heap.lt_size e
 | own y=>obtain ⟨_,e⟩:=x; exact Heap.lt_size e
 | xd fs=>obtain ⟨_,⟨_,_,_,e,_⟩,_⟩:=x; exact Heap.lt_size e
 | rng lo hi=>obtain ⟨_,_,_,e⟩:=x; exact Heap.lt_size e
 | frz ob u=>obtain ⟨e,_⟩:=x; exact Heap.lt_size e
 | tbl ps=>exact Heap.lt_size (show h.get? a=some _ from x)
 | met f y=>exact Heap.lt_size (show h.get? a=some _ from x)
 | ext φ=>obtain ⟨_,⟨_,e⟩,_⟩:=x; exact Heap.lt_size e
theorem Paired.mapP {α β:Type} {F G:α->β->Prop}:∀ {l₁:List α} {l₂:List β},Paired F l₁ l₂->(∀ a b,F a b->G a b)->Paired G l₁ l₂
 | _,_, .nil,_=> .nil
 | _,_, .cons r t,f=> .cons (f _ _ r) (Paired.mapP t f)
theorem ZD.stay (x:ZD P w H h a o) (k:∀ b u,(b=a\/H b=some (.own a))->h.get? b=some u->h'.get? b=some u)
  (ho:∀ b,H b=some (.own a)->H' b=some (.own a)) (ht:∀ b xs,H b=some (.tup xs)->H' b=some (.tup xs)):ZD P w H' h' a o:=by
 induction o with
 | lst xs=>obtain ⟨z,its,n,r,e⟩:=x; exact ⟨z,its,n,r,k _ _ (.inl rfl) e⟩
 | tup xs=>obtain ⟨z,its,r,⟨ob,e,c⟩,q⟩:=x; exact ⟨z,its,r,⟨ob,k _ _ (.inl rfl) e,c⟩,q.imp id λ⟨o2,e2,d2⟩=>⟨o2,k _ _ (.inl rfl) e2,d2⟩⟩
 | dK kvs=>obtain ⟨z,y,vs,r,ob,es,ep,e,c⟩:=x; exact ⟨z,y,vs,r,ob,es,ep,k _ _ (.inl rfl) e,c⟩
 | dT kvs=>
  obtain ⟨z,y,xs,r,ob,es,ep,e,c⟩:=x;exact ⟨z,y,xs,Paired.mapP r λp q z=>⟨z.1,ht _ _ z.2.1,z.2.2⟩,ob,es,ep,k _ _ (.inl rfl) e,c⟩
 | set S n=>obtain ⟨ob,es,ep,t,e,c⟩:=x; exact ⟨ob,es,ep,t,k _ _ (.inl rfl) e,c⟩
 | ins C dx fs=>
  obtain ⟨d,z,ne,e,mA,⟨od,es,ep,e2,c⟩,r⟩:=x;exact ⟨ho _ d,z,ne,k _ _ (.inl rfl) e,mA,⟨od,es,ep,k _ _ (.inr d) e2,c⟩,r⟩
 | own y=>obtain ⟨ob,e⟩:=x; exact ⟨ob,k _ _ (.inl rfl) e⟩
 | xd fs=>obtain ⟨mA,⟨od,es,ep,e,c⟩,r⟩:=x; exact ⟨mA,⟨od,es,ep,k _ _ (.inl rfl) e,c⟩,r⟩
 | rng lo hi=>obtain ⟨t,u,v,e⟩:=x; exact ⟨t,u,v,k _ _ (.inl rfl) e⟩
 | frz ob u ih=>obtain ⟨e,q⟩:=x; exact ⟨k _ _ (.inl rfl) e,ih q⟩
 | tbl ps=>
  have e:h.get? a=some { cls:= .none,data:= .fields ps }:=x;show h'.get? a=some { cls:= .none,data:= .fields ps };exact k a _ (.inl rfl) e
 | met f y=>
  have e:h.get? a=some (PySem.W.methodObj (.ref f) (.ref y)):=x;show h'.get? a=some (PySem.W.methodObj (.ref f) (.ref y));exact k a _ (.inl rfl) e
 | ext φ=>obtain ⟨p,⟨o,e⟩,st⟩:=x; exact ⟨st _ _ p λo q=>k _ _ (.inl rfl) q,⟨o,k _ _ (.inl rfl) e⟩,st⟩
theorem HOk.lt (x:HOk P w H h) (e:H a=some o):a < h.objs.size:=(x a o e).lt
theorem HOk.fresh (x:HOk P w H h) (e:h.objs.size<=a):H a=none:=by
 cases q:H a with
 | none=>rfl
 | some u=>exact absurd (Nat.lt_of_lt_of_le (x.lt q) e) (Nat.lt_irrefl _)
theorem HOk.kept (x:HOk P w H h) (k:∀ b u,h.get? b=some u->h'.get? b=some u):HOk P w H h' :=λa o e=>
 (x a o e).stay (λb u _ q=>k b u q) (λ_ q=>q) λ_ _ q=>q
theorem HOk.laid (x:HOk P w H h) (k:∀ b u,h.get? b=some u->h'.get? b=some u) (hp:h.objs.size<=a) (new:ZD P w (upd H a o) h' a o):HOk P w (upd H a o) h' :=λb u e=>by
 have hn:=x.fresh hp
 by_cases hb:b=a
 ·subst hb; rw [Zc] at e; cases e; exact new
 ·rw [zD hb] at e;exact (x b u e).stay (λc v _ q=>k c v q) (λc q=>by rw [zD (Z3 q hn)]; exact q) λc xs q=>by rw [zD (Z3 q hn)]; exact q
end
def Rd (H:Hp) (a:Addr) (u:HO):Prop:=H a=some u\/∃ o,H a=some (.frz o u)
theorem Rd.ok {P:Program} {w:World} {H:Hp} {h:Heap} {a:Addr} {u:HO} (r:Rd H a u) (x:HOk P w H h):ZD P w H h a u:=by
 rcases r with r | ⟨o,r⟩
 ·exact x a u r
 ·obtain ⟨_,q⟩:=x a _ r;exact q
def Mut:Option HO->Prop
 | some (.lst _)=>True
 | some (.dK _)=>True
 | some (.dT _)=>True
 | some (.set _ _)=>True
 | some (.ins _ _ _)=>True
 | some (.ext _)=>True
 | _=>False
section
variable {P:Program} {w:World} {H:Hp} {h h' :Heap} {x e:Addr} {o' :HO}
theorem HOk.write (ok:HOk P w H h) (mu:Mut (H x)) (he:e=x\/H e=some (.own x)) (k:∀ b u,b ≠ e->h.get? b=some u->h'.get? b=some u) (heo:∃ u,h'.get? e=some u)
  (new:ZD P w (upd H x o') h' x o'):HOk P w (upd H x o') h' :=λb u q=>by
 have nown:∀ c y,H c=some (.own y)->c ≠ x:=λc y r z=>by subst z; rw [r] at mu; exact mu
 have ntup:∀ c xs,H c=some (.tup xs)->c ≠ x:=λc xs r z=>by subst z; rw [r] at mu; exact mu
 by_cases hb:b=x
 ·subst hb; rw [Zc] at q; cases q; exact new
 ·rw [zD hb] at q
  by_cases hbe:b=e
  ·have q' :H b=some (.own x):=by
    rcases he with z | z
    ·exact absurd (hbe.trans z) hb
    ·rw [hbe]; exact z
   rw [q] at q'; cases q';obtain ⟨v,hv⟩:=heo;exact ⟨v,by rw [hbe]; exact hv⟩
  ·refine (ok b u q).stay (λc v hc r=>k c v ?_ r) (λc r=>by rw [zD (nown c b r)]; exact r) λc xs r=>by rw [zD (ntup c xs r)]; exact r
   rcases hc with rfl | hc
   ·exact hbe
   ·rintro rfl
    rcases he with z | z
    ·exact nown c b hc z
    ·rw [hc] at z; cases z; exact hb rfl
end
structure Un (fs ex:List Addr) (H H' :Hp) (h h' :Heap):Prop where
 keep:∀ b o,h.get? b=some o->H b=none->b ∉ fs->b ∉ ex->h'.get? b=some o
 slot:∀ b o,h.get? b=some o->H b=none->b∈fs->b ∉ ex->∃ sl,h'.get? b=some { o with slots:=sl }
 free:∀ b o,h.get? b=some o->H b=none->b ∉ ex->H' b=none
 there:∀ b o,h.get? b=some o->b ∉ ex->∃ o',h'.get? b=some o'
 tups:∀ b xs,H b=some (.tup xs)->H' b=some (.tup xs)
 frzs:∀ b o u,H b=some (.frz o u)->H' b=some (.frz o u)
 tbls:∀ b ps,H b=some (.tbl ps)->∃ more,H' b=some (.tbl (ps++more))
section
variable {fs fs' ex ex' :List Addr} {H H1 H2:Hp} {h h1 h2 h' :Heap} {a x e:Addr} {o:HO}
theorem Un.any (u:Un fs ex H H1 h h1) {b:Addr} {ob:Obj} (q:h.get? b=some ob) (n:H b=none) (hx:b ∉ ex):∃ sl,h1.get? b=some { ob with slots:=sl }:=by
 by_cases hb:b∈fs
 ·exact u.slot b ob q n hb hx
 ·exact ⟨ob.slots,u.keep b ob q n hb hx⟩
theorem Un.kept (k:∀ b u,h.get? b=some u->h'.get? b=some u):Un fs ex H H h h' :=
 ⟨λb ob q _ _ _=>k b ob q,λb ob q _ _ _=>⟨ob.slots,k b ob q⟩,λ_ _ _ n _=>n,λb ob q _=>⟨ob,k b ob q⟩,λ_ _ q=>q,λ_ _ _ q=>q,λ_ ps q=>⟨#[],by rw [q]; simp⟩⟩
theorem Un.refl:Un fs ex H H h h:=Un.kept λ_ _ q=>q
theorem Un.laid (k:∀ b u,h.get? b=some u->h'.get? b=some u) (hp:h.objs.size<=a) (hn:H a=none):Un fs ex H (upd H a o) h h' where
 keep:=λb u q _ _ _=>k b u q
 slot:=λb u q _ _ _=>⟨u.slots,k b u q⟩
 free:=λb u q n _=>by rw [zD (Nat.ne_of_lt (Nat.lt_of_lt_of_le (Heap.lt_size q) hp))]; exact n
 there:=λb u q _=>⟨u,k b u q⟩
 tups:=λb xs q=>by rw [zD (Z3 q hn)]; exact q
 frzs:=λb u xs q=>by rw [zD (Z3 q hn)]; exact q
 tbls:=λb ps q=>⟨#[],by rw [zD (Z3 q hn),q]; simp⟩
theorem Un.write (mu:Mut (H x)) (he:e=x\/H e=some (.own x)) (k:∀ b u,b ≠ e->h.get? b=some u->h'.get? b=some u) (heo:∃ u,h'.get? e=some u):Un fs ex H (upd H x o) h h' :=by
 have hx:∀ b,H b=none->b ≠ x:=λb n z=>by subst z; rw [n] at mu; exact mu
 have hb:∀ b,H b=none->b ≠ e:=λb n z=>by
  subst z;rcases he with r | r
  ·exact hx b n r
  ·rw [n] at r; cases r
 have hm:∀ b u,H b=some u->¬ Mut (some u)->b ≠ x:=λb u q nm z=>by subst z; rw [q] at mu; exact nm mu
 refine ⟨λb u q n _ _=>k b u (hb b n) q,λb u q n _ _=>⟨u.slots,k b u (hb b n) q⟩,λb u q n _=>by rw [zD (hx b n)]; exact n,λb u q _=> ?_,
  λb xs q=>by rw [zD (hm b _ q λz=>z)]; exact q,λb u xs q=>by rw [zD (hm b _ q λz=>z)]; exact q,λb ps q=>⟨#[],by rw [zD (hm b _ q λz=>z),q]; simp⟩⟩
 by_cases hbe:b=e
 ·subst hbe; exact heo
 ·exact ⟨u,k b u hbe q⟩
end
def trk (h:Heap) (H:Hp):List Addr:=(List.range h.objs.size).filter λa=>(H a).isSome
def Qk (h:Heap) (H:Hp):Heap:=PySem.W.hideAll h (trk h H)
theorem yW (h:Heap) (H:Hp):(Qk h H).objs.size=h.objs.size:=PySem.W.hideAll_size _ _
theorem Ql {h:Heap} {H:Hp} {b:Addr} {o:Obj} (e:h.get? b=some o) (n:H b=none):(Qk h H).get? b=some o:=
 PySem.W.hideAll_get _ e λhm=>by
  have q:(H b).isSome=true:=(List.mem_filter.mp hm).2;rw [n] at q; simp at q
theorem Vr {h:Heap} {H:Hp} {b:Addr} {o:Obj} (e:(Qk h H).get? b=some o):h.get? b=some o/\H b=none:=by
 have e' :h.get? b=some o:=PySem.W.of_hideAll (trk h H) e;refine ⟨e', ?_⟩;cases q:H b with
 | none=>rfl
 | some x=>
  have hm:b∈trk h H:=List.mem_filter.mpr ⟨List.mem_range.mpr (Heap.lt_size e'),by simp [q]⟩
  have z:(Qk h H).get? b=none:=PySem.W.hideAll_none (trk h H) hm;rw [z] at e; cases e
end L2
namespace L2
open PySem PySem.Spec PyProof.Rows
structure Mod (K:PySem.W.Frag) (mg:Str->Option Value) (base:Heap):Prop where
 kin:K.In base
 glob:base.Ns mainGlobals mg
 blt:∃ mb,base.Ns builtinsNs mb/\∀ x:Str,x ≠ "__name__"->mb x=bootBuiltins x
 nolimit:base.NoLimit
structure Cx where
 prog:Program
 w:World
 K:PySem.W.Frag
 mg:Str->Option Value
 base:Heap
 A:Around
 N:List Str
 s₀:Shared
 H₀:Hp
 env:Env
 outer:List Env
 stack:List Env
 ex:List Addr
 fn:Str->Bool
 calm:Bool
 pn:List (Addr×Obj)
 xe:Value->Shared->Prop
def frs (l:List Env):List Addr:=l.filterMap (·.frame)
abbrev Cx.fs (X:Cx):List Addr:=frs X.outer
def Vis (sc:Scope) (x:Str):Prop:=sc.names.lookup x=some .local\/sc.names.lookup x=some .cell\/sc.names.lookup x=some .free
def Loc (sc:Scope) (x:Str):Prop:=sc.names.lookup x=some .local\/sc.names.lookup x=some .cell
def Look (env:Env) (h:Heap) (m:Str->Option Value) (x:Str) (u:Value):Prop:=
 (env.kindOf x=some .local/\m x=some u)\/((env.kindOf x=some .cell\/env.kindOf x=some .free)/\∃ c,env.cells.lookup x=some c/\h.IsCell c (some u))
structure Cx.Ok (X:Cx):Prop where
 mod:Mod X.K X.mg X.base
 kind:X.env.scope.kind= .function
 glob:X.env.globals=mainGlobals
 blt:X.env.builtins=builtinsNs
 above:X.s₀.heap.objs.size<=X.env.locals
 inj:∀ x y c,X.env.cells.lookup x=some c->X.env.cells.lookup y=some c->x=y
 has:∀ x,(X.env.kindOf x=some .cell\/X.env.kindOf x=some .free)->∃ c,X.env.cells.lookup x=some c
 cab:∀ x c,X.fn x=true->X.env.cells.lookup x=some c->X.s₀.heap.objs.size<=c
 hd:X.calm=true->X.A.handled=none
 frames:X.A.frames=some X.stack
 stk:X.stack=X.outer\/(X.stack=X.env :: X.outer/\X.env.frame=some X.env.locals)
 exf:∀ b∈X.ex,b ≠ X.env.locals/\∀ x c,X.env.cells.lookup x=some c->c ≠ b
 bs:∀ b o,X.base.get? b=some o->X.s₀.heap.get? b=some o/\X.H₀ b=none
 bsz:X.base.objs.size<=X.s₀.heap.objs.size
 noex:∀ b o,X.base.get? b=some o->b ∉ X.ex
 exfs:∀ b∈X.ex,b ∉ X.fs
 funs:X.s₀.heap.FunFrames X.base X.outer
 frf:∀ b∈X.fs,X.H₀ b=none
structure Inv (X:Cx) (pins:List (Addr×Obj)) (σ:List (Option V)) (H:Hp) (s:Shared):Prop where
 ok:X.Ok
 os:s.os=X.s₀.os
 bare:AllBare s.gens
 base:Un X.fs X.ex X.H₀ H X.s₀.heap s.heap
 loc:∃ m,s.heap.Ns X.env.locals m/\∀ (i:Nat) (x:Str) (v:V),X.N[i]? =some x->σ[i]? =some (some v)->Vis X.env.scope x->∃ u,ZJ v u/\Look X.env s.heap m x u
 cell:∀ x c,X.env.cells.lookup x=some c->∃ v,s.heap.IsCell c v
 free:H X.env.locals=none
 freeC:∀ x c,X.env.cells.lookup x=some c->H c=none
 pin:∀ p∈X.pn++pins,s.heap.get? p.1=some p.2/\H p.1=none/\p.1 ≠ X.env.locals/\p.1 ∉ X.fs/\∀ v,p.2.data ≠ .cell v
 hok:HOk X.prog X.w H s.heap
 len:σ.length=X.N.length
section
variable {X:Cx} {pins:List (Addr×Obj)} {σ:List (Option V)} {H H' :Hp} {s:Shared} {h' :Heap}
theorem Cx.Ok.nofr (ok:X.Ok) {b:Addr} {o:Obj} (e:X.base.get? b=some o):b ∉ X.fs:=λhb=>by
 have:=(ok.funs.mem hb).1;rw [e] at this; cases this
theorem Inv.bs (I:Inv X pins σ H s):∀ b o,X.base.get? b=some o->s.heap.get? b=some o/\H b=none:=λb o e=>
 ⟨I.base.keep b o (I.ok.bs b o e).1 (I.ok.bs b o e).2 (I.ok.nofr e) (I.ok.noex b o e),I.base.free b o (I.ok.bs b o e).1 (I.ok.bs b o e).2 (I.ok.noex b o e)⟩
theorem Inv.bk (I:Inv X pins σ H s):∀ b o,X.base.get? b=some o->s.heap.get? b=some o:=λb o e=>(I.bs b o e).1
theorem Inv.mod (I:Inv X pins σ H s):Mod X.K X.mg X.base:=I.ok.mod
theorem Inv.kIn (I:Inv X pins σ H s):X.K.In s.heap:=I.ok.mod.kin.keeps I.bk
theorem Inv.lt (I:Inv X pins σ H s):X.env.locals < s.heap.objs.size:=let ⟨_,hn,_⟩:=I.loc; hn.lt
theorem Inv.sz (I:Inv X pins σ H s):X.s₀.heap.objs.size<=s.heap.objs.size:=Nat.le_trans I.ok.above (Nat.le_of_lt I.lt)
theorem Inv.nofs (I:Inv X pins σ H s) {a:Addr} (h:s.heap.objs.size<=a):a ∉ X.fs:=λhb=>by
 obtain ⟨_,o,ho,_⟩:=I.ok.funs.mem hb;exact absurd (Nat.lt_of_lt_of_le (Heap.lt_size ho) (Nat.le_trans I.sz h)) (Nat.lt_irrefl _)
theorem Inv.cne (I:Inv X pins σ H s):∀ x c,X.env.cells.lookup x=some c->c ≠ X.env.locals:=λx c e z=>by
 obtain ⟨v,o,ho,hd⟩:=I.cell x c e;obtain ⟨m,⟨o',es,ep,ho',hd',_⟩,_⟩:=I.loc;rw [z,ho'] at ho; cases ho; rw [hd'] at hd; cases hd
theorem Inv.funs (I:Inv X pins σ H s):s.heap.FunFrames X.base X.outer:=by
 have all:∀ (l:List Env),(∀ b∈frs l,b∈X.fs)->X.s₀.heap.FunFrames X.base l->s.heap.FunFrames X.base l:=by
  intro l
  induction l with
  | nil=>intro _ _; trivial
  | cons env r ih=>
   intro hs hl;obtain ⟨hk,⟨L,o,hf,hn,ho,hd⟩,hr⟩:=hl;have hL:L∈X.fs:=hs L (by unfold frs; rw [List.filterMap_cons,hf]; exact List.mem_cons_self)
   obtain ⟨sl,e⟩:=I.base.slot L o ho (I.ok.frf L hL) hL λz=>I.ok.exfs L z hL;exact ⟨hk,⟨L,_,hf,hn,e,hd⟩,ih (λb hb=>hs b (by unfold frs; rw [List.filterMap_cons,hf]; exact List.mem_cons_of_mem _ hb)) hr⟩
 exact all X.outer (λ_ hb=>hb) I.ok.funs
theorem Inv.stack (I:Inv X pins σ H s):s.heap.FunFrames X.base X.stack:=by
 rcases I.ok.stk with e | ⟨e,hf⟩
 ·rw [e]; exact I.funs
 ·rw [e];obtain ⟨m,hn,_⟩:=I.loc;refine .cons (by rw [I.ok.kind]; decide) hf hn ?_ I.funs
  exact Heap.get?_none_of_le (Nat.le_trans I.ok.bsz I.ok.above)
theorem Inv.stkSub (I:Inv X pins σ H s):∀ b∈frs X.stack,b∈X.env.locals :: X.fs:=λb hb=>by
 rcases I.ok.stk with e | ⟨e,hf⟩
 ·rw [e] at hb; exact List.mem_cons_of_mem _ hb
 ·rw [e] at hb;unfold frs at hb;rw [List.filterMap_cons,hf] at hb;exact hb
theorem Inv.stkFree (I:Inv X pins σ H s):∀ b∈frs X.stack,H b=none:=λb hb=>by
 rcases List.mem_cons.mp (I.stkSub b hb) with e | hb
 ·rw [e]; exact I.free
 ·obtain ⟨_,o,ho,_⟩:=I.ok.funs.mem hb;exact I.base.free b o ho (I.ok.frf b hb) λz=>I.ok.exfs b z hb
theorem Inv.step {g' :Array GenState} {t' :Nat} {d' :Drawn} {ch:List Addr} (I:Inv X pins σ H s)
  (hch:∀ b∈ch,(b∈X.ex\/X.s₀.heap.objs.size<=b)/\b ≠ X.env.locals/\(∀ x c,X.env.cells.lookup x=some c->c ≠ b)/\∀ p∈X.pn++pins,p.1 ≠ b)
  (keep:∀ b o,b ≠ X.env.locals->b ∉ X.fs->b ∉ ch->s.heap.get? b=some o->H b=none->h'.get? b=some o)
  (slot:∀ b o,b ≠ X.env.locals->b∈X.fs->b ∉ ch->s.heap.get? b=some o->H b=none->∃ sl,h'.get? b=some { o with slots:=sl }) (free:∀ b o,b ∉ ch->s.heap.get? b=some o->H b=none->H' b=none)
  (there:∀ b o,b ∉ ch->s.heap.get? b=some o->∃ o',h'.get? b=some o')
  (tups:∀ b xs,H b=some (.tup xs)->H' b=some (.tup xs)) (frzs:∀ b o u,H b=some (.frz o u)->H' b=some (.frz o u)) (tbls:∀ b ps,H b=some (.tbl ps)->∃ more,H' b=some (.tbl (ps++more)))
  (ns:∀ m,s.heap.Ns X.env.locals m->h'.Ns X.env.locals m) (hok:HOk X.prog X.w H' h') (hg:AllBare g'):
  Inv X pins σ H' { s with heap:=h',gens:=g',drawn:=d',toks:=t' }:=by
 have neL:∀ b o,X.s₀.heap.get? b=some o->b ≠ X.env.locals:=λb o e=>Nat.ne_of_lt (Nat.lt_of_lt_of_le (Heap.lt_size e) I.ok.above);have neC:∀ b o,X.s₀.heap.get? b=some o->b ∉ X.ex->b ∉ ch:=λb o e hx hb=>by
  rcases (hch b hb).1 with z | z
  ·exact hx z
  ·exact absurd (Nat.lt_of_lt_of_le (Heap.lt_size e) z) (Nat.lt_irrefl _)
 have cellK:∀ x c,X.env.cells.lookup x=some c->∀ v,s.heap.IsCell c v->h'.IsCell c v:=λx c e v ⟨o,ho,hd⟩=>by
  have nch:c ∉ ch:=λz=>(hch c z).2.2.1 x c e rfl
  by_cases hc:c∈X.fs
  ·obtain ⟨sl,q⟩:=slot c o (I.cne x c e) hc nch ho (I.freeC x c e);exact ⟨_,q,hd⟩
  ·exact ⟨o,keep c o (I.cne x c e) hc nch ho (I.freeC x c e),hd⟩
 refine ⟨I.ok,I.os,hg,⟨λb o e n hb hx=> ?_,λb o e n hb hx=> ?_,λb o e n hx=> ?_,λb o e hx=> ?_,λb xs e=>tups b xs (I.base.tups b xs e),λb o xs e=>frzs b o xs (I.base.frzs b o xs e),λb ps e=> ?_⟩, ?_,λx c e=> ?_, ?_,λx c e=> ?_,λp hp=> ?_,hok,I.len⟩
 ·exact keep b o (neL b o e) hb (neC b o e hx) (I.base.keep b o e n hb hx) (I.base.free b o e n hx)
 ·obtain ⟨sl,e1⟩:=I.base.slot b o e n hb hx;obtain ⟨sl',e2⟩:=slot b _ (neL b o e) hb (neC b o e hx) e1 (I.base.free b o e n hx);exact ⟨sl',e2⟩
 ·obtain ⟨o',e1⟩:=I.base.there b o e hx;exact free b o' (neC b o e hx) e1 (I.base.free b o e n hx)
 ·obtain ⟨o',e1⟩:=I.base.there b o e hx;exact there b o' (neC b o e hx) e1
 ·obtain ⟨m1,e1⟩:=I.base.tbls b ps e;obtain ⟨m2,e2⟩:=tbls b _ e1;exact ⟨m1++m2,by rw [e2,Array.append_assoc]⟩
 ·obtain ⟨m,hn,hl⟩:=I.loc;refine ⟨m,ns m hn,λi x v e1 e2 e3=> ?_⟩;obtain ⟨u,r,l⟩:=hl i x v e1 e2 e3;refine ⟨u,r, ?_⟩;rcases l with l | ⟨k,c,e,z⟩
  ·exact .inl l
  ·exact .inr ⟨k,c,e,cellK x c e _ z⟩
 ·obtain ⟨v,z⟩:=I.cell x c e;exact ⟨v,cellK x c e v z⟩
 ·obtain ⟨m,⟨o,_,_,ho,_⟩,_⟩:=I.loc;exact free _ o (λz=>(hch _ z).2.1 rfl) ho I.free
 ·obtain ⟨v,o,ho,hd⟩:=I.cell x c e;exact free c o (λz=>(hch c z).2.2.1 x c e rfl) ho (I.freeC x c e)
 ·obtain ⟨e,n,ne,nf,d⟩:=I.pin p hp;have nch:p.1 ∉ ch:=λz=>(hch p.1 z).2.2.2 p hp rfl;exact ⟨keep p.1 p.2 ne nf nch e n,free p.1 p.2 nch e n,ne,nf,d⟩
theorem Inv.un {t' :Nat} (I:Inv X pins σ H s) (u:Un X.fs [] H H' s.heap h') (hok:HOk X.prog X.w H' h'):Inv X pins σ H' { s with heap:=h',toks:=t' }:=by
 obtain ⟨m,⟨o,es,ep,ho,r⟩,_⟩:=id I.loc;obtain ⟨sl,hL⟩:=u.any ho I.free (by simp)
 exact I.step (g' :=s.gens) (d' :=s.drawn) (ch:=[]) (λ_ z=>nomatch z) (λb o _ hb _ e n=>u.keep b o e n hb (by simp)) (λb o _ hb _ e n=>u.slot b o e n hb (by simp)) (λb o _ e n=>u.free b o e n (by simp)) (λb o _ e=>u.there b o e (by simp)) u.tups u.frzs u.tbls (λm' hm=>by
  obtain ⟨o',es',ep',ho',r'⟩:=hm;rw [ho] at ho'; cases ho';exact ⟨_,es',ep',hL,r'⟩) hok I.bare
theorem Inv.call {g' :Array GenState} {t' :Nat} {d' :Drawn} {ch:List Addr} (I:Inv X pins σ H s) (u:Un (frs X.stack) ch H H' s.heap h') (hok:HOk X.prog X.w H' h') (hg:AllBare g')
  (hch:∀ b∈ch,(b∈X.ex\/X.s₀.heap.objs.size<=b)/\b ≠ X.env.locals/\(∀ x c,X.env.cells.lookup x=some c->c ≠ b)/\∀ p∈X.pn++pins,p.1 ≠ b):
  Inv X pins σ H' { s with heap:=h',gens:=g',drawn:=d',toks:=t' }:=by
 obtain ⟨m,⟨o,es,ep,ho,r⟩,_⟩:=id I.loc;obtain ⟨sl,hL⟩:=u.any ho I.free λz=>(hch _ z).2.1 rfl;exact I.step (ch:=ch) hch (λb o hL hb hc e n=>u.keep b o e n (λz=>(List.mem_cons.mp (I.stkSub b z)).elim hL hb) hc) (λb o _ _ hc e n=>u.any e n hc) (λb o hc e n=>u.free b o e n hc) (λb o hc e=>u.there b o e hc) u.tups u.frzs u.tbls (λm' hm=>by
  obtain ⟨o',es',ep',ho',r'⟩:=hm;rw [ho] at ho'; cases ho';exact ⟨_,es',ep',hL,r'⟩) hok hg
theorem Inv.turned {t' :Nat} {it:Addr} (I:Inv X pins σ H s) (k:∀ b o,b ≠ it->s.heap.get? b=some o->h'.get? b=some o) (hn:H it=none) (hL:it ≠ X.env.locals)
  (h1:it∈X.ex\/X.s₀.heap.objs.size<=it) (h2:∀ x c,X.env.cells.lookup x=some c->c ≠ it) (h3:∀ p∈X.pn++pins,p.1 ≠ it):Inv X pins σ H { s with heap:=h',toks:=t' }:=by
 have nit:∀ b u,H b=some u->b ≠ it:=λb u e z=>by rw [z,hn] at e; cases e
 refine I.step (g' :=s.gens) (d' :=s.drawn) (ch:=[it]) (λb hb=> ?_) (λb o _ _ hc e _=>k b o (λz=>hc (by simp [z])) e) (λb o _ _ hc e _=>⟨o.slots,k b o (λz=>hc (by simp [z])) e⟩) (λ_ _ _ _ n=>n)
  (λb o hc e=>⟨o,k b o (λz=>hc (by simp [z])) e⟩) (λ_ _ e=>e) (λ_ _ _ e=>e) (λb ps e=>⟨#[],by rw [e]; simp⟩) (λm hm=> ?_) (λb u e=> ?_) I.bare
 ·have e:b=it:=by simpa using hb
  subst e;exact ⟨h1,hL,h2,h3⟩
 ·obtain ⟨o,es,ep,ho,r⟩:=hm;exact ⟨o,es,ep,k _ o (Ne.symm hL) ho,r⟩
 ·refine (I.hok b u e).stay (λc v hc q=>k c v ?_ q) (λ_ q=>q) λ_ _ q=>q;rcases hc with z | z
  ·rw [z]; exact nit b u e
  ·exact nit c _ z
theorem Inv.tok (I:Inv X pins σ H s) (t:Nat):Inv X pins σ H { s with toks:=t }:=I.un (h' :=s.heap) (t' :=t) Un.refl I.hok
theorem Inv.kept {t' :Nat} (I:Inv X pins σ H s) (k:∀ b u,s.heap.get? b=some u->h'.get? b=some u):Inv X pins σ H { s with heap:=h',toks:=t' }:=I.un (Un.kept k) (I.hok.kept k)
theorem Inv.laid {a:Addr} {o:HO} {t' :Nat} (I:Inv X pins σ H s) (k:∀ b u,s.heap.get? b=some u->h'.get? b=some u) (hp:s.heap.objs.size<=a) (new:ZD X.prog X.w (upd H a o) h' a o):
  Inv X pins σ (upd H a o) { s with heap:=h',toks:=t' }:=I.un (Un.laid k hp (I.hok.fresh hp)) (I.hok.laid k hp new)
theorem Inv.write {x e:Addr} {o:HO} {t' :Nat} (I:Inv X pins σ H s) (mu:Mut (H x)) (he:e=x\/H e=some (.own x)) (k:∀ b u,b ≠ e->s.heap.get? b=some u->h'.get? b=some u) (heo:∃ u,h'.get? e=some u)
  (new:ZD X.prog X.w (upd H x o) h' x o):Inv X pins σ (upd H x o) { s with heap:=h',toks:=t' }:=I.un (Un.write mu he k heo) (I.hok.write mu he k heo new)
theorem Inv.pins_of {pins' :List (Addr×Obj)} (I:Inv X pins σ H s) (h:∀ p∈pins',s.heap.get? p.1=some p.2/\H p.1=none/\p.1 ≠ X.env.locals/\p.1 ∉ X.fs/\∀ v,p.2.data ≠ .cell v):Inv X pins' σ H s:=
 ⟨I.ok,I.os,I.bare,I.base,I.loc,I.cell,I.free,I.freeC,λp hp=>(List.mem_append.mp hp).elim (λz=>I.pin p (List.mem_append_left _ z)) (h p),I.hok,I.len⟩
theorem Wj {N:List Str} (hN:N.Nodup) {i j:Nat} {x:Str} (a:N[i]? =some x) (b:N[j]? =some x):i=j:=by
 obtain ⟨h1,e1⟩:=List.getElem?_eq_some_iff.mp a;obtain ⟨h2,e2⟩:=List.getElem?_eq_some_iff.mp b;exact (List.getElem_inj hN).mp (e1.trans e2.symm)
theorem WZ {M:Model} {A:Around} {E:Value->Shared->Prop} {i:Nat} {x:Str} {v:V} {u:Value} {Q:Unit->Shared->Prop} (I:Inv X pins σ H s) (hN:X.N.Nodup) (hi:X.N[i]? =some x) (hx:Loc X.env.scope x) (r:ZJ v u)
  (h:∀ s',Inv X pins (σ.set i (some v)) H s' ->(∃ a,Heap.SameBut a s.heap s'.heap/\(a=X.env.locals\/X.env.cells.lookup x=some a))->Q () s') (hf:X.fn x=true\/X.env.scope.names.lookup x=some .local:=by first | exact .inl rfl | exact .inr rfl | assumption):wpAny M A (storeName X.env x u) Q E s:=by
 obtain ⟨m,hn,hl⟩:=id I.loc;have hcls:(X.env.scope.kind == .class || (X.env.scope.kind == .module && X.env.locals != X.env.globals))=false:=by rw [I.ok.kind]; rfl
 have hiσ:i < σ.length:=by rw [I.len]; exact (List.getElem?_eq_some_iff.mp hi).1
 have cne:=I.cne;have tracked:∀ {a:Addr} {h' :Heap},(∃ o,s.heap.get? a=some o/\H a=none)->Heap.SameBut a s.heap h' ->HOk X.prog X.w H h' :=λ{a h'} ha hs b ob e=>by
  obtain ⟨_,_,hfree⟩:=ha;refine (I.hok b ob e).stay (λc w' hc q=>(hs.2 c ?_).trans q) (λ_ q=>q) λ_ _ q=>q
  rintro rfl
  rcases hc with rfl | hc
  ·rw [hfree] at e; cases e
  ·rw [hfree] at hc; cases hc
 rcases hx with hk | hk
 ·refine wpAny_storeName_local hk hn (λh' hn' hs=> ?_) hcls;obtain ⟨oL,_,_,hoL,_⟩:=id hn;refine h _ ⟨I.ok,I.os,I.bare,⟨λb o e n hb hx=> ?_,λb o e n hb hx=> ?_,I.base.free,λb o e hx=> ?_,I.base.tups,I.base.frzs,I.base.tbls⟩,⟨_,hn',λj y v' e1 e2 e3=> ?_⟩,λy c e=> ?_,I.free,I.freeC,λp hp=> ?_,tracked ⟨oL,hoL,I.free⟩ hs,by simpa using I.len⟩ ⟨_,hs, .inl rfl⟩
  ·exact (hs.2 b (Nat.ne_of_lt (Nat.lt_of_lt_of_le (Heap.lt_size e) I.ok.above))).trans (I.base.keep b o e n hb hx)
  ·obtain ⟨sl,e1⟩:=I.base.slot b o e n hb hx;exact ⟨sl,(hs.2 b (Nat.ne_of_lt (Nat.lt_of_lt_of_le (Heap.lt_size e) I.ok.above))).trans e1⟩
  ·obtain ⟨o',e1⟩:=I.base.there b o e hx;exact ⟨o',(hs.2 b (Nat.ne_of_lt (Nat.lt_of_lt_of_le (Heap.lt_size e) I.ok.above))).trans e1⟩
  ·by_cases hj:j=i
   ·subst hj;rw [hi] at e1; cases e1;rw [List.getElem?_set_self hiσ] at e2;cases e2;exact ⟨u,r, .inl ⟨hk,by simp⟩⟩
   ·rw [List.getElem?_set_ne (Ne.symm hj)] at e2;obtain ⟨u',r',q⟩:=hl j y v' e1 e2 e3;refine ⟨u',r', ?_⟩;rcases q with ⟨k,e⟩ | ⟨k,c,e,z⟩
    ·refine .inl ⟨k, ?_⟩;have:y ≠ x:=λe=>hj (Wj hN e1 (e ▸ hi));simp [this,e]
    ·exact .inr ⟨k,c,e,z.sameBut hs (cne y c e)⟩
  ·obtain ⟨w',z⟩:=I.cell y c e;exact ⟨w',z.sameBut hs (cne y c e)⟩
  ·obtain ⟨e,n,ne,nf,d⟩:=I.pin p hp;exact ⟨(hs.2 p.1 ne).trans e,n,ne,nf,d⟩
 ·have hfn:X.fn x=true:=by
   rcases hf with z | z
   ·exact z
   ·rw [z] at hk; cases hk
  obtain ⟨c,hc⟩:=I.ok.has x (.inl hk);obtain ⟨w',z⟩:=I.cell x c hc;refine wpAny_storeName_cell I.ok.kind hk hc z (λh' hc' hs=> ?_);obtain ⟨oc,hoc,hocd⟩:=id z;refine h { s with heap:=h' } ⟨I.ok,I.os,I.bare,⟨λb o e n hb hx=> ?_,λb o e n hb hx=> ?_,I.base.free,λb o e hx=> ?_,I.base.tups,I.base.frzs,I.base.tbls⟩,⟨m,hn.sameBut hs (Ne.symm (cne x c hc)),λj y v' e1 e2 e3=> ?_⟩,λy c' e=> ?_,I.free,I.freeC,λp hp=> ?_,tracked ⟨oc,hoc,I.freeC x c hc⟩ hs,by simpa using I.len⟩ ⟨c,hs, .inr hc⟩
  ·exact (hs.2 b (Nat.ne_of_lt (Nat.lt_of_lt_of_le (Heap.lt_size e) (I.ok.cab x c hfn hc)))).trans (I.base.keep b o e n hb hx)
  ·obtain ⟨sl,e1⟩:=I.base.slot b o e n hb hx;exact ⟨sl,(hs.2 b (Nat.ne_of_lt (Nat.lt_of_lt_of_le (Heap.lt_size e) (I.ok.cab x c hfn hc)))).trans e1⟩
  ·obtain ⟨o',e1⟩:=I.base.there b o e hx;exact ⟨o',(hs.2 b (Nat.ne_of_lt (Nat.lt_of_lt_of_le (Heap.lt_size e) (I.ok.cab x c hfn hc)))).trans e1⟩
  ·by_cases hj:j=i
   ·subst hj;rw [hi] at e1; cases e1;rw [List.getElem?_set_self hiσ] at e2;cases e2;exact ⟨u,r, .inr ⟨.inl hk,c,hc,hc'⟩⟩
   ·rw [List.getElem?_set_ne (Ne.symm hj)] at e2;obtain ⟨u',r',q⟩:=hl j y v' e1 e2 e3;refine ⟨u',r', ?_⟩;rcases q with q | ⟨k,c',e,z'⟩
    ·exact .inl q
    ·refine .inr ⟨k,c',e,z'.sameBut hs ?_⟩
     rintro rfl
     exact hj (Wj hN e1 (I.ok.inj _ _ _ e hc ▸ hi))
  ·by_cases hcc:c' =c
   ·subst hcc; exact ⟨_,hc'⟩
   ·obtain ⟨w2,z2⟩:=I.cell y c' e;exact ⟨w2,z2.sameBut hs hcc⟩
  ·obtain ⟨e,n,ne,nf,d⟩:=I.pin p hp;refine ⟨(hs.2 p.1 ?_).trans e,n,ne,nf,d⟩;intro q;rw [q,hoc] at e;have q' :oc=p.2:=Option.some.inj e;exact d w' (by rw [← q']; exact hocd)
theorem Jh {M:Model} {A:Around} {E:Value->Shared->Prop} {i:Nat} {x:Str} {v:V} {u:Value} {Q:Unit->Shared->Prop} (I:Inv X pins σ H s) (hN:X.N.Nodup) (hi:X.N[i]? =some x) (hx:Loc X.env.scope x) (r:ZJ v u)
  (h:∀ s',Inv X pins (σ.set i (some v)) H s' ->Q () s') (hf:X.fn x=true\/X.env.scope.names.lookup x=some .local:=by first | exact .inl rfl | exact .inr rfl | assumption):wpAny M A (storeName X.env x u) Q E s:=
 WZ I hN hi hx r (λs' I' _=>h s' I') hf
theorem Inv.call' {s' :Shared} {ch:List Addr} (I:Inv X pins σ H s) (ho:s'.os=s.os) (u:Un (frs X.stack) ch H H' s.heap s'.heap) (hok:HOk X.prog X.w H' s'.heap) (hg:AllBare s'.gens)
  (hch:∀ b∈ch,(b∈X.ex\/X.s₀.heap.objs.size<=b)/\b ≠ X.env.locals/\(∀ x c,X.env.cells.lookup x=some c->c ≠ b)/\∀ p∈X.pn++pins,p.1 ≠ b):Inv X pins σ H' s' :=by
 obtain ⟨h',g',d',t',o'⟩:=s';have e:o' =s.os:=ho;subst e;exact I.call (g' :=g') (t' :=t') (d' :=d') u hok hg hch
end
abbrev XK:=Value->Option Addr->Hp->Prop
abbrev St:=List (Option V)
abbrev VK:=V->Hp->Prop
abbrev TE:=St->Hp->VK->Prop
abbrev TT:=St->Hp->(Bool->Hp->Prop)->Prop
abbrev TA:=St->Hp->(List V->Hp->Prop)->Prop
structure Qm where
 nx:St->Hp->Prop
 rt:VK
 bk:St->Hp->Prop:=λ_ _=>False
 ct:St->Hp->Prop:=λ_ _=>False
abbrev TS:=Qm->St->Hp->Prop
def EP (X:Cx) (pins:List (Addr×Obj)) (σ:St) (Q:VK) (u:Value) (s' :Shared):Prop:=∃ v H',Inv X pins σ H' s' /\ZJ v u/\Q v H'
def TP (X:Cx) (pins:List (Addr×Obj)) (σ:St) (Q:Bool->Hp->Prop) (b:Bool) (s' :Shared):Prop:=∃ H',Inv X pins σ H' s' /\Q b H'
def AP (X:Cx) (pins:List (Addr×Obj)) (σ:St) (Q:List V->Hp->Prop) (us:List Value) (s' :Shared):Prop:=∃ vs H',Inv X pins σ H' s' /\Zy vs us/\Q vs H'
def SP (X:Cx) (pins:List (Addr×Obj)) (D:Qm) (f:Flow) (s' :Shared):Prop:=
 match f with
 | .next=>∃ σ' H',Inv X pins σ' H' s' /\D.nx σ' H'
 | .brk=>∃ σ' H',Inv X pins σ' H' s' /\D.bk σ' H'
 | .cont=>∃ σ' H',Inv X pins σ' H' s' /\D.ct σ' H'
 | .ret u=>∃ v σ' H',Inv X pins σ' H' s' /\ZJ v u/\D.rt v H'
def PE (X:Cx) (e:Expr) (t:TE):Prop:=
 ∀ (pins:List (Addr×Obj)) (s:Shared) (σ:St) (H:Hp) (Q:VK),Inv X pins σ H s->t σ H Q->wpAny (model X.prog X.w) X.A (eval e X.env) (EP X pins σ Q) X.xe s
def PT (X:Cx) (e:Expr) (t:TT):Prop:=
 ∀ (pins:List (Addr×Obj)) (s:Shared) (σ:St) (H:Hp) (Q:Bool->Hp->Prop),Inv X pins σ H s->t σ H Q->wpAny (model X.prog X.w) X.A (isTrue e X.env (eval e X.env)) (TP X pins σ Q) X.xe s
def PW (X:Cx) (e:Expr) (t:TT):Prop:=
 ∀ (whole:Sem Value) (pins:List (Addr×Obj)) (s:Shared) (σ:St) (H:Hp) (Q:Bool->Hp->Prop),Inv X pins σ H s->t σ H Q->wpAny (model X.prog X.w) X.A (isTrue e X.env whole) (TP X pins σ Q) X.xe s
theorem PW.pt {X:Cx} {e:Expr} {t:TT} (h:PW X e t):PT X e t:=h _
def PA (X:Cx) (es:List Expr) (t:TA):Prop:=
 ∀ (pos:Pos) (pins:List (Addr×Obj)) (s:Shared) (σ:St) (H:Hp) (Q:List V->Hp->Prop),Inv X pins σ H s->t σ H Q->wpAny (model X.prog X.w) X.A (spliced (backTo pos (starEach es X.env))) (AP X pins σ Q) X.xe s
def PS (X:Cx) (st:Stmt) (t:TS):Prop:=
 ∀ (pins:List (Addr×Obj)) (s:Shared) (σ:St) (H:Hp) (D:Qm),Inv X pins σ H s->t D σ H->wpAny (model X.prog X.w) X.A (exec st X.env) (SP X pins D) X.xe s
def PSs (X:Cx) (st:List Stmt) (t:TS):Prop:=
 ∀ (pins:List (Addr×Obj)) (s:Shared) (σ:St) (H:Hp) (D:Qm),Inv X pins σ H s->t D σ H->wpAny (model X.prog X.w) X.A (execs st X.env) (SP X pins D) X.xe s
theorem thn {α:Type} {t:Sem α} {Q Q' :α->Shared->Prop} {M:Model} {A:Around} {E:Value->Shared->Prop} {s:Shared} (h:wpAny M A t Q E s) (hQ:∀ a s,Q a s->Q' a s):wpAny M A t Q' E s:=wpAny_mono h hQ λ_ _ x=>x
end L2
namespace L2
open PySem PySem.Spec PyProof.Rows
section
variable {X:Cx}
theorem bin {a b:Expr} {ta tb:TE} (ha:PE X a ta) (hb:PE X b tb) {pins:List (Addr×Obj)} {s:Shared} {σ:St} {H:Hp} {R:V->V->Hp->Prop} (I:Inv X pins σ H s) (h:ta σ H λx H1=>tb σ H1 λy H2=>R x y H2)
  {α:Type} {Q:α->Shared->Prop} {f:Value->Value->Sem α}
  (hf:∀ v u s2 x y H2,Inv X pins σ H2 s2->ZJ x v->ZJ y u->R x y H2->wpAny (model X.prog X.w) X.A (f v u) Q X.xe s2):
  wpAny (model X.prog X.w) X.A (eval a X.env) (λv s₁=>wpAny (model X.prog X.w) X.A (eval b X.env) (λu s₂=>wpAny (model X.prog X.w) X.A (f v u) Q X.xe s₂) X.xe s₁) X.xe s:=by
 refine thn (ha pins s σ H _ I h) λv s1 ⟨x,H1,I1,r1,q1⟩=> ?_;refine thn (hb pins s1 σ H1 _ I1 q1) λu s2 ⟨y,H2,I2,r2,q2⟩=> ?_;exact hf v u s2 x y H2 I2 r1 r2 q2
def yX (i:Nat):TE:=λσ H Q=>∃ v,σ[i]? =some (some v)/\Q v H
def tC (v:V):TE:=λ_ H Q=>Q v H
theorem vF {i:Nat} {x:Str} {pos:Pos} (hN:X.N[i]? =some x) (hv:Vis X.env.scope x) (hd:(x == ("__debug__":Str))=false:=by decide) (hcd:(x == ("__classdict__":Str))=false:=by decide):PE X (.Name x pos) (yX i):=by
 intro pins s σ H Q I h;obtain ⟨v,e,h⟩:=h;obtain ⟨m,hn,hl⟩:=I.loc;obtain ⟨u,r,l⟩:=hl i x v hN e hv;have fin:EP X pins σ Q u s:=⟨v,H,I,r,h⟩;rcases l with ⟨hk,hm⟩ | ⟨hk,c,hc,hcell⟩
 ·exact wpAny_Name (wpAny_loadName_local I.ok.kind hk hn hm fin) hd
 ·rcases hk with hk | hk
  ·exact wpAny_Name (wpAny_loadName_cell I.ok.kind hk hc hcell fin) hd
  ·exact wpAny_Name (wpAny_loadName_free I.ok.kind hk hc hcell fin hcd) hd
theorem XS {i j pos}:PE X (.Constant (.int i) j pos) (tC (.int i)):=λ_ _ _ H _ I h=>wpAny_Constant_int ⟨.int i,H,I.tok _,⟨_,rfl⟩,h⟩
theorem gM {b j pos}:PE X (.Constant (.bool b) j pos) (tC (.bl b)):=λ_ _ _ H _ I h=>Constant_bool ⟨.bl b,H,I,rfl,h⟩
theorem vG {j pos}:PE X (.Constant .none j pos) (tC .non):=λ_ _ _ H _ I h=>Constant_none ⟨.non,H,I,rfl,h⟩
theorem vH {x j pos}:PE X (.Constant (.str x) j pos) (tC (.str x)):=λ_ _ _ H _ I h=>Calls.Constant_str ⟨.str x,H,I.tok _,⟨_,rfl⟩,h⟩
def Gl (X:Cx) (x:Str):Prop:=X.env.kindOf x=some .globalImplicit
theorem Wk {E:Value->Shared->Prop} {pins:List (Addr×Obj)} {s:Shared} {σ:St} {H:Hp} {x:Str} {u:Value} {pos:Pos} {Q:Value->Shared->Prop} (I:Inv X pins σ H s) (hg:Gl X x) (hm:X.mg x=some u) (h:Q u s)
  (hd:(x == ("__debug__":Str))=false:=by decide):wpAny (model X.prog X.w) X.A (eval (.Name x pos) X.env) Q E s:=
 Calls.Name_function_global I.ok.kind hg (Calls.loadGlobal_global (by rw [I.ok.glob]; exact I.mod.glob.keeps I.bk) hm h) hd
theorem Ji {E:Value->Shared->Prop} {pins:List (Addr×Obj)} {s:Shared} {σ:St} {H:Hp} {x:Str} {u:Value} {pos:Pos} {Q:Value->Shared->Prop} (I:Inv X pins σ H s) (hg:Gl X x) (hm:X.mg x=none) (hv:bootBuiltins x=some u) (h:Q u s)
  (hn:x ≠ "__name__":=by decide) (hd:(x == ("__debug__":Str))=false:=by decide):wpAny (model X.prog X.w) X.A (eval (.Name x pos) X.env) Q E s:=by
 obtain ⟨mb,h1,h2⟩:=I.mod.blt;exact Calls.Name_function_global I.ok.kind hg (Calls.loadGlobal_builtin (by rw [I.ok.glob]; exact I.mod.glob.keeps I.bk) hm (by rw [I.ok.blt]; exact h1.keeps I.bk) ((h2 x hn).trans hv) h) hd
theorem yY {x:Str} {v:V} {u:Value} {pos:Pos} (hg:Gl X x) (hm:X.mg x=some u) (r:ZJ v u) (hd:(x == ("__debug__":Str))=false:=by decide):PE X (.Name x pos) (tC v):=
 λ_ _ _ H _ I h=>Wk I hg hm ⟨v,H,I,r,h⟩ hd
theorem yZ {x:Str} {v:V} {u:Value} {pos:Pos} (hg:Gl X x) (hm:X.mg x=none) (hv:bootBuiltins x=some u) (r:ZJ v u) (hn:x ≠ "__name__":=by decide) (hd:(x == ("__debug__":Str))=false:=by decide):PE X (.Name x pos) (tC v):=
 λ_ _ _ H _ I h=>Ji I hg hm hv ⟨v,H,I,r,h⟩ hn hd
variable {a b:Expr} {ta tb:TE} {pos:Pos}
variable {tA tB' :TT} {rest:List Expr}
def tAnd (t u:TT):TT:=λσ H Q=>t σ H λc H1=>if c=true then u σ H1 Q else Q false H1
def tOr (t u:TT):TT:=λσ H Q=>t σ H λc H1=>if c=true then Q true H1 else u σ H1 Q
def tNot (t:TT):TT:=λσ H Q=>t σ H λc H1=>Q (!c) H1
theorem Vs (ha:PT X a tA):PW X (.BoolOp .And [a] pos) tA:=by
 intro wh pins s σ H Q I h;refine isTrue_and (thn (ha pins s σ H Q I h) λc s1 e=> ?_);cases c with
 | true=>exact isTrue_and_nil e
 | false=>exact e
theorem XT (ha:PT X a tA):PW X (.BoolOp .Or [a] pos) tA:=by
 intro wh pins s σ H Q I h;refine isTrue_or (thn (ha pins s σ H Q I h) λc s1 e=> ?_);cases c with
 | false=>exact isTrue_or_nil e
 | true=>exact e
theorem XU (ha:PT X a tA) (hb:PW X (.BoolOp .And (b :: rest) pos) tB'):PW X (.BoolOp .And (a :: b :: rest) pos) (tAnd tA tB'):=by
 intro wh pins s σ H Q I h;refine isTrue_and (thn (ha pins s σ H _ I h) λc s1 ⟨H1,I1,q1⟩=> ?_);cases c with
 | true=>exact hb wh pins s1 σ H1 Q I1 q1
 | false=>exact ⟨H1,I1,q1⟩
theorem gN (ha:PT X a tA) (hb:PW X (.BoolOp .Or (b :: rest) pos) tB'):PW X (.BoolOp .Or (a :: b :: rest) pos) (tOr tA tB'):=by
 intro wh pins s σ H Q I h;refine isTrue_or (thn (ha pins s σ H _ I h) λc s1 ⟨H1,I1,q1⟩=> ?_);cases c with
 | true=>exact ⟨H1,I1,q1⟩
 | false=>exact hb wh pins s1 σ H1 Q I1 q1
theorem XV (ha:PT X a tA):PT X (.UnaryOp .Not a pos) (tNot tA):=by
 intro pins s σ H Q I h;exact isTrue_not (ha pins s σ H (λc H1=>Q (!c) H1) I h)
def gO (ta tb:TE):TE:=λσ H Q=>ta σ H λx H1=>∃ c,x= .bl c/\if c=true then tb σ H1 Q else Q (.bl false) H1
def tOrV (ta tb:TE):TE:=λσ H Q=>ta σ H λx H1=>∃ c,x= .bl c/\if c=true then Q (.bl true) H1 else tb σ H1 Q
def gP (ta:TE):TE:=λσ H Q=>ta σ H λx H1=>∃ c,x= .bl c/\Q (.bl (!c)) H1
theorem XW {op} {t:TE} (h:PE X a t):PE X (.BoolOp op [a] pos) t:=λpins s σ H Q I hw=>BoolOp_one (h pins s σ H Q I hw)
theorem XX (ha:PE X a ta) (hb:PE X (.BoolOp .And (b :: rest) pos) tb):PE X (.BoolOp .And (a :: b :: rest) pos) (gO ta tb):=by
 intro pins s σ H Q I h;refine BoolOp_and (thn (ha pins s σ H _ I h) λv s1 ⟨x,H1,I1,r1,q1⟩=> ?_);obtain ⟨c,rfl,q1⟩:=q1;cases r1;refine wpAny_truthy_bool ?_;cases c with
 | true=>exact hb pins s1 σ H1 Q I1 q1
 | false=>exact ⟨.bl false,H1,I1,rfl,q1⟩
theorem gQ (ha:PE X a ta) (hb:PE X (.BoolOp .Or (b :: rest) pos) tb):PE X (.BoolOp .Or (a :: b :: rest) pos) (tOrV ta tb):=by
 intro pins s σ H Q I h;refine BoolOp_or (thn (ha pins s σ H _ I h) λv s1 ⟨x,H1,I1,r1,q1⟩=> ?_);obtain ⟨c,rfl,q1⟩:=q1;cases r1;refine wpAny_truthy_bool ?_;cases c with
 | false=>exact hb pins s1 σ H1 Q I1 q1
 | true=>exact ⟨.bl true,H1,I1,rfl,q1⟩
theorem XY (ha:PE X a ta):PE X (.UnaryOp .Not a pos) (gP ta):=by
 intro pins s σ H Q I h;refine UnaryOp_ (thn (ha pins s σ H _ I h) λv s1 ⟨x,H1,I1,r1,q1⟩=> ?_);obtain ⟨c,rfl,q1⟩:=q1;cases r1;exact not_of (wpAny_truthy_bool ⟨.bl (!c),H1,I1,rfl,q1⟩)
def tIf (t:TT) (ta tb:TE):TE:=λσ H Q=>t σ H λc H1=>if c=true then ta σ H1 Q else tb σ H1 Q
theorem Qn {c:Expr} (hc:PT X c tA) (ha:PE X a ta) (hb:PE X b tb):PE X (.IfExp c a b pos) (tIf tA ta tb):=by
 intro pins s σ H Q I h;refine wpAny_IfExp (thn (hc pins s σ H _ I h) λd s1 ⟨H1,I1,q1⟩=> ?_);cases d with
 | true=>exact ha pins s1 σ H1 Q I1 q1
 | false=>exact hb pins s1 σ H1 Q I1 q1
end
end L2
namespace L2
open PySem PySem.Spec PyProof.Rows
def SqL (K:PySem.W.Frag) (H:Hp) (a:Addr) (xs:List V):Prop:=
 Rd H a (.lst xs)\/
  ∃ (o:Obj) (its:Array Value) (n:Nat),K.lookup a=some o/\o.cls= .type "list"/\o.dict=none/\o.data= .seq its n/\its.size<=sizeLine/\Zy xs its.toList
def SqT (K:PySem.W.Frag) (H:Hp) (a:Addr) (xs:List V):Prop:=
 Rd H a (.tup xs)\/
  ∃ (o:Obj) (its:Array Value) (n:Nat),K.lookup a=some o/\o.cls= .type "tuple"/\o.data= .seq its n/\its.size<=sizeLine/\Zy xs its.toList
def absV:Value->Option V
 | .none=>some .non
 | .bool b=>some (.bl b)
 | .int i _=>some (.int i)
 | .str x _=>some (.str x)
 | .bytes b _=>some (.byt b)
 | .float b _=>some (.flt b)
 | .ref a=>some (.ref a)
 | .type n=>some (.ty n)
 | _=>none
theorem ZJ.abs {x:V} {u:Value} (r:ZJ x u):absV u=some x:=by
 cases x with
 | non=>cases r; rfl
 | bl _=>cases r; rfl
 | int _=>obtain ⟨t,rfl⟩:=r; rfl
 | str _=>obtain ⟨t,rfl⟩:=r; rfl
 | byt _=>obtain ⟨t,rfl⟩:=r; rfl
 | flt _=>obtain ⟨t,rfl⟩:=r; rfl
 | ref _=>cases r; rfl
 | ty _=>cases r; rfl
theorem ZJ.inj {x y:V} {u:Value} (r:ZJ x u) (q:ZJ y u):x=y:=Option.some.inj (r.abs.symm.trans q.abs)
theorem Zy.inj:∀ {xs ys:List V} {us:List Value},Zy xs us->Zy ys us->xs=ys
 | _,_,_, .nil, .nil=>rfl
 | _,_,_, .cons r t, .cons r' t' =>by rw [r.inj r',Zy.inj t t']
section
variable {X:Cx} {pins:List (Addr×Obj)} {σ:St} {H:Hp} {s:Shared} {a:Addr} {xs ys:List V}
theorem SqL.of {K:PySem.W.Frag} (h:H a=some (.lst xs)):SqL K H a xs:= .inl (.inl h)
theorem SqT.of {K:PySem.W.Frag} (h:H a=some (.tup xs)):SqT K H a xs:= .inl (.inl h)
theorem Inv.list (I:Inv X pins σ H s) (h:SqL X.K H a xs):∃ its:List Value,Zy xs its/\PlainL s.heap a its.toArray/\xs.length<=sizeLine:=by
 rcases h with h | ⟨o,its,n,hk,hc,hd,hs,hz,r⟩
 ·obtain ⟨z,its,n,r,e⟩:=h.ok I.hok;exact ⟨its,r,⟨_,n,e,rfl,rfl,rfl⟩,z⟩
 ·refine ⟨its.toList,r,⟨o,n,I.kIn a o hk,hc,hd,by simpa using hs⟩, ?_⟩
  have e:=r.length;simp only [Array.length_toList] at e;omega
theorem Inv.tuple (I:Inv X pins σ H s) (h:SqT X.K H a xs):∃ its:List Value,Zy xs its/\IsTup s.heap a its.toArray/\xs.length<=sizeLine:=by
 rcases h with h | ⟨o,its,n,hk,hc,hs,hz,r⟩
 ·obtain ⟨z,its,r,p,_⟩:=h.ok I.hok;exact ⟨its,r,p,z⟩
 ·refine ⟨its.toList,r,⟨o,I.kIn a o hk,hc,n,by simpa using hs⟩, ?_⟩
  have e:=r.length;simp only [Array.length_toList] at e;omega
theorem Inv.list_inj (I:Inv X pins σ H s) (h:SqL X.K H a xs) (h' :SqL X.K H a ys):xs=ys:=by
 obtain ⟨its,r,⟨o,n,e,_,_,d⟩,_⟩:=I.list h;obtain ⟨its',r',⟨o',n',e',_,_,d'⟩,_⟩:=I.list h';rw [e] at e'; cases e';rw [d] at d';injection d' with d1 _;have:its=its' :=by simpa using congrArg Array.toList d1
 subst this;exact r.inj r'
theorem Inv.tuple_inj (I:Inv X pins σ H s) (h:SqT X.K H a xs) (h' :SqT X.K H a ys):xs=ys:=by
 obtain ⟨its,r,⟨o,e,_,n,d⟩,_⟩:=I.tuple h;obtain ⟨its',r',⟨o',e',_,n',d'⟩,_⟩:=I.tuple h';rw [e] at e'; cases e';rw [d] at d';injection d' with d1 _;have:its=its' :=by simpa using congrArg Array.toList d1
 subst this;exact r.inj r'
end
abbrev Cx.wish (X:Cx) (E:Value->Shared->Prop):Cx:={ X with xe:=E }
abbrev Cx.nox (X:Cx):Cx:=X.wish λ_ _=>False
theorem Cx.Ok.wish {X:Cx} (ok:X.Ok) (E:Value->Shared->Prop):(X.wish E).Ok:=
 ⟨ok.mod,ok.kind,ok.glob,ok.blt,ok.above,ok.inj,ok.has,ok.cab,ok.hd,ok.frames,ok.stk,ok.exf,ok.bs,ok.bsz,ok.noex,ok.exfs,ok.funs,ok.frf⟩
theorem Cx.Ok.unwish {X:Cx} {E:Value->Shared->Prop} (ok:(X.wish E).Ok):X.Ok:=
 ⟨ok.mod,ok.kind,ok.glob,ok.blt,ok.above,ok.inj,ok.has,ok.cab,ok.hd,ok.frames,ok.stk,ok.exf,ok.bs,ok.bsz,ok.noex,ok.exfs,ok.funs,ok.frf⟩
section
variable {X:Cx} {pins:List (Addr×Obj)} {σ:St} {H:Hp} {s:Shared} {E:Value->Shared->Prop}
theorem Inv.wish (I:Inv X pins σ H s) (E:Value->Shared->Prop):Inv (X.wish E) pins σ H s:=⟨I.ok.wish E,I.os,I.bare,I.base,I.loc,I.cell,I.free,I.freeC,I.pin,I.hok,I.len⟩
theorem Inv.unwish (I:Inv (X.wish E) pins σ H s):Inv X pins σ H s:=⟨I.ok.unwish,I.os,I.bare,I.base,I.loc,I.cell,I.free,I.freeC,I.pin,I.hok,I.len⟩
theorem SP.unwish {D:Qm} {f:Flow} {s' :Shared} (h:SP (X.wish E) pins D f s'):SP X pins D f s' :=by
 cases f with
 | next=>obtain ⟨σ',H',I,q⟩:=h; exact ⟨σ',H',I.unwish,q⟩
 | brk=>obtain ⟨σ',H',I,q⟩:=h; exact ⟨σ',H',I.unwish,q⟩
 | cont=>obtain ⟨σ',H',I,q⟩:=h; exact ⟨σ',H',I.unwish,q⟩
 | ret u=>obtain ⟨v,σ',H',I,r,q⟩:=h; exact ⟨v,σ',H',I.unwish,r,q⟩
theorem PSs.nox {st:List Stmt} {t:TS} (h:PSs X.nox st t):PSs X st t:=λpins s σ H D I hw=>
 wpAny_mono (h pins s σ H D (I.wish _) hw) (λ_ _ q=>q.unwish) λ_ _ z=>False.elim z
end
section
variable {X:Cx} {st:Stmt} {rest:List Stmt} {t u:TS} {e:Expr} {te:TE} {pos:Pos}
def gR:TS:=λD σ H=>D.nx σ H
def tSeq (t u:TS):TS:=λD σ H=>t { D with nx:=u D } σ H
theorem Vt:PSs X [] gR:=λ_ _ σ H _ I h=>wpAny_execs_nil ⟨σ,H,I,h⟩
theorem Qo (h1:PS X st t) (h2:PSs X rest u):PSs X (st :: rest) (tSeq t u):=by
 intro pins s σ H D I h;refine wpAny_execs_cons (thn (h1 pins s σ H { D with nx:=u D } I h) λf s1 q=> ?_);cases f with
 | next=>
  obtain ⟨σ',H',I',q⟩:=q;exact h2 pins s1 σ' H' D I' q
 | ret v=>exact q
 | brk=>exact q
 | cont=>exact q
theorem Y0 (h1:PS X st t):PSs X [st] t:=by
 intro pins s σ H D I h;refine wpAny_execs_cons (thn (h1 pins s σ H D I h) λf s1 q=> ?_);cases f with
 | next=>exact wpAny_execs_nil q
 | ret v=>exact q
 | brk=>exact q
 | cont=>exact q
theorem Inv.quiet {pins:List (Addr×Obj)} {σ:St} {H:Hp} {s:Shared} (I:Inv X pins σ H s):interactive X.env=false:=by simp [interactive,I.ok.kind]
def gS (te:TE):TS:=λD σ H=>te σ H λ_ H1=>D.nx σ H1
theorem uX (he:PE X e te) (hs:swapsWith e none pos.line X.env=pure false:=by rfl):PS X (.Expr e pos) (gS te):=by
 intro pins s σ H D I h;exact wpAny_Expr_any (thn (he pins s σ H _ I h) λv s1 ⟨x,H1,I1,r1,q1⟩=>⟨σ,H1,I1,q1⟩) I.quiet hs
def tRet (te:TE):TS:=λD σ H=>te σ H D.rt
theorem XZ (he:PE X e te):PS X (.Return (some e) pos) (tRet te):=by
 intro pins s σ H D I h;exact wpAny_Return_some (thn (he pins s σ H _ I h) λv s1 ⟨x,H1,I1,r1,q1⟩=>⟨x,σ,H1,I1,r1,q1⟩)
def tIfS (c:TT) (t u:TS):TS:=λD σ H=>c σ H λb H1=>if b=true then t D σ H1 else u D σ H1
theorem gT {c:Expr} {a b:List Stmt} {tc:TT} (hc:PT X c tc) (ha:PSs X a t) (hb:PSs X b u):PS X (.If c a b pos) (tIfS tc t u):=by
 intro pins s σ H D I h;refine wpAny_If (thn (hc pins s σ H _ I h) λd s1 ⟨H1,I1,q1⟩=> ?_);cases d with
 | true=>exact ha pins s1 σ H1 D I1 q1
 | false=>exact hb pins s1 σ H1 D I1 q1
end
abbrev TG:=V->St->Hp->(St->Hp->Prop)->Prop
abbrev TGs:=List V->St->Hp->(St->Hp->Prop)->Prop
def PG (X:Cx) (target:Expr) (t:TG):Prop:=
 ∀ (pins:List (Addr×Obj)) (s:Shared) (σ:St) (H:Hp) (v:V) (u:Value) (Q:St->Hp->Prop),Inv X pins σ H s->ZJ v u->t v σ H Q->
  wpAny (model X.prog X.w) X.A (assign target X.env u) (λ_ s' =>∃ σ' H',Inv X pins σ' H' s' /\Q σ' H') X.xe s
def PGs (X:Cx) (ts:List Expr) (t:TGs):Prop:=
 ∀ (pins:List (Addr×Obj)) (s:Shared) (σ:St) (H:Hp) (vs:List V) (us:List Value) (Q:St->Hp->Prop),Inv X pins σ H s->Zy vs us->t vs σ H Q->
  wpAny (model X.prog X.w) X.A (assignInOrder ((assignEach ts X.env).map (·.2)) us) (λ_ s' =>∃ σ' H',Inv X pins σ' H' s' /\Q σ' H') X.xe s
section
variable {X:Cx} {pos:Pos}
def u0 (i:Nat):TG:=λv σ H Q=>Q (σ.set i (some v)) H
theorem zK {i:Nat} {x:Str} (hN:X.N.Nodup) (hi:X.N[i]? =some x) (hx:Loc X.env.scope x) (hf:X.fn x=true\/X.env.scope.names.lookup x=some .local:=by first | exact .inl rfl | exact .inr rfl | assumption):PG X (.Name x pos) (u0 i):=by
 intro pins s σ H v u Q I r h;exact wpAny_assign_Name (Jh I hN hi hx r (λs' I' =>⟨_,H,I',h⟩) hf)
def gU:TGs:=λvs σ H Q=>vs=[]/\Q σ H
def Y1 (t:TG) (u:TGs):TGs:=λvs σ H Q=>∃ v r,vs=v :: r/\t v σ H λσ' H' =>u r σ' H' Q
theorem wn:PGs X [] gU:=by
 intro pins s σ H vs us Q I r h;obtain ⟨e,h⟩:=h;subst e;cases r;exact assignInOrder_nil ⟨σ,H,I,h⟩
theorem ZT {e:Expr} {es:List Expr} {t:TG} {u:TGs} (h1:PG X e t) (h2:PGs X es u)
  (hs:(assignEach (e :: es) X.env).map (·.2)=assign e X.env :: (assignEach es X.env).map (·.2):=by rfl):PGs X (e :: es) (Y1 t u):=by
 intro pins s σ H vs us Q I r h;obtain ⟨v,vr,e1,h⟩:=h;subst e1;cases r with
 | cons r rr=>
  rw [hs];refine assignInOrder_cons (thn (h1 pins s σ H _ _ _ I r h) λ_ s1 ⟨σ1,H1,I1,q1⟩=> ?_);exact h2 pins s1 σ1 H1 _ _ Q I1 rr q1
def gW (K:PySem.W.Frag) (n:Nat) (t:TGs):TG:=λv σ H Q=>∃ a xs,v= .ref a/\SqT K H a xs/\xs.length=n/\t xs σ H Q
theorem u4 {es:List Expr} {k:Nat} {t:TGs} {n:Nat} (hc:X.calm=true) (h:PGs X es t)
  (hn:(assignEach es X.env).length=n:=by rfl) (hst:(assignEach es X.env).findIdx? (·.1)=none:=by rfl):PG X (.Tuple es k pos) (gW X.K n t):=by
 intro pins s σ H v u Q I r hw;obtain ⟨a,xs,e1,hq,hl,hw⟩:=hw;subst e1;cases r;obtain ⟨its,rv,ht,hz⟩:=I.tuple hq;refine assign_Tuple_tuple (I.ok.hd hc) ht (by simp [hn,← hl,rv.length]) hst λh' hx=> ?_
 have I1:Inv X pins σ H { s with heap:=h' }:=I.kept (t' :=s.toks) λb o e=>hx b o (Nat.ne_of_lt (Heap.lt_size e)) e;exact h pins _ σ H xs _ Q I1 (by simpa using rv) hw
def tAsg (te:TE) (g:TG):TS:=λD σ H=>te σ H λx H1=>g x σ H1 D.nx
theorem Uv {i:Nat} {x:Str} {e:Expr} {te:TE} {pos' :Pos} (hN:X.N.Nodup) (hi:X.N[i]? =some x) (hx:Loc X.env.scope x) (he:PE X e te) (hs:swapsWith e (some (.Name x pos')) pos.line X.env=pure false:=by rfl) (hf:X.fn x=true\/X.env.scope.names.lookup x=some .local:=by first | exact .inl rfl | exact .inr rfl | assumption):
  PS X (.Assign [.Name x pos'] e pos) (tAsg te (u0 i)):=by
 intro pins s σ H D I h;refine wpAny_Assign_Name (thn (he pins s σ H _ I h) λv s1 ⟨y,H1,I1,r1,q1⟩=> ?_) hs;exact Jh I1 hN hi hx r1 (λs2 I2=>⟨_,H1,I2,q1⟩) hf
def tPar (i j:Nat) (ta:TA):TS:=λD σ H=>ta σ H λvs H1=>∃ v w,vs=[v,w]/\D.nx ((σ.set i (some v)).set j (some w)) H1
theorem k6 {i j:Nat} {x y:Str} {a b:Expr} {ta:TA} {px py pt:Pos} {kt k2 pt2} (hc:X.calm=true) (hN:X.N.Nodup) (hi:X.N[i]? =some x) (hj:X.N[j]? =some y) (hij:i ≠ j)
  (hx:X.env.scope.names.lookup x=some .local) (hy:X.env.scope.names.lookup y=some .local) (ha:PA X [a,b] ta)
  (hw:swappedStores [.Tuple [.Name x px, .Name y py] kt pt] (.Tuple [a,b] k2 pt2) X.env=pure (some [x,y]))
  (hs:swapsWithSole [.Tuple [.Name x px, .Name y py] kt pt] (.Tuple [a,b] k2 pt2) pos.line X.env=pure false:=by rfl):
  PS X (.Assign [.Tuple [.Name x px, .Name y py] kt pt] (.Tuple [a,b] k2 pt2) pos) (tPar i j ta):=by
 intro pins s σ H D I h;rw [exec_Assign_arm];refine wpAny_bind (wpAny_standAt ?_);rw [hs];refine wpAny_bind (wpAny_pure ?_);rw [if_neg (by decide)]
 refine wpAny_bind (Tuple_ (thn (ha _ pins s σ H _ I h) λus s1 ⟨vs,H1,I1,r1,q1⟩=> ?_));obtain ⟨v,w,e1,q1⟩:=q1;subst e1;obtain ⟨u1,u2,rfl,rv,rw'⟩:∃ u1 u2,us=[u1,u2]/\ZJ v u1/\ZJ w u2:=by
  cases r1 with
  | cons p q=>
   cases q with
   | cons p' q' =>
    cases q';exact ⟨_,_,rfl,p,p'⟩
 refine wpAny_newObj_type ?_ (by show 2<=sizeLine; decide)
 have I2:Inv X pins σ H1 { s1 with heap:=s1.heap.push { cls:= .type "tuple",data:= .seq [u1,u2].toArray } }:=I1.kept (t' :=s1.toks) λb o e=>Heap.get?_push_of_some _ e;rw [hw];refine wpAny_bind (wpAny_pure ?_);show wpAny (model X.prog X.w) X.A (do rule "assign.swapped-stores"; let items ← unpackItems (.ref s1.heap.objs.size) 2 none; assignInOrder [λv=>bindName X.env y v,λv=>bindName X.env x v] items.reverse; pure Flow.next) _ _ _
 refine wpAny_bind (wpAny_rule (wpAny_bind (unpackItems_tuple (items:= #[u1,u2]) (I.ok.hd hc) (IsTup.new s1.heap _) λh' hx' => ?_)));have I3:=I2.kept (h' :=h') (t' :=s1.toks) λb o e=>hx' b o (Nat.ne_of_lt (Heap.lt_size e)) e;show wpAny _ _ (assignInOrder [λv=>bindName X.env y v,λv=>bindName X.env x v] [u2,u1] >>= λ_=>pure Flow.next) _ _ _;refine wpAny_bind (assignInOrder_cons (wpAny_bindName (Jh I3 hN hj (.inl hy) rw' (λs2 I4=> ?_) (.inr hy))));refine assignInOrder_cons (wpAny_bindName (Jh I4 hN hi (.inl hx) rv (λs3 I5=>assignInOrder_nil (wpAny_pure ?_)) (.inr hx)));rw [List.set_comm _ _ (Ne.symm hij)] at I5;exact ⟨_,H1,I5,q1⟩
end
section
variable {X:Cx} {pos:Pos}
end
structure It where
 go:Nat->Hp->Prop
 yld:Nat->Hp->V->Hp->Prop
 stop:Nat->Hp->Prop
def u5 (X:Cx) (pins:List (Addr×Obj)) (H:Hp) (b:Addr):Prop:=
 H b=none/\b ≠ X.env.locals/\b ∉ X.fs/\(b∈X.ex\/X.s₀.heap.objs.size<=b)/\(∀ x c,X.env.cells.lookup x=some c->c ≠ b)/\∀ p∈X.pn++pins,p.1 ≠ b
theorem Inv.fpOk {X:Cx} {pins:List (Addr×Obj)} {σ:St} {H H' :Hp} {s:Shared} {b:Addr} (I:Inv X pins σ H s) (hb:s.heap.objs.size<=b) (hn:H' b=none):u5 X pins H' b:=by
 refine ⟨hn,Nat.ne_of_gt (Nat.lt_of_lt_of_le I.lt hb),I.nofs hb, .inr (Nat.le_trans I.sz hb),λx c e z=> ?_,λp hp z=> ?_⟩
 ·obtain ⟨v,q⟩:=I.cell x c e;exact absurd (Nat.lt_of_lt_of_le q.lt (by rw [z]; exact hb)) (Nat.lt_irrefl _)
 ·exact absurd (Nat.lt_of_lt_of_le (Heap.lt_size (I.pin p hp).1) (by rw [z]; exact hb)) (Nat.lt_irrefl _)
structure Y2 (P:Program) (w:World) (K:PySem.W.Frag) (tg:Expr) (J:It) (fp:List Addr) (it:Addr) (tn:Nat->Heap->Prop):Prop where
 mem:it∈fp
 obj:∀ i h,tn i h->∀ b∈fp,∃ o,h.get? b=some o/\∀ v,o.data ≠ .cell v
 keep:∀ i h h',tn i h->(∀ b∈fp,∀ o,h.get? b=some o->h'.get? b=some o)->tn i h'
 item:∀ (X:Cx),X.prog=P->X.w=w->X.K=K->X.calm=true->∀ (i:Nat) (pins:List (Addr×Obj)) (s:Shared) (σ:St) (H:Hp) (E:Value->Shared->Prop),Inv X pins σ H s->(∀ b∈fp,u5 X pins H b)->tn i s.heap->J.go i H->
  wpAny (model P w) X.A (pyNext (.ref it)) (λr s1=>∃ u,r=some u/\
   wpAny (model P w) X.A (letOwnedTupleGo tg (.ref it) u) (λ_ s2=>∃ x H',Inv X pins σ H' s2/\ZJ x u/\J.yld i H x H' /\tn (i+1) s2.heap/\∀ b∈fp,H' b=none) E s1) E s
 done:∀ (X:Cx),X.prog=P->X.w=w->X.K=K->X.calm=true->∀ (i:Nat) (pins:List (Addr×Obj)) (s:Shared) (σ:St) (H:Hp) (E:Value->Shared->Prop),Inv X pins σ H s->(∀ b∈fp,u5 X pins H b)->tn i s.heap->J.stop i H->
  wpAny (model P w) X.A (pyNext (.ref it)) (λr s1=>r=none/\Inv X pins σ H s1) E s
 self:∀ (A:Around) (i:Nat) (s:Shared) (Q:Value->Shared->Prop) (E:Value->Shared->Prop),tn i s.heap->Q (.ref it) s->wpAny (model P w) A (pyIter (.ref it)) Q E s
abbrev TI:=St->Hp->(It->Hp->Prop)->Prop
def PIE (X:Cx) (pins:List (Addr×Obj)) (σ:St) (tg:Expr) (R:It->Hp->Prop) (itv:Value) (s2:Shared):Prop:=
 ∃ (it:Addr) (fp:List Addr) (tn:Nat->Heap->Prop) (J:It) (H' :Hp),itv= .ref it/\Inv X pins σ H' s2/\Y2 X.prog X.w X.K tg J fp it tn/\tn 0 s2.heap/\(∀ b∈fp,u5 X pins H' b)/\R J H'
def PI (X:Cx) (tg iter:Expr) (wi:TI):Prop:=
 ∀ (pins:List (Addr×Obj)) (s:Shared) (σ:St) (H:Hp) (R:It->Hp->Prop),Inv X pins σ H s->wi σ H R->
  wpAny (model X.prog X.w) X.A (eval iter X.env) (λv s1=>wpAny (model X.prog X.w) X.A (pyIter v) (PIE X pins σ tg R) X.xe s1) X.xe s
theorem Qp {M:Model} {A:Around} {E:Value->Shared->Prop} {s:Shared} {tg:Expr} {it:Addr} {u:Value} {o:Obj} {n:String} {vs:Array Value} {Q:Unit->Shared->Prop} (ho:s.heap.get? it=some o) (hc:o.cls= .type n) (hd:o.data= .fields vs)
  (hn:["enumerate","zip","dict_itemiterator","dict_reverseitemiterator","odict_iterator","itertools.zip_longest","itertools.pairwise"].contains n=false) (hQ:Q () s):wpAny M A (letOwnedTupleGo tg (.ref it) u) Q E s:=by
 unfold letOwnedTupleGo;cases tg <;> first
  | exact wpAny_pure hQ
  | (cases u <;> first
    | exact wpAny_pure hQ
    | (refine wpAny_bind (wpAny_load ho ?_); rw [hc,hd]; show wpAny M A (if (["enumerate","zip","dict_itemiterator","dict_reverseitemiterator","odict_iterator","itertools.zip_longest","itertools.pairwise"].contains n && vs[0]? == some (rawInt _))=true then _ else _) Q E s; rw [if_neg (by intro h; rw [hn,Bool.false_and] at h; cases h)]; exact wpAny_pure hQ))
def Itl (K:PySem.W.Frag) (a:Addr):It:=
 ⟨λi H=>∃ xs x,SqL K H a xs/\xs[i]? =some x,λi H x H' =>H' =H/\∀ xs,SqL K H a xs->xs[i]? =some x,λi H=>∃ xs,SqL K H a xs/\xs.length<=i⟩
def Itt (K:PySem.W.Frag) (a:Addr):It:=
 ⟨λi H=>∃ xs x,SqT K H a xs/\xs[i]? =some x,λi H x H' =>H' =H/\∀ xs,SqT K H a xs->xs[i]? =some x,λi H=>∃ xs,SqT K H a xs/\xs.length<=i⟩
def Itr (lo:Int) (n:Nat):It:=⟨λi _=>i < n,λi H x H' =>H' =H/\x= .int (lo+i),λi _=>n<=i⟩
theorem Y3 {P:Program} {w:World} {K:PySem.W.Frag} {tg:Expr} (a it:Addr):Y2 P w K tg (Itl K a) [it] it (λi h=>h.IsListIter it a i) where
 mem:=by simp
 obj:=λi h st b hb=>by
  have e:b=it:=by simpa using hb
  subst e;obtain ⟨o,e,c,d⟩:=st;exact ⟨o,e,λv z=>by rw [d] at z; cases z⟩
 keep:=λi h h' st k=>st.at λo e=>k it (by simp) o e
 item:=by
  intro X hP hw hK hc i pins s σ H E I hf st hg;subst hP hw hK;obtain ⟨xs,x,hq,hx⟩:=hg;obtain ⟨its,rv,p,hz⟩:=I.list hq;obtain ⟨u,hu,ru⟩:=rv.get hx;obtain ⟨f0,f1,f2,f3,f4,f5⟩:=hf it (by simp)
  refine wpAny_pyNext_list_item st p.isList (x:=u) (by simpa using hu) λh' st' sb=> ?_
  have I1:Inv X pins σ H { s with heap:=h' }:=I.turned (t' :=s.toks) (λb o hb e=>(sb.2 b hb).trans e) f0 f1 f3 f4 f5;obtain ⟨o,e,c,d⟩:=id st';exact ⟨u,rfl,Qp (s:={ s with heap:=h' }) e c d (by decide) ⟨x,H,I1,ru,⟨rfl,λys hy=>by rw [I.list_inj hy hq]; exact hx⟩,st',λb hb=>(hf b hb).1⟩⟩
 done:=by
  intro X hP hw hK hc i pins s σ H E I hf st hg;subst hP hw hK;obtain ⟨xs,hq,hx⟩:=hg;obtain ⟨its,rv,p,hz⟩:=I.list hq;obtain ⟨f0,f1,f2,f3,f4,f5⟩:=hf it (by simp)
  have hl:=rv.length;exact wpAny_pyNext_list_end (I.ok.hd hc) st p.isList (by simp; omega) λh' eb=>⟨rfl,I.turned (t' :=s.toks) (λb o hb e=>eb b o hb e) f0 f1 f3 f4 f5⟩
 self:=λ_ _ _ _ _ st h=>wpAny_pyIter_listiter st h
theorem yh {P:Program} {w:World} {K:PySem.W.Frag} {tg:Expr} (a it:Addr):Y2 P w K tg (Itt K a) [it] it (λi h=>h.IsTupleIter it a i) where
 mem:=by simp
 obj:=λi h st b hb=>by
  have e:b=it:=by simpa using hb
  subst e;obtain ⟨o,e,c,d⟩:=st;exact ⟨o,e,λv z=>by rw [d] at z; cases z⟩
 keep:=λi h h' st k=>st.at λo e=>k it (by simp) o e
 item:=by
  intro X hP hw hK hc i pins s σ H E I hf st hg;subst hP hw hK;obtain ⟨xs,x,hq,hx⟩:=hg;obtain ⟨its,rv,p,hz⟩:=I.tuple hq;obtain ⟨u,hu,ru⟩:=rv.get hx;obtain ⟨f0,f1,f2,f3,f4,f5⟩:=hf it (by simp)
  refine wpAny_pyNext_tuple_item st (show s.heap.IsTuple a its.toArray from p) (x:=u) (by simpa using hu) λh' st' sb=> ?_
  have I1:Inv X pins σ H { s with heap:=h' }:=I.turned (t' :=s.toks) (λb o hb e=>(sb.2 b hb).trans e) f0 f1 f3 f4 f5;obtain ⟨o,e,c,d⟩:=id st';exact ⟨u,rfl,Qp (s:={ s with heap:=h' }) e c d (by decide) ⟨x,H,I1,ru,⟨rfl,λys hy=>by rw [I.tuple_inj hy hq]; exact hx⟩,st',λb hb=>(hf b hb).1⟩⟩
 done:=by
  intro X hP hw hK hc i pins s σ H E I hf st hg;subst hP hw hK;obtain ⟨xs,hq,hx⟩:=hg;obtain ⟨its,rv,p,hz⟩:=I.tuple hq;obtain ⟨f0,f1,f2,f3,f4,f5⟩:=hf it (by simp)
  have hl:=rv.length;exact wpAny_pyNext_tuple_end (I.ok.hd hc) st (show s.heap.IsTuple a its.toArray from p) (by simp; omega) λh' eb=>⟨rfl,I.turned (t' :=s.toks) (λb o hb e=>eb b o hb e) f0 f1 f3 f4 f5⟩
 self:=λ_ _ _ _ _ st h=>wpAny_pyIter_tupleiter st h
theorem yi {P:Program} {w:World} {K:PySem.W.Frag} {tg:Expr} (it:Addr) (lo:Int) (n:Nat):Y2 P w K tg (Itr lo n) [it] it (λi h=>IsRangeIter h it (lo+(i:Nat)*1) ((n:Int) - (i:Nat)) 1) where
 mem:=by simp
 obj:=λi h st b hb=>by
  have e:b=it:=by simpa using hb
  subst e;exact ⟨_,st,λv z=>by
   have z' :Data.fields _=Data.cell v:=z;cases z'⟩
 keep:=λi h h' st k=>k it (by simp) _ st
 item:=by
  intro X hP hw hK hc i pins s σ H E I hf st hg;subst hP hw hK;obtain ⟨f0,f1,f2,f3,f4,f5⟩:=hf it (by simp)
  have W:=Walks.range (prog:=X.prog) (w:=X.w) (I.ok.hd hc) it lo 1 n;refine W.item i s _ _ hg st λv h' tk hv st' kk=> ?_;obtain ⟨t,rfl⟩:=hv;have I1:Inv X pins σ H { s with heap:=h',toks:=tk }:=I.turned (λb o hb e=>kk b o (by simpa using hb) e) f0 f1 f3 f4 f5
  refine ⟨_,rfl,Qp (s:={ s with heap:=h',toks:=tk }) (n:="range_iterator") st' rfl rfl (by decide) ⟨.int (lo+i),H,I1,⟨t, ?_⟩,⟨rfl,rfl⟩,st',λb hb=>(hf b hb).1⟩⟩
  rw [Int.mul_one]
 done:=by
  intro X hP hw hK hc i pins s σ H E I hf st hg;subst hP hw hK;obtain ⟨f0,f1,f2,f3,f4,f5⟩:=hf it (by simp)
  exact wpAny_pyNext_range_end (I.ok.hd hc) st (by have:n<=i:=hg; omega) λh' eb=>⟨rfl,I.turned (t' :=s.toks) (λb o hb e=>eb b o hb e) f0 f1 f3 f4 f5⟩
 self:=λ_ _ _ _ _ st h=>wpAny_pyIter_rangeiter st h
end L2
namespace L2
open PySem PySem.Spec PyProof.Rows
section
variable {X:Cx} {tg:Expr}
theorem Uw {pins:List (Addr×Obj)} {σ:St} {H:Hp} {s:Shared} {R:It->Hp->Prop} {E:Value->Shared->Prop} {lo hi:Int} {t u v:Tok} {tk:Nat} (I:Inv X pins σ H s) (h1: -(2 ^ 62)<=lo) (h2:lo < 2 ^ 62) (h3: -(2 ^ 62)<=hi) (h4:hi < 2 ^ 62)
  (q:R (Itr lo (hi - lo).toNat) H):wpAny (model X.prog X.w) X.A (pyIter (.ref s.heap.objs.size)) (PIE X pins σ tg R) E { s with heap:=s.heap.push { cls:= .type "range",data:= .fields #[.int lo t, .int hi u, .int 1 v] },toks:=tk }:=by
 refine wpAny_pyIter_range (IsRange.new ..) (small_one h1 h2 h3 h4) ?_;have I1:Inv X pins σ H { s with heap:=s.heap.push { cls:= .type "range",data:= .fields #[.int lo t, .int hi u, .int 1 v] },toks:=tk }:=I.kept λb o e=>Heap.get?_push_of_some _ e;refine ⟨(s.heap.push { cls:= .type "range",data:= .fields #[.int lo t, .int hi u, .int 1 v] }).objs.size,[(s.heap.push { cls:= .type "range",data:= .fields #[.int lo t, .int hi u, .int 1 v] }).objs.size],_,_,H,rfl,
  I1.kept (t' :=tk) λb o e=>Heap.get?_push_of_some _ e,yi _ lo (hi - lo).toNat, ?_,λb hb=> ?_,q⟩
 ·have e1:lo+((0:Nat):Int)*1=lo:=by simp
  have e2:(((hi - lo).toNat:Nat):Int) - ((0:Nat):Int)=Builtin.Range.rangeSize lo hi 1:=by rw [rangeSize_one]; split <;> omega
  show IsRangeIter _ _ (lo+((0:Nat):Int)*1) ((((hi - lo).toNat:Nat):Int) - ((0:Nat):Int)) 1;rw [e1,e2];exact Heap.get?_push_size _ rfl
 ·have e:b=(s.heap.push { cls:= .type "range",data:= .fields #[.int lo t, .int hi u, .int 1 v] }).objs.size:=by simpa using hb
  subst e;exact I1.fpOk (Nat.le_refl _) (I1.hok.fresh (Nat.le_refl _))
def gX (ta:TA):TI:=λσ H R=>ta σ H λvs H1=>∃ j:Int,vs=[.int j]/\ -(2 ^ 62)<=j/\j < 2 ^ 62/\R (Itr 0 j.toNat) H1
def gY (ta:TA):TI:=λσ H R=>ta σ H λvs H1=>∃ i j:Int,vs=[.int i, .int j]/\(-(2 ^ 62)<=i/\i < 2 ^ 62/\ -(2 ^ 62)<=j/\j < 2 ^ 62)/\R (Itr i (j - i).toNat) H1
theorem Y4 {a:Expr} {ta:TA} {p pos:Pos} (hg:Gl X "range") (hm:X.mg "range"=none) (ha:PA X [a] ta) (hs:starEach [a] X.env=[(false,eval a X.env)]:=by rfl):PI X tg (.Call (.Name "range" p) [a] [] pos) (gX ta):=by
 intro pins s σ H R I h;refine Call_ (Ji I hg hm boot_range (PyProof.Rows.callWith_type1 (thn (ha pos pins s σ H _ I h) λus s1 ⟨vs,H1,I1,r1,q1⟩=> ?_) hs rfl));obtain ⟨j,e,q1,q2,q⟩:=q1;subst e;cases r1 with
 | cons r rr=>
  cases rr;obtain ⟨t,rfl⟩:=r;exact call_range_1 (Uw I1 (by omega) (by omega) q1 q2 (by simpa using q))
theorem Y5 {a b:Expr} {ta:TA} {p pos:Pos} (hg:Gl X "range") (hm:X.mg "range"=none) (ha:PA X [a,b] ta) (hs:starEach [a,b] X.env=[(false,eval a X.env),(false,eval b X.env)]:=by rfl) (hs2:starEach [b] X.env=[(false,eval b X.env)]:=by rfl):
  PI X tg (.Call (.Name "range" p) [a,b] [] pos) (gY ta):=by
 intro pins s σ H R I h;refine Call_ (Ji I hg hm boot_range (PyProof.Rows.callWith_type1 (thn (ha pos pins s σ H _ I h) λus s1 ⟨vs,H1,I1,r1,q1⟩=> ?_) (by rw [hs,hs2]) (by rw [hs2]; rfl)))
 obtain ⟨i,j,e,⟨q1,q2,q3,q4⟩,q⟩:=q1;subst e;cases r1 with
 | cons r rr=>
  cases rr with
  | cons r' rr=>
   cases rr;obtain ⟨t,rfl⟩:=r;obtain ⟨t',rfl⟩:=r';exact call_range_2 (Uw I1 q1 q2 q3 q4 q)
def tFor (wi:TI) (g:TG) (tb:TS):TS:=λD σ H=>wi σ H λJ H1=>∃ W:Nat->Nat->St->Hp->Prop,(∃ m,W 0 m σ H1)/\∀ i m σ H,W i m σ H->
 (J.stop i H/\D.nx σ H)\/(J.go i H/\∃ N:St->Hp->Prop,(∀ σ' H',N σ' H' ->∃ m',m' < m/\W (i+1) m' σ' H')/\∀ x H',J.yld i H x H' ->g x σ H' λσ2 H2=>tb { D with nx:=N,ct:=N,bk:=D.nx } σ2 H2)
def u6 (fp:List Addr) (h:Heap):List (Addr×Obj):=fp.filterMap λb=>(h.get? b).map λo=>(b,o)
theorem jV {fp:List Addr} {h:Heap} {b:Addr} {o:Obj} (hb:b∈fp) (e:h.get? b=some o):(b,o)∈u6 fp h:=List.mem_filterMap.mpr ⟨b,hb,by rw [e]; rfl⟩
theorem Y6 {fp:List Addr} {h:Heap} {p:Addr×Obj} (hp:p∈u6 fp h):p.1∈fp/\h.get? p.1=some p.2:=by
 obtain ⟨b,hb,e⟩:=List.mem_filterMap.mp hp;cases q:h.get? b with
 | none=>rw [q] at e; cases e
 | some o=>
  rw [q] at e;have e' :(b,o)=p:=Option.some.inj e;subst e';exact ⟨hb,q⟩
theorem Inv.pinned {pins:List (Addr×Obj)} {σ:St} {H:Hp} {s:Shared} {fp:List Addr} (I:Inv X pins σ H s) (hf:∀ b∈fp,u5 X pins H b) (ho:∀ b∈fp,∃ o,s.heap.get? b=some o/\∀ v,o.data ≠ .cell v):Inv X (pins++u6 fp s.heap) σ H s:=
 I.pins_of λp hp=>(List.mem_append.mp hp).elim (λz=>I.pin p (List.mem_append_right _ z)) λz=>by
  obtain ⟨hb,e⟩:=Y6 z;obtain ⟨f0,f1,f2,_⟩:=hf p.1 hb;obtain ⟨o,e',d⟩:=ho p.1 hb;rw [e] at e'; cases e';exact ⟨e,f0,f1,f2,d⟩
theorem Inv.unpinned {pins pl:List (Addr×Obj)} {σ:St} {H:Hp} {s:Shared} (I:Inv X (pins++pl) σ H s):Inv X pins σ H s:=I.pins_of λp hp=>I.pin p (List.mem_append_right _ (List.mem_append_left _ hp))
theorem k7 {iter:Expr} {body:List Stmt} {wi:TI} {g:TG} {tb:TS} {pos:Pos} (hp:PassesOwn (model X.prog X.w) X.A X.env X.xe) (hc:X.calm=true) (hi:PI X tg iter wi) (hg:PG X tg g) (hb:PSs X body tb)
  (hs:∀ x,foldedSetIterable iter X.env x=pure x:=by intro _; rfl):PS X (.For tg iter body [] pos) (tFor wi g tb):=by
 intro pins s σ H D I h;refine wpAny_For (thn (hi pins s σ H _ I h) λv s1 h1=>thn h1 λitv s2 h2=> ?_) hs;obtain ⟨it,fp,tn,J,H2,e,I2,T,st2,f2,W,⟨m0,w0⟩,turn⟩:=h2;subst e;have stat:∀ {H' :Hp},(∀ b∈fp,H' b=none)->∀ b∈fp,u5 X pins H' b:=λhn b hb=>⟨hn b hb,(f2 b hb).2⟩;refine codeAny_forLoop_any (λn s' =>∃ i σ' H',Inv X pins σ' H' s' /\tn i s'.heap/\(∀ b∈fp,H' b=none)/\W i n σ' H') ?_ m0 ⟨0,σ,H2,I2,st2,λb hb=>(f2 b hb).1,w0⟩
 rintro n s3 ⟨i,σ3,H3,I3,st3,fr3,w3⟩
 rcases turn i n σ3 H3 w3 with ⟨stop,qn⟩ | ⟨go,N,hN,step⟩
 ·refine wpAny_passesOwn hp (thn (T.done X rfl rfl rfl hc i pins s3 σ3 H3 X.xe I3 (stat fr3) st3 stop) λr s4 ⟨hr,I4⟩=> ?_);subst hr;exact wpAny_execs_nil ⟨σ3,H3,I4,qn⟩
 ·refine wpAny_passesOwn hp (thn (T.item X rfl rfl rfl hc i pins s3 σ3 H3 X.xe I3 (stat fr3) st3 go) λr s4 ⟨u,hr,h4⟩=> ?_);subst hr;refine wpAny_passesOwn hp (thn h4 λ_ s5 ⟨x,H5,I5,r5,y5,st5,fr5⟩=> ?_);have I5' :=I5.pinned (stat fr5) (T.obj _ _ st5);refine wpAny_passesOwn hp (thn (hg _ s5 σ3 H5 x u _ I5' r5 (step x H5 y5)) λ_ s6 ⟨σ6,H6,I6,q6⟩=> ?_);refine wpAny_passesOwn hp (thn (hb _ s6 σ6 H6 _ I6 q6) λf s7 q7=> ?_);have again:∀ {σ7:St} {H7:Hp},Inv X (pins++u6 fp s5.heap) σ7 H7 s7->N σ7 H7->∃ m,m < n/\∃ i σ' H',Inv X pins σ' H' s7/\tn i s7.heap/\(∀ b∈fp,H' b=none)/\W i m σ' H' :=λ{σ7 H7} I7 n7=>by
   obtain ⟨m',hm,w7⟩:=hN σ7 H7 n7;refine ⟨m',hm,i+1,σ7,H7,I7.unpinned,T.keep _ _ _ st5 λb hb o e=>(I7.pin (b,o) (List.mem_append_right _ (List.mem_append_right _ (jV hb e)))).1,λb hb=> ?_,w7⟩;obtain ⟨o,e,d⟩:=T.obj _ _ st5 b hb;exact (I7.pin (b,o) (List.mem_append_right _ (List.mem_append_right _ (jV hb e)))).2.1
  cases f with
  | next=>obtain ⟨σ7,H7,I7,n7⟩:=q7; exact again I7 n7
  | cont=>obtain ⟨σ7,H7,I7,n7⟩:=q7; exact again I7 n7
  | brk=>obtain ⟨σ7,H7,I7,q7⟩:=q7; exact ⟨σ7,H7,I7.unpinned,q7⟩
  | ret v=>obtain ⟨x7,σ7,H7,I7,r7,q7⟩:=q7; exact ⟨x7,σ7,H7,I7.unpinned,r7,q7⟩
end
end L2
namespace L2
open PySem PySem.Spec PyProof.Rows
abbrev R2:=V->V->Hp->VK->Prop
def OpR (X:Cx) (f:Value->Value->Sem Value) (r:R2):Prop:=
 ∀ (pins:List (Addr×Obj)) (s:Shared) (σ:St) (H:Hp) (x y:V) (v u:Value) (Q:VK),Inv X pins σ H s->ZJ x v->ZJ y u->r x y H Q->
  wpAny (model X.prog X.w) X.A (f v u) (EP X pins σ Q) X.xe s
def UnR (X:Cx) (f:Value->Sem Value) (r:V->Hp->VK->Prop):Prop:=
 ∀ (pins:List (Addr×Obj)) (s:Shared) (σ:St) (H:Hp) (x:V) (v:Value) (Q:VK),Inv X pins σ H s->ZJ x v->r x H Q->
  wpAny (model X.prog X.w) X.A (f v) (EP X pins σ Q) X.xe s
def ji (X:Cx) (f:Value) (r:List V->Hp->VK->Prop):Prop:=
 ∀ (pins:List (Addr×Obj)) (s:Shared) (σ:St) (H:Hp) (xs:List V) (us:List Value) (Q:VK),Inv X pins σ H s->Zy xs us->r xs H Q->
  wpAny (model X.prog X.w) X.A (call f us) (EP X pins σ Q) X.xe s
def TruR (X:Cx) (r:V->Hp->(Bool->Hp->Prop)->Prop):Prop:=
 ∀ (pins:List (Addr×Obj)) (s:Shared) (σ:St) (H:Hp) (x:V) (v:Value) (Q:Bool->Hp->Prop),Inv X pins σ H s->ZJ x v->r x H Q->
  wpAny (model X.prog X.w) X.A (truthy v) (TP X pins σ Q) X.xe s
def tOp (r:R2) (ta tb:TE):TE:=λσ H Q=>ta σ H λx H1=>tb σ H1 λy H2=>r x y H2 Q
def tUn (r:V->Hp->VK->Prop) (ta:TE):TE:=λσ H Q=>ta σ H λx H1=>r x H1 Q
def rI (C:Int->Int->Prop) (g:Int->Int->V):R2:=λx y H Q=>∃ i j,x= .int i/\y= .int j/\C i j/\Q (g i j) H
def rI0 (g:Int->Int->V):R2:=λx y H Q=>∃ i j,x= .int i/\y= .int j/\Q (g i j) H
def rU (g:Int->V):V->Hp->VK->Prop:=λx H Q=>∃ i,x= .int i/\Q (g i) H
section
variable {X:Cx} {a b c:Expr} {ta tb tc:TE} {pos:Pos}
theorem gZ (ha:PE X a ta) (hb:PE X b tb) {pins:List (Addr×Obj)} {s:Shared} {σ:St} {H:Hp} {R:V->V->Hp->Prop} (I:Inv X pins σ H s)
  (h:ta σ H λx H1=>tb σ H1 λy H2=>R x y H2) {Q:Value->Shared->Prop} {f:Value->Value->Sem Value}
  (hf:∀ v u s2 x y H2,Inv X pins σ H2 s2->ZJ x v->ZJ y u->R x y H2->wpAny (model X.prog X.w) X.A (f v u) Q X.xe s2):
  wpAny (model X.prog X.w) X.A (eval a X.env) (λv s₁=>wpAny (model X.prog X.w) X.A (eval b X.env) (λu s₂=>wpAny (model X.prog X.w) X.A (f v u) Q X.xe s₂) X.xe s₁) X.xe s:=by
 refine thn (ha pins s σ H _ I h) λv s1 ⟨x,H1,I1,r1,q1⟩=> ?_;refine thn (hb pins s1 σ H1 _ I1 q1) λu s2 ⟨y,H2,I2,r2,q2⟩=> ?_;exact hf v u s2 x y H2 I2 r1 r2 q2
theorem G1 {op:Operator} {r:R2} (ho:OpR X (binaryOp op) r) (ha:PE X a ta) (hb:PE X b tb):PE X (.BinOp a op b pos) (tOp r ta tb):=by
 intro pins s σ H Q I h;exact wpAny_BinOp (gZ ha hb I h λv u s2 x y H2 I2 rx ry q=>ho pins s2 σ H2 x y v u Q I2 rx ry q)
theorem G2 {op:UnaryOp} {r:V->Hp->VK->Prop} (ho:UnR X (unaryOp op) r) (ha:PE X a ta):PE X (.UnaryOp op a pos) (tUn r ta):=by
 intro pins s σ H Q I h;exact UnaryOp_ (thn (ha pins s σ H _ I h) λv s1 ⟨x,H1,I1,r1,q1⟩=>ho pins s1 σ H1 x v Q I1 r1 q1)
theorem opI {f:Value->Value->Sem Value} {C:Int->Int->Prop} {g:Int->Int->Int}
  (rule:∀ (i j:Int) (t u:Tok) (s:Shared) (Q:Value->Shared->Prop) (E:Value->Shared->Prop),C i j->Q (.int (g i j) s.toks) { s with toks:=s.toks+1 }->wpAny (model X.prog X.w) X.A (f (.int i t) (.int j u)) Q E s):
  OpR X f (rI C λi j=> .int (g i j)):=by
 intro pins s σ H x y v u Q I rx ry h;obtain ⟨i,j,rfl,rfl,hc,q⟩:=h;obtain ⟨t,rfl⟩:=rx;obtain ⟨t',rfl⟩:=ry;exact rule i j t t' s _ _ hc ⟨.int (g i j),H,I.tok _,⟨_,rfl⟩,q⟩
theorem opI0 {f:Value->Value->Sem Value} {g:Int->Int->Int}
  (rule:∀ (i j:Int) (t u:Tok) (s:Shared) (Q:Value->Shared->Prop) (E:Value->Shared->Prop),Q (.int (g i j) s.toks) { s with toks:=s.toks+1 }->wpAny (model X.prog X.w) X.A (f (.int i t) (.int j u)) Q E s):
  OpR X f (rI0 λi j=> .int (g i j)):=by
 intro pins s σ H x y v u Q I rx ry h;obtain ⟨i,j,rfl,rfl,q⟩:=h;obtain ⟨t,rfl⟩:=rx;obtain ⟨t',rfl⟩:=ry;exact rule i j t t' s _ _ ⟨.int (g i j),H,I.tok _,⟨_,rfl⟩,q⟩
theorem G4 {f:Value->Value->Sem Value} {g:Int->Int->Bool}
  (rule:∀ (i j:Int) (t u:Tok) (s:Shared) (Q:Value->Shared->Prop) (E:Value->Shared->Prop),Q (.bool (g i j)) s->wpAny (model X.prog X.w) X.A (f (.int i t) (.int j u)) Q E s):
  OpR X f (rI0 λi j=> .bl (g i j)):=by
 intro pins s σ H x y v u Q I rx ry h;obtain ⟨i,j,rfl,rfl,q⟩:=h;obtain ⟨t,rfl⟩:=rx;obtain ⟨t',rfl⟩:=ry;exact rule i j t t' s _ _ ⟨.bl (g i j),H,I,rfl,q⟩
def CDiv (i j:Int):Prop:=0 < j/\j < 1073741824
def WS (i j:Int):Prop:=(-(2 ^ 64) < i/\i < 2 ^ 64)\/(-(2 ^ 64) < j/\j < 2 ^ 64)
theorem WS.ok {i j:Int} (h:WS i j):IntMulOk i j:=by
 rcases h with ⟨h1,h2⟩ | ⟨h1,h2⟩
 ·exact .of_left (intBits_le_64 h1 h2)
 ·exact .of_right (intBits_le_64 h1 h2)
theorem k8:OpR X (binaryOp .Add) (rI0 λi j=> .int (i+j)):=opI0 λ_ _ _ _ _ _ _ q=>add_int q
theorem k9:OpR X (binaryOp .Sub) (rI0 λi j=> .int (i - j)):=opI0 λ_ _ _ _ _ _ _ q=>sub_int q
theorem ka:OpR X (binaryOp .Mult) (rI WS λi j=> .int (i*j)):=opI λ_ _ _ _ _ _ _ hc q=>mul_int q hc.ok
theorem Vu:OpR X (binaryOp .FloorDiv) (rI CDiv λi j=> .int (i / j)):=opI λi j _ _ _ _ _ hc q=>by
 have h1:(0:Int) < j:=hc.1;have h2:j < 1073741824:=hc.2;exact floordiv_int (by omega) (by rw [Int.fdiv_eq_ediv_of_nonneg i (by omega)]; exact q) (.inl (PyProof.noPylong_small (by omega)))
theorem kd:OpR X (binaryOp .Mod) (rI (λ_ j=>0 < j) λi j=> .int (i % j)):=opI λi j _ _ _ _ _ hc q=>by
 have h1:(0:Int) < j:=hc;exact mod_int' (by omega) (by rw [Int.fmod_eq_emod_of_nonneg i (by omega)]; exact q)
theorem unI {f:Value->Sem Value} {g:Int->Int}
  (rule:∀ (i:Int) (t:Tok) (s:Shared) (Q:Value->Shared->Prop) (E:Value->Shared->Prop),Q (.int (g i) s.toks) { s with toks:=s.toks+1 }->wpAny (model X.prog X.w) X.A (f (.int i t)) Q E s):
  UnR X f (rU λi=> .int (g i)):=by
 intro pins s σ H x v Q I rx h;obtain ⟨i,rfl,q⟩:=h;obtain ⟨t,rfl⟩:=rx;exact rule i t s _ _ ⟨.int (g i),H,I.tok _,⟨_,rfl⟩,q⟩
theorem ke:UnR X (unaryOp .USub) (rU λi=> .int (-i)):=unI λ_ _ _ _ _ q=>neg_int q
theorem Y7:OpR X (binaryOp .Add) (λx y H Q=>∃ i k,x= .int i/\y= .bl k/\Q (.int (i+b2i k)) H):=by
 intro pins s σ H x y v u Q I rx ry h;obtain ⟨i,k,rfl,rfl,q⟩:=h;obtain ⟨t,rfl⟩:=rx;cases ry;exact add_int_bool ⟨.int (i+b2i k),H,I.tok _,⟨_,rfl⟩,q⟩
end
section
variable {X:Cx} {a b c:Expr} {ta tb tc:TE} {pos:Pos}
theorem G5:OpR X (compareOp .Lt) (rI0 λi j=> .bl (decide (i < j))):=G4 λ_ _ _ _ _ _ _ q=>lt_int q
theorem G6:OpR X (compareOp .LtE) (rI0 λi j=> .bl (decide (i<=j))):=G4 λ_ _ _ _ _ _ _ q=>le_int q
theorem G7:OpR X (compareOp .Gt) (rI0 λi j=> .bl (decide (j < i))):=G4 λ_ _ _ _ _ _ _ q=>gt_int q
theorem zo (b:Expr) {op:CmpOp} (h:op ≠ .In:=by decide) (h2:op ≠ .NotIn:=by decide):behindInMarks op b=false:=by
 have e1:(op == CmpOp.In)=false:=by cases op <;> first | rfl | exact absurd rfl h
 have e2:(op == CmpOp.NotIn)=false:=by cases op <;> first | rfl | exact absurd rfl h2
 cases b <;> simp [behindInMarks,e1,e2]
theorem Vv {op:CmpOp} {r:R2} (ho:OpR X (compareOp op) r) (ha:PE X a ta) (hb:PE X b tb) (hm:behindInMarks op b=false):PE X (.Compare a [op] [b] pos) (tOp r ta tb):=by
 intro pins s σ H Q I h;exact wpAny_Compare1 (gZ ha hb I h λv u s2 x y H2 I2 rx ry q=>ho pins s2 σ H2 x y v u Q I2 rx ry q) hm
def kf (t:TE):TT:=λσ H Q=>t σ H λx H' =>∃ k,x= .bl k/\Q k H'
theorem Y8 {op:CmpOp} {r:R2} (ho:OpR X (compareOp op) r) (ha:PE X a ta) (hb:PE X b tb) (hm:behindInMarks op b=false):PT X (.Compare a [op] [b] pos) (kf (tOp r ta tb)):=by
 intro pins s σ H Q I h;refine wpAny_isTrue_Compare1 (thn (ha pins s σ H _ I h) λv s1 ⟨x,H1,I1,r1,q1⟩=>thn (hb pins s1 σ H1 _ I1 q1) λu s2 ⟨y,H2,I2,r2,q2⟩=>
  thn (ho pins s2 σ H2 x y v u _ I2 r1 r2 q2) λc s3 ⟨z,H3,I3,r3,k,e,q3⟩=> ?_) hm
 subst e;cases r3;exact wpAny_truthy_bool ⟨H3,I3,q3⟩
def vI (r r' :R2) (ta tb tc:TE):TE:=λσ H Q=>ta σ H λx H1=>tb σ H1 λy H2=>r x y H2 λz H3=>∃ k,z= .bl k/\
 (if k=true then tc σ H3 λw' H4=>r' y w' H4 Q else Q (.bl false) H3)
theorem Qq {op op' :CmpOp} {r r' :R2} (ho:OpR X (compareOp op) r) (ho' :OpR X (compareOp op') r') (ha:PE X a ta) (hb:PE X b tb) (hc:PE X c tc)
  (hm:lastMarks [op,op'] [b,c]=false:=by with_unfolding_all rfl):PE X (.Compare a [op,op'] [b,c] pos) (vI r r' ta tb tc):=by
 intro pins s σ H Q I h;refine Compare_chain (thn (ha pins s σ H _ I h) λv s1 ⟨x,H1,I1,r1,q1⟩=>chain_link (thn (hb pins s1 σ H1 _ I1 q1) λu s2 ⟨y,H2,I2,r2,q2⟩=>
  thn (ho pins s2 σ H2 x y v u _ I2 r1 r2 q2) λd s3 ⟨z,H3,I3,r3,k,e,q3⟩=> ?_)) hm
 subst e;cases r3;refine wpAny_truthy_bool ?_;cases k with
 | false=>exact ite_ff ⟨.bl false,H3,I3,rfl,q3⟩
 | true=>exact ite_tt (chain_last (thn (hc pins s3 σ H3 _ I3 q3) λw' s4 ⟨z',H4,I4,r4,q4⟩=>ho' pins s4 σ H4 y z' u w' Q I4 r2 r4 q4))
theorem Qr {op op' :CmpOp} {r r' :R2} (ho:OpR X (compareOp op) r) (ho' :OpR X (compareOp op') r') (ha:PE X a ta) (hb:PE X b tb) (hc:PE X c tc)
  (hm:lastMarks [op,op'] [b,c]=false:=by with_unfolding_all rfl):PT X (.Compare a [op,op'] [b,c] pos) (kf (vI r r' ta tb tc)):=by
 intro pins s σ H Q I h;refine isTrue_chain (thn (ha pins s σ H _ I h) λv s1 ⟨x,H1,I1,r1,q1⟩=>test_link (thn (hb pins s1 σ H1 _ I1 q1) λu s2 ⟨y,H2,I2,r2,q2⟩=>
  thn (ho pins s2 σ H2 x y v u _ I2 r1 r2 q2) λd s3 ⟨z,H3,I3,r3,k,e,q3⟩=> ?_)) hm
 subst e;cases r3;refine wpAny_truthy_bool ?_;cases k with
 | false=>
  obtain ⟨k',e',q'⟩:=q3;cases e';exact ite_ff ⟨H3,I3,q'⟩
 | true=>
  refine ite_tt (test_last (thn (hc pins s3 σ H3 _ I3 q3) λw' s4 ⟨z',H4,I4,r4,q4⟩=>thn (ho' pins s4 σ H4 y z' u w' _ I4 r2 r4 q4) λd' s5 ⟨z2,H5,I5,r5,k2,e2,q5⟩=> ?_));subst e2;cases r5;exact wpAny_truthy_bool ⟨H5,I5,q5⟩
def TruV (K:PySem.W.Frag) (x:V) (H:Hp) (k:Bool):Prop:=
 match x with
 | .non=>k=false
 | .bl b=>k=b
 | .int i=>k=(i != 0)
 | .str y=>y.length<=sizeLine/\k=((y.length:Int) != 0)
 | .byt y=>y.size<=sizeLine/\k=((y.size:Int) != 0)
 | .ref p=>(∃ xs,SqL K H p xs/\k= !xs.isEmpty)\/(∃ xs,SqT K H p xs/\k= !xs.isEmpty)\/∃ kvs,H p=some (.dK kvs)/\k= !kvs.isEmpty
 | _=>False
theorem yj {κ:Type} {kvs:List (κ×V)} {vs:List (κ×Value)} (r:KV kvs vs):(!vs.isEmpty)= !kvs.isEmpty:=by
 cases r <;> rfl
theorem W3 {xs:List V} {its:List Value} (r:Zy xs its):(!its.toArray.isEmpty)= !xs.isEmpty:=by
 cases r <;> simp
theorem W4:(sizeLine:Nat) < 2 ^ 63:=by rw [sizeLine_eq]; decide
theorem kg:TruR X (λx H Q=>∃ k,TruV X.K x H k/\Q k H):=by
 intro pins s σ H x v Q I rx h;obtain ⟨k,e,q⟩:=h;have hl:=W4;have hs:sizeLine=16777216:=sizeLine_eq;cases x with
 | non=>
  cases rx;have e' :k=false:=e;subst e';exact truthy_none ⟨H,I,q⟩
 | bl b=>
  cases rx;have e' :k=b:=e;subst e';exact wpAny_truthy_bool ⟨H,I,q⟩
 | int i=>
  obtain ⟨t,rfl⟩:=rx;have e' :k=(i != 0):=e;subst e';exact PySem.P.truthy_int ⟨H,I,q⟩
 | str y=>
  obtain ⟨t,rfl⟩:=rx;obtain ⟨hy,e'⟩:y.length<=sizeLine/\k=((y.length:Int) != 0):=e;subst e';exact PySem.P.truthy_str (by omega) ⟨H,I.tok _,q⟩
 | byt y=>
  obtain ⟨t,rfl⟩:=rx;obtain ⟨hy,e'⟩:y.size<=sizeLine/\k=((y.size:Int) != 0):=e;subst e';exact PySem.W.truthy_bytes (by omega) ⟨H,I.tok _,q⟩
 | ref p=>
  cases rx;have e' :(∃ xs,SqL X.K H p xs/\k= !xs.isEmpty)\/(∃ xs,SqT X.K H p xs/\k= !xs.isEmpty)\/∃ kvs,H p=some (.dK kvs)/\k= !kvs.isEmpty:=e;rcases e' with ⟨xs,hx,e'⟩ | ⟨xs,hx,e'⟩ | ⟨kvs,hx,e'⟩
  ·subst e';obtain ⟨its,r,pl,hz⟩:=I.list hx;have hlen:=r.length;exact wpAny_truthy_list pl.isList (by simp only [List.size_toArray]; omega) ⟨H,I.tok _,by rw [W3 r]; exact q⟩
  ·subst e';obtain ⟨its,r,pl,hz⟩:=I.tuple hx;have hlen:=r.length;exact truthy_tuple pl (by simp only [List.size_toArray]; omega) ⟨H,I.tok _,by rw [W3 r]; exact q⟩
  ·subst e';obtain ⟨hz,hS,vs,r,m⟩:kvs.length<=sizeLine/\(p == sysModules)=false/\∃ vs,KV kvs vs/\s.heap.DictOf (uW X.prog X.w) p vs:=I.hok p _ hx;have hlen:kvs.length=vs.length:=Paired.length r;exact wpAny_truthy_dict hS m (by omega) ⟨H,I.tok _,by rw [yj r]; exact q⟩
 | _=>exact (show False from e).elim
theorem Qs (ha:PE X a ta) (he:∀ whole,isTrue a X.env whole=(do let v ← whole; standAt a.pos; holding [v] (truthy v))):
  PT X a (λσ H Q=>ta σ H λx H' =>∃ k,TruV X.K x H' k/\Q k H'):=by
 intro pins s σ H Q I h;exact isTrue_plain (thn (ha pins s σ H _ I h) λv s1 ⟨x,H1,I1,r1,q1⟩=>kg pins s1 σ H1 x v Q I1 r1 q1) (he _)
theorem yk:OpR X (binaryOp .Add) (λx y H Q=>∃ i j,x= .str i/\y= .str j/\i.length+j.length<=sizeLine/\Q (.str (i++j)) H):=by
 intro pins s σ H x y v u Q I rx ry h;obtain ⟨i,j,rfl,rfl,hz,q⟩:=h;obtain ⟨t,rfl⟩:=rx;obtain ⟨t',rfl⟩:=ry;exact add_str (λt' tk=>⟨.str (i++j),H,I.tok _,⟨_,rfl⟩,q⟩) hz
theorem jD {x:V} {us:List Value} (r:Zy [x] us):∃ u,us=[u]/\ZJ x u:=by
 cases r with
 | cons r1 r2=>cases r2; exact ⟨_,rfl,r1⟩
theorem yl {x y:V} {us:List Value} (r:Zy [x,y] us):∃ u w',us=[u,w']/\ZJ x u/\ZJ y w' :=by
 cases r with
 | cons r1 r2=>
  cases r2 with
  | cons r3 r4=>cases r4; exact ⟨_,_,rfl,r1,r3⟩
theorem Y9 (hc:X.calm=true):ji X (.builtin "min") (λxs H Q=>∃ i j,xs=[.int i, .int j]/\Q (.int (if j < i then j else i)) H):=by
 intro pins s σ H xs us Q I r h;obtain ⟨i,j,rfl,q⟩:=h;obtain ⟨u,w',rfl,⟨t,rfl⟩,⟨t',rfl⟩⟩:=yl r;refine min_two_ints (I.ok.hd hc) λh' tk k=>⟨_,H,I.kept k, ?_,q⟩
 by_cases hj:j < i
 ·rw [if_pos hj,if_pos hj]; exact ⟨_,rfl⟩
 ·rw [if_neg hj,if_neg hj]; exact ⟨_,rfl⟩
theorem Ya:ji X (.type "int") (λxs H Q=>(∃ i,xs=[.int i]/\Q (.int i) H)\/∃ k,xs=[.bl k]/\Q (.int (if k then 1 else 0)) H):=by
 intro pins s σ H xs us Q I r h;rcases h with ⟨i,rfl,q⟩ | ⟨k,rfl,q⟩
 ·obtain ⟨u,rfl,t,rfl⟩:=jD r;exact call_int_int ⟨.int i,H,I,⟨_,rfl⟩,q⟩
 ·obtain ⟨u,rfl,r1⟩:=jD r;cases r1;exact call_int_bool ⟨.int (if k then 1 else 0),H,I.tok _,⟨_,rfl⟩,q⟩
end
end L2
namespace L2
open PySem PySem.Spec PyProof.Rows
structure G8 (h:Heap) (x dx C:Addr) (mA:Str->Option Value):Prop where
 obj:h.get? x=some (PySem.W.instObj C dx)
 ns:h.Ns1 dx mA
 ne:dx ≠ x
theorem Yb {h:Heap} {dx:Addr} {mA:Str->Option Value} (n:h.Ns1 dx mA):∃ od,h.get? dx=some od/\∀ name,PySem.W.lookIn name od=some (mA name):=by
 obtain ⟨o,es,ep,ho,hd,hk,_,hm⟩:=n;refine ⟨o,ho,λname=> ?_⟩;have e:=hm name;unfold nsFind findBy at e;rw [← Array.find?_toList] at e;unfold PySem.W.lookIn;rw [hd];dsimp only;split
 ·rename_i y q;rw [q] at e;exact congrArg some e
 ·rename_i q;rw [q] at e;have a:es.toList.any (·.refKey)=false:=by
   rw [List.any_eq_false];intro y hy;obtain ⟨z,t,hkey⟩:=hk y (Array.mem_toList_iff.mp hy);simp [DictEntry.refKey,hkey]
  have a' :¬ es.toList.any (·.refKey)=true:=by rw [a]; exact Bool.false_ne_true
  rw [if_neg a'];exact congrArg some e
theorem G8.look {h:Heap} {x dx C:Addr} {mA:Str->Option Value} (I:G8 h x dx C mA):∃ od,PySem.W.InstAt h x (PySem.W.instObj C dx) C (some od)/\∀ name,PySem.W.lookIn name od=some (mA name):=
 let ⟨od,ho,hl⟩:=Yb I.ns
 ⟨od,⟨I.obj,rfl,rfl,ho⟩,hl⟩
section
variable {prog:Program} {w:World} {A:Around} {E:Value->Shared->Prop} {s:Shared} {K:PySem.W.Frag} {x dx C f:Addr} {mA:Str->Option Value} {name:Str} {v:Value}
end
section
variable {P:Program} {w:World} {H H' :Hp} {h h' :Heap} {a C dx:Addr} {fs fs' :List (Str×V)}
theorem Vw (hok:HOk P w H h) (e:H a=some (.ins C dx fs)):∃ mA,G8 h a dx C mA/\(∀ f,gL (fs.lookup f) (mA f))/\PySem.Within mA (fs.map (·.1))/\fs.length<=1000/\H dx=some (.own a):=by
 obtain ⟨d,z,ne,ob,mA,n,r,q⟩:=(show ZD P w H h a (.ins C dx fs) from hok a _ e);exact ⟨mA,⟨ob,n,ne⟩,r,q,z,d⟩
end
structure Cls (K:PySem.W.Frag) (C:Addr):Prop where
 pg:PySem.W.plainGet K C Str.empty=true
 hd:PySem.W.hasDictIn K C=true
 po:PySem.W.plainOver K C=true
 sa:PySem.W.findIn K (.ref C) "__setattr__"=some (some (.builtin "object.__setattr__"))
theorem Cls.get {K:PySem.W.Frag} {C:Addr} (c:Cls K C) (f:Str):PySem.W.plainGet K C f=true:=c.pg
section
variable {X:Cx} {pins:List (Addr×Obj)} {σ:St} {H:Hp} {s:Shared} {a C dx:Addr} {fs:List (Str×V)} {f:Str} {v:V} {A:Around} {E:Value->Shared->Prop}
end
section
variable {X:Cx} {o e value:Expr} {f:Str} {pos pos' tpos:Pos} {ta tv:TE}
end
section
variable {X:Cx} {pins:List (Addr×Obj)} {σ:St} {H:Hp} {s:Shared} {A:Around} {E:Value->Shared->Prop} {Q:Value->Shared->Prop} {c:Value} {b:Bool}
inductive ym (K:PySem.W.Frag) (H:Hp):V->Value->Prop where
 | non:ym K H .non (.type "NoneType")
 | bl (x:Bool):ym K H (.bl x) (.type "bool")
 | int (i:Int):ym K H (.int i) (.type "int")
 | str (x:Str):ym K H (.str x) (.type "str")
 | flt (x:UInt64):ym K H (.flt x) (.type "float")
 | lst {a:Addr} {xs:List V} (e:H a=some (.lst xs)):ym K H (.ref a) (.type "list")
 | frz {a:Addr} {o:Obj} {xs:List V} (e:H a=some (.frz o (.lst xs))):ym K H (.ref a) (.type "list")
 | tup {a:Addr} {xs:List V} (e:H a=some (.tup xs)):ym K H (.ref a) (.type "tuple")
 | dK {a:Addr} {kvs:List (Key×V)} (e:H a=some (.dK kvs)):ym K H (.ref a) (.type "dict")
 | dT {a:Addr} {kvs:List (List Key×V)} (e:H a=some (.dT kvs)):ym K H (.ref a) (.type "dict")
 | ins {a C dx:Addr} {fs:List (Str×V)} (e:H a=some (.ins C dx fs)) (cl:Cls K C) (ha:PySem.W.findIn K (.ref C) "__class__"=some (some (.builtin "object.__class__")))
   (hn:PySem.W.specialIn K (.builtin "object.__class__") "__get__"=some (some (.builtin "getset_descriptor.__get__"))) (htk:PySem.W.takesIn K (.builtin "object.__class__")=some true)
   (hm:PySem.W.mroIn K C (.type "object")=some true):ym K H (.ref a) (.ref C)
theorem Yc {x:V} {u t:Value} (I:Inv X pins σ H s) (rx:ZJ x u) (ty:ym X.K H x t) (e:PySem.W.kitOne X.K t c=some b) (h:∀ tk,Q (.bool b) { s with toks:=tk }):
  wpAny (model X.prog X.w) A (call (.builtin "isinstance") [u,c]) Q E s:=by
 cases ty with
 | non=>cases (show u=Value.none from rx); exact PySem.W.kia_one PySem.W.kitx_none I.kIn True.intro e (λz=>nomatch z) h
 | bl y=>cases (show u=Value.bool y from rx); exact PySem.W.kia_one PySem.W.kitx_bool I.kIn True.intro e (λz=>nomatch z) h
 | int i=>obtain ⟨t,q⟩:=(show ∃ t,u=Value.int i t from rx); cases q; exact PySem.W.kia_one PySem.W.kitx_int I.kIn True.intro e (λz=>nomatch z) h
 | str y=>obtain ⟨t,q⟩:=(show ∃ t,u=Value.str y t from rx); cases q; exact PySem.W.kia_one PySem.W.kitx_str I.kIn True.intro e (λz=>nomatch z) h
 | flt y=>obtain ⟨t,q⟩:=(show ∃ t,u=Value.float y t from rx); cases q; exact PySem.W.kia_one PySem.W.kitx_float I.kIn True.intro e (λz=>nomatch z) h
 | @lst a xs ea=>
  cases (show u=Value.ref a from rx);obtain ⟨_,_,n,_,h1⟩:=(show ZD X.prog X.w H s.heap a (.lst xs) from I.hok a _ ea);exact PySem.W.kia_one PySem.W.kitx_list I.kIn ⟨_,h1,rfl⟩ e (λz=>nomatch z) h
 | @frz a ob xs ea=>
  cases (show u=Value.ref a from rx);obtain ⟨_,_,_,n,_,h1⟩:=(show ZD X.prog X.w H s.heap a (.frz ob (.lst xs)) from I.hok a _ ea);exact PySem.W.kia_one PySem.W.kitx_list I.kIn ⟨_,h1,rfl⟩ e (λz=>nomatch z) h
 | @tup a xs ea=>
  cases (show u=Value.ref a from rx);obtain ⟨_,_,_,p,_⟩:=(show ZD X.prog X.w H s.heap a (.tup xs) from I.hok a _ ea);obtain ⟨o,h1,h2,_⟩:=p;exact PySem.W.kia_one PySem.W.kitx_tuple I.kIn ⟨o,h1,h2⟩ e (λz=>nomatch z) h
 | @dK a kvs ea=>
  cases (show u=Value.ref a from rx);obtain ⟨_,_,vs,_,p⟩:=(show ZD X.prog X.w H s.heap a (.dK kvs) from I.hok a _ ea);obtain ⟨o,es,ep,h1,h2,_⟩:=p;exact PySem.W.kia_one PySem.W.kitx_dict I.kIn ⟨o,h1,h2.1⟩ e (λz=>nomatch z) h
 | @dT a kvs ea=>
  cases (show u=Value.ref a from rx);obtain ⟨_,_,xs,_,o,es,ep,h1,h2,_⟩:=(show ZD X.prog X.w H s.heap a (.dT kvs) from I.hok a _ ea);exact PySem.W.kia_one PySem.W.kitx_dict I.kIn ⟨o,h1,h2.1⟩ e (λz=>nomatch z) h
 | @ins a C dx fs ea cl ha hn htk hm=>
  cases (show u=Value.ref a from rx);obtain ⟨mA,O,_⟩:=Vw I.hok ea;obtain ⟨od,J,_⟩:=O.look;exact PySem.W.kia_one (PySem.W.kitx_own (cl.get _) cl.hd ha hn htk hm) I.kIn J e (λz=>nomatch z) h
end
end L2
namespace L2
open PySem PySem.Spec PyProof.Rows
structure Jz (k:Nat) (A:Around):Prop where
 hd:A.handled=none
 dp:A.depth+3*k+5 < recursionLimit
 un:A.units+16*k+200 < cLine
theorem Jz.mono {j k:Nat} {A:Around} (r:Jz k A) (h:j<=k):Jz j A:=⟨r.hd,by have:=r.dp; omega,by have:=r.un; omega⟩
theorem Jz.deeper {k:Nat} {A:Around} (r:Jz (k+1) A) (env:Env):Jz k (A.deeper env):=
 ⟨r.hd,by have:=r.dp; show A.depth+1+3*k+5 < _; omega,by have:=r.un; show A.units+3+16*k+200 < _; omega⟩
theorem Jz.depth {k:Nat} {A:Around} (r:Jz k A):A.depth < recursionLimit:=by have:=r.dp; omega
theorem Jz.units {k:Nat} {A:Around} (r:Jz k A):A.units+64 < cLine:=by have:=r.un; omega
def tNil:TA:=λ_ H Q=>Q [] H
def G9 (ta:TE) (tr:TA):TA:=λσ H Q=>ta σ H λx H1=>tr σ H1 λxs H2=>Q (x :: xs) H2
section
variable {X:Cx} {e:Expr} {es:List Expr} {te:TE} {t:TA} {pos:Pos}
theorem Zf:PA X [] tNil:=λ_ _ _ _ H Q I h=>Calls.spliced_nil ⟨[],H,I, .nil,h⟩
theorem zA (ha:PE X e te) (hr:PA X es t) (hs:starEach (e :: es) X.env=(false,eval e X.env) :: starEach es X.env:=by rfl):PA X (e :: es) (G9 te t):=by
 intro pos pins s σ H Q I h;rw [hs];show wpAny _ _ (spliced ((false,eval e X.env) :: backTo pos (starEach es X.env))) _ _ s;refine Calls.spliced_cons (thn (ha pins s σ H _ I h) λu s1 ⟨x,H1,I1,r1,q1⟩=> ?_);exact thn (hr pos pins s1 σ H1 _ I1 q1) λus s2 ⟨xs,H2,I2,r2,q2⟩=>⟨x :: xs,H2,I2, .cons r1 r2,q2⟩
def tTup (t:TA):TE:=λσ H Q=>t σ H λxs H1=>xs.length<=sizeLine/\∀ p,H1 p=none->Q (.ref p) (upd H1 p (.tup xs))
def tLst (t:TA):TE:=λσ H Q=>t σ H λxs H1=>xs.length<=sizeLine/\∀ p,H1 p=none->Q (.ref p) (upd H1 p (.lst xs))
theorem kh {x1} (h:PA X es t):PE X (.Tuple es x1 pos) (tTup t):=by
 intro pins s σ H Q I hq;refine wpAny_Tuple_spliced (thn (h pos pins s σ H _ I hq) λus s1 ⟨xs,H1,I1,r,z,q⟩=>⟨by rw [← r.length]; exact z, ?_⟩)
 have hf:H1 s1.heap.objs.size=none:=I1.hok.fresh (Nat.le_refl _);refine ⟨.ref s1.heap.objs.size,upd H1 s1.heap.objs.size (.tup xs),I1.laid (t' :=s1.toks) (λb u e=>Heap.get?_push_of_some _ e) (Nat.le_refl _) ?_,rfl,q _ hf⟩;exact ⟨z,us,r,⟨_,Heap.get?_push_size _ rfl,rfl,_,rfl⟩, .inr ⟨_,Heap.get?_push_size _ rfl,rfl⟩⟩
theorem vJ (h:PA X es t):PE X (.List es pos) (tLst t):=by
 intro pins s σ H Q I hq;refine wpAny_List_spliced (thn (h pos pins s σ H _ I hq) λus s1 ⟨xs,H1,I1,r,z,q⟩=>⟨by rw [← r.length]; exact z, ?_⟩)
 have hf:H1 s1.heap.objs.size=none:=I1.hok.fresh (Nat.le_refl _);refine ⟨.ref s1.heap.objs.size,upd H1 s1.heap.objs.size (.lst xs),I1.laid (t' :=s1.toks) (λb u e=>Heap.get?_push_of_some _ e) (Nat.le_refl _) ?_,rfl,q _ hf⟩;exact ⟨z,us,0,r,Heap.get?_push_size _ rfl⟩
end
abbrev Sp:=List V->Hp->VK->XK->Prop
abbrev CXT:=List Env->Hp->Shared->XK->Value->Shared->Prop
structure gd (P:Program) (w:World) (K:PySem.W.Frag) (mg:Str->Option Value) (base:Heap) (A:Around) (outer:List Env) (s:Shared) (H:Hp):Prop where
 frames:A.frames=some outer
 mod:Mod K mg base
 bs:∀ b o,base.get? b=some o->s.heap.get? b=some o/\H b=none
 bsz:base.objs.size<=s.heap.objs.size
 funs:s.heap.FunFrames base outer
 frf:∀ b∈frs outer,H b=none
 hok:HOk P w H s.heap
 bare:AllBare s.gens
def CE (outer:List Env) (P:Program) (w:World) (H:Hp) (s:Shared) (Q:VK) (u:Value) (s' :Shared):Prop:=
 ∃ v H',s'.os=s.os/\AllBare s'.gens/\Un (frs outer) [] H H' s.heap s'.heap/\HOk P w H' s'.heap/\ZJ v u/\Q v H'
def CR (CX:CXT) (outer:List Env) (P:Program) (w:World) (H:Hp) (s:Shared) (Q:VK) (E:XK) (r:Result) (s' :Shared):Prop:=
 match r with
 | .ok (.ret u)=>CE outer P w H s Q u s'
 | .ok _=>False
 | .error e=>CX outer H s E e s'
structure Zm (P:Program) (w:World) (K:PySem.W.Frag) (mg:Str->Option Value) (base:Heap) (CX:CXT) (k:Nat) (f:Addr) (fd:FuncData) (ps:List Str) (sp:Sp):Prop where
 len:∀ vs H Q E,sp vs H Q E->vs.length=ps.length
 run:∀ (A:Around) (outer:List Env) (s:Shared) (H:Hp) (args:Args) (us:List Value) (vs:List V) (Q:VK) (E:XK),Jz k A->gd P w K mg base A outer s H->BindsTo s fd args (ps.zip us)->Zy vs us->sp vs H Q E->
  codeAny (model P w) A (.call (.ref f) args) (CR CX outer P w H s Q E) s
section
variable {X:Cx} {pins:List (Addr×Obj)} {σ:St} {H:Hp} {s s' :Shared}
theorem Inv.env0 (I:Inv X pins σ H s):gd X.prog X.w X.K X.mg X.base X.A X.stack s H:=
 ⟨I.ok.frames,I.ok.mod,I.bs,Nat.le_trans I.ok.bsz I.sz,I.stack,I.stkFree,I.hok,I.bare⟩
theorem Inv.after {Q:VK} {u:Value} (I:Inv X pins σ H s) (h:CE X.stack X.prog X.w H s Q u s'):EP X pins σ Q u s' :=by
 obtain ⟨v,H',os,bare,un,hok,r,q⟩:=h;obtain ⟨hh,g,d,t,os'⟩:=s';obtain rfl:os' =s.os:=os;exact ⟨v,H',I.call (h' :=hh) (g' :=g) (d' :=d) (t' :=t) (ch:=[]) un hok bare (λb z=>absurd z (by simp)),r,q⟩
end
def Ga (sp:Sp) (dvs:List V) (E:XK) (t:TA):TE:=λσ H Q=>t σ H λvs H1=>sp (vs++dvs) H1 Q E
def Binds (K:PySem.W.Frag) (fd:FuncData) (ps:List Str) (ds:List Value):Prop:=
 ∀ (s:Shared) (us:List Value),K.In s.heap->(us++ds).length=ps.length->BindsTo s fd ⟨us,[]⟩ (ps.zip (us++ds))
theorem Binds.all {K:PySem.W.Frag} {fd:FuncData} {ps:List Str} (h:∀ us:List Value,us.length=ps.length->bindArgs fd ⟨us,[]⟩=pure (ps.zip us)):Binds K fd ps []:=λs us _ hl=>by
 rw [List.append_nil] at hl ⊢;exact .of_eq (h us hl)
def jA (CX:CXT) (X:Cx) (E:XK):Prop:=∀ (pins:List (Addr×Obj)) (σ:St) (H:Hp) (s:Shared) (e:Value) (s' :Shared),Inv X pins σ H s->CX X.stack H s E e s' ->X.xe e s'
section
variable {X:Cx} {CX:CXT} {k:Nat} {f C:Addr} {fd:FuncData} {ps:List Str} {sp:Sp} {dvs:List V} {ds:List Value} {E:XK} {x m:Str} {p pos apos:Pos} {e o:Expr} {es:List Expr} {ta:TE} {t:TA}
theorem ki {pins:List (Addr×Obj)} {σ:St} {H:Hp} {s:Shared} {Q:VK} {us:List Value} {vs:List V} (F:Zm X.prog X.w X.K X.mg X.base CX k f fd ps sp) (hr:Jz k X.A) (hb:Binds X.K fd ps ds) (hd:Zy dvs ds) (hx:jA CX X E)
  (I:Inv X pins σ H s) (r:Zy vs us) (h:sp (vs++dvs) H Q E):wpAny (model X.prog X.w) X.A (call (.ref f) us) (EP X pins σ Q) X.xe s:=by
 have r2:Zy (vs++dvs) (us++ds):=r.append hd;have hl:(us++ds).length=ps.length:=by rw [← r2.length]; exact F.len _ _ _ _ h
 refine wpAny_call (codeAny_mono (F.run X.A X.stack s H ⟨us,[]⟩ (us++ds) (vs++dvs) Q E hr I.env0 (hb s us I.kIn hl) r2 h) λr s' hq=> ?_);cases r with
 | error e=>exact hx pins σ H s e s' I hq
 | ok fl=>
  cases fl with
  | ret u=>exact I.after hq
  | next=>exact False.elim hq
  | brk=>exact False.elim hq
  | cont=>exact False.elim hq
theorem Yd (F:Zm X.prog X.w X.K X.mg X.base CX k f fd ps sp) (hr:Jz k X.A) (hg:Gl X x) (hm:X.mg x=some (.ref f)) (hk:PySem.W.keepIn X.K (.ref f)=true) (hb:Binds X.K fd ps ds) (hd:Zy dvs ds) (hx:jA CX X E)
  (ha:PA X (e :: es) t) (hdb:(x == ("__debug__":Str))=false:=by decide) (he:starEach (e :: es) X.env=(false,eval e X.env) :: starEach es X.env:=by rfl) (hpl:(backTo pos (starEach es X.env)).any (·.1)=false:=by rfl):
  PE X (.Call (.Name x p) (e :: es) [] pos) (Ga sp dvs E t):=by
 intro pins s σ H Q I h;refine wpAny_Call_Name_kw (Wk I hg hm ?_ hdb);refine PySem.W.callWith_K (h₀:=X.base) I.ok.mod.kin hk (thn (ha pos pins s σ H _ I h) λus s1 ⟨vs,H1,I1,r,q⟩=>⟨I1.kIn, ?_⟩) he hpl;exact ki F hr hb hd hx I1 r q
end
section
variable {X:Cx} {CX:CXT} {k:Nat} {f C:Addr} {fd:FuncData} {ps ks:List Str} {sp:Sp} {E:XK} {x m:Str} {p pos apos kpos:Pos} {e o:Expr} {es:List Expr} {kws:List Keyword} {te ta:TE} {t tk:TA} {nm:Option Str}
variable {g:List Value->List Value->List Value} {gV:List V->List V->List V}
end
structure zp (N P:List Str) (sc:Scope):Prop where
 kind:sc.kind= .function
 co:sc.isCoroutine=false
 gen:sc.isGenerator=false
 nd:N.Nodup
 pre:N.take P.length=P
 par:∀ x∈P,sc.names.lookup x=some .local\/sc.names.lookup x=some .cell
 nofree:∀ y∈sc.names,y.2 ≠ .free
theorem u7 {kindOf:Str->Option NameKind} {x:Str}:∀ {binds:List (Str×Value)} {m:Str->Option Value},(∀ v,(x,v) ∉ binds)->bindL kindOf binds m x=m x
 | [],_,_=>rfl
 | (n,v) :: r,m,h=>by
  unfold bindL;rw [u7 λw hw=>h w (List.mem_cons_of_mem _ hw)];split
  ·have:x ≠ n:=by rintro rfl; exact h v List.mem_cons_self
   simp [this]
  ·rfl
theorem u8 {kindOf:Str->Option NameKind} {x:Str}:∀ {binds:List (Str×Value)} {m:Str->Option Value},(∀ v,(x,v) ∉ binds)->bindC kindOf binds m x=m x
 | [],_,_=>rfl
 | (n,v) :: r,m,h=>by
  unfold bindC;rw [u8 λw hw=>h w (List.mem_cons_of_mem _ hw)];split
  ·rfl
  ·have:x ≠ n:=by rintro rfl; exact h v List.mem_cons_self
   simp [this]
theorem u9 {kindOf:Str->Option NameKind} {x:Str} {v:Value}:∀ {P:List Str} {vs:List Value} {i:Nat} {m:Str->Option Value},P.Nodup->P[i]? =some x->vs[i]? =some v->kindOf x=some .local->
  bindL kindOf (P.zip vs) m x=some v
 | [],_,_,_,_,h,_,_=>by simp at h
 | _ :: _,[],_,_,_,_,h,_=>by simp at h
 | p :: P,w :: vs,0,m,nd,h1,h2,hk=>by
  simp at h1 h2; subst h1; subst h2;show bindL kindOf ((p,w) :: P.zip vs) m p=_;unfold bindL;rw [u7 λv hv=>(List.nodup_cons.mp nd).1 (List.of_mem_zip hv).1,if_pos hk];simp
 | p :: P,w :: vs,i+1,m,nd,h1,h2,hk=>by
  show bindL kindOf ((p,w) :: P.zip vs) m x=_;unfold bindL;exact u9 (i:=i) (List.nodup_cons.mp nd).2 (by simpa using h1) (by simpa using h2) hk
theorem ua {kindOf:Str->Option NameKind} {x:Str} {v:Value}:∀ {P:List Str} {vs:List Value} {i:Nat} {m:Str->Option Value},P.Nodup->P[i]? =some x->vs[i]? =some v->kindOf x ≠ some .local->
  bindC kindOf (P.zip vs) m x=some v
 | [],_,_,_,_,h,_,_=>by simp at h
 | _ :: _,[],_,_,_,_,h,_=>by simp at h
 | p :: P,w :: vs,0,m,nd,h1,h2,hk=>by
  simp at h1 h2; subst h1; subst h2;show bindC kindOf ((p,w) :: P.zip vs) m p=_;unfold bindC;rw [u8 λv hv=>(List.nodup_cons.mp nd).1 (List.of_mem_zip hv).1,if_neg hk];simp
 | p :: P,w :: vs,i+1,m,nd,h1,h2,hk=>by
  show bindC kindOf ((p,w) :: P.zip vs) m x=_;unfold bindC;exact ua (i:=i) (List.nodup_cons.mp nd).2 (by simpa using h1) (by simpa using h2) hk
def start (N:List Str) (vs:List V):St:=vs.map some++List.replicate (N.length - vs.length) none
def wo (CX:CXT) (P:Program) (w:World) (K:PySem.W.Frag) (mg:Str->Option Value) (base:Heap) (N:List Str) (qual:Str) (scope:Scope) (f:Addr) (cd:Value) (A:Around) (outer:List Env) (s:Shared) (H:Hp) (E:XK):Cx where
 prog:=P
 w:=w
 K:=K
 mg:=mg
 base:=base
 A:=A.deeper (envOfC qual scope s.heap.objs.size f cd)
 N:=N
 s₀:=s
 H₀:=H
 env:=envOfC qual scope s.heap.objs.size f cd
 outer:=outer
 stack:=envOfC qual scope s.heap.objs.size f cd :: outer
 ex:=[]
 calm:=true
 fn:=λ_=>true
 pn:=[]
 xe:=λe s' =>wpAny (model P w) (A.deeper (envOfC qual scope s.heap.objs.size f cd)) (leaving (envOfC qual scope s.heap.objs.size f cd) e) (λ_ s'' =>CX outer H s E e s'') (λe' s'' =>CX outer H s E e' s'') s'
theorem Ux {sc:Scope} {n:Nat} {x:Str} (h:sc.names.lookup x=some .cell):∃ c,(cellsFrom n sc.names []).lookup x=some c:=by
 have q:=PySem.W.cellsFrom_some sc.names n [] (.inl h);exact Option.isSome_iff_exists.mp q
theorem Ye {CX:CXT} {P:Program} {w:World} {K:PySem.W.Frag} {mg:Str->Option Value} {base:Heap} {N ps:List Str} {qual:Str} {scope:Scope} {f:Addr} {cd:Value} {A:Around} {outer:List Env} {s s1:Shared} {H:Hp} {E:XK} {us:List Value} {vs:List V}
  (S:zp N ps scope) (hd:A.handled=none) (e0:gd P w K mg base A outer s H) (hl:vs.length=ps.length) (r:Zy vs us)
  (x:InCallC s s.heap.objs.size (bindL (envOfC qual scope s.heap.objs.size f cd).kindOf (ps.zip us) λ_=>none) (cellsFrom (s.heap.objs.size+1) scope.names []) (bindC (envOfC qual scope s.heap.objs.size f cd).kindOf (ps.zip us) λ_=>none) s1):
  Inv (wo CX P w K mg base N qual scope f cd A outer s H E) [] (start N vs) H s1:=by
 have hpl:ps.length<=N.length:=by have:=congrArg List.length S.pre; rw [List.length_take] at this; omega
 obtain ⟨h1,tk,rfl,hk⟩:=x.done;have noA:∀ b:Addr,b ∉ (wo CX P w K mg base N qual scope f cd A outer s H E).ex:=λb z=>absurd (show b∈([]:List Addr) from z) (by simp)
 refine ⟨⟨e0.mod,S.kind,rfl,rfl,Nat.le_refl _,λy z c h1 h2=> ?_,λy hy=> ?_,λy c _ h=> ?_,λ_=>hd,Around.frames_deeper e0.frames, .inr ⟨rfl,rfl⟩,λb z=>absurd z (noA b),e0.bs,e0.bsz,λb _ _=>noA b,λb z=>absurd z (noA b),e0.funs,e0.frf⟩,
  rfl,e0.bare,Un.kept hk,⟨_,x.toInCall.ns,λi y v h1 h2 h3=> ?_⟩,λy c h=>⟨_,x.cell y c h⟩,e0.hok.fresh (Nat.le_refl _),λy c h=> ?_,λp hp=>absurd (show p∈([]:List (Addr×Obj)) from hp) (by simp),e0.hok.kept hk, ?_⟩
 ·exact name_of_addr x.apart (PySem.mem_of_lookup h1) (PySem.mem_of_lookup h2)
 ·have hy:scope.names.lookup y=some .cell\/scope.names.lookup y=some .free:=hy;rcases hy with hy | hy
  ·exact Ux hy
  ·exact absurd rfl (S.nofree _ (PySem.mem_of_lookup hy))
 ·exact Nat.le_of_lt (x.above y c (PySem.mem_of_lookup h))
 ·have hi:i < vs.length:=by
   unfold start at h2
   by_cases hi:i < vs.length
   ·exact hi
   ·rw [List.getElem?_append_right (by simpa using hi)] at h2
    rw [List.getElem?_replicate] at h2;split at h2 <;> cases h2
  have ha:vs[i]? =some v:=by
   unfold start at h2;rw [List.getElem?_append_left (by simpa using hi),List.getElem?_map] at h2
   cases e:vs[i]? with
   | none=>rw [e] at h2; cases h2
   | some a=>rw [e] at h2; cases h2; rfl
  obtain ⟨u,hu,rv⟩:=r.get ha;have hp:ps[i]? =some y:=by
   rw [← S.pre,List.getElem?_take_of_lt (by omega)]; exact h1
  have ndP:ps.Nodup:=by rw [← S.pre]; exact S.nd.sublist (List.take_sublist _ _)
  refine ⟨u,rv, ?_⟩;rcases S.par y (List.mem_of_getElem? hp) with k | k
  ·exact .inl ⟨k,u9 ndP hp hu k⟩
  ·obtain ⟨c,e⟩:=Ux (n:=s.heap.objs.size+1) k;refine .inr ⟨.inl k,c,e, ?_⟩;have q:=x.cell y c e;rw [ua ndP hp hu (by show scope.names.lookup y ≠ _; rw [k]; decide)] at q
   exact q
 ·exact e0.hok.fresh (Nat.le_of_lt (x.above y c (PySem.mem_of_lookup h)))
 ·unfold start;show _=N.length;rw [List.length_append,List.length_map,List.length_replicate];omega
theorem kj {CX:CXT} {P:Program} {w:World} {K:PySem.W.Frag} {mg:Str->Option Value} {base:Heap} {k:Nat} {f:Addr} {name qual:Str} {params:Arguments} {body:List Stmt} {scope:Scope} {dV kV doc pm cdv ct oc:Value} {an od:Option Addr}
  {osl:Array (Option Value)} {N ps:List Str} {sp:Sp} (lk:K.lookup f=some ⟨oc,od, .func (PySem.W.fnOf name qual params body scope dV kV doc pm an cdv ct),osl⟩) (hcd:PySem.W.codeIn K cdv qual=true) (S:zp N ps scope)
  (len:∀ vs H Q E,sp vs H Q E->vs.length=ps.length)
  (hbody:∀ (A:Around) (outer:List Env) (s:Shared) (H:Hp) (vs:List V) (Q:VK) (E:XK),Jz k (A.deeper (envOfC qual scope s.heap.objs.size f cdv))->sp vs H Q E->
   ∃ t,PSs (wo CX P w K mg base N qual scope f cdv A outer s H E) body t/\t { nx:=λ_ H' =>Q .non H',rt:=Q } (start N vs) H):
  Zm P w K mg base CX (k+1) f (PySem.W.fnOf name qual params body scope dV kV doc pm an cdv ct) ps sp:=by
 refine ⟨len,λA outer s H args us vs Q E hr e0 hb r hsp=> ?_⟩;have hl:=len _ _ _ _ hsp;have KX:K.In s.heap:=e0.mod.kin.keeps λb o e=>(e0.bs b o e).1;have lim:s.heap.NoLimit:=e0.mod.nolimit.keeps λb o e=>(e0.bs b o e).1;have hkind:∀ y∈ps.zip us,scope.names.lookup y.1=some .local\/(scope.names.lookup y.1=some .cell/\((cellsFrom (s.heap.objs.size+1) scope.names []).lookup y.1).isSome=true):=λ⟨n,v⟩ hy=>by
  rcases S.par n (List.of_mem_zip hy).1 with q | q
  ·exact .inl q
  ·exact .inr ⟨q,PySem.W.cellsFrom_some _ _ _ (.inl q)⟩
 refine codeAny_call_function hr.depth (KX _ _ lk) rfl S.co S.gen rfl (PySem.W.codeRec_of KX hcd) (hb _ _ _ _ ?_);refine wpAny_newFunctionEnv_cells S.kind hkind λenv he s1 x=> ?_;subst he;refine ⟨lim.keeps x.toInCall.keep,codeAny_func ?_⟩;obtain ⟨t,ht,hq⟩:=hbody A outer s H vs Q E (hr.deeper _) hsp;have I:Inv (wo CX P w K mg base N qual scope f cdv A outer s H E) [] (start N vs) H s1:=Ye S hr.hd e0 hl r x;refine wpAny_mono (ht [] s1 (start N vs) H _ I hq) (λfl s' hs=> ?_) λe s' hs=>hs;have fin:∀ {σ' :St} {H' :Hp} {v:V} {u:Value},Inv (wo CX P w K mg base N qual scope f cdv A outer s H E) [] σ' H' s' ->ZJ v u->Q v H' ->CE outer P w H s Q u s' :=
  λ{σ' H' v u} J rv q=>⟨v,H',J.os,J.bare,J.base,J.hok,rv,q⟩
 cases fl with
 | ret u=>
  obtain ⟨v,σ',H',J,rv,q⟩:=hs;exact fin J rv q
 | next=>
  obtain ⟨σ',H',J,q⟩:=hs;exact fin (v:=V.non) (u:=Value.none) J rfl q
 | brk=>
  obtain ⟨_,_,_,q⟩:=hs;exact False.elim q
 | cont=>
  obtain ⟨_,_,_,q⟩:=hs;exact False.elim q
end L2
namespace L2
open PySem PySem.Spec PyProof.Rows
section
variable {X:Cx} {x:Str} {p pos:Pos} {e:Expr} {es:List Expr} {t:TA} {id T:String} {r:List V->Hp->VK->Prop}
def tCB (r:List V->Hp->VK->Prop) (t:TA):TE:=λσ H Q=>t σ H λvs H1=>r vs H1 Q
theorem jW (hc:ji X (.builtin id) r) (hg:Gl X x) (hm:X.mg x=none) (hv:bootBuiltins x=some (.builtin id)) (ha:PA X (e :: es) t) (hn:x ≠ "__name__":=by decide) (hdb:(x == ("__debug__":Str))=false:=by decide)
  (he:starEach (e :: es) X.env=(false,eval e X.env) :: starEach es X.env:=by rfl) (hpl:(backTo pos (starEach es X.env)).any (·.1)=false:=by rfl):PE X (.Call (.Name x p) (e :: es) [] pos) (tCB r t):=by
 intro pins s σ H Q I h;refine wpAny_Call_Name_kw (Ji I hg hm hv ?_ hn hdb);exact PyProof.Rows.callWith_builtin1 (thn (ha pos pins s σ H _ I h) λus s1 ⟨vs,H1,I1,r1,q1⟩=>hc pins s1 σ H1 vs us Q I1 r1 q1) he hpl
theorem Jj (hc:ji X (.type T) r) (hg:Gl X x) (hm:X.mg x=none) (hv:bootBuiltins x=some (.type T)) (ha:PA X (e :: es) t) (hn:x ≠ "__name__":=by decide) (hdb:(x == ("__debug__":Str))=false:=by decide)
  (he:starEach (e :: es) X.env=(false,eval e X.env) :: starEach es X.env:=by rfl) (hpl:(backTo pos (starEach es X.env)).any (·.1)=false:=by rfl):PE X (.Call (.Name x p) (e :: es) [] pos) (tCB r t):=by
 intro pins s σ H Q I h;refine wpAny_Call_Name_kw (Ji I hg hm hv ?_ hn hdb);exact PyProof.Rows.callWith_type1 (thn (ha pos pins s σ H _ I h) λus s1 ⟨vs,H1,I1,r1,q1⟩=>hc pins s1 σ H1 vs us Q I1 r1 q1) he hpl
end
end L2
namespace HT
open PySem PyProof.Rows
section
open PySem.SeqAt
open PySem.AutoSeq1 (wpAny_loadPart')
open PySem.MeetsSeq PySem.MeetsSeq2 PySem.MeetsSeq3
end
section
variable {prog:Program} {w:World} {A:Around} {E:Value->Shared->Prop} {s:Shared}
theorem cat_tup {t b:Addr} {vs ws:List Value} {Q:Value->Shared->Prop} (ht:IsTup s.heap t vs.toArray) (hb:IsTup s.heap b ws.toArray) (hv:vs ≠ [])
  (h1:ws=[]->Q (.ref t) s) (h2:ws ≠ []->Q (.ref s.heap.objs.size) { s with heap:=s.heap.push { cls:= .type "tuple",data:= .seq (vs++ws).toArray } })
  (hsz:vs.length+ws.length<=sizeLine):wpAny (model prog w) A (binaryOp .Add (.ref t) (.ref b)) Q E s:=by
 obtain ⟨⟨cls,dd,data,sl⟩,ho,hc,n,hd⟩:=id ht;obtain ⟨⟨cls2,dd2,data2,sl2⟩,ho2,hc2,n2,hd2⟩:=id hb;simp only at hc hd hc2 hd2;subst hc hd hc2 hd2;have e:vs.toArray++ws.toArray=(vs++ws).toArray:=by simp
 by_cases hw:ws=[]
 ·exact concat_meets ⟨_,ho,rfl⟩ ⟨_,ho2,rfl⟩ noFill_tuple_add seq_tuple_add PySem.F.slot_tuple_add PySem.F.entry_tuple_add (PySem.F.args_tuple_add_2 _ _)
   (tuple_addW1 t b vs.toArray ws.toArray n n2 dd dd2 sl sl2 (by simpa using hv) (by simp [hw])) ⟨ho,ho2,h1 hw⟩
 ·refine concat_meets ⟨_,ho,rfl⟩ ⟨_,ho2,rfl⟩ noFill_tuple_add seq_tuple_add PySem.F.slot_tuple_add PySem.F.entry_tuple_add (PySem.F.args_tuple_add_2 _ _)
   (tuple_addW2 t b vs.toArray ws.toArray n n2 dd dd2 sl sl2 (by simpa using hv) (by simpa using hw) (by rw [List.size_toArray,List.size_toArray]; exact hsz)) ⟨ho,ho2, ?_⟩
  rw [e];exact h2 hw
def sIx (n d:Nat):Option Int->Nat
 | none=>d
 | some v=>if v < 0 then (v+(n:Int)).toNat else min v.toNat n
theorem sIx_none (n d:Nat):sIx n d none=d:=rfl
theorem sIx_nat (n d k:Nat):sIx n d (some (k:Int))=min k n:=by
 show (if (k:Int) < 0 then ((k:Int)+(n:Int)).toNat else min (k:Int).toNat n)=min k n
 rw [if_neg (by omega),Int.toNat_natCast]
theorem kl (n d:Nat) (hd:d<=n) (o:Option Int):sIx n d o<=n:=by
 cases o with
 | none=>exact hd
 | some v=>
  show (if v < 0 then (v+(n:Int)).toNat else min v.toNat n)<=n
  by_cases hv:v < 0
  ·rw [if_pos hv]; omega
  ·rw [if_neg hv]; exact Nat.min_le_right _ _
theorem Yf (v:Int) (n d:Nat):(if v < 0 then max (v+(n:Int)) 0 else min v (n:Int))=((sIx n d (some v):Nat):Int):=by
 show (if v < 0 then max (v+(n:Int)) 0 else min v (n:Int))=(((if v < 0 then (v+(n:Int)).toNat else min v.toNat n):Nat):Int)
 by_cases hv:v < 0
 ·simp only [if_pos hv]; omega
 ·simp only [if_neg hv]; omega
theorem yn (lo hi:Option Int) (n:Nat):Builtin.Slice.sliceAdjust lo hi 1 (n:Int)=(((sIx n 0 lo:Nat):Int),((sIx n n hi:Nat):Int)):=by
 have h1:¬ ((1:Int) < 0):=by omega
 unfold Builtin.Slice.sliceAdjust;simp only [h1,if_false];refine Prod.ext ?_ ?_
 ·cases lo with
  | none=>rfl
  | some v=>exact Yf v n 0
 ·cases hi with
  | none=>rfl
  | some v=>exact Yf v n n
theorem yo (i j:Nat):Builtin.Slice.slicePlaces (i:Int) (j:Int) 1=j - i:=by
 unfold Builtin.Slice.slicePlaces;have h1:(1:Int) > 0:=by omega
 simp only [h1,if_true,Int.ediv_one];split <;> omega
theorem W5 {v:Value} {o:Option Int} {Q:Option Int->Shared->Prop} (p:IsPart v o) (h:Q o s):wpAny (model prog w) A (Builtin.Slice.slicePartIndex v) Q E s:=by
 cases p with
 | none=>exact slicePart_none h
 | int i t=>exact slicePart_int h
theorem sliceApplied_gen {sl:Addr} {vl vu:Value} {lo hi:Option Int} {n:Nat} {Q:Int×Int×Nat->Shared->Prop} (hs:s.heap.IsSliceOf sl vl vu .none) (pl:IsPart vl lo) (pu:IsPart vu hi)
  (h:Q (((sIx n 0 lo:Nat):Int),1,sIx n n hi - sIx n 0 lo) s):wpAny (model prog w) A (Builtin.Slice.sliceApplied (.ref sl) (pure (n:Int))) Q E s:=by
 obtain ⟨os,hos,hcs,hds⟩:=id hs;unfold Builtin.Slice.sliceApplied Builtin.Slice.sliceFields;refine wpAny_bind (wpAny_bind (wpAny_field hos hds (x:=vl) rfl (wpAny_bind (wpAny_field hos hds (x:=vu) rfl (wpAny_bind (wpAny_field hos hds (x:= .none) rfl (wpAny_pure ?_)))))));refine wpAny_bind (slicePart_none ?_);show wpAny _ _ (if ((1:Int) == 0)=true then _ else _) _ _ s
 rw [if_neg (by decide)]
 refine wpAny_bind (W5 pl (wpAny_bind (W5 pu (wpAny_bind (wpAny_pure ?_)))));show wpAny _ _ (match Builtin.Slice.sliceAdjust lo hi 1 (n:Int) with | (lo,hi)=>pure (lo,(1:Int),Builtin.Slice.slicePlaces lo hi 1)) _ _ s
 rw [yn lo hi n];show wpAny _ _ (pure (((sIx n 0 lo:Nat):Int),(1:Int),Builtin.Slice.slicePlaces ((sIx n 0 lo:Nat):Int) ((sIx n n hi:Nat):Int) 1)) _ _ s;rw [yo];exact wpAny_pure h
theorem Qt (xs:Array Value) (i k:Nat):((List.range k).filterMap λ(m:Nat)=>xs[((i:Int)+(m:Int)*1).toNat]?).toArray=((xs.toList.drop i).take k).toArray:=by
 have e:(λ(m:Nat)=>xs[((i:Int)+(m:Int)*1).toNat]?)=λm=>xs[i+m]? :=by
  funext m
  have:((i:Int)+(m:Int)*1).toNat=i+m:=by omega
  rw [this]
 rw [e];have:=pick_run xs i k;rw [List.filterMap_map] at this;have e2:((λx=>xs[x]?) ∘ λx=>i+x)=λm=>xs[i+m]? :=rfl;rw [e2] at this;rw [this]
theorem getItem_tuple_cut {t sl:Addr} {items:Array Value} {vl vu:Value} {lo hi:Option Int} {Q:Value->Shared->Prop} (ht:IsTup s.heap t items) (hs:s.heap.IsSliceOf sl vl vu .none) (pl:IsPart vl lo) (pu:IsPart vu hi)
  (hw:¬ (sIx items.size 0 lo=0/\sIx items.size items.size hi=items.size))
  (h:Q (.ref s.heap.objs.size) { s with heap:=s.heap.push { cls:= .type "tuple",data:= .seq ((items.toList.drop (sIx items.size 0 lo)).take (sIx items.size items.size hi - sIx items.size 0 lo)).toArray } })
  (hsz:items.size<=sizeLine):wpAny (model prog w) A (getItem (.ref t) (.ref sl)) Q E s:=by
 have htake:sizeOk (.seq ((items.toList.drop (sIx items.size 0 lo)).take (sIx items.size items.size hi - sIx items.size 0 lo)).toArray):=by
  show ((items.toList.drop (sIx items.size 0 lo)).take (sIx items.size items.size hi - sIx items.size 0 lo)).toArray.size<=sizeLine;rw [List.size_toArray,List.length_take,List.length_drop,Array.length_toList];omega
 have hj:sIx items.size items.size hi<=items.size:=kl _ _ (Nat.le_refl _) hi;obtain ⟨os,hos,hcs,hds⟩:=id hs;have hTs:s.TypeIs (.ref sl) "slice":=⟨os,hos,hcs⟩;unfold getItem
 try with_reducible refine wpAny_holding ?_
 first | refine wpAny_bind (wpAny_pure ?_) | skip
 refine wpAny_bind (wpAny_sequenceKey ht.typeIs (by decide) ?_)
 refine wpAny_bind (wpAny_callSpecial?_slot (name:=Str.ofString "__getitem__") ht.typeIs PyProof.Rows.slot_tuple_getitem
  (wpAny_call_entry PyProof.Rows.slot_tuple_getitem ht.typeIs entry_tuple_getitem ?_ (args_tuple_getitem _ _)))
 show wpAny _ _ (Builtin.Tuple.tupleItemsOf (.ref t) >>= _) _ _ s;refine wpAny_bind (tupleItemsOf_ ht ?_);refine wpAny_bind (wpAny_typeOf hTs ?_);rw [if_pos (by decide)]
 refine wpAny_bind (sliceApplied_gen hs pl pu ?_);have hno:¬ ((((sIx items.size 0 lo:Nat):Int) == 0 && (1:Int) == 1 && (sIx items.size items.size hi - sIx items.size 0 lo) == items.size)=true):=by
  intro q;rw [Bool.and_eq_true,Bool.and_eq_true] at q;have q1:((sIx items.size 0 lo:Nat):Int)=0:=eq_of_beq q.1.1;have q2:sIx items.size items.size hi - sIx items.size 0 lo=items.size:=eq_of_beq q.2;exact hw ⟨by omega,by omega⟩
 show wpAny _ _ (if (((sIx items.size 0 lo:Nat):Int) == 0 && (1:Int) == 1 && (sIx items.size items.size hi - sIx items.size 0 lo) == items.size)=true then _ else _) _ _ s
 rw [if_neg hno,Qt]
 first
  | exact wpAny_bind (m:=Builtin.Tuple.tupleExact _) (wpAny_newObj_type (wpAny_pure ⟨_,rfl,wpAny_pure h⟩) htake)
  | exact wpAny_bind (m:=Builtin.Tuple.tupleExact _) (wpAny_newObj_type (wpAny_bind (wpAny_pure (wpAny_pure ⟨_,rfl,wpAny_pure h⟩))) htake)
  | exact wpAny_bind (wpAny_bind (m:=Builtin.Tuple.tupleExact _) (wpAny_newObj_type (wpAny_pure (wpAny_pure ⟨_,rfl,wpAny_pure h⟩)) htake))
  | exact wpAny_bind (wpAny_bind (m:=Builtin.Tuple.tupleExact _) (wpAny_newObj_type (wpAny_pure ⟨_,rfl,wpAny_pure h⟩) htake))
end
end HT
namespace L2
open PySem PySem.Spec PyProof.Rows
abbrev TO:=St->Hp->(Option Int->Hp->Prop)->Prop
def PO (X:Cx) (e:Option Expr) (t:TO):Prop:=
 ∀ (pins:List (Addr×Obj)) (s:Shared) (σ:St) (H:Hp) (Q:Option Int->Hp->Prop),Inv X pins σ H s->t σ H Q->
  wpAny (model X.prog X.w) X.A (evalPart e X.env) (λu s' =>∃ o H',Inv X pins σ H' s' /\IsPart u o/\Q o H') X.xe s
def Vx:TO:=λ_ H Q=>Q none H
def Gb (t:TE):TO:=λσ H Q=>t σ H λx H1=>∃ i,x= .int i/\Q (some i) H1
section
variable {X:Cx} {e:Expr} {te:TE} {lo hi:Option Expr} {tl th:TO} {pos p2:Pos}
theorem Vy:PO X none Vx:=by
 intro pins s σ H Q I h;rw [evalPart_none];exact wpAny_pure ⟨none,H,I, .none,h⟩
theorem Vz (h:PE X e te):PO X (some e) (Gb te):=by
 intro pins s σ H Q I hw;rw [evalPart_some];refine thn (h pins s σ H _ I hw) λu s1 ⟨x,H1,I1,r1,q1⟩=> ?_;obtain ⟨i,rfl,q⟩:=q1;obtain ⟨t,rfl⟩:=r1;exact ⟨some i,H1,I1, .int i t,q⟩
def SlR (X:Cx) (r:V->Option Int->Option Int->Hp->VK->Prop):Prop:=
 ∀ (pins:List (Addr×Obj)) (s:Shared) (σ:St) (H:Hp) (x:V) (v vl vu:Value) (lo hi:Option Int) (sl:Addr) (Q:VK),Inv X pins σ H s->ZJ x v->s.heap.IsSliceOf sl vl vu .none->IsPart vl lo->IsPart vu hi->r x lo hi H Q->
  ∃ T id,typeLookup (.type T) "__getitem__"=pure (some (.builtin id))/\s.TypeIs v T/\wpAny (model X.prog X.w) X.A (getItem v (.ref sl)) (EP X pins σ Q) X.xe s
theorem SlR.or {r r' :V->Option Int->Option Int->Hp->VK->Prop} (h:SlR X r) (h' :SlR X r'):SlR X (λx lo hi H Q=>r x lo hi H Q\/r' x lo hi H Q):=by
 intro pins s σ H x v vl vu lo hi sl Q I rx hs pl pu q;rcases q with q | q
 ·exact h pins s σ H x v vl vu lo hi sl Q I rx hs pl pu q
 ·exact h' pins s σ H x v vl vu lo hi sl Q I rx hs pl pu q
def tSl (r:V->Option Int->Option Int->Hp->VK->Prop) (te:TE) (tl th:TO):TE:=λσ H Q=>te σ H λx H1=>tl σ H1 λl H2=>th σ H2 λu H3=>r x l u H3 Q
theorem Uy {r:V->Option Int->Option Int->Hp->VK->Prop} (hr:SlR X r) (he:PE X e te) (hl:PO X lo tl) (hu:PO X hi th):PE X (.Subscript e (.Slice lo hi none p2) pos) (tSl r te tl th):=by
 intro pins s σ H Q I h;refine Subscript_ (thn (he pins s σ H _ I h) λv s1 ⟨x,H1,I1,r1,q1⟩=> ?_);refine wpAny_Slice (thn (hl pins s1 σ H1 _ I1 q1) λvl s2 ⟨l,H2,I2,pl,q2⟩=>thn (hu pins s2 σ H2 _ I2 q2) λvu s3 ⟨u,H3,I3,pu,q3⟩=> ?_);rw [evalPart_none];refine wpAny_pure ?_;have I4:Inv X pins σ H3 { s3 with heap:=s3.heap.push { cls:= .type "slice",data:= .fields #[vl,vu, .none] } }:=I3.kept (t' :=s3.toks) λb ob q=>Heap.get?_push_of_some _ q;obtain ⟨T,id,hT,ht,hg⟩:=hr pins { s3 with heap:=s3.heap.push { cls:= .type "slice",data:= .fields #[vl,vu, .none] } } σ H3 x v vl vu l u s3.heap.objs.size Q I4 r1 (Heap.IsSliceOf.new ..) pl pu q3;show wpAny (model X.prog X.w) X.A (subscriptTail e (.Slice lo hi none p2) v (.ref s3.heap.objs.size)) (EP X pins σ Q) X.xe { s3 with heap:=s3.heap.push { cls:= .type "slice",data:= .fields #[vl,vu, .none] } };exact tail_any (ops:=[.ref s3.heap.objs.size,v]) ht hT hg (by with_unfolding_all rfl)
def vK (xs:List V) (lo hi:Option Int):List V:=(xs.drop (HT.sIx xs.length 0 lo)).take (HT.sIx xs.length xs.length hi - HT.sIx xs.length 0 lo)
theorem wp (xs:List V) (lo hi:Option Int):(vK xs lo hi).length<=xs.length:=by
 unfold vK;rw [List.length_take,List.length_drop];omega
def rSlT (K:PySem.W.Frag):V->Option Int->Option Int->Hp->VK->Prop:=λx lo hi H Q=>∃ a xs,x= .ref a/\SqT K H a xs/\
 ¬ (HT.sIx xs.length 0 lo=0/\HT.sIx xs.length xs.length hi=xs.length)/\∀ p,H p=none->Q (.ref p) (upd H p (.tup (vK xs lo hi)))
theorem km:SlR X (rSlT X.K):=by
 intro pins s σ H x v vl vu lo hi sl Q I rx hs pl pu h;obtain ⟨a,xs,rfl,hx,hw,q⟩:=h;cases rx;obtain ⟨its,r,ht,hz⟩:=I.tuple hx;have hlen:its.toArray.size=xs.length:=by rw [List.size_toArray]; exact r.length.symm
 refine ⟨"tuple",_,PyProof.Rows.slot_tuple_getitem.lookup,ht.typeIs, ?_⟩;refine HT.getItem_tuple_cut ht hs pl pu (by rw [hlen]; exact hw) ?_ (by rw [hlen]; exact hz)
 rw [hlen];refine ⟨.ref s.heap.objs.size,_,I.laid (t' :=s.toks) (o:= .tup (vK xs lo hi)) (λb ob q=>Heap.get?_push_of_some _ q) (Nat.le_refl _) ?_,rfl,q _ (I.hok.fresh (Nat.le_refl _))⟩;exact ⟨Nat.le_trans (wp xs lo hi) hz,_,(r.drop (HT.sIx xs.length 0 lo)).take (HT.sIx xs.length xs.length hi - HT.sIx xs.length 0 lo),ITN.new _ _⟩
def Gc (K:PySem.W.Frag):R2:=λx y H Q=>∃ a b xs ys,x= .ref a/\y= .ref b/\SqT K H a xs/\SqT K H b ys/\xs ≠ []/\xs.length+ys.length<=sizeLine/\
 (ys=[]->Q (.ref a) H)/\(ys ≠ []->∀ p,H p=none->Q (.ref p) (upd H p (.tup (xs++ys))))
theorem Zy.nil_iff {xs:List V} {us:List Value} (r:Zy xs us):us=[]↔xs=[]:=by
 cases r with
 | nil=>simp
 | cons _ _=>simp
theorem VA:OpR X (binaryOp .Add) (Gc X.K):=by
 intro pins s σ H x y v u Q I rx ry h;obtain ⟨a,b,xs,ys,rfl,rfl,ha,hb,hx,hz,q1,q2⟩:=h;cases rx;cases ry;obtain ⟨its,r1,p1,_⟩:=I.tuple ha;obtain ⟨its2,r2,p2,_⟩:=I.tuple hb;refine HT.cat_tup p1 p2 (λz=>hx (r1.nil_iff.mp z)) (λz=>⟨.ref a,H,I,rfl,q1 (r2.nil_iff.mp z)⟩) (λz=> ?_) (by rw [← r1.length,← r2.length]; exact hz)
 refine ⟨.ref s.heap.objs.size,_,I.laid (t' :=s.toks) (o:= .tup (xs++ys)) (λb ob q=>Heap.get?_push_of_some _ q) (Nat.le_refl _) ?_,rfl,q2 (λw=>z (r2.nil_iff.mpr w)) _ (I.hok.fresh (Nat.le_refl _))⟩;exact ⟨by rw [List.length_append]; exact hz,_,r1.append r2,ITN.new _ _⟩
end
end L2
namespace L2
open PySem PySem.Spec PyProof.Rows
def ixN (n:Nat) (i:Int):Option Nat:=if 0<=i then (if i < n then some i.toNat else none) else if -(n:Int)<=i then some (i+n).toNat else none
def atI {α:Type} (xs:List α) (i:Int):Option α:=(ixN xs.length i).bind λj=>xs[j]?
theorem VB {n:Nat} {i:Int} {j:Nat} (h:ixN n i=some j):seqIndex? i n=some j/\j < n/\ -(n:Int)<=i/\i < n:=by
 unfold ixN at h
 by_cases h0:0<=i
 ·rw [if_pos h0] at h
  by_cases h1:i < n
  ·rw [if_pos h1] at h;have e:i.toNat=j:=Option.some.inj h;exact ⟨by rw [seqIndex_of h0 h1,e],by omega,by omega,h1⟩
  ·rw [if_neg h1] at h; cases h
 ·rw [if_neg h0] at h
  by_cases h1: -(n:Int)<=i
  ·rw [if_pos h1] at h;have e:(i+n).toNat=j:=Option.some.inj h;exact ⟨by rw [seqIndex_neg (by omega) h1,e],by omega,h1,by omega⟩
  ·rw [if_neg h1] at h; cases h
theorem uY {α:Type} {xs:List α} {i:Int} {v:α} (h:atI xs i=some v):∃ j,seqIndex? i xs.length=some j/\xs[j]? =some v/\j < xs.length/\ -(xs.length:Int)<=i/\i < xs.length:=by
 unfold atI at h;cases e:ixN xs.length i with
 | none=>rw [e] at h; cases h
 | some j=>
  rw [e] at h;obtain ⟨h1,h2,h3,h4⟩:=VB e;exact ⟨j,h1,h,h2,h3,h4⟩
theorem j3 {α:Type} {xs:List α} {j:Nat} {v:α} (h:xs[j]? =some v):atI xs (j:Int)=some v:=by
 have hj:j < xs.length:=(List.getElem?_eq_some_iff.mp h).1;have e:ixN xs.length (j:Int)=some j:=by
  unfold ixN;rw [if_pos (by omega),if_pos (by omega)]; simp
 unfold atI; rw [e]; exact h
def Yg (b:Expr):Prop:=∀ o i,subscripted b false o i=operate [o,i] (getItem o i)
def IxR (X:Cx) (r:R2):Prop:=
 ∀ (value slice:Expr) (pins:List (Addr×Obj)) (s:Shared) (σ:St) (H:Hp) (x y:V) (v u:Value) (Q:VK),Inv X pins σ H s->ZJ x v->ZJ y u->r x y H Q->
  subscripted slice false v u=operate [v,u] (getItem v u)->wpAny (model X.prog X.w) X.A (subscriptTail value slice v u) (EP X pins σ Q) X.xe s
def MtR (X:Cx) (id:String) (r:V->List V->Hp->VK->Prop):Prop:=
 ∀ (pins:List (Addr×Obj)) (s:Shared) (σ:St) (H:Hp) (x:V) (xs:List V) (v:Value) (us:List Value) (Q:VK),Inv X pins σ H s->ZJ x v->Zy xs us->r x xs H Q->
  wpAny (model X.prog X.w) X.A (call (.builtin id) (v :: us)) (EP X pins σ Q) X.xe s
section
variable {X:Cx} {a b:Expr} {ta tb:TE} {pos:Pos}
theorem IxR.or {r r' :R2} (h:IxR X r) (h' :IxR X r'):IxR X (λx y H Q=>r x y H Q\/r' x y H Q):=by
 intro value slice pins s σ H x y v u Q I rx ry q hs;rcases q with q | q
 ·exact h value slice pins s σ H x y v u Q I rx ry q hs
 ·exact h' value slice pins s σ H x y v u Q I rx ry q hs
theorem Gd {r:R2} (hr:IxR X r) (ha:PE X a ta) (hb:PE X b tb) (hs:Yg b):PE X (.Subscript a b pos) (tOp r ta tb):=by
 intro pins s σ H Q I h;exact Subscript_ (gZ ha hb I h λv u s2 x y H2 I2 rx ry q=>hr a b pins s2 σ H2 x y v u Q I2 rx ry q (hs _ _))
def rIxL (K:PySem.W.Frag):R2:=λx y H Q=>∃ p xs i v,x= .ref p/\y= .int i/\SqL K H p xs/\atI xs i=some v/\Q v H
def rIxT (K:PySem.W.Frag):R2:=λx y H Q=>∃ p xs i v,x= .ref p/\y= .int i/\SqT K H p xs/\atI xs i=some v/\Q v H
def rIxS:R2:=λx y H Q=>∃ z i c,x= .str z/\y= .int i/\z.length<=sizeLine/\atI z.cps.toList i=some c/\Q (.str ⟨#[c]⟩) H
theorem VC:IxR X (rIxL X.K):=by
 intro value slice pins s σ H x y v u Q I rx ry h hs;obtain ⟨p,xs,i,z,rfl,rfl,hq,he,q⟩:=h;cases rx;obtain ⟨t,rfl⟩:=ry;obtain ⟨its,r,pl,hz⟩:=I.list hq;obtain ⟨j,h1,h2,h3,h4,h5⟩:=uY he;obtain ⟨w,ew,rw'⟩:=r.get h2;have hl:=r.length;have hn:=W4;have fin:EP X pins σ Q w s:=⟨z,H,I,rw',q⟩
 by_cases h0:0<=i
 ·have hj:i.toNat=j:=by
   rw [seqIndex_of h0 h5] at h1;exact Option.some.inj h1
  exact item_listR pl.isList h0 (by omega) (by rw [hj]; simpa using ew) fin hs
 ·have hj:(i+(its.toArray.size:Int)).toNat=j:=by
   rw [seqIndex_neg (by omega) h4] at h1
   rw [List.size_toArray,← hl];exact Option.some.inj h1
  exact subscriptTail_builtinR (x:=w) pl.isList.typeIs slot_list_getitem.lookup
   (wpAny_getItem_list_neg (Q:=λr s' =>r=w/\EP X pins σ Q r s') pl.isList (by omega) (by rw [List.size_toArray] <;> omega) (by omega) (by rw [hj]; simpa using ew) ⟨rfl,fin⟩) hs
theorem kn:IxR X (rIxT X.K):=by
 intro value slice pins s σ H x y v u Q I rx ry h hs;obtain ⟨p,xs,i,z,rfl,rfl,hq,he,q⟩:=h;cases rx;obtain ⟨t,rfl⟩:=ry;obtain ⟨its,r,pl,hz⟩:=I.tuple hq;obtain ⟨j,h1,h2,h3,h4,h5⟩:=uY he;obtain ⟨w,ew,rw'⟩:=r.get h2;have hl:=r.length;have hn:=W4;have fin:EP X pins σ Q w s:=⟨z,H,I,rw',q⟩;exact subscriptTail_builtinR (x:=w) pl.typeIs slot_tuple_getitem.lookup
  (getItem_tuple (j:=j) (Q:=λr s' =>r=w/\EP X pins σ Q r s') pl (by omega) (by omega) (by rw [List.size_toArray,← hl]; exact h1) (by simpa using ew) ⟨rfl,fin⟩) hs
theorem ko:IxR X rIxS:=by
 intro value slice pins s σ H x y v u Q I rx ry h hs;obtain ⟨z,i,c,rfl,rfl,hz,he,q⟩:=h;obtain ⟨t,rfl⟩:=rx;obtain ⟨t',rfl⟩:=ry;obtain ⟨j,h1,h2,h3,h4,h5⟩:=uY he;have hl:z.cps.toList.length=z.length:=by simp [Str.length]
 rw [hl] at h1 h4 h5;have hn:=W4;exact tail_any (typeIs_str s z t) slot_str_getitem.lookup (getItem_str (c:=c) (by
  have e1:decide (i < -(2 ^ 63:Int))=false:=decide_eq_false (by omega)
  have e2:decide (i ≥ 2 ^ 63)=false:=decide_eq_false (by omega)
  rw [e1,e2,Bool.or_false]) (by rw [h1]; simpa using h2) ⟨.str ⟨#[c]⟩,H,I.tok _,⟨_,rfl⟩,q⟩) hs
def rIx (K:PySem.W.Frag):R2:=λx y H Q=>rIxL K x y H Q\/rIxT K x y H Q\/rIxS x y H Q
theorem kq:IxR X (rIx X.K):=VC.or (kn.or ko)
theorem ub (lo hi:Option Int) (n:Nat):(sliceBounds lo hi none n).1=((HT.sIx n 0 lo:Nat):Int)/\(sliceBounds lo hi none n).2.1=((HT.sIx n n hi:Nat):Int)/\(sliceBounds lo hi none n).2.2=1:=by
 refine ⟨?_, ?_,rfl⟩
 ·cases lo with
  | none=>simp [sliceBounds,HT.sIx]
  | some i=>
   simp only [sliceBounds,HT.sIx,Option.getD_none,show (1:Int) > 0 by decide,if_true]
   by_cases h:i < 0
   ·simp only [h,if_true] <;> omega
   ·simp only [h,if_false] <;> omega
 ·cases hi with
  | none=>simp [sliceBounds,HT.sIx]
  | some i=>
   simp only [sliceBounds,HT.sIx,Option.getD_none,show (1:Int) > 0 by decide,if_true]
   by_cases h:i < 0
   ·simp only [h,if_true] <;> omega
   ·simp only [h,if_false] <;> omega
theorem Wl (its:List Value) (lo hi:Option Int):slicePick its.toArray lo hi none=((its.drop (HT.sIx its.length 0 lo)).take (HT.sIx its.length its.length hi - HT.sIx its.length 0 lo)).toArray:=by
 obtain ⟨h1,h2,h3⟩:=ub lo hi its.toArray.size;unfold slicePick;rw [h1,h2,h3];simp only [sliceRange_one,pick_run,List.size_toArray] <;> rfl
def rSlL (K:PySem.W.Frag):V->Option Int->Option Int->Hp->VK->Prop:=λx lo hi H Q=>∃ a xs,x= .ref a/\SqL K H a xs/\∀ p,H p=none->Q (.ref p) (upd H p (.lst (vK xs lo hi)))
theorem VD:SlR X (rSlL X.K):=by
 intro pins s σ H x v vl vu lo hi sl Q I rx hs pl pu h;obtain ⟨a,xs,rfl,hx,q⟩:=h;cases rx;obtain ⟨its,r,ht,hz⟩:=I.list hx;have hlen:=r.length;refine ⟨"list",_,slot_list_getitem.lookup,ht.isList.typeIs, ?_⟩;refine wpAny_getItem_list_slice ht.isList hs pl pu .none (by simp) ?_ (by rw [List.size_toArray] <;> omega)
 rw [Wl,← hlen];refine ⟨.ref s.heap.objs.size,_,I.laid (t' :=s.toks) (o:= .lst (vK xs lo hi)) (λb ob q=>Heap.get?_push_of_some _ q) (Nat.le_refl _) ?_,rfl,q _ (I.hok.fresh (Nat.le_refl _))⟩;exact ⟨Nat.le_trans (wp xs lo hi) hz,_,0,(r.drop (HT.sIx xs.length 0 lo)).take (HT.sIx xs.length xs.length hi - HT.sIx xs.length 0 lo),Heap.get?_push_size _ rfl⟩
theorem uc:ji X (.builtin "len") (λxs H Q=>∃ p ys,xs=[.ref p]/\(SqL X.K H p ys\/SqT X.K H p ys)/\Q (.int ys.length) H):=by
 intro pins s σ H xs us Q I r h;obtain ⟨p,ys,rfl,hq,q⟩:=h;obtain ⟨u,rfl,rx⟩:=jD r;cases rx;have hn:=W4;rcases hq with hq | hq
 ·obtain ⟨its,r',pl,hz⟩:=I.list hq;have hlen:=r'.length;exact Calls.call_len_list pl.isList (by simp only [List.size_toArray] <;> omega) ⟨.int ys.length,H,I.tok _,⟨s.toks+1,by rw [List.size_toArray,hlen]⟩,q⟩
 ·obtain ⟨its,r',pl,hz⟩:=I.tuple hq;have hlen:=r'.length;exact len_tuple pl (by simp only [List.size_toArray] <;> omega) ⟨.int ys.length,H,I.tok _,⟨s.toks+1,by rw [List.size_toArray,hlen]⟩,q⟩
theorem ud:ji X (.builtin "len") (λxs H Q=>∃ z,xs=[.str z]/\z.length<=sizeLine/\Q (.int z.length) H):=by
 intro pins s σ H xs us Q I r h;obtain ⟨z,rfl,hz,q⟩:=h;obtain ⟨u,rfl,t,rfl⟩:=jD r;have hn:=W4;exact len_str (by omega) ⟨.int z.length,H,I.tok _,⟨_,rfl⟩,q⟩
theorem ji.or {f:Value} {r r' :List V->Hp->VK->Prop} (h:ji X f r) (h' :ji X f r'):ji X f (λxs H Q=>r xs H Q\/r' xs H Q):=by
 intro pins s σ H xs us Q I rs q;rcases q with q | q
 ·exact h pins s σ H xs us Q I rs q
 ·exact h' pins s σ H xs us Q I rs q
theorem Wm:ji X (.type "tuple") (λxs H Q=>∃ p ys,xs=[.ref p]/\((SqL X.K H p ys/\∀ l,H l=none->Q (.ref l) (upd H l (.tup ys)))\/(SqT X.K H p ys/\Q (.ref p) H))):=by
 intro pins s σ H xs us Q I r h;obtain ⟨p,ys,rfl,h⟩:=h;obtain ⟨u,rfl,rx⟩:=jD r;cases rx;rcases h with ⟨hq,q⟩ | ⟨hq,q⟩
 ·obtain ⟨its,r',pl,hz⟩:=I.list hq;have hlen:=r'.length;refine call_tuple_list pl.isList (λh' kp=> ?_) (by simp only [List.size_toArray] <;> omega)
  have I1:Inv X pins σ H { s with heap:=h' }:=I.kept (t' :=s.toks) kp;have I2:Inv X pins σ (upd H h'.objs.size (.tup ys)) { s with heap:=h'.push { cls:= .type "tuple",data:= .seq its.toArray } }:=
   I1.laid (t' :=s.toks) (λb o e=>Heap.get?_push_of_some _ e) (Nat.le_refl _) (show ZD X.prog X.w _ _ _ (.tup ys) from ⟨hz,its,r',ITN.new _ _⟩)
  exact ⟨.ref h'.objs.size,_,I2,rfl,q _ (I1.hok.fresh (Nat.le_refl _))⟩
 ·obtain ⟨its,r',pl,hz⟩:=I.tuple hq;exact call_tuple_same pl ⟨.ref p,H,I,rfl,q⟩
def tyV (K:PySem.W.Frag) (T:String) (x:V) (H:Hp):Prop:=match x with
 | .str _=>T="str"
 | .int _=>T="int"
 | .ref p=>(T="list"/\∃ xs,SqL K H p xs)\/(T="tuple"/\∃ o,K.lookup p=some o/\o.cls= .type "tuple"/\o.dict=none)\/
   (T="dict"/\((∃ kvs,H p=some (.dK kvs))\/∃ kvs,H p=some (.dT kvs)))\/(T="set"/\∃ S n,H p=some (.set S n))
 | _=>False
theorem kr {pins:List (Addr×Obj)} {σ:St} {H:Hp} {s:Shared} {T:String} {x:V} {v:Value} (I:Inv X pins σ H s) (r:ZJ x v) (ty:tyV X.K T x H):
  s.TypeIs v T/\∀ a,v= .ref a->∃ ob,s.heap.get? a=some ob/\ob.dict=none:=by
 cases x with
 | str z=>
  obtain ⟨t,rfl⟩:=r;cases (show T="str" from ty);exact ⟨typeIs_str s z t,λ_ e=>nomatch e⟩
 | int i=>
  obtain ⟨t,rfl⟩:=r;cases (show T="int" from ty);exact ⟨typeIs_int s i t,λ_ e=>nomatch e⟩
 | ref p=>
  cases r;rcases ty with ⟨rfl,xs,hq⟩ | ⟨rfl,o,hk,hc,hd⟩ | ⟨rfl,hk⟩ | ⟨rfl,S,n,hk⟩
  ·obtain ⟨its,_,pl,_⟩:=I.list hq;refine ⟨pl.isList.typeIs,λa e=> ?_⟩;cases e;obtain ⟨o,n,e,c,hd,_⟩:=pl;exact ⟨o,e,hd⟩
  ·refine ⟨⟨o,I.kIn p o hk,hc⟩,λa e=> ?_⟩;cases e;exact ⟨o,I.kIn _ o hk,hd⟩
  ·have z:∃ o,s.heap.get? p=some o/\o.ExactDict:=by
    rcases hk with ⟨kvs,hk⟩ | ⟨kvs,hk⟩
    ·obtain ⟨_,_,_,_,o,_,_,e,ex,_⟩:=I.hok p _ hk;exact ⟨o,e,ex⟩
    ·obtain ⟨_,_,_,_,o,_,_,e,ex,_⟩:=I.hok p _ hk;exact ⟨o,e,ex⟩
   obtain ⟨o,e,ex⟩:=z;refine ⟨⟨o,e,ex.1⟩,λa e2=> ?_⟩;cases e2;exact ⟨o,e,ex.2.1⟩
  ·obtain ⟨o,_,_,_,e,ex,_⟩:=I.hok p _ hk;refine ⟨⟨o,e,ex.1⟩,λa e2=> ?_⟩;cases e2;exact ⟨o,e,ex.2.1⟩
 | _=>exact False.elim ty
def tBM (K:PySem.W.Frag) (T:String) (r:V->List V->Hp->VK->Prop) (to:TE) (t:TA):TE:=λσ H Q=>to σ H λx H1=>tyV K T x H1/\t σ H1 λxs H2=>r x xs H2 Q
variable {o e:Expr} {es:List Expr} {to:TE} {t:TA} {name:Str} {apos cpos:Pos} {T id:String} {r:V->List V->Hp->VK->Prop}
theorem ue (pa:PlainAttrs T) (slot:Slot T name id) (hty:typeOf (.builtin id)=pure (.type "method_descriptor")) (hm:MtR X id r) (ho:PE X o to) (ha:PA X (e :: es) t)
  (hbase:attributeBase o name X.env (eval o X.env)=eval o X.env:=by rfl)
  (hfew:((backTo cpos (starEach (e :: es) X.env)).all (λx=> !x.1) && (backToKw cpos (keywordEach [] X.env)).all (λx=>x.1.isSome)
   && decide ((e :: es).length+([]:List Keyword).length+(if ([]:List Keyword).isEmpty then 0 else 1) < 30))=true:=by rfl)
  (hline:(apos.endLine == cpos.line)=true:=by rfl) (hs:starEach (e :: es) X.env=(false,eval e X.env) :: starEach es X.env:=by rfl) (hplain:(backTo cpos (starEach es X.env)).any (·.1)=false:=by rfl):
  PE X (.Call (.Attribute o name apos) (e :: es) [] cpos) (tBM X.K T r to t):=by
 intro pins s σ H Q I h;refine wpAny_Call_method_late hbase hfew hline rfl (thn (ho pins s σ H _ I h) λv s1 ⟨x,H1,I1,r1,ty,q1⟩=> ?_);obtain ⟨h1,h2⟩:=kr I1 r1 ty;refine ⟨T,id,pa,slot,hty,h1,h2, ?_⟩;have hA:=ha cpos pins s1 σ H1 _ I1 q1;rw [hs] at hA ⊢;refine Calls.callWith_builtin (by show (false || (backTo cpos (starEach es X.env)).any (·.1))=false; rw [hplain] <;> rfl) (Calls.evalArgs_plain ?_)
 exact thn hA λus s2 ⟨vs,H2,I2,r2,q2⟩=>hm pins s2 σ H2 x vs v us Q I2 r1 r2 q2
end
end L2
namespace L2
open PySem PySem.Spec PyProof.Rows
def MtM (X:Cx) (id:String) (r:V->List V->Hp->VK->Prop):Prop:=
 ∀ (pins:List (Addr×Obj)) (s:Shared) (σ:St) (H:Hp) (x:V) (xs:List V) (v:Value) (us:List Value) (Q:VK),Inv X pins σ H s->ZJ x v->Zy xs us->r x xs H Q->
  wpAny (model X.prog X.w) X.A (call (.builtin id) (v :: us)) (EP X pins σ Q) X.xe s
theorem Zy.one:∀ {x:V} {us:List Value},Zy [x] us->∃ u,us=[u]/\ZJ x u
 | _,_, .cons r .nil=>⟨_,rfl,r⟩
theorem Zy.rep {xs:List V} {us:List Value} (h:Zy xs us):∀ k:Nat,Zy (List.replicate k xs).flatten (List.replicate k us).flatten
 | 0=> .nil
 | k+1=>by
  rw [List.replicate_succ,List.replicate_succ,List.flatten_cons,List.flatten_cons];exact Zy.append h (Zy.rep h k)
theorem Jk (its:List Value):∀ (k:Nat) (acc:List Value),
  List.foldl (λx1 x2=>x1++x2) acc.toArray (List.replicate k its.toArray)=(acc++(List.replicate k its).flatten).toArray
 | 0,acc=>by simp
 | k+1,acc=>by
  have e:acc.toArray++its.toArray=(acc++its).toArray:=by simp
  have e2:(acc++its)++(List.replicate k its).flatten=acc++(List.replicate (k+1) its).flatten:=by
   rw [List.replicate_succ,List.flatten_cons,List.append_assoc]
  rw [← e2,← Jk its k (acc++its),← e,List.replicate_succ,List.foldl_cons]
section
variable {X:Cx} {pins:List (Addr×Obj)} {σ:St} {H:Hp} {s:Shared} {l b:Addr} {xs ys zs:List V}
theorem Inv.lset {its its' :List Value} {n:Nat} {f:Array Value->Array Value} {t' :Nat} (I:Inv X pins σ H s) (hH:H l=some (.lst xs))
  (e:s.heap.get? l=some { cls:= .type "list",data:= .seq its.toArray n }) (hf:f its.toArray=its'.toArray) (hv:Zy ys its') (hz:ys.length<=sizeLine):
  Inv X pins σ (upd H l (.lst ys)) { s with heap:=s.heap.update l (Obj.mapSeq f),toks:=t' }:=by
 have q:=PySem.IsL.update e f;rw [hf] at q;refine I.write (x:=l) (e:=l) (by rw [hH]; exact trivial) (.inl rfl) (λb' u hb hu=>(Heap.get?_update_other s.heap (Obj.mapSeq f) (Ne.symm hb)).trans hu) ⟨_,q⟩ ?_
 exact ⟨hz,its',_,hv,q⟩
theorem Inv.lnew {its:List Value} {t' :Nat} (I:Inv X pins σ H s) (hv:Zy ys its) (hz:ys.length<=sizeLine):
  Inv X pins σ (upd H s.heap.objs.size (.lst ys)) { s with heap:=s.heap.push { cls:= .type "list",data:= .seq its.toArray },toks:=t' }:=
 I.laid (λ_ _ q=>Heap.get?_push_of_some _ q) (Nat.le_refl _) ⟨hz,its,0,hv,Heap.get?_push_size _ rfl⟩
theorem Inv.fresh (I:Inv X pins σ H s):H s.heap.objs.size=none:=I.hok.fresh (Nat.le_refl _)
theorem Inv.lstM (I:Inv X pins σ H s) (hH:H l=some (.lst xs)):xs.length<=sizeLine/\∃ (its:List Value) (n:Nat),Zy xs its/\xs.length=its.length/\s.heap.get? l=some { cls:= .type "list",data:= .seq its.toArray n }:=by
 obtain ⟨z,its,n,r,e⟩:=I.hok l _ hH;exact ⟨z,its,n,r,r.length,e⟩
theorem Uz {n:Nat} (h:n<=sizeLine):Builtin.List.listTooLong n=false:=by
 unfold Builtin.List.listTooLong;exact decide_eq_false (by omega)
end
section
variable {X:Cx}
def VE:V->List V->Hp->VK->Prop:=λx vs H Q=>∃ l xs y,x= .ref l/\vs=[y]/\H l=some (.lst xs)/\xs.length < sizeLine/\Q .non (upd H l (.lst (xs++[y])))
theorem uf:MtM X "list.append" VE:=by
 intro pins s σ H x vs v us Q I rx rv h;obtain ⟨l,xs,y,rfl,rfl,hH,hz,q⟩:=h;cases rx;obtain ⟨u,rfl,ru⟩:=rv.one;obtain ⟨z,its,n,r,hl,e⟩:=I.lstM hH;refine call_meets F.slot_list_append ⟨_,e,rfl⟩ F.entry_list_append (F.args_list_append_2 _ _) (PySem.list_append l its.toArray n u (by rw [List.size_toArray]; omega)) ⟨e, ?_⟩
 refine ⟨.non,_,I.lset (its' :=its++[u]) hH e (by simp) (r.append (.cons ru .nil)) ?_,rfl,q⟩
 rw [List.length_append,List.length_singleton];omega
def VF:V->List V->Hp->VK->Prop:=λx vs H Q=>∃ l b xs zs,x= .ref l/\vs=[.ref b]/\H l=some (.lst xs)/\H b=some (.lst zs)/\xs.length+zs.length<=sizeLine/\Q .non (upd H l (.lst (xs++zs)))
theorem Yh:MtM X "list.extend" VF:=by
 intro pins s σ H x vs v us Q I rx rv h;obtain ⟨l,b,xs,zs,rfl,rfl,hH,hB,hz,q⟩:=h;cases rx;obtain ⟨u,rfl,ru⟩:=rv.one;cases ru;obtain ⟨z,its,n,r,hl,e⟩:=I.lstM hH;obtain ⟨z2,its2,n2,r2,hl2,e2⟩:=I.lstM hB;have hsz:its.toArray.size+its2.toArray.size<=sizeLine:=by rw [List.size_toArray,List.size_toArray]; omega
 have hlong:¬ (!its.toArray.isEmpty && Builtin.List.listTooLong (its.toArray.size+its2.toArray.size))=true:=by
  rw [Uz hsz,Bool.and_false];exact Bool.false_ne_true
 refine call_meets F.slot_list_extend ⟨_,e,rfl⟩ F.entry_list_extend (F.args_list_extend_2 _ _)
  (AutoSeq1.list_extend_list_list_0 l its.toArray n b its2.toArray n2 hlong (by rw [List.size_toArray]; omega) (by omega)) ⟨e,e2, ?_⟩
 refine ⟨.non,_,I.lset (its' :=its++its2) hH e (by simp) (r.append r2) ?_,rfl,q⟩
 rw [List.length_append];omega
def rCat:R2:=λx y H Q=>∃ l b xs zs,x= .ref l/\y= .ref b/\H l=some (.lst xs)/\H b=some (.lst zs)/\xs.length+zs.length<=sizeLine/\∀ p,H p=none->Q (.ref p) (upd H p (.lst (xs++zs)))
theorem ku:OpR X (binaryOp .Add) rCat:=by
 intro pins s σ H x y v u Q I rx ry h;obtain ⟨l,b,xs,zs,rfl,rfl,hH,hB,hz,q⟩:=h;cases rx;cases ry;obtain ⟨z,its,n,r,hl,e⟩:=I.lstM hH;obtain ⟨z2,its2,n2,r2,hl2,e2⟩:=I.lstM hB;refine PySem.P.add_list e e2 ?_ (by rw [List.size_toArray,List.size_toArray]; omega)
 have ea:its.toArray++its2.toArray=(its++its2).toArray:=by simp
 rw [ea];exact ⟨.ref _,_,I.lnew (t' :=s.toks) (r.append r2) (by rw [List.length_append]; omega),rfl,q _ I.fresh⟩
def rRep:R2:=λx y H Q=>∃ l k xs,x= .ref l/\y= .int k/\H l=some (.lst xs)/\ -(2 ^ 63)<=k/\k < 2 ^ 63/\xs.length*k.toNat<=sizeLine/\
 ∀ p,H p=none->Q (.ref p) (upd H p (.lst (List.replicate k.toNat xs).flatten))
theorem Wn {α:Type} (xs:List α) (k:Nat):(List.replicate k xs).flatten.length=k*xs.length:=by
 induction k with
 | zero=>simp
 | succ k ih=>rw [List.replicate_succ,List.flatten_cons,List.length_append,ih,Nat.succ_mul,Nat.add_comm]
theorem kv:OpR X (binaryOp .Mult) rRep:=by
 intro pins s σ H x y v u Q I rx ry h;obtain ⟨l,k,xs,rfl,rfl,hH,h1,h2,hz,q⟩:=h;cases rx;obtain ⟨t,rfl⟩:=ry;obtain ⟨z,its,n,r,hl,e⟩:=I.lstM hH;have hlen:its.toArray.size*k.toNat<=sizeLine:=by rw [List.size_toArray,← hl]; exact hz
 have hcap:¬ its.toArray.size*k.toNat > (2 ^ 63 - 1) / 8:=by
  have:(sizeLine:Nat)<=(2 ^ 63 - 1) / 8:=by decide
  omega
 have hfit:¬ (!Builtin.List.listFitsIndex k)=true:=by
  rw [fitsIndex_both h1 h2];exact Bool.false_ne_true
 have hlong:¬ Builtin.List.listTooLong (its.toArray.size*k.toNat)=true:=by
  rw [Uz hlen];exact Bool.false_ne_true
 have hnew:List.foldl (λx1 x2=>x1++x2) #[] (List.replicate (if its.toArray.isEmpty=true then 0 else k.toNat) its.toArray)=(List.replicate k.toNat its).flatten.toArray:=by
  have f0:∀ m:Nat,List.foldl (λx1 x2=>x1++x2) #[] (List.replicate m its.toArray)=(List.replicate m its).flatten.toArray:=λm=>by
   have:=Jk its m [];rw [List.nil_append] at this;exact this
  rw [f0];cases its with
  | nil=>simp
  | cons a r' =>rw [if_neg (by simp)]
 refine wpAny_binaryOp_repeat_ref (T:="list") (U:="int") (by decide) ⟨_,e,rfl⟩ (λs' =>typeIs_int s' k t) noFill_list_mul F.fills_int_mul F.slot_int_rmul repeat_list F.slot_int_index.lookup
  (call_meets F.slot_int_rmul (typeIs_int s k t) F.entry_int_rmul (F.args_int_rmul_2 _ _) (int___rmul___int_list k t l its.toArray n)
   ⟨e,rfl,⟨_,e,rfl⟩,call_meets F.slot_list_mul ⟨_,e,rfl⟩ F.entry_list_mul (F.args_list_mul_2 _ _) (AutoListH.list___mul___list_int_3 l its.toArray n k t hfit hcap hlong) ⟨e, ?_⟩⟩)
 rw [hnew];exact ⟨.ref _,_,I.lnew (t' :=s.toks) (r.rep k.toNat) (by rw [Wn,Nat.mul_comm]; exact hz),rfl,q _ I.fresh⟩
end
section
variable {prog:Program} {w:World} {A:Around} {E:Value->Shared->Prop} {s:Shared}
end
section
variable {X:Cx}
end
end L2
namespace Att
open PySem PySem.W PySem.Calls PyProof.Rows
theorem wq {P:Params} {h:Heap}:∀ (ns:List Int) (vs:List Value),WellAll P h vs (ns.map WData.int)->IntsAre vs ns:=by
 intro ns
 induction ns with
 | nil=>
  intro vs w;rw [List.map_nil] at w;cases w;exact .nil
 | cons n ns ih=>
  intro vs w;rw [List.map_cons] at w;cases w with
  | cons a b=>
   cases a;exact .cons _ _ (ih _ b)
theorem Yi {l:OpenLaw} {n:Nat} (hn:l.most=some n) {P:Params} {h:Heap} {args:List WData} {vals:List Value}
  (hpre:l.row.toRowW.claim.pre args=true) (hwl:WellAll P h vals args):
  ∃ a vs ns,vals=[Value.ref a]/\args=[WData.list (ns.map WData.int)]/\h.get? a=some { cls:= .type "list",data:= .seq vs.toArray }/\IntsAre vs ns/\ns.length<=n:=by
 have hsh:WShape.hasAll [] args [.list .int]=true:=(pre_splitW hpre).1;have hc:l.pre.holds [] { args:=args }=true:=(pre_splitW hpre).2;obtain ⟨d,r,rfl,h1,h2⟩:=hasAllW_cons hsh;obtain rfl:=hasAllW_nil h2;obtain ⟨xs,rfl,h3⟩:=hasW_list h1;obtain ⟨ns,rfl⟩:=items_int h3;have hlen:ns.length<=n:=by
  unfold OpenLaw.pre at hc;have h4:(WTm.not (.lt (.lit (.int (n:Int))) (.len (.arg 0)))).holds [] { args:=[.list (ns.map .int)] }=true:=by
   have h4:=(holds_andW hc).1;rw [hn] at h4;exact h4
  have h5:=condW_of h4 (w_not (w_lt w_lit (w_len_list (w_arg rfl))));rw [List.length_map] at h5;refine Nat.le_of_not_lt λq=> ?_;have q' :(n:Int) < ((ns.length:Nat):Int):=by omega
  first
   | (rw [decide_eq_true q'] at h5; exact absurd h5 (by decide))
   | (simp at h5; omega)
 cases hwl with
 | cons w1 w2=>
  cases w2;cases w1 with
  | list ho hall=>exact ⟨_,_,ns,rfl,rfl,ho,wq ns _ hall,hlen⟩
theorem Yj (l:OpenLaw) (args:List WData):l.row.toRowW.claim.post args (.bool true) args=true:=
 postW_of (r:=l.row.toRowW) (X:=(true == true))
  (show WShape.has [] (.bool true) .bool=true by first | rfl | decide | simp [WShape.has,WShape.arms,WShape.armsAll])
  (show (WTm.eq .res (.lit (.bool true))).value [] { args:=args,res:=some (.bool true),after:=args }=some (.bool (true == true)) from w_eq_bool (w_res rfl) w_lit) rfl
theorem attach_call {l:OpenLaw} {n:Nat} {q:Program} {loose:List Str} {XP:(Str->Option Value)->Heap->Prop} {YP:World->Heap->Prop} {d:DefRec}
  (hn:l.most=some n) (hdf:d.params.defaults=[])
  (call:∀ (w:World) (s₀ s₁:Shared) (mg mb:Str->Option Value) (fa:Addr) (o:Obj) (pm cd doc:Value) (a:Addr) (vs:List Value) (ns:List Int),
   Ground q loose [] XP w s₀ mg mb s₁.heap->YP w s₁.heap->
   s₁.heap.get? fa=some o->o.data= .func (docDef d.name d.params d.body d.scope pm cd doc)->s₁.heap.CodeRec cd d.name->mg d.name=some (.ref fa)->
   s₁.heap.get? a=some { cls:= .type "list",data:= .seq vs.toArray }->IntsAre vs ns->ns.length<=n->s₁.gens= #[]->
   codeAny (model l.prog w) callerA (.call (.ref fa) ⟨[.ref a],[]⟩) (λr s' =>r= .ok (.ret (.bool true))/\OldK s₁.heap s'.heap/\s'.os=s₁.os/\AllBare s'.gens) s₁):
  WalkO q loose XP YP l.row.toRowW d [] (λf vs=>PySem.call f vs):=by
 intro w s₀ s₁ mg mb G Y fa o pm cd doc dV kV ho hd hcd hD hmg hg args vals as hpre hlay hrd hwl hlo;obtain rfl:dV= .none:=Dflts.none hD hdf;obtain rfl:kV= .none:=Dflts.noKw hD;obtain ⟨a,vs,ns,rfl,rfl,hobj,hints,hlen⟩:=Yi hn hpre hwl;refine enter_call (codeAny_mono (call w s₀ s₁ mg mb fa o pm cd doc a vs ns G Y ho (fd_plain hd) hcd hmg hobj hints hlen hg) λr s' hq=> ?_);obtain ⟨rfl,h2,h3,h4⟩:=hq;exact ⟨.inl ⟨.bool true, .bool true,[],rfl,λ_=>rfl, .bool true,Yj l _,λ_=>⟨List.Pairwise.nil,λ_ hm=>(nomatch hm)⟩⟩,h2,h3,h4⟩
section
variable {prog:Program} {w:World} {A:Around} {E:Value->Shared->Prop} {s:Shared} {K:Frag}
end
end Att
namespace L2
open PySem PySem.Spec PyProof.Rows
theorem ug:∀ {vs:List Value} {ns:List Int},IntsAre vs ns->Zy (ns.map V.int) vs
 | _,_, .nil=> .nil
 | _,_, .cons n t h=> .cons ⟨t,rfl⟩ (ug h)
def gf (H:Hp):Prop:=∀ b,H b=none\/∃ o xs,H b=some (.frz o (.lst xs))
theorem Qu {P:Program} {w:World} {K:PySem.W.Frag} {mg mb:Str->Option Value} {CX:CXT} {k:Nat} {fa a:Addr} {fd:FuncData} {x:Str} {sp:Sp} {s₁:Shared} {vs:List Value} {ns:List Int}
  (KX:K.In s₁.heap) (hns:s₁.heap.Ns mainGlobals mg) (hb:s₁.heap.Ns builtinsNs mb) (hbb:∀ x:Str,x ≠ "__name__"->mb x=bootBuiltins x) (hlim:s₁.heap.NoLimit) (hg:s₁.gens= #[])
  (ha:s₁.heap.get? a=some { cls:= .type "list",data:= .seq vs.toArray }) (hi:IntsAre vs ns) (hl:ns.length<=sizeLine) (hr:Jz k callerA)
  (F:∀ base:Heap,K.In base->base.Ns mainGlobals mg->Zm P w K mg base CX k fa fd [x] sp) (hbind:∀ (s:Shared) (u:Value),BindsTo s fd ⟨[u],[]⟩ [(x,u)])
  (hsp:∀ H:Hp,gf H->SqL K H a (ns.map V.int)->sp [.ref a] H (λv _=>v= .bl true) λ_ _ _=>False)
  (hCX:∀ H e s',CX [] H s₁ (λ_ _ _=>False) e s' ->False):
  codeAny (model P w) callerA (.call (.ref fa) ⟨[.ref a],[]⟩) (λr s' =>r= .ok (.ret (.bool true))/\OldK s₁.heap s'.heap/\s'.os=s₁.os/\AllBare s'.gens) s₁:=by
 have rv:=ug hi;have lenV:=hi.length;have core:∀ H:Hp,gf H->SqL K H a (ns.map V.int)->HOk P w H s₁.heap->(∀ b,H b ≠ none->b=a)->(H a ≠ none->K.lookup a=none)->
   codeAny (model P w) callerA (.call (.ref fa) ⟨[.ref a],[]⟩) (λr s' =>r= .ok (.ret (.bool true))/\OldK s₁.heap s'.heap/\s'.os=s₁.os/\AllBare s'.gens) s₁:=by
  intro H hO hS hok hA hK;have base_of:∀ {b:Addr} {o:Obj},s₁.heap.get? b=some o->H b=none->(Qk s₁.heap H).get? b=some o:=λe n=>Ql e n;have noA:∀ {b:Addr} {o:Obj} {es:Array DictEntry} {ep:Nat},s₁.heap.get? b=some o->o.data= .dict es ep->H b=none:=λ{b o es ep} e d=>by
   cases q:H b with
   | none=>rfl
   | some u=>
    have e' :b=a:=hA b (by rw [q]; simp)
    subst e';rw [ha] at e; cases e;have d' :Data.seq vs.toArray _=Data.dict es ep:=d;cases d'
  have nsK:∀ {b:Addr} {m:Str->Option Value},s₁.heap.Ns b m->(Qk s₁.heap H).Ns b m:=λ{b m} ⟨o,es,ep,e,d,r⟩=>⟨o,es,ep,base_of e (noA e d),d,r⟩;have hKb:K.In (Qk s₁.heap H):=λb o e=>base_of (KX b o e) (by
   cases q:H b with
   | none=>rfl
   | some u=>
    have e' :b=a:=hA b (by rw [q]; simp)
    subst e';rw [hK (by rw [q]; simp)] at e; cases e)
  have hM:Mod K mg (Qk s₁.heap H):=⟨hKb,nsK hns,⟨mb,nsK hb,hbb⟩,let ⟨mc,h1,h2⟩:=hlim; ⟨mc,nsK h1,h2⟩⟩;have e0:gd P w K mg (Qk s₁.heap H) callerA [] s₁ H:=⟨rfl,hM,λb o e=>Vr e,Nat.le_of_eq (yW _ _),trivial,λb hb=>absurd (show b∈([]:List Addr) from hb) (by simp),hok, .of_eq hg⟩
  refine codeAny_mono ((F _ hKb (nsK hns)).run callerA [] s₁ H ⟨[.ref a],[]⟩ [.ref a] [.ref a] _ _ hr e0 (hbind s₁ (.ref a)) (.cons rfl .nil) (hsp H hO hS)) λr s' h=> ?_;cases r with
  | error e=>exact (hCX H e s' h).elim
  | ok fl=>
   cases fl with
   | next=>exact False.elim h
   | brk=>exact False.elim h
   | cont=>exact False.elim h
   | ret u=>
    obtain ⟨v,H',os,bare,un,hok',r',q⟩:=h;have q' :v= .bl true:=q;subst q';obtain rfl:u=Value.bool true:=r';refine ⟨rfl,OldK.of_keep λb o e=> ?_,os,bare⟩;cases q:H b with
    | none=>exact un.keep b o e q (by intro z; exact absurd (show b∈([]:List Addr) from z) (by simp)) (by simp)
    | some u=>
     rcases hO b with z | ⟨ob,xs,z⟩
     ·rw [q] at z; cases z
     ·have z2:=un.frzs b ob _ z;obtain ⟨e1,_⟩:=hok b _ z;obtain ⟨e2,_⟩:=hok' b _ z2;rw [e] at e1; cases e1;exact e2
 cases hk:K.lookup a with
 | some o=>
  have e:=KX a o hk;rw [ha] at e;cases e;refine core (λ_=>none) (λ_=> .inl rfl) (.inr ⟨_,vs.toArray,_,hk,rfl,rfl,rfl,by rw [List.size_toArray,lenV]; exact hl,by simpa using rv⟩) (λb u z=>by have z' :(none:Option HO)=some u:=z; cases z') (λb z=>absurd rfl z) λz=>absurd rfl z
 | none=>
  refine core (λb=>if b=a then some (.frz { cls:= .type "list",data:= .seq vs.toArray } (.lst (ns.map V.int))) else none) (λb=> ?_) (.inl (.inr ⟨{ cls:= .type "list",data:= .seq vs.toArray },if_pos rfl⟩)) (λb u z=> ?_) (λb z=> ?_) λ_=>hk
  ·by_cases hb:b=a
   ·exact .inr ⟨_,_,if_pos hb⟩
   ·exact .inl (if_neg hb)
  ·by_cases hb:b=a
   ·have z' :=(if_pos hb).symm.trans z;cases z';subst hb;exact ⟨ha,by rw [List.length_map]; exact hl,vs,_,rv,ha⟩
   ·have z' :=(if_neg hb).symm.trans z;cases z'
  ·by_cases hb:b=a
   ·exact hb
   ·exact absurd (if_neg hb) z
end L2
namespace L2
open PySem PySem.Spec PyProof.Rows
theorem walk_of {l:PySem.W.OpenLaw} {n k:Nat} {q:Program} {loose:List Str} {XP:(Str->Option Value)->Heap->Prop} {YP:World->Heap->Prop} {d:DefRec} {K:Params->PySem.W.Frag} {CX:World->CXT} {sp:World->Sp} {x:Str}
  (hn:l.most=some n) (hn2:n<=sizeLine) (hdf:d.params.defaults=[]) (hr:Jz k callerA)
  (hY:∀ (w:World) (h:Heap),YP w h->(K w.params).In h)
  (F:∀ (w:World) (mg:Str->Option Value) (fa:Addr) (h:Heap),(K w.params).In h->h.Ns mainGlobals mg->mg d.name=some (.ref fa)->
   ∃ fd:FuncData,(∀ (s:Shared) (u:Value),BindsTo s fd ⟨[u],[]⟩ [(x,u)])/\
    ∀ base:Heap,(K w.params).In base->base.Ns mainGlobals mg->Zm l.prog w (K w.params) mg base (CX w) k fa fd [x] (sp w))
  (hsp:∀ (w:World) (H:Hp) (a:Addr) (ns:List Int),ns.length<=n->gf H->SqL (K w.params) H a (ns.map V.int)->sp w [.ref a] H (λv _=>v= .bl true) λ_ _ _=>False)
  (hCX:∀ (w:World) (H:Hp) (s:Shared) (e:Value) (s' :Shared),CX w [] H s (λ_ _ _=>False) e s' ->False):
  PySem.W.WalkO q loose XP YP l.row.toRowW d [] (λf vs=>PySem.call f vs):=by
 refine Att.attach_call hn hdf λw s₀ s₁ mg mb fa o pm cd doc a vs ns G Y ho hd hcd hmg hobj hints hlen hg=> ?_;have KX:=hY w _ Y;obtain ⟨fd,hb,hF⟩:=F w mg fa _ KX G.T.g hmg;exact Qu KX G.T.g G.T.b G.T.builtins G.T.nolimit hg hobj hints (Nat.le_trans hlen hn2) hr hF hb (λH hO hS=>hsp w H a ns hlen hO hS) λH e s' =>hCX w H s₁ e s'
end L2
namespace L2
open PySem PySem.Spec PyProof.Rows
def jH (s:Stmt):Arguments:=match s with
 | .FunctionDef _ a _ _ _ _ _ _ _ _=>a
 | _=>{ posonlyargs:=[],args:=[],vararg:=none,kwonlyargs:=[],kw_defaults:=[],kwarg:=none,defaults:=[] }
def ZS (s:Stmt):List Stmt:=match s with
 | .FunctionDef _ _ b _ _ _ _ _ _ _=>b
 | _=>[]
def zf (s:Stmt):Scope:=match s with
 | .FunctionDef _ _ _ _ _ _ sc _ _ _=>sc
 | _=>{ kind:= .function,names:=[],isGenerator:=false,isCoroutine:=false }
abbrev CX0:CXT:=λ_ _ _ _ _ _=>False
structure Fun (K:PySem.W.Frag) (x qual:Str) (st:Stmt) (f:Addr) (fd:FuncData):Prop where
 ex:∃ (oc:Value) (od:Option Addr) (kV doc pm:Value) (an:Option Addr) (cdv ct:Value) (osl:Array (Option Value)),
  fd=PySem.W.fnOf x qual (jH st) (ZS st) (zf st) .none kV doc pm an cdv ct/\K.lookup f=some ⟨oc,od, .func fd,osl⟩/\PySem.W.codeIn K cdv qual=true
 kp:PySem.W.keepIn K (.ref f)=true
section
variable {P:Program} {w:World} {K:PySem.W.Frag} {mg:Str->Option Value} {base:Heap}
theorem Fun.ok {x qual:Str} {st:Stmt} {f:Addr} {fd:FuncData} {N ps:List Str} {k:Nat} {sp:Sp} (F:Fun K x qual st f fd) (S:zp N ps (zf st)) (len:∀ vs H Q E,sp vs H Q E->vs.length=ps.length)
  (hbody:∀ (cdv:Value) (A:Around) (outer:List Env) (s:Shared) (H:Hp) (vs:List V) (Q:VK) (E:XK),Jz k (A.deeper (envOfC qual (zf st) s.heap.objs.size f cdv))->sp vs H Q E->
   ∃ t,PSs (wo CX0 P w K mg base N qual (zf st) f cdv A outer s H E).nox (ZS st) t/\t { nx:=λ_ H' =>Q .non H',rt:=Q } (start N vs) H):Zm P w K mg base CX0 (k+1) f fd ps sp:=by
 obtain ⟨oc,od,kV,doc,pm,an,cdv,ct,osl,rfl,lk,hcd⟩:=F.ex;refine kj lk hcd S len λA outer s H vs Q E hr hsp=> ?_;obtain ⟨t,h,q⟩:=hbody cdv A outer s H vs Q E hr hsp;exact ⟨t,h.nox,q⟩
theorem Fun.binds {x qual:Str} {st:Stmt} {f:Addr} {fd:FuncData} {ps:List Str} (F:Fun K x qual st f fd)
  (h:∀ (kV doc pm:Value) (an:Option Addr) (cdv ct:Value) (us:List Value),us.length=ps.length->bindArgs (PySem.W.fnOf x qual (jH st) (ZS st) (zf st) .none kV doc pm an cdv ct) ⟨us,[]⟩=pure (ps.zip us)):Binds K fd ps []:=by
 obtain ⟨oc,od,kV,doc,pm,an,cdv,ct,osl,rfl,lk,hcd⟩:=F.ex;exact .all (h kV doc pm an cdv ct)
theorem kw {x qual:Str} {st:Stmt} {f:Addr} {oc:Value} {od an:Option Addr} {osl:Array (Option Value)} {kV doc pm cdv ct:Value} (l:K.lookup f=some ⟨oc,od, .func (PySem.W.fnOf x qual (jH st) (ZS st) (zf st) .none kV doc pm an cdv ct),osl⟩)
  (c:PySem.W.codeIn K cdv qual=true) (k:PySem.W.keepIn K (.ref f)=true):Fun K x qual st f (PySem.W.fnOf x qual (jH st) (ZS st) (zf st) .none kV doc pm an cdv ct):=⟨⟨oc,od,kV,doc,pm,an,cdv,ct,osl,rfl,l,c⟩,k⟩
end
section
variable {X:Cx}
theorem pv (i:Nat) {x:Str} {pos:Pos} (hN:X.N[i]? =some x:=by rfl) (hv:Vis X.env.scope x:=by first | exact Or.inl rfl | exact Or.inr (Or.inl rfl) | exact Or.inr (Or.inr rfl)) (hd:(x == ("__debug__":Str))=false:=by decide)
  (hcd:(x == ("__classdict__":Str))=false:=by decide):PE X (.Name x pos) (yX i):=vF hN hv hd hcd
end
def zJ (H H' :Hp):Prop:=∀ b o,H b=some o->H' b=some o
theorem zJ.refl (H:Hp):zJ H H:=λ_ _ h=>h
theorem zJ.trans {H H1 H2:Hp} (a:zJ H H1) (b:zJ H1 H2):zJ H H2:=λc o h=>b c o (a c o h)
theorem zJ.free {H H' :Hp} (e:zJ H H') {l:Addr} (h:H' l=Option.none):H l=Option.none:=by
 cases q:H l with
 | none=>rfl
 | some o=>
  rw [e l o q] at h;cases h
end L2
namespace L2
open PySem PySem.Spec PyProof.Rows PySem.W
theorem UA {env:Env} {outer:List Env} {L:Addr} (h:env.frame=some L):frs (env :: outer)=L :: frs outer:=by
 unfold frs; rw [List.filterMap_cons,h]
structure Wo (P:Program) (w:World) (outer:List Env) (H:Hp) (s s' :Shared) (ea:Addr) (cls a0:Value) (B:Heap) (H' :Hp):Prop where
 os:s'.os=s.os
 bare:AllBare s'.gens
 fly:Heap.FlyingW B outer ea cls a0 s'.heap
 hok:HOk P w H' B
 un:Un (frs outer) [] H H' s.heap s'.heap
 inB:∀ b o,s.heap.get? b=some o->b ∉ frs outer->(H b=none->B.get? b=some o)/\∃ o',B.get? b=some o'
def CX1 (P:Program) (w:World):CXT:=λouter H s E e s' =>∃ ea cls a0 B H',e= .ref ea/\Wo P w outer H s s' ea cls a0 B H' /\E cls none H'
section
variable {X:Cx} {pins:List (Addr×Obj)} {σ:St} {H H' :Hp} {s s' :Shared} {ea:Addr} {cls a0:Value} {B:Heap} {h' h'' :Heap}
theorem Inv.frNf (I:Inv X pins σ H s):∀ b∈frs X.stack,H b=none/\∃ o,s.heap.get? b=some o/\∀ vs,o.data ≠ .fields vs:=λb hb=>⟨I.stkFree b hb,(I.stack.mem hb).2⟩
theorem Wo.on {P:Program} {w:World} {outer:List Env} (L:Wo P w outer H s s' ea cls a0 B H') (ff:∀ b∈frs outer,H b=none/\∃ o,s.heap.get? b=some o/\∀ vs,o.data ≠ .fields vs)
  (fl:Heap.FlyingW B outer ea cls a0 h') (sl:s'.heap.UpToSlots h'):Wo P w outer H s { s' with heap:=h' } ea cls a0 B H' where
 os:=L.os
 bare:=L.bare
 fly:=fl
 hok:=L.hok
 inB:=L.inB
 un:=by
  have slot:∀ b o,s.heap.get? b=some o->H b=none->b∈frs outer->∃ sl,h'.get? b=some { o with slots:=sl }:=λb o e n hb=>by
   obtain ⟨sl1,e1⟩:=L.un.slot b o e n hb (by simp)
   obtain ⟨_,o2,e2,nf⟩:=ff b hb;rw [e] at e2; cases e2;obtain ⟨sl2,e3⟩:=sl b _ e1 nf;exact ⟨sl2,e3⟩
  exact ⟨λb o e n hb _=>fl.1 b o ((L.inB b o e hb).1 n),λb o e n hb _=>slot b o e n hb,L.un.free,λb o e _=>by
   by_cases hb:b∈frs outer
   ·obtain ⟨sl1,e1⟩:=slot b o e (ff b hb).1 hb;exact ⟨_,e1⟩
   ·obtain ⟨o',e'⟩:=(L.inB b o e hb).2;exact ⟨o',fl.1 b o' e'⟩,L.un.tups,L.un.frzs,L.un.tbls⟩
theorem Inv.old (I:Inv X pins σ H s) {b:Addr} {o:Obj} (hX:X.stack=X.env :: X.outer) (hf:X.env.frame=some X.env.locals) (e:X.s₀.heap.get? b=some o) (hb:b ∉ frs X.outer):b ∉ frs X.stack:=by
 rw [hX,UA hf];intro z;rcases List.mem_cons.mp z with z | z
 ·exact absurd (Nat.lt_of_lt_of_le (Heap.lt_size e) I.ok.above) (by rw [z]; exact Nat.lt_irrefl _)
 ·exact hb z
theorem wt {X:Cx} (hX:X.stack=X.env :: X.outer) (hf:X.env.frame=some X.env.locals) {b:Addr} (hb:b∈frs X.outer):b∈frs X.stack:=by
 rw [hX,UA hf]; exact List.mem_cons_of_mem _ hb
theorem Wo.out (I:Inv X pins σ H s) (hX:X.stack=X.env :: X.outer) (hf:X.env.frame=some X.env.locals) (hex:X.ex=[]) (L:Wo X.prog X.w X.stack H s s' ea cls a0 B H')
  (fl:Heap.FlyingW B X.outer ea cls a0 h') (sl:s'.heap.UpToSlots h'):Wo X.prog X.w X.outer X.H₀ X.s₀ { s' with heap:=h' } ea cls a0 B H' where
 os:=L.os.trans I.os
 bare:=L.bare
 fly:=fl
 hok:=L.hok
 inB:=λb o e hb=>by
  have nx:b ∉ X.ex:=by rw [hex]; simp
  obtain ⟨o1,e1⟩:=I.base.there b o e nx;have hb' :=I.old hX hf e hb;exact ⟨λn=>(L.inB b o (I.base.keep b o e n hb nx) hb').1 (I.base.free b o e n nx),(L.inB b o1 e1 hb').2⟩
 un:=by
  have nx:∀ b,b ∉ X.ex:=λb=>by rw [hex]; simp
  have slot:∀ b o,X.s₀.heap.get? b=some o->X.H₀ b=none->b∈frs X.outer->∃ sl,h'.get? b=some { o with slots:=sl }:=λb o e n hb=>by
   obtain ⟨sl1,e1⟩:=I.base.slot b o e n hb (nx b);have n1:=I.base.free b o e n (nx b);obtain ⟨sl2,e2⟩:=L.un.slot b _ e1 n1 (wt hX hf hb) (by simp)
   obtain ⟨_,o3,e3,nf⟩:=I.frNf b (wt hX hf hb);rw [e1] at e3; cases e3;obtain ⟨sl4,e4⟩:=sl b _ e2 nf;exact ⟨sl4,e4⟩
  refine ⟨λb o e n hb _=> ?_,λb o e n hb _=>slot b o e n hb,λb o e n _=> ?_,λb o e _=> ?_,λb xs e=>L.un.tups b xs (I.base.tups b xs e),λb o xs e=>L.un.frzs b o xs (I.base.frzs b o xs e),λb ps e=> ?_⟩
  ·exact fl.1 b o ((L.inB b o (I.base.keep b o e n hb (nx b)) (I.old hX hf e hb)).1 (I.base.free b o e n (nx b)))
  ·obtain ⟨o1,e1⟩:=I.base.there b o e (nx b);exact L.un.free b o1 e1 (I.base.free b o e n (nx b)) (by simp)
  ·by_cases hb:b∈frs X.outer
   ·obtain ⟨sl1,e1⟩:=slot b o e (I.ok.frf b hb) hb;exact ⟨_,e1⟩
   ·obtain ⟨o1,e1⟩:=I.base.there b o e (nx b);obtain ⟨o',e'⟩:=(L.inB b o1 e1 (I.old hX hf e hb)).2;exact ⟨o',fl.1 b o' e'⟩
  ·obtain ⟨m1,e1⟩:=I.base.tbls b ps e;obtain ⟨m2,e2⟩:=L.un.tbls b _ e1;exact ⟨m1++m2,by rw [e2,Array.append_assoc]⟩
theorem Wo.made (I:Inv X pins σ H s) (hX:X.stack=X.env :: X.outer) (hf:X.env.frame=some X.env.locals) (hex:X.ex=[]) {vs:List Value} (hx:Heap.MadeExcOf s.heap h' ea cls vs)
  (fl:Heap.FlyingW (hideAll s.heap (frs X.stack)) X.outer ea cls a0 h'') (sl:h'.UpToSlots h''):Wo X.prog X.w X.outer X.H₀ X.s₀ { s with heap:=h'' } ea cls a0 (hideAll s.heap (frs X.stack)) H where
 os:=I.os
 bare:=I.bare
 fly:=fl
 hok:=λa o e=>(I.hok a o e).stay (λb u hb q=>hideAll_get _ q λz=>by
   have:=I.stkFree b z;rcases hb with rfl | hb
   ·rw [e] at this; cases this
   ·rw [hb] at this; cases this) (λ_ q=>q) λ_ _ q=>q
 inB:=λb o e hb=>by
  have nx:b ∉ X.ex:=by rw [hex]; simp
  obtain ⟨o1,e1⟩:=I.base.there b o e nx;have hb' :=I.old hX hf e hb;exact ⟨λn=>hideAll_get _ (I.base.keep b o e n hb nx) hb',o1,hideAll_get _ e1 hb'⟩
 un:=by
  have nx:∀ b,b ∉ X.ex:=λb=>by rw [hex]; simp
  have slot:∀ b o,X.s₀.heap.get? b=some o->X.H₀ b=none->b∈frs X.outer->∃ sl,h''.get? b=some { o with slots:=sl }:=λb o e n hb=>by
   obtain ⟨sl1,e1⟩:=I.base.slot b o e n hb (nx b);obtain ⟨_,o3,e3,nf⟩:=I.frNf b (wt hX hf hb);rw [e1] at e3; cases e3;obtain ⟨sl4,e4⟩:=sl b _ (hx.keeps b _ e1) nf;exact ⟨sl4,e4⟩
  refine ⟨λb o e n hb _=> ?_,λb o e n hb _=>slot b o e n hb,λb o e n _=>I.base.free b o e n (nx b),λb o e _=> ?_,I.base.tups,I.base.frzs,I.base.tbls⟩
  ·exact fl.1 b o (hideAll_get _ (I.base.keep b o e n hb (nx b)) (I.old hX hf e hb))
  ·by_cases hb:b∈frs X.outer
   ·obtain ⟨sl1,e1⟩:=slot b o e (I.ok.frf b hb) hb;exact ⟨_,e1⟩
   ·obtain ⟨o1,e1⟩:=I.base.there b o e (nx b);exact ⟨o1,fl.1 b o1 (hideAll_get _ e1 (I.old hX hf e hb))⟩
end
section
variable {P:Program} {w:World} {K:Frag} {mg:Str->Option Value} {base:Heap} {N:List Str} {qual:Str} {scope:Scope} {f:Addr} {cd:Value} {A:Around} {outer:List Env} {s:Shared} {H:Hp} {E:XK}
theorem JA:jA (CX1 P w) (wo (CX1 P w) P w K mg base N qual scope f cd A outer s H E) E:=by
 intro pins σ H1 s1 e s' I ⟨ea,cls,a0,B,H',he,L,hE⟩;subst he;exact wpAny_leaves_onW (base:=B) I.ok.frames rfl L.fly λh' fl sl=>⟨ea,cls,a0,B,H',rfl,L.out I rfl rfl rfl fl sl,hE⟩
theorem Yk {x:Str} {C:Addr} {bm bmN:List Value} {Bn Bb newId nid initId inN:String} {np cpos pos:Pos} {e:Expr} {t:TA} (O:OwnCls x C bm newId mg base) (Fn:ExcBaseFacts Bn newId inN bmN) (hBn:bm.contains (.type Bn)=true) (FB:ExcBaseFacts Bb nid initId bm)
  (hg:Gl (wo (CX1 P w) P w K mg base N qual scope f cd A outer s H E) x) (ha:PA (wo (CX1 P w) P w K mg base N qual scope f cd A outer s H E) [e] t)
  (he:starEach [e] (envOfC qual scope s.heap.objs.size f cd)=[(false,eval e (envOfC qual scope s.heap.objs.size f cd))]) (hd:(x == ("__debug__":Str))=false:=by decide):
  PS (wo (CX1 P w) P w K mg base N qual scope f cd A outer s H E) (.Raise (some (.Call (.Name x np) [e] [] cpos)) none pos) (λ_ σ H1=>t σ H1 λvs H2=>vs.length<=sizeLine/\E (.ref C) none H2):=by
 intro pins s1 σ H1 D I hw;obtain ⟨tl,N',nm,q,bs,hdct,sn,sub,ab,col,dd,k0,k1,k2,k3,k5,mN,hC,hN,hni,T⟩:=O.obj;have hp:(backTo cpos (starEach [e] (envOfC qual scope s.heap.objs.size f cd))).any (·.1)=false:=by rw [he]; rfl
 refine wpAny_Raise_call_subU (C:=C) (nm:=nm) (q:=q) (N:=N') (bs:=bs) (bm:=tl) (hdct:=hdct) (sn:=sn) (sub:=sub) (ab:=ab) (col:=col) (dd:=dd) (k0:=k0) (k1:=k1) (k2:=k2) (k3:=k3) (k5:=k5)
  Fn hBn FB (mN:=mN) (T.hasType FB.hasBase) (I.ok.hd rfl) hp hni (Wk I hg O.bound ⟨rfl, ?_⟩ hd)
 have h2:=ha cpos pins s1 σ H1 _ I hw;have he' :starEach [e] (wo (CX1 P w) P w K mg base N qual scope f cd A outer s H E).env=[(false,eval e (wo (CX1 P w) P w K mg base N qual scope f cd A outer s H E).env)]:=he;rw [he'] at h2 ⊢;refine Calls.evalArgs_plain (thn h2 λus s2 ⟨vs,H2,I2,r,hl,hE⟩=>⟨rfl,by rw [← r.length]; exact hl,I2.bk _ _ hC,hN.keeps I2.bk,T.keeps I2.bk,λh' ea hx=> ?_⟩)
 have hin:∀ env∈(wo (CX1 P w) P w K mg base N qual scope f cd A outer s H E).stack,∀ b,env.frame=some b->b∈frs (wo (CX1 P w) P w K mg base N qual scope f cd A outer s H E).stack:=λenv he b hb=>List.mem_filterMap.mpr ⟨env,he,hb⟩;exact wpAny_leaves_madeW (base:=hideAll s2.heap (frs (wo (CX1 P w) P w K mg base N qual scope f cd A outer s H E).stack)) (h:=s2.heap) I2.ok.frames rfl (λb o q=>of_hideAll _ q) (funFrames_hide I2.stack hin) hx λh'' t' fl _ _ sl=>
  ⟨ea, .ref C, .ref t',_,H2,rfl,Wo.made I2 rfl rfl rfl hx fl sl,hE⟩
end
end L2
namespace L2
open PySem PySem.Spec PyProof.Rows PySem.W
theorem ZD.there {P:Program} {w:World} {H:Hp} {h:Heap} {a:Addr} {o:HO} (x:ZD P w H h a o):∃ ob,h.get? a=some ob:=by
 cases o with
 | lst xs=>obtain ⟨_,_,_,_,e⟩:=x; exact ⟨_,e⟩
 | tup xs=>obtain ⟨_,_,_,⟨_,e,_⟩,_⟩:=x; exact ⟨_,e⟩
 | dK kvs=>obtain ⟨_,_,_,_,o,_,_,e,_⟩:=x; exact ⟨_,e⟩
 | dT kvs=>obtain ⟨_,_,_,_,o,_,_,e,_⟩:=x; exact ⟨_,e⟩
 | set S n=>obtain ⟨o,_,_,_,e,_⟩:=x; exact ⟨_,e⟩
 | ins C dx fs=>obtain ⟨_,_,_,e,_⟩:=x; exact ⟨_,e⟩
 | own y=>obtain ⟨_,e⟩:=x; exact ⟨_,e⟩
 | xd fs=>obtain ⟨_,⟨_,_,_,e,_⟩,_⟩:=x; exact ⟨_,e⟩
 | rng lo hi=>obtain ⟨_,_,_,e⟩:=x; exact ⟨_,e⟩
 | frz ob u=>obtain ⟨e,_⟩:=x; exact ⟨_,e⟩
 | tbl ps=>exact ⟨_,(show h.get? a=some _ from x)⟩
 | met f y=>exact ⟨_,(show h.get? a=some _ from x)⟩
 | ext φ=>obtain ⟨_,e,_⟩:=x; exact e
def uZ (cls:Value) (a:Addr) (h:Heap):Prop:=∃ o,h.get? a=some o/\o.cls=cls
theorem uZ.ok {P:Program} {w:World} {H:Hp} {h:Heap} {a:Addr} {cls:Value} (x:uZ cls a h):ZD P w H h a (.ext (uZ cls a)):=
 ⟨x,let ⟨o,e,_⟩:=x; ⟨o,e⟩,λ_ _ ⟨o,e,c⟩ k=>⟨o,k o e,c⟩⟩
abbrev Cx.try' (X:Cx) (pn:List (Addr×Obj)) (xe:Value->Shared->Prop):Cx:={ X with pn:=pn,xe:=xe }
abbrev Cx.mark' (X:Cx) (e:Value):Cx:={ X with A:=X.A.mark (some e),calm:=false,xe:=λ_ _=>False }
section
variable {X:Cx} {pins pins' :List (Addr×Obj)} {σ:St} {H H' :Hp} {s s' :Shared} {xe:Value->Shared->Prop}
theorem Cx.Ok.try' (ok:X.Ok) {pn:List (Addr×Obj)}:(X.try' pn xe).Ok:=
 ⟨ok.mod,ok.kind,ok.glob,ok.blt,ok.above,ok.inj,ok.has,ok.cab,ok.hd,ok.frames,ok.stk,ok.exf,ok.bs,ok.bsz,ok.noex,ok.exfs,ok.funs,ok.frf⟩
theorem Cx.Ok.untry {pn:List (Addr×Obj)} (ok:(X.try' pn xe).Ok):X.Ok:=
 ⟨ok.mod,ok.kind,ok.glob,ok.blt,ok.above,ok.inj,ok.has,ok.cab,ok.hd,ok.frames,ok.stk,ok.exf,ok.bs,ok.bsz,ok.noex,ok.exfs,ok.funs,ok.frf⟩
theorem Inv.try' (I:Inv X pins σ H s) (xe:Value->Shared->Prop):Inv (X.try' (X.pn++pins) xe) [] σ H s:=
 ⟨I.ok.try',I.os,I.bare,I.base,I.loc,I.cell,I.free,I.freeC,λp hp=>I.pin p (by simpa using hp),I.hok,I.len⟩
theorem Inv.untry (I:Inv (X.try' (X.pn++pins) xe) pins' σ H s):Inv X pins σ H s:=
 ⟨I.ok.untry,I.os,I.bare,I.base,I.loc,I.cell,I.free,I.freeC,λp hp=>I.pin p (List.mem_append_left _ hp),I.hok,I.len⟩
theorem Inv.mark' (I:Inv X pins σ H s) (e:Value):Inv (X.mark' e) pins σ H s:=
 ⟨⟨I.ok.mod,I.ok.kind,I.ok.glob,I.ok.blt,I.ok.above,I.ok.inj,I.ok.has,I.ok.cab,λz=>(by cases z),I.ok.frames,I.ok.stk,I.ok.exf,I.ok.bs,I.ok.bsz,I.ok.noex,I.ok.exfs,I.ok.funs,I.ok.frf⟩,I.os,I.bare,I.base,I.loc,I.cell,I.free,I.freeC,I.pin,I.hok,I.len⟩
theorem Inv.unmark {e:Value} (I:Inv (X.mark' e) pins σ H s) (hd:X.calm=true->X.A.handled=none):Inv X pins σ H s:=
 ⟨⟨I.ok.mod,I.ok.kind,I.ok.glob,I.ok.blt,I.ok.above,I.ok.inj,I.ok.has,I.ok.cab,hd,I.ok.frames,I.ok.stk,I.ok.exf,I.ok.bs,I.ok.bsz,I.ok.noex,I.ok.exfs,I.ok.funs,I.ok.frf⟩,I.os,I.bare,I.base,I.loc,I.cell,I.free,I.freeC,I.pin,I.hok,I.len⟩
theorem SP.untry {D:Qm} {f:Flow} {pins' :List (Addr×Obj)} (h:SP (X.try' (X.pn++pins) xe) pins' D f s'):SP X pins D f s' :=by
 cases f with
 | next=>obtain ⟨σ',H',I,q⟩:=h; exact ⟨σ',H',I.untry,q⟩
 | brk=>obtain ⟨σ',H',I,q⟩:=h; exact ⟨σ',H',I.untry,q⟩
 | cont=>obtain ⟨σ',H',I,q⟩:=h; exact ⟨σ',H',I.untry,q⟩
 | ret u=>obtain ⟨v,σ',H',I,r,q⟩:=h; exact ⟨v,σ',H',I.untry,r,q⟩
theorem VG {A:Around} {E:Value->Shared->Prop} {M:Model} {i:Nat} {n:Str} {pos:Pos} {Q:Unit->Shared->Prop} (I:Inv X pins σ H s) (hN:X.N.Nodup) (hi:X.N[i]? =some n) (hl:X.env.kindOf n=some .local) (h:∀ s',Inv X pins (σ.set i none) H s' ->Q () s'):
  wpAny M A (do bindName X.env n .none; unbindBehindTheSuite X.env n pos) Q E s:=by
 obtain ⟨m,hn,hlo⟩:=id I.loc;have hcls:(X.env.scope.kind == .class || (X.env.scope.kind == .module && X.env.locals != X.env.globals))=false:=by rw [I.ok.kind]; rfl
 refine wpAny_nameGoes_keeps hl hn hcls λh' v hn' hs=> ?_;obtain ⟨oL,_,_,hoL,_⟩:=id hn;refine h _ ⟨I.ok,I.os,I.bare,⟨λb o e n hb hx=> ?_,λb o e n hb hx=> ?_,I.base.free,λb o e hx=> ?_,I.base.tups,I.base.frzs,I.base.tbls⟩,⟨_,hn',λj y v' e1 e2 e3=> ?_⟩,λy c e=> ?_,I.free,I.freeC,λp hp=> ?_,λb ob e=> ?_,by simpa using I.len⟩
 ·exact (hs.2 b (Nat.ne_of_lt (Nat.lt_of_lt_of_le (Heap.lt_size e) I.ok.above))).trans (I.base.keep b o e n hb hx)
 ·obtain ⟨sl,e1⟩:=I.base.slot b o e n hb hx;exact ⟨sl,(hs.2 b (Nat.ne_of_lt (Nat.lt_of_lt_of_le (Heap.lt_size e) I.ok.above))).trans e1⟩
 ·obtain ⟨o',e1⟩:=I.base.there b o e hx;exact ⟨o',(hs.2 b (Nat.ne_of_lt (Nat.lt_of_lt_of_le (Heap.lt_size e) I.ok.above))).trans e1⟩
 ·by_cases hj:j=i
  ·subst hj;have hiσ:j < σ.length:=by rw [I.len]; exact (List.getElem?_eq_some_iff.mp hi).1
   rw [List.getElem?_set_self hiσ] at e2;cases e2
  ·rw [List.getElem?_set_ne (Ne.symm hj)] at e2;obtain ⟨u',r',q⟩:=hlo j y v' e1 e2 e3;refine ⟨u',r', ?_⟩;rcases q with ⟨k,e⟩ | ⟨k,c,e,z⟩
   ·refine .inl ⟨k, ?_⟩;have:y ≠ n:=λe=>hj (Wj hN e1 (e ▸ hi));simp [this,e]
   ·exact .inr ⟨k,c,e,z.sameBut hs (I.cne y c e)⟩
 ·obtain ⟨w',z⟩:=I.cell y c e;exact ⟨w',z.sameBut hs (I.cne y c e)⟩
 ·obtain ⟨e,n,ne,nf,d⟩:=I.pin p hp;exact ⟨(hs.2 p.1 ne).trans e,n,ne,nf,d⟩
 ·refine (I.hok b ob e).stay (λc w' hc q=>(hs.2 c ?_).trans q) (λ_ q=>q) λ_ _ q=>q
  rintro rfl
  rcases hc with rfl | hc
  ·rw [I.free] at e; cases e
  ·rw [I.free] at hc; cases hc
end
section
variable {prog:Program} {w:World} {A:Around} {E:Value->Shared->Prop} {s:Shared} {env:Env}
theorem yq {K:Frag} {e:Addr} {cls c:Value} {t:Expr} {n:Str} {b₀:Stmt} {suite:List Stmt} {pos:Pos} {rest:List ExceptHandler} {Q:Flow->Shared->Prop} (hx:exmOne K cls c=some true)
  (h:wpAny (model prog w) (A.mark (some (.ref e))) (eval t env) (λv s₁=>v=c/\K.In s₁.heap/\(∃ oe,s₁.heap.get? e=some oe/\oe.cls=cls)/\
   wpAny (model prog w) (A.mark (some (.ref e))) (setFlight (.ref e) none) (λ_ s₂=>
     wpAny (model prog w) (A.mark (some (.ref e))) (storeName env n (.ref e)) (λ_ s₃=>
      wpAny (model prog w) (A.mark (some (.ref e))) (execs (b₀ :: suite) env)
       (λf s₄=>wpAny (model prog w) A (do bindName env n .none; unbindBehindTheSuite env n pos) (λ_ s₅=>Q f s₅) E s₄)
       (λ_ _=>False) s₃) (λ_ _=>False) s₂) (λ_ _=>False) s₁) (λ_ _=>False) s):
  wpAny (model prog w) A (handleBy (.ref e) env (.ExceptHandler (some t) (some n) (b₀ :: suite) pos :: rest)) Q E s:=by
 refine wpAny_handleBy_cons (codeAny_handlers_test (wpAny_mono h (λv s₁ h₁=> ?_) λ_ _ y=>y.elim)) (by intro q; cases q)
 obtain ⟨rfl,X,⟨oe,he,hcls⟩,hk⟩:=h₁;have LT:Looks (model prog w) s₁.heap (typeOf (.ref e)) cls:=by
  rw [← hcls];exact (Looks.ld he).andThen .now
 refine (exm_one X LT hx) _ _ _ _ (λb o q=>q) (codeAny_handlers_suite_as ?_);exact wpAny_mono hk (λ_ s₂ h₂=>wpAny_mono h₂ (λ_ s₃ h₃=>wpAny_mono h₃ (λ_ _ y=>y) λ_ _ y=>y.elim) λ_ _ y=>y.elim) λ_ _ y=>y.elim
end
end L2
namespace L2
open PySem PySem.Spec PyProof.Rows PySem.W
section
variable {X:Cx} {pins:List (Addr×Obj)} {σ:St} {H H' :Hp} {s s' :Shared} {ea:Addr} {cls a0:Value} {B:Heap} {h3:Heap}
theorem Inv.caught (I:Inv X pins σ H s) (L:Wo X.prog X.w X.stack H s s' ea cls a0 B H') (fl:Heap.FlyingW B X.stack ea cls a0 h3) (sl:s'.heap.UpToSlots h3):Inv X pins σ H' { s' with heap:=h3 }:=
 have L3:=L.on I.frNf fl sl
 I.call' (ch:=[]) L3.os L3.un (L.hok.kept fl.1) L3.bare (λb z=>absurd z (by simp))
theorem Wo.fresh {P:Program} {w:World} {outer:List Env} (L:Wo P w outer H s s' ea cls a0 B H'):H' ea=none:=by
 cases q:H' ea with
 | none=>rfl
 | some o=>
  obtain ⟨ob,e⟩:=(L.hok ea o q).there;have:=L.fly.2.1;rw [e] at this; cases this
theorem Inv.caughtX (I:Inv X pins σ H s) (L:Wo X.prog X.w X.stack H s s' ea cls a0 B H') (fl:Heap.FlyingW B X.stack ea cls a0 h3) (sl:s'.heap.UpToSlots h3):Inv X pins σ (upd H' ea (.ext (uZ cls ea))) { s' with heap:=h3 }:=by
 have L3:=L.on I.frNf fl sl;have hfree:=L.fresh;obtain ⟨oe,vs,he,hc,hd,_⟩:=fl.first;have hne:∀ b o,s.heap.get? b=some o->b ≠ ea:=λb o e z=>by
  subst z
  by_cases hb:b∈frs X.stack
  ·obtain ⟨n,o2,e2,nf⟩:=I.frNf b hb;obtain ⟨sl1,e3⟩:=L3.un.slot b o2 e2 n hb (by simp)
   have e3:h3.get? b=some { o2 with slots:=sl1 }:=e3;rw [he] at e3; cases e3;exact nf vs hd
  ·obtain ⟨o',e'⟩:=(L.inB b o e hb).2;have:=L.fly.2.1;rw [e'] at this; cases this
 have nt:∀ b u,H' b=some u->b ≠ ea:=λb u e z=>by rw [z,hfree] at e; cases e
 refine I.call' (ch:=[]) L3.os ⟨L3.un.keep,L3.un.slot,λb o e n hx=> ?_,L3.un.there,λb xs e=> ?_,λb o xs e=> ?_,λb ps e=> ?_⟩ ?_ L3.bare (λb z=>absurd z (by simp))
 ·rw [zD (hne b o e)]; exact L3.un.free b o e n hx
 ·have:=L3.un.tups b xs e;rw [zD (nt b _ this)]; exact this
 ·have:=L3.un.frzs b o xs e;rw [zD (nt b _ this)]; exact this
 ·obtain ⟨m,this⟩:=L3.un.tbls b ps e;exact ⟨m,by rw [zD (nt b _ this)]; exact this⟩
 ·intro b u e
  by_cases hb:b=ea
  ·subst hb;rw [Zc] at e; cases e;exact uZ.ok ⟨oe,he,hc⟩
  ·rw [zD hb] at e;exact ((L.hok.kept fl.1) b u e).stay (λ_ _ _ q=>q) (λc q=>by rw [zD (nt c _ q)]; exact q) λc xs q=>by rw [zD (nt c _ q)]; exact q
end
theorem VH {X:Cx} {tb:XK->TS} {body:List Stmt} {c n y:Str} {C:Addr} {cp np yp hp apos pos:Pos} {i k:Nat}
  (hX:X.stack=X.env :: X.outer) (hf:X.env.frame=some X.env.locals) (hN:X.N.Nodup)
  (hi:X.N[i]? =some n) (hl:X.env.scope.names.lookup n=some .local) (hk:X.N[k]? =some y) (hy:X.env.scope.names.lookup y=some .local)
  (hg:Gl X c) (hm:X.mg c=some (.ref C))
  (hb:∀ (E' :XK) (pn:List (Addr×Obj)) (xe:Value->Shared->Prop),jA (CX1 X.prog X.w) (X.try' pn xe) E' ->PSs (X.try' pn xe) body (tb E'))
  (hs:swapsWith (.Name n np) (some (.Name y yp)) apos.line X.env=pure false:=by rfl)
  (hdc:(c == ("__debug__":Str))=false:=by decide) (hdn:(n == ("__debug__":Str))=false:=by decide) (hcd:(n == ("__classdict__":Str))=false:=by decide):
  PS X (.Try body [.ExceptHandler (some (.Name c cp)) (some n) [.Assign [.Name y yp] (.Name n np) apos] hp] [] [] pos)
   (λD σ H=>∃ E' :XK,(∀ (cls:Value) (d:Option Addr) (H' :Hp) (ea:Addr) (σ' :St),E' cls d H' ->exmOne X.K cls (.ref C)=some true/\(H' ea=none->σ'.length=σ.length->σ.length=X.N.length->D.nx (((σ'.set i (some (.ref ea))).set k (some (.ref ea))).set i none) (upd H' ea (.ext (uZ cls ea)))))/\tb E' D σ H):=by
 intro pins s σ H D I ⟨E',hE,hw⟩;have pass:jA (CX1 X.prog X.w) (X.try' (X.pn++pins) λe s1=>wpAny (model X.prog X.w) X.A (noteFrame e X.env) (λ_ s2=>wpAny (model X.prog X.w) X.A (setFlight e none) (λ_ s3=>wpAny (model X.prog X.w) X.A (handleBy e X.env [.ExceptHandler (some (.Name c cp)) (some n) [.Assign [.Name y yp] (.Name n np) apos] hp]) (SP X pins D) X.xe s3) X.xe s2) X.xe s1) E' :=by
  intro pins' σ' H1 s1 e s' I1 ⟨ea,cls,a0,B,H',he,L,hw'⟩;subst he;have I0:Inv X pins σ' H1 s1:=I1.untry;have L:Wo X.prog X.w X.stack H1 s1 s' ea cls a0 B H' :=L;have fr:X.A.frames=some (X.env :: X.outer):=by rw [← hX]; exact I0.ok.frames
  show wpAny (model X.prog X.w) X.A (noteFrame (.ref ea) X.env) _ _ s';refine wpAny_looks_onW (base:=B) fr hf (hX ▸ L.fly) λh1 held sl1=> ?_;refine wpAny_landsW held λh2 fl2 sl2=> ?_;rw [← hX] at fl2;have sl12:s'.heap.UpToSlots h2:=sl1.trans sl2;have I2:=I0.caught L fl2 sl12;obtain ⟨hm1,hD⟩:=hE cls none H' ea σ' hw';refine yq hm1 ?_;refine Wk (X:=X.mark' (.ref ea)) (I2.mark' (.ref ea)) hg hm ⟨rfl,I2.kIn,fl2.there, ?_⟩ hdc;refine lands_againW fl2 λh3 fl3 sl3=> ?_;have I3:=I0.caughtX L fl3 (sl12.trans sl3);have hlen:σ'.length=X.N.length:=I0.len;refine Jh (X:=X.mark' (.ref ea)) (I3.mark' _) hN hi (.inl hl) (v:= .ref ea) rfl (λs4 I4=> ?_) (.inr hl);have hiσ:i < σ'.length:=by rw [hlen]; exact (List.getElem?_eq_some_iff.mp hi).1
  have hs1:=Y0 (Uv (X:=X.mark' (.ref ea)) (pos:=apos) (pos' :=yp) hN hk (.inl hy) (vF (pos:=np) hi (.inl hl) hdn hcd) hs (.inr hy));have hr:=hs1 pins s4 _ _ { nx:=λσ5 H5=>σ5=(σ'.set i (some (.ref ea))).set k (some (.ref ea))/\H5=upd H' ea (.ext (uZ cls ea)),rt:=λ_ _=>False } I4 ⟨.ref ea,List.getElem?_set_self hiσ,rfl,rfl⟩;refine wpAny_mono hr (λf s5 h5=> ?_) λ_ _ z=>z;cases f with
  | next=>
   obtain ⟨σ5,H5,I5,rfl,rfl⟩:=h5;refine VG (X:=X) (I5.unmark I.ok.hd) hN hi hl λs6 I6=> ?_;exact ⟨_,_,I6,hD L.fresh (hlen.trans I.len.symm) I.len⟩
  | brk=>obtain ⟨_,_,_,z⟩:=h5; exact z.elim
  | cont=>obtain ⟨_,_,_,z⟩:=h5; exact z.elim
  | ret u=>obtain ⟨_,_,_,_,_,z⟩:=h5; exact z.elim
 have hr:=hb E' (X.pn++pins) _ pass [] s σ H D (I.try' _) hw;refine wpAny_Try_except (wpAny_mono hr (λf s1 h1=> ?_) λ_ _ z=>z);have h1:=h1.untry;cases f with
 | next=>exact wpAny_execs_nil h1
 | brk=>exact h1
 | cont=>exact h1
 | ret u=>exact h1
end L2
namespace PySem
open PySem.W
section
variable {M:Model} {A:Around} {E:Value->Shared->Prop} {s:Shared}
def vL (base:Heap) (l:List Env) (e:Addr) (cls a0:Value) (h:Heap):Prop:=base.StaysIn h/\base.get? e=none/\h.FunFrames base l/\∃ fl,h.TracedAtW base e cls a0 fl
theorem yr {base:Heap} {l:List Env} {e:Addr} {cls a0:Value} {f:Option Addr} {Q:Unit->Shared->Prop} (x:vL base l e cls a0 s.heap)
  (h:∀ h',vL base l e cls a0 h' ->s.heap.UpToSlots h' ->Q () { s with heap:=h' }):wpAny M A (setFlight (.ref e) f) Q E s:=by
 obtain ⟨kb,en,fr,fl,oe,vs,T,oT,ts,q1,q2,q3,q4,q5,q6,q7,q8,q9⟩:=x;have z3:3 < ts.size:=(Array.getElem?_eq_some_iff.mp q9).1;unfold setFlight;refine wpAny_bind (wpAny_field q1 q3 q4 ?_);rw [if_pos (show (Value.ref T != .none)=true by simp)]
 refine wpAny_setField q7 q8 z3 ?_;generalize f.elim Value.none (λf=>rawInt f)=nv;have oth:∀ b,b ≠ T->(s.heap.update T (Obj.mapFields (·.setIfInBounds 3 nv))).get? b=s.heap.get? b:=λb hb=>Heap.get?_update_other _ _ hb.symm;have nr:∀ b o,s.heap.get? b=some o->(∀ vs,o.data ≠ .fields vs)->b ≠ T:=λb o hb n q=>by subst q; rw [q7] at hb; cases hb; exact n ts q8
 have up:s.heap.UpToSlots (s.heap.update T (Obj.mapFields (·.setIfInBounds 3 nv))):=λb o hb n=>⟨o.slots,(oth b (nr b o hb n)).trans hb⟩;refine h _ ⟨λb o hb=>(oth b λq=> ?_).trans (kb b o hb),en,fr.of_keeps λb o hb n=>⟨o,(oth b (nr b o hb n)).trans hb,rfl⟩,nv,oe,vs,T,(Obj.mapFields (·.setIfInBounds 3 nv)) oT,ts.setIfInBounds 3 nv,(oth e q6.symm).trans q1,q2,q3,q4,q5,q6, ?_,Obj.data_mapFields q8 _,by simp [z3]⟩ up
 ·subst q; rw [q5] at hb; cases hb
 ·exact Heap.get?_update_self _ q7 (Obj.isFreed_of_fields (Obj.data_mapFields q8 _))
theorem Qv {base:Heap} {env:Env} {outer:List Env} {L e:Addr} {cls a0:Value} {Q:Unit->Shared->Prop} (hfr:A.frames=some (env :: outer)) (hf:env.frame=some L) (x:vL base (env :: outer) e cls a0 s.heap)
  (h:∀ h',Heap.FlyingW base outer e cls a0 h' ->s.heap.UpToSlots h' ->Q () { s with heap:=h' }):wpAny M A (leaving env (.ref e)) Q E s:=by
 obtain ⟨kb,en,fr,fl,tr⟩:=x
 by_cases hfl:fl=rawInt L
 ·subst hfl;unfold leaving;refine wpAny_bind (wpAny_noteFrame_againW hf tr ?_);refine wpAny_landsW ⟨kb,en,fr,tr⟩ λh' ⟨k1,k2,⟨_,_,k3⟩,k4⟩ sl=>h h' ⟨k1,k2,k3,k4⟩ sl
 ·obtain ⟨oe,vs,T,oT,ts,q1,⟨hcls,q2⟩,q3,q4,q5,q6,q7,q8,q9⟩:=tr;subst hcls;unfold leaving noteFrame;simp only [hf];refine wpAny_bind (wpAny_bind (wpAny_field q1 q3 q4 ?_));rw [if_pos (show (Value.ref T != .none)=true by simp)]
  refine wpAny_bind (wpAny_field q7 q8 q9 ?_);rw [if_neg (show ¬ ((fl == rawInt L)=true) from λz=>hfl (eq_of_beq z))];refine wpAny_bind (wpAny_setField q7 q8 (Array.getElem?_eq_some_iff.mp q9).1 ?_);have oth:∀ b,b ≠ T->(s.heap.update T (Obj.mapFields (·.setIfInBounds 3 Value.none))).get? b=s.heap.get? b:=λb hb=>Heap.get?_update_other _ _ hb.symm;have nr:∀ b o,s.heap.get? b=some o->(∀ vs,o.data ≠ .fields vs)->b ≠ T:=λb o hb n q=>by subst q; rw [q7] at hb; cases hb; exact n ts q8
  refine wpAny_newEntryW hfr (fr.of_keeps λb o hb n=>⟨o,(oth b (nr b o hb n)).trans hb,rfl⟩) hf ((oth e q6.symm).trans q1) (λb o hb=>(oth b λq=> ?_).trans (kb b o hb)) en q3 (Array.getElem?_eq_some_iff.mp q4).1 q2 λh' ⟨x1,⟨_,_,x2⟩,x3,x4⟩=>
   h h' ⟨x1,en,x2,x3⟩ λb o hb n=>x4 b o ((oth b (nr b o hb n)).trans hb) n
  subst q; rw [q5] at hb; cases hb
theorem VI {α:Type} {base:Heap} {l:List Env} {e:Addr} {cls a0:Value} {what:String} {env:Env} {Q:α->Shared->Prop} (x:vL base l e cls a0 s.heap) (h:∀ h',vL base l e cls a0 h' ->s.heap.UpToSlots h' ->E (.ref e) { s with heap:=h' }):
  wpAny M A (passOn what (.ref e) env:Sem α) Q E s:=by
 obtain ⟨_,_,_,fl,oe,vs,T,oT,ts,q1,q2,q3,q4,_⟩:=id x;unfold passOn;refine wpAny_bind (wpAny_field q1 q3 q4 ?_);rw [if_neg (show ¬ ((Value.ref T == .none)=true) by simp)]
 exact wpAny_bind (yr x λh' f sl=>wpAny_throw (h h' f sl))
theorem kx {env env' :Env} {e:Value} (h:env'.frame=env.frame):noteFrame e env' =noteFrame e env:=by
 unfold noteFrame frameOf;rw [h]
theorem wu {base h h' :Heap} {C:Addr} {oC:Obj} (hC:base.get? C=some oC) (sb:Heap.SameBut C h h'):∀ {l:List Env},h.FunFrames base l->h'.FunFrames (hideAll base [C]) l
 | [],_=>trivial
 | env :: _,⟨k,⟨L,o,f,n,ho,d⟩,r⟩=>by
  have ne:L ≠ C:=λz=>by subst z; rw [hC] at n; cases n
  refine ⟨k,⟨L,o,f, ?_,(sb.2 L ne).trans ho,d⟩,wu hC sb r⟩;cases q:(hideAll base [C]).get? L with
  | none=>rfl
  | some u=>have:=of_hideAll _ q; rw [n] at this; cases this
theorem vL.hide {base h h' :Heap} {l:List Env} {e C:Addr} {oC:Obj} {cls a0 fl:Value} (k:base.StaysIn h) (n:base.get? e=none) (fr:h.FunFrames base l) (t:h.TracedAtW base e cls a0 fl) (hC:base.get? C=some oC) (sb:Heap.SameBut C h h'):vL (hideAll base [C]) l e cls a0 h' :=by
 have hn:∀ b,base.get? b=none->(hideAll base [C]).get? b=none:=λb z=>by
  cases q:(hideAll base [C]).get? b with
  | none=>rfl
  | some u=>have:=of_hideAll _ q; rw [z] at this; cases this
 have ne:∀ b,base.get? b=none->b ≠ C:=λb z q=>by subst q; rw [hC] at z; cases z
 obtain ⟨oe,vs,T,oT,ts,q1,q2,q3,q4,q5,q6,q7,q8,q9⟩:=t;refine ⟨λb o hb=> ?_,hn e n,wu hC sb fr,fl,oe,vs,T,oT,ts,(sb.2 e (ne e n)).trans q1,q2,q3,q4,hn T q5,q6,(sb.2 T (ne T q5)).trans q7,q8,q9⟩;have hbC:b ≠ C:=λz=>by
  subst z; rw [hideAll_none _ (List.mem_singleton.mpr rfl)] at hb; cases hb
 exact (sb.2 b hbC).trans (k b o (of_hideAll _ hb))
end
end PySem
namespace L2
open PySem PySem.Spec PyProof.Rows PySem.W
section
variable {X:Cx} {pins:List (Addr×Obj)} {σ:St} {H H' :Hp} {s s' :Shared} {ea C:Addr} {cls a0:Value} {B:Heap} {h' :Heap}
theorem Wo.outB (I:Inv X pins σ H s) (hX:X.stack=X.env :: X.outer) (hf:X.env.frame=some X.env.locals) (hex:X.ex=[]) (L:Wo X.prog X.w X.stack H s s' ea cls a0 B H') (hC:H C=none) (hS:X.s₀.heap.objs.size<=C) (hCf:C ∉ frs X.stack) {oC:Obj} (eC:s.heap.get? C=some oC)
  (fl:Heap.FlyingW (hideAll B [C]) X.outer ea cls a0 h') (sl:∀ b o,s'.heap.get? b=some o->b ≠ C->(∀ vs,o.data ≠ .fields vs)->∃ sl,h'.get? b=some { o with slots:=sl }):Wo X.prog X.w X.outer X.H₀ X.s₀ { s' with heap:=h' } ea cls a0 (hideAll B [C]) H' :=by
 have nx:∀ b,b ∉ X.ex:=λb=>by rw [hex]; simp
 have nC:∀ b o,X.s₀.heap.get? b=some o->b ∉ [C]:=λb o e z=>by
  rw [List.mem_singleton.mp z] at e;exact absurd (Heap.lt_size e) (Nat.not_lt.mpr hS)
 have nC' :∀ b o,X.s₀.heap.get? b=some o->b ≠ C:=λb o e z=>nC b o e (List.mem_singleton.mpr z);have inB:∀ b o,X.s₀.heap.get? b=some o->b ∉ frs X.outer->(X.H₀ b=none->(hideAll B [C]).get? b=some o)/\∃ o',(hideAll B [C]).get? b=some o' :=λb o e hb=>by
  obtain ⟨o1,e1⟩:=I.base.there b o e (nx b);have hb' :=I.old hX hf e hb;obtain ⟨o2,e2⟩:=(L.inB b o1 e1 hb').2;exact ⟨λn=>hideAll_get _ ((L.inB b o (I.base.keep b o e n hb (nx b)) hb').1 (I.base.free b o e n (nx b))) (nC b o e),o2,hideAll_get _ e2 (nC b o e)⟩
 have slot:∀ b o,X.s₀.heap.get? b=some o->X.H₀ b=none->b∈frs X.outer->∃ sl,h'.get? b=some { o with slots:=sl }:=λb o e n hb=>by
  obtain ⟨sl1,e1⟩:=I.base.slot b o e n hb (nx b);obtain ⟨sl2,e2⟩:=L.un.slot b _ e1 (I.base.free b o e n (nx b)) (wt hX hf hb) (by simp)
  obtain ⟨_,o3,e3,nf⟩:=I.frNf b (wt hX hf hb);rw [e1] at e3; cases e3;obtain ⟨sl4,e4⟩:=sl b _ e2 (nC' b o e) nf;exact ⟨sl4,e4⟩
 have hC' :H' C=none:=L.un.free C oC eC hC (by simp)
 refine ⟨L.os.trans I.os,L.bare,fl,λa o e=>(L.hok a o e).stay (λb u hb q=>hideAll_get _ q λz=> ?_) (λ_ q=>q) λ_ _ q=>q,⟨λb o e n hb _=>fl.1 b o ((inB b o e hb).1 n),λb o e n hb _=>slot b o e n hb,λb o e n _=> ?_,λb o e _=> ?_,λb xs e=>L.un.tups b xs (I.base.tups b xs e),λb o xs e=>L.un.frzs b o xs (I.base.frzs b o xs e),λb ps e=> ?_⟩,inB⟩
 ·rw [List.mem_singleton.mp z] at hb;rcases hb with z | hb
  ·rw [← z,hC'] at e; cases e
  ·rw [hC'] at hb; cases hb
 ·obtain ⟨o1,e1⟩:=I.base.there b o e (nx b);exact L.un.free b o1 e1 (I.base.free b o e n (nx b)) (by simp)
 ·by_cases hb:b∈frs X.outer
  ·obtain ⟨sl1,e1⟩:=slot b o e (I.ok.frf b hb) hb;exact ⟨_,e1⟩
  ·obtain ⟨o',e'⟩:=(inB b o e hb).2;exact ⟨o',fl.1 b o' e'⟩
 ·obtain ⟨m1,e1⟩:=I.base.tbls b ps e;obtain ⟨m2,e2⟩:=L.un.tbls b _ e1;exact ⟨m1++m2,by rw [e2,Array.append_assoc]⟩
def Qw (X:Cx) (E:XK):Prop:=∀ (pins:List (Addr×Obj)) (σ:St) (H:Hp) (s:Shared) (e:Value) (s' :Shared) (C:Addr) (m:Str->Option Value) (E' :Value->Shared->Prop) (cenv:Env),Inv X pins σ H s->s.heap.Ns C m->H C=none->X.s₀.heap.objs.size<=C->C ∉ frs X.stack->cenv.frame=X.env.frame->CX1 X.prog X.w X.stack H s E e s' ->
 wpAny (model X.prog X.w) X.A (noteFrame e cenv) (λ_ s'' =>∃ m,s''.heap.Ns C m/\∀ h',Heap.SameBut C s''.heap h' ->∀ env:Env,env.locals=C->wpAny (model X.prog X.w) X.A (passOn "comprehension.variables-let-go" e env:Sem Value) (λ_ _=>False) X.xe { s'' with heap:=h' }) E' s'
theorem W6 {E:XK} (h:E=λ_ _ _=>False):Qw X E:=λpins σ H s e s' C m E' cenv I _ _ _ _ _ ⟨_,_,_,_,_,_,_,z⟩=>by subst h; exact z.elim
theorem ky {P:Program} {w:World} {K:Frag} {mg:Str->Option Value} {base:Heap} {N:List Str} {qual:Str} {scope:Scope} {f:Addr} {cd:Value} {A:Around} {outer:List Env} {s:Shared} {H:Hp} {E:XK}:Qw (wo (CX1 P w) P w K mg base N qual scope f cd A outer s H E) E:=by
 intro pins σ H1 s1 e s' C m E' cenv I hn hC hS hCf hcf ⟨ea,cls,a0,B,H',he,L,hE⟩;subst he;rw [kx hcf];refine wpAny_looks_onW (base:=B) I.ok.frames rfl L.fly λh1 held sl1=> ?_;obtain ⟨oC,es,ep,eC,r⟩:=hn;have bC:B.get? C=some oC:=(L.inB C oC eC hCf).1 hC;refine ⟨m,⟨oC,es,ep,held.1 C oC bC,r⟩,λh' sb env _=> ?_⟩;refine VI (vL.hide held.1 held.2.1 held.2.2.1 held.2.2.2 bC sb) λh2 fa2 sl2=> ?_;refine Qv I.ok.frames rfl fa2 λh3 fl3 sl3=>⟨ea,cls,a0,_,H',rfl,Wo.outB (s' :=s') I rfl rfl rfl L hC hS hCf eC fl3 λb o e nb nf=> ?_,hE⟩;obtain ⟨x1,e1⟩:=sl1 b o e nf;obtain ⟨x2,e2⟩:=sl2 b _ ((sb.2 b nb).trans e1) nf;obtain ⟨x3,e3⟩:=sl3 b _ e2 nf;exact ⟨x3,e3⟩
end
end L2
namespace L2
open PySem PySem.Spec PyProof.Rows
theorem PE.imp {X:Cx} {e:Expr} {t t' :TE} (h:PE X e t) (i:∀ σ H Q,t' σ H Q->t σ H Q):PE X e t' :=λpins s σ H Q I q=>h pins s σ H Q I (i σ H Q q)
theorem PT.imp {X:Cx} {e:Expr} {t t' :TT} (h:PT X e t) (i:∀ σ H Q,t' σ H Q->t σ H Q):PT X e t' :=λpins s σ H Q I q=>h pins s σ H Q I (i σ H Q q)
theorem PA.imp {X:Cx} {e:List Expr} {t t' :TA} (h:PA X e t) (i:∀ σ H Q,t' σ H Q->t σ H Q):PA X e t' :=λpos pins s σ H Q I q=>h pos pins s σ H Q I (i σ H Q q)
theorem PS.imp {X:Cx} {e:Stmt} {t t' :TS} (h:PS X e t) (i:∀ D σ H,t' D σ H->t D σ H):PS X e t' :=λpins s σ H D I q=>h pins s σ H D I (i D σ H q)
theorem PSs.imp {X:Cx} {e:List Stmt} {t t' :TS} (h:PSs X e t) (i:∀ D σ H,t' D σ H->t D σ H):PSs X e t' :=λpins s σ H D I q=>h pins s σ H D I (i D σ H q)
end L2
namespace PV
open PySem
def uh:Expr->Bool
 | .Starred _ _=>false
 | _=>true
theorem Zo {e:Expr} {rest:List Expr} {env:Env} (h:uh e=true):starEach (e :: rest) env=(false,eval e env) :: starEach rest env:=by
 cases e <;> first | rfl | cases h
theorem st2 {a b:Expr} {env:Env} (h:uh a=true) (h' :uh b=true):starEach [a,b] env=[(false,eval a env),(false,eval b env)]:=by
 rw [Zo h,Zo h']; rfl
theorem st1 {a:Expr} {env:Env} (h:uh a=true):starEach [a] env=[(false,eval a env)]:=by
 rw [Zo h]; rfl
theorem j0 {pos:Pos} {env:Env}:∀ {es:List Expr},es.all uh=true->((backTo pos (starEach es env)).any λx=>x.fst)=false
 | [],_=>rfl
 | e :: es,h=>by
  rw [List.all_cons,Bool.and_eq_true] at h;rw [Zo h.1];have:=j0 (pos:=pos) (env:=env) h.2;show (false || ((backTo pos (starEach es env)).any λx=>x.fst))=false
  rw [this]; rfl
open PySem PySem.Spec PyProof.Rows L2
abbrev Sg:=L2.St
inductive T where
 | non | bl (b:Bool) | int (i:Int) | str (x:Str) | tup (xs:List T) | lst (xs:List T) | fz (xs:List T)
inductive R (α:Type) where
 | ok (a:α) | ex (c:Nat) | bad
def R.bind {α β:Type} (r:R α) (f:α->R β):R β:=match r with
 | .ok a=>f a
 | .ex c=> .ex c
 | .bad=> .bad
mutual
inductive Rep (H:Hp):V->T->Prop where
 | non:Rep H .non .non
 | bl (b:Bool):Rep H (.bl b) (.bl b)
 | int (i:Int):Rep H (.int i) (.int i)
 | str (x:Str):Rep H (.str x) (.str x)
 | tup {a:Addr} {xs:List V} {ts:List T}:H a=some (.tup xs)->zT H xs ts->Rep H (.ref a) (.tup ts)
 | lst {a:Addr} {xs:List V} {ts:List T}:H a=some (.lst xs)->zT H xs ts->Rep H (.ref a) (.lst ts)
 | fz {a:Addr} {o:Obj} {xs:List V} {ts:List T}:H a=some (.frz o (.lst xs))->zT H xs ts->Rep H (.ref a) (.fz ts)
inductive zT (H:Hp):List V->List T->Prop where
 | nil:zT H [] []
 | cons {v:V} {t:T} {vs:List V} {ts:List T}:Rep H v t->zT H vs ts->zT H (v :: vs) (t :: ts)
end
mutual
theorem Rep.mono {H H' :Hp} (s:zJ H H'):∀ {v:V} {t:T},Rep H v t->Rep H' v t
 | _,_, .non=> .non
 | _,_, .bl b=> .bl b
 | _,_, .int i=> .int i
 | _,_, .str x=> .str x
 | _,_, .tup h r=> .tup (s _ _ h) (zT.mono s r)
 | _,_, .lst h r=> .lst (s _ _ h) (zT.mono s r)
 | _,_, .fz h r=> .fz (s _ _ h) (zT.mono s r)
theorem zT.mono {H H' :Hp} (s:zJ H H'):∀ {v:List V} {t:List T},zT H v t->zT H' v t
 | _,_, .nil=> .nil
 | _,_, .cons h r=> .cons (Rep.mono s h) (zT.mono s r)
end
theorem zT.length {H:Hp}:∀ {vs:List V} {ts:List T},zT H vs ts->vs.length=ts.length
 | _,_, .nil=>rfl
 | _,_, .cons _ r=>congrArg (·+1) (zT.length r)
theorem zT.get {H:Hp}:∀ {vs:List V} {ts:List T} {i:Nat} {t:T},zT H vs ts->ts[i]? =some t->∃ v,vs[i]? =some v/\Rep H v t
 | _,_,_,_, .nil,e=>by simp at e
 | _,_,0,_, .cons r _,e=>by simp at e; subst e; exact ⟨_,rfl,r⟩
 | _,_,i+1,t, .cons _ q,e=>by
  obtain ⟨v,h1,h2⟩:=zT.get (i:=i) (t:=t) q (by simpa using e)
  exact ⟨v,by simpa using h1,h2⟩
theorem zT.getV {H:Hp}:∀ {vs:List V} {ts:List T} {i:Nat} {v:V},zT H vs ts->vs[i]? =some v->∃ t,ts[i]? =some t/\Rep H v t
 | _,_,_,_, .nil,e=>by simp at e
 | _,_,0,_, .cons r _,e=>by simp at e; subst e; exact ⟨_,rfl,r⟩
 | _,_,i+1,v, .cons _ q,e=>by
  obtain ⟨t,h1,h2⟩:=zT.getV (i:=i) (v:=v) q (by simpa using e)
  exact ⟨t,by simpa using h1,h2⟩
theorem zT.append {H:Hp}:∀ {vs ws:List V} {ts us:List T},zT H vs ts->zT H ws us->zT H (vs++ws) (ts++us)
 | _,_,_,_, .nil,q=>q
 | _,_,_,_, .cons r t,q=> .cons r (zT.append t q)
theorem zT.take {H:Hp}:∀ {vs:List V} {ts:List T} (n:Nat),zT H vs ts->zT H (vs.take n) (ts.take n)
 | _,_,0,_=> .nil
 | _,_,_+1, .nil=> .nil
 | _,_,n+1, .cons r t=> .cons r (zT.take n t)
theorem zT.drop {H:Hp}:∀ {vs:List V} {ts:List T} (n:Nat),zT H vs ts->zT H (vs.drop n) (ts.drop n)
 | _,_,0,r=>r
 | _,_,_+1, .nil=> .nil
 | _,_,n+1, .cons _ t=>zT.drop n t
theorem zT.rep {H:Hp} {vs:List V} {ts:List T} (h:zT H vs ts):∀ n:Nat,zT H (List.replicate n vs).flatten (List.replicate n ts).flatten
 | 0=> .nil
 | n+1=>by
  rw [List.replicate_succ,List.replicate_succ,List.flatten_cons,List.flatten_cons];exact h.append (zT.rep h n)
theorem zT.nil_iff {H:Hp} {vs:List V} {ts:List T} (h:zT H vs ts):vs=[]↔ts=[]:=by
 cases h <;> simp
def Za (B H H' :Hp):Hp:=λb=>match H b with
 | none=>H' b
 | some _=>B b
theorem Zk {B H H' :Hp} {b:Addr} (h:H b=none):Za B H H' b=H' b:=by unfold Za; rw [h]
theorem Zw {B H H' :Hp} {b:Addr} {o:HO} (h:H b=some o):Za B H H' b=B b:=by unfold Za; rw [h]
theorem Za.ge {B H H' :Hp} (s:zJ B H) (s' :zJ H H'):zJ B (Za B H H'):=λb o h=>by
 rw [Zw (s b o h)]; exact h
theorem Za.le {B H H' :Hp} (s:zJ B H) (s' :zJ H H'):zJ (Za B H H') H' :=λb o h=>by
 cases q:H b with
 | none=>rw [Zk q] at h; exact h
 | some u=>rw [Zw q] at h; exact s' b o (s b o h)
theorem Za.self (B H:Hp) (s:zJ B H):Za B H H=B:=by
 funext b
 cases q:H b with
 | none=>
  rw [Zk q,q];cases z:B b with
  | none=>rfl
  | some o=>rw [s b o z] at q; cases q
 | some u=>rw [Zw q]
theorem Za.trans {B H H1 H2:Hp} (s1:zJ H H1) (s2:zJ H1 H2):Za (Za B H H1) H1 H2=Za B H H2:=by
 funext b
 cases q:H b with
 | none=>
  rw [Zk q];cases z:H1 b with
  | none=>rw [Zk z]
  | some o=>rw [Zw z,Zk q,z,s2 b o z]
 | some u=>rw [Zw q,Zw (s1 b u q),Zw q]
inductive Sl where
 | un | vl (t:T) | ow (ts:List T) | xc (c:Nat)
abbrev En:=List Sl
structure Fx where
 B0:Hp
 H0:Hp
 E:XK
 cl:Nat->Value
structure SI (Y:Fx) (B:Hp) (ρ:En) (σ:Sg) (H:Hp):Prop where
 s0:zJ Y.B0 Y.H0
 sH:zJ Y.H0 H
 sB:zJ B H
 old:∀ b o,Y.H0 b=some o->B b=Y.B0 b
 len:ρ.length=σ.length
 vl:∀ (i:Nat) (t:T),ρ[i]? =some (Sl.vl t)->∃ v:V,σ[i]? =some (some v)/\Rep B v t
 ow:∀ (i:Nat) (ts:List T),ρ[i]? =some (Sl.ow ts)->∃ (a:Addr) (xs:List V),σ[i]? =some (some (V.ref a))/\B a=none/\Y.H0 a=none/\H a=some (.lst xs)/\zT B xs ts/\
  ∀ (j:Nat) (us:List T),j ≠ i->ρ[j]? =some (Sl.ow us)->σ[j]? ≠ some (some (V.ref a))
 xc:∀ (i:Nat) (c:Nat),ρ[i]? =some (Sl.xc c)->∃ a:Addr,σ[i]? =some (some (V.ref a))/\B a=some (.ext (uZ (Y.cl c) a))
theorem SI.grow {Y:Fx} {B:Hp} {ρ:En} {σ:Sg} {H H' :Hp} (I:SI Y B ρ σ H) (s:zJ H H'):SI Y (Za B H H') ρ σ H' where
 s0:=I.s0
 sH:=I.sH.trans s
 sB:=Za.le I.sB s
 old:=λb o h=>by rw [Zw (I.sH b o h)]; exact I.old b o h
 len:=I.len
 vl:=λi t h=>let ⟨v,e,r⟩:=I.vl i t h; ⟨v,e,r.mono (Za.ge I.sB s)⟩
 ow:=λi ts h=>let ⟨a,xs,e,b,h0,hh,r,d⟩:=I.ow i ts h; ⟨a,xs,e,by rw [Zw hh]; exact b,h0,s _ _ hh,r.mono (Za.ge I.sB s),d⟩
 xc:=λi c h=>let ⟨a,e,r⟩:=I.xc i c h; ⟨a,e,Za.ge I.sB s a _ r⟩
def XP (Y:Fx) (B:Hp) (c:Nat):Prop:=∀ (d:Option Addr) (H' :Hp),zJ Y.H0 H' ->zJ B H' ->Y.E (Y.cl c) d H'
def Po {α β:Type} (Y:Fx) (rel:Hp->Hp->β->α->Prop) (B H:Hp) (r:R α) (Q:β->Hp->Prop):Prop:=match r with
 | .ok a=>∀ b H',zJ H H' ->rel (Za B H H') H' b a->Q b H'
 | .ex c=>XP Y B c
 | .bad=>False
abbrev rC:Hp->Hp->V->T->Prop:=λB _ v t=>Rep B v t
abbrev rB:Hp->Hp->V->T->Prop:=λ_ H v t=>Rep H v t
abbrev rCs:Hp->Hp->List V->List T->Prop:=λB _ v t=>zT B v t
abbrev rE {α:Type}:Hp->Hp->α->α->Prop:=λ_ _ a b=>a=b
def tS {α β:Type} (Y:Fx) (rel:Hp->Hp->β->α->Prop) (f:En->R α) (ρ:En):Sg->Hp->(β->Hp->Prop)->Prop:=λσ H Q=>∃ B,SI Y B ρ σ H/\Po Y rel B H (f ρ) Q
structure Snd (X:Cx) (Y:Fx) (e:Expr) (f:En->R T):Prop where
 mk ::
 go:∀ ρ,PE X e (tS Y rC f ρ)
instance {X:Cx} {Y:Fx} {e:Expr} {f:En->R T}:CoeFun (Snd X Y e f) λ_=>∀ ρ,PE X e (tS Y rC f ρ):=⟨Snd.go⟩
structure Jl (X:Cx) (Y:Fx) (e:Expr) (f:En->R T):Prop where
 mk ::
 go:∀ ρ,PE X e (tS Y rB f ρ)
instance {X:Cx} {Y:Fx} {e:Expr} {f:En->R T}:CoeFun (Jl X Y e f) λ_=>∀ ρ,PE X e (tS Y rB f ρ):=⟨Jl.go⟩
structure uS (X:Cx) (Y:Fx) (e:Expr) (f:En->R Bool):Prop where
 mk ::
 go:∀ ρ,PT X e (tS Y rE f ρ)
instance {X:Cx} {Y:Fx} {e:Expr} {f:En->R Bool}:CoeFun (uS X Y e f) λ_=>∀ ρ,PT X e (tS Y rE f ρ):=⟨uS.go⟩
structure U0 (X:Cx) (Y:Fx) (es:List Expr) (f:En->R (List T)):Prop where
 mk ::
 go:∀ ρ,PA X es (tS Y rCs f ρ)
instance {X:Cx} {Y:Fx} {es:List Expr} {f:En->R (List T)}:CoeFun (U0 X Y es f) λ_=>∀ ρ,PA X es (tS Y rCs f ρ):=⟨U0.go⟩
theorem step {α α' β β' :Type} {Y:Fx} {rel:Hp->Hp->β->α->Prop} {rel' :Hp->Hp->β' ->α' ->Prop} {f:En->R α} {k:α->R α'} {ρ:En} {B:Hp} {σ:Sg} {H:Hp} {Q:β' ->Hp->Prop} {K:β->Hp->Prop}
  (I:SI Y B ρ σ H) (h:Po Y rel' B H ((f ρ).bind k) Q)
  (n:∀ a b H1,f ρ= .ok a->zJ H H1->rel (Za B H H1) H1 b a->SI Y (Za B H H1) ρ σ H1->Po Y rel' (Za B H H1) H1 (k a) Q->K b H1):tS Y rel f ρ σ H K:=by
 refine ⟨B,I, ?_⟩;cases e:f ρ with
 | bad=>rw [e] at h; exact h
 | ex c=>rw [e] at h; exact h
 | ok a=>
  rw [e] at h;intro b H1 s r;refine n a b H1 e s r (I.grow s) ?_;have h' :Po Y rel' B H (k a) Q:=h;revert h';cases k a with
  | bad=>exact λh' =>h'
  | ex c=>exact λh' d H' s0 sB' =>h' d H' s0 ((Za.ge I.sB s).trans sB')
  | ok a' =>exact λh' b' H2 s2 r2=>h' b' H2 (s.trans s2) (by rw [← Za.trans s s2]; exact r2)
theorem j2 {α β:Type} {Y:Fx} {rel:Hp->Hp->β->α->Prop} {ρ:En} {B:Hp} {σ:Sg} {H:Hp} {a:α} {b:β} {Q:β->Hp->Prop} (I:SI Y B ρ σ H) (h:Po Y rel B H (.ok a) Q) (r:rel B H b a):Q b H:=h b H (zJ.refl H) (by rw [Za.self B H I.sB]; exact r)
theorem Snd.b {X:Cx} {Y:Fx} {e:Expr} {f:En->R T} (h:Snd X Y e f):Jl X Y e f:= .mk λρ=>PE.imp (h ρ) λσ H Q ⟨B,I,q⟩=>⟨B,I,by
 revert q;cases f ρ with
 | bad=>exact λq=>q
 | ex c=>exact λq=>q
 | ok a=>exact λq b H' s r=>q b H' s (r.mono (Za.le I.sB s))⟩
section
variable {X:Cx} {Y:Fx} {a b c:Expr} {fa fb fc:En->R T} {pos:Pos}
def vE (i:Nat):En->R T:=λρ=>match ρ[i]? with
 | some (.vl t)=> .ok t
 | _=> .bad
def vB (i:Nat):En->R T:=λρ=>match ρ[i]? with
 | some (.vl t)=> .ok t
 | some (.ow ts)=> .ok (.lst ts)
 | _=> .bad
def cE (t:T):En->R T:=λ_=> .ok t
theorem zb (i:Nat) {x:Str} (h:PE X (.Name x pos) (yX i)):Snd X Y (.Name x pos) (vE i):= .mk λρ=>PE.imp h λσ H Q ⟨B,I,q⟩=>by
 unfold vE at q;split at q
 ·rename_i t e;obtain ⟨v,e1,r⟩:=I.vl i t e;exact ⟨v,e1,j2 I q r⟩
 ·exact q.elim
theorem zj (i:Nat) {x:Str} (h:PE X (.Name x pos) (yX i)):Jl X Y (.Name x pos) (vB i):= .mk λρ=>PE.imp h λσ H Q ⟨B,I,q⟩=>by
 unfold vB at q;split at q
 ·rename_i t e;obtain ⟨v,e1,r⟩:=I.vl i t e;exact ⟨v,e1,j2 I q (r.mono I.sB)⟩
 ·rename_i ts e;obtain ⟨a,xs,e1,_,_,hh,r,_⟩:=I.ow i ts e;exact ⟨.ref a,e1,j2 I q (.lst hh (r.mono I.sB))⟩
 ·exact q.elim
theorem zc {i j}:Snd X Y (.Constant (.int i) j pos) (cE (.int i)):= .mk λρ=>PE.imp XS λσ H Q ⟨B,I,q⟩=>j2 I q (.int i)
theorem uT {i j}:Snd X Y (.Constant (.bool i) j pos) (cE (.bl i)):= .mk λρ=>PE.imp gM λσ H Q ⟨B,I,q⟩=>j2 I q (.bl i)
theorem VJ {j}:Snd X Y (.Constant .none j pos) (cE .non):= .mk λρ=>PE.imp vG λσ H Q ⟨B,I,q⟩=>j2 I q .non
theorem zt {i j}:Snd X Y (.Constant (.str i) j pos) (cE (.str i)):= .mk λρ=>PE.imp vH λσ H Q ⟨B,I,q⟩=>j2 I q (.str i)
def zh:En->R (List T):=λ_=> .ok []
def z9 (f:En->R T) (g:En->R (List T)):En->R (List T):=λρ=>(f ρ).bind λt=>(g ρ).bind λts=> .ok (t :: ts)
theorem zi:U0 X Y [] zh:= .mk λρ=>PA.imp Zf λσ H Q ⟨B,I,q⟩=>j2 I q .nil
theorem za {es:List Expr} {g:En->R (List T)} (h:Snd X Y a fa) (hs:U0 X Y es g) (hq:starEach (a :: es) X.env=(false,eval a X.env) :: starEach es X.env:=by exact Zo rfl):U0 X Y (a :: es) (z9 fa g):= .mk λρ=>
 PA.imp (zA (h ρ) (hs ρ) hq) λσ H Q ⟨B,I,q⟩=>step I q λt v H1 _ s1 r1 I1 q1=>step I1 q1 λts vs H2 _ s2 r2 I2 q2=>j2 I2 q2 (.cons (r1.mono (Za.ge I1.sB s2)) r2)
theorem zJ.new {H:Hp} {p:Addr} (h:H p=none) (o:HO):zJ H (upd H p o):=λb u q=>by rw [zD (Z3 q h)]; exact q
theorem jI {B H:Hp} {p:Addr} (h:H p=none) (o:HO):Za B H (upd H p o) p=some o:=by rw [Zk h,Zc]
def bnd:Nat:=16777216
theorem jc {n:Nat} (h:n<=bnd):n<=sizeLine:=by rw [sizeLine_eq]; exact h
def ZK (g:En->R (List T)):En->R T:=λρ=>(g ρ).bind λts=>if ts.length<=bnd then .ok (.tup ts) else .bad
def jb (g:En->R (List T)):En->R T:=λρ=>(g ρ).bind λts=>if ts.length<=bnd then .ok (.lst ts) else .bad
theorem VL {ρ:En} {σ:Sg} {B H:Hp} {xs:List V} {ts:List T} (I:SI Y B ρ σ H) (r:zT B xs ts) {p:Addr} (h:H p=none):Rep (Za B H (upd H p (.tup xs))) (.ref p) (.tup ts):=
 .tup (jI h _) (r.mono (Za.ge I.sB (zJ.new h _)))
theorem VM {ρ:En} {σ:Sg} {B H:Hp} {xs:List V} {ts:List T} (I:SI Y B ρ σ H) (r:zT B xs ts) {p:Addr} (h:H p=none):Rep (Za B H (upd H p (.lst xs))) (.ref p) (.lst ts):=
 .lst (jI h _) (r.mono (Za.ge I.sB (zJ.new h _)))
theorem jv {es:List Expr} {g:En->R (List T)} {x1} (h:U0 X Y es g):Snd X Y (.Tuple es x1 pos) (ZK g):= .mk λρ=>PE.imp (kh (h ρ)) λσ H Q ⟨B,I,q⟩=>
 step I q λts vs H1 _ s1 r1 I1 q1=>by
  split at q1
  ·rename_i hb;refine ⟨by rw [r1.length]; exact jc hb,λp hp=>q1 _ _ (zJ.new hp _) (VL I1 r1 hp)⟩
  ·exact q1.elim
theorem ju {es:List Expr} {g:En->R (List T)} (h:U0 X Y es g):Snd X Y (.List es pos) (jb g):= .mk λρ=>PE.imp (vJ (h ρ)) λσ H Q ⟨B,I,q⟩=>
 step I q λts vs H1 _ s1 r1 I1 q1=>by
  split at q1
  ·rename_i hb;refine ⟨by rw [r1.length]; exact jc hb,λp hp=>q1 _ _ (zJ.new hp _) (VM I1 r1 hp)⟩
  ·exact q1.elim
end
end PV
namespace PV
open PySem PySem.Spec PyProof.Rows L2
def eqL (f:T->T->Option Bool):List T->List T->Option Bool
 | [],[]=>some true
 | [],_ :: _=>some false
 | _ :: _,[]=>some false
 | x :: xs,y :: ys=>match f x y with
  | none=>none
  | some b=>match eqL f xs ys with
   | none=>none
   | some c=>some (b && c)
def b2 (b:Bool):Int:=if b then 1 else 0
def eqF:Nat->T->T->Option Bool
 | _, .non, .non=>some true
 | _, .bl a, .bl b=>some (a == b)
 | _, .bl a, .int j=>some (b2 a == j)
 | _, .int i, .bl b=>some (i == b2 b)
 | _, .int i, .int j=>some (i == j)
 | _, .str x, .str y=>some (x == y)
 | n+1, .tup xs, .tup ys=>eqL (eqF n) xs ys
 | n+1, .lst xs, .lst ys=>eqL (eqF n) xs ys
 | n+1, .fz xs, .lst ys=>eqL (eqF n) xs ys
 | n+1, .lst xs, .fz ys=>eqL (eqF n) xs ys
 | n+1, .fz xs, .fz ys=>eqL (eqF n) xs ys
 | 0, .tup _, .tup _=>none
 | 0, .lst _, .lst _=>none
 | 0, .fz _, .lst _=>none
 | 0, .lst _, .fz _=>none
 | 0, .fz _, .fz _=>none
 | _, .non,_=>some false
 | _, .bl _,_=>some false
 | _, .int _,_=>some false
 | _, .str _,_=>some false
 | _, .tup _,_=>some false
 | _, .lst _,_=>some false
 | _, .fz _,_=>some false
mutual
theorem Rep.fn {H:Hp}:∀ {v:V} {t t' :T},Rep H v t->Rep H v t' ->t=t'
 | _,_,_, .non, .non=>rfl
 | _,_,_, .bl _, .bl _=>rfl
 | _,_,_, .int _, .int _=>rfl
 | _,_,_, .str _, .str _=>rfl
 | _,_,_, .tup h r, .tup h' r' =>by
  rw [h] at h'; cases h'; rw [zT.fn r r']
 | _,_,_, .tup h r, .lst h' r' =>by rw [h] at h'; cases h'
 | _,_,_, .tup h r, .fz h' r' =>by rw [h] at h'; cases h'
 | _,_,_, .lst h r, .tup h' r' =>by rw [h] at h'; cases h'
 | _,_,_, .lst h r, .lst h' r' =>by
  rw [h] at h'; cases h'; rw [zT.fn r r']
 | _,_,_, .lst h r, .fz h' r' =>by rw [h] at h'; cases h'
 | _,_,_, .fz h r, .tup h' r' =>by rw [h] at h'; cases h'
 | _,_,_, .fz h r, .lst h' r' =>by rw [h] at h'; cases h'
 | _,_,_, .fz h r, .fz h' r' =>by
  rw [h] at h'; cases h'; rw [zT.fn r r']
theorem zT.fn {H:Hp}:∀ {v:List V} {t t' :List T},zT H v t->zT H v t' ->t=t'
 | _,_,_, .nil, .nil=>rfl
 | _,_,_, .cons h r, .cons h' r' =>by rw [Rep.fn h h',zT.fn r r']
end
theorem ZU {f:T->T->Option Bool} (hf:∀ x b,f x x=some b->b=true):∀ (xs:List T) (b:Bool),eqL f xs xs=some b->b=true
 | [],b,h=>by
  have h' :some true=some b:=h;cases h'; rfl
 | x :: xs,b,h=>by
  unfold eqL at h;cases e:f x x with
  | none=>rw [e] at h; cases h
  | some c=>
   rw [e] at h;cases e' :eqL f xs xs with
   | none=>rw [e'] at h; cases h
   | some d=>
    rw [e'] at h;cases h;rw [hf x c e,ZU hf xs d e'];rfl
theorem Zt:∀ (n:Nat) (t:T) (b:Bool),eqF n t t=some b->b=true
 | n, .non,b,h=>by unfold eqF at h; cases h; rfl
 | n, .bl x,b,h=>by unfold eqF at h; cases h; simp
 | n, .int x,b,h=>by unfold eqF at h; cases h; simp
 | n, .str x,b,h=>by unfold eqF at h; cases h; simp
 | 0, .tup x,b,h=>by unfold eqF at h; cases h
 | 0, .lst x,b,h=>by unfold eqF at h; cases h
 | 0, .fz x,b,h=>by unfold eqF at h; cases h
 | n+1, .tup x,b,h=>by unfold eqF at h; exact ZU (Zt n) x b h
 | n+1, .lst x,b,h=>by unfold eqF at h; exact ZU (Zt n) x b h
 | n+1, .fz x,b,h=>by unfold eqF at h; exact ZU (Zt n) x b h
theorem Yl {f:T->T->Option Bool}:∀ {xs ys:List T} {b:Bool},eqL f xs ys=some b->
  ∃ e:Nat->Bool,(∀ j x y,xs[j]? =some x->ys[j]? =some y->f x y=some (e j))/\((List.range (min xs.length ys.length)).all e && xs.length == ys.length)=b
 | [],[],b,h=>by
  have h' :some true=some b:=h;cases h';exact ⟨λ_=>true,λj x y h=>by simp at h,by simp⟩
 | [],y :: ys,b,h=>by
  have h' :some false=some b:=h;cases h';exact ⟨λ_=>true,λj x y h=>by simp at h,by simp⟩
 | x :: xs,[],b,h=>by
  have h' :some false=some b:=h;cases h';exact ⟨λ_=>true,λj x y h h' =>by simp at h',by simp⟩
 | x :: xs,y :: ys,b,h=>by
  unfold eqL at h;cases e:f x y with
  | none=>rw [e] at h; cases h
  | some c=>
   rw [e] at h;cases e' :eqL f xs ys with
   | none=>rw [e'] at h; cases h
   | some d=>
    rw [e'] at h;cases h;obtain ⟨g,h1,h2⟩:=Yl e';refine ⟨λj=>match j with | 0=>c | j+1=>g j,λj u v hu hv=> ?_, ?_⟩
    ·cases j with
     | zero=>simp at hu hv; subst hu hv; exact e
     | succ j=>exact h1 j u v (by simpa using hu) (by simpa using hv)
    ·have z:min (x :: xs).length (y :: ys).length=min xs.length ys.length+1:=by simp only [List.length_cons]; omega
     rw [z,List.range_succ_eq_map,List.all_cons,List.all_map];have z2:((x :: xs).length == (y :: ys).length)=(xs.length == ys.length):=by simp
     rw [z2,← h2,Bool.and_assoc];rfl
section
variable {X:Cx} {pins:List (Addr×Obj)} {σ:Sg} {H:Hp} {s:Shared}
theorem jj {a:Addr} {xs:List V} {ts:List T} (I:L2.Inv X pins σ H s) (h:H a=some (.tup xs)) (r:zT H xs ts):∃ its:List Value,Zy xs its/\s.heap.IsTuple a its.toArray/\ts.length=its.length/\xs.length<=sizeLine:=by
 obtain ⟨its,rv,p,z⟩:=I.tuple (SqT.of h);exact ⟨its,rv,p,by rw [← r.length]; exact rv.length,z⟩
theorem Zj {a:Addr} {xs:List V} {ts:List T} (I:L2.Inv X pins σ H s) (h:Rd H a (.lst xs)) (r:zT H xs ts):∃ its:List Value,Zy xs its/\s.heap.IsList a its.toArray/\ts.length=its.length/\xs.length<=sizeLine:=by
 obtain ⟨its,rv,p,z⟩:=I.list (.inl h);exact ⟨its,rv,p.isList,by rw [← r.length]; exact rv.length,z⟩
end
abbrev EqN (A:Around) (s:Shared) (u u' :Value) (b:Bool):Prop:=SeqAt.EqAt A s u u' b/\SeqAt.RcAt A s u u' b/\SeqAt.RcNeAt A s u u' (!b)
section
variable {X:Cx} {pins:List (Addr×Obj)} {σ:Sg} {H:Hp} {s:Shared}
theorem Ym {xs ys:List V} {ts us:List T} {its its' :List Value} {A:Around} {f:T->T->Option Bool} {e:Nat->Bool} (r:zT H xs ts) (r' :zT H ys us) (v:Zy xs its) (v' :Zy ys its')
  (he:∀ (j:Nat) (x y:T),ts[j]? =some x->us[j]? =some y->f x y=some (e j))
  (ih:∀ (x y:T) (b:Bool) (p q:V) (u w:Value),f x y=some b->Rep H p x->Rep H q y->ZJ p u->ZJ q w->EqN A s u w b) (j:Nat) (h1:j < its.toArray.size) (h2:j < its'.toArray.size):
  SeqAt.EqAt A s its.toArray[j] its'.toArray[j] (e j):=by
 have l1:=v.length;have l2:=v'.length;have m1:=r.length;have m2:=r'.length;have k1:j < xs.length:=by simp at h1; omega
 have k2:j < ys.length:=by simp at h2; omega
 obtain ⟨t,et,rt⟩:=r.getV (List.getElem?_eq_getElem k1);obtain ⟨t',et',rt'⟩:=r'.getV (List.getElem?_eq_getElem k2);obtain ⟨u,eu,ru⟩:=v.get (List.getElem?_eq_getElem k1);obtain ⟨u',eu',ru'⟩:=v'.get (List.getElem?_eq_getElem k2);have q1:its.toArray[j]=u:=by
  have:its[j]? =some its.toArray[j]:=by simp at h1 ⊢
  rw [eu] at this; exact (Option.some.inj this).symm
 have q2:its'.toArray[j]=u' :=by
  have:its'[j]? =some its'.toArray[j]:=by simp at h2 ⊢
  rw [eu'] at this; exact (Option.some.inj this).symm
 rw [q1,q2];exact (ih t t' (e j) _ _ u u' (he j t t' et et') rt rt' ru ru').1
theorem VN {A:Around} {a c:Addr} {xs ys:List V} {ts us:List T} {b:Bool} {f:T->T->Option Bool} (I:L2.Inv X pins σ H s) (hu:A.units < cLine) (ha:H a=some (.tup xs)) (hc:H c=some (.tup ys)) (r:zT H xs ts) (r' :zT H ys us)
  (hb:eqL f ts us=some b) (hr:∀ x b,f x x=some b->b=true)
  (ih:∀ (x y:T) (b:Bool) (p q:V) (u w:Value),f x y=some b->Rep H p x->Rep H q y->ZJ p u->ZJ q w->EqN A.in1 s u w b):EqN A s (.ref a) (.ref c) b:=by
 obtain ⟨its,v,p,l,_⟩:=jj I ha r;obtain ⟨its',v',p',l',_⟩:=jj I hc r';obtain ⟨e,he,hb'⟩:=Yl hb;have hp:=Ym (A:=A.in1) r r' v v' he ih;have z:((List.range (min its.toArray.size its'.toArray.size)).all e && its.toArray.size == its'.toArray.size)=b:=by
  rw [← hb']; simp [l,l']
 have R:=SeqAt.RcAt.tuples p p' hu hp;have N:=SeqAt.RcNeAt.tuples p p' hu hp;rw [z] at R;have N' :SeqAt.RcNeAt A s (.ref a) (.ref c) (!b):=by
  rw [← z]; exact N
 refine ⟨?_,R,N'⟩
 by_cases hac:a=c
 ·subst hac;rw [ha] at hc; cases hc;have:=r.fn r'; subst this;rw [ZU hr ts b hb];exact SeqAt.EqAt.same _
 ·exact SeqAt.EqAt.of_refs hac R
theorem Wp {A:Around} {a c:Addr} {xs ys:List V} {ts us:List T} {b:Bool} {f:T->T->Option Bool} (I:L2.Inv X pins σ H s) (hu:A.units < cLine) (ha:Rd H a (.lst xs)) (hc:Rd H c (.lst ys)) (r:zT H xs ts) (r' :zT H ys us)
  (hb:eqL f ts us=some b) (hr:∀ x b,f x x=some b->b=true)
  (ih:∀ (x y:T) (b:Bool) (p q:V) (u w:Value),f x y=some b->Rep H p x->Rep H q y->ZJ p u->ZJ q w->EqN A.in1 s u w b):EqN A s (.ref a) (.ref c) b:=by
 obtain ⟨its,v,p,l,_⟩:=Zj I ha r;obtain ⟨its',v',p',l',_⟩:=Zj I hc r';obtain ⟨e,he,hb'⟩:=Yl hb;have hp:=Ym (A:=A.in1) r r' v v' he ih;have RN:SeqAt.RcAt A s (.ref a) (.ref c) b/\SeqAt.RcNeAt A s (.ref a) (.ref c) (!b):=by
  by_cases hl:its.toArray.size=its'.toArray.size
  ·have z:(List.range its.toArray.size).all e=b:=by
    rw [← hb'];have:ts.length=us.length:=by simp at hl; omega
    rw [this];have k:its.toArray.size=us.length:=by simp; omega
    rw [k]; simp
   have R:=SeqAt.RcAt.lists p p' hl hu hp;have N:=SeqAt.RcNeAt.lists p p' hl hu hp;rw [z] at R;refine ⟨R, ?_⟩;rw [← z]; exact N
  ·have hl' :(its.toArray.size != its'.toArray.size)=true:=by simpa using hl
   have z:b=false:=by
    rw [← hb'];have:¬ ts.length=us.length:=by simp at hl; omega
    simp [this]
   subst z;exact ⟨SeqAt.RcAt.lists_lengths p p' hl' hu,SeqAt.RcNeAt.lists_lengths p p' hl' hu⟩
 refine ⟨?_,RN.1,RN.2⟩
 by_cases hac:a=c
 ·subst hac;have hxy:xs=ys:=by
   rcases ha with ha | ⟨o,ha⟩ <;> rcases hc with hc | ⟨o',hc⟩ <;> (rw [ha] at hc; cases hc) <;> rfl
  subst hxy;have:=r.fn r'; subst this;rw [ZU hr ts b hb];exact SeqAt.EqAt.same _
 ·exact SeqAt.EqAt.of_refs hac RN.1
end
section
variable {X:Cx} {pins:List (Addr×Obj)} {σ:Sg} {H:Hp} {s:Shared}
theorem Jm {A:Around}:A.in1.units=A.units+1:=rfl
set_option maxHeartbeats 2000000 in
theorem Yn (I:L2.Inv X pins σ H s):∀ (A:Around),A.units < cLine->∀ (x y:T) (b:Bool) (p q:V) (u w:Value),eqF 0 x y=some b->Rep H p x->Rep H q y->ZJ p u->ZJ q w->EqN A s u w b:=by
 intro A hu x y b p q u w h rp rq ru rw';have hu' :=hu;cases rp with
 | non=>
  obtain rfl:u=Value.none:=ru;cases rq with
  | non=>obtain rfl:w=Value.none:=rw'; unfold eqF at h; cases h; exact ⟨.same _, .none_none, .none_none⟩
  | bl c=>obtain rfl:w=Value.bool c:=rw'; unfold eqF at h; cases h; exact ⟨.none_bool _, .none_bool _, .none_bool _⟩
  | int c=>obtain ⟨t,rfl⟩:=rw'; unfold eqF at h; cases h; exact ⟨.none_int _ _, .none_int _ _, .none_int _ _⟩
  | str c=>obtain ⟨t,rfl⟩:=rw'; unfold eqF at h; cases h; exact ⟨.none_str _ _, .none_str _ _, .none_str _ _⟩
  | tup h1 r1=>obtain rfl:w=Value.ref _:=rw'; unfold eqF at h; cases h; obtain ⟨i,_,p,_⟩:=jj I h1 r1; exact ⟨.none_tuple p hu', .none_tuple p hu', .none_tuple p hu'⟩
  | lst h1 r1=>obtain rfl:w=Value.ref _:=rw'; unfold eqF at h; cases h; obtain ⟨i,_,p,_⟩:=Zj I (.inl h1) r1; exact ⟨.none_list p hu', .none_list p hu', .none_list p hu'⟩
  | fz h1 r1=>obtain rfl:w=Value.ref _:=rw'; unfold eqF at h; cases h; obtain ⟨i,_,p,_⟩:=Zj I (.inr ⟨_,h1⟩) r1; exact ⟨.none_list p hu', .none_list p hu', .none_list p hu'⟩
 | bl d=>
  obtain rfl:u=Value.bool d:=ru;cases rq with
  | non=>obtain rfl:w=Value.none:=rw'; unfold eqF at h; cases h; exact ⟨.bool_none _, .bool_none _, .bool_none _⟩
  | bl c=>obtain rfl:w=Value.bool c:=rw'; unfold eqF at h; cases h; exact ⟨.bool_bool _ _, .bool_bool _ _, .bool_bool _ _⟩
  | int c=>obtain ⟨t,rfl⟩:=rw'; unfold eqF at h; cases h; exact ⟨.bool_int _ _ _, .bool_int _ _ _, .bool_int _ _ _⟩
  | str c=>obtain ⟨t,rfl⟩:=rw'; unfold eqF at h; cases h; exact ⟨.bool_str _ _ _, .bool_str _ _ _, .bool_str _ _ _⟩
  | tup h1 r1=>obtain rfl:w=Value.ref _:=rw'; unfold eqF at h; cases h; obtain ⟨i,_,p,_⟩:=jj I h1 r1; exact ⟨.bool_tuple _ p hu', .bool_tuple _ p hu', .bool_tuple _ p hu'⟩
  | lst h1 r1=>obtain rfl:w=Value.ref _:=rw'; unfold eqF at h; cases h; obtain ⟨i,_,p,_⟩:=Zj I (.inl h1) r1; exact ⟨.bool_list _ p hu', .bool_list _ p hu', .bool_list _ p hu'⟩
  | fz h1 r1=>obtain rfl:w=Value.ref _:=rw'; unfold eqF at h; cases h; obtain ⟨i,_,p,_⟩:=Zj I (.inr ⟨_,h1⟩) r1; exact ⟨.bool_list _ p hu', .bool_list _ p hu', .bool_list _ p hu'⟩
 | int d=>
  obtain ⟨t0,rfl⟩:=ru;cases rq with
  | non=>obtain rfl:w=Value.none:=rw'; unfold eqF at h; cases h; exact ⟨.int_none _ _, .int_none _ _, .int_none _ _⟩
  | bl c=>obtain rfl:w=Value.bool c:=rw'; unfold eqF at h; cases h; exact ⟨.int_bool _ _ _, .int_bool _ _ _, .int_bool _ _ _⟩
  | int c=>obtain ⟨t,rfl⟩:=rw'; unfold eqF at h; cases h; exact ⟨.int_int _ _ _ _, .int_int _ _ _ _, .int_int _ _ _ _⟩
  | str c=>obtain ⟨t,rfl⟩:=rw'; unfold eqF at h; cases h; exact ⟨.int_str _ _ _ _, .int_str _ _ _ _, .int_str _ _ _ _⟩
  | tup h1 r1=>obtain rfl:w=Value.ref _:=rw'; unfold eqF at h; cases h; obtain ⟨i,_,p,_⟩:=jj I h1 r1; exact ⟨.int_tuple _ _ p hu', .int_tuple _ _ p hu', .int_tuple _ _ p hu'⟩
  | lst h1 r1=>obtain rfl:w=Value.ref _:=rw'; unfold eqF at h; cases h; obtain ⟨i,_,p,_⟩:=Zj I (.inl h1) r1; exact ⟨.int_list _ _ p hu', .int_list _ _ p hu', .int_list _ _ p hu'⟩
  | fz h1 r1=>obtain rfl:w=Value.ref _:=rw'; unfold eqF at h; cases h; obtain ⟨i,_,p,_⟩:=Zj I (.inr ⟨_,h1⟩) r1; exact ⟨.int_list _ _ p hu', .int_list _ _ p hu', .int_list _ _ p hu'⟩
 | str d=>
  obtain ⟨t0,rfl⟩:=ru;cases rq with
  | non=>obtain rfl:w=Value.none:=rw'; unfold eqF at h; cases h; exact ⟨.str_none _ _, .str_none _ _, .str_none _ _⟩
  | bl c=>obtain rfl:w=Value.bool c:=rw'; unfold eqF at h; cases h; exact ⟨.str_bool _ _ _, .str_bool _ _ _, .str_bool _ _ _⟩
  | int c=>obtain ⟨t,rfl⟩:=rw'; unfold eqF at h; cases h; exact ⟨.str_int _ _ _ _, .str_int _ _ _ _, .str_int _ _ _ _⟩
  | str c=>obtain ⟨t,rfl⟩:=rw'; unfold eqF at h; cases h; exact ⟨.str_str _ _ _ _, .str_str _ _ _ _, .str_str _ _ _ _⟩
  | tup h1 r1=>obtain rfl:w=Value.ref _:=rw'; unfold eqF at h; cases h; obtain ⟨i,_,p,_⟩:=jj I h1 r1; exact ⟨.str_tuple _ _ p hu', .str_tuple _ _ p hu', .str_tuple _ _ p hu'⟩
  | lst h1 r1=>obtain rfl:w=Value.ref _:=rw'; unfold eqF at h; cases h; obtain ⟨i,_,p,_⟩:=Zj I (.inl h1) r1; exact ⟨.str_list _ _ p hu', .str_list _ _ p hu', .str_list _ _ p hu'⟩
  | fz h1 r1=>obtain rfl:w=Value.ref _:=rw'; unfold eqF at h; cases h; obtain ⟨i,_,p,_⟩:=Zj I (.inr ⟨_,h1⟩) r1; exact ⟨.str_list _ _ p hu', .str_list _ _ p hu', .str_list _ _ p hu'⟩
 | tup h0 r0=>
  obtain rfl:u=Value.ref _:=ru;obtain ⟨i0,_,p0,_⟩:=jj I h0 r0;cases rq with
  | non=>obtain rfl:w=Value.none:=rw'; unfold eqF at h; cases h; exact ⟨.tuple_none p0 hu', .tuple_none p0 hu', .tuple_none p0 hu'⟩
  | bl c=>obtain rfl:w=Value.bool c:=rw'; unfold eqF at h; cases h; exact ⟨.tuple_bool _ p0 hu', .tuple_bool _ p0 hu', .tuple_bool _ p0 hu'⟩
  | int c=>obtain ⟨t,rfl⟩:=rw'; unfold eqF at h; cases h; exact ⟨.tuple_int _ _ p0 hu', .tuple_int _ _ p0 hu', .tuple_int _ _ p0 hu'⟩
  | str c=>obtain ⟨t,rfl⟩:=rw'; unfold eqF at h; cases h; exact ⟨.tuple_str _ _ p0 hu', .tuple_str _ _ p0 hu', .tuple_str _ _ p0 hu'⟩
  | tup h1 r1=>unfold eqF at h; cases h
  | lst h1 r1=>obtain rfl:w=Value.ref _:=rw'; unfold eqF at h; cases h; obtain ⟨i,_,p,_⟩:=Zj I (.inl h1) r1; exact ⟨.tuple_list p0 p hu', .tuple_list p0 p hu', .tuple_list p0 p hu'⟩
  | fz h1 r1=>obtain rfl:w=Value.ref _:=rw'; unfold eqF at h; cases h; obtain ⟨i,_,p,_⟩:=Zj I (.inr ⟨_,h1⟩) r1; exact ⟨.tuple_list p0 p hu', .tuple_list p0 p hu', .tuple_list p0 p hu'⟩
 | lst h0 r0=>
  obtain rfl:u=Value.ref _:=ru;obtain ⟨i0,_,p0,_⟩:=Zj I (.inl h0) r0;cases rq with
  | non=>obtain rfl:w=Value.none:=rw'; unfold eqF at h; cases h; exact ⟨.list_none p0 hu', .list_none p0 hu', .list_none p0 hu'⟩
  | bl c=>obtain rfl:w=Value.bool c:=rw'; unfold eqF at h; cases h; exact ⟨.list_bool _ p0 hu', .list_bool _ p0 hu', .list_bool _ p0 hu'⟩
  | int c=>obtain ⟨t,rfl⟩:=rw'; unfold eqF at h; cases h; exact ⟨.list_int _ _ p0 hu', .list_int _ _ p0 hu', .list_int _ _ p0 hu'⟩
  | str c=>obtain ⟨t,rfl⟩:=rw'; unfold eqF at h; cases h; exact ⟨.list_str _ _ p0 hu', .list_str _ _ p0 hu', .list_str _ _ p0 hu'⟩
  | tup h1 r1=>obtain rfl:w=Value.ref _:=rw'; unfold eqF at h; cases h; obtain ⟨i,_,p,_⟩:=jj I h1 r1; exact ⟨.list_tuple p0 p hu', .list_tuple p0 p hu', .list_tuple p0 p hu'⟩
  | lst h1 r1=>unfold eqF at h; cases h
  | fz h1 r1=>unfold eqF at h; cases h
 | fz h0 r0=>
  obtain rfl:u=Value.ref _:=ru;obtain ⟨i0,_,p0,_⟩:=Zj I (.inr ⟨_,h0⟩) r0;cases rq with
  | non=>obtain rfl:w=Value.none:=rw'; unfold eqF at h; cases h; exact ⟨.list_none p0 hu', .list_none p0 hu', .list_none p0 hu'⟩
  | bl c=>obtain rfl:w=Value.bool c:=rw'; unfold eqF at h; cases h; exact ⟨.list_bool _ p0 hu', .list_bool _ p0 hu', .list_bool _ p0 hu'⟩
  | int c=>obtain ⟨t,rfl⟩:=rw'; unfold eqF at h; cases h; exact ⟨.list_int _ _ p0 hu', .list_int _ _ p0 hu', .list_int _ _ p0 hu'⟩
  | str c=>obtain ⟨t,rfl⟩:=rw'; unfold eqF at h; cases h; exact ⟨.list_str _ _ p0 hu', .list_str _ _ p0 hu', .list_str _ _ p0 hu'⟩
  | tup h1 r1=>obtain rfl:w=Value.ref _:=rw'; unfold eqF at h; cases h; obtain ⟨i,_,p,_⟩:=jj I h1 r1; exact ⟨.list_tuple p0 p hu', .list_tuple p0 p hu', .list_tuple p0 p hu'⟩
  | lst h1 r1=>unfold eqF at h; cases h
  | fz h1 r1=>unfold eqF at h; cases h
set_option maxHeartbeats 2000000 in
theorem Yo (I:L2.Inv X pins σ H s):∀ (n:Nat) (A:Around),A.units+n < cLine->∀ (x y:T) (b:Bool) (p q:V) (u w:Value),eqF n x y=some b->Rep H p x->Rep H q y->ZJ p u->ZJ q w->EqN A s u w b:=by
 intro n
 induction n with
 | zero=>exact λA hu x y b p q u w h=>Yn I A (by omega) x y b p q u w h
 | succ n ih=>
  intro A hu x y b p q u w h rp rq ru rw';have low:eqF 0 x y=some b->EqN A s u w b:=λh=>Yn I A (by omega) x y b p q u w h rp rq ru rw'
  have hu' :A.units < cLine:=by omega
  have ih' :=ih A.in1 (by rw [Jm]; omega)
  cases rp with
  | tup h0 r0=>
   cases rq with
   | tup h1 r1=>
    obtain rfl:u=Value.ref _:=ru;obtain rfl:w=Value.ref _:=rw';unfold eqF at h;exact VN I hu' h0 h1 r0 r1 h (Zt n) ih'
   | _=>exact low (by unfold eqF at h ⊢; exact h)
  | lst h0 r0=>
   cases rq with
   | lst h1 r1=>
    obtain rfl:u=Value.ref _:=ru;obtain rfl:w=Value.ref _:=rw';unfold eqF at h;exact Wp I hu' (.inl h0) (.inl h1) r0 r1 h (Zt n) ih'
   | fz h1 r1=>
    obtain rfl:u=Value.ref _:=ru;obtain rfl:w=Value.ref _:=rw';unfold eqF at h;exact Wp I hu' (.inl h0) (.inr ⟨_,h1⟩) r0 r1 h (Zt n) ih'
   | _=>exact low (by unfold eqF at h ⊢; exact h)
  | fz h0 r0=>
   cases rq with
   | lst h1 r1=>
    obtain rfl:u=Value.ref _:=ru;obtain rfl:w=Value.ref _:=rw';unfold eqF at h;exact Wp I hu' (.inr ⟨_,h0⟩) (.inl h1) r0 r1 h (Zt n) ih'
   | fz h1 r1=>
    obtain rfl:u=Value.ref _:=ru;obtain rfl:w=Value.ref _:=rw';unfold eqF at h;exact Wp I hu' (.inr ⟨_,h0⟩) (.inr ⟨_,h1⟩) r0 r1 h (Zt n) ih'
   | _=>exact low (by unfold eqF at h ⊢; exact h)
  | _=>exact low (by cases rq <;> (unfold eqF at h ⊢; exact h))
end
section
variable {X:Cx} {Y:Fx} {a b c d:Expr} {fa fb fc fd:En->R T} {pos:Pos}
def rG (Y:Fx) (g:T->T->R T):R2:=λx y H Q=>∃ B t t',zJ B H/\Rep B x t/\Rep B y t' /\Po Y rC B H (g t t') Q
def ze (g:T->T->R T) (fa fb:En->R T):En->R T:=λρ=>(fa ρ).bind λx=>(fb ρ).bind λy=>g x y
theorem yt {op:Operator} {g:T->T->R T} (ho:OpR X (binaryOp op) (rG Y g)) (ha:Snd X Y a fa) (hb:Snd X Y b fb):Snd X Y (.BinOp a op b pos) (ze g fa fb):= .mk λρ=>
 PE.imp (G1 ho (ha ρ) (hb ρ)) λσ H Q ⟨B,I,q⟩=>step I q λt v H1 _ s1 r1 I1 q1=>step I1 q1 λt' v' H2 _ s2 r2 I2 q2=>
  ⟨_,t,t',I2.sB,r1.mono (Za.ge I1.sB s2),r2,q2⟩
theorem po0 {g:R T} {B H:Hp} {Q:VK} {t:T} {v:V} (sB:zJ B H) (q:Po Y rC B H g Q) (e:g= .ok t) (r:Rep B v t):Q v H:=by
 subst e;exact q v H (zJ.refl H) (by show Rep (Za B H H) v t; rw [Za.self B H sB]; exact r)
theorem gh {g:R T} {B H:Hp} {Q:VK} {ts:List T} {xs:List V} {p:Addr} (sB:zJ B H) (q:Po Y rC B H g Q) (e:g= .ok (.tup ts)) (r:zT B xs ts) (h:H p=none):Q (.ref p) (upd H p (.tup xs)):=by
 subst e;exact q _ _ (zJ.new h _) (.tup (jI h _) (r.mono (Za.ge sB (zJ.new h _))))
theorem Ge {g:R T} {B H:Hp} {Q:VK} {ts:List T} {xs:List V} {p:Addr} (sB:zJ B H) (q:Po Y rC B H g Q) (e:g= .ok (.lst ts)) (r:zT B xs ts) (h:H p=none):Q (.ref p) (upd H p (.lst xs)):=by
 subst e;exact q _ _ (zJ.new h _) (.lst (jI h _) (r.mono (Za.ge sB (zJ.new h _))))
def zu:T->T->R T
 | .int i, .int j=> .ok (.int (i+j))
 | .bl x, .int j=> .ok (.int (b2 x+j))
 | .int i, .bl y=> .ok (.int (i+b2 y))
 | .str x, .str y=>if x.length+y.length<=bnd then .ok (.str (x++y)) else .bad
 | .tup xs, .tup ys=>if xs.length+ys.length<=bnd then .ok (.tup (xs++ys)) else .bad
 | .lst xs, .lst ys=>if xs.length+ys.length<=bnd then .ok (.lst (xs++ys)) else .bad
 | _,_=> .bad
theorem Qx {prog:Program} {w:World} {A:Around} {E:Value->Shared->Prop} {s:Shared} {t b:Addr} {vs ws:List Value} {Q:Value->Shared->Prop} (ht:IsTup s.heap t vs.toArray) (hb:IsTup s.heap b ws.toArray) (hv:vs=[])
  (h1:Q (.ref b) s):wpAny (model prog w) A (binaryOp .Add (.ref t) (.ref b)) Q E s:=by
 obtain ⟨⟨cls,dd,data,sl⟩,ho,hc,n,hd⟩:=id ht;obtain ⟨⟨cls2,dd2,data2,sl2⟩,ho2,hc2,n2,hd2⟩:=id hb;simp only at hc hd hc2 hd2;subst hc hd hc2 hd2;exact concat_meets ⟨_,ho,rfl⟩ ⟨_,ho2,rfl⟩ noFill_tuple_add seq_tuple_add PySem.F.slot_tuple_add PySem.F.entry_tuple_add (PySem.F.args_tuple_add_2 _ _)
   (tuple_addW0 t b vs.toArray ws.toArray n n2 dd dd2 sl sl2 (by simp [hv])) ⟨ho,ho2,h1⟩
theorem VO:OpR X (binaryOp .Add) (rG Y zu):=by
 intro pins s σ H x y v u Q I rx ry h;obtain ⟨B,t,t',sB,r,r',q⟩:=h;cases r with
 | int i=>
  cases r' with
  | int j=>exact k8 pins s σ H _ _ v u Q I rx ry ⟨i,j,rfl,rfl,po0 sB q rfl (.int _)⟩
  | bl y=>exact Y7 pins s σ H _ _ v u Q I rx ry ⟨i,y,rfl,rfl,po0 sB q rfl (.int _)⟩
  | _=>exact q.elim
 | bl x=>
  cases r' with
  | int j=>
   obtain rfl:v=Value.bool x:=rx;obtain ⟨tk,rfl⟩:=ry;exact IntBool.add_bool_int (⟨.int _,H,I.tok _,⟨_,rfl⟩,po0 sB q rfl (.int _)⟩)
  | _=>exact q.elim
 | str x=>
  cases r' with
  | str y=>
   by_cases hb:x.length+y.length<=bnd
   ·exact yk pins s σ H _ _ v u Q I rx ry ⟨x,y,rfl,rfl,jc hb,po0 sB q (if_pos hb) (.str _)⟩
   ·rw [show zu (.str x) (.str y)= .bad from if_neg hb] at q; exact q.elim
  | _=>exact q.elim
 | @tup a xs ts h1 r1=>
  cases r' with
  | @tup a' ys us h2 r2=>
   by_cases hb:ts.length+us.length<=bnd
   ·have eg:zu (.tup ts) (.tup us)= .ok (.tup (ts++us)):=if_pos hb;have hz:xs.length+ys.length<=sizeLine:=by rw [r1.length,r2.length]; exact jc hb
    by_cases hx:xs=[]
    ·obtain rfl:v=Value.ref a:=rx;obtain rfl:u=Value.ref a' :=ry;obtain ⟨its,rv,p,_⟩:=I.tuple (SqT.of (sB _ _ h1));obtain ⟨its',rv',p',_⟩:=I.tuple (SqT.of (sB _ _ h2));have et:ts=[]:=r1.nil_iff.mp hx;refine Qx p p' (rv.nil_iff.mpr hx) ⟨.ref a',H,I,rfl,po0 sB q eg ?_⟩;rw [et]; exact .tup h2 r2
    ·refine VA pins s σ H _ _ v u Q I rx ry ⟨a,a',xs,ys,rfl,rfl,SqT.of (sB _ _ h1),SqT.of (sB _ _ h2),hx,hz,λhy=> ?_,λhy p hp=> ?_⟩
     ·refine po0 sB q eg ?_;rw [r2.nil_iff.mp hy,List.append_nil];exact .tup h1 r1
     ·exact gh sB q eg (r1.append r2) hp
   ·rw [show zu (.tup ts) (.tup us)= .bad from if_neg hb] at q; exact q.elim
  | _=>exact q.elim
 | @lst a xs ts h1 r1=>
  cases r' with
  | @lst a' ys us h2 r2=>
   by_cases hb:ts.length+us.length<=bnd
   ·have eg:zu (.lst ts) (.lst us)= .ok (.lst (ts++us)):=if_pos hb;have hz:xs.length+ys.length<=sizeLine:=by rw [r1.length,r2.length]; exact jc hb
    exact ku pins s σ H _ _ v u Q I rx ry ⟨a,a',xs,ys,rfl,rfl,sB _ _ h1,sB _ _ h2,hz,λp hp=>Ge sB q eg (r1.append r2) hp⟩
   ·rw [show zu (.lst ts) (.lst us)= .bad from if_neg hb] at q; exact q.elim
  | _=>exact q.elim
 | _=>cases r' <;> exact q.elim
theorem zw (ha:Snd X Y a fa) (hb:Snd X Y b fb):Snd X Y (.BinOp a .Add b pos) (ze zu fa fb):=yt VO ha hb
def wv:T->T->R T
 | .int i, .int j=> .ok (.int (i - j))
 | _,_=> .bad
def jJ:T->T->R T
 | .int i, .int j=>if 0 < j then .ok (.int (i % j)) else .bad
 | _,_=> .bad
def JB:T->T->R T
 | .int i, .int j=>if 0 < j/\j < 1073741824 then .ok (.int (i / j)) else .bad
 | _,_=> .bad
instance (i j:Int):Decidable (WS i j):=by unfold WS; infer_instance
def Zn:T->T->R T
 | .int i, .int j=>if WS i j then .ok (.int (i*j)) else .bad
 | .lst xs, .int k=>if 0<=k/\k < 1000000/\xs.length*k.toNat<=bnd then .ok (.lst (List.replicate k.toNat xs).flatten) else .bad
 | .tup xs, .int k=>if 2<=k/\k < 1000000/\xs ≠ []/\xs.length*k.toNat<=bnd then .ok (.tup (List.replicate k.toNat xs).flatten) else .bad
 | _,_=> .bad
theorem VP:OpR X (binaryOp .Sub) (rG Y wv):=by
 intro pins s σ H x y v u Q I rx ry h;obtain ⟨B,t,t',sB,r,r',q⟩:=h;cases r with
 | int i=>
  cases r' with
  | int j=>exact k9 pins s σ H _ _ v u Q I rx ry ⟨i,j,rfl,rfl,po0 sB q rfl (.int _)⟩
  | _=>exact q.elim
 | _=>cases r' <;> exact q.elim
theorem VQ:OpR X (binaryOp .Mod) (rG Y jJ):=by
 intro pins s σ H x y v u Q I rx ry h;obtain ⟨B,t,t',sB,r,r',q⟩:=h;cases r with
 | int i=>
  cases r' with
  | int j=>
   by_cases hj:0 < j
   ·exact kd pins s σ H _ _ v u Q I rx ry ⟨i,j,rfl,rfl,hj,po0 sB q (if_pos hj) (.int _)⟩
   ·rw [show jJ (.int i) (.int j)= .bad from if_neg hj] at q; exact q.elim
  | _=>exact q.elim
 | _=>cases r' <;> exact q.elim
theorem Qy:OpR X (binaryOp .FloorDiv) (rG Y JB):=by
 intro pins s σ H x y v u Q I rx ry h;obtain ⟨B,t,t',sB,r,r',q⟩:=h;cases r with
 | int i=>
  cases r' with
  | int j=>
   by_cases hj:0 < j/\j < 1073741824
   ·exact Vu pins s σ H _ _ v u Q I rx ry ⟨i,j,rfl,rfl,hj,po0 sB q (if_pos hj) (.int _)⟩
   ·rw [show JB (.int i) (.int j)= .bad from if_neg hj] at q; exact q.elim
  | _=>exact q.elim
 | _=>cases r' <;> exact q.elim
theorem yu (l:Addr) (items:Array Value) (n:Nat) (dd:Option Addr) (sl:Array (Option Value)) (x:Int) (u:Tok) (h1:2<=x) (h2:x < 1000000) (hne:items.isEmpty=false) (hsz:items.size*x.toNat<=sizeLine):
  Meets (Builtin.«tuple.__mul__» ⟨[.ref l, .int x u],[]⟩) (λ_ R s=>s.heap.get? l=some { cls:= .type "tuple",dict:=dd,data:= .seq items n,slots:=sl }/\
   R (.ok (.ret (Value.ref s.heap.objs.size))) { s with heap:=s.heap.push { cls:=Value.type "tuple",data:=Data.seq (List.foldl (λx1 x2=>x1++x2) #[] (List.replicate x.toNat items)) },toks:=s.toks }):=
 .of_wp λprog w A R s h=>by
  obtain ⟨hp,g,d,tk,os⟩:=s; obtain ⟨hl,h⟩:=h;have f1:=AutoSeq1.idx_int;have e0:(items.size:Int)*x=((items.size*x.toNat:Nat):Int):=by
   have:x=((x.toNat:Nat):Int):=by omega
   rw [Int.natCast_mul,← this]
  have sl1:(sizeLine:Nat)=16777216:=sizeLine_eq;have c1:¬ (decide (x < -(2 ^ 63)) || decide (x ≥ 2 ^ 63))=true:=by simp; omega
  have c2:¬ (items.isEmpty || x == 1)=true:=by simp [hne]; omega
  have c3:¬ (decide (x<=0) || items.isEmpty)=true:=by simp [hne]; omega
  have c4:¬ ((items.size:Int)*x > (2 ^ 63 - 1) / 8):=by rw [e0]; omega
  have c5:¬ Builtin.Tuple.tupleTooMany ((items.size:Int)*x)=true:=by
   unfold Builtin.Tuple.tupleTooMany;rw [e0];intro z;have:=of_decide_eq_true z;omega
  unfold Builtin.«tuple.__mul__»
  wp_walk using wpAny_loadPart' hl
  rw [if_neg c1]
  wp_walk using wpAny_loadPart' hl
  rw [if_neg c2]
  try dsimp only
  rw [if_neg c3]
  try dsimp only
  rw [if_neg c4]
  try dsimp only
  rw [if_neg c5]
  try dsimp only
  have hsz' :sizeOk (.seq (List.foldl (λx1 x2=>x1++x2) #[] (List.replicate x.toNat items))):=by
   show (List.foldl (λx1 x2=>x1++x2) #[] (List.replicate x.toNat items)).size<=sizeLine;have:=Jk items.toList x.toNat [];rw [List.nil_append] at this;have q:List.foldl (λx1 x2=>x1++x2) #[] (List.replicate x.toNat items)=(List.replicate x.toNat items.toList).flatten.toArray:=by
    simpa using this
   rw [q,List.size_toArray,Wn,Array.length_toList,Nat.mul_comm];exact hsz
  exact wpAny_bind (m:=Builtin.Tuple.tupleExact _) (wpAny_newObj_type (wpAny_pure ⟨_,rfl,h⟩) hsz')
theorem ui:seqRepeat? (.type "tuple")=pure (some (.builtin "tuple.__mul__")):=by
 unfold seqRepeat?;rw [PySem.seqSlot_of (T:="tuple") (name:="__mul__") (id:="tuple.__mul__") F.slot_tuple_mul.lookup (by decide+kernel),PySem.seqSlot_of (T:="tuple") (name:="__rmul__") (id:="tuple.__rmul__") F.slot_tuple_rmul.lookup (by decide+kernel)]
 rfl
theorem JY:fillsNumberSlot (.type "tuple") "mul"=pure false:=
 PySem.fillsNumberSlot_seq (id:="tuple.__mul__") (r:=some (.builtin "tuple.__rmul__")) F.slot_tuple_mul.lookup (by decide+kernel) F.slot_tuple_rmul.lookup (by decide+kernel)
theorem wV (a:Int) (t:Tok) (l:Addr) (items:Array Value) (n:Nat) (dd:Option Addr) (sl:Array (Option Value)):
  Meets (Builtin.«int.__rmul__» ⟨[.int a t, .ref l],[]⟩) (λ_ R s=>s.heap.get? l=some { cls:= .type "tuple",dict:=dd,data:= .seq items n,slots:=sl }/\R (.ok (.ret Value.notImplemented)) s):=
 .of_wp λprog w A R s h=>by obtain ⟨hp,g,d,tk,os⟩:=s; obtain ⟨hl,h⟩:=h; wp_walk; exact ⟨_,rfl,h⟩
theorem VR {prog:Program} {w:World} {A:Around} {E:Value->Shared->Prop} {s:Shared} {l:Addr} {its:List Value} {k:Int} {t:Tok} {Q:Value->Shared->Prop} (p:IsTup s.heap l its.toArray) (hne:its ≠ []) (h1:2<=k) (h2:k < 1000000)
  (hsz:its.length*k.toNat<=sizeLine) (q:Q (.ref s.heap.objs.size) { s with heap:=s.heap.push { cls:= .type "tuple",data:= .seq (List.replicate k.toNat its).flatten.toArray } }):
  wpAny (model prog w) A (binaryOp .Mult (.ref l) (.int k t)) Q E s:=by
 obtain ⟨⟨cls,dd,data,sl⟩,ho,hc,n,hd⟩:=id p;simp only at hc hd;subst hc hd;refine wpAny_binaryOp_repeat_ref (T:="tuple") (U:="int") (by decide) ⟨_,ho,rfl⟩ (λs' =>typeIs_int s' k t) JY F.fills_int_mul F.slot_int_rmul ui F.slot_int_index.lookup
  (call_meets F.slot_int_rmul (typeIs_int s k t) F.entry_int_rmul (F.args_int_rmul_2 _ _) (wV k t l its.toArray n dd sl)
   ⟨ho,rfl,⟨_,ho,rfl⟩,call_meets F.slot_tuple_mul ⟨_,ho,rfl⟩ F.entry_tuple_mul (F.args_tuple_mul_2 _ _) (yu l its.toArray n dd sl k t h1 h2 (by simpa using hne) (by simpa using hsz)) ⟨ho, ?_⟩⟩)
 have:=Jk its k.toNat [];rw [List.nil_append] at this;rw [this];exact q
theorem VS:OpR X (binaryOp .Mult) (rG Y Zn):=by
 intro pins s σ H x y v u Q I rx ry h;obtain ⟨B,t,t',sB,r,r',q⟩:=h;cases r with
 | int i=>
  cases r' with
  | int j=>
   by_cases hj:WS i j
   ·exact ka pins s σ H _ _ v u Q I rx ry ⟨i,j,rfl,rfl,hj,po0 sB q (if_pos hj) (.int _)⟩
   ·rw [show Zn (.int i) (.int j)= .bad from if_neg hj] at q; exact q.elim
  | _=>exact q.elim
 | @lst l xs ts h1 r1=>
  cases r' with
  | int k=>
   by_cases hk:0<=k/\k < 1000000/\ts.length*k.toNat<=bnd
   ·have eg:Zn (.lst ts) (.int k)= .ok (.lst (List.replicate k.toNat ts).flatten):=if_pos hk;exact kv pins s σ H _ _ v u Q I rx ry ⟨l,k,xs,rfl,rfl,sB _ _ h1,by omega,by omega,by rw [r1.length]; exact jc hk.2.2,λp hp=>Ge sB q eg (r1.rep _) hp⟩
   ·rw [show Zn (.lst ts) (.int k)= .bad from if_neg hk] at q; exact q.elim
  | _=>exact q.elim
 | @tup l xs ts h1 r1=>
  cases r' with
  | int k=>
   by_cases hk:2<=k/\k < 1000000/\ts ≠ []/\ts.length*k.toNat<=bnd
   ·have eg:Zn (.tup ts) (.int k)= .ok (.tup (List.replicate k.toNat ts).flatten):=if_pos hk;obtain rfl:v=Value.ref l:=rx;obtain ⟨tk,rfl⟩:=ry;obtain ⟨its,rv,p,_⟩:=I.tuple (SqT.of (sB _ _ h1));have ln:ts.length=its.length:=r1.length.symm.trans rv.length;have hne:its ≠ []:=λz=>hk.2.2.1 (by rw [z] at ln; exact List.length_eq_zero_iff.mp ln)
    refine VR p hne hk.1 hk.2.1 (by rw [← ln]; exact jc hk.2.2.2) ⟨.ref s.heap.objs.size,upd H s.heap.objs.size (.tup (List.replicate k.toNat xs).flatten),I.laid (t' :=s.toks) (λb u e=>Heap.get?_push_of_some _ e) (Nat.le_refl _) ?_,rfl, ?_⟩
    ·exact ⟨by rw [Wn,r1.length,Nat.mul_comm]; exact jc hk.2.2.2,(List.replicate k.toNat its).flatten,rv.rep _,⟨_,Heap.get?_push_size _ rfl,rfl,_,rfl⟩, .inr ⟨_,Heap.get?_push_size _ rfl,rfl⟩⟩
    ·exact gh sB q eg (r1.rep _) (I.hok.fresh (Nat.le_refl _))
   ·rw [show Zn (.tup ts) (.int k)= .bad from if_neg hk] at q; exact q.elim
  | _=>exact q.elim
 | _=>cases r' <;> exact q.elim
theorem wW (ha:Snd X Y a fa) (hb:Snd X Y b fb):Snd X Y (.BinOp a .Sub b pos) (ze wv fa fb):=yt VP ha hb
theorem ww (ha:Snd X Y a fa) (hb:Snd X Y b fb):Snd X Y (.BinOp a .Mod b pos) (ze jJ fa fb):=yt VQ ha hb
theorem UB (ha:Snd X Y a fa) (hb:Snd X Y b fb):Snd X Y (.BinOp a .FloorDiv b pos) (ze JB fa fb):=yt Qy ha hb
theorem jk (ha:Snd X Y a fa) (hb:Snd X Y b fb):Snd X Y (.BinOp a .Mult b pos) (ze Zn fa fb):=yt VS ha hb
def yv (fa:En->R T):En->R T:=λρ=>(fa ρ).bind λx=>match x with
 | .int i=> .ok (.int (-i))
 | _=> .bad
theorem yw (ha:Snd X Y a fa):Snd X Y (.UnaryOp .USub a pos) (yv fa):= .mk λρ=>PE.imp (G2 ke (ha ρ)) λσ H Q ⟨B,I,q⟩=>step I q λt v H1 _ s1 r1 I1 q1=>by
 cases r1 with
 | int i=>exact ⟨i,rfl,po0 I1.sB q1 rfl (.int _)⟩
 | _=>exact q1.elim
def W7 (g:T->T->R Bool):R2:=λx y H Q=>∃ t t' b,Rep H x t/\Rep H y t' /\g t t' = .ok b/\Q (.bl b) H
def w8 (g:T->T->R Bool) (fa fb:En->R T):En->R T:=λρ=>(fa ρ).bind λx=>(fb ρ).bind λy=>(g x y).bind λb=> .ok (.bl b)
def zC (g:T->T->R Bool) (fa fb:En->R T):En->R Bool:=λρ=>(fa ρ).bind λx=>(fb ρ).bind λy=>g x y
def Nx (g:T->T->R Bool):Prop:=∀ t t' c,g t t' ≠ .ex c
theorem Jn {op:CmpOp} {g:T->T->R Bool} (nx:Nx g) (ho:OpR X (compareOp op) (W7 g)) (ha:Jl X Y a fa) (hb:Jl X Y b fb) (hm:behindInMarks op b=false):Snd X Y (.Compare a [op] [b] pos) (w8 g fa fb):= .mk λρ=>
 PE.imp (Vv ho (ha ρ) (hb ρ) hm) λσ H Q ⟨B,I,q⟩=>step I q λt v H1 _ s1 r1 I1 q1=>step I1 q1 λt' v' H2 _ s2 r2 I2 q2=>by
  cases e:g t t' with
  | bad=>rw [e] at q2; exact q2.elim
  | ex c=>exact absurd e (nx _ _ _)
  | ok b=>rw [e] at q2; exact ⟨t,t',b,r1.mono s2,r2,e,j2 I2 q2 (.bl b)⟩
theorem zy {op:CmpOp} {g:T->T->R Bool} (nx:Nx g) (ho:OpR X (compareOp op) (W7 g)) (ha:Jl X Y a fa) (hb:Jl X Y b fb) (hm:behindInMarks op b=false):uS X Y (.Compare a [op] [b] pos) (zC g fa fb):= .mk λρ=>
 PT.imp (Y8 ho (ha ρ) (hb ρ) hm) λσ H Q ⟨B,I,q⟩=>step I q λt v H1 _ s1 r1 I1 q1=>step I1 q1 λt' v' H2 _ s2 r2 I2 q2=>by
  cases e:g t t' with
  | bad=>rw [e] at q2; exact q2.elim
  | ex c=>exact absurd e (nx _ _ _)
  | ok b=>rw [e] at q2; exact ⟨t,t',b,r1.mono s2,r2,e,b,rfl,j2 I2 q2 rfl⟩
def eqC (t t' :T):R Bool:=match eqF 30 t t' with
 | some b=> .ok b
 | none=> .bad
def neC (t t' :T):R Bool:=match eqF 30 t t' with
 | some b=> .ok (!b)
 | none=> .bad
theorem zO:Nx eqC:=λt t' c h=>by unfold eqC at h; split at h <;> cases h
theorem Jo:Nx neC:=λt t' c h=>by unfold neC at h; split at h <;> cases h
theorem zx (hu:X.A.units+64 < cLine):OpR X (compareOp .Eq) (W7 eqC):=by
 intro pins s σ H x y v u Q I rx ry h;obtain ⟨t,t',b,r,r',e,q⟩:=h;unfold eqC at e;split at e
 ·rename_i k ek;have e' :k=b:=by injection e
  subst e';exact (Yo I 30 X.A (by omega) t t' k x y v u ek r r' rx ry).2.1 _ _ _ _ ⟨.bl k,H,I,rfl,q⟩
 ·cases e
theorem jd (hu:X.A.units+64 < cLine):OpR X (compareOp .NotEq) (W7 neC):=by
 intro pins s σ H x y v u Q I rx ry h;obtain ⟨t,t',b,r,r',e,q⟩:=h;unfold neC at e;split at e
 ·rename_i k ek;cases e;exact (Yo I 30 X.A (by omega) t t' k x y v u ek r r' rx ry).2.2 _ _ _ _ ⟨.bl (!k),H,I,rfl,q⟩
 ·cases e
def ltC:T->T->R Bool
 | .int i, .int j=> .ok (decide (i < j))
 | _,_=> .bad
def leC:T->T->R Bool
 | .int i, .int j=> .ok (decide (i<=j))
 | .str x, .str y=> .ok (!decide (y.cps.toList < x.cps.toList))
 | _,_=> .bad
def gtC:T->T->R Bool
 | .int i, .int j=> .ok (decide (j < i))
 | _,_=> .bad
theorem uj:Nx ltC:=λt t' c h=>by unfold ltC at h; split at h <;> cases h
theorem ZE:Nx leC:=λt t' c h=>by unfold leC at h; split at h <;> cases h
theorem VT:Nx gtC:=λt t' c h=>by unfold gtC at h; split at h <;> cases h
theorem JP:OpR X (compareOp .Lt) (W7 ltC):=by
 intro pins s σ H x y v u Q I rx ry h;obtain ⟨t,t',b,r,r',e,q⟩:=h;unfold ltC at e;split at e
 ·rename_i i j; cases e; cases r; cases r'; exact G5 pins s σ H _ _ v u Q I rx ry ⟨i,j,rfl,rfl,q⟩
 ·cases e
theorem Yp:OpR X (compareOp .Gt) (W7 gtC):=by
 intro pins s σ H x y v u Q I rx ry h;obtain ⟨t,t',b,r,r',e,q⟩:=h;unfold gtC at e;split at e
 ·rename_i i j; cases e; cases r; cases r'; exact G7 pins s σ H _ _ v u Q I rx ry ⟨i,j,rfl,rfl,q⟩
 ·cases e
theorem zU:OpR X (compareOp .LtE) (W7 leC):=by
 intro pins s σ H x y v u Q I rx ry h;obtain ⟨t,t',b,r,r',e,q⟩:=h;unfold leC at e;split at e
 ·rename_i i j; cases e; cases r; cases r'; exact G6 pins s σ H _ _ v u Q I rx ry ⟨i,j,rfl,rfl,q⟩
 ·rename_i i j; cases e; cases r; cases r';obtain ⟨t1,rfl⟩:=rx;obtain ⟨t2,rfl⟩:=ry;exact PySem.P.le_str ⟨.bl _,H,I,rfl,q⟩
 ·cases e
end
section
variable {X:Cx} {Y:Fx} {a b c d:Expr} {fa fb fc fd:En->R T} {pos:Pos}
def WT (f:T->Option Bool):List T->Option Bool
 | []=>some false
 | t :: r=>match f t with
  | none=>none
  | some b=>match WT f r with
   | none=>none
   | some c=>some (b || c)
def inC (t t' :T):R Bool:=match t' with
 | .tup ys=>match WT (λy=>eqF 30 y t) ys with | some b=> .ok b | none=> .bad
 | .lst ys=>match WT (λy=>eqF 30 y t) ys with | some b=> .ok b | none=> .bad
 | _=> .bad
def yU (t t' :T):R Bool:=(inC t t').bind λb=> .ok (!b)
theorem uk:Nx inC:=λt t' c h=>by
 unfold inC at h;split at h
 ·split at h <;> cases h
 ·split at h <;> cases h
 ·cases h
theorem vM:Nx yU:=λt t' c h=>by
 unfold yU at h;cases e:inC t t' with
 | bad=>rw [e] at h; cases h
 | ex k=>exact absurd e (uk _ _ _)
 | ok k=>rw [e] at h; cases h
open Classical in
theorem U1 {H:Hp} (f:T->Option Bool):∃ e:Value->Bool,∀ (v:V) (t:T) (u:Value) (b:Bool),ZJ v u->Rep H v t->f t=some b->e u=b:=by
 refine ⟨λu=>decide (∃ v t,ZJ v u/\Rep H v t/\f t=some true),λv t u b rv r e=> ?_⟩;cases b with
 | true=>exact decide_eq_true ⟨v,t,rv,r,e⟩
 | false=>
  refine decide_eq_false ?_
  rintro ⟨v',t',rv',r',e'⟩
  have:=rv.inj rv'; subst this;have:=r.fn r'; subst this;rw [e] at e'; cases e'
theorem Yq {H:Hp} {f:T->Option Bool} {e:Value->Bool} (he:∀ (v:V) (t:T) (u:Value) (b:Bool),ZJ v u->Rep H v t->f t=some b->e u=b):∀ {xs:List V} {ts:List T} {its:List Value} {b:Bool},
  Zy xs its->zT H xs ts->WT f ts=some b->its.any e=b/\∀ u∈its,∃ v t k,ZJ v u/\Rep H v t/\f t=some k
 | _,_,_,b, .nil, .nil,h=>by
  have h' :some false=some b:=h;cases h';exact ⟨rfl,λu hu=>by simp at hu⟩
 | _,_,_,b, .cons rv vs, .cons r rs,h=>by
  rename_i v u vals us t ts;unfold WT at h;cases q:f t with
  | none=>rw [q] at h; cases h
  | some k=>
   rw [q] at h;cases q' :WT f ts with
   | none=>rw [q'] at h; cases h
   | some k' =>
    rw [q'] at h;cases h;obtain ⟨h1,h2⟩:=Yq he vs rs q';refine ⟨by rw [List.any_cons,h1,he v t u k rv r q],λw hw=> ?_⟩
    rcases List.mem_cons.mp hw with rfl | hw
    ·exact ⟨v,t,k,rv,r,q⟩
    ·exact h2 w hw
theorem Yr (hu:X.A.units+64 < cLine) (neg:Bool):OpR X (compareOp (if neg then .NotIn else .In)) (W7 (if neg then yU else inC)):=by
 intro pins s σ H x y v u Q I rx ry h;obtain ⟨t,t',b,r,r',e,q⟩:=h;have hs:∃ k,inC t t' = .ok k/\b=(if neg then !k else k):=by
  cases neg with
  | false=>exact ⟨b,e,rfl⟩
  | true=>
   have e' :yU t t' = .ok b:=e;unfold yU at e';cases z:inC t t' with
   | bad=>rw [z] at e'; cases e'
   | ex k=>exact absurd z (uk _ _ _)
   | ok k=>rw [z] at e'; cases e'; exact ⟨k,rfl,rfl⟩
 obtain ⟨k,ek,rfl⟩:=hs;unfold inC at ek;obtain ⟨f,hf⟩:=U1 (H:=H) λy=>eqF 30 y t;have eqa:∀ w,(∃ v t' k,ZJ v w/\Rep H v t' /\eqF 30 t' t=some k)->SeqAt.EqAt X.A.in1 s w v (f w):=λw ⟨v',t',k,rv,rr,ee⟩=>by
  rw [hf v' t' w k rv rr ee];exact (Yo I 30 X.A.in1 (by rw [Jm]; omega) t' t k v' x w v ee rr r rv rx).1
 split at ek
 ·rename_i ys;split at ek
  ·rename_i k' hk;cases ek;cases r' with
   | @tup l xs _ h1 r1=>
    obtain rfl:u=Value.ref l:=ry;obtain ⟨its,rv,p,_⟩:=jj I h1 r1;obtain ⟨h2,h3⟩:=Yq hf rv r1 hk;have h4:its.toArray.any f=k:=by simpa using h2
    cases neg with
    | false=>exact SeqAt.in_tupleAt f p (λw hw=>eqa w (h3 w (by simpa using hw))) (by rw [h4]; exact ⟨.bl k,H,I,rfl,q⟩)
    | true=>exact SeqAt.notIn_tupleAt f p (λw hw=>eqa w (h3 w (by simpa using hw))) (by rw [h4]; exact ⟨.bl (!k),H,I,rfl,q⟩)
  ·cases ek
 ·rename_i ys;split at ek
  ·rename_i k' hk;cases ek;cases r' with
   | @lst l xs _ h1 r1=>
    obtain rfl:u=Value.ref l:=ry;obtain ⟨its,rv,p,_⟩:=Zj I (.inl h1) r1;obtain ⟨h2,h3⟩:=Yq hf rv r1 hk;have h4:its.toArray.any f=k:=by simpa using h2
    cases neg with
    | false=>exact SeqAt.in_listAt f p (λw hw=>eqa w (h3 w (by simpa using hw))) (by rw [h4]; exact ⟨.bl k,H,I,rfl,q⟩)
    | true=>exact SeqAt.notIn_listAt f p (λw hw=>eqa w (h3 w (by simpa using hw))) (by rw [h4]; exact ⟨.bl (!k),H,I,rfl,q⟩)
  ·cases ek
 ·cases ek
theorem W8 (hu:X.A.units+64 < cLine):OpR X (compareOp .In) (W7 inC):=Yr hu false
theorem Ys (hu:X.A.units+64 < cLine):OpR X (compareOp .NotIn) (W7 yU):=Yr hu true
def Qf (t t' :T):R Bool:=match t' with
 | .non=>match t with | .non=> .ok true | _=> .ok false
 | .bl k=>match t with | .bl j=> .ok (j == k) | _=> .ok false
 | _=> .bad
def VU (t t' :T):R Bool:=(Qf t t').bind λb=> .ok (!b)
theorem kz:Nx Qf:=λt t' c h=>by
 unfold Qf at h;split at h
 ·split at h <;> cases h
 ·split at h <;> cases h
 ·cases h
theorem VV (neg:Bool):OpR X (compareOp (if neg then .IsNot else .Is)) (W7 (if neg then VU else Qf)):=by
 intro pins s σ H x y v u Q I rx ry h;obtain ⟨t,t',b,r,r',e,q⟩:=h;have hs:∃ k,Qf t t' = .ok k/\b=(if neg then !k else k):=by
  cases neg with
  | false=>exact ⟨b,e,rfl⟩
  | true=>
   have e' :VU t t' = .ok b:=e;unfold VU at e';cases z:Qf t t' with
   | bad=>rw [z] at e'; cases e'
   | ex k=>exact absurd z (kz _ _ _)
   | ok k=>rw [z] at e'; cases e'; exact ⟨k,rfl,rfl⟩
 obtain ⟨k,ek,rfl⟩:=hs;have go:plainIs v u=true/\(v == u)=k:=by
  cases r' with
  | non=>
   obtain rfl:u=Value.none:=ry;cases r with
   | non=>obtain rfl:v=Value.none:=rx; cases ek; exact ⟨rfl,rfl⟩
   | bl j=>obtain rfl:v=Value.bool j:=rx; cases ek; exact ⟨rfl,rfl⟩
   | int j=>obtain ⟨t,rfl⟩:=rx; cases ek; exact ⟨rfl,rfl⟩
   | str j=>obtain ⟨t,rfl⟩:=rx; cases ek; exact ⟨rfl,rfl⟩
   | tup _ _=>obtain rfl:v=Value.ref _:=rx; cases ek; exact ⟨rfl,rfl⟩
   | lst _ _=>obtain rfl:v=Value.ref _:=rx; cases ek; exact ⟨rfl,rfl⟩
   | fz _ _=>obtain rfl:v=Value.ref _:=rx; cases ek; exact ⟨rfl,rfl⟩
  | bl k' =>
   obtain rfl:u=Value.bool k' :=ry;cases r with
   | non=>obtain rfl:v=Value.none:=rx; cases ek; exact ⟨rfl,rfl⟩
   | bl j=>obtain rfl:v=Value.bool j:=rx; cases ek; exact ⟨rfl,by cases j <;> cases k' <;> rfl⟩
   | int j=>obtain ⟨t,rfl⟩:=rx; cases ek; exact ⟨rfl,rfl⟩
   | str j=>obtain ⟨t,rfl⟩:=rx; cases ek; exact ⟨rfl,rfl⟩
   | tup _ _=>obtain rfl:v=Value.ref _:=rx; cases ek; exact ⟨rfl,rfl⟩
   | lst _ _=>obtain rfl:v=Value.ref _:=rx; cases ek; exact ⟨rfl,rfl⟩
   | fz _ _=>obtain rfl:v=Value.ref _:=rx; cases ek; exact ⟨rfl,rfl⟩
  | _=>cases ek
 cases neg with
 | false=>exact wpAny_is_plain go.1 (by rw [go.2]; exact ⟨.bl k,H,I,rfl,q⟩)
 | true=>exact wpAny_isNot_plain go.1 (by rw [go.2]; exact ⟨.bl (!k),H,I,rfl,q⟩)
theorem kA:OpR X (compareOp .Is) (W7 Qf):=VV false
def chE (g g' :T->T->R Bool) (fa fb fc:En->R T):En->R T:=λρ=>(fa ρ).bind λx=>(fb ρ).bind λy=>(g x y).bind λk=>if k=true then (fc ρ).bind λz=>(g' y z).bind λk' => .ok (.bl k') else .ok (.bl false)
def chT (g g' :T->T->R Bool) (fa fb fc:En->R T):En->R Bool:=λρ=>(fa ρ).bind λx=>(fb ρ).bind λy=>(g x y).bind λk=>if k=true then (fc ρ).bind λz=>g' y z else .ok false
theorem jK {op op' :CmpOp} {g g' :T->T->R Bool} (nx:Nx g) (nx' :Nx g') (ho:OpR X (compareOp op) (W7 g)) (ho' :OpR X (compareOp op') (W7 g')) (ha:Jl X Y a fa) (hb:Jl X Y b fb) (hc:Jl X Y c fc)
  (hm:lastMarks [op,op'] [b,c]=false:=by with_unfolding_all rfl):Snd X Y (.Compare a [op,op'] [b,c] pos) (chE g g' fa fb fc):= .mk λρ=>
 PE.imp (Qq ho ho' (ha ρ) (hb ρ) (hc ρ) hm) λσ H Q ⟨B,I,q⟩=>step I q λt v H1 _ s1 r1 I1 q1=>step I1 q1 λt' v' H2 _ s2 r2 I2 q2=>by
  cases e:g t t' with
  | bad=>rw [e] at q2; exact q2.elim
  | ex c=>exact absurd e (nx _ _ _)
  | ok k=>
   rw [e] at q2;refine ⟨t,t',k,r1.mono s2,r2,e,k,rfl, ?_⟩;cases k with
   | false=>exact j2 I2 q2 (.bl false)
   | true=>
    refine step I2 q2 λt3 v3 H3 _ s3 r3 I3 q3=> ?_
    ·cases e:g' t' t3 with
     | bad=>rw [e] at q3; exact q3.elim
     | ex c=>exact absurd e (nx' _ _ _)
     | ok k=>rw [e] at q3; exact ⟨t',t3,k,r2.mono s3,r3,e,j2 I3 q3 (.bl k)⟩
theorem wy {op op' :CmpOp} {g g' :T->T->R Bool} (nx:Nx g) (nx' :Nx g') (ho:OpR X (compareOp op) (W7 g)) (ho' :OpR X (compareOp op') (W7 g')) (ha:Jl X Y a fa) (hb:Jl X Y b fb) (hc:Jl X Y c fc)
  (hm:lastMarks [op,op'] [b,c]=false:=by with_unfolding_all rfl):uS X Y (.Compare a [op,op'] [b,c] pos) (chT g g' fa fb fc):= .mk λρ=>
 PT.imp (Qr ho ho' (ha ρ) (hb ρ) (hc ρ) hm) λσ H Q ⟨B,I,q⟩=>step I q λt v H1 _ s1 r1 I1 q1=>step I1 q1 λt' v' H2 _ s2 r2 I2 q2=>by
  cases e:g t t' with
  | bad=>rw [e] at q2; exact q2.elim
  | ex c=>exact absurd e (nx _ _ _)
  | ok k=>
   rw [e] at q2;refine ⟨t,t',k,r1.mono s2,r2,e,k,rfl, ?_⟩;cases k with
   | false=>exact ⟨false,rfl,j2 I2 q2 rfl⟩
   | true=>
    refine step I2 q2 λt3 v3 H3 _ s3 r3 I3 q3=> ?_
    ·cases e:g' t' t3 with
     | bad=>rw [e] at q3; exact q3.elim
     | ex c=>exact absurd e (nx' _ _ _)
     | ok k=>rw [e] at q3; exact ⟨t',t3,k,r2.mono s3,r3,e,k,rfl,j2 I3 q3 rfl⟩
def VW (r r' r'' :R2) (ta tb tc td:TE):TE:=λσ H Q=>ta σ H λx H1=>tb σ H1 λy H2=>r x y H2 λz H3=>∃ k,z= .bl k/\
 (if k=true then tc σ H3 λw' H4=>r' y w' H4 λz' H5=>∃ k',z' = .bl k' /\(if k' =true then td σ H5 λw2 H6=>r'' w' w2 H6 Q else Q (.bl false) H5) else Q (.bl false) H3)
theorem Yt {op op' op'' :CmpOp} {r r' r'' :R2} {ta tb tc td:TE} (ho:OpR X (compareOp op) r) (ho' :OpR X (compareOp op') r') (ho'' :OpR X (compareOp op'') r'') (ha:PE X a ta) (hb:PE X b tb) (hc:PE X c tc) (hd:PE X d td)
  (hm:lastMarks [op,op',op''] [b,c,d]=false:=by with_unfolding_all rfl):PE X (.Compare a [op,op',op''] [b,c,d] pos) (VW r r' r'' ta tb tc td):=by
 intro pins s σ H Q I h;refine Compare_chain (thn (ha pins s σ H _ I h) λv s1 ⟨x,H1,I1,r1,q1⟩=>chain_link (thn (hb pins s1 σ H1 _ I1 q1) λu s2 ⟨y,H2,I2,r2,q2⟩=>
  thn (ho pins s2 σ H2 x y v u _ I2 r1 r2 q2) λd' s3 ⟨z,H3,I3,r3,k,e,q3⟩=> ?_)) hm
 subst e;cases r3;refine wpAny_truthy_bool ?_;cases k with
 | false=>exact ite_ff ⟨.bl false,H3,I3,rfl,q3⟩
 | true=>
  refine ite_tt (chain_link (thn (hc pins s3 σ H3 _ I3 q3) λw' s4 ⟨z',H4,I4,r4,q4⟩=>thn (ho' pins s4 σ H4 y z' u w' _ I4 r2 r4 q4) λd2 s5 ⟨z5,H5,I5,r5,k5,e5,q5⟩=> ?_));subst e5;cases r5;refine wpAny_truthy_bool ?_;cases k5 with
  | false=>exact ite_ff ⟨.bl false,H5,I5,rfl,q5⟩
  | true=>exact ite_tt (chain_last (thn (hd pins s5 σ H5 _ I5 q5) λw6 s6 ⟨z6,H6,I6,r6,q6⟩=>ho'' pins s6 σ H6 z' z6 w' w6 Q I6 r4 r6 q6))
def ch3E (g g' g'' :T->T->R Bool) (fa fb fc fd:En->R T):En->R T:=λρ=>(fa ρ).bind λx=>(fb ρ).bind λy=>(g x y).bind λk=>if k=true then (fc ρ).bind λz=>(g' y z).bind λk' =>
 if k' =true then (fd ρ).bind λw=>(g'' z w).bind λk'' => .ok (.bl k'') else .ok (.bl false) else .ok (.bl false)
theorem Qz {op op' op'' :CmpOp} {g g' g'' :T->T->R Bool} (nx:Nx g) (nx' :Nx g') (nx'' :Nx g'') (ho:OpR X (compareOp op) (W7 g)) (ho' :OpR X (compareOp op') (W7 g')) (ho'' :OpR X (compareOp op'') (W7 g''))
  (ha:Jl X Y a fa) (hb:Jl X Y b fb) (hc:Jl X Y c fc) (hd:Jl X Y d fd)
  (hm:lastMarks [op,op',op''] [b,c,d]=false:=by with_unfolding_all rfl):Snd X Y (.Compare a [op,op',op''] [b,c,d] pos) (ch3E g g' g'' fa fb fc fd):= .mk λρ=>
 PE.imp (Yt ho ho' ho'' (ha ρ) (hb ρ) (hc ρ) (hd ρ) hm) λσ H Q ⟨B,I,q⟩=>step I q λt v H1 _ s1 r1 I1 q1=>step I1 q1 λt' v' H2 _ s2 r2 I2 q2=>by
  cases e:g t t' with
  | bad=>rw [e] at q2; exact q2.elim
  | ex c=>exact absurd e (nx _ _ _)
  | ok k=>
   rw [e] at q2;refine ⟨t,t',k,r1.mono s2,r2,e,k,rfl, ?_⟩;cases k with
   | false=>exact j2 I2 q2 (.bl false)
   | true=>
    refine step I2 q2 λt3 v3 H3 _ s3 r3 I3 q3=> ?_
    ·cases e:g' t' t3 with
     | bad=>rw [e] at q3; exact q3.elim
     | ex c=>exact absurd e (nx' _ _ _)
     | ok k=>
      rw [e] at q3;refine ⟨t',t3,k,r2.mono s3,r3,e,k,rfl, ?_⟩;cases k with
      | false=>exact j2 I3 q3 (.bl false)
      | true=>
       refine step I3 q3 λt4 v4 H4 _ s4 r4 I4 q4=> ?_
       ·cases e:g'' t3 t4 with
        | bad=>rw [e] at q4; exact q4.elim
        | ex c=>exact absurd e (nx'' _ _ _)
        | ok k=>rw [e] at q4; exact ⟨t3,t4,k,r3.mono s4,r4,e,j2 I4 q4 (.bl k)⟩
variable {rest:List Expr} {ga gb:En->R Bool}
def Jf (fa fb:En->R T):En->R T:=λρ=>(fa ρ).bind λx=>match x with
 | .bl true=>fb ρ
 | .bl false=> .ok (.bl false)
 | _=> .bad
def orE (fa fb:En->R T):En->R T:=λρ=>(fa ρ).bind λx=>match x with
 | .bl true=> .ok (.bl true)
 | .bl false=>fb ρ
 | _=> .bad
def Gf (fa:En->R T):En->R T:=λρ=>(fa ρ).bind λx=>match x with
 | .bl k=> .ok (.bl (!k))
 | _=> .bad
theorem jL {op} (h:Snd X Y a fa):Snd X Y (.BoolOp op [a] pos) fa:= .mk λρ=>XW (h ρ)
theorem j4 (ha:Snd X Y a fa) (hb:Snd X Y (.BoolOp .And (b :: rest) pos) fb):Snd X Y (.BoolOp .And (a :: b :: rest) pos) (Jf fa fb):= .mk λρ=>
 PE.imp (XX (ha ρ) (hb ρ)) λσ H Q ⟨B,I,q⟩=>step I q λt v H1 _ s1 r1 I1 q1=>by
  cases r1 with
  | bl k=>
   refine ⟨k,rfl, ?_⟩;cases k with
   | true=>exact ⟨_,I1,q1⟩
   | false=>exact j2 I1 q1 (.bl false)
  | _=>exact q1.elim
theorem s_or (ha:Snd X Y a fa) (hb:Snd X Y (.BoolOp .Or (b :: rest) pos) fb):Snd X Y (.BoolOp .Or (a :: b :: rest) pos) (orE fa fb):= .mk λρ=>
 PE.imp (gQ (ha ρ) (hb ρ)) λσ H Q ⟨B,I,q⟩=>step I q λt v H1 _ s1 r1 I1 q1=>by
  cases r1 with
  | bl k=>
   refine ⟨k,rfl, ?_⟩;cases k with
   | false=>exact ⟨_,I1,q1⟩
   | true=>exact j2 I1 q1 (.bl true)
  | _=>exact q1.elim
theorem kB (ha:Snd X Y a fa):Snd X Y (.UnaryOp .Not a pos) (Gf fa):= .mk λρ=>
 PE.imp (XY (ha ρ)) λσ H Q ⟨B,I,q⟩=>step I q λt v H1 _ s1 r1 I1 q1=>by
  cases r1 with
  | bl k=>exact ⟨k,rfl,j2 I1 q1 (.bl (!k))⟩
  | _=>exact q1.elim
structure JQ (X:Cx) (Y:Fx) (e:Expr) (f:En->R Bool):Prop where
 mk ::
 go:∀ ρ,PW X e (tS Y rE f ρ)
instance {X:Cx} {Y:Fx} {e:Expr} {f:En->R Bool}:CoeFun (JQ X Y e f) λ_=>∀ ρ,PW X e (tS Y rE f ρ):=⟨JQ.go⟩
theorem JQ.t {e:Expr} {f:En->R Bool} (h:JQ X Y e f):uS X Y e f:= .mk λρ=>(h ρ).pt
theorem PW.imp {e:Expr} {t t' :TT} (h:PW X e t) (i:∀ σ H Q,t' σ H Q->t σ H Q):PW X e t' :=λwh pins s σ H Q I q=>h wh pins s σ H Q I (i σ H Q q)
def wz (fa fb:En->R Bool):En->R Bool:=λρ=>(fa ρ).bind λx=>if x=true then fb ρ else .ok false
def orT (fa fb:En->R Bool):En->R Bool:=λρ=>(fa ρ).bind λx=>if x=true then .ok true else fb ρ
def jE (fa:En->R Bool):En->R Bool:=λρ=>(fa ρ).bind λx=> .ok (!x)
theorem ul (h:uS X Y a ga):JQ X Y (.BoolOp .And [a] pos) ga:= .mk λρ=>Vs (h ρ)
theorem wA (h:uS X Y a ga):JQ X Y (.BoolOp .Or [a] pos) ga:= .mk λρ=>XT (h ρ)
theorem Yu (ha:uS X Y a ga) (hb:JQ X Y (.BoolOp .And (b :: rest) pos) gb):JQ X Y (.BoolOp .And (a :: b :: rest) pos) (wz ga gb):= .mk λρ=>
 PW.imp (XU (ha ρ) (hb ρ)) λσ H Q ⟨B,I,q⟩=>step I q λt v H1 _ s1 r1 I1 q1=>by
  have r1' :v=t:=r1;subst r1';cases v with
  | true=>exact ⟨_,I1,q1⟩
  | false=>exact j2 I1 q1 rfl
theorem WU (ha:uS X Y a ga) (hb:JQ X Y (.BoolOp .Or (b :: rest) pos) gb):JQ X Y (.BoolOp .Or (a :: b :: rest) pos) (orT ga gb):= .mk λρ=>
 PW.imp (gN (ha ρ) (hb ρ)) λσ H Q ⟨B,I,q⟩=>step I q λt v H1 _ s1 r1 I1 q1=>by
  have r1' :v=t:=r1;subst r1';cases v with
  | false=>exact ⟨_,I1,q1⟩
  | true=>exact j2 I1 q1 rfl
theorem j5 (ha:uS X Y a ga):uS X Y (.UnaryOp .Not a pos) (jE ga):= .mk λρ=>
 PT.imp (XV (ha ρ)) λσ H Q ⟨B,I,q⟩=>step I q λt v H1 _ s1 r1 I1 q1=>by
  have r1' :v=t:=r1;subst r1';exact j2 I1 q1 rfl
def tru:T->R Bool
 | .bl k=> .ok k
 | .non=> .ok false
 | .int i=> .ok (i != 0)
 | .tup xs=> .ok (!xs.isEmpty)
 | .lst xs=> .ok (!xs.isEmpty)
 | _=> .bad
def ZP (fa:En->R T):En->R Bool:=λρ=>(fa ρ).bind tru
theorem isE {H:Hp} {xs:List V} {ts:List T} (r:zT H xs ts):(!xs.isEmpty)= !ts.isEmpty:=by cases r <;> rfl
theorem ZV (ha:Jl X Y a fa) (he:∀ whole,isTrue a X.env whole=(do let v ← whole; standAt a.pos; holding [v] (truthy v)):=by intro _; rfl):uS X Y a (ZP fa):= .mk λρ=>
 PT.imp (Qs (ha ρ) he) λσ H Q ⟨B,I,q⟩=>step I q λt v H1 _ s1 r1 I1 q1=>by
  cases r1 with
  | bl k=>exact ⟨k,rfl,j2 I1 q1 rfl⟩
  | non=>exact ⟨false,rfl,j2 I1 q1 rfl⟩
  | int i=>exact ⟨_,rfl,j2 I1 q1 rfl⟩
  | tup h r=>exact ⟨_, .inr (.inl ⟨_,SqT.of h,rfl⟩),j2 I1 q1 (isE r)⟩
  | lst h r=>exact ⟨_, .inl ⟨_,SqL.of h,rfl⟩,j2 I1 q1 (isE r)⟩
  | _=>exact q1.elim
def ifE (g:En->R Bool) (fa fb:En->R T):En->R T:=λρ=>(g ρ).bind λk=>if k=true then fa ρ else fb ρ
theorem vN (hc:uS X Y c ga) (ha:Snd X Y a fa) (hb:Snd X Y b fb):Snd X Y (.IfExp c a b pos) (ifE ga fa fb):= .mk λρ=>
 PE.imp (Qn (hc ρ) (ha ρ) (hb ρ)) λσ H Q ⟨B,I,q⟩=>step I q λt v H1 _ s1 r1 I1 q1=>by
  have r1' :v=t:=r1;subst r1';cases v with
  | true=>exact ⟨_,I1,q1⟩
  | false=>exact ⟨_,I1,q1⟩
end
end PV
namespace PV
open PySem PySem.Spec PyProof.Rows L2
section
variable {X:Cx} {Y:Fx} {a b c d:Expr} {fa fb fc fd:En->R T} {pos p:Pos}
def ap1 (g:T->R T) (fa:En->R T):En->R T:=λρ=>(fa ρ).bind g
abbrev St1 (X:Cx) (a:Expr):Prop:=starEach [a] X.env=[(false,eval a X.env)]
theorem vO {id:String} {x:Str} {r:List V->Hp->VK->Prop} {g:T->R T} (hc:ji X (.builtin id) r) (hr:∀ v t B H Q,Rep H v t->zJ B H->Po Y rC B H (g t) Q->r [v] H Q)
  (gl:Gl X x) (mg:X.mg x=none) (bt:bootBuiltins x=some (.builtin id)) (ha:Jl X Y a fa) (hs:St1 X a:=by exact st1 rfl) (hn:x ≠ "__name__":=by decide) (hd:(x == ("__debug__":Str))=false:=by decide):Snd X Y (.Call (.Name x p) [a] [] pos) (ap1 g fa):= .mk λρ=>
 PE.imp (jW hc gl mg bt (zA (ha ρ) Zf hs) hn hd hs rfl) λσ H Q ⟨B,I,q⟩=>step I q λt v H1 _ s1 r1 I1 q1=>hr v t _ H1 Q r1 I1.sB q1
theorem Yv {id:String} {x:Str} {r:List V->Hp->VK->Prop} {g:T->R T} (hc:ji X (.type id) r) (hr:∀ v t B H Q,Rep B v t->zJ B H->Po Y rC B H (g t) Q->r [v] H Q)
  (gl:Gl X x) (mg:X.mg x=none) (bt:bootBuiltins x=some (.type id)) (ha:Snd X Y a fa) (hs:St1 X a:=by exact st1 rfl) (hn:x ≠ "__name__":=by decide) (hd:(x == ("__debug__":Str))=false:=by decide):Snd X Y (.Call (.Name x p) [a] [] pos) (ap1 g fa):= .mk λρ=>
 PE.imp (Jj hc gl mg bt (zA (ha ρ) Zf hs) hn hd hs rfl) λσ H Q ⟨B,I,q⟩=>step I q λt v H1 _ s1 r1 I1 q1=>hr v t _ H1 Q r1 I1.sB q1
def zY:T->R T
 | .tup xs=> .ok (.int xs.length)
 | .lst xs=> .ok (.int xs.length)
 | .fz xs=> .ok (.int xs.length)
 | .str x=>if x.length<=bnd then .ok (.int x.length) else .bad
 | _=> .bad
theorem Gg (v:V) (t:T) (B H:Hp) (Q:VK) (r:Rep H v t) (sB:zJ B H) (q:Po Y rC B H (zY t) Q):
  (∃ p ys,[v]=[V.ref p]/\(SqL X.K H p ys\/SqT X.K H p ys)/\Q (V.int ys.length) H)\/(∃ z,[v]=[V.str z]/\z.length<=sizeLine/\Q (V.int z.length) H):=by
 cases r with
 | tup h r=>exact .inl ⟨_,_,rfl, .inr (SqT.of h),po0 sB q rfl (by rw [r.length]; exact .int _)⟩
 | lst h r=>exact .inl ⟨_,_,rfl, .inl (SqL.of h),po0 sB q rfl (by rw [r.length]; exact .int _)⟩
 | fz h r=>exact .inl ⟨_,_,rfl, .inl (.inl (.inr ⟨_,h⟩)),po0 sB q rfl (by rw [r.length]; exact .int _)⟩
 | str x=>
  by_cases hb:x.length<=bnd
  ·exact .inr ⟨x,rfl,jc hb,po0 sB q (if_pos hb) (.int _)⟩
  ·rw [show zY (.str x)= .bad from if_neg hb] at q; exact q.elim
 | _=>exact q.elim
theorem Zb (gl:Gl X "len") (mg:X.mg "len"=none) (ha:Jl X Y a fa) (hs:St1 X a:=by exact st1 rfl):Snd X Y (.Call (.Name "len" p) [a] [] pos) (ap1 zY fa):=
 vO (uc.or ud) Gg gl mg PySem.boot_len ha hs
def Xx:T->R T
 | .tup xs=> .ok (.tup xs)
 | .lst xs=> .ok (.tup xs)
 | _=> .bad
theorem Gh (v:V) (t:T) (B H:Hp) (Q:VK) (r:Rep B v t) (sB:zJ B H) (q:Po Y rC B H (Xx t) Q):
  ∃ p ys,[v]=[V.ref p]/\((SqL X.K H p ys/\∀ l,H l=none->Q (.ref l) (upd H l (.tup ys)))\/(SqT X.K H p ys/\Q (.ref p) H)):=by
 cases r with
 | tup h r=>exact ⟨_,_,rfl, .inr ⟨SqT.of (sB _ _ h),po0 sB q rfl (.tup h r)⟩⟩
 | lst h r=>exact ⟨_,_,rfl, .inl ⟨SqL.of (sB _ _ h),λl hl=>gh sB q rfl r hl⟩⟩
 | _=>exact q.elim
theorem U2 (gl:Gl X "tuple") (mg:X.mg "tuple"=none) (ha:Snd X Y a fa) (hs:St1 X a:=by exact st1 rfl):Snd X Y (.Call (.Name "tuple" p) [a] [] pos) (ap1 Xx fa):=
 Yv Wm Gh gl mg (PyProof.Rows.Boot.«tuple») ha hs
def tyN:T->String
 | .non=>"NoneType"
 | .bl _=>"bool"
 | .int _=>"int"
 | .str _=>"str"
 | .tup _=>"tuple"
 | .lst _=>"list"
 | .fz _=>"list"
def isT (n:String) (t:T):Bool:=tyN t == n || (n == "int" && tyN t == "bool")
theorem Gi {H:Hp} {v:V} {t:T} (K:PySem.W.Frag) (r:Rep H v t):ym K H v (.type (tyN t)):=by
 cases r with
 | non=>exact .non
 | bl b=>exact .bl b
 | int b=>exact .int b
 | str b=>exact .str b
 | tup h _=>exact .tup h
 | lst h _=>exact .lst h
 | fz h _=>exact .frz h
theorem QA:ji X (.builtin "isinstance") (λxs H Q=>∃ v n t,xs=[v, .ty n]/\Rep H v t/\PySem.W.kitOne X.K (.type (tyN t)) (.type n)=some (isT n t)/\Q (.bl (isT n t)) H):=by
 intro pins s σ H xs us Q I rv h;obtain ⟨v,n,t,rfl,r,hk,q⟩:=h;obtain ⟨u,w,rfl,ru,rw'⟩:=yl rv;obtain rfl:w=Value.type n:=rw';exact Yc I ru (Gi X.K r) hk λtk=>⟨.bl _,H,I.tok tk,rfl,q⟩
def jF (n:String) (t:T):R T:= .ok (.bl (isT n t))
theorem U3 (K:PySem.W.Frag) (t:T):PySem.W.kitOne K (.type (tyN t)) (.type "int")=some (isT "int" t):=by cases t <;> rfl
theorem UC (K:PySem.W.Frag) (t:T):PySem.W.kitOne K (.type (tyN t)) (.type "bool")=some (isT "bool" t):=by cases t <;> rfl
theorem Wq (K:PySem.W.Frag) (t:T):PySem.W.kitOne K (.type (tyN t)) (.type "str")=some (isT "str" t):=by cases t <;> rfl
theorem Zz (K:PySem.W.Frag) (t:T):PySem.W.kitOne K (.type (tyN t)) (.type "tuple")=some (isT "tuple" t):=by cases t <;> rfl
theorem jw {n:String} {p' :Pos} (hk:∀ t,PySem.W.kitOne X.K (.type (tyN t)) (.type n)=some (isT n t)) (gl:Gl X "isinstance") (mg:X.mg "isinstance"=none) (gl' :Gl X (Str.ofString n)) (mg' :X.mg (Str.ofString n)=none) (bt:bootBuiltins (Str.ofString n)=some (.type n)) (ha:Jl X Y a fa)
  (hs:starEach [a, .Name (Str.ofString n) p'] X.env=[(false,eval a X.env),(false,eval (.Name (Str.ofString n) p') X.env)]:=by exact st2 rfl rfl) (hs2:starEach [.Name (Str.ofString n) p'] X.env=[(false,eval (.Name (Str.ofString n) p') X.env)]:=by exact st1 rfl)
  (hn:Str.ofString n ≠ "__name__":=by decide) (hd:(Str.ofString n == ("__debug__":Str))=false:=by decide) (hz:((backTo pos (starEach [.Name (Str.ofString n) p'] X.env)).any λx=>x.fst)=false:=by exact j0 rfl):
  Snd X Y (.Call (.Name "isinstance" p) [a, .Name (Str.ofString n) p'] [] pos) (ap1 (jF n) fa):= .mk λρ=>
 PE.imp (jW QA gl mg PyProof.Rows.Boot.«isinstance» (zA (ha ρ) (zA (yZ (v:= .ty n) gl' mg' bt rfl hn hd) Zf hs2) (by rw [hs,hs2])) (by decide) (by decide) (by rw [hs,hs2]) hz) λσ H Q ⟨B,I,q⟩=>
  step I q λt v H1 _ s1 r1 I1 q1=>⟨v,n,t,rfl,r1,hk t,po0 I1.sB q1 rfl (.bl _)⟩
def atT (xs:List T) (i:Int):R T:=match atI xs i with
 | some t=> .ok t
 | none=> .bad
def ixT:T->T->R T
 | .tup xs, .int i=>atT xs i
 | .lst xs, .int i=>atT xs i
 | .fz xs, .int i=>atT xs i
 | .str z, .int i=>if z.length<=bnd then match atI z.cps.toList i with | some c=> .ok (.str ⟨#[c]⟩) | none=> .bad else .bad
 | _,_=> .bad
theorem Yw {H:Hp} {xs:List V} {ts:List T} {i:Int} {t:T} (r:zT H xs ts) (h:atI ts i=some t):∃ v,atI xs i=some v/\Rep H v t:=by
 unfold atI at h ⊢;rw [r.length];cases e:ixN ts.length i with
 | none=>rw [e] at h; cases h
 | some j=>
  rw [e] at h;obtain ⟨v,h1,h2⟩:=r.get (show ts[j]? =some t from h);exact ⟨v,h1,h2⟩
theorem zM (ha:Snd X Y a fa) (hb:Snd X Y b fb) (hs:Yg b:=by exact λ_ _=>rfl):Snd X Y (.Subscript a b pos) (ze ixT fa fb):= .mk λρ=>
 PE.imp (Gd kq (ha ρ) (hb ρ) hs) λσ H Q ⟨B,I,q⟩=>step I q λt v H1 _ s1 r1 I1 q1=>step I1 q1 λt' v' H2 _ s2 r2 I2 q2=>by
  have r1:=r1.mono (Za.ge I1.sB s2);cases r2 with
  | int i=>
   cases r1 with
   | @tup _ xs ts h r=>
    have q2:Po Y rC _ H2 (atT ts i) Q:=q2;unfold atT at q2;split at q2
    ·rename_i t' e;obtain ⟨w,e1,e2⟩:=Yw r e;exact .inr (.inl ⟨_,xs,i,w,rfl,rfl,SqT.of (I2.sB _ _ h),e1,po0 I2.sB q2 rfl e2⟩)
    ·exact q2.elim
   | @lst _ xs ts h r=>
    have q2:Po Y rC _ H2 (atT ts i) Q:=q2;unfold atT at q2;split at q2
    ·rename_i t' e;obtain ⟨w,e1,e2⟩:=Yw r e;exact .inl ⟨_,xs,i,w,rfl,rfl,SqL.of (I2.sB _ _ h),e1,po0 I2.sB q2 rfl e2⟩
    ·exact q2.elim
   | @fz _ _ xs ts h r=>
    have q2:Po Y rC _ H2 (atT ts i) Q:=q2;unfold atT at q2;split at q2
    ·rename_i t' e;obtain ⟨w,e1,e2⟩:=Yw r e;exact .inl ⟨_,xs,i,w,rfl,rfl, .inl (.inr ⟨_,I2.sB _ _ h⟩),e1,po0 I2.sB q2 rfl e2⟩
    ·exact q2.elim
   | str z=>
    have q2:Po Y rC _ H2 (if z.length<=bnd then match atI z.cps.toList i with | some c=> .ok (.str ⟨#[c]⟩) | none=> .bad else .bad) Q:=q2
    split at q2
    ·rename_i hb;split at q2
     ·rename_i c e;exact .inr (.inr ⟨z,i,c,rfl,rfl,jc hb,e,po0 I2.sB q2 rfl (.str _)⟩)
     ·exact q2.elim
    ·exact q2.elim
   | _=>exact q2.elim
  | _=>cases r1 <;> exact q2.elim
structure vP (X:Cx) (Y:Fx) (e:Option Expr) (f:En->R (Option Int)):Prop where
 mk ::
 go:∀ ρ,PO X e (tS Y rE f ρ)
instance {X:Cx} {Y:Fx} {e:Option Expr} {f:En->R (Option Int)}:CoeFun (vP X Y e f) λ_=>∀ ρ,PO X e (tS Y rE f ρ):=⟨vP.go⟩
def noO:En->R (Option Int):=λ_=> .ok none
def zB (fa:En->R T):En->R (Option Int):=λρ=>(fa ρ).bind λt=>match t with
 | .int i=> .ok (some i)
 | _=> .bad
theorem PO.imp {e:Option Expr} {t t' :TO} (h:PO X e t) (i:∀ σ H Q,t' σ H Q->t σ H Q):PO X e t' :=λpins s σ H Q I q=>h pins s σ H Q I (i σ H Q q)
theorem Zp:vP X Y none noO:= .mk λρ=>PO.imp Vy λσ H Q ⟨B,I,q⟩=>j2 I q rfl
theorem Z4 (ha:Snd X Y a fa):vP X Y (some a) (zB fa):= .mk λρ=>PO.imp (Vz (ha ρ)) λσ H Q ⟨B,I,q⟩=>step I q λt v H1 _ s1 r1 I1 q1=>by
 cases r1 with
 | int i=>exact ⟨i,rfl,j2 I1 q1 rfl⟩
 | _=>exact q1.elim
def cut (xs:List T) (lo hi:Option Int):List T:=(xs.drop (HT.sIx xs.length 0 lo)).take (HT.sIx xs.length xs.length hi - HT.sIx xs.length 0 lo)
def slT (t:T) (lo hi:Option Int):R T:=match t with
 | .tup xs=> .ok (.tup (cut xs lo hi))
 | .lst xs=> .ok (.lst (cut xs lo hi))
 | _=> .bad
def slE (fa:En->R T) (fl fh:En->R (Option Int)):En->R T:=λρ=>(fa ρ).bind λt=>(fl ρ).bind λlo=>(fh ρ).bind λhi=>slT t lo hi
theorem Yx {H:Hp} {xs:List V} {ts:List T} {lo hi:Option Int} (r:zT H xs ts):zT H (vK xs lo hi) (cut ts lo hi):=by
 unfold vK cut;rw [r.length];exact (r.drop _).take _
theorem JC {prog:Program} {w:World} {A:Around} {E:Value->Shared->Prop} {s:Shared} {t sl:Addr} {items:Array Value} {vl vu:Value} {lo hi:Option Int} {Q:Value->Shared->Prop} (ht:IsTup s.heap t items) (hs:s.heap.IsSliceOf sl vl vu .none) (pl:IsPart vl lo) (pu:IsPart vu hi)
  (hw:HT.sIx items.size 0 lo=0/\HT.sIx items.size items.size hi=items.size) (h:Q (.ref t) s):wpAny (model prog w) A (getItem (.ref t) (.ref sl)) Q E s:=by
 obtain ⟨os,hos,hcs,hds⟩:=id hs;have hTs:s.TypeIs (.ref sl) "slice":=⟨os,hos,hcs⟩;unfold getItem
 try with_reducible refine wpAny_holding ?_
 first | refine wpAny_bind (wpAny_pure ?_) | skip
 refine wpAny_bind (wpAny_sequenceKey ht.typeIs (by decide) ?_)
 refine wpAny_bind (wpAny_callSpecial?_slot (name:=Str.ofString "__getitem__") ht.typeIs PyProof.Rows.slot_tuple_getitem
  (wpAny_call_entry PyProof.Rows.slot_tuple_getitem ht.typeIs entry_tuple_getitem ?_ (args_tuple_getitem _ _)))
 show wpAny _ _ (Builtin.Tuple.tupleItemsOf (.ref t) >>= _) _ _ s;refine wpAny_bind (tupleItemsOf_ ht ?_);refine wpAny_bind (wpAny_typeOf hTs ?_);rw [if_pos (by decide)]
 refine wpAny_bind (HT.sliceApplied_gen hs pl pu ?_);have hyes:(((HT.sIx items.size 0 lo:Nat):Int) == 0 && (1:Int) == 1 && (HT.sIx items.size items.size hi - HT.sIx items.size 0 lo) == items.size)=true:=by
  rw [hw.1,hw.2]; simp
 show wpAny _ _ (if (((HT.sIx items.size 0 lo:Nat):Int) == 0 && (1:Int) == 1 && (HT.sIx items.size items.size hi - HT.sIx items.size 0 lo) == items.size)=true then _ else _) _ _ s
 rw [if_pos hyes];unfold Builtin.Tuple.tupleIsExact;refine wpAny_bind (wpAny_bind (wpAny_typeOf ht.typeIs (wpAny_pure ?_)));rw [if_pos (by decide)]
 exact wpAny_bind (wpAny_rule (wpAny_pure ⟨_,rfl,wpAny_pure h⟩))
theorem yx:SlR X (λx lo hi H Q=>∃ a xs,x= .ref a/\SqT X.K H a xs/\(HT.sIx xs.length 0 lo=0/\HT.sIx xs.length xs.length hi=xs.length)/\Q (.ref a) H):=by
 intro pins s σ H x v vl vu lo hi sl Q I rx hs pl pu h;obtain ⟨a,xs,rfl,hx,hw,q⟩:=h;obtain rfl:v=Value.ref a:=rx;obtain ⟨its,r,ht,hz⟩:=I.tuple hx;have hlen:its.toArray.size=xs.length:=by rw [List.size_toArray]; exact r.length.symm
 refine ⟨"tuple",_,PyProof.Rows.slot_tuple_getitem.lookup,ht.typeIs, ?_⟩;exact JC ht hs pl pu (by rw [hlen]; exact hw) ⟨.ref a,H,I,rfl,q⟩
theorem VX {xs:List T} {lo hi:Option Int} (h1:HT.sIx xs.length 0 lo=0) (h2:HT.sIx xs.length xs.length hi=xs.length):cut xs lo hi=xs:=by
 unfold cut;rw [h1,h2]; simp
theorem j6 {lo hi:Option Expr} {fl fh:En->R (Option Int)} {p2:Pos} (ha:Snd X Y a fa) (hl:vP X Y lo fl) (hh:vP X Y hi fh):Snd X Y (.Subscript a (.Slice lo hi none p2) pos) (slE fa fl fh):= .mk λρ=>
 PE.imp (Uy (km.or (yx.or VD)) (ha ρ) (hl ρ) (hh ρ)) λσ H Q ⟨B,I,q⟩=>step I q λt v H1 _ s1 r1 I1 q1=>step I1 q1 λl l' H2 _ s2 el I2 q2=>step I2 q2 λh h' H3 _ s3 eh I3 q3=>by
  have el' :l' =l:=el;have eh' :h' =h:=eh;subst el' eh';have r1:=r1.mono ((Za.ge I1.sB s2).trans (Za.ge I2.sB s3));cases r1 with
  | @tup _ xs ts hx r=>
   have q3:Po Y rC _ H3 (.ok (.tup (cut ts l' h'))) Q:=q3
   by_cases hw:HT.sIx xs.length 0 l' =0/\HT.sIx xs.length xs.length h' =xs.length
   ·refine .inr (.inl ⟨_,xs,rfl,SqT.of (I3.sB _ _ hx),hw,po0 I3.sB q3 rfl ?_⟩);rw [r.length] at hw;rw [VX hw.1 hw.2];exact .tup hx r
   ·exact .inl ⟨_,xs,rfl,SqT.of (I3.sB _ _ hx),hw,λp hp=>gh I3.sB q3 rfl (Yx r) hp⟩
  | @lst _ xs ts hx r=>
   have q3:Po Y rC _ H3 (.ok (.lst (cut ts l' h'))) Q:=q3;exact .inr (.inr ⟨_,xs,rfl,SqL.of (I3.sB _ _ hx),λp hp=>Ge I3.sB q3 rfl (Yx r) hp⟩)
  | _=>exact q3.elim
def Yy (t t' :T):R T:=match t,t' with
 | .int i, .int j=> .ok (.int (if j < i then j else i))
 | _,_=> .bad
theorem vQ (hc:X.calm=true) (gl:Gl X "min") (mg:X.mg "min"=none) (ha:Snd X Y a fa) (hb:Snd X Y b fb)
  (hs:starEach [a,b] X.env=[(false,eval a X.env),(false,eval b X.env)]:=by exact st2 rfl rfl) (hs2:starEach [b] X.env=[(false,eval b X.env)]:=by exact st1 rfl):
  Snd X Y (.Call (.Name "min" p) [a,b] [] pos) (ze Yy fa fb):= .mk λρ=>
 PE.imp (jW (Y9 hc) gl mg PyProof.Rows.Boot.«min» (zA (ha ρ) (zA (hb ρ) Zf hs2) (by rw [hs,hs2])) (by decide) (by decide) (by rw [hs,hs2]) (by rw [hs2]; rfl)) λσ H Q ⟨B,I,q⟩=>
  step I q λt v H1 _ s1 r1 I1 q1=>step I1 q1 λt' v' H2 _ s2 r2 I2 q2=>by
   cases r1 with
   | int i=>
    cases r2 with
    | int j=>exact ⟨i,j,rfl,po0 I2.sB q2 rfl (.int _)⟩
    | _=>exact q2.elim
   | _=>cases r2 <;> exact q2.elim
def uU:List T->Option Bool
 | []=>some true
 | .bl k :: r=>match uU r with | some j=>some (k && j) | none=>none
 | _ :: _=>none
def vR:T->R T
 | .lst ts=>match uU ts with | some k=> .ok (.bl k) | none=> .bad
 | _=> .bad
theorem Yz:∀ {H:Hp} {xs:List V} {ts:List T} {its:List Value} {k:Bool},zT H xs ts->Zy xs its->uU ts=some k->∃ tr:Nat->Bool,(∀ i v,its[i]? =some v->v=Value.bool (tr i))/\(List.range its.length).all tr=k
 | _,_,_,_,k, .nil, .nil,h=>by
  have h' :some true=some k:=h;cases h';exact ⟨λ_=>true,λi v e=>by simp at e,rfl⟩
 | H,_,_,_,k, .cons (v:=x) (t:=t) r rs, .cons (b:=u) rv vs,h=>by
  cases r with
  | bl b=>
   unfold uU at h;split at h
   ·rename_i j e;cases h;obtain ⟨tr,h1,h2⟩:=Yz rs vs e;obtain rfl:u=Value.bool b:=rv;refine ⟨λi=>match i with | 0=>b | i+1=>tr i,λi v e=> ?_, ?_⟩
    ·cases i with
     | zero=>simp at e; exact e.symm
     | succ i=>exact h1 i v (by simpa using e)
    ·rw [List.length_cons,List.range_succ_eq_map,List.all_cons,List.all_map,← h2];rfl
   ·cases h
  | _=>cases h
theorem YA (hh:X.A.handled=none):ji X (.builtin "all") (λvs H Q=>∃ l xs ts k,vs=[.ref l]/\H l=some (.lst xs)/\zT H xs ts/\uU ts=some k/\Q (.bl k) H):=by
 intro pins s σ H vs us Q I rv h;obtain ⟨l,xs,ts,k,rfl,hl,r,hk,q⟩:=h;obtain ⟨u,rfl,ru⟩:=jD rv;obtain rfl:u=Value.ref l:=ru;obtain ⟨its,rv,p,_⟩:=Zj I (.inl hl) r;obtain ⟨tr,h1,h2⟩:=Yz r rv hk;refine call_all_walk (wpAny_pyIter_list p ?_);have hlt:l < s.heap.objs.size:=I.hok.lt hl;have old:∀ b o,s.heap.get? b=some o->(s.heap.push { cls:= .type "list_iterator",data:= .fields #[.ref l, .int 0 0] }).get? b=some o:=λb o e=>Heap.get?_push_of_some _ e;refine ⟨s.heap.objs.size,_,_,_,_,_,tr,rfl,Walks.list (A:=X.A.in1) hh s.heap.objs.size l (Nat.ne_of_lt hlt) its.toArray, ?_, ?_,λh' tk hk' => ?_⟩
 ·refine ⟨?_,p.at λo e=>old _ o e⟩;exact ⟨_,Heap.get?_push_size _ rfl,rfl,rfl⟩
 ·intro i v s' Q' E' hi hq;rw [h1 i v (by simpa using hi)]
  exact wpAny_truthy_bool hq
 ·rw [List.size_toArray,h2];refine ⟨.bl k,H,I.kept (t' :=tk) (λb o e=>hk' b o ?_ (old b o e)),rfl,q⟩;simp;exact Nat.ne_of_lt (Heap.lt_size e)
theorem QB (hh:X.A.handled=none) (gl:Gl X "all") (mg:X.mg "all"=none) (ha:Jl X Y a fa) (hs:St1 X a:=by exact st1 rfl):Snd X Y (.Call (.Name "all" p) [a] [] pos) (ap1 vR fa):=
 vO (YA hh) (λv t B H Q r sB q=>by
  cases r with
  | @lst l xs ts h r=>
   have q:Po Y rC B H (match uU ts with | some k=> .ok (.bl k) | none=> .bad) Q:=q
   split at q
   ·rename_i k e;exact ⟨l,xs,ts,k,rfl,h,r,e,po0 sB q rfl (.bl k)⟩
   ·exact q.elim
  | _=>exact q.elim) gl mg PyProof.Rows.Boot.«all» ha hs
end
inductive RS where
 | nx (ρ:En) | rt (t:T) | bk (ρ:En) | ct (ρ:En) | ex (c:Nat) | bad | rf (ts:List T)
def R.s {α:Type} (r:R α) (k:α->RS):RS:=match r with
 | .ok a=>k a
 | .ex c=> .ex c
 | .bad=> .bad
def PoS (Y:Fx) (B:Hp) (r:RS) (D:Qm):Prop:=match r with
 | .nx ρ' =>∀ σ' H' B',zJ B B' ->SI Y B' ρ' σ' H' ->D.nx σ' H'
 | .rt t=>∀ v H',zJ Y.H0 H' ->Rep (Za Y.B0 Y.H0 H') v t->D.rt v H'
 | .bk ρ' =>∀ σ' H' B',zJ B B' ->SI Y B' ρ' σ' H' ->D.bk σ' H'
 | .ct ρ' =>∀ σ' H' B',zJ B B' ->SI Y B' ρ' σ' H' ->D.ct σ' H'
 | .ex c=>XP Y B c
 | .bad=>False
 | .rf ts=>∀ a xs H' B',zJ Y.H0 H' ->Y.H0 a=none->H' a=some (.lst xs)->zT B' xs ts->B' a=none->zJ B' (Za Y.B0 Y.H0 H')->D.rt (.ref a) H'
theorem PoS.up {Y:Fx} {B B' :Hp} {r:RS} {D:Qm} (s:zJ B B') (h:PoS Y B r D):PoS Y B' r D:=by
 cases r with
 | nx ρ=>exact λσ' H' B2 s2 I=>h σ' H' B2 (s.trans s2) I
 | bk ρ=>exact λσ' H' B2 s2 I=>h σ' H' B2 (s.trans s2) I
 | ct ρ=>exact λσ' H' B2 s2 I=>h σ' H' B2 (s.trans s2) I
 | rt t=>exact h
 | rf t=>exact h
 | ex c=>exact λd H' s0 sB=>h d H' s0 (s.trans sB)
 | bad=>exact h
def tSS (Y:Fx) (f:En->RS) (ρ:En):TS:=λD σ H=>∃ B,SI Y B ρ σ H/\PoS Y B (f ρ) D
structure um (X:Cx) (Y:Fx) (e:Stmt) (f:En->RS):Prop where
 mk ::
 go:∀ ρ,PS X e (tSS Y f ρ)
instance {X:Cx} {Y:Fx} {e:Stmt} {f:En->RS}:CoeFun (um X Y e f) λ_=>∀ ρ,PS X e (tSS Y f ρ):=⟨um.go⟩
structure yy (X:Cx) (Y:Fx) (e:List Stmt) (f:En->RS):Prop where
 mk ::
 go:∀ ρ,PSs X e (tSS Y f ρ)
instance {X:Cx} {Y:Fx} {e:List Stmt} {f:En->RS}:CoeFun (yy X Y e f) λ_=>∀ ρ,PSs X e (tSS Y f ρ):=⟨yy.go⟩
theorem Wr {α β:Type} {Y:Fx} {rel:Hp->Hp->β->α->Prop} {f:En->R α} {k:α->RS} {ρ:En} {B:Hp} {σ:Sg} {H:Hp} {D:Qm} {K:β->Hp->Prop}
  (I:SI Y B ρ σ H) (h:PoS Y B ((f ρ).s k) D)
  (n:∀ a b H1,f ρ= .ok a->zJ H H1->rel (Za B H H1) H1 b a->SI Y (Za B H H1) ρ σ H1->PoS Y (Za B H H1) (k a) D->K b H1):tS Y rel f ρ σ H K:=by
 refine ⟨B,I, ?_⟩;cases e:f ρ with
 | bad=>rw [e] at h; exact h
 | ex c=>rw [e] at h; exact h
 | ok a=>
  rw [e] at h;exact λb H1 s r=>n a b H1 e s r (I.grow s) (PoS.up (Za.ge I.sB s) h)
theorem Z0 {α:Type} {xs:List α} {i j:Nat} {x y:α} (h:(xs.set i x)[j]? =some y):(j=i/\y=x)\/(j ≠ i/\xs[j]? =some y):=by
 by_cases e:j=i
 ·subst e
  by_cases hl:j < xs.length
  ·rw [List.getElem?_set_self hl] at h; exact .inl ⟨rfl,(Option.some.inj h).symm⟩
  ·rw [List.getElem?_eq_none (by rw [List.length_set]; omega)] at h; cases h
 ·rw [List.getElem?_set_ne (Ne.symm e)] at h; exact .inr ⟨e,h⟩
theorem YB {α:Type} {xs:List α} {i:Nat} {x y:α} (h:(xs.set i x)[i]? =some y):i < xs.length:=by
 by_cases hl:i < xs.length
 ·exact hl
 ·rw [List.getElem?_eq_none (by rw [List.length_set]; omega)] at h; cases h
theorem SI.setV {Y:Fx} {B:Hp} {ρ:En} {σ:Sg} {H:Hp} (I:SI Y B ρ σ H) (i:Nat) {v:V} {t:T} (r:Rep B v t):SI Y B (ρ.set i (.vl t)) (σ.set i (some v)) H where
 s0:=I.s0
 sH:=I.sH
 sB:=I.sB
 old:=I.old
 len:=by rw [List.length_set,List.length_set]; exact I.len
 vl:=λj u h=>by
  rcases Z0 h with ⟨rfl,e⟩ | ⟨hj,h'⟩
  ·cases e;exact ⟨v,List.getElem?_set_self (by rw [← I.len]; exact YB h),r⟩
  ·obtain ⟨w,e,rr⟩:=I.vl j u h';exact ⟨w,by rw [List.getElem?_set_ne (Ne.symm hj)]; exact e,rr⟩
 ow:=λj us h=>by
  rcases Z0 h with ⟨rfl,e⟩ | ⟨hj,h'⟩
  ·cases e
  ·obtain ⟨a,xs,e,b0,h0,hh,rr,d⟩:=I.ow j us h';refine ⟨a,xs,by rw [List.getElem?_set_ne (Ne.symm hj)]; exact e,b0,h0,hh,rr,λk ws hk hw=> ?_⟩
   rcases Z0 hw with ⟨rfl,e'⟩ | ⟨hk',hw'⟩
   ·cases e'
   ·rw [List.getElem?_set_ne (Ne.symm hk')]; exact d k ws hk hw'
 xc:=λj c h=>by
  rcases Z0 h with ⟨rfl,e⟩ | ⟨hj,h'⟩
  ·cases e
  ·obtain ⟨a,e,r⟩:=I.xc j c h';exact ⟨a,by rw [List.getElem?_set_ne (Ne.symm hj)]; exact e,r⟩
theorem SI.newO {Y:Fx} {B:Hp} {ρ:En} {σ:Sg} {H:Hp} (I:SI Y B ρ σ H) (i:Nat) {p:Addr} {xs:List V} {ts:List T} (hp:H p=none) (r:zT B xs ts):SI Y B (ρ.set i (.ow ts)) (σ.set i (some (.ref p))) (upd H p (.lst xs)) where
 s0:=I.s0
 sH:=I.sH.trans (zJ.new hp _)
 sB:=I.sB.trans (zJ.new hp _)
 old:=I.old
 len:=by rw [List.length_set,List.length_set]; exact I.len
 vl:=λj u h=>by
  rcases Z0 h with ⟨rfl,e⟩ | ⟨hj,h'⟩
  ·cases e
  ·obtain ⟨w,e,rr⟩:=I.vl j u h';exact ⟨w,by rw [List.getElem?_set_ne (Ne.symm hj)]; exact e,rr⟩
 ow:=λj us h=>by
  have op:∀ k ws a,ρ[k]? =some (Sl.ow ws)->σ[k]? =some (some (V.ref a))->a ≠ p:=λk ws a h1 h2=>by
   obtain ⟨a',xs',e,_,_,hh,_⟩:=I.ow k ws h1;rw [e] at h2; cases h2;exact Z3 hh hp
  rcases Z0 h with ⟨rfl,e⟩ | ⟨hj,h'⟩
  ·cases e;refine ⟨p,xs,List.getElem?_set_self (by rw [← I.len]; exact YB h),I.sB.free hp,I.sH.free hp,Zc,r,λk ws hk hw=> ?_⟩
   rcases Z0 hw with ⟨rfl,e'⟩ | ⟨hk',hw'⟩
   ·exact absurd rfl hk
   ·rw [List.getElem?_set_ne (Ne.symm hk')];exact λz=>op k ws p hw' z rfl
  ·obtain ⟨a,xs',e,b0,h0,hh,rr,d⟩:=I.ow j us h';refine ⟨a,xs',by rw [List.getElem?_set_ne (Ne.symm hj)]; exact e,b0,h0,by rw [zD (op j us a h' e)]; exact hh,rr,λk ws hk hw=> ?_⟩
   rcases Z0 hw with ⟨rfl,e'⟩ | ⟨hk',hw'⟩
   ·rw [List.getElem?_set_self (by rw [← I.len]; exact YB hw)]
    intro z;exact op j us a h' e (by injection z with z; injection z with z; injection z with z; exact z.symm)
   ·rw [List.getElem?_set_ne (Ne.symm hk')]; exact d k ws hk hw'
 xc:=λj c h=>by
  rcases Z0 h with ⟨rfl,e⟩ | ⟨hj,h'⟩
  ·cases e
  ·obtain ⟨a,e,r⟩:=I.xc j c h';exact ⟨a,by rw [List.getElem?_set_ne (Ne.symm hj)]; exact e,r⟩
theorem SI.chg {Y:Fx} {B:Hp} {ρ:En} {σ:Sg} {H:Hp} (I:SI Y B ρ σ H) (i:Nat) {p:Addr} {ts us:List T} {ys:List V} (hi:ρ[i]? =some (.ow ts)) (he:σ[i]? =some (some (.ref p))) (r:zT B ys us):SI Y B (ρ.set i (.ow us)) σ (upd H p (.lst ys)):=by
 obtain ⟨p',xs,e,b0,h0,hh,rr,d⟩:=I.ow i ts hi;rw [he] at e;cases e;have nb:∀ b o,B b=some o->b ≠ p:=λb o h z=>by subst z; rw [b0] at h; cases h
 have n0:∀ b o,Y.H0 b=some o->b ≠ p:=λb o h z=>by subst z; rw [h0] at h; cases h
 refine ⟨I.s0,λb o h=>by rw [zD (n0 b o h)]; exact I.sH b o h,λb o h=>by rw [zD (nb b o h)]; exact I.sB b o h,I.old,by rw [List.length_set]; exact I.len,λj u h=> ?_,λj ws h=> ?_,λj c h=> ?_⟩
 rotate_right
 ·rcases Z0 h with ⟨rfl,z⟩ | ⟨hj,h'⟩
  ·cases z
  ·exact I.xc j c h'
 ·rcases Z0 h with ⟨rfl,z⟩ | ⟨hj,h'⟩
  ·cases z
  ·exact I.vl j u h'
 ·rcases Z0 h with ⟨rfl,z⟩ | ⟨hj,h'⟩
  ·cases z;refine ⟨p,ys,he,b0,h0,Zc,r,λk vs hk hw=> ?_⟩;rcases Z0 hw with ⟨rfl,e'⟩ | ⟨hk',hw'⟩
   ·exact absurd rfl hk
   ·exact d k vs hk hw'
  ·obtain ⟨a,xs',e,c0,g0,gg,ss,d'⟩:=I.ow j ws h';have hne:a ≠ p:=λz=>by subst z; exact d j ws hj h' e
   refine ⟨a,xs',e,c0,g0,by rw [zD hne]; exact gg,ss,λk vs hk hw=> ?_⟩
   rcases Z0 hw with ⟨rfl,e'⟩ | ⟨hk',hw'⟩
   ·rw [he]; intro z; injection z with z; injection z with z; injection z with z; exact hne z.symm
   ·exact d' k vs hk hw'
def Jg:Sl->Sl
 | .ow ts=> .vl (.lst ts)
 | x=>x
def frz (ρ:En):En:=ρ.map Jg
theorem SI.up {Y:Fx} {B:Hp} {ρ:En} {σ:Sg} {H:Hp} (I:SI Y B ρ σ H):zJ B (Za B Y.H0 H):=λb o h=>by
 cases q:Y.H0 b with
 | none=>rw [Zk q]; exact I.sB b o h
 | some u=>rw [Zw q]; exact h
theorem SI.frz {Y:Fx} {B:Hp} {ρ:En} {σ:Sg} {H:Hp} (I:SI Y B ρ σ H):SI Y (Za B Y.H0 H) (PV.frz ρ) σ H:=by
 have up:zJ B (Za B Y.H0 H):=λb o h=>by
  cases q:Y.H0 b with
  | none=>rw [Zk q]; exact I.sB b o h
  | some u=>rw [Zw q]; exact h
 refine ⟨I.s0,I.sH,λb o h=> ?_,λb o h=>by rw [Zw h]; exact I.old b o h,by unfold PV.frz; rw [List.length_map]; exact I.len,λj t h=> ?_,λj ts h=> ?_,λj c h=> ?_⟩
 rotate_right
 ·unfold PV.frz at h;rw [List.getElem?_map] at h;cases e:ρ[j]? with
  | none=>rw [e] at h; cases h
  | some x=>
   rw [e] at h;cases x with
   | xc d=>
    cases h;obtain ⟨a,e1,r⟩:=I.xc j _ e;exact ⟨a,e1,up a _ r⟩
   | un=>cases h
   | vl _=>cases h
   | ow _=>cases h
 ·cases q:Y.H0 b with
  | none=>rw [Zk q] at h; exact h
  | some u=>rw [Zw q] at h; exact I.sB b o h
 ·unfold PV.frz at h;rw [List.getElem?_map] at h;cases e:ρ[j]? with
  | none=>rw [e] at h; cases h
  | some x=>
   rw [e] at h;cases x with
   | un=>cases h
   | vl u=>
    cases h;obtain ⟨v,e1,r⟩:=I.vl j _ e;exact ⟨v,e1,r.mono up⟩
   | ow us=>
    cases h;obtain ⟨a,xs,e1,b0,h0,hh,rr,_⟩:=I.ow j us e;exact ⟨.ref a,e1, .lst (by rw [Zk h0]; exact hh) (rr.mono up)⟩
   | xc _=>cases h
 ·unfold PV.frz at h;rw [List.getElem?_map] at h;cases e:ρ[j]? with
  | none=>rw [e] at h; cases h
  | some x=>
   rw [e] at h;cases x with
   | un=>cases h
   | vl u=>cases h
   | ow us=>cases h
   | xc _=>cases h
theorem kC {Y:Fx} {B H H' :Hp} (s0:zJ Y.H0 H) (old:∀ b o,Y.H0 b=some o->B b=Y.B0 b) (s:zJ H H') (sB:zJ B H):zJ (Za B H H') (Za Y.B0 Y.H0 H'):=λb o h=>by
 cases q:H b with
 | none=>
  rw [Zk q] at h;rw [Zk (s0.free q)]; exact h
 | some u=>
  rw [Zw q] at h;cases z:Y.H0 b with
  | none=>rw [Zk z]; exact s b o (sB b o h)
  | some w=>rw [Zw z,← old b w z]; exact h
section
variable {X:Cx} {Y:Fx} {a b c d:Expr} {fa fb fc fd:En->R T} {pos p:Pos} {st:Stmt} {sts sts' :List Stmt} {f g:En->RS}
def nxS:En->RS:=λρ=> .nx ρ
def zv (f g:En->RS):En->RS:=λρ=>match f ρ with
 | .nx ρ' =>g ρ'
 | r=>r
theorem zE:yy X Y [] nxS:= .mk λρ=>PSs.imp Vt λD σ H ⟨B,I,q⟩=>q σ H B (zJ.refl B) I
theorem zl (h:um X Y st f):yy X Y [st] f:= .mk λρ=>Y0 (h ρ)
theorem zg (h1:um X Y st f) (h2:yy X Y sts g):yy X Y (st :: sts) (zv f g):= .mk λρ=>by
 refine PSs.imp (Qo (u:=λD σ H=>∃ ρ',tSS Y g ρ' D σ H) (h1 ρ) ?_) ?_
 ·intro pins s σ H D I ⟨ρ',q⟩;exact h2 ρ' pins s σ H D I q
 ·intro D σ H ⟨B,I,q⟩;refine ⟨B,I, ?_⟩;unfold zv at q;cases e:f ρ with
  | nx ρ' =>
   rw [e] at q;intro σ' H' B' s' I';exact ⟨ρ',B',I',PoS.up s' q⟩
  | rt t=>rw [e] at q; exact q
  | rf t=>rw [e] at q; exact q
  | bk ρ' =>rw [e] at q; exact q
  | ct ρ' =>rw [e] at q; exact q
  | ex c=>rw [e] at q; exact q
  | bad=>rw [e] at q; exact q
def zH (i:Nat) (fa:En->R T):En->RS:=λρ=>(fa ρ).s λt=> .nx (ρ.set i (.vl t))
theorem zN {i:Nat} {x:Str} {p' :Pos} (hN:X.N.Nodup) (hi:X.N[i]? =some x) (hx:L2.Loc X.env.scope x) (ha:Snd X Y a fa) (hs:swapsWith a (some (.Name x p')) pos.line X.env=pure false:=by rfl)
  (hf:X.fn x=true\/X.env.scope.names.lookup x=some .local:=by first | exact .inl rfl | exact .inr rfl | assumption):um X Y (.Assign [.Name x p'] a pos) (zH i fa):= .mk λρ=>
 PS.imp (Uv hN hi hx (ha ρ) hs hf) λD σ H ⟨B,I,q⟩=>Wr I q λt v H1 _ s1 r1 I1 q1=>q1 _ _ _ (zJ.refl _) (I1.setV i r1)
def UD (i:Nat) (ga:En->R (List T)):En->RS:=λρ=>(ga ρ).s λts=>if ts.length<=bnd then .nx (ρ.set i (.ow ts)) else .bad
theorem W9 {i:Nat} {x:Str} {p' :Pos} {es:List Expr} {ga:En->R (List T)} (hN:X.N.Nodup) (hi:X.N[i]? =some x) (hx:L2.Loc X.env.scope x) (ha:U0 X Y es ga) (hs:swapsWith (.List es p) (some (.Name x p')) pos.line X.env=pure false:=by rfl)
  (hf:X.fn x=true\/X.env.scope.names.lookup x=some .local:=by first | exact .inl rfl | exact .inr rfl | assumption):um X Y (.Assign [.Name x p'] (.List es p) pos) (UD i ga):= .mk λρ=>
 PS.imp (Uv hN hi hx (vJ (ha ρ)) hs hf) λD σ H ⟨B,I,q⟩=>Wr I q λts vs H1 _ s1 r1 I1 q1=>by
  split at q1
  ·rename_i hb;exact ⟨by rw [r1.length]; exact jc hb,λp hp=>q1 _ _ _ (zJ.refl _) (I1.newO i hp r1)⟩
  ·exact q1.elim
def zI (fa:En->R T):En->RS:=λρ=>(fa (frz ρ)).s λt=> .rt t
theorem zq (ha:Snd X Y a fa):um X Y (.Return (some a) pos) (zI fa):= .mk λρ=>
 PS.imp (XZ (ha (frz ρ))) λD σ H ⟨B,I,q⟩=>by
  refine ⟨_,I.frz, ?_⟩;unfold zI at q;cases e:fa (frz ρ) with
  | bad=>rw [e] at q; exact q
  | ex c=>
   rw [e] at q;exact λd H' s0 sG=>q d H' s0 (I.up.trans sG)
  | ok t=>
   rw [e] at q;intro v H' s r;have J:=I.frz;exact q v H' (I.sH.trans s) (r.mono (kC J.sH J.old s J.sB))
def ifS (g:En->R Bool) (f1 f2:En->RS):En->RS:=λρ=>(g ρ).s λk=>if k=true then f1 ρ else f2 ρ
theorem zF {ga:En->R Bool} (hc:uS X Y c ga) (h1:yy X Y sts f) (h2:yy X Y sts' g):um X Y (.If c sts sts' pos) (ifS ga f g):= .mk λρ=>
 PS.imp (gT (hc ρ) (h1 ρ) (h2 ρ)) λD σ H ⟨B,I,q⟩=>Wr I q λt v H1 _ s1 r1 I1 q1=>by
  have r1' :v=t:=r1;subst r1';cases v with
  | true=>exact ⟨_,I1,q1⟩
  | false=>exact ⟨_,I1,q1⟩
def wB (fa:En->R T):En->RS:=λρ=>(fa ρ).s λ_=> .nx ρ
theorem UE (ha:Snd X Y a fa) (hs:swapsWith a none pos.line X.env=pure false:=by rfl):um X Y (.Expr a pos) (wB fa):= .mk λρ=>
 PS.imp (uX (ha ρ) hs) λD σ H ⟨B,I,q⟩=>Wr I q λt v H1 _ s1 r1 I1 q1=>q1 _ _ _ (zJ.refl _) I1
def Qg (i:Nat) (fa:En->R T):En->RS:=λρ=>match ρ[i]? with
 | some (.ow ts)=>(fa ρ).s λt=>if ts.length < bnd then .nx (ρ.set i (.ow (ts++[t]))) else .bad
 | _=> .bad
def QC (i:Nat) (fa:En->R T):En->RS:=λρ=>match ρ[i]? with
 | some (.ow ts)=>(fa ρ).s λt=>match t with
  | .lst us=>if ts.length+us.length<=bnd then .nx (ρ.set i (.ow (ts++us))) else .bad
  | _=> .bad
 | _=> .bad
theorem kD {n:Nat} (h:n < bnd):n < sizeLine:=by rw [sizeLine_eq]; exact h
theorem VY {i:Nat} {x:Str} {px pa:Pos} (hv:PE X (.Name x px) (yX i)) (ha:Snd X Y a fa) (hb:attributeBase (.Name x px) "append" X.env (eval (.Name x px) X.env)=eval (.Name x px) X.env:=by rfl) (hs:St1 X a:=by exact st1 rfl)
  (hz:(pa.endLine == p.line)=true:=by rfl) (hw:swapsWith (.Call (.Attribute (.Name x px) "append" pa) [a] [] p) none pos.line X.env=pure false:=by rfl):um X Y (.Expr (.Call (.Attribute (.Name x px) "append" pa) [a] [] p) pos) (Qg i fa):= .mk λρ=>by
 have e1:(((((backTo p (starEach [a] X.env)).all λx=> !x.fst) && (backToKw p (keywordEach [] X.env)).all λx=>x.fst.isSome) && decide (([a].length+([]:List Keyword).length+if ([]:List Keyword).isEmpty=true then 0 else 1) < 30))=true):=by rw [hs]; rfl
 refine PS.imp (uX (ue PySem.F.plainAttrs_list PySem.F.slot_list_append PySem.F.type_list_append uf hv (zA (ha ρ) Zf hs) hb e1 hz hs rfl) hw) λD σ H ⟨B,I,q⟩=> ?_;unfold Qg at q;split at q
 ·rename_i ts e;obtain ⟨l,xs,e1,b0,h0,hh,rr,d⟩:=I.ow i ts e;refine ⟨.ref l,e1, .inl ⟨rfl,_,SqL.of hh⟩, ?_⟩;refine Wr I q λt v H1 _ s1 r1 I1 q1=> ?_;split at q1
  ·rename_i hb;refine ⟨l,xs,v,rfl,rfl,s1 _ _ hh,by rw [rr.length]; exact kD hb, ?_⟩
   exact q1 _ _ _ (zJ.refl _) (I1.chg i e e1 ((rr.mono (Za.ge I.sB s1)).append (.cons r1 .nil)))
  ·exact q1.elim
 ·exact q.elim
theorem QD {i:Nat} {x:Str} {px pa:Pos} (hv:PE X (.Name x px) (yX i)) (ha:Snd X Y a fa) (hb:attributeBase (.Name x px) "extend" X.env (eval (.Name x px) X.env)=eval (.Name x px) X.env:=by rfl) (hs:St1 X a:=by exact st1 rfl)
  (hz:(pa.endLine == p.line)=true:=by rfl) (hw:swapsWith (.Call (.Attribute (.Name x px) "extend" pa) [a] [] p) none pos.line X.env=pure false:=by rfl):um X Y (.Expr (.Call (.Attribute (.Name x px) "extend" pa) [a] [] p) pos) (QC i fa):= .mk λρ=>by
 have e1:(((((backTo p (starEach [a] X.env)).all λx=> !x.fst) && (backToKw p (keywordEach [] X.env)).all λx=>x.fst.isSome) && decide (([a].length+([]:List Keyword).length+if ([]:List Keyword).isEmpty=true then 0 else 1) < 30))=true):=by rw [hs]; rfl
 refine PS.imp (uX (ue PySem.F.plainAttrs_list PySem.F.slot_list_extend PySem.F.type_list_extend Yh hv (zA (ha ρ) Zf hs) hb e1 hz hs rfl) hw) λD σ H ⟨B,I,q⟩=> ?_;unfold QC at q;split at q
 ·rename_i ts e;obtain ⟨l,xs,e1,b0,h0,hh,rr,d⟩:=I.ow i ts e;refine ⟨.ref l,e1, .inl ⟨rfl,_,SqL.of hh⟩, ?_⟩;refine Wr I q λt v H1 _ s1 r1 I1 q1=> ?_;cases r1 with
  | @lst b zs us hb r=>
   have q1:PoS Y _ (if ts.length+us.length<=bnd then .nx (ρ.set i (.ow (ts++us))) else .bad) D:=q1
   split at q1
   ·rename_i hl;refine ⟨l,b,xs,zs,rfl,rfl,s1 _ _ hh,I1.sB _ _ hb,by rw [rr.length,r.length]; exact jc hl, ?_⟩
    exact q1 _ _ _ (zJ.refl _) (I1.chg i e e1 ((rr.mono (Za.ge I.sB s1)).append r))
   ·exact q1.elim
  | _=>exact q1.elim
 ·exact q.elim
end
def spP (cl:Nat->Value) (n:Nat) (g:List T->R T):Sp:=λvs H Q E=>∃ B ts,ts.length=n/\zJ B H/\zT B vs ts/\Po ⟨B,H,E,cl⟩ rC B H (g ts) Q
theorem spP.len {cl:Nat->Value} {n:Nat} {g:List T->R T} (vs:List V) (H:Hp) (Q:VK) (E:XK) (h:spP cl n g vs H Q E):vs.length=n:=by
 obtain ⟨B,ts,hl,_,r,_⟩:=h;rw [r.length,hl]
def zd (n:Nat) (g:List T->R T) (ga:En->R (List T)):En->R T:=λρ=>(ga ρ).bind λts=>if ts.length=n then g ts else .bad
section
variable {X:Cx} {Y:Fx} {a b c d:Expr} {fa fb fc fd:En->R T} {pos p:Pos}
theorem vS {CX:CXT} {k n:Nat} {f:Addr} {fd:FuncData} {ps:List Str} {g:List T->R T} {x:Str} {es:List Expr} {ga:En->R (List T)} (F:Zm X.prog X.w X.K X.mg X.base CX k f fd ps (spP Y.cl n g)) (hr:Jz k X.A) (gl:Gl X x) (mg:X.mg x=some (.ref f))
  (kp:PySem.W.keepIn X.K (.ref f)=true) (bd:L2.Binds X.K fd ps []) (hx:jA CX X Y.E) (ha:U0 X Y (a :: es) ga) (hd:(x == ("__debug__":Str))=false:=by decide)
  (hs:starEach (a :: es) X.env=(false,eval a X.env) :: starEach es X.env:=by exact Zo rfl) (hz:((backTo pos (starEach es X.env)).any λx=>x.fst)=false:=by exact j0 rfl):Snd X Y (.Call (.Name x p) (a :: es) [] pos) (zd n g ga):= .mk λρ=>
 PE.imp (Yd F hr gl mg kp bd .nil hx (ha ρ) hd hs hz) λσ H Q ⟨B,I,q⟩=>step I q λts vs H1 _ s1 r1 I1 q1=>by
  split at q1
  ·rename_i hn;rw [List.append_nil];refine ⟨_,ts,hn,I1.sB,r1, ?_⟩;revert q1;cases g ts with
   | bad=>exact λq1=>q1
   | ex c=>exact λq1 d H' s sB=>q1 d H' (I1.sH.trans s) sB
   | ok t=>exact λq1=>q1
  ·exact q1.elim
end
def zn:RS->R T
 | .rt t=> .ok t
 | .rf ts=> .ok (.lst ts)
 | .nx _=> .ok .non
 | .ex c=> .ex c
 | _=> .bad
def en0 (n:Nat) (ts:List T):En:=ts.map Sl.vl++List.replicate (n - ts.length) Sl.un
theorem zT.vl {H:Hp}:∀ {vs:List V} {ts:List T} {i:Nat} {t:T} {n m:Nat},zT H vs ts->(ts.map Sl.vl++List.replicate n Sl.un)[i]? =some (Sl.vl t)->∃ v:V,(vs.map some++List.replicate m none)[i]? =some (some v)/\Rep H v t
 | _,_,i,t,n,m, .nil,h=>by
  exfalso;simp only [List.map_nil,List.nil_append] at h;rw [List.getElem?_replicate] at h;split at h
  ·cases h
  ·cases h
 | _,_,0,t,n,m, .cons r _,h=>by
  simp at h; subst h; exact ⟨_,rfl,r⟩
 | _,_,i+1,t,n,m, .cons _ q,h=>by
  obtain ⟨v,h1,h2⟩:=zT.vl (i:=i) (t:=t) (n:=n) (m:=m) q (by simpa using h)
  exact ⟨v,by simpa using h1,h2⟩
theorem vT {n:Nat}:∀ {ts:List T} {i:Nat} {us:List T},(ts.map Sl.vl++List.replicate n Sl.un)[i]? =some (Sl.ow us)->False
 | [],i,us,h=>by
  simp only [List.map_nil,List.nil_append] at h;rw [List.getElem?_replicate] at h;split at h
  ·cases h
  ·cases h
 | t :: ts,0,us,h=>by simp at h
 | t :: ts,i+1,us,h=>vT (ts:=ts) (i:=i) (us:=us) (n:=n) (by simpa using h)
theorem vU {n:Nat}:∀ {ts:List T} {i:Nat} {c:Nat},(ts.map Sl.vl++List.replicate n Sl.un)[i]? =some (Sl.xc c)->False
 | [],i,us,h=>by
  simp only [List.map_nil,List.nil_append] at h;rw [List.getElem?_replicate] at h;split at h
  ·cases h
  ·cases h
 | t :: ts,0,us,h=>by simp at h
 | t :: ts,i+1,us,h=>vU (ts:=ts) (i:=i) (c:=us) (n:=n) (by simpa using h)
theorem SI.start {Y:Fx} {N:List Str} {vs:List V} {ts:List T} (s:zJ Y.B0 Y.H0) (r:zT Y.B0 vs ts):SI Y Y.B0 (en0 N.length ts) (L2.start N vs) Y.H0 where
 s0:=s
 sH:=zJ.refl _
 sB:=s
 old:=λ_ _ _=>rfl
 len:=by unfold en0 L2.start; simp [r.length]
 vl:=λi t h=>r.vl h
 ow:=λi ts h=>(vT h).elim
 xc:=λi c h=>(vU h).elim
section
variable {P:Program} {w:World} {K:PySem.W.Frag} {mg:Str->Option Value} {base:Heap}
theorem Zl {cl:Nat->Value} {x qual:Str} {st:Stmt} {f:Addr} {fd:FuncData} {N ps:List Str} {k n:Nat} {fb:En->RS} {g:List T->R T} (F:Fun K x qual st f fd) (S:zp N ps (zf st)) (hn:n=ps.length)
  (hb:∀ (cdv:Value) (A:Around) (outer:List Env) (s:Shared) (H:Hp) (E:XK) (Y:Fx),Y.cl=cl->Jz k (A.deeper (envOfC qual (zf st) s.heap.objs.size f cdv))->
   yy (wo CX0 P w K mg base N qual (zf st) f cdv A outer s H E).nox Y (ZS st) fb)
  (hg:∀ ts,ts.length=n->g ts=zn (fb (en0 N.length ts))):Zm P w K mg base CX0 (k+1) f fd ps (spP cl n g):=by
 subst hn;refine F.ok S spP.len λcdv A outer s H vs Q E hr ⟨B,ts,hl,sB,r,q⟩=> ?_;refine ⟨_,hb cdv A outer s H E ⟨B,H,E,cl⟩ rfl hr (en0 N.length ts),B,SI.start (Y:=⟨B,H,E,cl⟩) sB r, ?_⟩;rw [hg ts hl] at q;revert q;cases fb (en0 N.length ts) with
 | rt t=>exact λq v H' s r=>q v H' s r
 | rf t=>exact λq a xs H' B' s0 n e r _ l=>q (.ref a) H' s0 (.lst (by rw [Zk n]; exact e) (r.mono l))
 | nx ρ=>exact λq σ' H' B' _ I=>q .non H' I.sH .non
 | ex c=>exact λq=>q
 | bk ρ=>exact λq=>q.elim
 | ct ρ=>exact λq=>q.elim
 | bad=>exact λq=>q
end
abbrev rI:Hp->Hp->It->List T->Prop:=λB1 _ J ts=>∀ B2 H2,zJ B1 B2->zJ B2 H2->(∀ i,i < ts.length->J.go i H2)/\(∀ (i:Nat) t x H3,ts[i]? =some t->J.yld i H2 x H3->zJ H2 H3/\Rep (Za B2 H2 H3) x t)/\(∀ i,ts.length<=i->J.stop i H2)
structure yV (X:Cx) (Y:Fx) (tg iter:Expr) (f:En->R (List T)):Prop where
 mk ::
 go:∀ ρ,PI X tg iter (tS Y rI f ρ)
instance {X:Cx} {Y:Fx} {tg iter:Expr} {f:En->R (List T)}:CoeFun (yV X Y tg iter f) λ_=>∀ ρ,PI X tg iter (tS Y rI f ρ):=⟨yV.go⟩
section
variable {X:Cx} {Y:Fx} {a b c d tg:Expr} {fa fb fc fd:En->R T} {pos p:Pos}
theorem PI.imp {e:Expr} {t t' :TI} (h:PI X tg e t) (i:∀ σ H Q,t' σ H Q->t σ H Q):PI X tg e t' :=λpins s σ H Q I q=>h pins s σ H Q I (i σ H Q q)
theorem kE {K:PySem.W.Frag} {B1 H1:Hp} {a:Addr} {xs:List V} {ts:List T} (h:B1 a=some (.tup xs)) (r:zT B1 xs ts):rI B1 H1 (Itt K a) ts:=λB2 H2 s1 s2=>by
 have h2:=s2 _ _ (s1 _ _ h);refine ⟨λi hi=> ?_,λi t x H3 e y=> ?_,λi hi=>⟨xs,SqT.of h2,by rw [r.length]; exact hi⟩⟩
 ·obtain ⟨v,e,_⟩:=r.get (List.getElem?_eq_getElem hi);exact ⟨xs,v,SqT.of h2,e⟩
 ·obtain ⟨rfl,y⟩:=y;obtain ⟨v,e1,r1⟩:=r.get e;have:=y xs (SqT.of h2);rw [e1] at this; cases this;refine ⟨zJ.refl _, ?_⟩;rw [Za.self B2 _ s2];exact r1.mono s1
theorem kF {K:PySem.W.Frag} {B1 H1:Hp} {a:Addr} {xs:List V} {ts:List T} (h:B1 a=some (.lst xs)) (r:zT B1 xs ts):rI B1 H1 (Itl K a) ts:=λB2 H2 s1 s2=>by
 have h2:=s2 _ _ (s1 _ _ h);refine ⟨λi hi=> ?_,λi t x H3 e y=> ?_,λi hi=>⟨xs,SqL.of h2,by rw [r.length]; exact hi⟩⟩
 ·obtain ⟨v,e,_⟩:=r.get (List.getElem?_eq_getElem hi);exact ⟨xs,v,SqL.of h2,e⟩
 ·obtain ⟨rfl,y⟩:=y;obtain ⟨v,e1,r1⟩:=r.get e;have:=y xs (SqL.of h2);rw [e1] at this; cases this;refine ⟨zJ.refl _, ?_⟩;rw [Za.self B2 _ s2];exact r1.mono s1
def rng (lo:Int) (n:Nat):List T:=(List.range n).map λ(i:Nat)=>T.int (lo+(i:Int))
theorem vV {B1 H1:Hp} {lo:Int} {n:Nat}:rI B1 H1 (Itr lo n) (rng lo n):=λB2 H2 s1 s2=>by
 have hl:(rng lo n).length=n:=by unfold rng; simp
 refine ⟨λi hi=>by rw [hl] at hi; exact hi,λi t x H3 e y=> ?_,λi hi=>by rw [hl] at hi; exact hi⟩
 obtain ⟨rfl,rfl⟩:=y;refine ⟨zJ.refl _, ?_⟩;unfold rng at e;rw [List.getElem?_map] at e
 by_cases hi:i < n
 ·rw [List.getElem?_range hi] at e;cases e;exact .int _
 ·rw [List.getElem?_eq_none (by simp; omega)] at e; cases e
def Zu (fa:En->R T):En->R (List T):=λρ=>(fa ρ).bind λt=>match t with
 | .int j=>if -1000000 < j/\j < 1000000 then .ok (rng 0 j.toNat) else .bad
 | _=> .bad
def wX (fa fb:En->R T):En->R (List T):=λρ=>(fa ρ).bind λt=>(fb ρ).bind λt' =>match t,t' with
 | .int i, .int j=>if -1000000 < i/\i < 1000000/\ -1000000 < j/\j < 1000000 then .ok (rng i (j - i).toNat) else .bad
 | _,_=> .bad
theorem Jp (gl:Gl X "range") (mg:X.mg "range"=none) (ha:Snd X Y a fa) (hs:St1 X a:=by exact st1 rfl):yV X Y tg (.Call (.Name "range" p) [a] [] pos) (Zu fa):= .mk λρ=>PI.imp (Y4 gl mg (zA (ha ρ) Zf hs) hs) λσ H R ⟨B,I,q⟩=>step I q λt v H1 _ s1 r1 I1 q1=>by
 cases r1 with
 | int j=>
  have q1:Po Y rI _ H1 (if -1000000 < j/\j < 1000000 then .ok (rng 0 j.toNat) else .bad) R:=q1
  split at q1
  ·rename_i hj;exact ⟨j,rfl,by omega,by omega,j2 I1 q1 vV⟩
  ·exact q1.elim
 | _=>exact q1.elim
theorem kG (gl:Gl X "range") (mg:X.mg "range"=none) (ha:Snd X Y a fa) (hb:Snd X Y b fb) (hs:starEach [a,b] X.env=[(false,eval a X.env),(false,eval b X.env)]:=by exact st2 rfl rfl) (hs2:St1 X b:=by exact st1 rfl):yV X Y tg (.Call (.Name "range" p) [a,b] [] pos) (wX fa fb):= .mk λρ=>
 PI.imp (Y5 gl mg (zA (ha ρ) (zA (hb ρ) Zf hs2) (by rw [hs,hs2])) hs hs2) λσ H R ⟨B,I,q⟩=>step I q λt v H1 _ s1 r1 I1 q1=>step I1 q1 λt' v' H2 _ s2 r2 I2 q2=>by
  cases r1 with
  | int i=>
   cases r2 with
   | int j=>
    have q2:Po Y rI _ H2 (if -1000000 < i/\i < 1000000/\ -1000000 < j/\j < 1000000 then .ok (rng i (j - i).toNat) else .bad) R:=q2
    split at q2
    ·rename_i hj;exact ⟨i,j,rfl,⟨by omega,by omega,by omega,by omega⟩,j2 I2 q2 vV⟩
    ·exact q2.elim
   | _=>exact q2.elim
  | _=>cases r2 <;> exact q2.elim
def Gj (X:Cx) (Y:Fx) (tg:Expr) (g:T->En->R En):Prop:=∃ t:TG,PG X tg t/\∀ B ρ σ H v x Q,SI Y B ρ σ H->Rep B v x->(match g x ρ with | .ok ρ' =>∀ σ',SI Y B ρ' σ' H->Q σ' H | _=>False)->t v σ H Q
def zz (i:Nat):T->En->R En:=λt ρ=> .ok (ρ.set i (.vl t))
theorem jM {i:Nat} {x:Str} (hN:X.N.Nodup) (hi:X.N[i]? =some x) (hx:L2.Loc X.env.scope x) (hf:X.fn x=true\/X.env.scope.names.lookup x=some .local:=by first | exact .inl rfl | exact .inr rfl | assumption):Gj X Y (.Name x pos) (zz i):=
 ⟨u0 i,zK hN hi hx hf,λB ρ σ H v x Q I r q=>q _ (I.setV i r)⟩
def Z1 (i j:Nat):T->En->R En:=λt ρ=>match t with
 | .tup [x,y]=> .ok ((ρ.set i (.vl x)).set j (.vl y))
 | _=> .bad
theorem vW {i j:Nat} {x y:Str} {p' p2:Pos} {k:Nat} (hc:X.calm=true) (hN:X.N.Nodup) (hi:X.N[i]? =some x) (hj:X.N[j]? =some y) (hx:L2.Loc X.env.scope x) (hy:L2.Loc X.env.scope y)
  (hf:X.fn x=true\/X.env.scope.names.lookup x=some .local:=by first | exact .inl rfl | exact .inr rfl | assumption) (hf' :X.fn y=true\/X.env.scope.names.lookup y=some .local:=by first | exact .inl rfl | exact .inr rfl | assumption):
  Gj X Y (.Tuple [.Name x pos, .Name y p'] k p2) (Z1 i j):=by
 refine ⟨gW X.K 2 (Y1 (u0 i) (Y1 (u0 j) gU)),u4 hc (ZT (zK hN hi hx hf) (ZT (zK hN hj hy hf') wn)),λB ρ σ H v t Q I r q=> ?_⟩;cases r with
 | @tup l xs ts h r=>
  cases r with
  | nil=>exact q.elim
  | cons r1 rr=>
   cases rr with
   | nil=>exact q.elim
   | cons r2 rr=>
    cases rr with
    | cons _ _=>exact q.elim
    | nil=>
     exact ⟨l,_,rfl,SqT.of (I.sB _ _ h),rfl,_,_,rfl,_,_,rfl,rfl,q _ ((I.setV i r1).setV j r2)⟩
 | _=>exact q.elim
def ZI (g:T->En->R En) (fb:En->RS):List T->En->RS
 | [],ρ=> .nx ρ
 | t :: ts,ρ=>match g t ρ with
  | .ok ρ1=>match fb ρ1 with
   | .nx ρ2=>ZI g fb ts ρ2
   | .ct ρ2=>ZI g fb ts ρ2
   | .bk ρ2=> .nx ρ2
   | r=>r
  | .ex c=> .bad
  | .bad=> .bad
def jx (fi:En->R (List T)) (g:T->En->R En) (fb:En->RS):En->RS:=λρ=>(fi ρ).s λts=>ZI g fb ts ρ
theorem JD {iter:Expr} {sts:List Stmt} {fi:En->R (List T)} {g:T->En->R En} {fb:En->RS} (hp:PassesOwn (model X.prog X.w) X.A X.env X.xe) (hc:X.calm=true) (hi:yV X Y tg iter fi) (hg:Gj X Y tg g) (hb:yy X Y sts fb)
  (hs:∀ x,foldedSetIterable iter X.env x=pure x:=by intro _; rfl):um X Y (.For tg iter sts [] pos) (jx fi g fb):= .mk λρ=>by
 obtain ⟨tG,hG,hG'⟩:=hg;refine PS.imp (k7 (tb:=λD σ H=>∃ ρ',tSS Y fb ρ' D σ H) hp hc (hi ρ) hG (λpins s σ H D I ⟨ρ',q⟩=>hb ρ' pins s σ H D I q) hs) λD σ H ⟨B,I,q⟩=> ?_;refine Wr I q λts J H1 _ s1 r1 I1 q1=> ?_;refine ⟨λi m σ' H' =>m=ts.length - i/\i<=ts.length/\∃ ρ' B',SI Y B' ρ' σ' H' /\zJ (Za B H H1) B' /\PoS Y B' (ZI g fb (ts.drop i) ρ') D,⟨ts.length,by simp,Nat.zero_le _,ρ,_,I1,zJ.refl _,q1⟩, ?_⟩
 rintro i m σ' H' ⟨rfl,hi,ρ',B',I',sB',q'⟩
 obtain ⟨hgo,hyld,hstop⟩:=r1 B' H' sB' I'.sB
 by_cases hlt:i < ts.length
 ·refine .inr ⟨hgo i hlt,λσ2 H2=>∃ ρ2 B2,SI Y B2 ρ2 σ2 H2/\zJ (Za B H H1) B2/\PoS Y B2 (ZI g fb (ts.drop (i+1)) ρ2) D,λσ2 H2 ⟨ρ2,B2,I2,s2,q2⟩=>⟨ts.length - (i+1),by omega,rfl,hlt,ρ2,B2,I2,s2,q2⟩,λx H2 y=> ?_⟩
  obtain ⟨s2,r2⟩:=hyld i _ x H2 (List.getElem?_eq_getElem hlt) y;rw [List.drop_eq_getElem_cons hlt] at q';unfold ZI at q';refine hG' _ ρ' σ' H2 x _ _ (I'.grow s2) r2 ?_;cases eg:g ts[i] ρ' with
  | bad=>rw [eg] at q'; exact q'
  | ex c=>rw [eg] at q'; exact q'
  | ok ρ1=>
   rw [eg] at q';intro σ1 J1;refine ⟨ρ1,_,J1, ?_⟩;have q2:=PoS.up (Za.ge I'.sB s2) q';dsimp only at q2;have s3:zJ (Za B H H1) (Za B' H' H2):=sB'.trans (Za.ge I'.sB s2);revert q2;cases fb ρ1 with
   | nx ρ2=>exact λq2 σ3 H3 B3 s4 I3=>⟨ρ2,B3,I3,s3.trans s4,PoS.up s4 q2⟩
   | ct ρ2=>exact λq2 σ3 H3 B3 s4 I3=>⟨ρ2,B3,I3,s3.trans s4,PoS.up s4 q2⟩
   | bk ρ2=>exact λq2=>q2
   | rt t=>exact λq2=>q2
   | rf t=>exact λq2=>q2
   | ex c=>exact λq2=>q2
   | bad=>exact λq2=>q2
 ·have e:i=ts.length:=by omega
  subst e;rw [List.drop_length] at q';exact .inl ⟨hstop _ (Nat.le_refl _),q' σ' H' B' (zJ.refl _) I'⟩
end
theorem wC {env:Env}:∀ (ns:List (Str×NameKind)) (acc:List (Str×Addr)),(∀ x∈ns,x.2=NameKind.free->∃ c,env.cells.lookup x.1=some c)->(∀ x c,acc.lookup x=some c->env.cells.lookup x=some c)->
  ∃ cl,(forIn ns acc (λ(x:Str×NameKind) (r:List (Str×Addr))=>if (x.2 == NameKind.free)=true then (do let c ← cellOf env x.1; pure (ForInStep.yield ((x.1,c) :: r))) else pure (ForInStep.yield r)):Sem _)=pure cl/\
   (∀ x c,cl.lookup x=some c->env.cells.lookup x=some c)/\(∀ x c,acc.lookup x=some c->∃ c',cl.lookup x=some c')/\(∀ x∈ns,x.2=NameKind.free->∃ c,cl.lookup x.1=some c)
 | [],acc,_,h=>⟨acc,rfl,h,λx c e=>⟨c,e⟩,λx hx=>by simp at hx⟩
 | (n,k) :: ns,acc,hf,h=>by
  by_cases hk:k=NameKind.free
  ·obtain ⟨c,hc⟩:=hf (n,k) List.mem_cons_self hk;have h' :∀ x d,((n,c) :: acc).lookup x=some d->env.cells.lookup x=some d:=λx d e=>by
    by_cases hx:x=n
    ·subst hx;have e' :some c=some d:=by simpa [List.lookup_cons] using e
     cases e'; exact hc
    ·have e' :acc.lookup x=some d:=by
      rw [List.lookup_cons,(beq_eq_false_iff_ne.mpr hx)] at e; exact e
     exact h x d e'
   obtain ⟨cl,e,h1,h2,h3⟩:=wC ns ((n,c) :: acc) (λx hx=>hf x (List.mem_cons_of_mem _ hx)) h';refine ⟨cl, ?_,h1,λx d ed=> ?_,λx hx hxf=> ?_⟩
   ·rw [List.forIn_cons];subst hk;have q:cellOf env n=pure c:=by unfold cellOf; rw [hc]
    simp only [beq_self_eq_true,if_true,q];exact e
   ·by_cases hx:x=n
    ·subst hx; exact h2 x c (by simp [List.lookup_cons])
    ·exact h2 x d (by rw [List.lookup_cons,(beq_eq_false_iff_ne.mpr hx)]; exact ed)
   ·rcases List.mem_cons.mp hx with rfl | hx
    ·exact h2 n c (by simp [List.lookup_cons])
    ·exact h3 x hx hxf
  ·obtain ⟨cl,e,h1,h2,h3⟩:=wC ns acc (λx hx=>hf x (List.mem_cons_of_mem _ hx)) h;refine ⟨cl, ?_,h1,h2,λx hx hxf=> ?_⟩
   ·rw [List.forIn_cons];have q:(k == NameKind.free)=false:=by simpa using hk
    simp only [q,Bool.false_eq_true,if_false];exact e
   ·rcases List.mem_cons.mp hx with rfl | hx
    ·exact absurd hxf hk
    ·exact h3 x hx hxf
theorem VZ {scope:Scope} {env:Env} (hf:∀ x∈scope.names,x.2=NameKind.free->∃ c,env.cells.lookup x.1=some c):
  ∃ cl,closureFor scope env=pure cl/\(∀ x c,cl.lookup x=some c->env.cells.lookup x=some c)/\(∀ x∈scope.names,x.2=NameKind.free->∃ c,cl.lookup x.1=some c):=by
 obtain ⟨cl,e,h1,_,h3⟩:=wC scope.names [] hf (λx c e=>by simp at e)
 refine ⟨cl, ?_,h1,h3⟩;unfold closureFor;show (do let cs ← _; pure cs)=_
 exact (by simpa using e)
def cxC (X:Cx) (scope:Scope) (N' :List Str) (cl:List (Str×Addr)) (C:Addr) (s3:Shared) (H3:Hp) (fp:List Addr) (pins:List (Addr×Obj)):Cx:=
 { X with N:=N',s₀:=s3,H₀:=H3,env:=compEnvC scope cl C X.env,outer:=X.stack,stack:=X.stack,ex:=fp,fn:=λ_=>false,pn:=X.pn++pins,xe:=λ_ _=>False }
structure CSc (X:Cx) (scope:Scope):Prop where
 kind:scope.kind= .function
 nocell:∀ x∈scope.names,x.2 ≠ .cell
 loc:∀ x∈scope.names,x.2= .local->scope.names.lookup x.1=some .local
 fre:∀ x∈scope.names,x.2= .free->X.env.kindOf x.1=some .cell\/X.env.kindOf x.1=some .free
theorem Jq {scope:Scope} {env:Env} {x:Str} {k:NameKind} (h:(relabel scope env).names.lookup x=some k) (hk:k= .cell\/k= .free) (hn:∀ x∈scope.names,x.2 ≠ NameKind.cell):∃ y∈scope.names,y.1=x/\y.2= .free:=by
 have go:∀ ns:List (Str×NameKind),(∀ x∈ns,x.2 ≠ NameKind.cell)->(ns.map λ(n,k)=>if (k == NameKind.free && env.scope.kind == .function && env.kindOf n == some .cell) then (n,NameKind.cell) else (n,k)).lookup x=some k->∃ y∈ns,y.1=x/\y.2= .free:=by
  intro ns
  induction ns with
  | nil=>intro _ h; simp at h
  | cons y ns ih=>
   intro hn h;obtain ⟨n,k'⟩:=y
   by_cases hx:x=n
   ·subst hx;refine ⟨(x,k'),List.mem_cons_self,rfl, ?_⟩;rw [List.map_cons] at h
    by_cases hc:(k' == NameKind.free && env.scope.kind == .function && env.kindOf x == some .cell)=true
    ·rw [Bool.and_eq_true,Bool.and_eq_true] at hc;exact eq_of_beq hc.1.1
    ·simp only [if_neg hc,List.lookup_cons,beq_self_eq_true] at h;cases h;rcases hk with rfl | rfl
     ·exact absurd rfl (hn _ List.mem_cons_self)
     ·rfl
   ·obtain ⟨z,hz,h1,h2⟩:=ih (λz hz=>hn z (List.mem_cons_of_mem _ hz)) (by
     rw [List.map_cons] at h
     by_cases hc:(k' == NameKind.free && env.scope.kind == .function && env.kindOf n == some .cell)=true
     ·simp only [if_pos hc,List.lookup_cons,(beq_eq_false_iff_ne.mpr hx)] at h; exact h
     ·simp only [if_neg hc,List.lookup_cons,(beq_eq_false_iff_ne.mpr hx)] at h; exact h)
    exact ⟨z,List.mem_cons_of_mem _ hz,h1,h2⟩
 exact go scope.names hn h
section
variable {X:Cx} {pins:List (Addr×Obj)} {σ:Sg} {H:Hp} {s:Shared}
theorem YC {scope:Scope} {N' :List Str} {cl:List (Str×Addr)} {fp:List Addr} {h' :Heap} {tk:Nat} {σ' :Sg} (I:L2.Inv X pins σ H s) (S:CSc X scope) (hc:X.calm=true)
  (hcl:∀ x c,cl.lookup x=some c->X.env.cells.lookup x=some c) (hcf:∀ x∈scope.names,x.2=NameKind.free->∃ c,cl.lookup x.1=some c)
  (hfp:∀ b∈fp,u5 X pins H b) (hfo:∀ b∈fp,∃ o,s.heap.get? b=some o)
  (hns:h'.Ns s.heap.objs.size (λ_=>none)) (hk:∀ b o,s.heap.get? b=some o->h'.get? b=some o)
  (hl:σ'.length=N'.length) (hσ:∀ (i:Nat) (x:Str) (v:V),N'[i]? =some x->σ'[i]? =some (some v)->∃ j:Nat,X.N[j]? =some x/\σ[j]? =some (some v)/\Vis X.env.scope x/\(scope.names.lookup x=some .free)/\(X.env.kindOf x=some .cell\/X.env.kindOf x=some .free)):
  L2.Inv (cxC X scope N' cl s.heap.objs.size s H fp pins) [] σ' H { s with heap:=h',toks:=tk }:=by
 have stk:=I.stkSub;have hlt:∀ b∈fp,b < s.heap.objs.size:=λb hb=>let ⟨o,e⟩:=hfo b hb; Heap.lt_size e;have fresh:H s.heap.objs.size=none:=I.hok.fresh (Nat.le_refl _);refine ⟨⟨I.ok.mod,S.kind,I.ok.glob,I.ok.blt,Nat.le_refl _,λx y c h1 h2=>I.ok.inj x y c (hcl _ _ h1) (hcl _ _ h2),λx hx=> ?_,λx c h _=>(Bool.false_ne_true h).elim,λ_=>I.ok.hd hc,I.ok.frames, .inl rfl,λb hb=> ?_,I.bs,
   Nat.le_trans I.ok.bsz I.sz,λb o e hb=> ?_,λb hb hb' => ?_,I.stack,I.stkFree⟩,rfl,I.bare,Un.kept hk,⟨_,hns,λi x v h1 h2 h3=> ?_⟩,λx c e=> ?_,fresh,λx c e=>I.freeC x c (hcl _ _ e),λp hp=> ?_,I.hok.kept hk,hl⟩
 ·have hx' :(relabel scope X.env).names.lookup x=some .cell\/(relabel scope X.env).names.lookup x=some .free:=hx;obtain ⟨y,hy,rfl,hyf⟩:∃ y∈scope.names,y.1=x/\y.2= .free:=by
   rcases hx' with h | h
   ·exact Jq h (.inl rfl) S.nocell
   ·exact Jq h (.inr rfl) S.nocell
  exact hcf y hy hyf
 ·refine ⟨Nat.ne_of_lt (hlt b hb),λx c e=>(hfp b hb).2.2.2.2.1 x c (hcl _ _ e)⟩
 ·rcases (hfp b hb).2.2.2.1 with h | h
  ·exact I.ok.noex b o e h
  ·exact absurd (Nat.lt_of_lt_of_le (Heap.lt_size e) (Nat.le_trans I.ok.bsz h)) (Nat.lt_irrefl _)
 ·have q:=hfp b hb;rcases List.mem_cons.mp (stk b hb') with z | z
  ·exact q.2.1 z
  ·exact q.2.2.1 z
 ·obtain ⟨j,e1,e2,e3,e4,e5⟩:=hσ i x v h1 h2;obtain ⟨m,hn,hloc⟩:=I.loc;obtain ⟨u,ru,lk⟩:=hloc j x v e1 e2 e3;refine ⟨u,ru, .inr ⟨?_, ?_⟩⟩
  ·have h3:Vis (relabel scope X.env) x:=h3;rcases h3 with h | h | h
   ·exfalso;have:∀ ns:List (Str×NameKind),ns.lookup x=some .free->(ns.map λ(n,k)=>if (k == NameKind.free && X.env.scope.kind == .function && X.env.kindOf n == some .cell) then (n,NameKind.cell) else (n,k)).lookup x ≠ some .local:=by
     intro ns
     induction ns with
     | nil=>intro z; simp at z
     | cons y ns ih=>
      obtain ⟨n,k⟩:=y;intro z w;rw [List.map_cons] at w
      by_cases hx:x=n
      ·subst hx;have hkf:some k=some NameKind.free:=by simpa [List.lookup_cons] using z
       by_cases hcn:(k == NameKind.free && X.env.scope.kind == .function && X.env.kindOf x == some .cell)=true
       ·simp only [if_pos hcn,List.lookup_cons,beq_self_eq_true] at w; cases w
       ·simp only [if_neg hcn,List.lookup_cons,beq_self_eq_true] at w;rw [hkf] at w; cases w
      ·have z' :ns.lookup x=some .free:=by rw [List.lookup_cons,(beq_eq_false_iff_ne.mpr hx)] at z; exact z
       refine ih z' ?_
       by_cases hcn:(k == NameKind.free && X.env.scope.kind == .function && X.env.kindOf n == some .cell)=true
       ·simp only [if_pos hcn,List.lookup_cons,(beq_eq_false_iff_ne.mpr hx)] at w; exact w
       ·simp only [if_neg hcn,List.lookup_cons,(beq_eq_false_iff_ne.mpr hx)] at w; exact w
    exact this _ e4 h
   ·exact .inl h
   ·exact .inr h
  ·rcases lk with ⟨hk',_⟩ | ⟨_,c,hc',hcell⟩
   ·rcases e5 with z | z <;> (rw [z] at hk'; cases hk')
   ·obtain ⟨c',hc2⟩:=hcf (x, .free) (PySem.mem_of_lookup e4) rfl;have:=hcl x c' hc2;rw [hc'] at this; cases this;obtain ⟨o,eo,ed⟩:=hcell;exact ⟨c,hc2,o,hk _ _ eo,ed⟩
 ·obtain ⟨v,o,eo,ed⟩:=I.cell x c (hcl _ _ e);exact ⟨v,o,hk _ _ eo,ed⟩
 ·have hp' :p∈X.pn++pins:=by
   have:p∈(X.pn++pins)++[]:=hp;rwa [List.append_nil] at this
  obtain ⟨e,n,ne,nf,dc⟩:=I.pin p hp';refine ⟨hk _ _ e,n,Nat.ne_of_lt (Heap.lt_size e),λhb=> ?_,dc⟩;rcases List.mem_cons.mp (stk _ hb) with z | z
  ·exact ne z
  ·exact nf z
end
def PIf (X:Cx) (ifs:List Expr) (t:TT):Prop:=
 ∀ (pins:List (Addr×Obj)) (s:Shared) (σ:Sg) (H:Hp) (Q:Bool->Hp->Prop),L2.Inv X pins σ H s->t σ H Q->
  wpAny (model X.prog X.w) X.A (forIn ifs true λc r=>if r=true then do let ok ← isTrue c X.env (eval c X.env); pure (ForInStep.yield ok) else pure (ForInStep.yield r)) (TP X pins σ Q) X.xe s
theorem x6 {X:Cx}:PIf X [] (λ_ H Q=>Q true H):=λ_ _ σ H _ I h=>wpAny_tests_nil ⟨H,I,h⟩
theorem x8 {X:Cx} {c:Expr} {t:TT} (h:PT X c t):PIf X [c] t:=λpins s σ H Q I q=>wpAny_tests_one (h pins s σ H Q I q)
abbrev XE (X:Cx) (xe:Value->Shared->Prop):Cx:={ X with xe:=xe }
theorem UF {X:Cx} {pins:List (Addr×Obj)} {σ:Sg} {H:Hp} {s:Shared} {xe:Value->Shared->Prop} (I:L2.Inv X pins σ H s):L2.Inv (XE X xe) pins σ H s:=
 ⟨⟨I.ok.mod,I.ok.kind,I.ok.glob,I.ok.blt,I.ok.above,I.ok.inj,I.ok.has,I.ok.cab,I.ok.hd,I.ok.frames,I.ok.stk,I.ok.exf,I.ok.bs,I.ok.bsz,I.ok.noex,I.ok.exfs,I.ok.funs,I.ok.frf⟩,I.os,I.bare,I.base,I.loc,I.cell,I.free,I.freeC,I.pin,I.hok,I.len⟩
theorem YD {X:Cx} {pins:List (Addr×Obj)} {σ:Sg} {H:Hp} {s:Shared} {xe:Value->Shared->Prop} (I:L2.Inv (XE X xe) pins σ H s):L2.Inv X pins σ H s:=(UF I:L2.Inv (XE (XE X xe) X.xe) pins σ H s)
theorem Gk {X:Cx} {e:Expr} {t:TG} {xe:Value->Shared->Prop} (hx:X.xe=λ_ _=>False) (h:PG X e t):PG (XE X xe) e t:=λpins s σ H v u Q I r q=>wpAny_mono (h pins s σ H v u Q (YD I) r q) (λ_ s' ⟨σ',H',I',q'⟩=>⟨σ',H',UF I',q'⟩) λe s' z=>by rw [hx] at z; exact z.elim
theorem kH {X:Cx} {e:List Expr} {t:TT} {xe:Value->Shared->Prop} (hx:X.xe=λ_ _=>False) (h:PIf X e t):PIf (XE X xe) e t:=λpins s σ H Q I q=>wpAny_mono (h pins s σ H Q (YD I) q) (λ_ s' ⟨H',I',q'⟩=>⟨H',UF I',q'⟩) λe s' z=>by rw [hx] at z; exact z.elim
theorem UG {α:Type} {M:Model} {A:Around} {m:Sem α} {Q:α->Shared->Prop} {E E' :Value->Shared->Prop} {s:Shared} (hE:∀ e s',E' e s' ->E e s') (h:wpAny M A m Q E' s):wpAny M A m Q E s:=wpAny_mono h (λ_ _ q=>q) hE
def QE (J:It) (D:Addr) (g:TG) (tt:TT) (te:TE) (fin:Sg->Hp->Prop) (W:Nat->Nat->List V->Sg->Hp->Prop):Prop:=
 ∀ i m ys σ H,W i m ys σ H->H D=some (.lst ys)/\((J.stop i H/\fin σ H)\/(J.go i H/\∀ x H2,J.yld i H x H2->g x σ H2 λσ3 H3=>tt σ3 H3 λk H4=>
  if k=true then te σ3 H4 λv H5=>H5 D=some (.lst ys)/\ys.length < sizeLine/\∃ m',m' < m/\W (i+1) m' (ys++[v]) σ3 (upd H5 D (.lst (ys++[v]))) else ∃ m',m' < m/\W (i+1) m' ys σ3 H4))
theorem YE {X:Cx} {R:Result->Shared->Prop} (hx:∀ e s',X.xe e s' ->notedBy (model X.prog X.w) X.A X.env (λe s' =>R (.error e) s') e s') (hc:X.calm=true) {tg iter elt:Expr} {ifs:List Expr} {scope:Scope} {pos:Pos} {J:It} {fp:List Addr} {it:Addr} {tn:Nat->Heap->Prop} (TJ:Y2 X.prog X.w X.K tg J fp it tn)
  {g:TG} {tt:TT} {te:TE} (hg:PG X tg g) (ht:PIf X ifs tt) (he:PE X elt te) {D:Addr} {fin:Sg->Hp->Prop} (W:Nat->Nat->List V->Sg->Hp->Prop) (turn:QE J D g tt te fin W)
  (hR:∀ s σ H,L2.Inv X [] σ H s->fin σ H->R (.ok .next) s) {m0:Nat} {σ0:Sg} {H0:Hp} {s0:Shared} (w0:W 0 m0 [] σ0 H0) (I0:L2.Inv X [] σ0 H0 s0) (t0:tn 0 s0.heap) (f0:∀ b∈fp,u5 X [] H0 b):
  codeAny (model X.prog X.w) X.A (.compLoop (.ListComp elt [⟨tg,iter,ifs,0⟩] scope pos) 0 (.ref it) (.ref D) X.env) R s0:=by
 have stat:∀ {H' :Hp},(∀ b∈fp,H' b=none)->∀ b∈fp,u5 X [] H' b:=λhn b hb=>⟨hn b hb,(f0 b hb).2⟩;refine codeAny_loop rfl (λn s' =>∃ i ys σ' H',L2.Inv X [] σ' H' s' /\tn i s'.heap/\(∀ b∈fp,H' b=none)/\W i n ys σ' H') (λn s3 h3=> ?_) m0 ⟨0,[],σ0,H0,I0,t0,λb hb=>(f0 b hb).1,w0⟩;obtain ⟨i,ys,σ3,H3,I3,st3,fr3,w3⟩:=h3;show wpAny _ X.A ((compTurn (.ListComp elt [⟨tg,iter,ifs,0⟩] scope pos) 0 (.ref it) (.ref D) X.env).onRaise (λx=>do noteFrame x X.env; theTreesLotGoes x)) _ _ s3
 refine wpAny_noted ?_;rw [compTurn_list];obtain ⟨hD,h⟩:=turn i n ys σ3 H3 w3;rcases h with ⟨stop,qn⟩ | ⟨go,next⟩
 ·refine wpAny_bind (wpAny_standAt (wpAny_bind (thn (TJ.done X rfl rfl rfl hc i [] s3 σ3 H3 _ I3 (stat fr3) st3 stop) λr s4 ⟨hr,I4⟩=> ?_)));subst hr;exact wpAny_pure (hR s4 σ3 H3 I4 qn)
 ·refine wpAny_bind (wpAny_standAt (wpAny_bind (thn (TJ.item X rfl rfl rfl hc i [] s3 σ3 H3 _ I3 (stat fr3) st3 go) λr s4 ⟨u,hr,h4⟩=> ?_)));subst hr;refine wpAny_bind (thn h4 λ_ s5 ⟨x,H5,I5,r5,y5,st5,fr5⟩=> ?_);have I5' :=I5.pinned (stat fr5) (TJ.obj _ _ st5);refine wpAny_bind (UG hx (thn (hg _ s5 σ3 H5 x u _ I5' r5 (next x H5 y5)) λ_ s6 ⟨σ6,H6,I6,q6⟩=> ?_));have again:∀ {σ7:Sg} {H7:Hp} {s7:Shared} {ys' :List V},L2.Inv X ([]++u6 fp s5.heap) σ7 H7 s7->(∃ m',m' < n/\W (i+1) m' ys' σ7 H7)->∃ m,m < n/\∃ i ys σ' H',L2.Inv X [] σ' H' s7/\tn i s7.heap/\(∀ b∈fp,H' b=none)/\W i m ys σ' H' :=λ{σ7 H7 s7 ys'} I7 ⟨m',hm,w7⟩=>by
   refine ⟨m',hm,i+1,ys',σ7,H7,I7.unpinned,TJ.keep _ _ _ st5 λb hb o e=>(I7.pin (b,o) (List.mem_append_right _ (List.mem_append_right _ (jV hb e)))).1,λb hb=> ?_,w7⟩;obtain ⟨o,e,d⟩:=TJ.obj _ _ st5 b hb;exact (I7.pin (b,o) (List.mem_append_right _ (List.mem_append_right _ (jV hb e)))).2.1
  refine wpAny_bind (UG hx (thn (ht _ s6 σ6 H6 _ I6 q6) λk s7 ⟨H7,I7,q7⟩=> ?_));cases k with
  | false=>exact wpAny_pure ⟨rfl,again I7 q7⟩
  | true=>
   refine wpAny_bind (wpAny_bind (UG hx (thn (he _ s7 σ6 H7 _ I7 q7) λv s8 ⟨y,H8,I8,r8,hD8,hlen,q8⟩=> ?_)));refine wpAny_bind (UG hx (thn (uf _ s8 σ6 H8 (.ref D) [y] (.ref D) [v] (λ_ H9=>∃ m',m' < n/\W (i+1) m' (ys++[y]) σ6 H9) I8 rfl (.cons r8 .nil) ⟨D,ys,y,rfl,rfl,hD8,hlen,q8⟩) λw s9 ⟨_,H9,I9,_,q9⟩=> ?_));exact wpAny_pure (wpAny_pure ⟨rfl,again I9 q9⟩)
def QF (k:Nat) (js:List Nat) (σ:Sg):Sg:=List.replicate k none++js.map λj=>(σ[j]?).getD none
section
variable {X:Cx}
abbrev Xy (X:Cx) (scope:Scope) (N' :List Str) (P:Cx->Prop):Prop:=∀ cl C s3 H3 fp pins,P (cxC X scope N' cl C s3 H3 fp pins)
abbrev Gm (X:Cx) (scope:Scope) (N' :List Str) (E:XK) (P:Cx->Prop):Prop:=∀ cl C s3 H3 fp pins xe,jA (CX1 X.prog X.w) (XE (cxC X scope N' cl C s3 H3 fp pins) xe) E->P (XE (cxC X scope N' cl C s3 H3 fp pins) xe)
structure Gn (X:Cx) (scope:Scope) (N' :List Str) (k:Nat) (js:List Nat):Prop where
 len:N'.length=k+js.length
 cap:∀ (i j:Nat),js[i]? =some j->∃ x,N'[k+i]? =some x/\X.N[j]? =some x/\Vis X.env.scope x/\scope.names.lookup x=some .free/\(X.env.kindOf x=some .cell\/X.env.kindOf x=some .free)
theorem Ws {E:XK} (hp:Qw X E) {tg iter elt:Expr} {ifs:List Expr} {scope:Scope} {pos pos' :Pos} {N' :List Str} {k:Nat} {js:List Nat} {wi:TI} {g:TG} {tt:TT} {te:TE} {use:Option (Value->Sem Unit)} (S:CSc X scope) (CP:Gn X scope N' k js) (hc:X.calm=true)
  (hi:PI X tg iter wi) (hg:Xy X scope N' λXC=>PG XC tg g) (ht:Xy X scope N' λXC=>PIf XC ifs tt) (he:Gm X scope N' E λXC=>PE XC elt te) {pins:List (Addr×Obj)} {σ:Sg} {H:Hp} {s:Shared} {Q:Value->Shared->Prop} {F:Addr->Hp->Prop} (I:L2.Inv X pins σ H s)
  (h:wi σ H λJ H1=>∀ D,H1 D=none->∃ W,(∃ m,W 0 m [] (QF k js σ) (upd H1 D (.lst [])))/\QE J D g tt te (λ_ H' =>F D H') W)
  (hQ:∀ D C H' s',L2.Inv X pins σ H' s' ->F D H' ->H' C=none->(X.s₀.heap.objs.size<=C)->C ≠ X.env.locals->(∀ x c,X.env.cells.lookup x=some c->c ≠ C)->(∀ p∈X.pn++pins,p.1 ≠ C)->(∃ m,s'.heap.Ns C m)->compPost (model X.prog X.w) X.A X.xe use Q (.ref D) C (.ok .next) s')
  (hs:∀ x,foldedSetIterable iter X.env x=pure x:=by intro _; rfl):
  wpAny (model X.prog X.w) X.A (comprehension (.ListComp elt [⟨tg,iter,ifs,0⟩] scope pos) scope X.env pos' (newList []) false (eval iter X.env) use) Q X.xe s:=by
 obtain ⟨cl,ecl,hcl,hcf⟩:=VZ (scope:=scope) (env:=X.env) λx hx hf=>I.ok.has x.1 (S.fre x hx hf);refine wpAny_comprehension_free rfl hs ecl S.kind S.loc ?_;refine thn (hi pins s σ H _ I h) λv s1 h1=>thn h1 λitv s2 h2=> ?_;obtain ⟨it,fp,tn,J,H2,e,I2,TJ,st2,f2,q2⟩:=h2;subst e;refine wpAny_newObj_type ?_;have hD:H2 s2.heap.objs.size=none:=I2.hok.fresh (Nat.le_refl _);have I3:L2.Inv X pins σ (upd H2 s2.heap.objs.size (.lst [])) { s2 with heap:=s2.heap.push { cls:= .type "list",data:= .seq ([]:List Value).toArray } }:=
  I2.laid (t' :=s2.toks) (λb u e=>Heap.get?_push_of_some _ e) (Nat.le_refl _) ⟨Nat.zero_le _,[],_, .nil,Heap.get?_push_size _ rfl⟩
 obtain ⟨W,⟨m0,w0⟩,turn⟩:=q2 s2.heap.objs.size hD;have f3:∀ b∈fp,u5 X pins (upd H2 s2.heap.objs.size (.lst [])) b:=λb hb=>by
  obtain ⟨o,eo,_⟩:=TJ.obj _ _ st2 b hb;exact ⟨by rw [zD (Nat.ne_of_lt (Heap.lt_size eo))]; exact (f2 b hb).1,(f2 b hb).2⟩
 have o3:∀ b∈fp,∃ o,(s2.heap.push { cls:= .type "list",data:= .seq ([]:List Value).toArray }).get? b=some o:=λb hb=>by
  obtain ⟨o,eo,_⟩:=TJ.obj _ _ st2 b hb;exact ⟨o,Heap.get?_push_of_some _ eo⟩
 refine wpAny_newFunctionEnv S.nocell (by intro y hy; simp at hy) (λh4 hns4 hsb4=> ?_) S.kind
 generalize hG:s2.heap.push { cls:= .type "list",data:= .seq ([]:List Value).toArray }=G3 at I3 o3 hns4 hsb4 ⊢;dsimp only at hns4 hsb4 ⊢;have s3e:∃ s3:Shared,s3={ s2 with heap:=G3 }:=⟨_,rfl⟩;obtain ⟨s3,es3⟩:=s3e;have hh3:s3.heap=s2.heap.push { cls:= .type "list",data:= .seq ([]:List Value).toArray }:=by rw [es3,hG]
 have hg3:G3=s3.heap:=by rw [es3]
 rw [← es3] at I3;have ht3:s2.toks=s3.toks:=by rw [es3]
 rw [hg3] at hns4 hsb4 o3;have k4:∀ b o,s3.heap.get? b=some o->h4.get? b=some o:=λb o e=>hsb4.extBut b o (Nat.ne_of_lt (Heap.lt_size e)) (Heap.get?_push_of_some _ e);have IC:=YC (N' :=N') (cl:=cl) (fp:=fp) (σ' :=QF k js σ) (tk:=s3.toks+([]:List (Str×Value)).length) I3 S hc hcl hcf f3 o3 hns4 k4 (by unfold QF; simp [CP.len]) (λi x v h1 h2=>by
  unfold QF at h2
  by_cases hik:i < k
  ·rw [List.getElem?_append_left (by simpa using hik),List.getElem?_replicate,if_pos hik] at h2
   cases h2
  ·have hk' :k<=i:=by omega
   rw [List.getElem?_append_right (by simpa using hk'),List.length_replicate,List.getElem?_map] at h2
   cases ej:js[i - k]? with
   | none=>rw [ej] at h2; cases h2
   | some j=>
    rw [ej] at h2;obtain ⟨y,e1,e2,e3,e4,e5⟩:=CP.cap (i - k) j ej;have:k+(i - k)=i:=by omega
    rw [this,h1] at e1;cases e1;refine ⟨j,e2, ?_,e3,e4,e5⟩;have h2' :some ((σ[j]?).getD none)=some (some v):=h2;cases ez:σ[j]? with
    | none=>rw [ez] at h2'; cases h2'
    | some z=>rw [ez] at h2'; exact congrArg some (Option.some.inj h2'))
 have TC:Y2 (cxC X scope N' cl s3.heap.objs.size s3 (upd H2 s2.heap.objs.size (.lst [])) fp pins).prog (cxC X scope N' cl s3.heap.objs.size s3 (upd H2 s2.heap.objs.size (.lst [])) fp pins).w (cxC X scope N' cl s3.heap.objs.size s3 (upd H2 s2.heap.objs.size (.lst [])) fp pins).K tg J fp it tn:=TJ;have t4:tn 0 h4:=TJ.keep _ _ _ st2 λb hb o e=>k4 b o (by rw [hh3]; exact Heap.get?_push_of_some _ e)
 have fC:∀ b∈fp,u5 (cxC X scope N' cl s3.heap.objs.size s3 (upd H2 s2.heap.objs.size (.lst [])) fp pins) [] (upd H2 s2.heap.objs.size (.lst [])) b:=λb hb=>by
  obtain ⟨q0,q1,q2,q3,q4,q5⟩:=f3 b hb;obtain ⟨o,eo⟩:=o3 b hb;refine ⟨q0,Nat.ne_of_lt (Heap.lt_size eo),λhb' => ?_, .inl hb,λx c e=>q4 x c (hcl _ _ e),λp hp=> ?_⟩
  ·rcases List.mem_cons.mp (I3.stkSub b hb') with z | z
   ·exact q1 z
   ·exact q2 z
  ·exact q5 p (by
    have:p∈(X.pn++pins)++[]:=hp;rwa [List.append_nil] at this)
 have fin:∀ (s5:Shared) (σ5:Sg) (H5:Hp),L2.Inv (cxC X scope N' cl s3.heap.objs.size s3 (upd H2 s2.heap.objs.size (.lst [])) fp pins) [] σ5 H5 s5->F s2.heap.objs.size H5->compPost (model X.prog X.w) X.A X.xe use Q (.ref s2.heap.objs.size) s3.heap.objs.size (.ok .next) s5:=λs5 σ5 H5 I5 q5=>by
  have J5:L2.Inv X pins σ H5 s5:=I3.call' (ch:=fp) I5.os I5.base I5.hok I5.bare λb hb=>by
   obtain ⟨q0,q1,q2,q3,q4,q5⟩:=f3 b hb;exact ⟨q3,q1,q4,q5⟩
  refine hQ _ _ H5 s5 J5 q5 I5.free I3.sz (Nat.ne_of_gt I3.lt) (λx c e z=> ?_) (λp hp z=> ?_) (let ⟨m,hm,_⟩:=I5.loc; ⟨m,hm⟩)
  ·obtain ⟨v',o,eo,_⟩:=I3.cell x c e;exact absurd (Heap.lt_size eo) (by rw [z]; exact Nat.lt_irrefl _)
  ·exact absurd (Heap.lt_size (I3.pin p hp).1) (by rw [z]; exact Nat.lt_irrefl _)
 have pass:jA (CX1 X.prog X.w) (XE (cxC X scope N' cl s3.heap.objs.size s3 (upd H2 s2.heap.objs.size (.lst [])) fp pins) (notedBy (model X.prog X.w) X.A (compEnvC scope cl s3.heap.objs.size X.env) λe s' =>compPost (model X.prog X.w) X.A X.xe use Q (.ref s2.heap.objs.size) s3.heap.objs.size (.error e) s')) E:=by
  intro pins1 σ1 H1 s1 e s' I1 c1;have J1:L2.Inv X pins σ H1 s1:=I3.call' (ch:=fp) I1.os I1.base I1.hok I1.bare λb hb=>by
   obtain ⟨q0,q1,q2,q3,q4,q5⟩:=f3 b hb;exact ⟨q3,q1,q4,q5⟩
  obtain ⟨m1,hm1,_⟩:=I1.loc;refine thn (hp pins σ H1 s1 e s' s3.heap.objs.size m1 _ (compEnvC scope cl s3.heap.objs.size X.env) J1 hm1 I1.free I3.sz (λz=> ?_) rfl c1) λ_ s'' q=> ?_
  ·obtain ⟨_,o,eo,_⟩:=I3.stack.mem z;exact absurd (Heap.lt_size eo) (Nat.lt_irrefl _)
  ·cases use <;> exact q
 have loop:=YE (X:=XE (cxC X scope N' cl s3.heap.objs.size s3 (upd H2 s2.heap.objs.size (.lst [])) fp pins) (notedBy (model X.prog X.w) X.A (compEnvC scope cl s3.heap.objs.size X.env) λe s' =>compPost (model X.prog X.w) X.A X.xe use Q (.ref s2.heap.objs.size) s3.heap.objs.size (.error e) s')) (iter:=iter) (scope:=scope) (pos:=pos) (R:=compPost (model X.prog X.w) X.A X.xe use Q (.ref s2.heap.objs.size) s3.heap.objs.size) (λ_ _ z=>z) hc TC (Gk rfl (hg _ _ _ _ _ _)) (kH rfl (ht _ _ _ _ _ _)) (he _ _ _ _ _ _ _ pass) W turn (λs5 σ5 H5 I5=>fin s5 σ5 H5 (YD I5)) w0 (UF IC) t4 fC;rw [es3] at loop;exact codeAny_compStart_list loop (TJ.self _ _ _ _ _ t4 loop)
end
def zL (g:T->En->R En) (ft:En->R Bool) (fe:En->R T):List T->En->R (List T)
 | [],_=> .ok []
 | t :: ts,ρ=>(g t ρ).bind λρ1=>(ft ρ1).bind λk=>if k=true then (fe ρ1).bind λv=>(zL g ft fe ts ρ1).bind λvs=> .ok (v :: vs) else zL g ft fe ts ρ1
def QG:Option Sl->Sl
 | some (.vl t)=> .vl t
 | _=> .un
def wU (k:Nat) (js:List Nat) (ρ:En):En:=List.replicate k .un++js.map λj=>QG ρ[j]?
def quiet {α:Type}:R α->R α
 | .ok a=> .ok a
 | _=> .bad
def zR (g:T->En->R En) (ft:En->R Bool) (fe:En->R T) (k:Nat) (js:List Nat) (ρ:En) (ts:List T):R (List T):=if ts.length<=bnd then quiet (zL g ft fe ts (wU k js ρ)) else .bad
def Ze (fi:En->R (List T)) (g:T->En->R En) (ft:En->R Bool) (fe:En->R T) (k:Nat) (js:List Nat):En->R T:=λρ=>(fi ρ).bind λts=>(zR g ft fe k js ρ ts).bind λvs=> .ok (.lst vs)
def GOk (tG:TG) (g:T->En->R En):Prop:=∀ Y B ρ σ H v x Q,SI Y B ρ σ H->Rep B v x->(match g x ρ with | .ok ρ' =>∀ σ',SI Y B ρ' σ' H->Q σ' H | _=>False)->tG v σ H Q
theorem zP (i:Nat):GOk (u0 i) (zz i):=λY B ρ σ H v x Q I r q=>q _ (I.setV i r)
theorem w9 (K:PySem.W.Frag) (i j:Nat):GOk (gW K 2 (Y1 (u0 i) (Y1 (u0 j) gU))) (Z1 i j):=λY B ρ σ H v t Q I r q=>by
 cases r with
 | @tup l xs ts h r=>
  cases r with
  | nil=>exact q.elim
  | cons r1 rr=>
   cases rr with
   | nil=>exact q.elim
   | cons r2 rr=>
    cases rr with
    | cons _ _=>exact q.elim
    | nil=>exact ⟨l,_,rfl,SqT.of (I.sB _ _ h),rfl,_,_,rfl,_,_,rfl,rfl,q _ ((I.setV i r1).setV j r2)⟩
 | _=>exact q.elim
theorem SI.block {Y:Fx} {B:Hp} {ρ:En} {σ:Sg} {H H3:Hp} {D:Addr} (I:SI Y B ρ σ H) (k:Nat) (js:List Nat) (E:XK) (hD:H D=none) (o:HO):SI ⟨B,H,E,Y.cl⟩ B (wU k js ρ) (QF k js σ) (upd H D o) where
 s0:=I.sB
 sH:=zJ.new hD _
 sB:=I.sB.trans (zJ.new hD _)
 old:=λ_ _ _=>rfl
 len:=by unfold wU QF; simp
 vl:=λi t h=>by
  unfold wU at h;unfold QF
  by_cases hik:i < k
  ·rw [List.getElem?_append_left (by simpa using hik),List.getElem?_replicate,if_pos hik] at h; cases h
  ·have hk' :k<=i:=by omega
   rw [List.getElem?_append_right (by simpa using hk'),List.length_replicate,List.getElem?_map] at h ⊢
   cases ej:js[i - k]? with
   | none=>rw [ej] at h; cases h
   | some j=>
    rw [ej] at h;have h' :QG ρ[j]? = .vl t:=Option.some.inj h;unfold QG at h';split at h'
    ·rename_i u e;cases h';obtain ⟨v,e1,r⟩:=I.vl j _ e;exact ⟨v,by show some ((σ[j]?).getD none)=_; rw [e1]; rfl,r⟩
    ·cases h'
 ow:=λi ts h=>by
  exfalso;unfold wU at h
  by_cases hik:i < k
  ·rw [List.getElem?_append_left (by simpa using hik),List.getElem?_replicate,if_pos hik] at h; cases h
  ·have hk' :k<=i:=by omega
   rw [List.getElem?_append_right (by simpa using hk'),List.length_replicate,List.getElem?_map] at h
   cases ej:js[i - k]? with
   | none=>rw [ej] at h; cases h
   | some j=>
    rw [ej] at h;have h' :QG ρ[j]? = .ow ts:=Option.some.inj h;unfold QG at h';split at h' <;> cases h'
 xc:=λi c h=>by
  exfalso;unfold wU at h
  by_cases hik:i < k
  ·rw [List.getElem?_append_left (by simpa using hik),List.getElem?_replicate,if_pos hik] at h; cases h
  ·have hk' :k<=i:=by omega
   rw [List.getElem?_append_right (by simpa using hk'),List.length_replicate,List.getElem?_map] at h
   cases ej:js[i - k]? with
   | none=>rw [ej] at h; cases h
   | some j=>
    rw [ej] at h;have h' :QG ρ[j]? = .xc c:=Option.some.inj h;unfold QG at h';split at h' <;> cases h'
theorem SI.acc {Y:Fx} {B:Hp} {ρ:En} {σ:Sg} {H:Hp} {D:Addr} (I:SI Y B ρ σ H) (hb:B D=none) (h0:Y.H0 D=none) (ho:∀ (i:Nat) (ts:List T),ρ[i]? =some (Sl.ow ts)->σ[i]? ≠ some (some (V.ref D))) (o:HO):SI Y B ρ σ (upd H D o) where
 s0:=I.s0
 sH:=λb u h=>by
  rw [zD (λz=>by subst z; rw [h0] at h; cases h)]; exact I.sH b u h
 sB:=λb u h=>by
  rw [zD (λz=>by subst z; rw [hb] at h; cases h)]; exact I.sB b u h
 old:=I.old
 len:=I.len
 vl:=I.vl
 ow:=λi ts h=>by
  obtain ⟨a,xs,e,b0,h0',hh,r,d⟩:=I.ow i ts h;refine ⟨a,xs,e,b0,h0', ?_,r,d⟩;rw [zD (λz=>ho i ts h (by rw [e,z]))]; exact hh
 xc:=I.xc
def x9 (ρ:En):Prop:=∀ (i:Nat) (ts:List T),ρ[i]? ≠ some (Sl.ow ts)
theorem QH (k:Nat) (js:List Nat) (ρ:En):x9 (wU k js ρ):=λi ts h=>by
 unfold wU at h
 by_cases hik:i < k
 ·rw [List.getElem?_append_left (by simpa using hik),List.getElem?_replicate,if_pos hik] at h; cases h
 ·have hk' :k<=i:=by omega
  rw [List.getElem?_append_right (by simpa using hk'),List.length_replicate,List.getElem?_map] at h
  cases ej:js[i - k]? with
  | none=>rw [ej] at h; cases h
  | some j=>
   rw [ej] at h;have h' :QG ρ[j]? = .ow ts:=Option.some.inj h;unfold QG at h';split at h' <;> cases h'
theorem Wu {ρ:En} {i:Nat} {t:T} (h:x9 ρ):x9 (ρ.set i (.vl t)):=λj ts e=>by
 rcases Z0 e with ⟨_,z⟩ | ⟨_,z⟩
 ·cases z
 ·exact h j ts z
def GNo (g:T->En->R En):Prop:=(∀ t ρ ρ',x9 ρ->g t ρ= .ok ρ' ->x9 ρ')/\∀ t ρ c,g t ρ ≠ .ex c
theorem zQ (i:Nat):GNo (zz i):=⟨λt ρ ρ' h e=>by
 cases e; exact Wu h,λt ρ c e=>by cases e⟩
theorem wa (i j:Nat):GNo (Z1 i j):=⟨λt ρ ρ' h e=>(by
 unfold Z1 at e;split at e
 ·cases e; exact Wu (Wu h)
 ·cases e),λt ρ c e=>by unfold Z1 at e; split at e <;> cases e⟩
section
variable {X:Cx} {Y:Fx} {tg iter elt:Expr} {ifs:List Expr} {scope:Scope} {pos pos' :Pos} {N' :List Str} {k:Nat} {js:List Nat} {fi:En->R (List T)} {tG:TG} {g:T->En->R En} {ft:En->R Bool} {fe:En->R T}
structure yz (X:Cx) (Y:Fx) (ifs:List Expr) (f:En->R Bool):Prop where
 mk ::
 go:∀ ρ,PIf X ifs (tS Y rE f ρ)
instance {X:Cx} {Y:Fx} {ifs:List Expr} {f:En->R Bool}:CoeFun (yz X Y ifs f) λ_=>∀ ρ,PIf X ifs (tS Y rE f ρ):=⟨yz.go⟩
theorem PIf.imp {X:Cx} {e:List Expr} {t t' :TT} (h:PIf X e t) (i:∀ σ H Q,t' σ H Q->t σ H Q):PIf X e t' :=λpins s σ H Q I q=>h pins s σ H Q I (i σ H Q q)
def Zi:En->R Bool:=λ_=> .ok true
theorem ZQ {X:Cx}:yz X Y [] Zi:= .mk λρ=>PIf.imp x6 λσ H Q ⟨B,I,q⟩=>j2 I q rfl
theorem uo {X:Cx} {c:Expr} (h:uS X Y c ft):yz X Y [c] ft:= .mk λρ=>x8 (h ρ)
def CEnd (r:R (List T)) (P:List T->Prop) (Z:Nat->Prop):Prop:=match r with
 | .ok vs=>P vs
 | .ex c=>Z c
 | .bad=>False
theorem Wa {B1 H1:Hp} {σ:Sg} {ρ:En} {J:It} {ts:List T} {r:R (List T)} {D:Addr} {E0:XK} (hG:GOk tG g) (hN:GNo g) (I:SI Y B1 ρ σ H1) (rI' :rI B1 H1 J ts) (hl:ts.length<=bnd) (ev:zL g ft fe ts (wU k js ρ)=r) (hD:H1 D=none) {F:Hp->Prop}
  (hF:CEnd r (λvs=>∀ H' xs B',zJ H1 H' ->H' D=some (.lst xs)->zT B' xs vs->zJ B' (Za B1 H1 H')->B' D=none->zJ B1 B' ->F H') λc=>∀ d H',zJ H1 H' ->zJ B1 H' ->E0 (Y.cl c) d H'):
  ∃ W,(∃ m,W 0 m [] (QF k js σ) (upd H1 D (.lst [])))/\QE J D tG (λσ H Q=>∃ Y' ρ',Y'.cl=Y.cl/\tS Y' rE ft ρ' σ H Q) (λσ H Q=>∃ Y' ρ',Y'.cl=Y.cl/\Y'.E=E0/\tS Y' rC fe ρ' σ H Q) (λ_ H' =>F H') W:=by
 refine ⟨λi m ys σ' H' =>m=ts.length - i/\i<=ts.length/\ys.length<=i/\H' D=some (.lst ys)/\∃ ρ' B' us,SI ⟨B1,H1,E0,Y.cl⟩ B' ρ' σ' H' /\x9 ρ' /\zJ B1 B' /\B' D=none/\zT B' ys us/\((zL g ft fe (ts.drop i) ρ').bind λws=> .ok (us++ws))=r,
  ⟨ts.length,by simp,Nat.zero_le _,Nat.zero_le _,Zc,_,B1,[],I.block (H3:=H1) k js _ hD _,QH k js ρ,zJ.refl _,I.sB.free hD, .nil,by rw [List.drop_zero,ev]; cases r <;> rfl⟩, ?_⟩
 rintro i m ys σ' H' ⟨rfl,hi,hyl,hDl,ρ',B',us,I',no',s1',bD,r',ew⟩
 refine ⟨hDl, ?_⟩;obtain ⟨hgo,hyld,hstop⟩:=rI' B' H' s1' I'.sB;have tD:∀ H2,zJ H' H2->Za B' H' H2 D=none:=λH2 s=>by rw [Zw hDl]; exact bD
 by_cases hlt:i < ts.length
 ·refine .inr ⟨hgo i hlt,λx H2 y=> ?_⟩;obtain ⟨s2,r2⟩:=hyld i _ x H2 (List.getElem?_eq_getElem hlt) y;rw [List.drop_eq_getElem_cons hlt] at ew;unfold zL at ew;have I2:=I'.grow s2;refine hG _ _ ρ' σ' H2 x _ _ I2 r2 ?_;cases eg:g ts[i] ρ' with
  | bad=>rw [eg] at ew; subst ew; exact hF
  | ex c=>exact (hN.2 _ _ _ eg).elim
  | ok ρ1=>
   rw [eg] at ew;have no1:x9 ρ1:=hN.1 _ _ _ no' eg;intro σ1 J1;refine ⟨⟨B1,H1,E0,Y.cl⟩,ρ1,rfl,_,J1, ?_⟩;have ew1:((ft ρ1).bind (λk=>if k=true then (fe ρ1).bind λv=>(zL g ft fe (ts.drop (i+1)) ρ1).bind λvs=> .ok (v :: vs) else zL g ft fe (ts.drop (i+1)) ρ1)).bind (λws=> .ok (us++ws))=r:=ew
   cases ef:ft ρ1 with
   | bad=>rw [ef] at ew1; subst ew1; exact hF
   | ex c=>
    rw [ef] at ew1; subst ew1;exact λd H' a b=>hF d H' a ((s1'.trans (Za.ge I'.sB s2)).trans b)
   | ok kk=>
    rw [ef] at ew1;intro b H3 s3 eb;have eb' :b=kk:=eb;subst eb';have ew2:(if b=true then (fe ρ1).bind λv=>(zL g ft fe (ts.drop (i+1)) ρ1).bind λvs=> .ok (v :: vs) else zL g ft fe (ts.drop (i+1)) ρ1).bind (λws=> .ok (us++ws))=r:=ew1
    have J2:=J1.grow s3;have hD3:H3 D=some (.lst ys):=s3 _ _ (s2 _ _ hDl);have bD3:Za (Za B' H' H2) H2 H3 D=none:=by rw [Zw (s2 _ _ hDl)]; exact tD H2 s2
    have sB3:zJ B' (Za (Za B' H' H2) H2 H3):=(Za.ge I'.sB s2).trans (Za.ge I2.sB s3);cases b with
    | false=>exact ⟨ts.length - (i+1),by omega,rfl,hlt,by omega,hD3,ρ1,_,us,J2,no1,s1'.trans sB3,bD3,r'.mono sB3,ew2⟩
    | true=>
     refine ⟨⟨B1,H1,E0,Y.cl⟩,ρ1,rfl,rfl,_,J2, ?_⟩;have ew3:((fe ρ1).bind (λv=>(zL g ft fe (ts.drop (i+1)) ρ1).bind λvs=> .ok (v :: vs))).bind (λws=> .ok (us++ws))=r:=ew2;cases ee:fe ρ1 with
     | bad=>rw [ee] at ew3; subst ew3; exact hF
     | ex c=>
      rw [ee] at ew3; subst ew3;exact λd H' a b=>hF d H' a ((s1'.trans sB3).trans b)
     | ok v=>
      rw [ee] at ew3;have ew4:((zL g ft fe (ts.drop (i+1)) ρ1).bind (λvs=> .ok (v :: vs))).bind (λws=> .ok (us++ws))=r:=ew3;have ew5:(zL g ft fe (ts.drop (i+1)) ρ1).bind (λws=> .ok ((us++[v])++ws))=r:=by
       rw [← ew4];cases zL g ft fe (ts.drop (i+1)) ρ1 with
       | ok ws=>show R.ok _=R.ok _; rw [List.append_assoc]; rfl
       | _=>rfl
      intro w H4 s4 rw4;have hD4:H4 D=some (.lst ys):=s4 _ _ hD3;have J3:=J2.grow s4;have bD4:Za (Za (Za B' H' H2) H2 H3) H3 H4 D=none:=by rw [Zw hD3]; exact bD3
      have sB4:=sB3.trans (Za.ge J2.sB s4);refine ⟨hD4,Nat.lt_of_lt_of_le (Nat.lt_of_le_of_lt hyl hlt) (jc hl),ts.length - (i+1),by omega,rfl,hlt,by rw [List.length_append,List.length_singleton]; omega,Zc,ρ1,_,us++[v], ?_,no1,s1'.trans sB4,bD4,(r'.mono sB4).append (.cons rw4 .nil),ew5⟩
      exact J3.acc bD4 hD (λj ts' e=>(no1 j ts' e).elim) _
 ·have e:i=ts.length:=by omega
  subst e;refine .inl ⟨hstop _ (Nat.le_refl _), ?_⟩;rw [List.drop_length] at ew;have ew' :R.ok (us++[])=r:=ew;rw [List.append_nil] at ew';subst ew';refine hF H' ys B' I'.sH hDl r' (λb o h=> ?_) bD s1';cases q:H1 b with
  | none=>rw [Zk q]; exact I'.sB b o h
  | some u=>
   rw [Zw q];have z:B' b=B1 b:=I'.old b u q;rw [← z]; exact h
theorem uq {B1 H1:Hp} {σ:Sg} {ρ:En} {J:It} {ts vs:List T} {D:Addr} (hG:GOk tG g) (hN:GNo g) (I:SI Y B1 ρ σ H1) (rI' :rI B1 H1 J ts) (hl:ts.length<=bnd) (ev:zL g ft fe ts (wU k js ρ)= .ok vs) (hD:H1 D=none) {F:Hp->Prop}
  (hF:∀ H' xs B',zJ H1 H' ->H' D=some (.lst xs)->zT B' xs vs->zJ B' (Za B1 H1 H')->B' D=none->zJ B1 B' ->F H'):
  ∃ W,(∃ m,W 0 m [] (QF k js σ) (upd H1 D (.lst [])))/\QE J D tG (λσ H Q=>∃ Y' ρ',Y'.cl=Y.cl/\tS Y' rE ft ρ' σ H Q) (λσ H Q=>∃ Y' ρ',Y'.cl=Y.cl/\(Y'.E=λ_ _ _=>False)/\tS Y' rC fe ρ' σ H Q) (λ_ H' =>F H') W:=Wa hG hN I rI' hl ev hD hF
structure UH (X:Cx) (Y:Fx) (tg iter elt:Expr) (ifs:List Expr) (scope:Scope) (N' :List Str) (k:Nat) (js:List Nat) (fi:En->R (List T)) (tG:TG) (g:T->En->R En) (ft:En->R Bool) (fe:En->R T):Prop where
 sc:CSc X scope
 cp:Gn X scope N' k js
 cm:X.calm=true
 it:yV X Y tg iter fi
 gt:Xy X scope N' λXC=>PG XC tg tG
 gk:GOk tG g
 gn:GNo g
 tt:∀ Y',Y'.cl=Y.cl->Xy X scope N' λXC=>yz XC Y' ifs ft
 el:∀ Y',Y'.cl=Y.cl->Gm X scope N' Y'.E λXC=>Snd XC Y' elt fe
 hs:∀ x,foldedSetIterable iter X.env x=pure x
theorem ZR (C:UH X Y tg iter elt ifs scope N' k js fi tG g ft fe):Snd X Y (.ListComp elt [⟨tg,iter,ifs,0⟩] scope pos) (Ze fi g ft fe k js):= .mk λρ=>by
 intro pins s σ H Q I ⟨B,J,q⟩;rw [eval_ListComp];refine Ws (W6 rfl) (use:=none) (Q:=EP X pins σ Q) (F:=λD H' =>Q (.ref D) H') (te:=λσ H Q=>∃ Y' ρ',Y'.cl=Y.cl/\(Y'.E=λ_ _ _=>False)/\tS Y' rC fe ρ' σ H Q) (tt:=λσ H Q=>∃ Y' ρ',Y'.cl=Y.cl/\tS Y' rE ft ρ' σ H Q) C.sc C.cp C.cm (C.it ρ) C.gt
  (λcl Cx' s3 H3 fp pins pins' s σ H Q I ⟨Y',ρ',ey,q⟩=>C.tt Y' ey cl Cx' s3 H3 fp pins ρ' pins' s σ H Q I q) (λcl Cx' s3 H3 fp pins xe hp pins' s σ H Q I ⟨Y',ρ',ey,eE,q⟩=>C.el Y' ey cl Cx' s3 H3 fp pins xe (eE ▸ hp) ρ' pins' s σ H Q I q) I ?_ ?_ C.hs
 ·refine step J q λts it' H1 _ s1 r1 J1 q1=> ?_;intro D hD;unfold zR at q1;split at q1
  ·rename_i hl;cases ev:zL g ft fe ts (wU k js ρ) with
   | bad=>rw [ev] at q1; exact q1.elim
   | ex c=>rw [ev] at q1; exact q1.elim
   | ok vs=>
    rw [ev] at q1;refine uq C.gk C.gn J1 r1 hl ev hD λH' xs B' s' e' r' l' b' sb' => ?_;refine (show Po Y rC _ H1 (.ok (.lst vs)) Q from q1) (.ref D) H' s' ?_;exact .lst (by rw [Zk hD]; exact e') (r'.mono l')
  ·exact q1.elim
 ·intro D Cc H' s' I' q' hC h0 hL hcell hpin hns;obtain ⟨m,hm⟩:=hns;refine ⟨m,hm,λh' hsb=>⟨.ref D,H', ?_,rfl,q'⟩⟩;exact I'.turned (t' :=s'.toks) (λb o hb e=>hsb.extBut b o hb e) hC (Ne.symm hL).symm (.inr h0) hcell hpin
def YF (g:T->En->R En) (ft:En->R Bool) (fe:En->R T) (k:Nat) (js:List Nat) (ρ:En) (ts:List T):R (List T):=if ts.length<=bnd then zL g ft fe ts (wU k js ρ) else .bad
def YG (fi:En->R (List T)) (g:T->En->R En) (ft:En->R Bool) (fe:En->R T) (k:Nat) (js:List Nat):En->R T:=λρ=>(fi ρ).bind λts=>(YF g ft fe k js ρ ts).bind λvs=> .ok (.lst vs)
theorem xa (hp:Qw X Y.E) (C:UH X Y tg iter elt ifs scope N' k js fi tG g ft fe):Snd X Y (.ListComp elt [⟨tg,iter,ifs,0⟩] scope pos) (YG fi g ft fe k js):= .mk λρ=>by
 intro pins s σ H Q I ⟨B,J,q⟩;rw [eval_ListComp];refine Ws hp (use:=none) (Q:=EP X pins σ Q) (F:=λD H' =>Q (.ref D) H') (te:=λσ H Q=>∃ Y' ρ',Y'.cl=Y.cl/\Y'.E=Y.E/\tS Y' rC fe ρ' σ H Q) (tt:=λσ H Q=>∃ Y' ρ',Y'.cl=Y.cl/\tS Y' rE ft ρ' σ H Q) C.sc C.cp C.cm (C.it ρ) C.gt
  (λcl Cx' s3 H3 fp pins pins' s σ H Q I ⟨Y',ρ',ey,q⟩=>C.tt Y' ey cl Cx' s3 H3 fp pins ρ' pins' s σ H Q I q) (λcl Cx' s3 H3 fp pins xe hp pins' s σ H Q I ⟨Y',ρ',ey,eE,q⟩=>C.el Y' ey cl Cx' s3 H3 fp pins xe (eE ▸ hp) ρ' pins' s σ H Q I q) I ?_ ?_ C.hs
 ·refine step J q λts it' H1 _ s1 r1 J1 q1=> ?_;intro D hD;unfold YF at q1;split at q1
  ·rename_i hl;refine Wa C.gk C.gn J1 r1 hl rfl hD ?_;revert q1;cases zL g ft fe ts (wU k js ρ) with
   | bad=>exact λq1=>q1
   | ex c=>exact λq1 d H' a b=>q1 d H' (J1.sH.trans a) b
   | ok vs=>
    intro q1 H' xs B' s' e' r' l' b' sb';refine (show Po Y rC _ H1 (.ok (.lst vs)) Q from q1) (.ref D) H' s' ?_;exact .lst (by rw [Zk hD]; exact e') (r'.mono l')
  ·exact q1.elim
 ·intro D Cc H' s' I' q' hC h0 hL hcell hpin hns;obtain ⟨m,hm⟩:=hns;refine ⟨m,hm,λh' hsb=>⟨.ref D,H', ?_,rfl,q'⟩⟩;exact I'.turned (t' :=s'.toks) (λb o hb e=>hsb.extBut b o hb e) hC (Ne.symm hL).symm (.inr h0) hcell hpin
end
section
variable {X:Cx} {Y:Fx} {tg iter elt:Expr} {ifs:List Expr} {scope:Scope} {pos pos' :Pos} {N' :List Str} {k:Nat} {js:List Nat} {fi:En->R (List T)} {tG:TG} {g:T->En->R En} {ft:En->R Bool} {fe:En->R T}
theorem UI {i:Nat} {x:Str} {pc p' :Pos} (C:UH X Y tg iter elt ifs scope N' k js fi tG g ft fe) (hN:X.N.Nodup) (hi:X.N[i]? =some x) (hx:L2.Loc X.env.scope x)
  (hsw:swapsWith (.ListComp elt [⟨tg,iter,ifs,0⟩] scope pc) (some (.Name x p')) pos.line X.env=pure true) (hf:X.fn x=true\/X.env.scope.names.lookup x=some .local:=by first | exact .inl rfl | exact .inr rfl | assumption):
  um X Y (.Assign [.Name x p'] (.ListComp elt [⟨tg,iter,ifs,0⟩] scope pc) pos) (zH i (Ze fi g ft fe k js)):= .mk λρ=>by
 intro pins s σ H D I ⟨B,J,q⟩;rw [exec_Assign_Name_used _ _ _ _ hsw];refine wpAny_bind (wpAny_standAt (wpAny_bind ?_));show wpAny _ X.A (do let _ ← comprehension (.ListComp elt [⟨tg,iter,ifs,0⟩] scope pc) scope X.env _ (newList []) false (eval iter X.env) (some (assign (.Name x p') X.env))) _ _ s
 refine wpAny_bind (thn (Ws (W6 rfl) (use:=some (assign (.Name x p') X.env)) (Q:=λ_ s' =>SP X pins D .next s') (F:=λD' H' =>D.nx (σ.set i (some (.ref D'))) H') (te:=λσ H Q=>∃ Y' ρ',Y'.cl=Y.cl/\(Y'.E=λ_ _ _=>False)/\tS Y' rC fe ρ' σ H Q) (tt:=λσ H Q=>∃ Y' ρ',Y'.cl=Y.cl/\tS Y' rE ft ρ' σ H Q) C.sc C.cp C.cm (C.it ρ) C.gt
  (λcl Cx' s3 H3 fp pins pins' s σ H Q I ⟨Y',ρ',ey,q⟩=>C.tt Y' ey cl Cx' s3 H3 fp pins ρ' pins' s σ H Q I q) (λcl Cx' s3 H3 fp pins xe hp pins' s σ H Q I ⟨Y',ρ',ey,eE,q⟩=>C.el Y' ey cl Cx' s3 H3 fp pins xe (eE ▸ hp) ρ' pins' s σ H Q I q) I ?_ ?_ C.hs) λ_ s' hq=>wpAny_pure (wpAny_pure hq))
 ·have q' :PoS Y B (((fi ρ).s λts=>(zR g ft fe k js ρ ts).s λvs=> .nx (ρ.set i (.vl (.lst vs))))) D:=by
   unfold zH Ze at q;revert q;cases fi ρ with
   | bad=>exact λq=>q
   | ex c=>exact λq=>q
   | ok ts=>
    intro q;have q2:PoS Y B (((zR g ft fe k js ρ ts).bind λvs=>R.ok (T.lst vs)).s λt=>RS.nx (List.set ρ i (Sl.vl t))) D:=q;show PoS Y B ((zR g ft fe k js ρ ts).s λvs=>RS.nx (List.set ρ i (Sl.vl (T.lst vs)))) D;revert q2;cases zR g ft fe k js ρ ts with
    | bad=>exact λq=>q
    | ex c=>exact λq=>q
    | ok vs=>exact λq=>q
  refine Wr J q' λts it' H1 _ s1 r1 J1 q1=> ?_;intro D' hD;unfold zR at q1;split at q1
  ·rename_i hl;cases ev:zL g ft fe ts (wU k js ρ) with
   | bad=>rw [ev] at q1; exact q1.elim
   | ex c=>rw [ev] at q1; exact q1.elim
   | ok vs=>
    rw [ev] at q1;refine uq C.gk C.gn J1 r1 hl ev hD λH' xs B' s' e' r' l' b' sb' => ?_;have rr:Rep (Za (Za B H H1) H1 H') (.ref D') (.lst vs):= .lst (by rw [Zk hD]; exact e') (r'.mono l')
    exact q1 _ _ _ (Za.ge J1.sB s') ((J1.grow s').setV i rr)
  ·exact q1.elim
 ·intro D' Cc H' s' I' q' hC h0 hL hcell hpin hns;obtain ⟨m,hm⟩:=hns;show wpAny _ X.A (assign (.Name x p') X.env (.ref D')) _ _ s';refine wpAny_assign_Name (WZ (v:= .ref D') I' hN hi hx rfl (λs'' I'' ⟨a,hsb,ha⟩=> ?_) hf);have hne:Cc ≠ a:=by
   rcases ha with rfl | ha
   ·exact hL
   ·exact (hcell x a ha).symm
  refine ⟨m,hm.sameBut hsb hne,λh' hsb' =>⟨_,H', ?_,q'⟩⟩;exact I''.turned (t' :=s''.toks) (λb o hb e=>hsb'.extBut b o hb e) hC hL (.inr h0) hcell hpin
end
def Itc (x:Str):It:=⟨λi _=>i < x.cps.size,λi H v H' =>H' =H/\∃ c,x.cps[i]? =some c/\v= .str ⟨#[c]⟩,λi _=>x.cps.size<=i⟩
theorem Wb {P:Program} {w:World} {K:PySem.W.Frag} {tg:Expr} {x:Str} {t:Tok} {ty:String} (it:Addr) (hty:ty="str_ascii_iterator"\/ty="str_iterator"):Y2 P w K tg (Itc x) [it] it (λi h=>h.IsStrIter it ty x t i):=by
 have W:∀ A:Around,A.handled=none->Walks P w A it [it] [it] x.cps.size (SignAt x) (λi h=>h.IsStrIter it ty x t i):=λA hA=>by
  rcases hty with rfl | rfl
  ·exact Walks.strAscii hA it x t
  ·exact Walks.strWide hA it x t
 have hn:["enumerate","zip","dict_itemiterator","dict_reverseitemiterator","odict_iterator","itertools.zip_longest","itertools.pairwise"].contains ty=false:=by rcases hty with rfl | rfl <;> decide
 refine ⟨by simp,λi h st b hb=> ?_,λi h h' st k=> ?_, ?_, ?_,λA i s Q E st h=> ?_⟩
 ·have e:b=it:=by simpa using hb
  subst e;obtain ⟨o,e,c,d⟩:=st;exact ⟨o,e,λv z=>by rw [d] at z; cases z⟩
 ·obtain ⟨o,e,r⟩:=st;exact ⟨o,k it (by simp) o e,r⟩
 ·intro X hP hw hK hc i pins s σ H E I hf st hg;subst hP hw hK;obtain ⟨f0,f1,f2,f3,f4,f5⟩:=hf it (by simp)
  refine (W X.A (I.ok.hd hc)).item i s _ _ hg st λv h' tk hv st' kk=> ?_;obtain ⟨c,u,hc',rfl⟩:=hv;have I1:L2.Inv X pins σ H { s with heap:=h',toks:=tk }:=I.turned (λb o hb e=>kk b o (by simpa using hb) e) f0 f1 f3 f4 f5
  obtain ⟨o,e,cl,d⟩:=id st';exact ⟨_,rfl,Qp (s:={ s with heap:=h',toks:=tk }) e cl d hn ⟨.str ⟨#[c]⟩,H,I1,⟨u,rfl⟩,⟨rfl,c,hc',rfl⟩,st',λb hb=>(hf b hb).1⟩⟩
 ·intro X hP hw hK hc i pins s σ H E I hf st hg;subst hP hw hK;obtain ⟨f0,f1,f2,f3,f4,f5⟩:=hf it (by simp)
  have hx:x.cps[i]? =none:=Array.getElem?_eq_none hg;rcases hty with rfl | rfl
  ·exact wpAny_pyNext_ascii_end (I.ok.hd hc) st hx λh' eb=>⟨rfl,I.turned (t' :=s.toks) (λb o hb e=>eb b o hb e) f0 f1 f3 f4 f5⟩
  ·exact wpAny_pyNext_wide_end (I.ok.hd hc) st hx λh' eb=>⟨rfl,I.turned (t' :=s.toks) (λb o hb e=>eb b o hb e) f0 f1 f3 f4 f5⟩
 ·rcases hty with rfl | rfl
  ·exact wpAny_pyIter_striter_ascii st h
  ·exact wpAny_pyIter_striter_wide st h
def Zx (x:Str):List T:=x.cps.toList.map λc=>T.str ⟨#[c]⟩
theorem QI {B1 H1:Hp} {x:Str}:rI B1 H1 (Itc x) (Zx x):=λB2 H2 s1 s2=>by
 have hl:(Zx x).length=x.cps.size:=by unfold Zx; simp
 refine ⟨λi hi=>by rw [hl] at hi; exact hi,λi t v H3 e y=> ?_,λi hi=>by rw [hl] at hi; exact hi⟩
 obtain ⟨rfl,c,hc,rfl⟩:=y;refine ⟨zJ.refl _, ?_⟩;unfold Zx at e;rw [List.getElem?_map] at e;have hc' :x.cps.toList[i]? =some c:=by simpa using hc
 rw [hc'] at e;cases e;exact .str _
section
variable {X:Cx} {Y:Fx} {a b c d tg:Expr} {fa fb fc fd:En->R T} {pos p:Pos}
theorem UJ {l:Expr} {tl:TE} (hl:PE X l tl):PI X tg l (λσ H R=>tl σ H λx H1=>(∃ a,x= .ref a/\(((∃ xs,SqL X.K H1 a xs)/\R (Itl X.K a) H1)\/((∃ xs,SqT X.K H1 a xs)/\R (Itt X.K a) H1)))\/(∃ z,x= .str z/\R (Itc z) H1)):=by
 intro pins s σ H R I h;refine thn (hl pins s σ H _ I h) λv s1 ⟨x,H1,I1,r1,q1⟩=> ?_;have ok:∀ b∈[s1.heap.objs.size],u5 X pins H1 b:=λb hb=>by
  have e:b=s1.heap.objs.size:=by simpa using hb
  subst e;exact I1.fpOk (Nat.le_refl _) (I1.hok.fresh (Nat.le_refl _))
 rcases q1 with ⟨a,e,q⟩ | ⟨z,e,q⟩
 ·subst e;obtain rfl:v=Value.ref a:=r1;rcases q with ⟨⟨xs,hq⟩,q⟩ | ⟨⟨xs,hq⟩,q⟩
  ·obtain ⟨its,rv,p,hz⟩:=I1.list hq;exact wpAny_pyIter_list p.isList ⟨s1.heap.objs.size,[s1.heap.objs.size],_,_,H1,rfl,I1.kept (t' :=s1.toks) λb o e=>Heap.get?_push_of_some _ e,Y3 a _,⟨_,Heap.get?_push_size _ rfl,rfl,rfl⟩,ok,q⟩
  ·obtain ⟨its,rv,p,hz⟩:=I1.tuple hq;exact wpAny_pyIter_tuple (show s1.heap.IsTuple a its.toArray from p) ⟨s1.heap.objs.size,[s1.heap.objs.size],_,_,H1,rfl,I1.kept (t' :=s1.toks) λb o e=>Heap.get?_push_of_some _ e,yh a _,⟨_,Heap.get?_push_size _ rfl,rfl,rfl⟩,ok,q⟩
 ·subst e;obtain ⟨t,rfl⟩:=r1;cases ha:z.cps.all (· < 128)
  ·exact wpAny_pyIter_wide ha ⟨s1.heap.objs.size,[s1.heap.objs.size],_,_,H1,rfl,I1.kept (t' :=s1.toks) λb o e=>Heap.get?_push_of_some _ e,Wb _ (.inr rfl),⟨_,Heap.get?_push_size _ rfl,rfl,rfl⟩,ok,q⟩
  ·exact wpAny_pyIter_ascii ha ⟨s1.heap.objs.size,[s1.heap.objs.size],_,_,H1,rfl,I1.kept (t' :=s1.toks) λb o e=>Heap.get?_push_of_some _ e,Wb _ (.inl rfl),⟨_,Heap.get?_push_size _ rfl,rfl,rfl⟩,ok,q⟩
def JR:T->R (List T)
 | .lst xs=> .ok xs
 | .tup xs=> .ok xs
 | .str x=> .ok (Zx x)
 | _=> .bad
def jl (fa:En->R T):En->R (List T):=λρ=>(fa ρ).bind JR
theorem jm (ha:Snd X Y a fa):yV X Y tg a (jl fa):= .mk λρ=>PI.imp (UJ (ha ρ)) λσ H R ⟨B,I,q⟩=>step I q λt v H1 _ s1 r1 I1 q1=>by
 cases r1 with
 | @tup l xs ts h r=>
  exact .inl ⟨l,rfl, .inr ⟨⟨xs,SqT.of (I1.sB _ _ h)⟩,j2 I1 (show Po Y rI _ H1 (.ok ts) R from q1) (kE h r)⟩⟩
 | @lst l xs ts h r=>
  exact .inl ⟨l,rfl, .inl ⟨⟨xs,SqL.of (I1.sB _ _ h)⟩,j2 I1 (show Po Y rI _ H1 (.ok ts) R from q1) (kF h r)⟩⟩
 | str z=>exact .inr ⟨z,rfl,j2 I1 (show Po Y rI _ H1 (.ok (Zx z)) R from q1) QI⟩
 | _=>exact q1.elim
end
theorem Inv.laidT {X:Cx} {pins:List (Addr×Obj)} {σ:Sg} {H:Hp} {s:Shared} {h' :Heap} {tk:Nat} {ch:List Addr} {a:Addr} {xs:List V} (I:L2.Inv X pins σ H s) (hf:∀ b∈ch,u5 X pins H b) (k:∀ b o,b ∉ ch->s.heap.get? b=some o->h'.get? b=some o)
  (th:∀ b o,b∈ch->s.heap.get? b=some o->∃ o',h'.get? b=some o') (ha:s.heap.objs.size<=a) (new:ZD X.prog X.w (upd H a (.tup xs)) h' a (.tup xs)):L2.Inv X pins σ (upd H a (.tup xs)) { s with heap:=h',toks:=tk }:=by
 have hn:H a=none:=I.hok.fresh ha;have nch:∀ b u,H b=some u->b ∉ ch:=λb u e hb=>by rw [(hf b hb).1] at e; cases e
 refine I.call' (s' :={ s with heap:=h',toks:=tk }) (ch:=ch) rfl ⟨λb o e n _ hc=>k b o hc e,λb o e n _ hc=>⟨o.slots,k b o hc e⟩,λb o e n _=>by rw [zD (Nat.ne_of_lt (Nat.lt_of_lt_of_le (Heap.lt_size e) ha))]; exact n,λb o e hc=>⟨o,k b o hc e⟩,
  λb ys e=>by rw [zD (Z3 e hn)]; exact e,λb o u e=>by rw [zD (Z3 e hn)]; exact e,λb ps e=>⟨#[],by rw [zD (Z3 e hn),e]; simp⟩⟩ (λb u e=> ?_) I.bare λb hb=> ?_
 ·by_cases hb:b=a
  ·subst hb; rw [Zc] at e; cases e; exact new
  ·rw [zD hb] at e;refine (I.hok b u e).stay (λc v hc q=> ?_) (λc q=>by rw [zD (Z3 q hn)]; exact q) λc ys q=>by rw [zD (Z3 q hn)]; exact q
   rcases hc with rfl | hc
   ·exact k c v (nch c u e) q
   ·exact k c v (nch c _ hc) q
 ·obtain ⟨f0,f1,f2,f3,f4,f5⟩:=hf b hb;exact ⟨f3,f1,f4,f5⟩
def Ite (K:PySem.W.Frag) (l:Addr):It:=
 ⟨λi H=>∃ xs x,SqL K H l xs/\xs[i]? =some x,λi H v H' =>∃ p x,H p=none/\v= .ref p/\(∀ xs,SqL K H l xs->xs[i]? =some x)/\H' =upd H p (.tup [.int i,x]),λi H=>∃ xs,SqL K H l xs/\xs.length<=i⟩
theorem YH {P:Program} {w:World} {K:PySem.W.Frag} {elts:List Expr} {kk:Nat} {pt:Pos} (e it l:Addr) (hei:e ≠ it) (hle:l ≠ e) (hli:l ≠ it):
  Y2 P w K (.Tuple elts kk pt) (Ite K l) [e,it] e (λi h=>(∃ old,IsEnum h e it i old)/\h.IsListIter it l i) where
 mem:=by simp
 obj:=λi h st b hb=>by
  obtain ⟨⟨old,he⟩,o,e1,c,d⟩:=st;rcases List.mem_cons.mp hb with rfl | hb
  ·exact ⟨_,he,λv z=>nomatch z⟩
  ·have z:b=it:=by simpa using hb
   subst z;exact ⟨o,e1,λv z=>by rw [d] at z; cases z⟩
 keep:=λi h h' st k=>by
  obtain ⟨⟨old,he⟩,hit⟩:=st;exact ⟨⟨old,k e (by simp) _ he⟩,hit.at λo x=>k it (by simp) o x⟩
 item:=by
  intro X hP hw hK hc i pins s σ H E I hf st hg;subst hP hw hK;obtain ⟨xs,x,hq,hx⟩:=hg;obtain ⟨its,rv,p,hz⟩:=I.list hq;obtain ⟨u,hu,ru⟩:=rv.get hx;obtain ⟨⟨old,he⟩,hit⟩:=st;have hi:i < its.toArray.size:=by
   have:=(List.getElem?_eq_some_iff.mp hu).1;simpa using this
  refine (WalksT.enumerate (prog:=X.prog) (w:=X.w) (I.ok.hd hc) e it l hei hle hli its.toArray).item i s _ _ hi ⟨⟨old,he⟩,hit,p.isList⟩ λT vals h' tk hP hT hTup hM hk=> ?_;obtain ⟨t,y,hy,rfl⟩:=hP;have hyu:y=u:=by
   have:its[i]? =some y:=by simpa using hy
   rw [hu] at this; exact (Option.some.inj this).symm
  subst hyu;refine ⟨.ref T,rfl, ?_⟩;refine (WalksT.enumerate (prog:=X.prog) (w:=X.w) (I.ok.hd hc) e it l hei hle hli its.toArray).go elts kk pt i T _ _ _ hM λh2 hst2 hk2=> ?_;have hTn:H T=none:=I.hok.fresh hT;have hTne:∀ b∈[e,it],b ≠ T:=λb hb z=>by
   obtain ⟨_,_,_,h3,h4⟩:=hM;rcases List.mem_cons.mp hb with rfl | hb
   ·exact h3 z.symm
   ·have:b=it:=by simpa using hb
    subst this; exact h4 z.symm
  have qf:IsTup h2 T #[.int i t,y]:=by
   obtain ⟨o,eo,r⟩:=hTup;exact ⟨o,hk2 T o (λhb=>hTne T hb rfl) eo,r⟩
  refine ⟨.ref T,upd H T (.tup [.int i,x]),Inv.laidT (s:=s) (h' :=h2) (ch:=[e,it]) (tk:=tk) I hf (λb o hb e=>hk2 b o hb (hk b o hb e)) (λb o hb _=> ?_) hT ⟨by rw [sizeLine_eq]; show 2<=16777216; decide,[.int i t,y], .cons ⟨t,rfl⟩ (.cons ru .nil),qf, .inl ⟨_,_,rfl⟩⟩,rfl,⟨T,x,hTn,rfl,λys hy=>by rw [I.list_inj hy hq]; exact hx,rfl⟩,⟨hst2.1,hst2.2.1⟩,λb hb=> ?_⟩
  ·obtain ⟨⟨old2,he2⟩,⟨o2,eo2,_⟩,_⟩:=hst2;rcases List.mem_cons.mp hb with rfl | hb
   ·exact ⟨_,he2⟩
   ·have:b=it:=by simpa using hb
    subst this; exact ⟨o2,eo2⟩
  ·rw [zD (hTne b hb)]; exact (hf b hb).1
 done:=by
  intro X hP hw hK hc i pins s σ H E I hf st hg;subst hP hw hK;obtain ⟨xs,hq,hx⟩:=hg;obtain ⟨its,rv,p,hz⟩:=I.list hq;obtain ⟨⟨old,he⟩,hit⟩:=st;have hl:=rv.length;refine wpAny_pyNext_enum_end (I.ok.hd hc) he hit p.isList (Array.getElem?_eq_none (by simp; omega)) λh' hk=>⟨rfl, ?_⟩
  obtain ⟨f0,f1,f2,f3,f4,f5⟩:=hf it (by simp)
  exact I.turned (t' :=s.toks) (λb o hb e=>hk b o hb e) f0 f1 f3 f4 f5
 self:=λ_ _ _ _ _ st h=>let ⟨⟨_,he⟩,_⟩:=st; wpAny_pyIter_enum he h
def jo (xs:List T):List T:=(xs.zipIdx).map λp=>T.tup [.int (p.2:Nat),p.1]
theorem wD {xs:List T} {i:Nat} {t:T} (h:(jo xs)[i]? =some t):∃ x,xs[i]? =some x/\t= .tup [.int (i:Nat),x]:=by
 unfold jo at h;rw [List.getElem?_map,List.getElem?_zipIdx] at h;cases e:xs[i]? with
 | none=>rw [e] at h; cases h
 | some x=>rw [e] at h; cases h; exact ⟨x,rfl,by simp⟩
theorem jN (xs:List T):(jo xs).length=xs.length:=by unfold jo; simp
theorem xb {K:PySem.W.Frag} {B1 H1:Hp} {a:Addr} {xs:List V} {ts:List T} (h:B1 a=some (.lst xs)) (r:zT B1 xs ts):rI B1 H1 (Ite K a) (jo ts):=λB2 H2 s1 s2=>by
 have h2:=s2 _ _ (s1 _ _ h);rw [jN];refine ⟨λi hi=> ?_,λi t x H3 e y=> ?_,λi hi=>⟨xs,SqL.of h2,by rw [r.length]; exact hi⟩⟩
 ·obtain ⟨v,e,_⟩:=r.get (List.getElem?_eq_getElem hi);exact ⟨xs,v,SqL.of h2,e⟩
 ·obtain ⟨p,v,hp,rfl,y,rfl⟩:=y;obtain ⟨t',et,rfl⟩:=wD e;obtain ⟨v',e1,r1⟩:=r.get et;have:=y xs (SqL.of h2);rw [e1] at this; cases this;refine ⟨zJ.new hp _, .tup (jI hp _) (.cons (.int _) (.cons ?_ .nil))⟩;exact (r1.mono s1).mono (Za.ge s2 (zJ.new hp _))
section
variable {X:Cx} {Y:Fx} {a:Expr} {fa:En->R T} {pos p pt:Pos} {elts:List Expr} {kk:Nat}
theorem xf {ta:TA} (hg:Gl X "enumerate") (hm:X.mg "enumerate"=none) (ha:PA X [a] ta) (hs:St1 X a:=by exact st1 rfl):
  PI X (.Tuple elts kk pt) (.Call (.Name "enumerate" p) [a] [] pos) (λσ H R=>ta σ H λvs H1=>∃ l xs,vs=[.ref l]/\H1 l=some (.lst xs)/\R (Ite X.K l) H1):=by
 intro pins s σ H R I h;refine Call_ (Ji I hg hm PyProof.Rows.Boot.«enumerate» (PyProof.Rows.callWith_type1 (thn (ha pos pins s σ H _ I h) λus s1 ⟨vs,H1,I1,r1,q1⟩=> ?_) hs rfl));obtain ⟨l,xs,e,hl,q⟩:=q1;subst e;obtain ⟨u,rfl,ru⟩:=jD r1;obtain rfl:u=Value.ref l:=ru;obtain ⟨_,its,n,rv,eo⟩:=(show ZD X.prog X.w H1 s1.heap l (.lst xs) from I1.hok l _ hl);have hlt:l < s1.heap.objs.size:=Heap.lt_size eo;refine call_enumerate_1 eo λh' he hit hsz hk=>wpAny_pyIter_enum he ?_;have f:∀ b∈[s1.heap.objs.size+1,s1.heap.objs.size],u5 X pins H1 b:=λb hb=>by
  rcases List.mem_cons.mp hb with rfl | hb
  ·exact I1.fpOk (Nat.le_succ _) (I1.hok.fresh (Nat.le_succ _))
  ·have z:b=s1.heap.objs.size:=by simpa using hb
   subst z;exact I1.fpOk (Nat.le_refl _) (I1.hok.fresh (Nat.le_refl _))
 exact ⟨s1.heap.objs.size+1,[s1.heap.objs.size+1,s1.heap.objs.size],_,_,H1,rfl,I1.kept (t' :=s1.toks) hk,YH _ _ l (Nat.succ_ne_self _) (Nat.ne_of_lt (Nat.lt_succ_of_lt hlt)) (Nat.ne_of_lt hlt),⟨⟨_,he⟩,hit⟩,f,q⟩
def xg (fa:En->R T):En->R (List T):=λρ=>(fa ρ).bind λt=>match t with
 | .lst xs=> .ok (jo xs)
 | _=> .bad
theorem kI (hg:Gl X "enumerate") (hm:X.mg "enumerate"=none) (ha:Snd X Y a fa) (hs:St1 X a:=by exact st1 rfl):yV X Y (.Tuple elts kk pt) (.Call (.Name "enumerate" p) [a] [] pos) (xg fa):= .mk λρ=>
 PI.imp (xf hg hm (zA (ha ρ) Zf hs) hs) λσ H R ⟨B,I,q⟩=>step I q λt v H1 _ s1 r1 I1 q1=>by
  cases r1 with
  | @lst l xs ts h r=>exact ⟨l,xs,rfl,I1.sB _ _ h,j2 I1 (show Po Y rI _ H1 (.ok (jo ts)) R from q1) (xb h r)⟩
  | _=>exact q1.elim
def U4:List T->Option (List Str)
 | []=>some []
 | .str x :: r=>match U4 r with | some ys=>some (x :: ys) | none=>none
 | _ :: _=>none
def QJ (sep:Str):T->R T
 | .lst ts=>match U4 ts with
  | some ys=>if (ys.map (·.length)).sum+ys.length*sep.length<=16777216 then .ok (.str (Txt.join sep ys)) else .bad
  | none=> .bad
 | _=> .bad
theorem Wv {H:Hp}:∀ {xs:List V} {ts:List T} {its:List Value} {ys:List Str},zT H xs ts->Zy xs its->U4 ts=some ys->StrsAre its ys
 | _,_,_,ys, .nil, .nil,h=>by
  have h' :some []=some ys:=h;cases h'; exact .nil
 | _,_,_,ys, .cons (t:=t) r rs, .cons (b:=u) rv vs,h=>by
  cases r with
  | str x=>
   unfold U4 at h;split at h
   ·rename_i zs e;cases h;obtain ⟨tk,rfl⟩:=rv;exact .cons x tk (Wv rs vs e)
   ·cases h
  | _=>cases h
theorem xh:MtR X "str.join" (λx xs H Q=>∃ z l zs ts ys,x= .str z/\xs=[.ref l]/\H l=some (.lst zs)/\zT H zs ts/\U4 ts=some ys/\(ys.map (·.length)).sum+ys.length*z.length<=16777216/\Q (.str (Txt.join z ys)) H):=by
 intro pins s σ H x xs v us Q I rx rv h;obtain ⟨z,l,zs,ts,ys,rfl,rfl,hl,r,e,hb,q⟩:=h;obtain ⟨t,rfl⟩:=rx;obtain ⟨u,rfl,ru⟩:=jD rv;obtain rfl:u=Value.ref l:=ru;obtain ⟨its,rv,p,_⟩:=Zj I (.inl hl) r;exact join_list p (by simpa using Wv r rv e) hb λt' k=>⟨.str _,H,I.tok k,⟨t',rfl⟩,q⟩
theorem vX {z:Str} {kc:Nat} {pz pa:Pos} (ha:Jl X Y a fa) (hb:attributeBase (.Constant (.str z) kc pz) "join" X.env (eval (.Constant (.str z) kc pz) X.env)=eval (.Constant (.str z) kc pz) X.env:=by rfl) (hs:St1 X a:=by exact st1 rfl)
  (hz:(pa.endLine == p.line)=true:=by rfl):Snd X Y (.Call (.Attribute (.Constant (.str z) kc pz) "join" pa) [a] [] p) (ap1 (QJ z) fa):= .mk λρ=>by
 have e1:(((((backTo p (starEach [a] X.env)).all λx=> !x.fst) && (backToKw p (keywordEach [] X.env)).all λx=>x.fst.isSome) && decide (([a].length+([]:List Keyword).length+if ([]:List Keyword).isEmpty=true then 0 else 1) < 30))=true):=by rw [hs]; rfl
 refine PE.imp (ue PySem.F.plainAttrs_str PySem.F.slot_str_join PySem.F.type_str_join xh vH (zA (ha ρ) Zf hs) hb e1 hz hs rfl) λσ H Q ⟨B,I,q⟩=> ?_;refine ⟨rfl,step I q λt v H1 _ s1 r1 I1 q1=> ?_⟩;cases r1 with
 | @lst l xs ts h r=>
  have q1:Po Y rC _ H1 (match U4 ts with | some ys=>if (ys.map (·.length)).sum+ys.length*z.length<=16777216 then .ok (.str (Txt.join z ys)) else .bad | none=> .bad) Q:=q1
  split at q1
  ·rename_i ys e;split at q1
   ·rename_i hl;exact ⟨z,l,xs,ts,ys,rfl,rfl,h,r,e,hl,po0 I1.sB q1 rfl (.str _)⟩
   ·exact q1.elim
  ·exact q1.elim
 | _=>exact q1.elim
end
def dd:List Str->List Str->List Str
 | acc,[]=>acc
 | acc,x :: r=>dd (if x∈acc then acc else acc++[x]) r
section
variable {prog:Program} {w:World} {A:Around} {R:Result->Shared->Prop} {I:Addr} {fp wr:List Addr} {n:Nat} {P:Nat->Value->Prop} {St:Nat->Heap->Prop}
theorem jX {h h' :Heap} {S:Addr} {f g:Str->Bool} {m k:Nat} (x:h.SetOf (strKind prog w) S f m) (e:∀ o,h.get? S=some o->h'.get? S=some o) (ef:f=g) (em:m=k):h'.SetOf (strKind prog w) S g k:=by
 subst ef em;obtain ⟨o,es,ep,t,ho,r⟩:=x;exact ⟨o,es,ep,t,e o ho,r⟩
theorem QK (W:Walks prog w A.in1 I fp wr n P St) (S:Addr) (hSf:S ∉ fp) (val:Nat->Str) (hval:∀ i v,P i v->∃ t,v=Value.str (val i) t) (hb:n+1 < scanBound):
  ∀ (k i:Nat) (acc:List Str) (s:Shared),n - i=k->i<=n->acc.length<=i->St i s.heap->s.heap.SetOf (strKind prog w) S (λx=>decide (x∈acc)) acc.length->
   (∀ h' tk,(∀ b o,b ∉ S :: wr->s.heap.get? b=some o->h'.get? b=some o)->h'.SetOf (strKind prog w) S (λx=>decide (x∈dd acc ((List.range' i k).map val))) (dd acc ((List.range' i k).map val)).length->
    R (.ok (.ret .none)) { s with heap:=h',toks:=tk })->codeAny (model prog w) A (.builtin "set.update.loop" ⟨[.ref S, .ref I],[]⟩) R s:=by
 intro k
 induction k with
 | zero=>
  intro i acc s hk hi hal hst hS hR;obtain rfl:i=n:=by omega
  refine codeAny_builtin F.entry_set_update_loop ?_;rw [Around.under_plainId F.plain_set_update_loop _];refine wpAny_bind (m:=pyNext (.ref I)) (W.done s _ _ hst λh' tk hk' =>wpAny_pure ?_);exact hR h' tk (λb o hb e=>hk' b o (λz=>hb (List.mem_cons_of_mem _ z)) e) (jX hS (λo e=>hk' S o (λz=>hSf (W.sub _ z)) e) rfl rfl)
 | succ k ih=>
  intro i acc s hk hi hal hst hS hR;refine codeAny_builtin F.entry_set_update_loop ?_;rw [Around.under_plainId F.plain_set_update_loop _];refine wpAny_bind (m:=pyNext (.ref I)) (W.item i s _ _ (by omega) hst λv h1 tk1 hP hst1 hk1=> ?_)
  obtain ⟨t,rfl⟩:=hval i v hP;have hS1:=jX hS (λo e=>hk1 S o (λz=>hSf (W.sub _ z)) e) rfl rfl;refine wpAny_bind (m:=holding [Value.str (val i) t] (setAdd S (.str (val i) t))) (wpAny_holding ?_);unfold setAdd;have isk:(strKind prog w).is (val i) (.str (val i) t)=true:=strKind_is _ _ _ _;refine wpAny_holding (wpAny_bind ((strKind prog w).pyHash isk ?_));refine wpAny_setAddHashed_of (knd:=strKind prog w) (s:={ s with heap:=h1,toks:=tk1+1 }) isk rfl hS1 (by omega) λh2 hsb hS2=> ?_
  have e2:(if decide (val i∈acc)=true then acc.length else acc.length+1)=(if val i∈acc then acc else acc++[val i]).length:=by
   by_cases hm:val i∈acc
   ·simp [hm]
   ·simp [hm]
  have e1:(λx=>decide (x∈acc) || decide (x=val i))=(λx=>decide (x∈(if val i∈acc then acc else acc++[val i]))):=by
   funext x
   by_cases hm:val i∈acc
   ·simp only [if_pos hm]
    by_cases hx:x=val i
    ·subst hx; simp [hm]
    ·simp [hx]
   ·simp [hm,Bool.decide_or]
  have hS3:=jX (h' :=h2) hS2 (λo e=>e) e1 e2;refine wpAny_pure ⟨plainId_quiet F.plain_set_update_loop _,ih (i+1) _ _ (by omega) (by omega) ?_ (W.frame _ h1 _ hst1 λb hb o e=> ?_) hS3 λh3 tk3 hk3 hS4=> ?_⟩
  ·split
   ·omega
   ·rw [List.length_append,List.length_singleton]; omega
  ·exact (hsb.2 b (λz:b=S=>hSf (z ▸ hb))).trans e
  ·rw [List.range'_succ,List.map_cons] at hR;refine hR h3 tk3 (λb o hb e=>hk3 b o hb ?_) hS4;exact (hsb.2 b (λz:b=S=>hb (z ▸ List.mem_cons_self))).trans (hk1 b o (λz=>hb (List.mem_cons_of_mem _ z)) e)
end
section
variable {prog:Program} {w:World} {A:Around} {E:Value->Shared->Prop} {s:Shared}
set_option maxRecDepth 100000 in
set_option maxHeartbeats 3200000 in
theorem YI {l:Addr} {its:List Value} {ys:List Str} {Q:Value->Shared->Prop} (hh:A.handled=none) (hl:s.heap.IsList l its.toArray) (hi:StrsAre its ys) (hb:its.length+1 < scanBound)
  (h:∀ (h' :Heap) (tk:Nat),h'.SetOf (strKind prog w) s.heap.objs.size (λx=>decide (x∈dd [] ys)) (dd [] ys).length->(∀ b o,b < s.heap.objs.size->s.heap.get? b=some o->h'.get? b=some o)->
   Q (.ref s.heap.objs.size) { s with heap:=h',toks:=tk }):wpAny (model prog w) A (call (.type "set") [.ref l]) Q E s:=by
 have getv:∀ {its:List Value} {ys:List Str},StrsAre its ys->its.length=ys.length/\∀ (i:Nat) (v:Value),its[i]? =some v->∃ t,v=Value.str (ys.getD i ⟨#[]⟩) t:=λ{its ys} hi=>by
  induction hi with
  | nil=>exact ⟨rfl,λi v e=>by simp at e⟩
  | cons y t _ ih=>
   refine ⟨by simp [ih.1],λi v e=> ?_⟩
   cases i with
   | zero=>exact ⟨t,by simpa using e.symm⟩
   | succ i=>exact ih.2 i v (by simpa using e)
 obtain ⟨hlen,hget⟩:=getv hi;have hys:(List.range' 0 its.length).map (λi=>ys.getD i ⟨#[]⟩)=ys:=by
  rw [hlen];refine List.ext_getElem? λi=> ?_;rw [List.getElem?_map]
  by_cases hi' :i < ys.length
  ·rw [List.getElem?_range' hi',List.getElem?_eq_getElem hi'];simp [List.getElem?_eq_getElem hi']
  ·rw [List.getElem?_eq_none (by simp; omega),List.getElem?_eq_none (by omega)]
   rfl
 obtain ⟨c,tl,hmro⟩:=F.called_set.mro;have hmade:=F.called_set.made;have hsub:=F.called_set.sub;have h1:=F.called_set.notType;have h2:=F.called_set.canCreate;have hct:=F.typeCall_set_1 (.ref l);refine wpAny_call (codeAny_of_tree (show wpAny _ _ (callAny (.type "set") _) _ _ _ from ?_));refine wpAny_pure ⟨Code.quiet_builtin _ (by decide+kernel),codeAny_builtin F.entry_type_call ?_⟩
 rw [Around.under_plain (weight_type_call_type "set" [.ref l] []) rfl]
 repeat any_goals (first | assumption | wp_step)
 refine codeAny_mono (code_set_new_1 (.ref l) (E:=E) (Q₁:=λobj s₁=>∃ led:Bool,obj= .ref s.heap.objs.size/\s₁={ s with heap:=s.heap.push { cls:= .type "set",dict:=none,data:= .set #[] 0 (.fresh 0 0 led) } }) λled=>⟨led,rfl,rfl⟩) λr s₁ hr=> ?_;cases r with
 | error e=>exact hr
 | ok fl=>
  cases fl with
  | ret obj=>
   obtain ⟨led,rfl,rfl⟩:=hr;generalize hG:s.heap.push { cls:= .type "set",dict:=none,data:= .set #[] 0 (.fresh 0 0 led) }=G;have hS:G.get? s.heap.objs.size=some { cls:= .type "set",dict:=none,data:= .set #[] 0 (.fresh 0 0 led) }:=by rw [← hG]; exact Heap.get?_push_size _ rfl
   have hGs:G.objs.size=s.heap.objs.size+1:=by rw [← hG,Heap.size_push]
   have hGk:∀ b o,s.heap.get? b=some o->G.get? b=some o:=λb o e=>by rw [← hG]; exact Heap.get?_push_of_some _ e
   have hT:Shared.TypeIs { s with heap:=G } (.ref s.heap.objs.size) "set":=⟨_,hS,rfl⟩;have hli:=F.called_set.init.lookup;have hbi:=F.called_set.init.bind (.ref s.heap.objs.size)
   repeat any_goals (first | assumption | wp_step)
   refine codeAny_mono (codeAny_call_builtin (R:=wants (λr s₂=>r= .none/\∃ h' tk,s₂={ s with heap:=h',toks:=tk }/\h'.SetOf (strKind prog w) s.heap.objs.size (λx=>decide (x∈dd [] ys)) (dd [] ys).length/\
     (∀ b o,b < s.heap.objs.size->s.heap.get? b=some o->h'.get? b=some o)) E) F.called_set.init.plain F.entry_set_init (check_set_init_1 hT ?_)) λr₂ s₂ hr₂=> ?_
   ·obtain ⟨⟨ocls,odict,odata,oslots⟩,hol,hcl,nl,hdl⟩:=hl;simp only at hcl hdl;subst hcl; subst hdl;have hol' :=hGk _ _ hol;have hsls:=F.sub_list_set;have hslf:=F.sub_list_frozenset;have hne:(Value.type "list" == Value.type "dict")=false:=by decide
    have hl1:G.IsList l its.toArray:=⟨_,hol',rfl,nl,rfl⟩;have hlS:l < s.heap.objs.size:=Heap.lt_size hol;unfold Builtin.«set.__init__» noKeywords Builtin.Frozenset.updateFrom;generalize hPI:pyIter=PI
    wp_walk
    subst hPI;refine wpAny_pyIter_list hl1 (wpAny_bind (wpAny_runValue ?_));have hSf:s.heap.objs.size ∉ [G.objs.size,l]:=by
     rw [hGs];intro z;rcases List.mem_cons.mp z with z | z
     ·exact absurd z (Nat.ne_of_lt (Nat.lt_succ_self _))
     ·exact absurd (List.mem_singleton.mp z) (Nat.ne_of_gt hlS)
    refine QK (Walks.list (A:=A.in1.in1.in1) (by simp [hh]) G.objs.size l (by rw [hGs]; exact Nat.ne_of_lt (Nat.lt_succ_of_lt hlS)) its.toArray) s.heap.objs.size hSf (λi=>ys.getD i ⟨#[]⟩) (λi v e=>hget i v (by simpa using e)) (by simpa using hb) its.length 0 [] _ (by simp) (Nat.zero_le _) (Nat.le_refl _)
     ⟨⟨_,Heap.get?_push_size _ rfl,rfl,rfl⟩,hl1.push _⟩ ?_ ?_
    ·have hget' :(G.push { cls:= .type "list_iterator",data:= .fields #[.ref l, .int 0 0] }).get? s.heap.objs.size=some { cls:= .type "set",dict:=none,data:= .set #[] 0 (.fresh 0 0 led) }:=Heap.get?_push_of_some _ hS;exact jX ((PyProof.Rows.setObjOf_fresh (knd:=strKind prog w) led).setOf hget' (by unfold scanBound; omega)) (λo e=>e) (by funext x; simp) rfl
    ·intro h' tk' hm hS';rw [hys] at hS';refine wpAny_pure (show wpAny _ _ (ret Value.none) _ _ _ from wpAny_pure ⟨rfl,h',tk',rfl,hS',λb o hb e=> ?_⟩);refine hm b o (λz=> ?_) (Heap.get?_push_of_some _ (hGk b o e));rcases List.mem_cons.mp z with z | z
     ·exact absurd z (Nat.ne_of_lt hb)
     ·have z' :b=G.objs.size:=List.mem_singleton.mp z;rw [hGs] at z';exact absurd z' (Nat.ne_of_lt (Nat.lt_succ_of_lt hb))
   ·cases r₂ with
    | error e=>exact hr₂
    | ok fl₂=>
     cases fl₂ with
     | ret r=>
      obtain ⟨rfl,h',tk,rfl,hS',hk'⟩:=hr₂
      repeat any_goals (first | assumption | wp_step)
      exact h _ _ hS' hk'
     | _=>exact hr₂.elim
  | _=>exact hr.elim
end
section
variable {X:Cx} {Y:Fx} {a b:Expr} {fa fb:En->R T} {pos pos' p p' :Pos}
theorem YJ (hh:X.A.handled=none):ji X (.type "set") (λvs H Q=>∃ l xs ts ys,vs=[.ref l]/\H l=some (.lst xs)/\zT H xs ts/\U4 ts=some ys/\ts.length+1 < 4096/\
  ∀ q,H q=none->Q (.ref q) (upd H q (.ext λh=>h.SetOf (strKind X.prog X.w) q (λx=>decide (x∈dd [] ys)) (dd [] ys).length))):=by
 intro pins s σ H vs us Q I rv h;obtain ⟨l,xs,ts,ys,rfl,hl,r,ey,hb,q⟩:=h;obtain ⟨u,rfl,ru⟩:=jD rv;obtain rfl:u=Value.ref l:=ru;obtain ⟨its,rv,pl,hln,_⟩:=Zj I (.inl hl) r;refine YI hh pl (Wv r rv ey) (by unfold scanBound; omega) λh' tk hS hk=> ?_
 refine ⟨.ref s.heap.objs.size,_,I.laid (t' :=tk) (λb u e=>hk b u (Heap.lt_size e) e) (Nat.le_refl _) ?_,rfl,q _ (I.hok.fresh (Nat.le_refl _))⟩;obtain ⟨o,es,ep,t,ho,rr⟩:=id hS;exact ⟨hS,⟨o,ho⟩,λh1 h2 ⟨o1,es1,ep1,t1,ho1,rr1⟩ e=>⟨o1,es1,ep1,t1,e _ ho1,rr1⟩⟩
theorem YK:ji X (.builtin "len") (λvs H Q=>∃ q φ f n,vs=[.ref q]/\H q=some (.ext φ)/\(∀ h:Heap,φ h->h.SetOf (strKind X.prog X.w) q f n)/\Q (.int n) H):=by
 intro pins s σ H vs us Q I rv h;obtain ⟨l,φ,f,n,rfl,hl,hφ,q⟩:=h;obtain ⟨u,rfl,ru⟩:=jD rv;obtain rfl:u=Value.ref l:=ru;obtain ⟨h1,_,_⟩:=(show ZD X.prog X.w H s.heap l (.ext φ) from I.hok l _ hl);obtain ⟨o,es,ep,t,ho,hex,hd,_,_,hb,hf,hn⟩:=hφ _ h1;refine call_len_set ho hex hd hf ?_ ⟨.int es.size,H,I.tok _,⟨_,rfl⟩,by rw [hn]; exact q⟩
 have:es.size < 4096:=hb;omega
def QL:T->R T
 | .lst ts=>match U4 ts with
  | some ys=>if ts.length+1 < 4096 then .ok (.int (dd [] ys).length) else .bad
  | none=> .bad
 | _=> .bad
theorem kJ (hh:X.A.handled=none) (gl:Gl X "len") (mg:X.mg "len"=none) (gl' :Gl X "set") (mg' :X.mg "set"=none) (ha:Jl X Y a fa) (hs:St1 X a:=by exact st1 rfl) (hs' :St1 X (.Call (.Name "set" p') [a] [] pos'):=by exact st1 rfl):
  Snd X Y (.Call (.Name "len" p) [.Call (.Name "set" p') [a] [] pos'] [] pos) (ap1 QL fa):= .mk λρ=>
 PE.imp (jW YK gl mg PySem.boot_len (zA (Jj (YJ hh) gl' mg' PyProof.Rows.Boot.«set» (zA (ha ρ) Zf hs) (by decide) (by decide) hs rfl) Zf hs') (by decide) (by decide) hs' rfl) λσ H Q ⟨B,I,q⟩=>
  step I q λt v H1 _ s1 r1 I1 q1=>by
   cases r1 with
   | @lst l xs ts h r=>
    have q1:Po Y rC _ H1 (match U4 ts with | some ys=>if ts.length+1 < 4096 then .ok (.int (dd [] ys).length) else .bad | none=> .bad) Q:=q1
    split at q1
    ·rename_i ys e;split at q1
     ·rename_i hl;refine ⟨l,xs,ts,ys,rfl,h,r,e,hl,λz hz=>⟨z,_,_,_,rfl,Zc,λh hh=>hh, ?_⟩⟩;exact q1 _ _ (zJ.new hz _) (.int _)
     ·exact q1.elim
    ·exact q1.elim
   | _=>exact q1.elim
def gi (i j:Nat) (ga:En->R (List T)):En->RS:=λρ=>(ga ρ).s λts=>match ts with
 | [x,y]=> .nx ((ρ.set i (.vl x)).set j (.vl y))
 | _=> .bad
theorem Go {i j:Nat} {x y:Str} {ga:En->R (List T)} {px py pt pt2:Pos} {kt k2:Nat} (hc:X.calm=true) (hN:X.N.Nodup) (hi:X.N[i]? =some x) (hj:X.N[j]? =some y) (hij:i ≠ j) (hx:X.env.scope.names.lookup x=some .local) (hy:X.env.scope.names.lookup y=some .local)
  (ha:U0 X Y [a,b] ga) (hs:swappedStores [.Tuple [.Name x px, .Name y py] kt pt] (.Tuple [a,b] k2 pt2) X.env=pure (some [x,y])) (hw:swapsWithSole [.Tuple [.Name x px, .Name y py] kt pt] (.Tuple [a,b] k2 pt2) pos.line X.env=pure false:=by rfl):
  um X Y (.Assign [.Tuple [.Name x px, .Name y py] kt pt] (.Tuple [a,b] k2 pt2) pos) (gi i j ga):= .mk λρ=>
 PS.imp (k6 hc hN hi hj hij hx hy (ha ρ) hs hw) λD σ H ⟨B,I,q⟩=>Wr I q λts vs H1 _ s1 r1 I1 q1=>by
  cases r1 with
  | nil=>exact q1.elim
  | cons r rr=>
   cases rr with
   | nil=>exact q1.elim
   | cons r' rr=>
    cases rr with
    | cons _ _=>exact q1.elim
    | nil=>exact ⟨_,_,rfl,q1 _ _ _ (zJ.refl _) ((I1.setV i r).setV j r')⟩
end
theorem kK {X:Cx} {E:XK}:jA CX0 X E:=λ_ _ _ _ _ _ _ h=>h.elim
section
variable {X:Cx} {Y:Fx} {a b:Expr} {fa fb:En->R T} {pos pos' p p' :Pos}
theorem xi {cl:Nat->Value} {k j n:Nat} {f:Addr} {fd:FuncData} {ps:List Str} {g:List T->R T} {x:Str} {es:List Expr} {ga:En->R (List T)} (hy:Y.cl=cl) (F:Zm X.prog X.w X.K X.mg X.base CX0 j f fd ps (spP cl n g)) (hr:Jz k X.A) (hj:j<=k) (gl:Gl X x)
  (mg:X.mg x=some (.ref f)) (kp:PySem.W.keepIn X.K (.ref f)=true) (bd:L2.Binds X.K fd ps []) (ha:U0 X Y (a :: es) ga) (hd:(x == ("__debug__":Str))=false:=by decide)
  (hs:starEach (a :: es) X.env=(false,eval a X.env) :: starEach es X.env:=by exact Zo rfl) (hz:((backTo pos (starEach es X.env)).any λx=>x.fst)=false:=by exact j0 rfl):Snd X Y (.Call (.Name x p) (a :: es) [] pos) (zd n g ga):=by
 subst hy;exact vS F (hr.mono hj) gl mg kp bd kK ha hd hs hz
theorem xj {x:Str} {i:Int} {u:Value} (gl:Gl X x) (mg:X.mg x=some u) (hu:∃ t,u=Value.int i t) (hd:(x == ("__debug__":Str))=false:=by decide):Snd X Y (.Name x pos) (cE (.int i)):= .mk λρ=>
 PE.imp (yY (v:= .int i) gl mg hu hd) λσ H Q ⟨B,I,q⟩=>j2 I q (.int i)
end
def Gp (scope sc0:Scope):Bool:=(scope.kind == .function) && scope.names.all (λx=>x.2 != .cell) && scope.names.all (λx=>x.2 != .local || scope.names.lookup x.1 == some .local) &&
 scope.names.all (λx=>x.2 != .free || sc0.names.lookup x.1 == some .cell || sc0.names.lookup x.1 == some .free)
theorem kL {X:Cx} {scope:Scope} (sc0:Scope) (h0:X.env.scope=sc0) (h:Gp scope sc0=true):CSc X scope:=by
 unfold Gp at h;simp only [Bool.and_eq_true,List.all_eq_true] at h;obtain ⟨⟨⟨h1,h2⟩,h3⟩,h4⟩:=h;refine ⟨eq_of_beq h1,λx hx=>by simpa using h2 x hx,λx hx hl=> ?_,λx hx hf=> ?_⟩
 ·have:=h3 x hx;rw [hl] at this;simpa using this
 ·have:=h4 x hx;rw [hf] at this;show X.env.scope.names.lookup x.1=_\/X.env.scope.names.lookup x.1=_;rw [h0];simpa using this
def Gq (N N' :List Str) (scope sc0:Scope) (k:Nat) (js:List Nat):Bool:=(N'.length == k+js.length) && (List.range js.length).all λi=>match js[i]? with
 | none=>true
 | some j=>match N'[k+i]?,N[j]? with
  | some x,some y=>(x == y) && (sc0.names.lookup x == some .cell || sc0.names.lookup x == some .free) && (scope.names.lookup x == some .free)
  | _,_=>false
theorem xk {X:Cx} {scope:Scope} {N' :List Str} {k:Nat} {js:List Nat} (N:List Str) (sc0:Scope) (hN:X.N=N) (h0:X.env.scope=sc0) (h:Gq N N' scope sc0 k js=true):Gn X scope N' k js:=by
 unfold Gq at h;simp only [Bool.and_eq_true,List.all_eq_true] at h;obtain ⟨h1,h2⟩:=h;refine ⟨eq_of_beq h1,λi j e=> ?_⟩;have hi:i < js.length:=(List.getElem?_eq_some_iff.mp e).1;have q:=h2 i (List.mem_range.mpr hi);rw [e] at q;dsimp only at q;split at q
 ·rename_i x y e1 e2;simp only [Bool.and_eq_true,Bool.or_eq_true,beq_iff_eq] at q;obtain ⟨⟨rfl,q2⟩,q3⟩:=q;refine ⟨x,e1,by rw [hN]; exact e2, ?_,q3, ?_⟩
  ·unfold Vis;rw [h0];exact .inr q2
  ·show X.env.scope.names.lookup x=_\/X.env.scope.names.lookup x=_;rw [h0];exact q2
 ·cases q
theorem Zq {X:Cx} {Y:Fx} {tg iter elt:Expr} {ifs:List Expr} {scope:Scope} {k:Nat} {js:List Nat} {fi:En->R (List T)} {tG:TG} {g:T->En->R En} {ft:En->R Bool} {fe:En->R T} (N' :List Str) (N:List Str) (sc0:Scope) (hN:X.N=N) (h0:X.env.scope=sc0)
  (h:(Gp scope sc0 && Gq N N' scope sc0 k js)=true) (cm:X.calm=true) (it:yV X Y tg iter fi) (gt:Xy X scope N' λXC=>PG XC tg tG) (gk:GOk tG g) (gn:GNo g) (tt:∀ Y',Y'.cl=Y.cl->Xy X scope N' λXC=>yz XC Y' ifs ft)
  (el:∀ Y',Y'.cl=Y.cl->Gm X scope N' Y'.E λXC=>Snd XC Y' elt fe) (hs:∀ x,foldedSetIterable iter X.env x=pure x:=by intro _; rfl):UH X Y tg iter elt ifs scope N' k js fi tG g ft fe:=by
 rw [Bool.and_eq_true] at h;exact ⟨kL sc0 h0 h.1,xk N sc0 hN h0 h.2,cm,it,gt,gk,gn,tt,el,hs⟩
end PV
namespace PV
open PySem PySem.Spec PyProof.Rows L2 PySem.W
section
variable {X:Cx} {Y:Fx} {a b:Expr} {fa fb:En->R T} {pos pos' p p' :Pos}
theorem xl {cl:Nat->Value} {k j n:Nat} {f:Addr} {fd:FuncData} {ps:List Str} {g:List T->R T} {x:Str} {es:List Expr} {ga:En->R (List T)} (hy:Y.cl=cl) (hp:jA (CX1 X.prog X.w) X Y.E) (F:Zm X.prog X.w X.K X.mg X.base (CX1 X.prog X.w) j f fd ps (spP cl n g)) (hr:Jz k X.A) (hj:j<=k) (gl:Gl X x)
  (mg:X.mg x=some (.ref f)) (kp:PySem.W.keepIn X.K (.ref f)=true) (bd:L2.Binds X.K fd ps []) (ha:U0 X Y (a :: es) ga) (hd:(x == ("__debug__":Str))=false:=by decide)
  (hs:starEach (a :: es) X.env=(false,eval a X.env) :: starEach es X.env:=by exact Zo rfl) (hz:((backTo pos (starEach es X.env)).any λx=>x.fst)=false:=by exact j0 rfl):Snd X Y (.Call (.Name x p) (a :: es) [] pos) (zd n g ga):=by
 subst hy;exact vS F (hr.mono hj) gl mg kp bd hp ha hd hs hz
end
def Jr (c:Nat):En->RS:=λ_=> .ex c
section
variable {P:Program} {w:World} {K:PySem.W.Frag} {mg:Str->Option Value} {base:Heap} {N:List Str} {qual:Str} {scope:Scope} {f:Addr} {cd:Value} {A:Around} {outer:List Env} {s:Shared} {H:Hp} {E:XK} {Y:Fx}
theorem J8 {x m:Str} {C:Addr} {bm bmN:List Value} {Bn Bb newId nid initId inN:String} {np cpos pos ap:Pos} {j c:Nat} (O:OwnCls x C bm newId mg base) (Fn:ExcBaseFacts Bn newId inN bmN) (hBn:bm.contains (.type Bn)=true) (FB:ExcBaseFacts Bb nid initId bm)
  (hY:Y.E=E) (hc:Y.cl c= .ref C) (hg:Gl (wo (CX1 P w) P w K mg base N qual scope f cd A outer s H E) x) (hd:(x == ("__debug__":Str))=false:=by decide):
  um (wo (CX1 P w) P w K mg base N qual scope f cd A outer s H E) Y (.Raise (some (.Call (.Name x np) [.Constant (.str m) j ap] [] cpos)) none pos) (Jr c):= .mk λρ=>by
 subst hY;refine PS.imp (Yk O Fn hBn FB hg ((za zt zi:U0 (wo (CX1 P w) P w K mg base N qual scope f cd A outer s H Y.E) Y [.Constant (.str m) j ap] _) ρ) (Zo rfl) hd) λD σ H1 ⟨B,I,q⟩=>⟨B,I,λvs H2 s2 r2=> ?_⟩;have q:XP Y B c:=q;refine ⟨?_, ?_⟩
 ·rw [r2.length]; exact (by decide:1<=sizeLine)
 ·have:=q none H2 (I.sH.trans s2) (I.sB.trans s2);rw [hc] at this;exact this
theorem Fun.okX {x qual:Str} {st:Stmt} {f:Addr} {fd:FuncData} {N ps:List Str} {k:Nat} {sp:Sp} (F:Fun K x qual st f fd) (S:zp N ps (zf st)) (len:∀ vs H Q E,sp vs H Q E->vs.length=ps.length)
  (hbody:∀ (cdv:Value) (A:Around) (outer:List Env) (s:Shared) (H:Hp) (vs:List V) (Q:VK) (E:XK),Jz k (A.deeper (envOfC qual (zf st) s.heap.objs.size f cdv))->sp vs H Q E->
   ∃ t,PSs (wo (CX1 P w) P w K mg base N qual (zf st) f cdv A outer s H E) (ZS st) t/\t { nx:=λ_ H' =>Q .non H',rt:=Q } (start N vs) H):Zm P w K mg base (CX1 P w) (k+1) f fd ps sp:=by
 obtain ⟨oc,od,kV,doc,pm,an,cdv,ct,osl,rfl,lk,hcd⟩:=F.ex;exact kj lk hcd S len λA outer s H vs Q E hr hsp=>hbody cdv A outer s H vs Q E hr hsp
theorem jB {cl:Nat->Value} {x qual:Str} {st:Stmt} {f:Addr} {fd:FuncData} {N ps:List Str} {k n:Nat} {fb:En->RS} {g:List T->R T} (F:Fun K x qual st f fd) (S:zp N ps (zf st)) (hn:n=ps.length)
  (hb:∀ (cdv:Value) (A:Around) (outer:List Env) (s:Shared) (H:Hp) (E:XK) (Y:Fx),Y.cl=cl->Y.E=E->Jz k (A.deeper (envOfC qual (zf st) s.heap.objs.size f cdv))->
   yy (wo (CX1 P w) P w K mg base N qual (zf st) f cdv A outer s H E) Y (ZS st) fb)
  (hg:∀ ts,ts.length=n->g ts=zn (fb (en0 N.length ts))):Zm P w K mg base (CX1 P w) (k+1) f fd ps (spP cl n g):=by
 subst hn;refine Fun.okX F S spP.len λcdv A outer s H vs Q E hr ⟨B,ts,hl,sB,r,q⟩=> ?_;refine ⟨_,hb cdv A outer s H E ⟨B,H,E,cl⟩ rfl rfl hr (en0 N.length ts),B,SI.start (Y:=⟨B,H,E,cl⟩) sB r, ?_⟩;rw [hg ts hl] at q;revert q;cases fb (en0 N.length ts) with
 | rt t=>exact λq v H' s r=>q v H' s r
 | rf t=>exact λq a xs H' B' s0 n e r _ l=>q (.ref a) H' s0 (.lst (by rw [Zk n]; exact e) (r.mono l))
 | nx ρ=>exact λq σ' H' B' s' I' =>q _ H' I'.sH .non
 | bk ρ=>exact λq=>q.elim
 | ct ρ=>exact λq=>q.elim
 | ex c=>exact λq=>q
 | bad=>exact λq=>q
end
def xm (k:Nat) (ok:Nat->Bool) (fb:En->RS):En->RS:=λρ=>match fb ρ with
 | .ex c=>if ok c=true then .nx ((List.replicate ρ.length Sl.un).set k (.xc c)) else .bad
 | r=>r
theorem SI.wish {Y:Fx} {B:Hp} {ρ:En} {σ:Sg} {H:Hp} (I:SI Y B ρ σ H) (E:XK):SI { Y with E:=E } B ρ σ H:=⟨I.s0,I.sH,I.sB,I.old,I.len,I.vl,I.ow,I.xc⟩
theorem SI.unwish {Y:Fx} {B:Hp} {ρ:En} {σ:Sg} {H:Hp} {E:XK} (I:SI { Y with E:=E } B ρ σ H):SI Y B ρ σ H:=⟨I.s0,I.sH,I.sB,I.old,I.len,I.vl,I.ow,I.xc⟩
theorem SI.caught {Y:Fx} {B:Hp} {σ:Sg} {H' :Hp} {ea:Addr} {c k m:Nat} (s0:zJ Y.B0 Y.H0) (old:∀ b o,Y.H0 b=some o->B b=Y.B0 b) (hH:zJ Y.H0 H') (hB:zJ B H') (he:H' ea=none) (hl:m=σ.length) (hk:σ[k]? =some (some (V.ref ea))):
  ∃ B',zJ B B' /\SI Y B' ((List.replicate m Sl.un).set k (.xc c)) σ (upd H' ea (.ext (uZ (Y.cl c) ea))):=by
 have up:zJ H' (upd H' ea (.ext (uZ (Y.cl c) ea))):=zJ.new he _;have h0:Y.H0 ea=none:=hH.free he;refine ⟨Za Y.B0 Y.H0 (upd H' ea (.ext (uZ (Y.cl c) ea))),λb o e=> ?_,⟨s0,hH.trans up,λb o e=> ?_,λb o e=>by rw [Zw e],by rw [List.length_set,List.length_replicate,hl],λi t e=> ?_,λi ts e=> ?_,λi d e=> ?_⟩⟩
 ·cases q:Y.H0 b with
  | none=>rw [Zk q]; exact up b o (hB b o e)
  | some u=>rw [Zw q,← old b u q]; exact e
 ·cases q:Y.H0 b with
  | none=>rw [Zk q] at e; exact e
  | some u=>rw [Zw q] at e; exact up b o (hH b o (s0 b o e))
 ·rcases Z0 e with ⟨_,z⟩ | ⟨_,z⟩
  ·cases z
  ·rw [List.getElem?_replicate] at z; split at z <;> cases z
 ·rcases Z0 e with ⟨_,z⟩ | ⟨_,z⟩
  ·cases z
  ·rw [List.getElem?_replicate] at z; split at z <;> cases z
 ·rcases Z0 e with ⟨rfl,z⟩ | ⟨_,z⟩
  ·cases z;exact ⟨ea,hk,by rw [Zk h0,Zc]⟩
  ·rw [List.getElem?_replicate] at z; split at z <;> cases z
theorem Gr {X:Cx} {Y:Fx} {fb:En->RS} {body:List Stmt} {c n y:Str} {C:Addr} {cp np yp hp apos pos:Pos} {i k:Nat} {ok:Nat->Bool}
  (hX:X.stack=X.env :: X.outer) (hf:X.env.frame=some X.env.locals) (hN:X.N.Nodup)
  (hi:X.N[i]? =some n) (hl:X.env.scope.names.lookup n=some .local) (hk:X.N[k]? =some y) (hy:X.env.scope.names.lookup y=some .local) (hik:i ≠ k)
  (hg:Gl X c) (hm:X.mg c=some (.ref C)) (hok:∀ c,ok c=true->exmOne X.K (Y.cl c) (.ref C)=some true)
  (hb:∀ (E' :XK) (pn:List (Addr×Obj)) (xe:Value->Shared->Prop),jA (CX1 X.prog X.w) (X.try' pn xe) E' ->yy (X.try' pn xe) { Y with E:=E' } body fb)
  (hs:swapsWith (.Name n np) (some (.Name y yp)) apos.line X.env=pure false:=by rfl)
  (hdc:(c == ("__debug__":Str))=false:=by decide) (hdn:(n == ("__debug__":Str))=false:=by decide) (hcd:(n == ("__classdict__":Str))=false:=by decide):
  um X Y (.Try body [.ExceptHandler (some (.Name c cp)) (some n) [.Assign [.Name y yp] (.Name n np) apos] hp] [] [] pos) (xm k ok fb):= .mk λρ=>by
 refine PS.imp (VH (tb:=λE' =>tSS { Y with E:=E' } fb ρ) hX hf hN hi hl hk hy hg hm (λE' pn xe p=>hb E' pn xe p ρ) hs hdc hdn hcd) λD σ H ⟨B,I,q⟩=> ?_;refine ⟨λcls _ H' =>zJ Y.H0 H' /\zJ B H' /\∃ c,cls=Y.cl c/\ok c=true/\PoS Y B (.nx ((List.replicate ρ.length Sl.un).set k (.xc c))) D,λcls d H' ea σ' ⟨s1,s2,c,e1,e2,q1⟩=> ?_,B,I.wish _, ?_⟩
 ·subst e1;refine ⟨hok c e2,λhe hl' hX' => ?_⟩;have hkl:k < σ'.length:=by rw [hl',hX']; exact (List.getElem?_eq_some_iff.mp hk).1
  have hlen:ρ.length=((((σ'.set i (some (V.ref ea))).set k (some (V.ref ea))).set i none):Sg).length:=by
   rw [List.length_set,List.length_set,List.length_set,hl',I.len]
  obtain ⟨B',b1,b2⟩:=SI.caught (c:=c) (σ:=((σ'.set i (some (V.ref ea))).set k (some (V.ref ea))).set i none) (k:=k) I.s0 I.old s1 s2 he hlen (by
   rw [List.getElem?_set_ne hik,List.getElem?_set_self (by rw [List.length_set]; exact hkl)])
  exact q1 _ _ B' b1 b2
 ·unfold xm at q;cases e:fb ρ with
  | nx ρ' =>rw [e] at q; exact λσ' H' B' s' I' =>q σ' H' B' s' I'.unwish
  | rt t=>rw [e] at q; exact q
  | rf t=>rw [e] at q; exact q
  | bk ρ' =>rw [e] at q; exact λσ' H' B' s' I' =>q σ' H' B' s' I'.unwish
  | ct ρ' =>rw [e] at q; exact λσ' H' B' s' I' =>q σ' H' B' s' I'.unwish
  | bad=>rw [e] at q; exact q
  | ex c=>
   rw [e] at q;dsimp only at q;split at q
   ·rename_i hc;exact λd H' s1 s2=>⟨s1,s2,c,rfl,hc,q⟩
   ·exact q.elim
end PV
namespace PySem.W
open PySem PySem.Calls PyProof.Rows PySem.Spec Builtin Builtin.ObjectAttr Builtin.Getset_descriptor
section
variable {prog:Program} {w:World} {A:Around} {E:Value->Shared->Prop} {s:Shared} {K:Frag} {x C:Addr}
theorem ur {tp:Value} {R:Result->Shared->Prop} (X:K.In s.heap) (L0:Looks (model prog w) s.heap (typeOf (.ref x)) (.ref C)) (hm:mroIn K C (.type "object")=some true)
  (h:R (.ok (.ret (.ref C))) s):codeAny (model prog w) A (.call (.builtin "getset_descriptor.__get__") ⟨[.builtin "object.__class__", .ref x,tp],[]⟩) R s:=by
 obtain ⟨hh,g,dr,t,os⟩:=s;have L1:=looks_mroIn (M:=model prog w) X hm;refine codeAny_call_builtin KF.slot_gs.plain KF.entry_gs (KF.slot_gs.check _ _ _ _ _ _ _ _ KF.type_class (KF.args_gs _ _ _) ?_);unfold Builtin.«getset_descriptor.__get__» descrGet;rw [dga_obj];refine wpAny_bind (wpAny_pure ?_);unfold descrGetter descrCheckInstance descrNameAndClass isInstance;simp only [KF.owner_class]
 repeat lk
 refine ⟨Code.quiet_builtin _ (by decide+kernel),codeAny_builtin KF.entry_class ?_⟩
 unfold Builtin.«object.__class__» shownTypeOf
 repeat lk
 exact h
theorem xn {M:Model} {h:Heap} (X:K.In h) (ha:findIn K (.ref C) "__class__"=some (some (.builtin "object.__class__"))) (hn:specialIn K (.builtin "object.__class__") "__get__"=some (some (.builtin "getset_descriptor.__get__")))
  (htk:takesIn K (.builtin "object.__class__")=some true):Looks M h (find (.ref x) (.ref C) "__class__") (.bind (.builtin "getset_descriptor.__get__") (.builtin "object.__class__")):=by
 have L1:=looks_findIn (M:=M) X ha;have L2:Looks M h (getOf (some (.builtin "object.__class__"))) (some (.builtin "getset_descriptor.__get__")):=looks_specialIn X hn;have L3:=looks_takesIn (M:=M) X htk;refine L1.andThen (L2.andThen ?_);exact (show Looks M h (dataDescriptor? (some (.builtin "object.__class__")) (some (.builtin "getset_descriptor.__get__"))) (some (.builtin "getset_descriptor.__get__", .builtin "object.__class__")) from L3.andThen .now).andThen (Looks.tag .now)
theorem QM {M:Model} {nameV:Value} {Q:Unit->Shared->Prop} (L0:Looks M s.heap (typeOf (.ref x)) (.ref C)) (L1:Looks M s.heap (isSubtype (.ref C) (.type "BaseException")) true) (hq:Q () s):wpAny M A (checkBuiltinCall "BaseException.__getattribute__" ⟨[.ref x,nameV],[]⟩) Q E s:=by
 have hk:builtinKind "BaseException.__getattribute__"=some .slot:=by decide+kernel
 have hsplit:splitId "BaseException.__getattribute__"=some ("BaseException","__getattribute__"):=by decide+kernel
 have ha:=PySem.F.args_bexc_ga (.ref x) nameV;obtain ⟨hh,g,d,t,os⟩:=s;simp only [checkBuiltinCall,hk,hsplit];refine wpAny_bind ?_;unfold isInstance
 repeat (first | lk | wp_step)
 exact hq
end
end PySem.W
namespace PySem.W
open PySem PySem.Calls PyProof.Rows PySem.Spec Builtin Builtin.ObjectAttr Builtin.Getset_descriptor
section
variable {prog:Program} {w:World} {A:Around} {E:Value->Shared->Prop} {s:Shared} {K:Frag} {x C:Addr}
structure XCls (K:Frag) (C:Addr):Prop where
 ga:findIn K (.ref C) "__getattribute__"=some (some (.builtin "BaseException.__getattribute__"))
 gt:findIn K (.ref C) "__getattr__"=some none
 ca:findIn K (.ref C) "__class__"=some (some (.builtin "object.__class__"))
 sp:specialIn K (.builtin "object.__class__") "__get__"=some (some (.builtin "getset_descriptor.__get__"))
 tk:takesIn K (.builtin "object.__class__")=some true
 ob:mroIn K C (.type "object")=some true
 be:mroIn K C (.type "BaseException")=some true
 cl:(clsIn K C).isSome=true
theorem QN {tk:Tok} {Q:Fin->Shared->Prop} (X:K.In s.heap) (c:XCls K C) (L0:Looks (model prog w) s.heap (typeOf (.ref x)) (.ref C)) (hq:Q (.done (.ret (.ref C))) s):
  wpAny (model prog w) A (Builtin.«object.__getattribute__» ⟨[.ref x, .str "__class__" tk],[]⟩) Q E s:=by
 obtain ⟨hh,g,d,t,os⟩:=s;have L1:=xn (M:=model prog w) (x:=x) X c.ca c.sp c.tk;refine wpAny_bind (wpAny_pure (wpAny_bind (wpAny_pure (wpAny_bind (L0.at (wpAny_bind (L1.at ?_)))))));show wpAny _ _ (bindTo _ _ _ _) _ _ _;unfold bindTo;refine wpAny_bind (wpAny_call (ur X L0 c.ob ?_));exact wpAny_pure hq
end
end PySem.W
namespace PySem.W
open PySem PySem.Calls PyProof.Rows PySem.Spec Builtin Builtin.ObjectAttr Builtin.Getset_descriptor
section
variable {prog:Program} {w:World} {A:Around} {E:Value->Shared->Prop} {s:Shared} {K:Frag} {x C:Addr}
theorem QO {Q:Option Value->Shared->Prop} (X:K.In s.heap) (c:XCls K C) (L0:Looks (model prog w) s.heap (typeOf (.ref x)) (.ref C)) (h:Q (some (.ref C)) { s with toks:=s.toks+1 }):wpAny (model prog w) A (getAttr? (.ref x) "__class__") Q E s:=by
 obtain ⟨hh,g,d,t,os⟩:=s;have L1:=looks_findIn (M:=model prog w) X c.ga;have L2:=looks_findIn (M:=model prog w) X c.gt;have L3:=looks_mroIn (M:=model prog w) X c.be;have fb:=PySem.F.attr_ValueError.ga.bind (.ref x);unfold getAttr? getAttrBy? getAttrBy;refine wpAny_bind (wpAny_mkText (wpAny_bind (wpAny_attempt (wpAny_holding (wpAny_bind (L0.at (wpAny_bind (L1.at ?_))))))));dsimp only;have hx2:(Value.builtin "BaseException.__getattribute__" == Value.builtin "object.__getattribute__")=false:=by decide+kernel
 rw [if_neg (by rw [hx2]; simp)]
 unfold getAttrByItsOwn hookBefore;refine wpAny_bind ?_;rw [if_pos (by rfl)]
 refine L2.at ?_;refine wpAny_bind (wpAny_attempt (wpAny_holding ?_));unfold callGetattribute;rw [if_neg (by simp)]
 unfold boundAndCalled;rw [fb];refine wpAny_bind (wpAny_pure ?_);refine wpAny_call (codeAny_call_builtin PySem.F.attr_ValueError.ga.plain PySem.F.entry_bexc_ga (QM (s:=⟨hh,g,d,t+1,os⟩) L0 L3 (QN (s:=⟨hh,g,d,t+1,os⟩) X c L0 ?_)));exact handed_on rfl (wpAny_pure h)
theorem xo (c:XCls K C):KitX K (.ref x) (.ref C) (λh=>∃ o,h.get? x=some o/\o.cls= .ref C) where
 ty:=λM h _ ⟨o,h1,h2⟩=>h2 ▸ (Looks.ld h1).andThen .now
 it:=λ_ _ X _=>by
  obtain ⟨cdD,hcD⟩:=Option.isSome_iff_exists.mp c.cl;unfold clsIn at hcD;split at hcD
  ·rename_i c' d' cd' sl' ho;intro A' Q' E' s' k q;unfold isType loadHead;exact wpAny_bind (wpAny_loadPart (k _ _ (X _ _ ho)) (wpAny_pure q))
  ·cases hcD
 ne:=λh tp dd its n sl X htp=>by
  obtain ⟨cdD,hcD⟩:=Option.isSome_iff_exists.mp c.cl;refine Bool.eq_false_iff.mpr λq=> ?_;have e:C=tp:=Value.ref.inj (beq_iff_eq.mp q);subst e;unfold clsIn at hcD;split at hcD
  ·rename_i c' d' cd' sl' ho;have z:=(X _ _ ho).symm.trans htp;cases z
  ·cases hcD
 ca:=λ{prog w A E Q s} X ⟨o,h1,h2⟩ k=>QO X c (h2 ▸ (Looks.ld h1).andThen .now) k
end
end PySem.W
namespace PV
open PySem PySem.Spec PyProof.Rows L2 PySem.W
section
variable {X:Cx} {Y:Fx} {a b:Expr} {fa fb:En->R T} {pos pos' p p' :Pos}
def wE (i:Nat) (ok tab:Nat->Bool):En->R T:=λρ=>match ρ[i]? with
 | some (.xc c)=>if ok c=true then .ok (.bl (tab c)) else .bad
 | _=> .bad
theorem ut:ji X (.builtin "isinstance") (λxs H Q=>∃ a C v b,xs=[.ref a,v]/\H a=some (.ext (uZ (.ref C) a))/\XCls X.K C/\(∀ u,ZJ v u->kitOne X.K (.ref C) u=some b)/\Q (.bl b) H):=by
 intro pins s σ H xs us Q I rv h;obtain ⟨a,C,v,b,rfl,e,c,hk,q⟩:=h;obtain ⟨u,w,rfl,ru,rw'⟩:=yl rv;obtain rfl:u=Value.ref a:=ru;obtain ⟨hx,_,_⟩:=(show ZD X.prog X.w H s.heap a (.ext (uZ (.ref C) a)) from I.hok a _ e);exact kia_one (xo c) I.kIn hx (hk w rw') (λz=>nomatch z) λtk=>⟨.bl _,H,I.tok tk,rfl,q⟩
structure XK1 (K:Frag) (cl:Nat->Value) (ok:Nat->Bool):Prop where
 at_:∀ c,ok c=true->∃ C,cl c= .ref C/\XCls K C
theorem JE {i:Nat} {ok tab:Nat->Bool} {y cn:Str} {C:Addr} {yp cp:Pos} (hK:XK1 X.K Y.cl ok) (ht:∀ c,ok c=true->kitOne X.K (Y.cl c) (.ref C)=some (tab c)) (gl:Gl X "isinstance") (mg:X.mg "isinstance"=none) (hv:PE X (.Name y yp) (yX i)) (gl' :Gl X cn) (mg' :X.mg cn=some (.ref C))
  (hd:(cn == ("__debug__":Str))=false:=by decide):Snd X Y (.Call (.Name "isinstance" p) [.Name y yp, .Name cn cp] [] pos) (wE i ok tab):= .mk λρ=>
 PE.imp (jW ut gl mg PyProof.Rows.Boot.«isinstance» (zA hv (zA (yY (v:= .ref C) gl' mg' rfl hd) Zf (st1 rfl)) (st2 rfl rfl)) (by decide) (by decide) (by rw [st2 rfl rfl,st1 rfl]) (j0 rfl)) λσ H Q ⟨B,I,q⟩=>by
  unfold wE at q;split at q
  ·rename_i c e;split at q
   ·rename_i hc;obtain ⟨a,e1,r⟩:=I.xc i c e;obtain ⟨Cc,e2,xc⟩:=hK.at_ c hc;have ht' :=ht c hc;rw [e2] at r ht';exact ⟨_,e1,a,Cc,_,_,rfl,I.sB a _ r,xc,λu ru=>by obtain rfl:u=Value.ref C:=ru; exact ht',j2 I q (.bl _)⟩
   ·exact q.elim
  ·exact q.elim
theorem xp {i:Nat} {ok tab:Nat->Bool} {y:Str} {n:String} {yp cp:Pos} (hK:XK1 X.K Y.cl ok) (ht:∀ c,ok c=true->kitOne X.K (Y.cl c) (.type n)=some (tab c)) (gl:Gl X "isinstance") (mg:X.mg "isinstance"=none) (hv:PE X (.Name y yp) (yX i)) (gl' :Gl X (Str.ofString n)) (mg' :X.mg (Str.ofString n)=none)
  (bt:bootBuiltins (Str.ofString n)=some (.type n)) (hn:Str.ofString n ≠ "__name__":=by decide) (hd:(Str.ofString n == ("__debug__":Str))=false:=by decide):Snd X Y (.Call (.Name "isinstance" p) [.Name y yp, .Name (Str.ofString n) cp] [] pos) (wE i ok tab):= .mk λρ=>
 PE.imp (jW ut gl mg PyProof.Rows.Boot.«isinstance» (zA hv (zA (yZ (v:= .ty n) gl' mg' bt rfl hn hd) Zf (st1 rfl)) (st2 rfl rfl)) (by decide) (by decide) (by rw [st2 rfl rfl,st1 rfl]) (j0 rfl)) λσ H Q ⟨B,I,q⟩=>by
  unfold wE at q;split at q
  ·rename_i c e;split at q
   ·rename_i hc;obtain ⟨a,e1,r⟩:=I.xc i c e;obtain ⟨Cc,e2,xc⟩:=hK.at_ c hc;have ht' :=ht c hc;rw [e2] at r ht';exact ⟨_,e1,a,Cc,_,_,rfl,I.sB a _ r,xc,λu ru=>by obtain rfl:u=Value.type n:=ru; exact ht',j2 I q (.bl _)⟩
   ·exact q.elim
  ·exact q.elim
def kM (i:Nat):En->R Bool:=λρ=>match ρ[i]? with
 | some (.xc _)=> .ok false
 | some (.vl t)=>Qf t .non
 | _=> .bad
theorem kN:OpR X (compareOp .Is) (λx y H Q=>y= .non/\((∃ a,x= .ref a/\Q (.bl false) H)\/∃ t b,Rep H x t/\Qf t .non= .ok b/\Q (.bl b) H)):=by
 intro pins s σ H x y v u Q I rx ry h;obtain ⟨rfl,h⟩:=h;rcases h with ⟨a,rfl,q⟩ | ⟨t,b,r,e,q⟩
 ·obtain rfl:u=Value.none:=ry;obtain rfl:v=Value.ref a:=rx;exact wpAny_is_plain rfl ⟨.bl false,H,I,rfl,q⟩
 ·exact kA pins s σ H x .non v u Q I rx ry ⟨t, .non,b,r, .non,e,q⟩
theorem kO {i:Nat} {y:Str} {yp:Pos} {j:Nat} (hv:PE X (.Name y yp) (yX i)):uS X Y (.Compare (.Name y yp) [.Is] [.Constant .none j p'] pos) (kM i):= .mk λρ=>
 PT.imp (Y8 kN hv vG (by rfl)) λσ H Q ⟨B,I,q⟩=>by
  unfold kM at q;split at q
  ·rename_i c e;obtain ⟨a,e1,r⟩:=I.xc i c e;exact ⟨_,e1,rfl, .inl ⟨a,rfl,false,rfl,j2 I q rfl⟩⟩
  ·rename_i t e;obtain ⟨v,e1,r⟩:=I.vl i t e;refine ⟨v,e1,rfl, .inr ?_⟩;cases ek:Qf t .non with
   | bad=>rw [ek] at q; exact q.elim
   | ex c=>exact absurd ek (kz _ _ _)
   | ok b=>rw [ek] at q; exact ⟨t,b,r.mono I.sB,ek,b,rfl,j2 I q rfl⟩
  ·exact q.elim
def spC (cl:Nat->Value) (gx:Nat->R T):Sp:=λvs H Q E=>∃ B a c,vs=[V.ref a]/\zJ B H/\B a=some (.ext (uZ (cl c) a))/\Po ⟨B,H,E,cl⟩ rC B H (gx c) Q
def xr (i:Nat) (gx:Nat->R T):En->R T:=λρ=>match ρ[i]? with
 | some (.xc c)=>gx c
 | _=> .bad
theorem xt {cl:Nat->Value} {k j i:Nat} {f:Addr} {fd:FuncData} {q:Str} {gx:Nat->R T} {x y:Str} {yp:Pos} (hy:Y.cl=cl) (F:Zm X.prog X.w X.K X.mg X.base CX0 j f fd [q] (spC cl gx)) (hr:Jz k X.A) (hj:j<=k) (gl:Gl X x)
  (mg:X.mg x=some (.ref f)) (kp:PySem.W.keepIn X.K (.ref f)=true) (bd:L2.Binds X.K fd [q] []) (hv:PE X (.Name y yp) (yX i)) (hd:(x == ("__debug__":Str))=false:=by decide):Snd X Y (.Call (.Name x p) [.Name y yp] [] pos) (xr i gx):= .mk λρ=>
 PE.imp (Yd F (hr.mono hj) gl mg kp bd .nil (kK (E:=Y.E)) (zA hv Zf (st1 rfl)) hd (st1 rfl) rfl) λσ H Q ⟨B,I,q⟩=>by
  subst hy;unfold xr at q;split at q
  ·rename_i c e;obtain ⟨a,e1,r⟩:=I.xc i c e;refine ⟨_,e1,B,a,c,rfl,I.sB,r, ?_⟩;revert q;cases gx c with
   | bad=>exact λq=>q
   | ex c=>exact λq d H' s sB=>q d H' (I.sH.trans s) sB
   | ok t=>exact λq=>q
  ·exact q.elim
end
section
variable {P:Program} {w:World} {K:PySem.W.Frag} {mg:Str->Option Value} {base:Heap}
def enC (n c:Nat):En:= .xc c :: List.replicate (n - 1) .un
theorem SI.startC {Y:Fx} {N:List Str} {a:Addr} {c:Nat} (s:zJ Y.B0 Y.H0) (hN:1<=N.length) (r:Y.B0 a=some (.ext (uZ (Y.cl c) a))):SI Y Y.B0 (enC N.length c) (L2.start N [V.ref a]) Y.H0 where
 s0:=s
 sH:=zJ.refl _
 sB:=s
 old:=λ_ _ _=>rfl
 len:=by unfold enC L2.start; simp
 vl:=λi t h=>by
  unfold enC at h;cases i with
  | zero=>cases h
  | succ i=>rw [List.getElem?_cons_succ,List.getElem?_replicate] at h; split at h <;> cases h
 ow:=λi t h=>by
  unfold enC at h;cases i with
  | zero=>cases h
  | succ i=>rw [List.getElem?_cons_succ,List.getElem?_replicate] at h; split at h <;> cases h
 xc:=λi d h=>by
  unfold enC at h;cases i with
  | zero=>
   cases h;exact ⟨a,by unfold L2.start; rfl,r⟩
  | succ i=>rw [List.getElem?_cons_succ,List.getElem?_replicate] at h; split at h <;> cases h
theorem kP {cl:Nat->Value} {x qual q:Str} {st:Stmt} {f:Addr} {fd:FuncData} {N:List Str} {k:Nat} {fb:En->RS} {gx:Nat->R T} (F:Fun K x qual st f fd) (S:zp N [q] (zf st)) (hN:1<=N.length)
  (hb:∀ (cdv:Value) (A:Around) (outer:List Env) (s:Shared) (H:Hp) (E:XK) (Y:Fx),Y.cl=cl->Jz k (A.deeper (envOfC qual (zf st) s.heap.objs.size f cdv))->
   yy (wo CX0 P w K mg base N qual (zf st) f cdv A outer s H E).nox Y (ZS st) fb)
  (hg:∀ c,gx c=zn (fb (enC N.length c))):Zm P w K mg base CX0 (k+1) f fd [q] (spC cl gx):=by
 refine F.ok S (λvs H Q E ⟨_,_,_,e,_⟩=>by rw [e]; rfl) λcdv A outer s H vs Q E hr ⟨B,a,c,e,sB,r,q⟩=> ?_
 subst e;refine ⟨_,hb cdv A outer s H E ⟨B,H,E,cl⟩ rfl hr (enC N.length c),B,SI.startC (Y:=⟨B,H,E,cl⟩) sB hN r, ?_⟩;rw [hg c] at q;revert q;cases fb (enC N.length c) with
 | rt t=>exact λq v H' s r=>q v H' s r
 | rf t=>exact λq a xs H' B' s0 n e r _ l=>q (.ref a) H' s0 (.lst (by rw [Zk n]; exact e) (r.mono l))
 | nx ρ=>exact λq σ' H' B' _ I=>q .non H' I.sH .non
 | ex c=>exact λq=>q
 | bk ρ=>exact λq=>q.elim
 | ct ρ=>exact λq=>q.elim
 | bad=>exact λq=>q
end
end PV
namespace PySem.ZG
open PySem PySem.Spec PySem.Builtin.SmallTypes
structure U5 (i:Addr) (fp:List Addr) (v:Nat->Option Value) (St:Nat->Heap->Prop):Prop where
 mem:i∈fp
 item:∀ {prog:Program} {w:World} {A:Around} {E:Value->Shared->Prop} {s:Shared} {Q:Value->Shared->Prop} {k:Nat} {x:Value},St k s.heap->v k=some x->(∀ h',St (k+1) h' ->Heap.SameBut i s.heap h' ->Q x { s with heap:=h' })->wpAny (model prog w) A (nextOf (.ref i)) Q E s
 stop:∀ {prog:Program} {w:World} {A:Around} {E:Value->Shared->Prop} {s:Shared} {Q:Value->Shared->Prop} {k:Nat},A.handled=none->St k s.heap->v k=none->(∀ h' e,Heap.ExtBut i s.heap h' ->(∃ o,h'.get? e=some o/\o.cls= .type "StopIteration")->E (.ref e) { s with heap:=h' })->wpAny (model prog w) A (nextOf (.ref i)) Q E s
 keep:∀ {k:Nat} {h h' :Heap},St k h->(∀ b∈fp,∀ o,h.get? b=some o->h'.get? b=some o)->St k h'
 there:∀ {k:Nat} {h:Heap},St k h->∀ b∈fp,∃ o,h.get? b=some o
theorem U5.but {i:Addr} {fp:List Addr} {v:Nat->Option Value} {St:Nat->Heap->Prop} (N:U5 i fp v St) {k:Nat} {h h' :Heap} {b:Addr} (x:St k h) (e:Heap.ExtBut b h h') (n:b ∉ fp):St k h' :=
 N.keep x λc hc o q=>e c o (λz=>n (z ▸ hc)) q
theorem xu {i l:Addr} (hil:l ≠ i) (xs:Array Value):U5 i [i,l] (λk=>xs[k]?) (λk h=>h.IsListIter i l k/\h.IsList l xs) where
 mem:= .head _
 item:=λst hx h=>wpAny_nextOf_list_item st.1 st.2 hx λh' a b=>h h' ⟨a,st.2.extBut b.extBut hil⟩ b
 stop:=λhh st hx h=>wpAny_nextOf_list_end hh st.1 st.2 hx h
 keep:=λst k=>⟨st.1.at λo e=>k i (.head _) o e,st.2.at λo e=>k l (.tail _ (.head _)) o e⟩
 there:=λst b hb=>by
  obtain ⟨⟨o,e,_⟩,o2,e2,_⟩:=st;rcases List.mem_cons.mp hb with z | hb
  ·exact ⟨o,z ▸ e⟩
  ·exact ⟨o2,(List.mem_singleton.mp hb) ▸ e2⟩
end PySem.ZG
namespace PySem.ZG
open PySem PySem.Spec PySem.Builtin.SmallTypes
section
variable {prog:Program} {w:World} {A:Around} {E:Value->Shared->Prop} {s:Shared} {it l:Addr} {k:Nat} {xs:Array Value} {Q:Value->Shared->Prop}
theorem UK (hit:s.heap.IsTupleIter it l k) (h:wpAny (model prog w) A.in1 (Builtin.«tuple_iterator.__next__» ⟨[.ref it],[]⟩) (λfin s' =>∃ v,fin= .done (.ret v)/\Q v s') E s):wpAny (model prog w) A (nextOf (.ref it)) Q E s:=by
 unfold nextOf;exact wpAny_bind (wpAny_callSpecial?_slot (name:=Str.ofString "__next__") hit.typeIs PySem.F.slot_tuple_iterator_next (wpAny_call_entry PySem.F.slot_tuple_iterator_next hit.typeIs PySem.F.entry_tuple_iterator_next
  (wpAny_mono h (λfin s' ⟨v,e,q⟩=>⟨v,e,wpAny_pure q⟩) λ_ _ z=>z) (PySem.F.args_tuple_iterator_next_1 _)))
theorem tup_item (hit:s.heap.IsTupleIter it l k) (ht:s.heap.IsTuple l xs) {x:Value} (hx:xs[k]? =some x) (h:∀ h',h'.IsTupleIter it l (k+1)->Heap.SameBut it s.heap h' ->Q x { s with heap:=h' }):wpAny (model prog w) A (nextOf (.ref it)) Q E s:=by
 refine UK hit ?_;obtain ⟨o,ho,hc,hd⟩:=id hit;obtain ⟨ol,hol,_,nl,hdl⟩:=ht;refine wpAny_bind (m:=field (.ref it) 0) (wpAny_field ho hd (x:= .ref l) rfl ?_);rw [if_neg (show ¬((Value.ref l == Value.none)=true) by exact Bool.false_ne_true)]
 refine wpAny_bind (m:=field (.ref it) 1) (wpAny_field ho hd (x:= .int k 0) rfl (wpAny_bind (m:=seqItems? (.ref l)) (wpAny_seqItems hol hdl ?_)));simp only [Int.toNat_natCast,hx];have g:=Heap.get?_update_self (Obj.mapFields (·.setIfInBounds 1 (rawInt (k+1:Nat)))) ho (Obj.isFreed_of_fields (Obj.data_mapFields hd _));refine wpAny_bind (wpAny_setField ho hd (by simp) (wpAny_pure ⟨x,rfl,h _ ⟨_,g,(Obj.cls_mapFields ..).trans hc, ?_⟩ (Heap.SameBut.update ..)⟩))
 rw [Obj.data_mapFields hd]; simp [rawInt]
theorem tup_stop (hh:A.handled=none) (hit:s.heap.IsTupleIter it l k) (ht:s.heap.IsTuple l xs) (hx:xs[k]? =none)
  (h:∀ h' e,Heap.ExtBut it s.heap h' ->(∃ o,h'.get? e=some o/\o.cls= .type "StopIteration")->E (.ref e) { s with heap:=h' }):wpAny (model prog w) A (nextOf (.ref it)) Q E s:=by
 refine UK hit ?_;obtain ⟨o,ho,hc,hd⟩:=id hit;obtain ⟨ol,hol,_,nl,hdl⟩:=ht;refine wpAny_bind (m:=field (.ref it) 0) (wpAny_field ho hd (x:= .ref l) rfl ?_);rw [if_neg (show ¬((Value.ref l == Value.none)=true) by exact Bool.false_ne_true)]
 refine wpAny_bind (m:=field (.ref it) 1) (wpAny_field ho hd (x:= .int k 0) rfl (wpAny_bind (m:=seqItems? (.ref l)) (wpAny_seqItems hol hdl ?_)));simp only [Int.toNat_natCast,hx];refine wpAny_bind (wpAny_rule (wpAny_bind (wpAny_setField ho hd (by simp) (wpAny_bind (m:=newExc (.type "StopIteration") []) ?_))))
 simp only [newExc,newTuple];refine wpAny_bind (wpAny_newObj_type (wpAny_bind (m:=firstArgMember _ _) (wpAny_of_eq (a:=Value.none) (by first | rfl | (simp only [firstArgMember]; rfl)) (wpAny_newObj_type ?_ (by size_fits)))) (by size_fits))
 simp only [raiseNew];refine wpAny_bind (wpAny_handled ?_);rw [show A.in1.handled=none from hh];exact wpAny_bind (wpAny_pure (wpAny_throw (h _ _ (((Heap.SameBut.update ..).extBut.push _).push _) ⟨_,Heap.get?_push_size _ rfl,rfl⟩)))
end
theorem nx_tup {i l:Addr} (hil:l ≠ i) (xs:Array Value):U5 i [i,l] (λk=>xs[k]?) (λk h=>h.IsTupleIter i l k/\h.IsTuple l xs) where
 mem:= .head _
 item:=λst hx h=>tup_item st.1 st.2 hx λh' a b=>h h' ⟨a,st.2.extBut b.extBut hil⟩ b
 stop:=λhh st hx h=>tup_stop hh st.1 st.2 hx h
 keep:=λst k=>by
  obtain ⟨⟨o,e,r⟩,o2,e2,r2⟩:=st;exact ⟨⟨o,k i (.head _) o e,r⟩,o2,k l (.tail _ (.head _)) o2 e2,r2⟩
 there:=λst b hb=>by
  obtain ⟨⟨o,e,_⟩,o2,e2,_⟩:=st;rcases List.mem_cons.mp hb with z | hb
  ·exact ⟨o,z ▸ e⟩
  ·exact ⟨o2,(List.mem_singleton.mp hb) ▸ e2⟩
end PySem.ZG
namespace PySem.ZG
open PySem PySem.Spec PySem.Builtin.SmallTypes
structure Ap (z TI TO i1 i2:Addr) (fp1 fp2:List Addr):Prop where
 Iz:TI ≠ z
 Oz:TO ≠ z
 IO:TI ≠ TO
 I1:TI ≠ i1
 I2:TI ≠ i2
 z1:z ∉ fp1
 z2:z ∉ fp2
 O1:TO ∉ fp1
 O2:TO ∉ fp2
 a:i1 ∉ fp2
 b:i2 ∉ fp1
section
variable {prog:Program} {w:World} {A:Around} {E:Value->Shared->Prop} {s:Shared} {z TI TO i1 i2:Addr} {fp1 fp2:List Addr} {v1 v2:Nat->Option Value} {S1 S2:Nat->Heap->Prop} {k:Nat} {x y a b:Value}
theorem Ap.ne1 (D:Ap z TI TO i1 i2 fp1 fp2) (N1:U5 i1 fp1 v1 S1):i1 ≠ z/\i1 ≠ TO:=⟨λe=>D.z1 (e ▸ N1.mem),λe=>D.O1 (e ▸ N1.mem)⟩
theorem Ap.ne2 (D:Ap z TI TO i1 i2 fp1 fp2) (N2:U5 i2 fp2 v2 S2):i2 ≠ z/\i2 ≠ TO:=⟨λe=>D.z2 (e ▸ N2.mem),λe=>D.O2 (e ▸ N2.mem)⟩
theorem xv {Q:Value->Shared->Prop} (N1:U5 i1 fp1 v1 S1) (N2:U5 i2 fp2 v2 S2) (D:Ap z TI TO i1 i2 fp1 fp2) (hz:IsZip s.heap z TI TO .none) (hTI:IsPair s.heap TI (.ref i1) (.ref i2)) (hTO:IsPair s.heap TO a b) (p1:S1 k s.heap) (p2:S2 k s.heap) (hx:v1 k=some x) (hy:v2 k=some y)
  (hQ:∀ h',IsZip h' z TI TO (rawInt s.heap.objs.size)->IsPair h' TO x y->S1 (k+1) h' ->S2 (k+1) h' ->IsPair h' s.heap.objs.size x y->
   (∀ c o,c ≠ z->c ≠ TO->c ≠ i1->c ≠ i2->s.heap.get? c=some o->h'.get? c=some o)->Q (.ref s.heap.objs.size) { s with heap:=h' }):
  wpAny (model prog w) A (Builtin.«zip.__next__» ⟨[.ref z],[]⟩) (λfin s' =>∃ v,fin= .done (.ret v)/\Q v s') E s:=by
 refine wpAny_bind (m:=field (.ref z) 2) (wpAny_field hz rfl (x:= .bool false) rfl (wpAny_bind (m:=field (.ref z) 3) (wpAny_field hz rfl (x:= .ref TI) rfl (wpAny_bind (wpAny_seqItems hTI rfl ?_)))));refine wpAny_bind (m:=ownedTupleIsFree (.ref z)) ?_;unfold ownedTupleIsFree;refine wpAny_bind (wpAny_field hz rfl (x:= .none) rfl (wpAny_pure ?_));simp only [if_true];refine wpAny_bind (wpAny_rule (wpAny_bind (wpAny_field hz rfl (x:= .ref TO) rfl (wpAny_bind (wpAny_setField_rec hz (by simp) λg1 z1 e1=> ?_)))))
 replace z1:IsZip g1 z TI TO .ellipsis:=z1
 refine wpAny_bind ?_;simp only [List.zipIdx_cons,List.zipIdx_nil,List.forIn_cons,List.forIn_nil];refine wpAny_bind (wpAny_bind (wpAny_onRaise (wpAny_bind (m:=nextOf (.ref i1)) (N1.item (N1.but p1 e1.extBut D.z1) hx λg2 q1 e2=>wpAny_pure ?_))));have t2:IsPair g2 TO a b:=e2.extBut _ _ (D.ne1 N1).2.symm (e1.extBut _ _ D.Oz hTO);refine wpAny_bind (wpAny_seqItems t2 rfl (wpAny_bind (wpAny_updateSeq_pair t2 λg3 t3 e3=> ?_)))
 replace t3:IsPair g3 TO x b:=t3
 refine wpAny_bind (wpAny_letGo (wpAny_pure ?_));refine wpAny_bind (wpAny_bind (wpAny_onRaise (wpAny_bind (m:=nextOf (.ref i2)) (N2.item (N2.but (N2.but (N2.but p2 e1.extBut D.z2) e2.extBut D.a) e3.extBut D.O2) hy λg4 q2 e4=>wpAny_pure ?_))));have t4:IsPair g4 TO x b:=e4.extBut _ _ (D.ne2 N2).2.symm t3;refine wpAny_bind (wpAny_seqItems t4 rfl (wpAny_bind (wpAny_updateSeq_pair t4 λg5 t5 e5=> ?_)))
 replace t5:IsPair g5 TO x y:=t5
 refine wpAny_bind (wpAny_letGo (wpAny_pure (wpAny_pure ?_)));refine wpAny_bind (wpAny_seqItems t5 rfl (wpAny_bind (wpAny_newTuple ?_)));have sz:g5.objs.size=s.heap.objs.size:=by rw [e5.1,e4.1,e3.1,e2.1,e1.1]
 have z5:IsZip g5 z TI TO .ellipsis:=e5.extBut _ _ D.Oz.symm (e4.extBut _ _ (D.ne2 N2).1.symm (e3.extBut _ _ D.Oz.symm (e2.extBut _ _ (D.ne1 N1).1.symm z1)));have k5:∀ c o,c ≠ z->c ≠ TO->c ≠ i1->c ≠ i2->s.heap.get? c=some o->g5.get? c=some o:=λc o c1 c2 c3 c4 e=>
  e5.extBut _ _ c2 (e4.extBut _ _ c4 (e3.extBut _ _ c2 (e2.extBut _ _ c3 (e1.extBut _ _ c1 e))))
 have r1:S1 (k+1) g5:=N1.but (N1.but (N1.but q1 e3.extBut D.O1) e4.extBut D.b) e5.extBut D.O1;have r2:S2 (k+1) g5:=N2.but q2 e5.extBut D.O2;refine wpAny_bind (m:=ownedTupleHandOut (.ref z) (.ref g5.objs.size)) ?_;unfold ownedTupleHandOut;have z6:IsZip (g5.push { cls:= .type "tuple",data:= .seq #[x,y] }) z TI TO .ellipsis:=Heap.get?_push_of_some _ z5;refine wpAny_bind (wpAny_setField_rec z6 (by simp) λg7 z7 e7=> ?_)
 replace z7:IsZip g7 z TI TO (rawInt g5.objs.size):=z7
 refine wpAny_setField_rec z7 (by simp) λg8 z8 e8=> ?_
 replace z8:IsZip g8 z TI TO (rawInt g5.objs.size):=z8
 have up:∀ c o,c ≠ z->g5.get? c=some o->g8.get? c=some o:=λc o c1 e=>e8.extBut _ _ c1 (e7.extBut _ _ c1 (Heap.get?_push_of_some _ e));have hn:g5.objs.size ≠ z:=Nat.ne_of_gt (Heap.lt_size z5);have t8:IsPair g8 g5.objs.size x y:=e8.extBut _ _ hn (e7.extBut _ _ hn (Heap.get?_push_size _ rfl));rw [sz] at z8 t8;refine wpAny_pure ⟨_,rfl, ?_⟩;show Q (.ref g5.objs.size) _;rw [sz];exact hQ g8 z8 (up _ _ D.Oz t5) (N1.keep r1 λc hc o e=>up c o (λq=>D.z1 (q ▸ hc)) e) (N2.keep r2 λc hc o e=>up c o (λq=>D.z2 (q ▸ hc)) e) t8 λc o c1 c2 c3 c4 e=>up c o c1 (k5 c o c1 c2 c3 c4 e)
theorem xw {Q:Fin->Shared->Prop} (hh:A.handled=none) (N1:U5 i1 fp1 v1 S1) (N2:U5 i2 fp2 v2 S2) (D:Ap z TI TO i1 i2 fp1 fp2) (hz:IsZip s.heap z TI TO .none) (hTI:IsPair s.heap TI (.ref i1) (.ref i2)) (hTO:IsPair s.heap TO a b) (p1:S1 k s.heap) (p2:S2 k s.heap) (hend:v1 k=none\/v2 k=none)
  (hE:∀ h' e,(∀ c o,c ≠ z->c ≠ TO->c ≠ i1->c ≠ i2->s.heap.get? c=some o->h'.get? c=some o)->(∃ o,h'.get? e=some o/\o.cls= .type "StopIteration")->E (.ref e) { s with heap:=h' }):
  wpAny (model prog w) A (Builtin.«zip.__next__» ⟨[.ref z],[]⟩) Q E s:=by
 refine wpAny_bind (m:=field (.ref z) 2) (wpAny_field hz rfl (x:= .bool false) rfl (wpAny_bind (m:=field (.ref z) 3) (wpAny_field hz rfl (x:= .ref TI) rfl (wpAny_bind (wpAny_seqItems hTI rfl ?_)))));refine wpAny_bind (m:=ownedTupleIsFree (.ref z)) ?_;unfold ownedTupleIsFree;refine wpAny_bind (wpAny_field hz rfl (x:= .none) rfl (wpAny_pure ?_));simp only [if_true];refine wpAny_bind (wpAny_rule (wpAny_bind (wpAny_field hz rfl (x:= .ref TO) rfl (wpAny_bind (wpAny_setField_rec hz (by simp) λg1 z1 e1=> ?_)))))
 replace z1:IsZip g1 z TI TO .ellipsis:=z1
 refine wpAny_bind ?_;simp only [List.zipIdx_cons,List.zipIdx_nil,List.forIn_cons,List.forIn_nil];have off:∀ {g:Heap} {e:Addr} {oe:Obj},IsZip g z TI TO .ellipsis->g.get? e=some oe->oe.cls= .type "StopIteration"->e ≠ z:=λhg he hc q=>by
  subst q; rw [hg] at he; cases he; simp at hc
 cases hx:v1 k with
 | none=>
  refine wpAny_bind (wpAny_bind (wpAny_onRaise (wpAny_bind (m:=nextOf (.ref i1)) (N1.stop hh (N1.but p1 e1.extBut D.z1) hx λg2 e e2 he=> ?_))));obtain ⟨oe,ho,hc⟩:=he;have z2:IsZip g2 z TI TO .ellipsis:=e2 _ _ (D.ne1 N1).1.symm z1;exact wpAny_setField_rec z2 (by simp) λg3 _ e3=>hE g3 e (λc o c1 _ c3 _ q=>e3.extBut _ _ c1 (e2 _ _ c3 (e1.extBut _ _ c1 q))) ⟨oe,e3.extBut _ _ (off z2 ho hc) ho,hc⟩
 | some x=>
  have hy:v2 k=none:=by
   rcases hend with q | q
   ·rw [hx] at q; cases q
   ·exact q
  refine wpAny_bind (wpAny_bind (wpAny_onRaise (wpAny_bind (m:=nextOf (.ref i1)) (N1.item (N1.but p1 e1.extBut D.z1) hx λg2 q1 e2=>wpAny_pure ?_))));have t2:IsPair g2 TO a b:=e2.extBut _ _ (D.ne1 N1).2.symm (e1.extBut _ _ D.Oz hTO);refine wpAny_bind (wpAny_seqItems t2 rfl (wpAny_bind (wpAny_updateSeq_pair t2 λg3 t3 e3=>wpAny_bind (wpAny_letGo (wpAny_pure ?_)))));refine wpAny_bind (wpAny_bind (wpAny_onRaise (wpAny_bind (m:=nextOf (.ref i2)) (N2.stop hh (N2.but (N2.but (N2.but p2 e1.extBut D.z2) e2.extBut D.a) e3.extBut D.O2) hy λg4 e e4 he=> ?_))));obtain ⟨oe,ho,hc⟩:=he;have z4:IsZip g4 z TI TO .ellipsis:=e4 _ _ (D.ne2 N2).1.symm (e3.extBut _ _ D.Oz.symm (e2.extBut _ _ (D.ne1 N1).1.symm z1));exact wpAny_setField_rec z4 (by simp) λg5 _ e5=>hE g5 e (λc o c1 c2 c3 c4 q=>e5.extBut _ _ c1 (e4 _ _ c4 (e3.extBut _ _ c2 (e2.extBut _ _ c3 (e1.extBut _ _ c1 q))))) ⟨oe,e5.extBut _ _ (off z4 ho hc) ho,hc⟩
theorem xx {Q:Option Value->Shared->Prop} (N1:U5 i1 fp1 v1 S1) (N2:U5 i2 fp2 v2 S2) (D:Ap z TI TO i1 i2 fp1 fp2) (hz:IsZip s.heap z TI TO .none) (hTI:IsPair s.heap TI (.ref i1) (.ref i2)) (hTO:IsPair s.heap TO a b) (p1:S1 k s.heap) (p2:S2 k s.heap) (hx:v1 k=some x) (hy:v2 k=some y)
  (hQ:∀ h',IsZip h' z TI TO (rawInt s.heap.objs.size)->IsPair h' TO x y->S1 (k+1) h' ->S2 (k+1) h' ->IsPair h' s.heap.objs.size x y->
   (∀ c o,c ≠ z->c ≠ TO->c ≠ i1->c ≠ i2->s.heap.get? c=some o->h'.get? c=some o)->Q (some (.ref s.heap.objs.size)) { s with heap:=h' }):wpAny (model prog w) A (pyNext (.ref z)) Q E s:=by
 have ty:s.TypeIs (.ref z) "zip":=⟨_,hz,rfl⟩;unfold pyNext;exact wpAny_bind (wpAny_attempt (wpAny_callSpecial?_slot (name:=Str.ofString "__next__") ty PySem.F.slot_zip_next (wpAny_call_entry PySem.F.slot_zip_next ty PySem.F.entry_zip_next
  (xv N1 N2 D hz hTI hTO p1 p2 hx hy λh' a1 a2 a3 a4 a5 a6=>wpAny_pure (hQ h' a1 a2 a3 a4 a5 a6)) (PySem.F.args_zip_next_1 _))))
theorem xy {Q:Option Value->Shared->Prop} (hh:A.handled=none) (N1:U5 i1 fp1 v1 S1) (N2:U5 i2 fp2 v2 S2) (D:Ap z TI TO i1 i2 fp1 fp2) (hz:IsZip s.heap z TI TO .none) (hTI:IsPair s.heap TI (.ref i1) (.ref i2)) (hTO:IsPair s.heap TO a b) (p1:S1 k s.heap) (p2:S2 k s.heap) (hend:v1 k=none\/v2 k=none)
  (hQ:∀ h',(∀ c o,c ≠ z->c ≠ TO->c ≠ i1->c ≠ i2->s.heap.get? c=some o->h'.get? c=some o)->Q none { s with heap:=h' }):wpAny (model prog w) A (pyNext (.ref z)) Q E s:=by
 have ty:s.TypeIs (.ref z) "zip":=⟨_,hz,rfl⟩;unfold pyNext;refine wpAny_bind (wpAny_attempt (wpAny_callSpecial?_slot (name:=Str.ofString "__next__") ty PySem.F.slot_zip_next (wpAny_call_entry PySem.F.slot_zip_next ty PySem.F.entry_zip_next
  (xw hh N1 N2 D hz hTI hTO p1 p2 hend λh' e kp he=> ?_) (PySem.F.args_zip_next_1 _))))
 obtain ⟨o,ho,hc⟩:=he;exact wpAny_bind (wpAny_isInstance (T:="StopIteration") (b:=true) ⟨o,ho,hc⟩ isSubtype_stop (wpAny_pure (hQ _ kp)))
end
end PySem.ZG
namespace PySem.ZG
open PySem PySem.Spec PySem.Builtin.SmallTypes
structure xz (l:Addr) (o:Obj) (P:Heap->Prop):Prop where
 go:∀ {prog:Program} {w:World} {A:Around} {E:Value->Shared->Prop} {s:Shared} {Q:Value->Shared->Prop},P s.heap->Q (.ref s.heap.objs.size) { s with heap:=s.heap.push o }->wpAny (model prog w) A (pyIter (.ref l)) Q E s
 push:∀ {h:Heap} (o' :Obj),P h->P (h.push o')
 fresh:o.isFreed=false
abbrev oL (l:Addr):Obj:={ cls:= .type "list_iterator",data:= .fields #[.ref l, .int 0 0] }
abbrev oT (l:Addr):Obj:={ cls:= .type "tuple_iterator",data:= .fields #[.ref l, .int 0 0] }
theorem xA (l:Addr) (xs:Array Value):xz l (oL l) (λh=>h.IsList l xs):=⟨λp q=>wpAny_pyIter_list p q,λo p=>Heap.IsList.push p o,rfl⟩
theorem kQ (l:Addr) (xs:Array Value):xz l (oT l) (λh=>h.IsTuple l xs):=⟨λp q=>wpAny_pyIter_tuple p q,λo p=>Heap.IsTuple.push p o,rfl⟩
abbrev zh2 (h:Heap) (o1 o2:Obj):Heap:=(h.push o1).push o2
abbrev zh3 (h:Heap) (o1 o2:Obj):Heap:=(zh2 h o1 o2).push { cls:= .type "tuple",data:= .seq #[.ref h.objs.size, .ref (h.push o1).objs.size] }
abbrev zh4 (h:Heap) (o1 o2:Obj):Heap:=(zh3 h o1 o2).push { cls:= .type "tuple",data:= .seq #[.none, .none] }
abbrev zh5 (h:Heap) (o1 o2:Obj):Heap:=(zh4 h o1 o2).push { cls:= .type "zip",data:= .fields #[.none, .bool false, .bool false, .ref (zh2 h o1 o2).objs.size, .ref (zh3 h o1 o2).objs.size] }
theorem kR {l1 l2:Addr} {o1 o2:Obj} {P1 P2:Heap->Prop} (J1:xz l1 o1 P1) (J2:xz l2 o2 P2):
  Meets (Builtin.«zip.__new__» ⟨[.type "zip", .ref l1, .ref l2],[]⟩) (λ_ R s=>P1 s.heap/\P2 s.heap/\R (.ok (.ret (.ref (zh4 s.heap o1 o2).objs.size))) { s with heap:=zh5 s.heap o1 o2 }):=
 .of_wp λprog w A R s h=>by
  obtain ⟨hp,g,d,tk,os⟩:=s;obtain ⟨q1,q2,h⟩:=h;have hsub:=sub_zip;have c1:P1 (Shared.heap ⟨hp,g,d,tk,os⟩):=q1;have c2:P2 (Shared.heap ⟨hp.push o1,g,d,tk,os⟩):=J2.push o1 q2
  wp_walk using J1.go c1,J2.go c2
  exact ⟨_,rfl,h⟩
end PySem.ZG
namespace PySem.ZG
open PySem PySem.Spec PySem.Builtin.SmallTypes
theorem xB {prog:Program} {w:World} {A:Around} {E:Value->Shared->Prop} {s:Shared} {l1 l2:Addr} {o1 o2:Obj} {P1 P2:Heap->Prop} {Q:Value->Shared->Prop} (J1:xz l1 o1 P1) (J2:xz l2 o2 P2) (q1:P1 s.heap) (q2:P2 s.heap)
  (h:∀ h' n,n=s.heap.objs.size->IsZip h' (n+4) (n+2) (n+3) .none->IsPair h' (n+2) (.ref n) (.ref (n+1))->IsPair h' (n+3) .none .none->h'.get? n=some o1->h'.get? (n+1)=some o2->
   (∀ c o,s.heap.get? c=some o->h'.get? c=some o)->Q (.ref (n+4)) { s with heap:=h' }):wpAny (model prog w) A (call (.type "zip") [.ref l1, .ref l2]) Q E s:=by
 refine callType_new PySem.F.called_zip (by decide) (PySem.F.typeCall_zip_2 _ _) (PySem.F.newCall_zip_2 _ _) (λobj=>PySem.F.args_object_init_3 obj _ _) PySem.F.entry_zip_new (kR J1 J2) ⟨q1,q2, ?_⟩
 have n1:(s.heap.push o1).objs.size=s.heap.objs.size+1:=Heap.size_push ..;have n2:(zh2 s.heap o1 o2).objs.size=s.heap.objs.size+2:=by rw [Heap.size_push,n1]
 have n3:(zh3 s.heap o1 o2).objs.size=s.heap.objs.size+3:=by rw [Heap.size_push,n2]
 have n4:(zh4 s.heap o1 o2).objs.size=s.heap.objs.size+4:=by rw [Heap.size_push,n3]
 have up:∀ {h:Heap} {c:Addr} {o:Obj} (o' :Obj),h.get? c=some o->(h.push o').get? c=some o:=λo' e=>Heap.get?_push_of_some o' e;have e5:(zh5 s.heap o1 o2).get? (zh4 s.heap o1 o2).objs.size=some _:=Heap.get?_push_size _ rfl;have e4:(zh5 s.heap o1 o2).get? (zh3 s.heap o1 o2).objs.size=some _:=up _ (Heap.get?_push_size _ rfl);have e3:(zh5 s.heap o1 o2).get? (zh2 s.heap o1 o2).objs.size=some _:=up _ (up _ (Heap.get?_push_size _ rfl));have e2:(zh5 s.heap o1 o2).get? (s.heap.push o1).objs.size=some _:=up _ (up _ (up _ (Heap.get?_push_size _ J2.fresh)));have e1:(zh5 s.heap o1 o2).get? s.heap.objs.size=some _:=up _ (up _ (up _ (up _ (Heap.get?_push_size _ J1.fresh))));show _/\_;rw [n2,n3,n4] at e5;rw [n1,n2] at e3;rw [n3] at e4;rw [n1] at e2;rw [n4];exact ⟨⟨_,e5,rfl⟩,h _ _ rfl e5 e3 e4 e1 e2 λc o q=>up _ (up _ (up _ (up _ (up _ q))))⟩
end PySem.ZG
namespace PV
open PySem PySem.Spec PyProof.Rows L2 PySem.ZG
inductive SK where
 | l | t
def SK.it:SK->Heap->Addr->Addr->Nat->Prop
 | .l=>λh i l k=>h.IsListIter i l k
 | .t=>λh i l k=>h.IsTupleIter i l k
def SK.has:SK->Heap->Addr->Array Value->Prop
 | .l=>λh l xs=>h.IsList l xs
 | .t=>λh l xs=>h.IsTuple l xs
def SK.sq (K:PySem.W.Frag):SK->Hp->Addr->List V->Prop
 | .l=>λH a xs=>SqL K H a xs
 | .t=>λH a xs=>SqT K H a xs
def SK.tr:SK->List V->HO
 | .l=> .lst
 | .t=> .tup
def SK.ob:SK->Addr->Obj
 | .l=>oL
 | .t=>oT
theorem SK.nx (k:SK) {i l:Addr} (h:l ≠ i) (xs:Array Value):U5 i [i,l] (λn=>xs[n]?) (λn hp=>k.it hp i l n/\k.has hp l xs):=by
 cases k with
 | l=>exact xu h xs
 | t=>exact nx_tup h xs
theorem SK.of (k:SK) (l:Addr) (xs:Array Value):xz l (k.ob l) (λh=>k.has h l xs):=by
 cases k with
 | l=>exact xA l xs
 | t=>exact kQ l xs
theorem SK.start (k:SK) {h:Heap} {i l:Addr} (e:h.get? i=some (k.ob l)):k.it h i l 0:=by
 cases k with
 | l=>exact ⟨_,e,rfl,rfl⟩
 | t=>exact ⟨_,e,rfl,rfl⟩
theorem SK.obj {k:SK} {h:Heap} {i l:Addr} {n:Nat} (x:k.it h i l n):∃ o,h.get? i=some o/\∀ v,o.data ≠ .cell v:=by
 cases k with
 | l=>obtain ⟨o,e,_,d⟩:=x; exact ⟨o,e,λv z=>by rw [d] at z; cases z⟩
 | t=>obtain ⟨o,e,_,d⟩:=x; exact ⟨o,e,λv z=>by rw [d] at z; cases z⟩
theorem SK.at_ {k:SK} {h h' :Heap} {i l:Addr} {n:Nat} (x:k.it h i l n) (q:∀ o,h.get? i=some o->h'.get? i=some o):k.it h' i l n:=by
 cases k with
 | l=>obtain ⟨o,e,r⟩:=x; exact ⟨o,q o e,r⟩
 | t=>obtain ⟨o,e,r⟩:=x; exact ⟨o,q o e,r⟩
theorem SK.sqOf {K:PySem.W.Frag} (k:SK) {H:Hp} {a:Addr} {xs:List V} (e:H a=some (k.tr xs)):k.sq K H a xs:=by
 cases k with
 | l=>exact SqL.of e
 | t=>exact SqT.of e
theorem Inv.seq {X:Cx} {pins:List (Addr×Obj)} {σ:Sg} {H:Hp} {s:Shared} (I:L2.Inv X pins σ H s) (k:SK) {a:Addr} {xs:List V} (h:k.sq X.K H a xs):∃ its:List Value,Zy xs its/\k.has s.heap a its.toArray/\∃ o,s.heap.get? a=some o:=by
 cases k with
 | l=>
  obtain ⟨its,r,p,_⟩:=I.list h;obtain ⟨o,_,e,_⟩:=id p;exact ⟨its,r,p.isList,o,e⟩
 | t=>
  obtain ⟨its,r,p,_⟩:=I.tuple h;obtain ⟨o,e,_⟩:=id p;exact ⟨its,r,p,o,e⟩
def Itz (K:PySem.W.Frag) (k1 k2:SK) (l1 l2:Addr):It:=
 ⟨λi H=>∃ xs ys x y,k1.sq K H l1 xs/\k2.sq K H l2 ys/\xs[i]? =some x/\ys[i]? =some y,λi H v H' =>∃ p x y,H p=none/\v= .ref p/\(∀ xs,k1.sq K H l1 xs->xs[i]? =some x)/\(∀ ys,k2.sq K H l2 ys->ys[i]? =some y)/\H' =upd H p (.tup [x,y]),
  λi H=>∃ xs ys,k1.sq K H l1 xs/\k2.sq K H l2 ys/\(xs.length<=i\/ys.length<=i)⟩
theorem Inv.seq_inj {X:Cx} {pins:List (Addr×Obj)} {σ:Sg} {H:Hp} {s:Shared} (I:L2.Inv X pins σ H s) (k:SK) {a:Addr} {xs ys:List V} (h:k.sq X.K H a xs) (h' :k.sq X.K H a ys):xs=ys:=by
 cases k with
 | l=>exact I.list_inj h h'
 | t=>exact I.tuple_inj h h'
theorem nN {a b:Nat} (h:a ≠ b): @Ne Addr a b:=h
theorem nM {a b c:Nat} (h:a ≠ b) (h' :a ≠ c):¬ @Membership.mem Addr (List Addr) _ [b,c] a:=λq=>by
 rcases List.mem_cons.mp q with z | z
 ·exact h z
 ·exact h' (List.mem_singleton.mp z)
theorem QP {P:Program} {w:World} {K:PySem.W.Frag} {elts:List Expr} {kk:Nat} {pt:Pos} (k1 k2:SK) {n l1 l2:Nat} (h1:l1 < n) (h2:l2 < n):
  Y2 P w K (.Tuple elts kk pt) (Itz K k1 k2 l1 l2) [n+4,n+2,n+3,n,n+1] (n+4)
   (λi h=>IsZip h (n+4) (n+2) (n+3) .none/\IsPair h (n+2) (.ref n) (.ref (n+1))/\(∃ a b,IsPair h (n+3) a b)/\k1.it h n l1 i/\k2.it h (n+1) l2 i):=by
 have D:Ap (n+4) (n+2) (n+3) n (n+1) [n,l1] [n+1,l2]:=by
  refine ⟨nN (by omega),nN (by omega),nN (by omega),nN (by omega),nN (by omega),nM (by omega) (by omega),nM (by omega) (by omega),nM (by omega) (by omega),nM (by omega) (by omega),nM (by omega) (by omega),nM (by omega) (by omega)⟩
 refine ⟨by simp,λi h st b hb=> ?_,λi h h' st k=> ?_, ?_, ?_, ?_⟩
 ·obtain ⟨hz,hI,⟨a,c,hO⟩,p1,p2⟩:=st;simp only [List.mem_cons,List.not_mem_nil,or_false] at hb;rcases hb with rfl | rfl | rfl | rfl | rfl
  ·exact ⟨_,hz,λv z=>nomatch z⟩
  ·exact ⟨_,hI,λv z=>nomatch z⟩
  ·exact ⟨_,hO,λv z=>nomatch z⟩
  ·exact SK.obj p1
  ·exact SK.obj p2
 ·obtain ⟨hz,hI,⟨a,c,hO⟩,p1,p2⟩:=st;exact ⟨k _ (by simp) _ hz,k _ (by simp) _ hI,⟨a,c,k _ (by simp) _ hO⟩,SK.at_ p1 λo e=>k n (by simp) o e,SK.at_ p2 λo e=>k (n+1) (by simp) o e⟩
 ·intro X hP hw hK hc i pins s σ H E I hf st hg;subst hP hw hK;obtain ⟨xs,ys,x,y,s1,s2,hx,hy⟩:=hg;obtain ⟨hz,hI,⟨a,c,hO⟩,p1,p2⟩:=st;obtain ⟨its1,r1,b1,_⟩:=Inv.seq I k1 s1;obtain ⟨its2,r2,b2,_⟩:=Inv.seq I k2 s2;obtain ⟨u,hu,ru⟩:=r1.get hx;obtain ⟨v,hv,rv⟩:=r2.get hy;refine xx (k1.nx (Nat.ne_of_lt h1) its1.toArray) (k2.nx (i:=n+1) (nN (by omega)) its2.toArray) D hz hI hO ⟨p1,b1⟩ ⟨p2,b2⟩ (x:=u) (y:=v) (by simpa using hu) (by simpa using hv) λg a1 a2 a3 a4 a5 kp=>⟨_,rfl, ?_⟩
  refine wpAny_letOwnedTupleGo_zip a1 λg2 z2 e2=> ?_;have hlt:n+4 < s.heap.objs.size:=Heap.lt_size hz;have ne:∀ b:Nat,b<=n+4->s.heap.objs.size ≠ b:=λb hb=>by
   have hlt:n+4 < s.heap.objs.size:=hlt;omega
  have kp2:∀ b o,b ∉ [n+4,n+2,n+3,n,n+1]->s.heap.get? b=some o->g2.get? b=some o:=λb o hb e=>by
   simp only [List.mem_cons,List.not_mem_nil,or_false,not_or] at hb;exact e2.extBut _ _ hb.1 (kp b o hb.1 hb.2.2.1 hb.2.2.2.1 hb.2.2.2.2 e)
  have g2P:IsPair g2 s.heap.objs.size u v:=e2.extBut _ _ (ne _ (Nat.le_refl _)) a5;have g2I:IsPair g2 (n+2) (.ref n) (.ref (n+1)):=e2.extBut _ _ D.Iz (kp _ _ D.Iz D.IO D.I1 D.I2 hI);have g2O:IsPair g2 (n+3) u v:=e2.extBut _ _ D.Oz a2;have q1:k1.it g2 n l1 (i+1):=SK.at_ a3.1 λo e=>e2.extBut _ _ (nN (by omega)) e
  have q2:k2.it g2 (n+1) l2 (i+1):=SK.at_ a4.1 λo e=>e2.extBut _ _ (nN (by omega)) e
  have hfr:H s.heap.objs.size=none:=I.hok.fresh (Nat.le_refl _);refine ⟨.ref s.heap.objs.size,upd H s.heap.objs.size (.tup [x,y]),Inv.laidT (s:=s) (h' :=g2) (ch:=[n+4,n+2,n+3,n,n+1]) (tk:=s.toks) I hf kp2 (λb o hb _=> ?_) (Nat.le_refl _)
   ⟨by rw [sizeLine_eq]; show 2<=16777216; decide,[u,v], .cons ru (.cons rv .nil),⟨_,g2P,rfl,_,rfl⟩, .inr ⟨_,g2P,rfl⟩⟩,rfl,⟨_,x,y,hfr,rfl,λzs hq=>by rw [← Inv.seq_inj I k1 s1 hq]; exact hx,λzs hq=>by rw [← Inv.seq_inj I k2 s2 hq]; exact hy,rfl⟩,⟨z2,g2I,⟨u,v,g2O⟩,q1,q2⟩,λb hb=> ?_⟩
  ·simp only [List.mem_cons,List.not_mem_nil,or_false] at hb;rcases hb with rfl | rfl | rfl | rfl | rfl
   ·exact ⟨_,z2⟩
   ·exact ⟨_,g2I⟩
   ·exact ⟨_,g2O⟩
   ·obtain ⟨o',e',_⟩:=SK.obj q1; exact ⟨o',e'⟩
   ·obtain ⟨o',e',_⟩:=SK.obj q2; exact ⟨o',e'⟩
  ·have hb2:(b:Nat)<=n+4:=by
    have hb:b=n+4\/b=n+2\/b=n+3\/b=n\/b=n+1:=by simpa using hb
    rcases hb with rfl | rfl | rfl | rfl | rfl
    ·exact Nat.le_refl _
    ·exact Nat.add_le_add_left (by decide) n
    ·exact Nat.add_le_add_left (by decide) n
    ·exact Nat.le_add_right _ _
    ·exact Nat.add_le_add_left (by decide) n
   rw [zD λz=>ne b hb2 z.symm];exact (hf b hb).1
 ·intro X hP hw hK hc i pins s σ H E I hf st hg;subst hP hw hK;obtain ⟨xs,ys,s1,s2,hend⟩:=hg;obtain ⟨hz,hI,⟨a,c,hO⟩,p1,p2⟩:=st;obtain ⟨its1,r1,b1,_⟩:=Inv.seq I k1 s1;obtain ⟨its2,r2,b2,_⟩:=Inv.seq I k2 s2;have l1' :=r1.length;have l2' :=r2.length;refine xy (I.ok.hd hc) (k1.nx (Nat.ne_of_lt h1) its1.toArray) (k2.nx (i:=n+1) (nN (by omega)) its2.toArray) D hz hI hO ⟨p1,b1⟩ ⟨p2,b2⟩ (k:=i) ?_ λg kp=>⟨rfl, ?_⟩
  ·rcases hend with q | q
   ·exact .inl (Array.getElem?_eq_none (by rw [List.size_toArray,← l1']; exact q))
   ·exact .inr (Array.getElem?_eq_none (by rw [List.size_toArray,← l2']; exact q))
  ·have kp2:∀ b o,b ∉ [n+4,n+3,n,n+1]->s.heap.get? b=some o->g.get? b=some o:=λb o hb e=>by
    simp only [List.mem_cons,List.not_mem_nil,or_false,not_or] at hb;exact kp b o hb.1 hb.2.1 hb.2.2.1 hb.2.2.2 e
   have nch:∀ b u,H b=some u->b ∉ [n+4,n+3,n,n+1]:=λb u e hb=>by
    have hb' :b∈[n+4,n+2,n+3,n,n+1]:=by
     simp only [List.mem_cons,List.not_mem_nil,or_false] at hb ⊢;rcases hb with q | q | q | q
     ·exact .inl q
     ·exact .inr (.inr (.inl q))
     ·exact .inr (.inr (.inr (.inl q)))
     ·exact .inr (.inr (.inr (.inr q)))
    rw [(hf b hb').1] at e; cases e
   refine I.call' (s' :={ s with heap:=g }) (ch:=[n+4,n+3,n,n+1]) rfl ⟨λb o e _ _ hc=>kp2 b o hc e,λb o e _ _ hc=>⟨o.slots,kp2 b o hc e⟩,λb o e q _=>q,λb o e hc=>⟨o,kp2 b o hc e⟩,λb ys e=>e,λb o u e=>e,λb ps e=>⟨#[],by rw [e]; simp⟩⟩ (λb u e=> ?_) I.bare λb hb=> ?_
   ·refine (I.hok b u e).stay (λc v hc q=>kp2 c v ?_ q) (λ_ q=>q) λ_ _ q=>q;rcases hc with rfl | hc
    ·exact nch c u e
    ·exact nch c _ hc
   ·have hb' :b∈[n+4,n+2,n+3,n,n+1]:=by
     simp only [List.mem_cons,List.not_mem_nil,or_false] at hb ⊢;rcases hb with q | q | q | q
     ·exact .inl q
     ·exact .inr (.inr (.inl q))
     ·exact .inr (.inr (.inr (.inl q)))
     ·exact .inr (.inr (.inr (.inr q)))
    obtain ⟨f0,f1,f2,f3,f4,f5⟩:=hf b hb';exact ⟨f3,f1,f4,f5⟩
 ·intro A i s Q E st h;exact wpAny_pyIter_zip st.1 h
def YL (xs ys:List T):List T:=(xs.zip ys).map λp=>T.tup [p.1,p.2]
theorem QQ {xs ys:List T} {i:Nat} {t:T} (h:(YL xs ys)[i]? =some t):∃ x y,xs[i]? =some x/\ys[i]? =some y/\t= .tup [x,y]:=by
 unfold YL at h;rw [List.getElem?_map] at h;cases e:(xs.zip ys)[i]? with
 | none=>rw [e] at h; cases h
 | some p=>
  rw [e] at h;cases h;have:=List.getElem?_zip_eq_some.mp e;exact ⟨p.1,p.2,this.1,this.2,rfl⟩
theorem U6 (xs ys:List T):(YL xs ys).length=min xs.length ys.length:=by unfold YL; simp
theorem kS {K:PySem.W.Frag} {B1 H1:Hp} {k1 k2:SK} {a b:Addr} {xs ys:List V} {ts us:List T} (ha:B1 a=some (k1.tr xs)) (hb:B1 b=some (k2.tr ys)) (ra:zT B1 xs ts) (rb:zT B1 ys us):rI B1 H1 (Itz K k1 k2 a b) (YL ts us):=λB2 H2 s1 s2=>by
 have a2:=k1.sqOf (K:=K) (s2 _ _ (s1 _ _ ha));have b2:=k2.sqOf (K:=K) (s2 _ _ (s1 _ _ hb));rw [U6];refine ⟨λi hi=> ?_,λi t x H3 e y=> ?_,λi hi=>⟨xs,ys,a2,b2, ?_⟩⟩
 ·obtain ⟨v,e1,_⟩:=ra.get (List.getElem?_eq_getElem (show i < ts.length by omega))
  obtain ⟨u,e2,_⟩:=rb.get (List.getElem?_eq_getElem (show i < us.length by omega))
  exact ⟨xs,ys,v,u,a2,b2,e1,e2⟩
 ·obtain ⟨p,v,u,hp,rfl,y1,y2,rfl⟩:=y;obtain ⟨t1,t2,et,eu,rfl⟩:=QQ e;obtain ⟨v',e1,r1⟩:=ra.get et;obtain ⟨u',e2,r2⟩:=rb.get eu;have q1:=y1 xs a2;have q2:=y2 ys b2;rw [e1] at q1; cases q1;rw [e2] at q2; cases q2;have up:=Za.ge s2 (zJ.new hp (.tup [v,u]));exact ⟨zJ.new hp _, .tup (jI hp _) (.cons ((r1.mono s1).mono up) (.cons ((r2.mono s1).mono up) .nil))⟩
 ·rw [ra.length,rb.length]; omega
section
variable {X:Cx} {Y:Fx} {a b:Expr} {fa fb:En->R T} {pos p pt:Pos} {elts:List Expr} {kk:Nat}
theorem kT {ta:TA} (hg:Gl X "zip") (hm:X.mg "zip"=none) (ha:PA X [a,b] ta) (hs:starEach [a,b] X.env=[(false,eval a X.env),(false,eval b X.env)]) (hs2:starEach [b] X.env=[(false,eval b X.env)]):
  PI X (.Tuple elts kk pt) (.Call (.Name "zip" p) [a,b] [] pos) (λσ H R=>ta σ H λvs H1=>∃ k1 k2 l1 l2 xs ys,vs=[.ref l1, .ref l2]/\H1 l1=some (SK.tr k1 xs)/\H1 l2=some (SK.tr k2 ys)/\R (Itz X.K k1 k2 l1 l2) H1):=by
 intro pins s σ H R I h;refine Call_ (Ji I hg hm PyProof.Rows.Boot.«zip» (PyProof.Rows.callWith_type1 (thn (ha pos pins s σ H _ I h) λus s1 ⟨vs,H1,I1,r1,q1⟩=> ?_) (by rw [hs,hs2]) (by rw [hs2]; rfl)))
 obtain ⟨k1,k2,l1,l2,xs,ys,e,h1,h2,q⟩:=q1;subst e;obtain ⟨u,v,rfl,ru,rv⟩:=yl r1;obtain rfl:u=Value.ref l1:=ru;obtain rfl:v=Value.ref l2:=rv;obtain ⟨its1,_,b1,o1,e1⟩:=Inv.seq I1 k1 (k1.sqOf h1);obtain ⟨its2,_,b2,o2,e2⟩:=Inv.seq I1 k2 (k2.sqOf h2);refine xB (k1.of l1 its1.toArray) (k2.of l2 its2.toArray) b1 b2 λg n hn z1 z2 z3 z4 z5 kp=>wpAny_pyIter_zip z1 ?_;subst hn;have f:∀ b∈[s1.heap.objs.size+4,s1.heap.objs.size+2,s1.heap.objs.size+3,s1.heap.objs.size,s1.heap.objs.size+1],u5 X pins H1 b:=λb hb=>by
  have hb' :s1.heap.objs.size<=b:=by
   simp only [List.mem_cons,List.not_mem_nil,or_false] at hb;rcases hb with rfl | rfl | rfl | rfl | rfl
   ·exact Nat.le_add_right _ _
   ·exact Nat.le_add_right _ _
   ·exact Nat.le_add_right _ _
   ·exact Nat.le_refl _
   ·exact Nat.le_add_right _ _
  exact I1.fpOk hb' (I1.hok.fresh hb')
 exact ⟨s1.heap.objs.size+4,_,_,_,H1,rfl,I1.kept (t' :=s1.toks) kp,QP k1 k2 (Heap.lt_size e1) (Heap.lt_size e2),⟨z1,z2,⟨_,_,z3⟩,SK.start k1 z4,SK.start k2 z5⟩,f,q⟩
def JZ:T->R (List T)
 | .lst xs=> .ok xs
 | .tup xs=> .ok xs
 | _=> .bad
def kU (fa fb:En->R T):En->R (List T):=λρ=>(fa ρ).bind λt=>(fb ρ).bind λu=>(JZ t).bind λxs=>(JZ u).bind λys=> .ok (YL xs ys)
theorem YM {B:Hp} {v:V} {t:T} {xs:List T} (r:Rep B v t) (e:JZ t= .ok xs):∃ (k:SK) (a:Addr) (vs:List V),v= .ref a/\B a=some (k.tr vs)/\zT B vs xs:=by
 cases r with
 | lst h r=>cases e; exact ⟨.l,_,_,rfl,h,r⟩
 | tup h r=>cases e; exact ⟨.t,_,_,rfl,h,r⟩
 | _=>cases e
theorem UL (t:T) (c:Nat):JZ t ≠ .ex c:=by cases t <;> exact λz=>nomatch z
theorem kW (hg:Gl X "zip") (hm:X.mg "zip"=none) (ha:Snd X Y a fa) (hb:Snd X Y b fb) (hs:starEach [a,b] X.env=[(false,eval a X.env),(false,eval b X.env)]:=by exact st2 rfl rfl) (hs2:starEach [b] X.env=[(false,eval b X.env)]:=by exact st1 rfl):
  yV X Y (.Tuple elts kk pt) (.Call (.Name "zip" p) [a,b] [] pos) (kU fa fb):= .mk λρ=>
 PI.imp (kT hg hm (zA (ha ρ) (zA (hb ρ) Zf hs2) (by rw [hs,hs2])) hs hs2) λσ H R ⟨B,I,q⟩=>step I q λt v H1 _ s1 r1 I1 q1=>step I1 q1 λu v' H2 _ s2 r2 I2 q2=>by
  cases e1:JZ t with
  | bad=>rw [e1] at q2; exact q2.elim
  | ex c=>exact absurd e1 (UL _ _)
  | ok xs=>
   rw [e1] at q2;cases e2:JZ u with
   | bad=>rw [e2] at q2; exact q2.elim
   | ex c=>exact absurd e2 (UL _ _)
   | ok ys=>
    rw [e2] at q2;obtain ⟨k1,a1,vs1,rfl,h1,w1⟩:=YM (r1.mono (Za.ge I1.sB s2)) e1;obtain ⟨k2,a2,vs2,rfl,h2,w2⟩:=YM r2 e2;exact ⟨k1,k2,a1,a2,vs1,vs2,rfl,I2.sB _ _ h1,I2.sB _ _ h2,j2 I2 (show Po Y rI _ H2 (.ok (YL xs ys)) R from q2) (kS h1 h2 w1 w2)⟩
end
end PV
namespace PV
open PySem PySem.Spec PyProof.Rows L2
section
variable {X:Cx} {Y:Fx} {a b:Expr} {fa fb:En->R T} {pos p p' pos' :Pos}
def WV:T->R T
 | .bl b=> .ok (.int (b2 b))
 | .int i=> .ok (.int i)
 | _=> .bad
theorem Gs (v:V) (t:T) (B H:Hp) (Q:VK) (r:Rep B v t) (sB:zJ B H) (q:Po Y rC B H (WV t) Q):
  (∃ i,[v]=[V.int i]/\Q (.int i) H)\/∃ k,[v]=[V.bl k]/\Q (.int (if k then 1 else 0)) H:=by
 cases r with
 | int i=>exact .inl ⟨i,rfl,po0 sB q rfl (.int i)⟩
 | bl k=>exact .inr ⟨k,rfl,po0 sB q rfl (by cases k <;> exact .int _)⟩
 | _=>exact q.elim
theorem UM (gl:Gl X "int") (mg:X.mg "int"=none) (ha:Snd X Y a fa) (hs:St1 X a:=by exact st1 rfl):Snd X Y (.Call (.Name "int" p) [a] [] pos) (ap1 WV fa):=
 Yv Ya Gs gl mg (PyProof.Rows.Boot.«int») ha hs
theorem YN:ji X (.type "range") (λxs H Q=>∃ i j,xs=[.int i, .int j]/\∀ r,H r=none->Q (.ref r) (upd H r (.rng i j))):=by
 intro pins s σ H xs us Q I r h;obtain ⟨i,j,rfl,q⟩:=h;obtain ⟨u,v,rfl,ru,rv⟩:=yl r;obtain ⟨t,rfl⟩:=ru;obtain ⟨t',rfl⟩:=rv;exact call_range_2 ⟨.ref s.heap.objs.size,_,I.laid (t' :=s.toks+1) (λb o e=>Heap.get?_push_of_some _ e) (Nat.le_refl _) (show ZD X.prog X.w _ _ _ (.rng i j) from ⟨_,_,_,Heap.get?_push_size _ rfl⟩),rfl,q _ (I.hok.fresh (Nat.le_refl _))⟩
def Qh (lo:Int) (n:Nat):List V:=(List.range n).map λ(i:Nat)=>V.int (lo+(i:Int))
theorem Ww (hh:X.A.handled=none):ji X (.type "list") (λxs H Q=>∃ r lo hi,xs=[.ref r]/\H r=some (.rng lo hi)/\(-1000000 < lo/\lo < 1000000/\ -1000000 < hi/\hi < 1000000)/\∀ l,H l=none->Q (.ref l) (upd H l (.lst (Qh lo (hi - lo).toNat)))):=by
 intro pins s σ H xs us Q I rv h;obtain ⟨r,lo,hi,rfl,e,⟨c1,c2,c3,c4⟩,q⟩:=h;obtain ⟨u,rfl,ru⟩:=jD rv;obtain rfl:u=Value.ref r:=ru;obtain ⟨t,v,v',eo⟩:=(show ZD X.prog X.w H s.heap r (.rng lo hi) from I.hok r _ e);have hn:Builtin.Range.rangeSize lo hi 1=((hi - lo).toNat:Int):=by rw [rangeSize_one]; split <;> omega
 refine call_list_range (n:=(hi - lo).toNat) hh eo (small_one (by omega) (by omega) (by omega) (by omega)) hn (by omega) λh' tk acc c kp eo' hacc=> ?_
 have hv:Zy (Qh lo (hi - lo).toNat) acc.toList:=by
  have key:∀ (n:Nat) (lo:Int) (vs:List Value),vs.length=n->(∀ (j:Nat) (v:Value),vs[j]? =some v->∃ t,v=Value.int (lo+(j:Int)) t)->Zy (Qh lo n) vs:=by
   intro n
   induction n with
   | zero=>
    intro lo vs hl _;rw [List.eq_nil_of_length_eq_zero hl];exact .nil
   | succ n ih=>
    intro lo vs hl hv;cases vs with
    | nil=>cases hl
    | cons v vs=>
     have e:Qh lo (n+1)=V.int (lo+0) :: Qh (lo+1) n:=by
      unfold Qh;rw [List.range_succ_eq_map,List.map_cons,List.map_map];refine congrArg _ (List.map_congr_left λj _=> ?_);show V.int (lo+((j+1:Nat):Int))=V.int (lo+1+(j:Int));congr 1; omega
     rw [e];refine .cons (hv 0 v rfl) (ih (lo+1) vs (by simpa using hl) λj x hx=> ?_)
     obtain ⟨t,z⟩:=hv (j+1) x (by simpa using hx)
     exact ⟨t,by rw [z]; congr 1; omega⟩
  refine key _ lo acc.toList (by simpa using hacc.1) λj v hj=> ?_
  obtain ⟨t,z⟩:=hacc.2 j v (by simpa using hj)
  exact ⟨t,by rw [z]; congr 1; omega⟩
 have hz:(Qh lo (hi - lo).toNat).length<=sizeLine:=by
  rw [sizeLine_eq]; unfold Qh; rw [List.length_map,List.length_range]; omega
 exact ⟨.ref s.heap.objs.size,_,I.laid (t' :=tk) kp (Nat.le_refl _) (show ZD X.prog X.w _ h' _ (.lst _) from ⟨hz,acc.toList,c,hv,by simpa using eo'⟩),rfl,q _ (I.hok.fresh (Nat.le_refl _))⟩
def gj (fi:En->R (List T)):En->R T:=λρ=>(fi ρ).bind λts=> .ok (.lst ts)
theorem YO {B:Hp} (lo:Int) (n:Nat):zT B (Qh lo n) (rng lo n):=by
 unfold Qh rng
 induction List.range n with
 | nil=>exact .nil
 | cons i is ih=>exact .cons (.int _) ih
theorem xC (hh:X.A.handled=none) (gl:Gl X "list") (mg:X.mg "list"=none) (gl' :Gl X "range") (mg' :X.mg "range"=none) (ha:Snd X Y a fa) (hb:Snd X Y b fb)
  (hs:starEach [a,b] X.env=[(false,eval a X.env),(false,eval b X.env)]:=by exact st2 rfl rfl) (hs2:St1 X b:=by exact st1 rfl):Snd X Y (.Call (.Name "list" p) [.Call (.Name "range" p') [a,b] [] pos'] [] pos) (gj (wX fa fb)):= .mk λρ=>
 PE.imp (Jj (Ww hh) gl mg PyProof.Rows.Boot.«list» (zA (Jj YN gl' mg' boot_range (zA (ha ρ) (zA (hb ρ) Zf hs2) (by rw [hs,hs2])) (by decide) (by decide) (by rw [hs,hs2]) (by rw [hs2]; rfl)) Zf (st1 rfl)) (by decide) (by decide) (st1 rfl) rfl) λσ H Q ⟨B,I,q⟩=>by
  have q:Po Y rC B H ((fa ρ).bind λt=>(fb ρ).bind λt' =>(match t,t' with | .int i, .int j=>if -1000000 < i/\i < 1000000/\ -1000000 < j/\j < 1000000 then R.ok (rng i (j - i).toNat) else .bad | _,_=> .bad).bind λts=> .ok (.lst ts)) Q:=by
   revert q;unfold gj wX;cases fa ρ with
   | ok t=>cases fb ρ <;> exact λq=>q
   | ex c=>exact λq=>q
   | bad=>exact λq=>q
  refine step I q λt v H1 _ s1 r1 I1 q1=>step I1 q1 λt' v' H2 _ s2 r2 I2 q2=> ?_;cases r1 with
  | int i=>
   cases r2 with
   | int j=>
    by_cases c: -1000000 < i/\i < 1000000/\ -1000000 < j/\j < 1000000
    ·dsimp only at q2;rw [if_pos c] at q2;refine ⟨i,j,rfl,λr hr=>⟨r,i,j,rfl,Zc,c,λl hl=> ?_⟩⟩;have hlr:l ≠ r:=λz=>by rw [z,Zc] at hl; cases hl
     have hl2:H2 l=none:=by rw [zD hlr] at hl; exact hl
     refine q2 _ _ (zJ.new hr _ |>.trans (zJ.new hl _)) (.lst ?_ (YO _ _))
     rw [Zk hl2,Zc]
    ·dsimp only at q2;rw [if_neg c] at q2;exact q2.elim
   | _=>exact q2.elim
  | _=>cases r2 <;> exact q2.elim
def mvS (i j:Nat):En->RS:=λρ=>match ρ[j]? with
 | some (.ow ts)=> .nx ((ρ.set j (.vl (.lst ts))).set i (.vl (.lst ts)))
 | _=> .bad
theorem SI.give {Y:Fx} {B:Hp} {ρ:En} {σ:Sg} {H:Hp} (I:SI Y B ρ σ H) {j:Nat} {ts:List T} (hj:ρ[j]? =some (.ow ts)):∃ (a:Addr) (B' :Hp),σ[j]? =some (some (V.ref a))/\zJ B B' /\Rep B' (.ref a) (.lst ts)/\SI Y B' (ρ.set j (.vl (.lst ts))) σ H:=by
 obtain ⟨a,xs,e,b0,h0,hh,rr,d⟩:=I.ow j ts hj;have s1:zJ B (upd B a (.lst xs)):=zJ.new b0 _;have rp:Rep (upd B a (.lst xs)) (.ref a) (.lst ts):= .lst Zc (rr.mono s1);refine ⟨a,_,e,s1,rp,⟨I.s0,I.sH,λb o q=> ?_,λb o q=> ?_,by rw [List.length_set]; exact I.len,λk t q=> ?_,λk us q=> ?_,λk c q=> ?_⟩⟩
 ·by_cases hb:b=a
  ·subst hb; rw [Zc] at q; cases q; exact hh
  ·rw [zD hb] at q; exact I.sB b o q
 ·rw [zD λz=>by rw [z,h0] at q; cases q]; exact I.old b o q
 ·rcases Z0 q with ⟨rfl,z⟩ | ⟨_,z⟩
  ·cases z; exact ⟨_,e,rp⟩
  ·obtain ⟨v,e1,r⟩:=I.vl k t z; exact ⟨v,e1,r.mono s1⟩
 ·rcases Z0 q with ⟨rfl,z⟩ | ⟨hk,z⟩
  ·cases z
  ·obtain ⟨a',xs',e',b0',h0',hh',rr',d'⟩:=I.ow k us z;have hne:a' ≠ a:=λw=>by subst w; exact d k us hk z e'
   refine ⟨a',xs',e',by rw [zD hne]; exact b0',h0',hh',rr'.mono s1,λm ws hm hw=> ?_⟩
   rcases Z0 hw with ⟨rfl,w⟩ | ⟨_,w⟩
   ·cases w
   ·exact d' m ws hm w
 ·rcases Z0 q with ⟨rfl,z⟩ | ⟨_,z⟩
  ·cases z
  ·obtain ⟨a',e',r⟩:=I.xc k c z; exact ⟨a',e',s1 _ _ r⟩
theorem s_mv {i j:Nat} {x y:Str} {yp:Pos} (hv:PE X (.Name y yp) (yX j)) (hN:X.N.Nodup) (hi:X.N[i]? =some x) (hx:L2.Loc X.env.scope x) (hs:swapsWith (.Name y yp) (some (.Name x p')) pos.line X.env=pure false:=by rfl)
  (hf:X.fn x=true\/X.env.scope.names.lookup x=some .local:=by first | exact .inl rfl | exact .inr rfl | assumption):um X Y (.Assign [.Name x p'] (.Name y yp) pos) (mvS i j):= .mk λρ=>
 PS.imp (Uv hN hi hx hv hs hf) λD σ H ⟨B,I,q⟩=>by
  unfold mvS at q;split at q
  ·rename_i ts e;obtain ⟨a,B',e1,s1,r,J⟩:=I.give e;exact ⟨_,e1,q _ _ B' s1 (J.setV i r)⟩
  ·exact q.elim
end
def eqs (y:T):List T->Option (List Bool)
 | []=>some []
 | t :: ts=>match eqF 30 t y with
  | none=>none
  | some b=>match eqs y ts with
   | none=>none
   | some bs=>some (b :: bs)
def Gu (y:T) (ts:List T):R T:=match eqs y ts with
 | some bs=> .ok (.int (bs.count true))
 | none=> .bad
def yA (y:T) (ts:List T):R T:=match eqs y ts with
 | some bs=>if true∈bs then .ok (.int (bs.idxOf true)) else .bad
 | none=> .bad
def UN (g:T->List T->R T) (fa fb:En->R T):En->R T:=λρ=>(fa ρ).bind λt=>match t with
 | .lst ts=>(fb ρ).bind λu=>g u ts
 | _=> .bad
theorem YQ {H:Hp} {y:T} {e:Value->Bool} (he:∀ (v:V) (t:T) (u:Value) (b:Bool),ZJ v u->Rep H v t->eqF 30 t y=some b->e u=b):∀ {xs:List V} {ts:List T} {its:List Value} {bs:List Bool},
  Zy xs its->zT H xs ts->eqs y ts=some bs->its.map e=bs/\∀ u∈its,∃ v t k,ZJ v u/\Rep H v t/\eqF 30 t y=some k
 | _,_,_,_, .nil, .nil,h=>by
  cases h;exact ⟨rfl,λu hu=>by simp at hu⟩
 | _,_,_,_, .cons rv vs, .cons r rs,h=>by
  rename_i v u vals us t ts;unfold eqs at h;cases q:eqF 30 t y with
  | none=>rw [q] at h; cases h
  | some k=>
   rw [q] at h;cases q' :eqs y ts with
   | none=>rw [q'] at h; cases h
   | some k' =>
    rw [q'] at h;cases h;obtain ⟨h1,h2⟩:=YQ he vs rs q';refine ⟨by rw [List.map_cons,h1,he v t u k rv r q],λw hw=> ?_⟩
    rcases List.mem_cons.mp hw with z | hw
    ·exact ⟨v,t,k,z ▸ rv,r,q⟩
    ·exact h2 w hw
section
variable {X:Cx} {Y:Fx} {a b:Expr} {fa fb:En->R T} {pos p p' pos' :Pos}
theorem YR {e:Value->Bool}:∀ its:List Value,List.countP e its=(its.map e).count true
 | []=>rfl
 | u :: us=>by
  rw [List.countP_cons,List.map_cons,List.count_cons,YR us];cases e u <;> rfl
theorem QR (hu:X.A.units+64 < cLine):MtR X "list.count" (λx xs H Q=>∃ l ys ts v t bs,x= .ref l/\xs=[v]/\H l=some (.lst ys)/\zT H ys ts/\Rep H v t/\eqs t ts=some bs/\Q (.int (bs.count true)) H):=by
 intro pins s σ H x xs v0 us Q I rx rv h;obtain ⟨l,ys,ts,v,t,bs,rfl,rfl,hl,r,rt,e,q⟩:=h;obtain rfl:v0=Value.ref l:=rx;obtain ⟨u,rfl,ru⟩:=jD rv;obtain ⟨hz,its,n,ri,eo⟩:=(show ZD X.prog X.w H s.heap l (.lst ys) from I.hok l _ hl);obtain ⟨f,hf⟩:=U1 (H:=H) λz=>eqF 30 z t;obtain ⟨h2,h3⟩:=YQ hf ri r e;refine call_meets PySem.F.slot_list_count ⟨_,eo,rfl⟩ PySem.F.entry_list_count (PySem.F.args_list_count_2 _ _) (SeqAt.list_countAt l its.toArray n none #[] u f) ⟨eo,λw hw=> ?_, ?_⟩
 ·obtain ⟨v',t',k,rv',rr,ee⟩:=h3 w (by simpa using hw)
  rw [hf v' t' w k rv' rr ee];exact (Yo I 30 X.A.in1 (by rw [Jm]; omega) t' t k v' v w u ee rr rt rv' ru).1
 ·rw [show its.toArray.toList=its from rfl,YR,h2];exact ⟨.int _,H,I.tok _,⟨_,rfl⟩,q⟩
theorem QS (hu:X.A.units+64 < cLine):MtR X "list.index" (λx xs H Q=>∃ l ys ts v t bs,x= .ref l/\xs=[v]/\H l=some (.lst ys)/\zT H ys ts/\Rep H v t/\eqs t ts=some bs/\true∈bs/\Q (.int (bs.idxOf true)) H):=by
 intro pins s σ H x xs v0 us Q I rx rv h;obtain ⟨l,ys,ts,v,t,bs,rfl,rfl,hl,r,rt,e,hm,q⟩:=h;obtain rfl:v0=Value.ref l:=rx;obtain ⟨u,rfl,ru⟩:=jD rv;obtain ⟨hz,its,n,ri,eo⟩:=(show ZD X.prog X.w H s.heap l (.lst ys) from I.hok l _ hl);obtain ⟨f,hf⟩:=U1 (H:=H) λz=>eqF 30 z t;obtain ⟨h2,h3⟩:=YQ hf ri r e;have hj:bs.idxOf true < bs.length:=List.idxOf_lt_length_iff.mpr hm;have hlen:bs.length=its.length:=by rw [← h2,List.length_map]
 have hri:=ri.length;rw [sizeLine_eq] at hz;have hat:∀ m (hm:m < its.length),f its[m]=bs[m]'(by rw [hlen]; exact hm):=λm hm=>by
  have:(its.map f)[m]'(by rw [List.length_map]; exact hm)=bs[m]'(by rw [hlen]; exact hm):=by simp only [h2]
  rw [← this,List.getElem_map]
 refine call_meets PySem.F.slot_list_index ⟨_,eo,rfl⟩ PySem.F.entry_list_index (PySem.F.args_list_index_2 _ _) (SeqAt.list_indexAt l its.toArray n none #[] u f (bs.idxOf true) (by rw [List.size_toArray,← hlen]; exact hj) (by omega) ?_ ?_) ⟨eo,λw hw=> ?_, ?_⟩
 ·rw [List.getElem_toArray,hat];exact List.getElem_idxOf hj
 ·intro m hm hlt;rw [List.getElem_toArray,hat m (by simpa using hm)]
  have:=List.not_of_lt_findIdx (p:=(· == true)) (xs:=bs) (i:=m) hlt;simpa using this
 ·obtain ⟨v',t',k,rv',rr,ee⟩:=h3 w (by simpa using hw)
  rw [hf v' t' w k rv' rr ee];exact (Yo I 30 X.A.in1 (by rw [Jm]; omega) t' t k v' v w u ee rr rt rv' ru).1
 ·exact ⟨.int _,H,I.tok _,⟨_,rfl⟩,q⟩
theorem xD {pa:Pos} (hu:X.A.units+64 < cLine) (ha:Jl X Y a fa) (hb:Jl X Y b fb) (hb1:attributeBase a "count" X.env (eval a X.env)=eval a X.env:=by rfl) (hs:St1 X b:=by exact st1 rfl) (hz:(pa.endLine == p.line)=true:=by rfl):
  Snd X Y (.Call (.Attribute a "count" pa) [b] [] p) (UN Gu fa fb):= .mk λρ=>by
 have e1:(((((backTo p (starEach [b] X.env)).all λx=> !x.fst) && (backToKw p (keywordEach [] X.env)).all λx=>x.fst.isSome) && decide (([b].length+([]:List Keyword).length+if ([]:List Keyword).isEmpty=true then 0 else 1) < 30))=true):=by rw [hs]; rfl
 refine PE.imp (ue PySem.F.plainAttrs_list PySem.F.slot_list_count PySem.F.type_list_count (QR hu) (ha ρ) (zA (hb ρ) Zf hs) hb1 e1 hz hs rfl) λσ H Q ⟨B,I,q⟩=>step I q λt v H1 _ s1 r1 I1 q1=> ?_;cases t with
 | lst ts=>
  cases r1 with
  | @lst l xs _ h r=>
   refine ⟨.inl ⟨rfl,_,SqL.of h⟩,step I1 q1 λu v' H2 _ s2 r2 I2 q2=> ?_⟩;unfold Gu at q2;split at q2
   ·rename_i bs e;exact ⟨l,xs,ts,v',u,bs,rfl,rfl,s2 _ _ h,r.mono s2,r2,e,j2 I2 q2 (.int _)⟩
   ·exact q2.elim
 | _=>exact q1.elim
theorem Wx {pa:Pos} (hu:X.A.units+64 < cLine) (ha:Jl X Y a fa) (hb:Jl X Y b fb) (hb1:attributeBase a "index" X.env (eval a X.env)=eval a X.env:=by rfl) (hs:St1 X b:=by exact st1 rfl) (hz:(pa.endLine == p.line)=true:=by rfl):
  Snd X Y (.Call (.Attribute a "index" pa) [b] [] p) (UN yA fa fb):= .mk λρ=>by
 have e1:(((((backTo p (starEach [b] X.env)).all λx=> !x.fst) && (backToKw p (keywordEach [] X.env)).all λx=>x.fst.isSome) && decide (([b].length+([]:List Keyword).length+if ([]:List Keyword).isEmpty=true then 0 else 1) < 30))=true):=by rw [hs]; rfl
 refine PE.imp (ue PySem.F.plainAttrs_list PySem.F.slot_list_index PySem.F.type_list_index (QS hu) (ha ρ) (zA (hb ρ) Zf hs) hb1 e1 hz hs rfl) λσ H Q ⟨B,I,q⟩=>step I q λt v H1 _ s1 r1 I1 q1=> ?_;cases t with
 | lst ts=>
  cases r1 with
  | @lst l xs _ h r=>
   refine ⟨.inl ⟨rfl,_,SqL.of h⟩,step I1 q1 λu v' H2 _ s2 r2 I2 q2=> ?_⟩;unfold yA at q2;split at q2
   ·rename_i bs e;split at q2
    ·rename_i hm;exact ⟨l,xs,ts,v',u,bs,rfl,rfl,s2 _ _ h,r.mono s2,r2,e,hm,j2 I2 q2 (.int _)⟩
    ·exact q2.elim
   ·exact q2.elim
 | _=>exact q1.elim
end
section
variable {X:Cx} {Y:Fx} {a b:Expr} {fa fb:En->R T} {pos p p' pos' :Pos}
end
section
variable {X:Cx} {Y:Fx} {a b:Expr} {fa fb:En->R T} {pos p p' pos' :Pos}
end
section
variable {X:Cx} {Y:Fx} {tg iter elt:Expr} {ifs:List Expr} {scope:Scope} {pos pos' :Pos} {N' :List Str} {k:Nat} {js:List Nat} {fi:En->R (List T)} {tG:TG} {g:T->En->R En} {ft:En->R Bool} {fe:En->R T}
end
section
variable {P:Program} {w:World} {K:PySem.W.Frag} {mg:Str->Option Value} {base:Heap}
end
end PV
namespace PySem.RV
open PySem PySem.Spec PyProof.Rows PySem.Builtin.SmallTypes
section
variable {prog:Program} {w:World} {A:Around} {E:Value->Shared->Prop} {s:Shared} {it l:Addr} {xs:Array Value}
end
end PySem.RV
namespace PySem.RV
open PySem PySem.Spec PyProof.Rows
section
variable {prog:Program} {w:World} {A:Around} {E:Value->Shared->Prop} {s:Shared} {I:Addr} {fp wr:List Addr} {G:Array GenState->Array GenState->Prop} {n:Nat} {P:Nat->Value->Prop} {St:Nat->Shared->Prop}
end
end PySem.RV
namespace PV
open PySem PySem.Spec PyProof.Rows L2
section
variable {X:Cx} {Y:Fx} {a b tg:Expr} {fa fb:En->R T} {pos p p' pos' :Pos}
end
section
variable {X:Cx} {Y:Fx} {a b:Expr} {fa fb:En->R T} {pos p p' pos' pt:Pos} {elts:List Expr} {kk:Nat}
end
section
variable {X:Cx} {Y:Fx} {a b:Expr} {fa fb:En->R T} {pos p p' pos' pt:Pos} {elts:List Expr} {kk:Nat}
end
end PV
namespace PySem.RV
open PySem PySem.Spec PyProof.Rows PySem.Builtin.SmallTypes
theorem draws_tup {prog:Program} {w:World} {A:Around} (hh:A.handled=none) (it l:Addr) (hne:l ≠ it) (items:Array Value):Draws prog w A it [it,l] items.size (λi v=>items[i]? =some v) (λi h=>h.IsTupleIter it l i/\h.IsTuple l items) where
 live:=λi h st=>(ZG.nx_tup hne items).there st it (.head _)
 frame:=λi h h' st hk=>(ZG.nx_tup hne items).keep st hk
 item:=λi s Q E hi st hQ=>ZG.tup_item st.1 st.2 (x:=items[i]) (by simp [hi]) λh' a b=>hQ _ h' s.toks (by simp [hi]) ⟨a,st.2.extBut b.extBut hne⟩ b
 done:=λs Q E st hE=>ZG.tup_stop hh st.1 st.2 (by simp) hE
abbrev eOb (i:Addr):Obj:={ cls:= .type "enumerate",data:= .fields #[.none, .bool false, .ref i,rawInt 0, .none, .none] }
theorem YS (l:Addr) (items:Array Value) (n:Nat) (dct:Option Addr) (sl:Array (Option Value)):
  Meets (Builtin.«enumerate.__new__» ⟨[.type "enumerate", .ref l],[]⟩) (λ_ R s=>s.heap.get? l=some { cls:= .type "tuple",dict:=dct,data:= .seq items n,slots:=sl }/\
   R (.ok (.ret (.ref (s.heap.push (ZG.oT l)).objs.size))) { s with heap:=(s.heap.push (ZG.oT l)).push (eOb s.heap.objs.size) }):=
 .of_wp λprog w A R s h=>by
  obtain ⟨hp,g,d,tk,os⟩:=s;obtain ⟨hl,h⟩:=h;have hsub:=sub_enumerate;have hL:Heap.IsTuple (Shared.heap ⟨hp,g,d,tk,os⟩) l items:=⟨_,hl,rfl,n,rfl⟩
  wp_walk using PySem.AutoSeq1.wpAny_loadPart' hl
  refine wpAny_stack_any λst=>wpAny_pure ?_;split
  ·rename_i c _ _ _ _ _;cases (c == Value.type "enumerate") <;> (wp_walk using PySem.AutoSeq1.wpAny_loadPart' hl,wpAny_pyIter_tuple hL; exact ⟨_,rfl,h⟩)
  ·wp_walk using PySem.AutoSeq1.wpAny_loadPart' hl,wpAny_pyIter_tuple hL
   exact ⟨_,rfl,h⟩
theorem enum_callT {prog:Program} {w:World} {A:Around} {E:Value->Shared->Prop} {s:Shared} {l:Addr} {items:Array Value} {Q:Value->Shared->Prop} (hL:s.heap.IsTuple l items)
  (h:∀ h',IsEnum h' (s.heap.objs.size+1) s.heap.objs.size 0 .none->h'.IsTupleIter s.heap.objs.size l 0->(∀ b o,s.heap.get? b=some o->h'.get? b=some o)->Q (.ref (s.heap.objs.size+1)) { s with heap:=h' }):
  wpAny (model prog w) A (call (.type "enumerate") [.ref l]) Q E s:=by
 obtain ⟨⟨c,dct,dt,sl⟩,hl,hc,n,hd⟩:=hL;obtain rfl:c= .type "tuple":=hc;obtain rfl:dt= .seq items n:=hd;refine callType_new F.called_enumerate (by decide) (F.typeCall_enumerate_1 _) (F.newCall_enumerate_1 _) (λobj=>F.args_object_init_2 obj _) F.entry_enumerate_new (YS l items n dct sl) ⟨hl, ?_⟩
 have hz:(s.heap.push (ZG.oT l)).objs.size=s.heap.objs.size+1:=Heap.size_push ..;have e1:((s.heap.push (ZG.oT l)).push (eOb s.heap.objs.size)).get? (s.heap.push (ZG.oT l)).objs.size=some _:=Heap.get?_push_size _ rfl;rw [hz] at e1;refine (show _/\_ from ?_);rw [hz];exact ⟨⟨_,e1,rfl⟩,h _ e1 ⟨_,Heap.get?_push_of_some _ (Heap.get?_push_size _ rfl),rfl,rfl⟩ λb o x=>Heap.get?_push_of_some _ (Heap.get?_push_of_some _ x)⟩
end PySem.RV
namespace PV
open PySem PySem.Spec PyProof.Rows L2
def Gv (K:PySem.W.Frag) (l:Addr) (n:Nat):It:=
 ⟨λi H=>∃ xs x,SqT K H l xs/\xs.length=n/\xs[i]? =some x,λi H v H' =>∃ p x,H p=none/\v= .ref p/\(∀ xs,SqT K H l xs->xs[i]? =some x)/\H' =upd H p (.tup [.int i,x]),λi H=>∃ xs,SqT K H l xs/\xs.length=n/\n<=i⟩
theorem yB {P:Program} {w:World} {K:PySem.W.Frag} {elts:List Expr} {kk:Nat} {pt:Pos} (e it l:Addr) (n:Nat) (hei:e ≠ it) (hle:l ≠ e) (hli:l ≠ it):
  Y2 P w K (.Tuple elts kk pt) (Gv K l n) [e,it] e (λi h=>i<=n/\(∃ old,IsEnum h e it i old)/\h.IsTupleIter it l i) where
 mem:=by simp
 obj:=λi h st b hb=>by
  obtain ⟨_,⟨old,he⟩,o,e1,c,d⟩:=st;rcases List.mem_cons.mp hb with rfl | hb
  ·exact ⟨_,he,λv z=>nomatch z⟩
  ·have z:b=it:=by simpa using hb
   subst z;exact ⟨o,e1,λv z=>by rw [d] at z; cases z⟩
 keep:=λi h h' st k=>by
  obtain ⟨hn,⟨old,he⟩,o,e1,r⟩:=st;exact ⟨hn,⟨old,k e (by simp) _ he⟩,o,k it (by simp) o e1,r⟩
 item:=by
  intro X hP hw hK hc i pins s σ H E I hf st hg;subst hP hw hK;obtain ⟨xs,x,hq,hxn,hx⟩:=hg;obtain ⟨its,rv,p,hz⟩:=I.tuple hq;obtain ⟨u,hu,ru⟩:=rv.get hx;obtain ⟨hin,⟨old,he⟩,hit⟩:=st;have hi:i < its.toArray.size:=by
   have:=(List.getElem?_eq_some_iff.mp hu).1;simpa using this
  have D:=RV.draws_tup (prog:=X.prog) (w:=X.w) (A:=X.A.in1) (I.ok.hd hc) it l hli its.toArray;have hef:e ∉ [it,l]:=λz=>by
   rcases List.mem_cons.mp z with z | z
   ·exact hei z
   ·exact hle (List.mem_singleton.mp z).symm
  have WE:=WalksT.enumerateD D e hei hef (.head _);refine WE.item i s _ _ hi ⟨⟨old,he⟩,hit,p⟩ λT vals h' tk hP hT hTup hM hk=> ?_;obtain ⟨t,y,hy,rfl⟩:=hP;have hyu:y=u:=by
   have:its[i]? =some y:=by simpa using hy
   rw [hu] at this; exact (Option.some.inj this).symm
  subst hyu;refine ⟨.ref T,rfl, ?_⟩;refine WE.go elts kk pt i T _ _ _ hM λh2 hst2 hk2=> ?_;have hTn:H T=none:=I.hok.fresh hT;have hTne:∀ b∈[e,it],b ≠ T:=λb hb z=>by
   obtain ⟨_,_,h3,h4⟩:=hM;rcases List.mem_cons.mp hb with rfl | hb
   ·exact h3 z.symm
   ·have:b=it:=by simpa using hb
    subst this; exact h4 z.symm
  have qf:IsTup h2 T #[.int i t,y]:=by
   obtain ⟨o,eo,r⟩:=hTup;exact ⟨o,hk2 T o (λhb=>hTne T hb rfl) eo,r⟩
  refine ⟨.ref T,upd H T (.tup [.int i,x]),Inv.laidT (s:=s) (h' :=h2) (ch:=[e,it]) (tk:=tk) I hf (λb o hb e=>hk2 b o hb (hk b o hb e)) (λb o hb _=> ?_) hT ⟨by rw [sizeLine_eq]; show 2<=16777216; decide,[.int i t,y], .cons ⟨t,rfl⟩ (.cons ru .nil),qf, .inl ⟨_,_,rfl⟩⟩,rfl,⟨T,x,hTn,rfl,λys hy=>by rw [I.tuple_inj hy hq]; exact hx,rfl⟩,⟨by have:=(List.getElem?_eq_some_iff.mp hx).1; omega,hst2.1,hst2.2.1⟩,λb hb=> ?_⟩
  ·obtain ⟨⟨old2,he2⟩,⟨o2,eo2,_⟩,_⟩:=hst2;rcases List.mem_cons.mp hb with rfl | hb
   ·exact ⟨_,he2⟩
   ·have:b=it:=by simpa using hb
    subst this; exact ⟨o2,eo2⟩
  ·rw [zD (hTne b hb)]; exact (hf b hb).1
 done:=by
  intro X hP hw hK hc i pins s σ H E I hf st hg;subst hP hw hK;obtain ⟨xs,hq,hxn,hx⟩:=hg;obtain ⟨its,rv,p,hz⟩:=I.tuple hq;obtain ⟨hin,⟨old,he⟩,hit⟩:=st;have hl:=rv.length;have D:=RV.draws_tup (prog:=X.prog) (w:=X.w) (A:=X.A.in1) (I.ok.hd hc) it l hli its.toArray;have hn:its.toArray.size=i:=by simp; omega
  refine wpAny_pyNext_enum_endD D he (by rw [hn]; exact ⟨hit,p⟩) λh' hk=>⟨rfl, ?_⟩
  obtain ⟨f0,f1,f2,f3,f4,f5⟩:=hf it (by simp)
  exact I.turned (t' :=s.toks) (λb o hb e=>hk b o hb e) f0 f1 f3 f4 f5
 self:=λ_ _ _ _ _ st h=>let ⟨_,⟨_,he⟩,_⟩:=st; wpAny_pyIter_enum he h
theorem QT {K:PySem.W.Frag} {B1 H1:Hp} {a:Addr} {xs:List V} {ts:List T} (h:B1 a=some (.tup xs)) (r:zT B1 xs ts):rI B1 H1 (Gv K a xs.length) (jo ts):=λB2 H2 s1 s2=>by
 have h2:=s2 _ _ (s1 _ _ h);rw [jN];refine ⟨λi hi=> ?_,λi t x H3 e y=> ?_,λi hi=>⟨xs,SqT.of h2,rfl,by rw [r.length]; exact hi⟩⟩
 ·obtain ⟨v,e,_⟩:=r.get (List.getElem?_eq_getElem hi);exact ⟨xs,v,SqT.of h2,rfl,e⟩
 ·obtain ⟨p,v,hp,rfl,y,rfl⟩:=y;obtain ⟨t',et,rfl⟩:=wD e;obtain ⟨v',e1,r1⟩:=r.get et;have:=y xs (SqT.of h2);rw [e1] at this; cases this;refine ⟨zJ.new hp _, .tup (jI hp _) (.cons (.int _) (.cons ?_ .nil))⟩;exact (r1.mono s1).mono (Za.ge s2 (zJ.new hp _))
def YT (fa:En->R T):En->R (List T):=λρ=>(fa ρ).bind λt=>match t with
 | .tup xs=> .ok (jo xs)
 | _=> .bad
section
variable {X:Cx} {Y:Fx} {a:Expr} {fa:En->R T} {pos p pt:Pos} {elts:List Expr} {kk:Nat}
theorem QU {ta:TA} (hg:Gl X "enumerate") (hm:X.mg "enumerate"=none) (ha:PA X [a] ta) (hs:St1 X a:=by exact st1 rfl):
  PI X (.Tuple elts kk pt) (.Call (.Name "enumerate" p) [a] [] pos) (λσ H R=>ta σ H λvs H1=>∃ l xs,vs=[.ref l]/\H1 l=some (.tup xs)/\R (Gv X.K l xs.length) H1):=by
 intro pins s σ H R I h;refine Call_ (Ji I hg hm PyProof.Rows.Boot.«enumerate» (PyProof.Rows.callWith_type1 (thn (ha pos pins s σ H _ I h) λus s1 ⟨vs,H1,I1,r1,q1⟩=> ?_) hs rfl));obtain ⟨l,xs,e,hl,q⟩:=q1;subst e;obtain ⟨u,rfl,ru⟩:=jD r1;obtain rfl:u=Value.ref l:=ru;obtain ⟨its,rv,pl,hz⟩:=I1.tuple (SqT.of hl);have hlt:l < s1.heap.objs.size:=I1.hok.lt hl;refine RV.enum_callT (show s1.heap.IsTuple l its.toArray from pl) λh' he hit hk=>wpAny_pyIter_enum he ?_;have f:∀ b∈[s1.heap.objs.size+1,s1.heap.objs.size],u5 X pins H1 b:=λb hb=>by
  rcases List.mem_cons.mp hb with rfl | hb
  ·exact I1.fpOk (Nat.le_succ _) (I1.hok.fresh (Nat.le_succ _))
  ·have z:b=s1.heap.objs.size:=by simpa using hb
   subst z;exact I1.fpOk (Nat.le_refl _) (I1.hok.fresh (Nat.le_refl _))
 exact ⟨s1.heap.objs.size+1,[s1.heap.objs.size+1,s1.heap.objs.size],_,_,H1,rfl,I1.kept (t' :=s1.toks) hk,yB _ _ l xs.length (Nat.succ_ne_self _) (Nat.ne_of_lt (Nat.lt_succ_of_lt hlt)) (Nat.ne_of_lt hlt),⟨Nat.zero_le _,⟨_,he⟩,hit⟩,f,q⟩
theorem xE (hg:Gl X "enumerate") (hm:X.mg "enumerate"=none) (ha:Snd X Y a fa) (hs:St1 X a:=by exact st1 rfl):yV X Y (.Tuple elts kk pt) (.Call (.Name "enumerate" p) [a] [] pos) (YT fa):= .mk λρ=>
 PI.imp (QU hg hm (zA (ha ρ) Zf hs) hs) λσ H R ⟨B,I,q⟩=>step I q λt v H1 _ s1 r1 I1 q1=>by
  cases r1 with
  | @tup l xs ts h r=>exact ⟨l,xs,rfl,I1.sB _ _ h,j2 I1 (show Po Y rI _ H1 (.ok (jo ts)) R from q1) (QT h r)⟩
  | _=>exact q1.elim
end
end PV
namespace PySem.RW37
open PySem PySem.Spec PyProof.Rows L2
section
variable {X:Cx} {pos:Pos}
end
end PySem.RW37
namespace PV
open PySem PySem.Spec PyProof.Rows L2 PySem.RW37
section
variable {X:Cx} {Y:Fx} {pos:Pos} {a b c:Expr}
end
end PV
namespace PV
open PySem PySem.Spec PyProof.Rows L2
section
variable {X:Cx} {Y:Fx} {a b:Expr} {fa fb:En->R T} {pos p p' pos' pt:Pos} {elts:List Expr} {kk:Nat}
end
section
variable {X:Cx} {Y:Fx} {tg iter elt:Expr} {ifs:List Expr} {scope:Scope} {pos pos' :Pos} {N' :List Str} {k:Nat} {js:List Nat} {fi:En->R (List T)} {tG:TG} {g:T->En->R En} {ft:En->R Bool} {fe:En->R T}
end
section
variable {prog:Program} {w:World} {A:Around} {R:Result->Shared->Prop} {I:Addr} {fp wr:List Addr} {n:Nat} {P:Nat->Value->Prop} {St:Nat->Heap->Prop}
end
section
variable {prog:Program} {w:World} {A:Around} {E:Value->Shared->Prop} {s:Shared} {l:Addr} {xs:Array (Int×Tok)}
end
section
variable {X:Cx} {Y:Fx} {a b:Expr} {fa fb:En->R T} {pos p p' pos' pt kp:Pos} {elts:List Expr} {kk:Nat}
end
section
variable {prog:Program} {w:World} {K:Type} [DecidableEq K] {knd:KeyKind prog w K} {A:Around} {E:Value->Shared->Prop} {s:Shared}
end
section
variable {prog:Program} {w:World} {A:Around} {E:Value->Shared->Prop} {s:Shared} {I S:Addr} {i ep j:Nat} {o:Obj} {es:Array (Int×Value)} {t:SetTable}
end
section
variable {prog:Program} {w:World} {A:Around} {E:Value->Shared->Prop} {s:Shared} {I S P:Addr} {i ep j:Nat} {es:Array (Int×Value)} {t:SetTable}
end
section
variable {prog:Program} {w:World} {A:Around} {E:Value->Shared->Prop} {s:Shared} {S:Addr} {ep:Nat} {es:Array (Int×Value)} {t:SetTable}
end
section
variable {prog:Program} {w:World} {A:Around} {E:Value->Shared->Prop} {s:Shared} {S:Addr}
end
section
variable {prog:Program} {w:World} {A:Around} {R:Result->Shared->Prop} {I:Addr} {fp wr:List Addr} {n:Nat} {P:Nat->Value->Prop} {St:Nat->Heap->Prop}
end
section
variable {prog:Program} {w:World} {A:Around} {E:Value->Shared->Prop} {s:Shared}
end
section
variable {prog:Program} {w:World} {A:Around} {E:Value->Shared->Prop} {s:Shared} {S:Addr}
end
section
variable {X:Cx} {Y:Fx} {a b:Expr} {fa fb:En->R T} {pos pos' p p' :Pos}
end
section
variable {X:Cx} {Y:Fx} {a b:Expr} {fa fb:En->R T} {pos:Pos}
end
section
variable {X:Cx} {Y:Fx} {a b:Expr} {fa fb:En->R T} {pos:Pos}
end
section
variable {prog:Program} {w:World} {A:Around} {E:Value->Shared->Prop} {s:Shared}
end
section
variable {prog:Program} {w:World} {A:Around} {E:Value->Shared->Prop} {s:Shared}
end
section
variable {prog:Program} {w:World} {A:Around} {R:Result->Shared->Prop} {I:Addr} {fp wr:List Addr} {n:Nat} {P:Nat->Value->Prop} {St:Nat->Heap->Prop}
end
section
variable {prog:Program} {w:World} {A:Around} {E:Value->Shared->Prop} {s:Shared}
end
section
variable {X:Cx} {Y:Fx} {a b:Expr} {fa fb:En->R T} {pos pos' p p' :Pos}
end
section
variable {X:Cx} {Y:Fx} {a:Expr} {fa:En->R T} {pos pos' p p' :Pos}
end
section
variable {X:Cx} {Y:Fx} {a b:Expr} {fa fb:En->R T} {pos:Pos}
end
section
variable {X:Cx} {Y:Fx} {a:Expr} {fa:En->R T} {pos p2 p3 p4:Pos} {kc:Nat}
end
end PV
namespace PySem.RV
open PySem PySem.Spec PyProof.Rows PySem.Builtin.SmallTypes
section
variable {prog:Program} {w:World} {A:Around} {E:Value->Shared->Prop} {s:Shared} {I l:Addr} {xs:Array Value}
end
end PySem.RV
namespace PV
open PySem PySem.Spec PyProof.Rows L2
section
variable {X:Cx} {Y:Fx} {a:Expr} {fa:En->R T} {pos p p' pos' :Pos}
end
def UO (t t' :T):R Bool:=match t,t' with
 | .str x, .str y=> .ok (Txt.contains y x)
 | _,_=> .bad
theorem vY:Nx UO:=λt t' c h=>by
 unfold UO at h;split at h <;> cases h
section
variable {X:Cx} {Y:Fx} {a b c:Expr} {fa fb fc:En->R T} {pos p:Pos}
theorem YU:OpR X (compareOp .In) (W7 UO):=by
 intro pins s σ H x y v u Q I rx ry h;obtain ⟨t,t',k,r,r',e,q⟩:=h;unfold UO at e;split at e
 ·cases e;cases r; cases r';obtain ⟨t1,rfl⟩:=rx;obtain ⟨t2,rfl⟩:=ry;exact P.in_str ⟨.bl _,H,I,rfl,q⟩
 ·cases e
def smE (g:Str->T->R T) (fa fb:En->R T):En->R T:=λρ=>(fa ρ).bind λt=>match t with
 | .str x=>(fb ρ).bind λu=>g x u
 | _=> .bad
def gm (x:Str):T->R T
 | .str y=> .ok (.bl (Txt.startswith x y))
 | _=> .bad
def gp (x:Str):T->R T
 | .str y=> .ok (.bl (Txt.endswith x y))
 | _=> .bad
def QV (fa fb fc:En->R T):En->R T:=λρ=>(fa ρ).bind λt=>match t with
 | .str x=>(fb ρ).bind λu=>(fc ρ).bind λw=>match u,w with
  | .str y, .int i=> .ok (.bl (Txt.startswith3 x y i))
  | _,_=> .bad
 | _=> .bad
theorem vZ:MtR X "str.startswith" (λx xs H Q=>(∃ z y,x= .str z/\xs=[.str y]/\Q (.bl (Txt.startswith z y)) H)\/∃ z y i,x= .str z/\xs=[.str y, .int i]/\Q (.bl (Txt.startswith3 z y i)) H):=by
 intro pins s σ H x xs v us Q I rx rv h;rcases h with ⟨z,y,rfl,rfl,q⟩ | ⟨z,y,i,rfl,rfl,q⟩
 ·obtain ⟨t,rfl⟩:=rx;obtain ⟨u,rfl,ru⟩:=jD rv;obtain ⟨t2,rfl⟩:=ru;exact call_gives F.slot_str_startswith (typeIs_str _ _ _) F.entry_str_startswith (F.args_str_startswith_2 _ _) (gives_str_startswith z y t t2) ⟨.bl _,H,I,rfl,q⟩
 ·obtain ⟨t,rfl⟩:=rx;obtain ⟨u,u3,rfl,ru,r3⟩:=yl rv;obtain ⟨t2,rfl⟩:=ru;obtain ⟨t3,rfl⟩:=r3;refine SC.startswith3 ?_;exact ⟨.bl _,H,I,rfl,q⟩
theorem kX:MtR X "str.endswith" (λx xs H Q=>∃ z y,x= .str z/\xs=[.str y]/\Q (.bl (Txt.endswith z y)) H):=by
 intro pins s σ H x xs v us Q I rx rv h;obtain ⟨z,y,rfl,rfl,q⟩:=h;obtain ⟨t,rfl⟩:=rx;obtain ⟨u,rfl,ru⟩:=jD rv;obtain ⟨t2,rfl⟩:=ru;exact call_gives F.slot_str_endswith (typeIs_str _ _ _) F.entry_str_endswith (F.args_str_endswith_2 _ _) (gives_str_endswith z y t t2) ⟨.bl _,H,I,rfl,q⟩
section
variable {pa:Pos}
theorem few1 {b:Expr} {p:Pos} (hs:St1 X b):(((((backTo p (starEach [b] X.env)).all λx=> !x.fst) && (backToKw p (keywordEach [] X.env)).all λx=>x.fst.isSome) && decide (([b].length+([]:List Keyword).length+if ([]:List Keyword).isEmpty=true then 0 else 1) < 30))=true):=by rw [hs]; rfl
theorem Gw (ha:Snd X Y a fa) (hb:Snd X Y b fb) (hb1:attributeBase a "startswith" X.env (eval a X.env)=eval a X.env:=by rfl) (hs:St1 X b:=by exact st1 rfl) (hz:(pa.endLine == p.line)=true:=by rfl):
  Snd X Y (.Call (.Attribute a "startswith" pa) [b] [] p) (smE gm fa fb):= .mk λρ=>
 PE.imp (ue PySem.F.plainAttrs_str PySem.F.slot_str_startswith PySem.F.type_str_startswith vZ (ha ρ) (zA (hb ρ) Zf hs) hb1 (few1 hs) hz hs rfl) λσ H Q ⟨B,I,q⟩=>step I q λt v H1 _ s1 r1 I1 q1=>by
  cases r1 with
  | str x=>
   refine ⟨rfl,step I1 q1 λu v' H2 _ s2 r2 I2 q2=> ?_⟩;cases r2 with
   | str y=>exact .inl ⟨x,y,rfl,rfl,po0 I2.sB q2 rfl (.bl _)⟩
   | _=>exact q2.elim
  | _=>exact q1.elim
theorem kY (ha:Snd X Y a fa) (hb:Snd X Y b fb) (hc:Snd X Y c fc) (hb1:attributeBase a "startswith" X.env (eval a X.env)=eval a X.env:=by rfl) (hs:starEach [b,c] X.env=[(false,eval b X.env),(false,eval c X.env)]:=by exact st2 rfl rfl) (hs2:St1 X c:=by exact st1 rfl) (hz:(pa.endLine == p.line)=true:=by rfl):
  Snd X Y (.Call (.Attribute a "startswith" pa) [b,c] [] p) (QV fa fb fc):= .mk λρ=>
 PE.imp (ue PySem.F.plainAttrs_str PySem.F.slot_str_startswith PySem.F.type_str_startswith vZ (ha ρ) (zA (hb ρ) (zA (hc ρ) Zf hs2) (by rw [hs,hs2])) hb1 (by rw [hs]; rfl) hz (by rw [hs,hs2]) (by rw [hs2]; rfl)) λσ H Q ⟨B,I,q⟩=>step I q λt v H1 _ s1 r1 I1 q1=>by
  cases r1 with
  | str x=>
   refine ⟨rfl,step I1 q1 λu v' H2 _ s2 r2 I2 q2=>step I2 q2 λw v3 H3 _ s3 r3 I3 q3=> ?_⟩;cases r2 with
   | str y=>
    cases r3 with
    | int i=>exact .inr ⟨x,y,i,rfl,rfl,po0 I3.sB q3 rfl (.bl _)⟩
    | _=>exact q3.elim
   | _=>cases r3 <;> exact q3.elim
  | _=>exact q1.elim
theorem Gx (ha:Snd X Y a fa) (hb:Snd X Y b fb) (hb1:attributeBase a "endswith" X.env (eval a X.env)=eval a X.env:=by rfl) (hs:St1 X b:=by exact st1 rfl) (hz:(pa.endLine == p.line)=true:=by rfl):
  Snd X Y (.Call (.Attribute a "endswith" pa) [b] [] p) (smE gp fa fb):= .mk λρ=>
 PE.imp (ue PySem.F.plainAttrs_str PySem.F.slot_str_endswith PySem.F.type_str_endswith kX (ha ρ) (zA (hb ρ) Zf hs) hb1 (few1 hs) hz hs rfl) λσ H Q ⟨B,I,q⟩=>step I q λt v H1 _ s1 r1 I1 q1=>by
  cases r1 with
  | str x=>
   refine ⟨rfl,step I1 q1 λu v' H2 _ s2 r2 I2 q2=> ?_⟩;cases r2 with
   | str y=>exact ⟨x,y,rfl,rfl,po0 I2.sB q2 rfl (.bl _)⟩
   | _=>exact q2.elim
  | _=>exact q1.elim
end
end
def J7 (fa:En->R T) (fl fh:En->R (Option Int)):En->R T:=λρ=>(fa ρ).bind λt=>(fl ρ).bind λlo=>(fh ρ).bind λhi=>match t with
 | .str x=>if x.length<=bnd then .ok (.str (Txt.slice x lo hi)) else .bad
 | _=> .bad
def xF (i:Int):Str:=Str.ofString (toString i)
def txO:T->Option Str
 | .int i=>if i.natAbs < 1000000 then some (xF i) else none
 | .str x=>if x.length<=1000000 then some x else none
 | _=>none
def txV:V->Option Str
 | .int i=>if i.natAbs < 1000000 then some (xF i) else none
 | .str x=>if x.length<=1000000 then some x else none
 | _=>none
def V0 (t:T):R T:=match txO t with
 | some x=> .ok (.str x)
 | none=> .bad
def rdI (x:Str):Option Int:=((List.range 199).map λ(k:Nat)=>(k:Int) - 99).find? λn=>xF n == x
theorem YV {i:Int} (h:i.natAbs < 1000000):i.natAbs.log2 < 1920:=by
 by_cases h0:i.natAbs=0
 ·rw [h0]; decide
 ·have:i.natAbs.log2 < 20:=(Nat.log2_lt h0).mpr (by omega)
  omega
section
variable {X:Cx} {Y:Fx} {a b c:Expr} {fa fb fc:En->R T} {pos p p1 p2 p3:Pos} {kc:Nat}
theorem kZ:SlR X (λx lo hi H Q=>∃ z,x= .str z/\z.length<=bnd/\Q (.str (Txt.slice z lo hi)) H):=by
 intro pins s σ H x v vl vu lo hi sl Q I rx hs pl pu h;obtain ⟨z,rfl,hz,q⟩:=h;obtain ⟨t,rfl⟩:=rx;refine ⟨"str",_,F.slot_str_getitem.lookup,typeIs_str _ _ _, ?_⟩;have fin:∀ t' k,EP X pins σ Q (.str (Txt.slice z lo hi) t') { s with toks:=k }:=λt' k=>⟨.str _,H,I.tok k,⟨t',rfl⟩,q⟩;have hl:=Nat.le_trans (Txt.slice_le z lo hi) (jc hz);cases pl with
 | none=>
  cases pu with
  | none=>exact wpAny_getItem_str_slice (l:=none) (u:=none) (st:=none) hs rfl (post_val_or_str ⟨hl,fin⟩)
  | int j tj=>exact wpAny_getItem_str_slice (l:=none) (u:=some (j,tj)) (st:=none) hs rfl (post_val_or_str ⟨hl,fin⟩)
 | int i ti=>
  cases pu with
  | none=>exact wpAny_getItem_str_slice (l:=some (i,ti)) (u:=none) (st:=none) hs rfl (post_val_or_str ⟨hl,fin⟩)
  | int j tj=>exact wpAny_getItem_str_slice (l:=some (i,ti)) (u:=some (j,tj)) (st:=none) hs rfl (post_val_or_str ⟨hl,fin⟩)
theorem J9 {lo hi:Option Expr} {fl fh:En->R (Option Int)} (ha:Snd X Y a fa) (hl:vP X Y lo fl) (hh:vP X Y hi fh):Snd X Y (.Subscript a (.Slice lo hi none p2) pos) (J7 fa fl fh):= .mk λρ=>
 PE.imp (Uy kZ (ha ρ) (hl ρ) (hh ρ)) λσ H Q ⟨B,I,q⟩=>step I q λt v H1 _ s1 r1 I1 q1=>step I1 q1 λl l' H2 _ s2 el I2 q2=>step I2 q2 λh h' H3 _ s3 eh I3 q3=>by
  have el' :l' =l:=el;have eh' :h' =h:=eh;subst el' eh';cases r1 with
  | str x=>
   have q3:Po Y rC _ H3 (if x.length<=bnd then .ok (.str (Txt.slice x l' h')) else .bad) Q:=q3
   split at q3
   ·rename_i hb;exact ⟨x,rfl,hb,po0 I3.sB q3 rfl (.str _)⟩
   ·exact q3.elim
  | _=>exact q3.elim
theorem QW:ji X (.type "str") (λxs H Q=>∃ v x,xs=[v]/\txV v=some x/\Q (.str x) H):=by
 intro pins s σ H xs us Q I r h;obtain ⟨v,x,rfl,e,q⟩:=h;obtain ⟨u,rfl,ru⟩:=jD r;unfold txV at e;split at e
 ·split at e
  ·rename_i i hi;obtain ⟨t,rfl⟩:=ru;cases e;exact P.str_of_int (YV hi) ⟨.str _,H,I.tok _,⟨_,rfl⟩,q⟩
  ·cases e
 ·split at e
  ·obtain ⟨t,rfl⟩:=ru;cases e;exact P.str_of_str ⟨.str _,H,I,⟨_,rfl⟩,q⟩
  ·cases e
 ·cases e
theorem K0 {H:Hp} {v:V} {t:T} {x:Str} (r:Rep H v t) (e:txO t=some x):txV v=some x:=by
 cases r with
 | int i=>exact e
 | str y=>exact e
 | _=>cases e
theorem V1 (gl:Gl X "str") (mg:X.mg "str"=none) (ha:Snd X Y a fa) (hs:St1 X a:=by exact st1 rfl):Snd X Y (.Call (.Name "str" p) [a] [] pos) (ap1 V0 fa):=
 Yv QW (λv t B H Q r sB q=>by
  unfold V0 at q;split at q
  ·rename_i x e;exact ⟨v,x,rfl,K0 r e,po0 sB q rfl (.str _)⟩
  ·exact q.elim) gl mg (PyProof.Rows.Boot.«str») ha hs
end
def Gy (x:Str):It:=
 ⟨λi _=>i < x.cps.size,λi H v H' =>∃ p c,H p=none/\v= .ref p/\x.cps[i]? =some c/\H' =upd H p (.tup [.int i, .str ⟨#[c]⟩]),λi _=>x.cps.size<=i⟩
theorem xG (x:Str):strIterType x="str_ascii_iterator"\/strIterType x="str_iterator":=by
 unfold strIterType; split
 ·exact .inl rfl
 ·exact .inr rfl
theorem uu {prog:Program} {w:World} {A:Around} (hh:A.handled=none) (it:Addr) (x:Str) (t:Tok) {ty:String} (hty:ty="str_ascii_iterator"\/ty="str_iterator"):Draws prog w A it [it] x.cps.size (SignAt x) (λi h=>h.IsStrIter it ty x t i):=by
 rcases hty with rfl | rfl
 ·exact Draws.strAscii hh it x t
 ·exact Draws.strWide hh it x t
theorem yC {P:Program} {w:World} {K:PySem.W.Frag} {elts:List Expr} {kk:Nat} {pt:Pos} {x:Str} {tt:Tok} {ty:String} (hty:ty="str_ascii_iterator"\/ty="str_iterator") (e it:Addr) (hei:e ≠ it):
  Y2 P w K (.Tuple elts kk pt) (Gy x) [e,it] e (λi h=>i<=x.cps.size/\(∃ old,IsEnum h e it i old)/\h.IsStrIter it ty x tt i) where
 mem:=by simp
 obj:=λi h st b hb=>by
  obtain ⟨_,⟨old,he⟩,o,e1,c,d⟩:=st;rcases List.mem_cons.mp hb with rfl | hb
  ·exact ⟨_,he,λv z=>nomatch z⟩
  ·have z:b=it:=by simpa using hb
   subst z;exact ⟨o,e1,λv z=>by rw [d] at z; cases z⟩
 keep:=λi h h' st k=>by
  obtain ⟨hn,⟨old,he⟩,o,e1,r⟩:=st;exact ⟨hn,⟨old,k e (by simp) _ he⟩,o,k it (by simp) o e1,r⟩
 item:=by
  intro X hP hw hK hc i pins s σ H E I hf st hg;subst hP hw hK;obtain ⟨hin,⟨old,he⟩,hit⟩:=st;have D:=uu (prog:=X.prog) (w:=X.w) (A:=X.A.in1) (I.ok.hd hc) it x tt hty;have hef:e ∉ [it]:=λz=>hei (List.mem_singleton.mp z);have WE:=WalksT.enumerateD D e hei hef (.head _);refine WE.item i s _ _ hg ⟨⟨old,he⟩,hit⟩ λT vals h' tk hP hT hTup hM hk=> ?_;obtain ⟨t,y,⟨c,u,hc',rfl⟩,rfl⟩:=hP;refine ⟨.ref T,rfl, ?_⟩;refine WE.go elts kk pt i T _ _ _ hM λh2 hst2 hk2=> ?_;have hTn:H T=none:=I.hok.fresh hT;have hTne:∀ b∈[e,it],b ≠ T:=λb hb z=>by
   obtain ⟨_,_,h3,h4⟩:=hM;rcases List.mem_cons.mp hb with rfl | hb
   ·exact h3 z.symm
   ·have:b=it:=by simpa using hb
    subst this; exact h4 z.symm
  have qf:IsTup h2 T #[.int i t, .str ⟨#[c]⟩ u]:=by
   obtain ⟨o,eo,r⟩:=hTup;exact ⟨o,hk2 T o (λhb=>hTne T hb rfl) eo,r⟩
  refine ⟨.ref T,upd H T (.tup [.int i, .str ⟨#[c]⟩]),Inv.laidT (s:=s) (h' :=h2) (ch:=[e,it]) (tk:=tk) I hf (λb o hb e=>hk2 b o hb (hk b o hb e)) (λb o hb _=> ?_) hT ⟨by rw [sizeLine_eq]; show 2<=16777216; decide,[.int i t, .str ⟨#[c]⟩ u], .cons ⟨t,rfl⟩ (.cons ⟨u,rfl⟩ .nil),qf, .inl ⟨_,_,rfl⟩⟩,rfl,⟨T,c,hTn,rfl,hc',rfl⟩,⟨hg,hst2.1,hst2.2⟩,λb hb=> ?_⟩
  ·obtain ⟨⟨old2,he2⟩,⟨o2,eo2,_⟩⟩:=hst2;rcases List.mem_cons.mp hb with rfl | hb
   ·exact ⟨_,he2⟩
   ·have:b=it:=by simpa using hb
    subst this; exact ⟨o2,eo2⟩
  ·rw [zD (hTne b hb)]; exact (hf b hb).1
 done:=by
  intro X hP hw hK hc i pins s σ H E I hf st hg;subst hP hw hK;obtain ⟨hin,⟨old,he⟩,hit⟩:=st;have D:=uu (prog:=X.prog) (w:=X.w) (A:=X.A.in1) (I.ok.hd hc) it x tt hty;have hn:x.cps.size=i:=Nat.le_antisymm hg hin;refine wpAny_pyNext_enum_endD D he (by rw [hn]; exact hit) λh' hk=>⟨rfl, ?_⟩
  obtain ⟨f0,f1,f2,f3,f4,f5⟩:=hf it (by simp)
  exact I.turned (t' :=s.toks) (λb o hb e=>hk b o hb e) f0 f1 f3 f4 f5
 self:=λ_ _ _ _ _ st h=>let ⟨_,⟨_,he⟩,_⟩:=st; wpAny_pyIter_enum he h
theorem QX {B1 H1:Hp} {x:Str}:rI B1 H1 (Gy x) (jo (Zx x)):=λB2 H2 s1 s2=>by
 have hl:(jo (Zx x)).length=x.cps.size:=by rw [jN]; unfold Zx; simp
 refine ⟨λi hi=>by rw [hl] at hi; exact hi,λi t v H3 e y=> ?_,λi hi=>by rw [hl] at hi; exact hi⟩
 obtain ⟨p,c,hp,rfl,hc,rfl⟩:=y;obtain ⟨t',et,rfl⟩:=wD e;have hc' :x.cps.toList[i]? =some c:=by simpa using hc
 unfold Zx at et;rw [List.getElem?_map,hc'] at et;cases et;exact ⟨zJ.new hp _, .tup (jI hp _) (.cons (.int _) (.cons (.str _) .nil))⟩
def UP (fa:En->R T):En->R (List T):=λρ=>(fa ρ).bind λt=>match t with
 | .str x=> .ok (jo (Zx x))
 | _=> .bad
section
variable {X:Cx} {Y:Fx} {a:Expr} {fa:En->R T} {pos p pt:Pos} {elts:List Expr} {kk:Nat}
theorem QY {ta:TA} (hg:Gl X "enumerate") (hm:X.mg "enumerate"=none) (ha:PA X [a] ta) (hs:St1 X a:=by exact st1 rfl):
  PI X (.Tuple elts kk pt) (.Call (.Name "enumerate" p) [a] [] pos) (λσ H R=>ta σ H λvs H1=>∃ x,vs=[.str x]/\R (Gy x) H1):=by
 intro pins s σ H R I h;refine Call_ (Ji I hg hm PyProof.Rows.Boot.«enumerate» (PyProof.Rows.callWith_type1 (thn (ha pos pins s σ H _ I h) λus s1 ⟨vs,H1,I1,r1,q1⟩=> ?_) hs rfl));obtain ⟨x,e,q⟩:=q1;subst e;obtain ⟨u,rfl,ru⟩:=jD r1;obtain ⟨tt,rfl⟩:=ru;refine call_enumerate_str λh' he hit hsz hk=>wpAny_pyIter_enum he ?_;have f:∀ b∈[s1.heap.objs.size+1,s1.heap.objs.size],u5 X pins H1 b:=λb hb=>by
  rcases List.mem_cons.mp hb with rfl | hb
  ·exact I1.fpOk (Nat.le_succ _) (I1.hok.fresh (Nat.le_succ _))
  ·have z:b=s1.heap.objs.size:=by simpa using hb
   subst z;exact I1.fpOk (Nat.le_refl _) (I1.hok.fresh (Nat.le_refl _))
 exact ⟨s1.heap.objs.size+1,[s1.heap.objs.size+1,s1.heap.objs.size],_,_,H1,rfl,I1.kept (t' :=s1.toks) hk,yC (xG x) _ _ (Nat.succ_ne_self _),⟨Nat.zero_le _,⟨_,he⟩,hit⟩,f,q⟩
theorem xH (hg:Gl X "enumerate") (hm:X.mg "enumerate"=none) (ha:Snd X Y a fa) (hs:St1 X a:=by exact st1 rfl):yV X Y (.Tuple elts kk pt) (.Call (.Name "enumerate" p) [a] [] pos) (UP fa):= .mk λρ=>
 PI.imp (QY hg hm (zA (ha ρ) Zf hs) hs) λσ H R ⟨B,I,q⟩=>step I q λt v H1 _ s1 r1 I1 q1=>by
  cases r1 with
  | str x=>exact ⟨x,rfl,j2 I1 (show Po Y rI _ H1 (.ok (jo (Zx x))) R from q1) QX⟩
  | _=>exact q1.elim
end
def xI:T->T->R T
 | .int i, .int j=>if i=10/\j=9 then .ok (.int 1000000000) else .bad
 | _,_=> .bad
theorem xJ {X:Cx}:OpR X (binaryOp .Pow) (L2.rI (λi j=>i=10/\j=9) λ_ _=> .int 1000000000):=opI λi j _ _ _ _ _ hc q=>by
 obtain ⟨rfl,rfl⟩:=hc;exact pow_int (by decide) (by decide+kernel) q
theorem xK {X:Cx} {Y:Fx}:OpR X (binaryOp .Pow) (rG Y xI):=by
 intro pins s σ H x y v u Q I rx ry h;obtain ⟨B,t,t',sB,r,r',q⟩:=h;cases r with
 | int i=>
  cases r' with
  | int j=>
   by_cases hj:i=10/\j=9
   ·exact xJ pins s σ H _ _ v u Q I rx ry ⟨i,j,rfl,rfl,hj,po0 sB q (if_pos hj) (.int _)⟩
   ·rw [show xI (.int i) (.int j)= .bad from if_neg hj] at q; exact q.elim
  | _=>exact q.elim
 | _=>exact q.elim
theorem Gz {X:Cx} {Y:Fx} {a b:Expr} {fa fb:En->R T} {pos:Pos} (ha:Snd X Y a fa) (hb:Snd X Y b fb):Snd X Y (.BinOp a .Pow b pos) (ze xI fa fb):=yt xK ha hb
end PV
namespace G
open PySem PySem.Spec PyProof.Rows L2 PV
def okX (c:Nat):Bool:=decide (c < 6)
def JF (c:Nat):Bool:=c == 0
def Ja (c:Nat):Bool:=c == 1
def JG (c:Nat):Bool:=c == 2
def Jb (c:Nat):Bool:=c == 3
def wF (c:Nat):Bool:=c == 4
def JH (c:Nat):Bool:=c == 5
def jp (_:Nat):Bool:=true
def b_1a:En->RS:=
  zv (ifS (zC ltC (vB 1) (ap1 zY (vB 0))) (zI (ze ixT (vE 0) (vE 1))) (nxS))
  (zv (ifS (zC eqC (vB 0) (jb (zh))) (zI (cE (.int 0))) (nxS))
  (zI (ze zu (ze Zn (ze ixT (vE 0) (ze jJ (vE 1) (ap1 zY (vB 0)))) (cE (.int 31))) (vE 1))))
def K1:List T->R T:=λts=>zn (b_1a  (en0 2 ts))
def b_2 (c_1a:List T->R T):En->RS:=
  zv (zH 3 (ze jJ (ze Zn (ze zu (zd 2 c_1a (z9 (vE 0) (z9 (vE 1) (zh)))) (ze Zn (cE (.int 6151)) (ze zu (vE 1) (cE (.int 1))))) (cE (.int 40692))) (cE (.int 2147483399))))
  (zI (ze jJ (ze jJ (ze zu (ze Zn (vE 3) (vE 3)) (ze JB (vE 3) (cE (.int 31)))) (cE (.int 2147483629))) (vE 2)))
def f_2:List T->R T:=λts=>zn (b_2 (K1) (en0 4 ts))
def gq (c_2:List T->R T):En->RS:=
  zv (zH 2 (cE (.str "abcdefghijklmnopqrstuvwxyz")))
  (zv (ifS (zC gtC (zd 3 c_2 (z9 (vE 0) (z9 (vE 1) (z9 (cE (.int 6)) (zh))))) (cE (.int 0))) (zI (ze ixT (jb (z9 (cE (.str "a")) (z9 (cE (.str "b")) (z9 (cE (.str "ab")) (z9 (cE (.str "cab")) (zh)))))) (zd 3 c_2 (z9 (vE 0) (z9 (ze zu (vE 1) (cE (.int 1))) (z9 (cE (.int 4)) (zh))))))) (nxS))
  (zI (ap1 (QJ "") (Ze (Zu (ze zu (cE (.int 1)) (zd 3 c_2 (z9 (vE 0) (z9 (ze zu (vE 1) (cE (.int 1))) (z9 (cE (.int 3)) (zh))))))) (zz 0) (Zi) (ze ixT (vE 3) (zd 3 c_2 (z9 (vE 1) (z9 (ze zu (ze zu (vE 2) (cE (.int 2))) (vE 0)) (z9 (cE (.int 26)) (zh)))))) 1 [0,1,2]))))
def Xz:List T->R T:=λts=>zn (gq (f_2) (en0 3 ts))
def b_u (c_2:List T->R T) (c_12:List T->R T):En->RS:=
  zv (ifS (zC gtC (zd 3 c_2 (z9 (vE 0) (z9 (vE 1) (z9 (cE (.int 3)) (zh))))) (cE (.int 0))) (zv (zH 2 (ze wv (zd 3 c_2 (z9 (vE 0) (z9 (ze zu (vE 1) (cE (.int 1))) (z9 (cE (.int 7)) (zh))))) (cE (.int 3))))
  (zv (ifS (zC eqC (zd 3 c_2 (z9 (vE 0) (z9 (ze zu (vE 1) (cE (.int 3))) (z9 (cE (.int 8)) (zh))))) (cE (.int 0))) (zH 2 (ze ixT (jb (z9 (yv (cE (.int 20))) (z9 (cE (.int 17)) (z9 (cE (.int 20)) (zh))))) (zd 3 c_2 (z9 (vE 0) (z9 (ze zu (vE 1) (cE (.int 4))) (z9 (cE (.int 3)) (zh))))))) (nxS))
  (zI (ZK (z9 (cE (.str "whole")) (z9 (vE 2) (z9 (ze Yy (cE (.int 20)) (ze zu (vE 2) (zd 3 c_2 (z9 (vE 0) (z9 (ze zu (vE 1) (cE (.int 2))) (z9 (cE (.int 4)) (zh))))))) (zh)))))))) (nxS))
  (zv (UD 3 (zh))
  (zv (jx (Zu (ze zu (cE (.int 1)) (zd 3 c_2 (z9 (vE 0) (z9 (ze zu (vE 1) (cE (.int 1))) (z9 (cE (.int 4)) (zh))))))) (zz 4) (zv (zH 5 (zd 2 c_12 (z9 (vE 0) (z9 (ze zu (ze zu (vE 1) (cE (.int 5))) (ze Zn (cE (.int 5)) (vE 4))) (zh)))))
  (ifS (zC yU (vB 5) (vB 3)) (Qg 3 (vE 5)) (nxS))))
  (zI (ZK (z9 (cE (.str "pick")) (z9 (ap1 Xx (Ze (xg (vE 3)) (Z1 0 1) (Zi) (ZK (z9 (vE 1) (z9 (ze zu (cE (.int 1)) (zd 3 c_2 (z9 (vE 2) (z9 (ze zu (ze zu (vE 3) (cE (.int 30))) (vE 0)) (z9 (cE (.int 20)) (zh)))))) (zh)))) 2 [0,1])) (zh)))))))
def f_u:List T->R T:=λts=>zn (b_u (f_2) (Xz) (en0 6 ts))
def b_f (c_2:List T->R T) (c_u:List T->R T) (c_f:List T->R T):En->RS:=
  zv (zH 3 (zd 3 c_2 (z9 (vE 0) (z9 (vE 1) (z9 (cE (.int 5)) (zh))))))
  (zv (ifS (orT (zC eqC (vB 2) (cE (.int 1))) (zC ltC (vB 3) (cE (.int 2)))) (zI (zd 2 c_u (z9 (vE 0) (z9 (ze zu (vE 1) (cE (.int 1))) (zh))))) (nxS))
  (zv (ifS (zC ltC (vB 3) (cE (.int 4))) (zv (zH 4 (Ze (Zu (ze zu (cE (.int 1)) (zd 3 c_2 (z9 (vE 0) (z9 (ze zu (vE 1) (cE (.int 1))) (z9 (cE (.int 3)) (zh))))))) (zz 0) (Zi) (zd 3 c_f (z9 (vE 1) (z9 (ze zu (ze zu (ze Zn (cE (.int 3)) (vE 2)) (cE (.int 40))) (ze Zn (cE (.int 50)) (vE 0))) (z9 (ze wv (vE 3) (cE (.int 1))) (zh))))) 1 [0,1,2]))
  (zI (ZK (z9 (cE (.str "row")) (z9 (ap1 Xx (vE 4)) (zh)))))) (nxS))
  (zv (zH 5 (zd 3 c_2 (z9 (vE 0) (z9 (ze zu (vE 1) (cE (.int 1))) (z9 (cE (.int 3)) (zh))))))
  (zI (ZK (z9 (cE (.str "many")) (z9 (zd 3 c_f (z9 (vE 0) (z9 (ze zu (ze Zn (cE (.int 3)) (vE 1)) (cE (.int 40))) (z9 (ze wv (vE 2) (cE (.int 1))) (zh))))) (z9 (vE 5) (z9 (ze Yy (cE (.int 3)) (ze zu (vE 5) (zd 3 c_2 (z9 (vE 0) (z9 (ze zu (vE 1) (cE (.int 2))) (z9 (cE (.int 3)) (zh))))))) (zh))))))))))
def S_f:Nat->Nat->List T->R T
 | 0,_=>λ_=> .bad
 | n+1,_=>λts=>zn (b_f (f_2) (f_u) (S_f n 0) (en0 6 ts))
abbrev f_f (n:Nat):List T->R T:=S_f n 0
def b_e:En->RS:=
  zv (zH 1 (jb (z9 (ZK (zh)) (zh))))
  (zv (jx (jl (vE 0)) (zz 2) (zv (UD 3 (zh))
  (zv (jx (jl (vE 1)) (zz 4) (QC 3 (Ze (jl (vE 2)) (zz 0) (Zi) (ze zu (vE 1) (ZK (z9 (vE 0) (zh)))) 1 [4])))
  (mvS 1 3))))
  (zI (vE 1)))
def f_e:List T->R T:=λts=>zn (b_e  (en0 5 ts))
def b_3 (c_3:List T->R T) (c_e:List T->R T):En->RS:=
  zv (ifS (zC eqC (ze ixT (vE 0) (cE (.int 0))) (cE (.str "whole"))) (zI (gj (wX (ze ixT (vE 0) (cE (.int 1))) (ze zu (ze ixT (vE 0) (cE (.int 2))) (cE (.int 1)))))) (nxS))
  (zv (ifS (zC eqC (ze ixT (vE 0) (cE (.int 0))) (cE (.str "pick"))) (zI (Ze (jl (ze ixT (vE 0) (cE (.int 1)))) (Z1 0 1) (Zi) (vE 0) 2 [])) (nxS))
  (zv (ifS (zC eqC (ze ixT (vE 0) (cE (.int 0))) (cE (.str "row"))) (zI (zd 1 c_e (z9 (Ze (jl (ze ixT (vE 0) (cE (.int 1)))) (zz 0) (Zi) (zd 1 c_3 (z9 (vE 0) (zh))) 1 []) (zh)))) (nxS))
  (zv (UD 1 (zh))
  (zv (jx (wX (ze ixT (vE 0) (cE (.int 2))) (ze zu (ze ixT (vE 0) (cE (.int 3))) (cE (.int 1)))) (zz 2) (QC 1 (zd 1 c_e (z9 (ze Zn (jb (z9 (zd 1 c_3 (z9 (ze ixT (vE 0) (cE (.int 1))) (zh))) (zh))) (vE 2)) (zh)))))
  (zI (vE 1))))))
def S_3:Nat->Nat->List T->R T
 | 0,_=>λ_=> .bad
 | n+1,_=>λts=>zn (b_3 (S_3 n 0) (f_e) (en0 3 ts))
abbrev f_3 (n:Nat):List T->R T:=S_3 n 0
def b_8 (c_3:List T->R T) (c_8:List T->R T):En->RS:=
  zv (ifS (zC inC (ze ixT (vE 0) (cE (.int 0))) (ZK (z9 (cE (.str "whole")) (z9 (cE (.str "pick")) (zh))))) (zI (ap1 zY (zd 1 c_3 (z9 (vE 0) (zh))))) (nxS))
  (zv (zH 1 (ifE (zC eqC (ze ixT (vE 0) (cE (.int 0))) (cE (.str "row"))) (Ze (jl (ze ixT (vE 0) (cE (.int 1)))) (zz 0) (Zi) (zd 1 c_8 (z9 (vE 0) (zh))) 1 []) (jb (zh))))
  (zv (zH 2 (cE (.int 1)))
  (zv (jx (jl (vE 1)) (zz 3) (zH 2 (ze Zn (vE 2) (vE 3))))
  (zv (ifS (zC eqC (ze ixT (vE 0) (cE (.int 0))) (cE (.str "many"))) (zv (zH 4 (zd 1 c_8 (z9 (ze ixT (vE 0) (cE (.int 1))) (zh))))
  (zv (zH 2 (ze zu (ap1 WV (w8 eqC (ze ixT (vE 0) (cE (.int 2))) (cE (.int 0)))) (ze Zn (vE 4) (ap1 WV (chE leC leC (ze ixT (vE 0) (cE (.int 2))) (cE (.int 1)) (ze ixT (vE 0) (cE (.int 3))))))))
  (zv (zH 2 (ze zu (vE 2) (ze Zn (ze Zn (vE 4) (vE 4)) (ap1 WV (chE leC leC (ze ixT (vE 0) (cE (.int 2))) (cE (.int 2)) (ze ixT (vE 0) (cE (.int 3))))))))
  (zH 2 (ze zu (vE 2) (ze Zn (ze Zn (ze Zn (vE 4) (vE 4)) (vE 4)) (ap1 WV (w8 eqC (ze ixT (vE 0) (cE (.int 3))) (cE (.int 3)))))))))) (nxS))
  (zI (vE 2))))))
def S_8:Nat->Nat->List T->R T
 | 0,_=>λ_=> .bad
 | n+1,_=>λts=>zn (b_8 (f_3 8) (S_8 n 0) (en0 5 ts))
abbrev f_8 (n:Nat):List T->R T:=S_8 n 0
def b_s (c_f:List T->R T) (c_8:List T->R T):En->RS:=
  zv (zH 3 (zd 3 c_f (z9 (vE 0) (z9 (vE 1) (z9 (cE (.int 3)) (zh))))))
  (zv (jx (Zu (cE (.int 3))) (zz 4) (zv (ifS (zC leC (zd 1 c_8 (z9 (vE 3) (zh))) (vB 2)) (zI (vE 3)) (nxS))
  (zH 3 (zd 3 c_f (z9 (vE 0) (z9 (ze zu (ze zu (vE 1) (cE (.int 500))) (ze Zn (cE (.int 700)) (vE 4))) (z9 (cE (.int 2)) (zh))))))))
  (zI (ifE (zC leC (zd 1 c_8 (z9 (vE 3) (zh))) (vB 2)) (vE 3) (ZK (z9 (cE (.str "whole")) (z9 (yv (cE (.int 1))) (z9 (cE (.int 2)) (zh))))))))
def f_s:List T->R T:=λts=>zn (b_s (f_f 8) (f_8 8) (en0 5 ts))
def b_l (c_l:List T->R T):En->RS:=
  zv (UD 1 (z9 (ZK (zh)) (zh)))
  (zv (ifS (ZP (ap1 (jF "tuple") (vB 0))) (jx (Zu (ap1 zY (vB 0))) (zz 2) (QC 1 (Ze (jl (zd 1 c_l (z9 (ze ixT (vE 0) (vE 2)) (zh)))) (zz 0) (Zi) (ze zu (ZK (z9 (vE 1) (zh))) (vE 0)) 1 [2]))) (nxS))
  (zI (vE 1)))
def S_l:Nat->Nat->List T->R T
 | 0,_=>λ_=> .bad
 | n+1,_=>λts=>zn (b_l (S_l n 0) (en0 3 ts))
abbrev f_l (n:Nat):List T->R T:=S_l n 0
def gr:En->RS:=
  zv (jx (jl (vE 1)) (zz 2) (zH 0 (ze ixT (vE 0) (vE 2))))
  (zI (vE 0))
def XA:List T->R T:=λts=>zn (gr  (en0 3 ts))
def b_9 (c_9:List T->R T):En->RS:=
  zv (ifS (zC eqC (vB 1) (ZK (zh))) (zI (vE 2)) (nxS))
  (zv (zH 3 (ze ixT (vE 1) (cE (.int 0))))
  (zI (ze zu (ze zu (slE (vE 0) (noO) (zB (vE 3))) (ZK (z9 (zd 3 c_9 (z9 (ze ixT (vE 0) (vE 3)) (z9 (slE (vE 1) (zB (cE (.int 1))) (noO)) (z9 (vE 2) (zh))))) (zh)))) (slE (vE 0) (zB (ze zu (vE 3) (cE (.int 1)))) (noO)))))
def S_9:Nat->Nat->List T->R T
 | 0,_=>λ_=> .bad
 | n+1,_=>λts=>zn (b_9 (S_9 n 0) (en0 4 ts))
abbrev f_9 (n:Nat):List T->R T:=S_9 n 0
def b_r (c_2:List T->R T) (c_l:List T->R T) (c_14:List T->R T) (c_9:List T->R T):En->RS:=
  zv (zH 3 (zd 1 c_l (z9 (vE 2) (zh))))
  (zv (zH 4 (ze ixT (vE 3) (zd 3 c_2 (z9 (vE 0) (z9 (vE 1) (z9 (ap1 zY (vB 3)) (zh)))))))
  (zv (zH 5 (zd 2 c_14 (z9 (vE 2) (z9 (vE 4) (zh)))))
  (zv (zH 6 (jb (z9 (cE (.int 0)) (z9 (cE (.int 1)) (z9 (yv (cE (.int 21))) (z9 (cE (.int 21)) (z9 (cE (.int 3)) (z9 (cE (.int 4)) (z9 (cE (.bl true)) (z9 (cE .non) (z9 (cE (.str "a")) (z9 (cE (.str "abcd")) (z9 (cE (.str "A")) (z9 (cE (.str "")) (z9 (cE (.str "many")) (z9 (cE (.str "row")) (z9 (ZK (zh)) (z9 (ZK (z9 (vE 5) (zh))) (z9 (jb (z9 (vE 5) (zh))) (z9 (ZK (z9 (cE (.str "whole")) (z9 (cE (.int 1)) (z9 (cE (.int 0)) (zh))))) (zh)))))))))))))))))))))
  (zv (zH 7 (zd 3 c_2 (z9 (vE 0) (z9 (ze zu (vE 1) (cE (.int 1))) (z9 (ze zu (ap1 zY (vB 6)) (cE (.int 5))) (zh))))))
  (zv (ifS (zC ltC (vB 7) (ap1 zY (vB 6))) (zI (zd 3 c_9 (z9 (vE 2) (z9 (vE 4) (z9 (ze ixT (vE 6) (vE 7)) (zh)))))) (nxS))
  (zv (ifS (wz (ZP (ap1 (jF "tuple") (vB 5))) (zC neC (vB 5) (ZK (zh)))) (zv (zH 8 (zd 3 c_2 (z9 (vE 0) (z9 (ze zu (vE 1) (cE (.int 2))) (z9 (ap1 zY (vB 5)) (zh))))))
  (zI (zd 3 c_9 (z9 (vE 2) (z9 (vE 4) (z9 (ze ixT (jb (z9 (ze zu (slE (vE 5) (noO) (zB (vE 8))) (slE (vE 5) (zB (ze zu (vE 8) (cE (.int 1)))) (noO))) (z9 (ze zu (ze zu (slE (vE 5) (noO) (zB (vE 8))) (slE (vE 5) (zB (vE 8)) (zB (ze zu (vE 8) (cE (.int 1)))))) (slE (vE 5) (zB (vE 8)) (noO))) (zh)))) (ze jJ (vE 7) (cE (.int 2)))) (zh))))))) (nxS))
  (zv (ifS (ZP (ap1 (jF "int") (vB 5))) (zI (zd 3 c_9 (z9 (vE 2) (z9 (vE 4) (z9 (ze wv (ze zu (vE 5) (cE (.int 1))) (ze Zn (cE (.int 2)) (ze jJ (vE 7) (cE (.int 2))))) (zh)))))) (nxS))
  (zI (zd 3 c_9 (z9 (vE 2) (z9 (vE 4) (z9 (ZK (z9 (cE (.str "row")) (z9 (ZK (z9 (vE 5) (z9 (vE 5) (zh)))) (zh)))) (zh)))))))))))))
def f_r:List T->R T:=λts=>zn (b_r (f_2) (f_l 40) (XA) (f_9 40) (en0 9 ts))
def b_i (c_i:List T->R T):En->RS:=
  zv (ifS (jE (ZP (ap1 (jF "tuple") (vB 0)))) (zI (ap1 V0 (vE 0))) (nxS))
  (zv (zH 1 (cE (.str "(")))
  (zv (jx (YT (vE 0)) (Z1 2 3) (zH 1 (ze zu (ze zu (vE 1) (ifE (zC gtC (vB 2) (cE (.int 0))) (cE (.str " ")) (cE (.str "")))) (zd 1 c_i (z9 (vE 3) (zh))))))
  (zI (ze zu (vE 1) (cE (.str ")"))))))
def S_i:Nat->Nat->List T->R T
 | 0,_=>λ_=> .bad
 | n+1,_=>λts=>zn (b_i (S_i n 0) (en0 4 ts))
abbrev f_i (n:Nat):List T->R T:=S_i n 0
def b_5:En->RS:=
  zv (zH 3 (ze jJ (vE 1) (ze zu (ap1 zY (vB 0)) (cE (.int 1)))))
  (zv (zH 4 (ze ixT (vE 2) (ze jJ (ze JB (vE 1) (cE (.int 1000))) (ap1 zY (vB 2)))))
  (zv (zH 5 (ze zu (ze zu (vE 3) (cE (.int 1))) (ze jJ (ze JB (vE 1) (cE (.int 7))) (cE (.int 9)))))
  (zv (zH 6 (ze jJ (ze JB (vE 1) (cE (.int 100000))) (cE (.int 8))))
  (zv (ifS (zC ltC (vB 6) (cE (.int 2))) (zI (ze zu (ze zu (J7 (vE 0) (noO) (zB (vE 3))) (vE 4)) (J7 (vE 0) (zB (vE 3)) (noO)))) (nxS))
  (zv (ifS (zC eqC (vB 6) (cE (.int 2))) (zI (ze zu (J7 (vE 0) (noO) (zB (vE 3))) (J7 (vE 0) (zB (ze zu (vE 3) (cE (.int 1)))) (noO)))) (nxS))
  (zv (ifS (zC ltC (vB 6) (cE (.int 5))) (zI (ze zu (ze zu (J7 (vE 0) (noO) (zB (vE 3))) (vE 4)) (J7 (vE 0) (zB (ze zu (vE 3) (cE (.int 1)))) (noO)))) (nxS))
  (zv (ifS (zC eqC (vB 6) (cE (.int 5))) (zI (ze zu (J7 (vE 0) (noO) (zB (vE 3))) (J7 (vE 0) (zB (vE 5)) (noO)))) (nxS))
  (zv (ifS (zC eqC (vB 6) (cE (.int 6))) (zI (ze zu (J7 (vE 0) (noO) (zB (vE 5))) (J7 (vE 0) (zB (vE 3)) (noO)))) (nxS))
  (zI (ze ixT (jb (z9 (ze zu (vE 0) (cE (.str " "))) (z9 (ze zu (cE (.str " ")) (vE 0)) (z9 (ze zu (J7 (vE 0) (zB (vE 3)) (noO)) (J7 (vE 0) (noO) (zB (vE 3)))) (z9 (cE (.str "")) (z9 (ze zu (vE 0) (vE 0)) (zh))))))) (ze jJ (vE 1) (cE (.int 5)))))))))))))
def f_5:List T->R T:=λts=>zn (b_5  (en0 7 ts))
def b_7:En->RS:=
  zv (UD 1 (z9 (wE 0 okX wF) (z9 (wE 0 okX JF) (z9 (wE 0 okX JG) (z9 (wE 0 okX JH) (zh))))))
  (zv (QC 1 (jb (z9 (wE 0 okX Ja) (z9 (wE 0 okX Jb) (zh)))))
  (zv (ifS (orT (zC neC (UN Gu (vB 1) (cE (.bl true))) (cE (.int 1))) (jE (ZP (wE 0 okX jp)))) (zI (cE (.str "wrong"))) (nxS))
  (zI (ze ixT (jb (z9 (cE (.str "ended")) (z9 (cE (.str "no kind")) (z9 (cE (.str "no rule")) (z9 (cE (.str "no text")) (z9 (cE (.str "no worth")) (z9 (cE (.str "too many")) (zh)))))))) (UN yA (vB 1) (cE (.bl true)))))))
def f_7:Nat->R T:=λc=>zn (b_7  (enC 2 c))
def b_k:En->RS:=
  zI (Jf (ap1 (jF "int") (vB 0)) (Gf (ap1 (jF "bool") (vB 0))))
def f_k:List T->R T:=λts=>zn (b_k  (en0 1 ts))
def b_18 (c_k:List T->R T):En->RS:=
  zI (Jf (zd 1 c_k (z9 (vE 0) (zh))) (Jf (zd 1 c_k (z9 (vE 1) (zh))) (ch3E leC leC leC (vB 2) (vB 0) (vB 1) (vB 3))))
def gs:List T->R T:=λts=>zn (b_18 (f_k) (en0 4 ts))
def b_b:En->RS:=
  zI (Jf (ap1 (jF "tuple") (vB 0)) (chE leC leC (vB 1) (ap1 zY (vB 0)) (vB 2)))
def f_b:List T->R T:=λts=>zn (b_b  (en0 3 ts))
def b_6:En->RS:=
  zv (ifS (orT (jE (ZP (ap1 (jF "str") (vB 0)))) (jE (chT leC leC (cE (.int 1)) (ap1 zY (vB 0)) (cE (.int 3))))) (zI (cE (.bl false))) (nxS))
  (zI (ap1 vR (Ze (jl (vE 0)) (zz 0) (Zi) (chE leC leC (cE (.str "a")) (vB 0) (cE (.str "z"))) 1 [])))
def f_6:List T->R T:=λts=>zn (b_6  (en0 1 ts))
def gu (c_k:List T->R T) (c_b:List T->R T) (c_6:List T->R T):En->RS:=
  zI (Jf (zd 3 c_b (z9 (vE 0) (z9 (cE (.int 2)) (z9 (cE (.int 2)) (zh))))) (Jf (zd 1 c_6 (z9 (ze ixT (vE 0) (cE (.int 0))) (zh))) (Jf (zd 1 c_k (z9 (ze ixT (vE 0) (cE (.int 1))) (zh))) (chE leC leC (cE (.int 1)) (ze ixT (vE 0) (cE (.int 1))) (cE (.int 20))))))
def xL:List T->R T:=λts=>zn (gu (f_k) (f_b) (f_6) (en0 1 ts))
def b_y (c_b:List T->R T) (c_16:List T->R T):En->RS:=
  zv (ifS (orT (jE (ZP (zd 3 c_b (z9 (vE 0) (z9 (cE (.int 1)) (z9 (cE (.int 4)) (zh))))))) (jE (ZP (ap1 vR (Ze (jl (vE 0)) (zz 0) (Zi) (zd 1 c_16 (z9 (vE 0) (zh))) 1 []))))) (zI (cE (.bl false))) (nxS))
  (zv (zH 1 (Ze (jl (vE 0)) (zz 0) (Zi) (ze ixT (vE 0) (cE (.int 0))) 1 []))
  (zI (w8 eqC (ap1 QL (vB 1)) (ap1 zY (vB 1)))))
def f_y:List T->R T:=λts=>zn (b_y (f_b) (xL) (en0 2 ts))
def b_c (c_18:List T->R T) (c_c:List T->R T) (c_y:List T->R T) (c_19:List T->R T):En->RS:=
  zv (ifS (orT (zC eqC (vB 1) (cE (.int 0))) (orT (jE (ZP (ap1 (jF "tuple") (vB 0)))) (zC eqC (ap1 zY (vB 0)) (cE (.int 0))))) (zI (cE (.bl false))) (nxS))
  (zv (ifS (zC eqC (ze ixT (vE 0) (cE (.int 0))) (cE (.str "whole"))) (zI (Jf (w8 eqC (ap1 zY (vB 0)) (cE (.int 3))) (zd 4 c_18 (z9 (ze ixT (vE 0) (cE (.int 1))) (z9 (ze ixT (vE 0) (cE (.int 2))) (z9 (yv (cE (.int 20))) (z9 (cE (.int 20)) (zh)))))))) (nxS))
  (zv (ifS (zC eqC (ze ixT (vE 0) (cE (.int 0))) (cE (.str "pick"))) (zI (Jf (w8 eqC (ap1 zY (vB 0)) (cE (.int 2))) (zd 1 c_y (z9 (ze ixT (vE 0) (cE (.int 1))) (zh))))) (nxS))
  (zv (ifS (zC eqC (ze ixT (vE 0) (cE (.int 0))) (cE (.str "row"))) (zI (Jf (w8 eqC (ap1 zY (vB 0)) (cE (.int 2))) (zd 2 c_19 (z9 (ze ixT (vE 0) (cE (.int 1))) (z9 (ze wv (vE 1) (cE (.int 1))) (zh)))))) (nxS))
  (zv (ifS (zC eqC (ze ixT (vE 0) (cE (.int 0))) (cE (.str "many"))) (zI (Jf (w8 eqC (ap1 zY (vB 0)) (cE (.int 4))) (Jf (zd 4 c_18 (z9 (ze ixT (vE 0) (cE (.int 2))) (z9 (ze ixT (vE 0) (cE (.int 3))) (z9 (cE (.int 0)) (z9 (cE (.int 3)) (zh)))))) (zd 2 c_c (z9 (ze ixT (vE 0) (cE (.int 1))) (z9 (ze wv (vE 1) (cE (.int 1))) (zh))))))) (nxS))
  (zI (cE (.bl false)))))))
def gv (c_b:List T->R T) (c_c:List T->R T):En->RS:=
  zI (Jf (zd 3 c_b (z9 (vE 0) (z9 (cE (.int 1)) (z9 (cE (.int 3)) (zh))))) (ap1 vR (Ze (jl (vE 0)) (zz 0) (Zi) (zd 2 c_c (z9 (vE 0) (z9 (vE 1) (zh)))) 1 [1])))
def S_c:Nat->Nat->List T->R T
 | 0,_=>λ_=> .bad
 | n+1,0=>λts=>zn (b_c (gs) (S_c n 0) (f_y) (S_c n 1) (en0 2 ts))
 | n+1,_=>λts=>zn (gv (f_b) (S_c n 0) (en0 2 ts))
abbrev f_c (n:Nat):List T->R T:=S_c n 0
abbrev f_19 (n:Nat):List T->R T:=S_c n 1
def b_1 (c_c:List T->R T):En->RS:=
  zI (zd 2 c_c (z9 (vE 0) (z9 (cE (.int 3)) (zh))))
def f_1:List T->R T:=λts=>zn (b_1 (f_c 20) (en0 1 ts))
def b_n (c_1:List T->R T):En->RS:=
  ifS (jE (ZP (zd 1 c_1 (z9 (vE 0) (zh))))) (Jr 0) (nxS)
def f_n:List T->R T:=λts=>zn (b_n (f_1) (en0 1 ts))
def b_m:En->RS:=
  zI (Ze (jl (ze ixT (vE 0) (cE (.int 1)))) (zz 0) (Zi) (ze ixT (vE 0) (cE (.int 0))) 1 [])
def f_m:List T->R T:=λts=>zn (b_m  (en0 1 ts))
def b_h (c_k:List T->R T) (c_b:List T->R T) (c_m:List T->R T) (c_15:List T->R T):En->RS:=
  zv (ifS (zC eqC (ze ixT (vE 0) (cE (.int 0))) (cE (.str "whole"))) (zI (Jf (zd 1 c_k (z9 (vE 1) (zh))) (chE leC leC (ze ixT (vE 0) (cE (.int 1))) (vB 1) (ze ixT (vE 0) (cE (.int 2)))))) (nxS))
  (zv (ifS (zC eqC (ze ixT (vE 0) (cE (.int 0))) (cE (.str "pick"))) (zI (w8 inC (vB 1) (zd 1 c_m (z9 (vE 0) (zh))))) (nxS))
  (zv (ifS (zC eqC (ze ixT (vE 0) (cE (.int 0))) (cE (.str "row"))) (zI (Jf (zd 3 c_b (z9 (vE 1) (z9 (ap1 zY (ze ixT (vE 0) (cE (.int 1)))) (z9 (ap1 zY (ze ixT (vE 0) (cE (.int 1)))) (zh))))) (zd 2 c_15 (z9 (ze ixT (vE 0) (cE (.int 1))) (z9 (vE 1) (zh)))))) (nxS))
  (zI (Jf (zd 3 c_b (z9 (vE 1) (z9 (ze ixT (vE 0) (cE (.int 2))) (z9 (ze ixT (vE 0) (cE (.int 3))) (zh))))) (zd 2 c_15 (z9 (ze Zn (jb (z9 (ze ixT (vE 0) (cE (.int 1))) (zh))) (ap1 zY (vB 1))) (z9 (vE 1) (zh))))))))
def K2 (c_h:List T->R T):En->RS:=
  zI (ap1 vR (Ze (kU (vE 0) (vE 1)) (Z1 0 1) (Zi) (zd 2 c_h (z9 (vE 0) (z9 (vE 1) (zh)))) 2 []))
def S_h:Nat->Nat->List T->R T
 | 0,_=>λ_=> .bad
 | n+1,0=>λts=>zn (b_h (f_k) (f_b) (f_m) (S_h n 1) (en0 2 ts))
 | n+1,_=>λts=>zn (K2 (S_h n 0) (en0 2 ts))
abbrev f_h (n:Nat):List T->R T:=S_h n 0
abbrev f_15 (n:Nat):List T->R T:=S_h n 1
def b_w (c_n:List T->R T) (c_h:List T->R T):En->RS:=
  zv (wB (zd 1 c_n (z9 (vE 0) (zh))))
  (zI (zd 2 c_h (z9 (vE 0) (z9 (vE 1) (zh)))))
def f_w:List T->R T:=λts=>zn (b_w (f_n) (f_h 20) (en0 2 ts))
def XB (c_w:List T->R T):En->RS:=
  ifS (jE (ZP (zd 2 c_w (z9 (vE 0) (z9 (vE 1) (zh)))))) (Jr 1) (nxS)
def XD:List T->R T:=λts=>zn (XB (f_w) (en0 2 ts))
def b_g (c_g:List T->R T):En->RS:=
  zv (ifS (ZP (ap1 (jF "tuple") (vB 0))) (zI (ze zu (ze zu (cE (.str "(")) (ap1 (QJ " ") (Ze (jl (vE 0)) (zz 0) (Zi) (zd 1 c_g (z9 (vE 0) (zh))) 1 []))) (cE (.str ")")))) (nxS))
  (zI (ap1 V0 (vE 0)))
def S_g:Nat->Nat->List T->R T
 | 0,_=>λ_=> .bad
 | n+1,_=>λts=>zn (b_g (S_g n 0) (en0 1 ts))
abbrev f_g (n:Nat):List T->R T:=S_g n 0
def XF (c_13:List T->R T) (c_g:List T->R T):En->RS:=
  zv (wB (zd 2 c_13 (z9 (vE 0) (z9 (vE 1) (zh)))))
  (zI (zd 1 c_g (z9 (vE 1) (zh))))
def V2:List T->R T:=λts=>zn (XF (XD) (f_g 8) (en0 2 ts))
def b_1b:En->RS:=
  ifS (jE (ZP (ap1 (jF "str") (vB 0)))) (Jr 5) (nxS)
def K3:List T->R T:=λts=>zn (b_1b  (en0 1 ts))
def j7:List T->R T:=λ_=> .bad
def ZY:List T->R T:=λ_=> .bad
def b_j (c_count_of_parts:List T->R T) (c_count_shorter:List T->R T):En->RS:=
  zv (ifS (zC eqC (ze ixT (vE 0) (cE (.int 0))) (cE (.str "whole"))) (zI (ze zu (ze wv (ze ixT (vE 0) (cE (.int 2))) (ze ixT (vE 0) (cE (.int 1)))) (cE (.int 1)))) (nxS))
  (zv (ifS (zC eqC (ze ixT (vE 0) (cE (.int 0))) (cE (.str "pick"))) (zI (ap1 zY (ze ixT (vE 0) (cE (.int 1))))) (nxS))
  (zv (ifS (zC eqC (ze ixT (vE 0) (cE (.int 0))) (cE (.str "row"))) (zI (zd 1 c_count_of_parts (z9 (ze ixT (vE 0) (cE (.int 1))) (zh)))) (nxS))
  (zI (zd 2 c_count_shorter (z9 (vE 0) (z9 (ze zu (ze ixT (vE 0) (cE (.int 3))) (cE (.int 1))) (zh)))))))
def f_j:List T->R T:=λts=>zn (b_j (ZY) (j7) (en0 1 ts))
def wG:List T->R T:=λ_=> .bad
def JI:List T->R T:=λ_=> .bad
def gw (c_m:List T->R T) (c_many_at:List T->R T) (c_parts_at:List T->R T):En->RS:=
  zv (ifS (zC eqC (ze ixT (vE 0) (cE (.int 0))) (cE (.str "whole"))) (zI (ze zu (ze ixT (vE 0) (cE (.int 1))) (vE 1))) (nxS))
  (zv (ifS (zC eqC (ze ixT (vE 0) (cE (.int 0))) (cE (.str "pick"))) (zI (ze ixT (zd 1 c_m (z9 (vE 0) (zh))) (vE 1))) (nxS))
  (zv (ifS (zC eqC (ze ixT (vE 0) (cE (.int 0))) (cE (.str "row"))) (zI (zd 2 c_parts_at (z9 (ze ixT (vE 0) (cE (.int 1))) (z9 (vE 1) (zh))))) (nxS))
  (zI (zd 2 c_many_at (z9 (vE 0) (z9 (vE 1) (zh)))))))
def K4:List T->R T:=λts=>zn (gw (f_m) (wG) (JI) (en0 2 ts))
def b_11 (c_j:List T->R T) (c_17:List T->R T) (c_g:List T->R T):En->RS:=
  zv (jx (Zu (zd 1 c_j (z9 (vE 0) (zh)))) (zz 2) (zv (zH 3 (zd 2 c_17 (z9 (vE 0) (z9 (vE 2) (zh)))))
  (ifS (zC eqC (zd 1 c_g (z9 (vE 3) (zh))) (vB 1)) (zI (vE 3)) (nxS))))
  (Jr 5)
def Qi:List T->R T:=λts=>zn (b_11 (f_j) (K4) (f_g 8) (en0 4 ts))
def b_x:En->RS:=
  zv (ifS (orT (jE (ZP (smE gm (vE 0) (vE 1)))) (jE (ZP (smE gp (vE 0) (vE 2))))) (Jr 5) (nxS))
  (zI (J7 (vE 0) (zB (ap1 zY (vB 1))) (zB (yv (ap1 zY (vB 2))))))
def f_x:List T->R T:=λts=>zn (b_x  (en0 3 ts))
def b_q:En->RS:=
  zv (UD 2 (zh))
  (zv (zH 3 (cE (.int 0)))
  (zv (zH 4 (cE (.int 0)))
  (zv (jx (UP (vE 0)) (Z1 5 6) (zv (ifS (zC UO (vB 6) (cE (.str "([{"))) (zH 4 (ze zu (vE 4) (cE (.int 1)))) (nxS))
  (zv (ifS (zC UO (vB 6) (cE (.str ")]}"))) (zH 4 (ze wv (vE 4) (cE (.int 1)))) (nxS))
  (ifS (wz (zC eqC (vB 4) (cE (.int 0))) (ZP (QV (vE 0) (vE 1) (vE 5)))) (zv (Qg 2 (J7 (vE 0) (zB (vE 3)) (zB (vE 5))))
  (zH 3 (ze zu (vE 5) (ap1 zY (vB 1))))) (nxS)))))
  (zv (Qg 2 (J7 (vE 0) (zB (vE 3)) (noO)))
  (zI (vE 2))))))
def f_q:List T->R T:=λts=>zn (b_q  (en0 7 ts))
def b_o (c_x:List T->R T) (c_q:List T->R T):En->RS:=
  zv (zH 1 (zd 3 c_x (z9 (vE 0) (z9 (cE (.str "(")) (z9 (cE (.str ")")) (zh))))))
  (zI (ifE (zC neC (vB 1) (cE (.str ""))) (zd 2 c_q (z9 (vE 1) (z9 (cE (.str " ")) (zh)))) (jb (zh))))
def f_o:List T->R T:=λts=>zn (b_o (f_x) (f_q) (en0 2 ts))
def b_4 (c_11:List T->R T) (c_1c:List T->R T) (c_t:List T->R T) (c_o:List T->R T):En->RS:=
  zv (ifS (zC eqC (ze ixT (vE 0) (cE (.int 0))) (cE (.str "row"))) (zI (zd 2 c_t (z9 (ze ixT (vE 0) (cE (.int 1))) (z9 (zd 1 c_o (z9 (vE 1) (zh))) (zh))))) (nxS))
  (zv (ifS (zC eqC (ze ixT (vE 0) (cE (.int 0))) (cE (.str "many"))) (zI (zd 2 c_1c (z9 (vE 0) (z9 (zd 1 c_o (z9 (vE 1) (zh))) (zh))))) (nxS))
  (zI (zd 2 c_11 (z9 (vE 0) (z9 (vE 1) (zh))))))
def gy (c_t:List T->R T):En->RS:=
  zv (ifS (jE (chT leC leC (ze ixT (vE 0) (cE (.int 2))) (ap1 zY (vB 1)) (ze ixT (vE 0) (cE (.int 3))))) (Jr 5) (nxS))
  (zI (zd 2 c_t (z9 (ze Zn (jb (z9 (ze ixT (vE 0) (cE (.int 1))) (zh))) (ap1 zY (vB 1))) (z9 (vE 1) (zh)))))
def b_t (c_4:List T->R T):En->RS:=
  zv (ifS (zC neC (ap1 zY (vB 0)) (ap1 zY (vB 1))) (Jr 5) (nxS))
  (zI (ap1 Xx (YG (kU (vE 0) (vE 1)) (Z1 0 1) (Zi) (zd 2 c_4 (z9 (vE 0) (z9 (vE 1) (zh)))) 2 [])))
def S_4:Nat->Nat->List T->R T
 | 0,_=>λ_=> .bad
 | n+1,0=>λts=>zn (b_4 (Qi) (S_4 n 1) (S_4 n 2) (f_o) (en0 2 ts))
 | n+1,1=>λts=>zn (gy (S_4 n 2) (en0 2 ts))
 | n+1,_=>λts=>zn (b_t (S_4 n 0) (en0 2 ts))
abbrev f_4 (n:Nat):List T->R T:=S_4 n 0
abbrev f_1c (n:Nat):List T->R T:=S_4 n 1
abbrev f_t (n:Nat):List T->R T:=S_4 n 2
def b_z (c_n:List T->R T) (c_1b:List T->R T) (c_4:List T->R T):En->RS:=
  zv (wB (zd 1 c_n (z9 (vE 0) (zh))))
  (zv (wB (zd 1 c_1b (z9 (vE 1) (zh))))
  (zI (zd 2 c_4 (z9 (vE 0) (z9 (vE 1) (zh))))))
def f_z:List T->R T:=λts=>zn (b_z (f_n) (K3) (f_4 20) (en0 2 ts))
def b_d (c_7:Nat->R T) (c_10:List T->R T) (c_z:List T->R T):En->RS:=
  zv (zH 3 (cE .non))
  (zv (zH 4 (cE .non))
  (zv (xm 3 okX (zH 4 (ifE (zC eqC (vB 0) (cE (.int 0))) (zd 2 c_10 (z9 (vE 1) (z9 (vE 2) (zh)))) (zd 2 c_z (z9 (vE 1) (z9 (vE 2) (zh)))))))
  (zv (ifS (kM 3) (zI (vE 4)) (nxS))
  (zI (xr 3 c_7)))))
def f_d:List T->R T:=λts=>zn (b_d (f_7) (V2) (f_z) (en0 6 ts))
def b_p:En->RS:=
  zI (Jf (ap1 (jF "int") (vB 0)) (Jf (Gf (ap1 (jF "bool") (vB 0))) (chE leC leC (vB 1) (vB 0) (vB 2))))
def f_p:List T->R T:=λts=>zn (b_p  (en0 3 ts))
def b_v:En->RS:=
  zI (Jf (ap1 (jF "str") (vB 0)) (Jf (chE leC leC (cE (.int 1)) (ap1 zY (vB 0)) (cE (.int 3))) (w8 eqC (Ze (jl (vE 0)) (zz 0) (jE (chT leC leC (cE (.str "a")) (vB 0) (cE (.str "z")))) (vE 0) 1 []) (jb (zh)))))
def f_v:List T->R T:=λts=>zn (b_v  (en0 1 ts))
def b_a (c_p:List T->R T) (c_v:List T->R T) (c_a:List T->R T):En->RS:=
  zv (ifS (orT (jE (ZP (ap1 (jF "tuple") (vB 0)))) (orT (zC ltC (ap1 zY (vB 0)) (cE (.int 2))) (orT (jE (ZP (ap1 (jF "str") (ze ixT (vE 0) (cE (.int 0)))))) (zC ltC (vB 1) (cE (.int 1)))))) (zI (cE (.bl false))) (nxS))
  (zv (gi 2 3 (z9 (ze ixT (vE 0) (cE (.int 0))) (z9 (slE (vE 0) (zB (cE (.int 1))) (noO)) (zh))))
  (zv (ifS (zC eqC (vB 2) (cE (.str "whole"))) (zI (Jf (w8 eqC (ap1 zY (vB 3)) (cE (.int 2))) (Jf (zd 3 c_p (z9 (ze ixT (vE 3) (cE (.int 0))) (z9 (yv (cE (.int 20))) (z9 (cE (.int 20)) (zh))))) (zd 3 c_p (z9 (ze ixT (vE 3) (cE (.int 1))) (z9 (ze ixT (vE 3) (cE (.int 0))) (z9 (cE (.int 20)) (zh)))))))) (nxS))
  (zv (ifS (zC eqC (vB 2) (cE (.str "pick"))) (zv (ifS (orT (zC neC (ap1 zY (vB 3)) (cE (.int 1))) (orT (jE (ZP (ap1 (jF "tuple") (ze ixT (vE 3) (cE (.int 0)))))) (jE (chT leC leC (cE (.int 1)) (ap1 zY (ze ixT (vE 3) (cE (.int 0)))) (cE (.int 4)))))) (zI (cE (.bl false))) (nxS))
  (zv (zH 4 (Ze (jl (ze ixT (vE 3) (cE (.int 0)))) (zz 0) (wz (ZP (ap1 (jF "tuple") (vB 0))) (zC eqC (ap1 zY (vB 0)) (cE (.int 2)))) (vE 0) 1 []))
  (zv (zH 5 (Ze (jl (vE 4)) (zz 0) (wz (ZP (zd 1 c_v (z9 (ze ixT (vE 0) (cE (.int 0))) (zh)))) (ZP (zd 3 c_p (z9 (ze ixT (vE 0) (cE (.int 1))) (z9 (cE (.int 1)) (z9 (cE (.int 20)) (zh))))))) (ze ixT (vE 0) (cE (.int 0))) 1 []))
  (zI (Jf (w8 eqC (ap1 zY (vB 5)) (ap1 zY (ze ixT (vE 3) (cE (.int 0))))) (w8 eqC (Ze (Zu (ap1 zY (vB 5))) (zz 0) (zC inC (ze ixT (vE 1) (vE 0)) (slE (vE 1) (noO) (zB (vE 0)))) (vE 0) 1 [5]) (jb (zh)))))))) (nxS))
  (zv (ifS (zC eqC (vB 2) (cE (.str "row"))) (zv (ifS (orT (zC neC (ap1 zY (vB 3)) (cE (.int 1))) (orT (jE (ZP (ap1 (jF "tuple") (ze ixT (vE 3) (cE (.int 0)))))) (jE (chT leC leC (cE (.int 1)) (ap1 zY (ze ixT (vE 3) (cE (.int 0)))) (cE (.int 3)))))) (zI (cE (.bl false))) (nxS))
  (zI (w8 eqC (Ze (jl (ze ixT (vE 3) (cE (.int 0)))) (zz 0) (jE (ZP (zd 2 c_a (z9 (vE 0) (z9 (ze wv (vE 1) (cE (.int 1))) (zh)))))) (vE 0) 1 [1]) (jb (zh))))) (nxS))
  (zv (ifS (orT (zC neC (vB 2) (cE (.str "many"))) (orT (zC neC (ap1 zY (vB 3)) (cE (.int 3))) (orT (jE (ZP (zd 3 c_p (z9 (ze ixT (vE 3) (cE (.int 1))) (z9 (cE (.int 0)) (z9 (cE (.int 3)) (zh))))))) (jE (ZP (zd 3 c_p (z9 (ze ixT (vE 3) (cE (.int 2))) (z9 (ze ixT (vE 3) (cE (.int 1))) (z9 (cE (.int 3)) (zh)))))))))) (zI (cE (.bl false))) (nxS))
  (zI (zd 2 c_a (z9 (ze ixT (vE 3) (cE (.int 0))) (z9 (ze wv (vE 1) (cE (.int 1))) (zh))))))))))
def S_a:Nat->Nat->List T->R T
 | 0,_=>λ_=> .bad
 | n+1,_=>λts=>zn (b_a (f_p) (f_v) (S_a n 0) (en0 6 ts))
abbrev f_a (n:Nat):List T->R T:=S_a n 0
def b_0 (c_2:List T->R T) (c_3:List T->R T) (c_s:List T->R T) (c_a:List T->R T) (c_r:List T->R T) (c_d:List T->R T) (c_5:List T->R T) (c_i:List T->R T):En->RS:=
  zv (zH 1 (zd 3 c_s (z9 (vE 0) (z9 (cE (.int 0)) (z9 (cE (.int 120)) (zh))))))
  (zv (zH 2 (zd 1 c_3 (z9 (vE 1) (zh))))
  (zv (zH 3 (Ze (jl (vE 2)) (zz 0) (Zi) (zd 1 c_i (z9 (vE 0) (zh))) 1 []))
  (zv (jx (Zu (cE (.int 5))) (zz 4) (zv (zH 5 (zd 3 c_2 (z9 (vE 0) (z9 (ze zu (cE (.int 4000)) (vE 4)) (z9 (ap1 zY (vB 2)) (zh))))))
  (zv (ifS (orT (zC neC (zd 3 c_d (z9 (cE (.int 0)) (z9 (vE 1) (z9 (ze ixT (vE 2) (vE 5)) (zh))))) (ze ixT (vE 3) (vE 5))) (zC neC (zd 3 c_d (z9 (cE (.int 1)) (z9 (vE 1) (z9 (ze ixT (vE 3) (vE 5)) (zh))))) (ze ixT (vE 2) (vE 5)))) (zI (cE (.bl false))) (nxS))
  (zv (zH 6 (zd 3 c_5 (z9 (ze ixT (vE 3) (vE 5)) (z9 (zd 3 c_2 (z9 (vE 0) (z9 (ze zu (cE (.int 4010)) (vE 4)) (z9 (ze xI (cE (.int 10)) (cE (.int 9))) (zh))))) (z9 (cE (.str "() -0129ab")) (zh))))))
  (zv (zH 7 (ifE (zC inC (vB 6) (vB 3)) (ze ixT (vE 2) (UN yA (vB 3) (vB 6))) (cE (.str "no text"))))
  (ifS (zC neC (zd 3 c_d (z9 (cE (.int 1)) (z9 (vE 1) (z9 (vE 6) (zh))))) (vB 7)) (zI (cE (.bl false))) (nxS)))))))
  (zv (zH 8 (zd 3 c_s (z9 (vE 0) (z9 (cE (.int 6000)) (z9 (cE (.int 40)) (zh))))))
  (zv (jx (jl (slE (zd 1 c_3 (z9 (vE 8) (zh))) (noO) (zB (cE (.int 12))))) (zz 9) (zv (zH 10 (zd 1 c_i (z9 (vE 9) (zh))))
  (ifS (zC neC (zd 3 c_d (z9 (cE (.int 1)) (z9 (vE 1) (z9 (vE 10) (zh))))) (ifE (zC inC (vB 10) (vB 3)) (ze ixT (vE 2) (UN yA (vB 3) (vB 10))) (cE (.str "no text")))) (zI (cE (.bl false))) (nxS))))
  (zv (zH 11 (jb (z9 (cE (.str "")) (z9 (cE (.str "(")) (z9 (cE (.str ")")) (z9 (cE (.str "()")) (z9 (cE (.str "( )")) (z9 (cE (.str "(()")) (z9 (cE (.str "())")) (z9 (cE (.str "1 2")) (z9 (cE (.str "01")) (z9 (cE (.str "-0")) (z9 (cE (.str "+1")) (z9 (cE (.str "(1  2)")) (z9 (cE (.str "(1 2 )")) (z9 (cE (.str "a b")) (z9 (cE (.str "1)")) (z9 (cE (.str "((1)")) (zh)))))))))))))))))))
  (zv (zH 10 (ze ixT (vE 11) (zd 3 c_2 (z9 (vE 0) (z9 (cE (.int 4100)) (z9 (cE (.int 16)) (zh)))))))
  (zv (ifS (zC neC (zd 3 c_d (z9 (cE (.int 1)) (z9 (vE 1) (z9 (vE 10) (zh))))) (ifE (zC inC (vB 10) (vB 3)) (ze ixT (vE 2) (UN yA (vB 3) (vB 10))) (cE (.str "no text")))) (zI (cE (.bl false))) (nxS))
  (zv (zH 12 (zd 3 c_r (z9 (vE 0) (z9 (cE (.int 4200)) (z9 (ze ixT (vE 2) (cE (.int 0))) (zh))))))
  (zv (ifS (wz (zC yU (vB 12) (vB 2)) (zC neC (zd 3 c_d (z9 (cE (.int 0)) (z9 (vE 1) (z9 (vE 12) (zh))))) (cE (.str "no worth")))) (zI (cE (.bl false))) (nxS))
  (zv (zH 13 (zd 3 c_r (z9 (vE 0) (z9 (cE (.int 4300)) (z9 (vE 1) (zh))))))
  (zI (orE (zd 2 c_a (z9 (vE 13) (z9 (cE (.int 3)) (zh)))) (w8 eqC (Ze (Zu (cE (.int 2))) (zz 0) (Zi) (zd 3 c_d (z9 (vE 0) (z9 (vE 1) (z9 (cE (.str "1")) (zh))))) 1 [13]) (ze Zn (jb (z9 (cE (.str "no kind")) (zh))) (cE (.int 2)))))))))))))))))
def f_0:List T->R T:=λts=>zn (b_0 (f_2) (f_3 8) (f_s) (f_a 12) (f_r) (f_d) (f_5) (f_i 8) (en0 14 ts))
end G
namespace G
open PySem L2 PV
abbrev scr (ns:List Int):T:= .fz (ns.map T.int)
theorem xM (ns:List Int) (k:Int) (h0:0<=k):∃ c,K1 [scr ns, .int k]= .ok (.int c):=by
 have e1:K1 [scr ns, .int k]=zn (if decide (k < ((ns.map T.int).length:Int))=true then (atT (ns.map T.int) k).s (λt=> .rt t) else
   match (eqC (scr ns) (.lst [])).s (λb=>if b=true then RS.rt (.int 0) else .nx [.vl (scr ns), .vl (.int k)]) with
   | .nx ρ' =>zI (ze zu (ze Zn (ze ixT (vE 0) (ze jJ (vE 1) (ap1 zY (vB 0)))) (cE (.int 31))) (vE 1)) ρ'
   | r=>r):=by
  show zn (match (if decide (k < ((ns.map T.int).length:Int))=true then (atT (ns.map T.int) k).s (λt=>RS.rt t) else .nx [.vl (scr ns), .vl (.int k)]) with
   | .nx ρ' =>_
   | r=>r)=_
  cases decide (k < ((ns.map T.int).length:Int)) with
  | true=>
   rw [if_pos rfl,if_pos rfl];unfold atT;cases atI (ns.map T.int) k <;> rfl
  | false=>rfl
 rw [e1,List.length_map]
 by_cases hk:k < (ns.length:Int)
 ·obtain ⟨v,hv⟩:∃ v,ns[k.toNat]? =some v:=⟨ns[k.toNat]'(by omega),List.getElem?_eq_getElem (by omega)⟩
  have ea:atI (ns.map T.int) k=some (.int v):=by
   have:k=((k.toNat:Nat):Int):=by omega
   rw [this];exact j3 (by rw [List.getElem?_map,hv]; rfl)
  rw [decide_eq_true hk,if_pos rfl];exact ⟨v,by unfold atT; rw [ea]; rfl⟩
 ·rw [decide_eq_false hk,if_neg Bool.false_ne_true];cases ns with
  | nil=>exact ⟨0,rfl⟩
  | cons x xs=>
   have hm0:=Int.emod_nonneg k (show (((x :: xs).length:Nat):Int) ≠ 0 by simp only [List.length_cons]; omega)
   have hm1:=Int.emod_lt_of_pos k (show (0:Int) < (((x :: xs).length:Nat):Int) by simp only [List.length_cons]; omega)
   obtain ⟨v,hv⟩:∃ v,(x :: xs)[(k % (((x :: xs).length:Nat):Int)).toNat]? =some v:=⟨_,List.getElem?_eq_getElem (by omega)⟩
   have ea:atI ((x :: xs).map T.int) (k % (((x :: xs).length:Nat):Int))=some (.int v):=by
    have e:k % (((x :: xs).length:Nat):Int)=(((k % (((x :: xs).length:Nat):Int)).toNat:Nat):Int):=by omega
    rw [e];exact j3 (by rw [List.getElem?_map,hv]; rfl)
   have cm:WS v 31:= .inr ⟨by decide,by decide⟩
   have hp:(0:Int) < (((x :: xs).map T.int).length:Int):=by simp only [List.length_map,List.length_cons]; omega
   refine ⟨v*31+k, ?_⟩;show zn (((((if 0 < (((x :: xs).map T.int).length:Int) then R.ok (T.int (k % (((x :: xs).map T.int).length:Int))) else .bad).bind λy=>ixT (scr (x :: xs)) y).bind λa=>Zn a (.int 31)).bind λa=>zu a (.int k)).s λt=> .rt t)=_
   rw [if_pos hp];show zn ((((atT ((x :: xs).map T.int) (k % (((x :: xs).map T.int).length:Int))).bind λa=>Zn a (.int 31)).bind λa=>zu a (.int k)).s λt=> .rt t)=_;rw [List.length_map];unfold atT;rw [ea];show zn ((((if WS v 31 then R.ok (T.int (v*31)) else .bad)).bind λa=>zu a (.int k)).s λt=> .rt t)=_
   rw [if_pos cm];rfl
theorem Z6 (ns:List Int) (k m:Int) (h0:0<=k) (hm:0 < m):∃ p,f_2 [scr ns, .int k, .int m]= .ok (.int p)/\0<=p/\p < m:=by
 obtain ⟨c,hc⟩:=xM ns k h0;have cm1:WS 6151 (k+1):= .inl ⟨by decide,by decide⟩
 have cm2:WS (c+6151*(k+1)) 40692:= .inr ⟨by decide,by decide⟩
 generalize hd:(c+6151*(k+1))*40692 % 2147483399=d;have hd0:0<=d:=by rw [← hd]; exact Int.emod_nonneg _ (by decide)
 have hd1:d < 2147483399:=by rw [← hd]; exact Int.emod_lt_of_pos _ (by decide)
 have cm3:WS d d:= .inl ⟨by omega,by omega⟩
 refine ⟨(d*d+d / 31) % 2147483629 % m, ?_,Int.emod_nonneg _ (by omega),Int.emod_lt_of_pos _ hm⟩
 have e1:f_2 [scr ns, .int k, .int m]=zn (match ((((((K1 [scr ns, .int k]).bind λx=>(Zn (.int 6151) (.int (k+1))).bind λy=>zu x y).bind λx=>Zn x (.int 40692)).bind λx=>jJ x (.int 2147483399))).s λt=>RS.nx [.vl (scr ns), .vl (.int k), .vl (.int m), .vl t]) with
   | .nx ρ' =>zI (ze jJ (ze jJ (ze zu (ze Zn (vE 3) (vE 3)) (ze JB (vE 3) (cE (.int 31)))) (cE (.int 2147483629))) (vE 2)) ρ'
   | r=>r):=rfl
 rw [e1,hc];show zn (match (((((if WS 6151 (k+1) then R.ok (T.int (6151*(k+1))) else .bad).bind λy=>zu (.int c) y).bind λx=>Zn x (.int 40692)).bind λx=>jJ x (.int 2147483399)).s λt=>RS.nx [.vl (scr ns), .vl (.int k), .vl (.int m), .vl t]) with
   | .nx ρ' =>_
   | r=>r)=_
 rw [if_pos cm1];show zn (match ((((if WS (c+6151*(k+1)) 40692 then R.ok (T.int ((c+6151*(k+1))*40692)) else .bad)).bind λx=>jJ x (.int 2147483399)).s λt=>RS.nx [.vl (scr ns), .vl (.int k), .vl (.int m), .vl t]) with
   | .nx ρ' =>_
   | r=>r)=_
 rw [if_pos cm2];show zn (zI (ze jJ (ze jJ (ze zu (ze Zn (vE 3) (vE 3)) (ze JB (vE 3) (cE (.int 31)))) (cE (.int 2147483629))) (vE 2)) [.vl (scr ns), .vl (.int k), .vl (.int m), .vl (.int ((c+6151*(k+1))*40692 % 2147483399))])=_;rw [hd];show zn (((((if WS d d then R.ok (T.int (d*d)) else .bad).bind λx=>zu x (.int (d / 31))).bind λx=>jJ x (.int 2147483629)).bind λx=>jJ x (.int m)).s λt=>RS.rt t)=_
 rw [if_pos cm3];show zn ((if 0 < m then R.ok (T.int ((d*d+d / 31) % 2147483629 % m)) else .bad).s λt=>RS.rt t)=_
 rw [if_pos hm];rfl
theorem YW {ft:En->R Bool} {fe:En->R T}:∀ (ts:List T) (ρ:En) (x:Sl),zL (zz 0) ft fe ts (ρ.set 0 x)=zL (zz 0) ft fe ts ρ
 | [],_,_=>rfl
 | t :: ts,ρ,x=>by
  unfold zL zz;rw [List.set_set]
theorem Zr {ft:En->R Bool} {fe:En->R T} {p:T->Bool} {h:T->T}:∀ (ts:List T) (ρ:En),(∀ t∈ts,ft (ρ.set 0 (.vl t))= .ok (p t)/\(p t=true->fe (ρ.set 0 (.vl t))= .ok (h t)))->zL (zz 0) ft fe ts ρ= .ok ((ts.filter p).map h)
 | [],_,_=>rfl
 | t :: ts,ρ,H=>by
  obtain ⟨h1,h2⟩:=H t List.mem_cons_self;have ih:=Zr ts ρ λu hu=>H u (List.mem_cons_of_mem _ hu);have e:zL (zz 0) ft fe (t :: ts) ρ=(ft (ρ.set 0 (.vl t))).bind λk=>if k=true then (fe (ρ.set 0 (.vl t))).bind λv=>(zL (zz 0) ft fe ts (ρ.set 0 (.vl t))).bind λvs=> .ok (v :: vs) else zL (zz 0) ft fe ts (ρ.set 0 (.vl t)):=rfl
  rw [e,h1,YW,ih];show (if p t=true then _ else _)=_
  cases hp:p t with
  | true=>rw [if_pos rfl,h2 hp,List.filter_cons_of_pos hp]; rfl
  | false=>rw [if_neg Bool.false_ne_true,List.filter_cons_of_neg (by rw [hp]; exact Bool.false_ne_true)]
theorem YX {fe:En->R T} {h:T->T} (ts:List T) (ρ:En) (H:∀ t∈ts,fe (ρ.set 0 (.vl t))= .ok (h t)):zL (zz 0) Zi fe ts ρ= .ok (ts.map h):=by
 have:=Zr (ft:=Zi) (fe:=fe) (p:=λ_=>true) (h:=h) ts ρ λt ht=>⟨rfl,λ_=>H t ht⟩;rw [this,List.filter_eq_self.mpr (λ_ _=>rfl)]
theorem Zs {fe:En->R T} {h:T->T} {k:Nat} {js:List Nat} {ρ:En} (ts:List T) (hl:ts.length<=bnd) (H:∀ t∈ts,fe ((wU k js ρ).set 0 (.vl t))= .ok (h t)):zR (zz 0) Zi fe k js ρ ts= .ok (ts.map h):=by
 unfold zR;rw [if_pos hl,YX ts _ H];rfl
theorem wb (p:T->Bool):∀ ts:List T,uU (ts.map λt=>T.bl (p t))=some (ts.all p)
 | []=>rfl
 | t :: ts=>by
  show (match uU (ts.map λt=>T.bl (p t)) with | some j=>some (p t && j) | none=>none)=_
  rw [wb p ts]; rfl
def isW:T->Bool
 | .int _=>true
 | _=>false
theorem UQ (t:T):f_k [t]= .ok (.bl (isW t)):=by cases t <;> rfl
def yD (a b:Nat):T->Bool
 | .tup xs=>decide (a<=xs.length) && decide (xs.length<=b)
 | _=>false
theorem j8 (t:T) (a b:Nat):f_b [t, .int a, .int b]= .ok (.bl (yD a b t)):=by
 cases t with
 | tup xs=>
  show zn ((if decide ((a:Int)<=(xs.length:Int))=true then R.ok (T.bl (decide ((xs.length:Int)<=(b:Int)))) else .ok (.bl false)).s λt=> .rt t)=_
  have e1:decide ((a:Int)<=(xs.length:Int))=decide (a<=xs.length):=by simp
  have e2:decide ((xs.length:Int)<=(b:Int))=decide (xs.length<=b):=by simp
  rw [e1,e2];show _=R.ok (T.bl (decide (a<=xs.length) && decide (xs.length<=b)));cases decide (a<=xs.length) <;> rfl
 | _=>rfl
def jO (lo hi:Int):T->T->Bool
 | .int i, .int j=>decide (lo<=i) && decide (i<=j) && decide (j<=hi)
 | _,_=>false
theorem YY (t u:T) (lo hi:Int):gs [t,u, .int lo, .int hi]= .ok (.bl (jO lo hi t u)):=by
 cases t with
 | int i=>
  cases u with
  | int j=>
   show zn ((if decide (lo<=i)=true then (if decide (i<=j)=true then R.ok (T.bl (decide (j<=hi))) else .ok (.bl false)) else .ok (.bl false)).s λt=> .rt t)=_
   show _=R.ok (T.bl (decide (lo<=i) && decide (i<=j) && decide (j<=hi)));cases decide (lo<=i) <;> cases decide (i<=j) <;> rfl
  | _=>rfl
 | _=>cases u <;> rfl
def zV (c:Nat):Bool:=decide (97<=c) && decide (c<=122)
def Z5:T->Bool
 | .str x=>decide (1<=x.length) && decide (x.length<=3) && x.cps.toList.all zV
 | _=>false
theorem UR (a b:Nat):decide ([a] < [b])=decide (a < b):=by
 by_cases h:a < b
 ·rw [decide_eq_true h]; exact decide_eq_true (List.Lex.rel h)
 ·rw [decide_eq_false h];refine decide_eq_false λz=> ?_;cases z with
  | rel h' =>exact h h'
  | cons h' =>cases h'
theorem xN (c:Nat) (ρ:En):chE leC leC (cE (.str "a")) (vB 0) (cE (.str "z")) ((Sl.vl (.str ⟨#[c]⟩)) :: ρ)= .ok (.bl (zV c)):=by
 have e1:leC (.str "a") (.str ⟨#[c]⟩)= .ok (decide (97<=c)):=by
  show R.ok (!decide ([c] < [97]))=_;rw [UR]
  by_cases h:c < 97
  ·rw [decide_eq_true h,decide_eq_false (by omega)]; rfl
  ·rw [decide_eq_false h,decide_eq_true (by omega)]; rfl
 have e2:leC (.str ⟨#[c]⟩) (.str "z")= .ok (decide (c<=122)):=by
  show R.ok (!decide ([122] < [c]))=_;rw [UR]
  by_cases h:122 < c
  ·rw [decide_eq_true h,decide_eq_false (by omega)]; rfl
  ·rw [decide_eq_false h,decide_eq_true (by omega)]; rfl
 show (leC (.str "a") (.str ⟨#[c]⟩)).bind (λk=>if k=true then (leC (.str ⟨#[c]⟩) (.str "z")).bind λk' =>R.ok (T.bl k') else R.ok (T.bl false))=_
 rw [e1,e2];unfold zV;show (if decide (97<=c)=true then R.ok (T.bl (decide (c<=122))) else .ok (.bl false))=_
 cases decide (97<=c) <;> rfl
def xO:T->Prop
 | .str x=>x.length<=bnd
 | _=>True
theorem xP (t:T) (ht:xO t):f_6 [t]= .ok (.bl (Z5 t)):=by
 cases t with
 | str x=>
  have hx:x.length<=bnd:=ht;have e0:zY (.str x)= .ok (.int x.length):=if_pos hx;have ec:zR (zz 0) Zi (chE leC leC (cE (.str "a")) (vB 0) (cE (.str "z"))) 1 [] [.vl (.str x)] (Zx x)= .ok (x.cps.toList.map λc=>T.bl (zV c)):=by
   have hs:(Zx x).length<=bnd:=by unfold Zx; rw [List.length_map,Array.length_toList]; exact hx
   have:=Zs (fe:=chE leC leC (cE (.str "a")) (vB 0) (cE (.str "z"))) (h:=λt=>match t with | .str y=>T.bl (zV (y.cps.toList.headD 0)) | t=>t) (k:=1) (js:=[]) (ρ:=[.vl (.str x)]) (Zx x) hs λt ht=>by
    unfold Zx at ht;obtain ⟨c,_,rfl⟩:=List.mem_map.mp ht;exact xN c []
   rw [this];unfold Zx;rw [List.map_map];rfl
  have ea:uU (x.cps.toList.map λc=>T.bl (zV c))=some (x.cps.toList.all zV):=by
   have:=wb (λt=>match t with | .str y=>zV (y.cps.toList.headD 0) | _=>true) (Zx x)
   unfold Zx at this;rw [List.map_map,List.all_map] at this;exact this
  have e1:f_6 [.str x]=zn (match ((((zY (.str x)).bind λy=>(leC (.int 1) y).bind λk=>if k=true then leC y (.int 3) else .ok false).bind λb=> .ok (!b)).s λk=>if k=true then RS.rt (.bl false) else .nx [.vl (.str x)]) with
    | .nx ρ' =>zI (ap1 vR (Ze (jl (vE 0)) (zz 0) (Zi) (chE leC leC (cE (.str "a")) (vB 0) (cE (.str "z"))) 1 [])) ρ'
    | r=>r):=rfl
  rw [e1,e0];have c1:decide ((1:Int)<=(x.length:Int))=decide (1<=x.length):=by
   by_cases h:1<=x.length
   ·rw [decide_eq_true h]; exact decide_eq_true (by omega)
   ·rw [decide_eq_false h]; exact decide_eq_false (by omega)
  have c2:decide ((x.length:Int)<=(3:Int))=decide (x.length<=3):=by
   by_cases h:x.length<=3
   ·rw [decide_eq_true h]; exact decide_eq_true (by omega)
   ·rw [decide_eq_false h]; exact decide_eq_false (by omega)
  show zn (match ((((if decide ((1:Int)<=(x.length:Int))=true then R.ok (decide ((x.length:Int)<=(3:Int))) else .ok false)).bind λb=> .ok (!b)).s λk=>if k=true then RS.rt (.bl false) else .nx [.vl (.str x)]) with
    | .nx ρ' =>_
    | r=>r)=_
  rw [c1,c2];show _=R.ok (T.bl (decide (1<=x.length) && decide (x.length<=3) && x.cps.toList.all zV));cases decide (1<=x.length) with
  | false=>rfl
  | true=>
   cases decide (x.length<=3) with
   | false=>rfl
   | true=>
    show zn ((((zR (zz 0) Zi (chE leC leC (cE (.str "a")) (vB 0) (cE (.str "z"))) 1 [] [.vl (.str x)] (Zx x)).bind λvs=> .ok (.lst vs)).bind vR).s λt=> .rt t)=_;rw [ec];show zn ((match uU (x.cps.toList.map λc=>T.bl (zV c)) with | some k=>R.ok (T.bl k) | none=> .bad).s λt=> .rt t)=_
    rw [ea];rfl
 | _=>rfl
theorem bOk {α β:Type} (a:α) (f:α->R β):(R.ok a).bind f=f a:=rfl
theorem Zg {α:Type} (a:α) (f:α->RS):(R.ok a).s f=f a:=rfl
theorem ZW (r:R T):zn (r.s λt=> .rt t)=r:=by cases r <;> rfl
theorem zW (f:En->R T) (ρ:En):zI f ρ=(f (frz ρ)).s λt=> .rt t:=rfl
theorem Zv {g:List T->R T} {f:En->R T} {ρ:En}:zd 1 g (z9 f zh) ρ=(f ρ).bind λx=>g [x]:=by
 unfold zd z9 zh;cases f ρ <;> rfl
theorem ZA {g:List T->R T} {f f' :En->R T} {ρ:En}:zd 2 g (z9 f (z9 f' zh)) ρ=(f ρ).bind λx=>(f' ρ).bind λy=>g [x,y]:=by
 unfold zd z9 zh;cases f ρ with
 | ok a=>cases f' ρ <;> rfl
 | ex c=>rfl
 | bad=>rfl
theorem Z2 {g:List T->R T} {f f' f'' :En->R T} {ρ:En}:zd 3 g (z9 f (z9 f' (z9 f'' zh))) ρ=(f ρ).bind λx=>(f' ρ).bind λy=>(f'' ρ).bind λz=>g [x,y,z]:=by
 unfold zd z9 zh;cases f ρ with
 | ok a=>
  cases f' ρ with
  | ok b=>cases f'' ρ <;> rfl
  | ex c=>rfl
  | bad=>rfl
 | ex c=>rfl
 | bad=>rfl
theorem GA {g:List T->R T} {f f' f'' f3:En->R T} {ρ:En}:zd 4 g (z9 f (z9 f' (z9 f'' (z9 f3 zh)))) ρ=(f ρ).bind λx=>(f' ρ).bind λy=>(f'' ρ).bind λz=>(f3 ρ).bind λw=>g [x,y,z,w]:=by
 unfold zd z9 zh;cases f ρ with
 | ok a=>
  cases f' ρ with
  | ok b=>
   cases f'' ρ with
   | ok c=>cases f3 ρ <;> rfl
   | ex c=>rfl
   | bad=>rfl
  | ex c=>rfl
  | bad=>rfl
 | ex c=>rfl
 | bad=>rfl
def XG (r k:R T):R T:=r.bind λx=>match x with
 | .bl true=>k
 | .bl false=> .ok (.bl false)
 | _=> .bad
theorem Js (f g:En->R T) (ρ:En):Jf f g ρ=XG (f ρ) (g ρ):=rfl
theorem ZF (a:Bool) (k:R T):XG (.ok (.bl a)) k=if a=true then k else .ok (.bl false):=by cases a <;> rfl
theorem v0 {t:T} {ρ:En}:vE 0 (.vl t :: ρ)= .ok t:=rfl
theorem v1 {t:T} {a:Sl} {ρ:En}:vE 1 (a :: .vl t :: ρ)= .ok t:=rfl
theorem w0 {t:T} {ρ:En}:vB 0 (.vl t :: ρ)= .ok t:=rfl
theorem w1 {t:T} {a:Sl} {ρ:En}:vB 1 (a :: .vl t :: ρ)= .ok t:=rfl
theorem zS {t:T} {ρ:En}:cE t ρ= .ok t:=rfl
theorem zm {g:T->T->R T} {f f' :En->R T} {ρ:En}:ze g f f' ρ=(f ρ).bind λx=>(f' ρ).bind λy=>g x y:=rfl
theorem ZX {t:T} {ρ:En}:frz (.vl t :: ρ)= .vl t :: frz ρ:=rfl
theorem JJ {ρ:En}:frz (.un :: ρ)= .un :: frz ρ:=rfl
theorem jq:frz []=[]:=rfl
theorem QZ {g g' :T->T->R Bool} {fa fb fc:En->R T} {ρ:En}:chE g g' fa fb fc ρ=(fa ρ).bind λx=>(fb ρ).bind λy=>(g x y).bind λk=>if k=true then (fc ρ).bind λz=>(g' y z).bind λk' => .ok (.bl k') else .ok (.bl false):=rfl
theorem ZB {g:T->R T} {f:En->R T} {ρ:En}:ap1 g f ρ=(f ρ).bind g:=rfl
theorem Wy {i j:Int}:leC (.int i) (.int j)= .ok (decide (i<=j)):=rfl
theorem jy {g:T->T->R Bool} {f f' :En->R T} {ρ:En}:w8 g f f' ρ=(f ρ).bind λx=>(f' ρ).bind λy=>(g x y).bind λb=> .ok (.bl b):=rfl
theorem jr {xs:List T}:zY (.tup xs)= .ok (.int xs.length):=rfl
theorem Wz {xs:List T}:zY (.lst xs)= .ok (.int xs.length):=rfl
mutual
def sOk:T->Prop
 | .str x=>x.length<=bnd
 | .tup xs=>jY xs
 | .lst xs=>jY xs
 | .fz xs=>jY xs
 | _=>True
def jY:List T->Prop
 | []=>True
 | t :: ts=>sOk t/\jY ts
end
theorem j1:∀ {ts:List T} {t:T},jY ts->t∈ts->sOk t
 | u :: ts,t,h,hm=>by
  have h' :sOk u/\jY ts:=by simpa only [jY] using h
  rcases List.mem_cons.mp hm with rfl | hm
  ·exact h'.1
  ·exact j1 h'.2 hm
theorem sOk.str {t:T} (h:sOk t):xO t:=by
 cases t with
 | str x=>
  have h' :x.length<=bnd:=by simpa only [sOk] using h
  exact h'
 | _=>trivial
theorem j9 {xs:List T} (h:sOk (.tup xs)):jY xs:=by simpa only [sOk] using h
def zr:T->Bool
 | .tup [w, .int i]=>Z5 w && decide (1<=i) && decide (i<=20)
 | _=>false
theorem YZ (t:T) (ht:sOk t):xL [t]= .ok (.bl (zr t)):=by
 have e:xL [t]=zn (gu f_k f_b f_6 [.vl t]):=rfl;rw [e,gu];simp only [zW,ZW,ZX,jq,Js,Z2,Zv,v0,zS,bOk,zm,QZ];rw [show f_b [t, .int 2, .int 2]= .ok (.bl (yD 2 2 t)) from j8 t 2 2,ZF];cases t with
 | tup xs=>
  match xs,ht with
  | [],_=>rfl
  | [_],_=>rfl
  | _ :: _ :: _ :: _,_=>simp [yD,zr]
  | [w,n],ht=>
   have hw:sOk w:=j1 (j9 ht) (by simp)
   show (if true=true then XG (f_6 [w]) (XG (f_k [n]) ((leC (.int 1) n).bind λk=>if k=true then (leC n (.int 20)).bind λk' =>R.ok (T.bl k') else .ok (.bl false))) else _)=_
   rw [if_pos rfl,xP w hw.str,UQ,ZF,ZF];cases n with
   | int i=>
    show (if Z5 w=true then (if true=true then (if decide (1<=i)=true then R.ok (T.bl (decide (i<=20))) else .ok (.bl false)) else _) else _)=R.ok (T.bl (Z5 w && decide (1<=i) && decide (i<=20)))
    cases Z5 w <;> cases decide (1<=i) <;> rfl
   | _=>
    show (if Z5 w=true then (if false=true then _ else R.ok (T.bl false)) else R.ok (T.bl false))=R.ok (T.bl false)
    cases Z5 w <;> rfl
 | _=>rfl
theorem zG (f g:En->RS) (ρ:En):zv f g ρ=match f ρ with | .nx ρ' =>g ρ' | r=>r:=rfl
theorem ZH (g:En->R Bool) (f1 f2:En->RS) (ρ:En):ifS g f1 f2 ρ=(g ρ).s λk=>if k=true then f1 ρ else f2 ρ:=rfl
theorem U7 (f g:En->R Bool) (ρ:En):orT f g ρ=(f ρ).bind λx=>if x=true then .ok true else g ρ:=rfl
theorem jP (f:En->R Bool) (ρ:En):jE f ρ=(f ρ).bind λx=> .ok (!x):=rfl
theorem je (f:En->R T) (ρ:En):ZP f ρ=(f ρ).bind tru:=rfl
theorem ZC (k:Bool):tru (.bl k)= .ok k:=rfl
theorem ZL (i:Nat) (f:En->R T) (ρ:En):zH i f ρ=(f ρ).s λt=> .nx (ρ.set i (.vl t)):=rfl
theorem zX {g:T->T->R Bool} {f f' :En->R T} {ρ:En}:zC g f f' ρ=(f ρ).bind λx=>(f' ρ).bind λy=>g x y:=rfl
theorem Z7 {fi:En->R (List T)} {g:T->En->R En} {ft:En->R Bool} {fe:En->R T} {k:Nat} {js:List Nat} {ρ:En}:Ze fi g ft fe k js ρ=(fi ρ).bind λts=>(zR g ft fe k js ρ ts).bind λvs=> .ok (.lst vs):=rfl
theorem jf {f:En->R T} {ρ:En}:jl f ρ=(f ρ).bind JR:=rfl
def zZ:T->Str
 | .tup (.str w :: _)=>w
 | _=>⟨#[]⟩
def uv:T->Bool
 | .tup cs=>decide (1<=cs.length) && decide (cs.length<=4) && cs.all zr && decide ((dd [] (cs.map zZ)).length=cs.length)
 | _=>false
theorem JS {c:T} (h:zr c=true):∃ w n,c= .tup [.str w,n]:=by
 unfold zr at h;split at h
 ·rename_i w i;cases w with
  | str x=>exact ⟨x,_,rfl⟩
  | _=>cases h
 ·cases h
theorem Wc:∀ {cs:List T},cs.all zr=true->U4 (cs.map λc=>T.str (zZ c))=some (cs.map zZ)
 | [],_=>rfl
 | c :: cs,h=>by
  rw [List.all_cons,Bool.and_eq_true] at h;have ih:=Wc h.2;show (match U4 (cs.map λc=>T.str (zZ c)) with | some ys=>some (zZ c :: ys) | none=>none)=_
  rw [ih]; rfl
theorem yE (t:T) (ht:sOk t):f_y [t]= .ok (.bl (uv t)):=by
 have e:f_y [t]=zn (b_y f_b xL [.vl t, .un]):=rfl;rw [e,b_y];simp only [zG,ZH,U7,jP,je,Z2,v0,zS,bOk];rw [show f_b [t, .int 1, .int 4]= .ok (.bl (yD 1 4 t)) from j8 t 1 4];simp only [bOk,ZC];cases t with
 | tup cs=>
  have hl:yD 1 4 (.tup cs)=(decide (1<=cs.length) && decide (cs.length<=4)):=rfl;rw [hl];show _=R.ok (T.bl (decide (1<=cs.length) && decide (cs.length<=4) && cs.all zr && decide ((dd [] (cs.map zZ)).length=cs.length)));cases h14:(decide (1<=cs.length) && decide (cs.length<=4)) with
  | false=>rfl
  | true=>
   rw [Bool.and_eq_true,decide_eq_true_eq,decide_eq_true_eq] at h14;have hb:cs.length<=bnd:=Nat.le_trans h14.2 (by decide)
   have ec:zR (zz 0) Zi (zd 1 xL (z9 (vE 0) zh)) 1 [] [.vl (.tup cs), .un] cs= .ok (cs.map λc=>T.bl (zr c)):=
    Zs (h:=λc=>T.bl (zr c)) cs hb λc hc=>by
     show zd 1 xL (z9 (vE 0) zh) [.vl c]=_;rw [Zv,v0,bOk];exact YZ c (j1 (j9 ht) hc)
   simp only [Bool.not_true,Bool.false_eq_true,if_false,ZB,Z7,jf,v0,bOk,JR,ec];have ea:vR (.lst (cs.map λc=>T.bl (zr c)))= .ok (.bl (cs.all zr)):=by
    show (match uU (cs.map λc=>T.bl (zr c)) with | some k=>R.ok (T.bl k) | none=> .bad)=_
    rw [wb]
   rw [ea];simp only [bOk,ZC,Zg];cases hall:cs.all zr with
   | false=>rfl
   | true=>
    have ew:zR (zz 0) Zi (ze ixT (vE 0) (cE (.int 0))) 1 [] [.vl (.tup cs), .un] cs= .ok (cs.map λc=>T.str (zZ c)):=
     Zs (h:=λc=>T.str (zZ c)) cs hb λc hc=>by
      obtain ⟨w,n,rfl⟩:=JS (List.all_eq_true.mp hall c hc);rfl
    simp only [Bool.not_true,Bool.false_eq_true,if_false,nxS,ZL,Z7,jf,v0,bOk,JR,ew,Zg,zW];show zn (((QL (.lst (cs.map λc=>T.str (zZ c)))).bind λx=>(zY (.lst (cs.map λc=>T.str (zZ c)))).bind λy=>(eqC x y).bind λb=>R.ok (T.bl b)).s λt=> .rt t)=_;have el:QL (.lst (cs.map λc=>T.str (zZ c)))= .ok (.int (dd [] (cs.map zZ)).length):=by
     show (match U4 (cs.map λc=>T.str (zZ c)) with | some ys=>if (cs.map λc=>T.str (zZ c)).length+1 < 4096 then R.ok (T.int (dd [] ys).length) else .bad | none=> .bad)=_
     rw [Wc hall];exact if_pos (by rw [List.length_map]; omega)
    rw [el,Wz,List.length_map,ZW];show R.ok (T.bl (((dd [] (cs.map zZ)).length:Int) == (cs.length:Int)))=_;congr 2
    by_cases hq:(dd [] (cs.map zZ)).length=cs.length
    ·rw [decide_eq_true hq,hq]; simp
    ·rw [decide_eq_false hq];simp only [Bool.true_and,beq_eq_false_iff_ne];omega
 | _=>rfl
def isS (w:Str):T->Bool
 | .str s=>s == w
 | _=>false
theorem eqS (h:T) (w:Str):eqC h (.str w)= .ok (isS w h):=by cases h <;> rfl
theorem eqI (i j:Int):eqC (.int i) (.int j)= .ok (i == j):=rfl
theorem at0 {h:T} {r:List T}:ixT (.tup (h :: r)) (.int 0)= .ok h:=by
 show atT (h :: r) 0=_;unfold atT;rw [show atI (h :: r) 0=some h from j3 (j:=0) rfl]
theorem at1 {h a:T} {r:List T}:ixT (.tup (h :: a :: r)) (.int 1)= .ok a:=by
 show atT (h :: a :: r) 1=_;unfold atT;rw [show atI (h :: a :: r) 1=some a from j3 (j:=1) rfl]
theorem at2 {h a b:T} {r:List T}:ixT (.tup (h :: a :: b :: r)) (.int 2)= .ok b:=by
 show atT (h :: a :: b :: r) 2=_;unfold atT;rw [show atI (h :: a :: b :: r) 2=some b from j3 (j:=2) rfl]
theorem at3 {h a b c:T} {r:List T}:ixT (.tup (h :: a :: b :: c :: r)) (.int 3)= .ok c:=by
 show atT (h :: a :: b :: c :: r) 3=_;unfold atT;rw [show atI (h :: a :: b :: c :: r) 3=some c from j3 (j:=3) rfl]
def wH (k:T->Bool):T->Bool
 | .tup ks=>decide (1<=ks.length) && decide (ks.length<=3) && ks.all k
 | _=>false
def JT:List T->Bool
 | [a,b]=>jO (-20) 20 a b
 | _=>false
def uw:List T->Bool
 | [c]=>uv c
 | _=>false
def V3 (k:T->Bool):List T->Bool
 | [c]=>wH k c
 | _=>false
def ux (k:T->Bool):List T->Bool
 | [c,a,b]=>jO 0 3 a b && k c
 | _=>false
def WA (k:T->Bool):T->Bool
 | .tup (h :: r)=>if isS "whole" h=true then JT r else if isS "pick" h=true then uw r else if isS "row" h=true then V3 k r else if isS "many" h=true then ux k r else false
 | _=>false
def isK:Nat->T->Bool
 | 0,_=>false
 | d+1,t=>WA (isK d) t
theorem wI {α:Type} (xs:List α) (n:Nat):((xs.length:Int) == (n:Int))=decide (xs.length=n):=by
 by_cases h:xs.length=n
 ·rw [decide_eq_true h,h]; simp
 ·rw [decide_eq_false h,beq_eq_false_iff_ne]; omega
theorem V4 {f:En->R T} {ρ:En}:yv f ρ=(f ρ).bind λx=>match x with | .int i=> .ok (.int (-i)) | _=> .bad:=rfl
theorem Jt {i j:Int}:wv (.int i) (.int j)= .ok (.int (i - j)):=rfl
set_option maxHeartbeats 1000000 in
theorem xQ {n:Nat} {d:Nat} {k:T->Bool} (H0:∀ t,sOk t->S_c n 0 [t, .int d]= .ok (.bl (k t))) (H1:∀ t,sOk t->S_c n 1 [t, .int d]= .ok (.bl (wH k t))) (t:T) (ht:sOk t):
  S_c (n+1) 0 [t, .int ((d+1:Nat):Int)]= .ok (.bl (WA k t)):=by
 have e:S_c (n+1) 0 [t, .int ((d+1:Nat):Int)]=zn (b_c gs (S_c n 0) f_y (S_c n 1) [.vl t, .vl (.int ((d+1:Nat):Int))]):=rfl;have hL:(((d+1:Nat):Int) == 0)=false:=by rw [beq_eq_false_iff_ne]; omega
 have hL1:((d+1:Nat):Int) - 1=(d:Int):=by omega
 rw [e,b_c];simp only [zG,ZH,U7,jP,je,zX,w0,w1,zS,bOk,eqI,hL,Bool.false_eq_true,if_false,ZB];cases t with
 | tup xs=>
  cases xs with
  | nil=>rfl
  | cons h r=>
   have hs:=j9 ht;have hm:∀ u∈r,sOk u:=λu hu=>j1 hs (List.mem_cons_of_mem _ hu);have z0:(((h :: r).length:Int) == 0)=false:=by rw [beq_eq_false_iff_ne]; simp only [List.length_cons]; omega
   have ti:jF "tuple" (.tup (h :: r))= .ok (.bl true):=rfl;simp only [ti,bOk,ZC,Bool.not_true,Bool.false_eq_true,if_false,jr,eqI,z0,Zg,nxS,zm,v0,v1,zS,at0,eqS,zW,ZX,jq,Js,jy,ZB,w0,GA,Zv,ZA,V4,Jt,hL1];show _=R.ok (T.bl (if isS "whole" h=true then JT r else if isS "pick" h=true then uw r else if isS "row" h=true then V3 k r else if isS "many" h=true then ux k r else false))
   have l3:(((h :: r).length:Int) == 3)=decide ((h :: r).length=3):=wI (h :: r) 3;have l2:(((h :: r).length:Int) == 2)=decide ((h :: r).length=2):=wI (h :: r) 2;have l4:(((h :: r).length:Int) == 4)=decide ((h :: r).length=4):=wI (h :: r) 4;simp only [l2,l3,l4,ZF];cases isS "whole" h with
   | true=>
    simp only [if_true]
    match r,hm with
    | [],_=>rfl
    | [_],_=>rfl
    | _ :: _ :: _ :: _,_=>simp [JT,Zg,zn]
    | [a,b],_=>
     simp only [at1,at2,bOk,YY];rfl
   | false=>
    simp only [Bool.false_eq_true,if_false,v0,v1,w0,bOk,at0,Zg,ZX,jq,jr,eqI,l2,l4,ZF,Jt,hL1];cases isS "pick" h with
    | true=>
     simp only [if_true]
     match r,hm with
     | [],_=>rfl
     | _ :: _ :: _,_=>simp [uw,Zg,zn]
     | [c],hm=>
      simp only [at1,bOk,yE c (hm c (by simp))]
      rfl
    | false=>
     simp only [Bool.false_eq_true,if_false,v0,v1,w0,bOk,at0,Zg,ZX,jq,jr,eqI,l2,l4,ZF,Jt,hL1];cases isS "row" h with
     | true=>
      simp only [if_true]
      match r,hm with
      | [],_=>rfl
      | _ :: _ :: _,_=>simp [V3,Zg,zn]
      | [c],hm=>
       simp only [at1,bOk,H1 c (hm c (by simp))]
       rfl
     | false=>
      simp only [Bool.false_eq_true,if_false,v0,v1,w0,bOk,at0,Zg,ZX,jq,jr,eqI,l2,l4,ZF,Jt,hL1];cases isS "many" h with
      | true=>
       simp only [if_true]
       match r,hm with
       | [],_=>rfl
       | [_],_=>rfl
       | [_,_],_=>rfl
       | _ :: _ :: _ :: _ :: _,_=>simp [ux,Zg,zn]
       | [c,a,b],hm=>
        simp only [at1,at2,at3,bOk,YY,H0 c (hm c (by simp)),ZF]
        show zn (match (if jO 0 3 a b=true then R.ok (T.bl (k c)) else .ok (.bl false)).s (λt=>RS.rt t) with | .nx _=>RS.rt (T.bl false) | r=>r)=R.ok (T.bl (jO 0 3 a b && k c))
        cases jO 0 3 a b <;> rfl
      | false=>rfl
 | _=>rfl
theorem K5 {n:Nat} {d:Nat} {k:T->Bool} (H0:∀ t,sOk t->S_c n 0 [t, .int d]= .ok (.bl (k t))) (t:T) (ht:sOk t):S_c (n+1) 1 [t, .int d]= .ok (.bl (wH k t)):=by
 have e:S_c (n+1) 1 [t, .int d]=zn (gv f_b (S_c n 0) [.vl t, .vl (.int d)]):=rfl;rw [e,gv];simp only [zW,ZW,ZX,jq,Js,Z2,v0,zS,bOk];rw [show f_b [t, .int 1, .int 3]= .ok (.bl (yD 1 3 t)) from j8 t 1 3,ZF];cases t with
 | tup ks=>
  show (if (decide (1<=ks.length) && decide (ks.length<=3))=true then _ else _)=R.ok (T.bl (decide (1<=ks.length) && decide (ks.length<=3) && ks.all k))
  cases h13:(decide (1<=ks.length) && decide (ks.length<=3)) with
  | false=>rfl
  | true=>
   rw [Bool.and_eq_true,decide_eq_true_eq,decide_eq_true_eq] at h13;have hb:ks.length<=bnd:=Nat.le_trans h13.2 (by decide)
   have ec:zR (zz 0) Zi (zd 2 (S_c n 0) (z9 (vE 0) (z9 (vE 1) zh))) 1 [1] [.vl (.tup ks), .vl (.int d)] ks= .ok (ks.map λc=>T.bl (k c)):=
    Zs (h:=λc=>T.bl (k c)) ks hb λc hc=>by
     show zd 2 (S_c n 0) (z9 (vE 0) (z9 (vE 1) zh)) [.vl c, .vl (.int d)]=_;rw [ZA,v0,v1,bOk,bOk];exact H0 c (j1 (j9 ht) hc)
   simp only [if_true,ZB,Z7,jf,v0,bOk,JR,ec];show (match uU (ks.map λc=>T.bl (k c)) with | some k=>R.ok (T.bl k) | none=> .bad)=_
   rw [wb];rfl
 | _=>rfl
theorem U8:∀ (d n:Nat),2*d+1<=n->∀ t,sOk t->S_c n 0 [t, .int d]= .ok (.bl (isK d t))
 | 0,n+1,_,t,_=>rfl
 | d+1,n+2,h,t,ht=>xQ (n:=n+1) (λu hu=>U8 d (n+1) (by omega) u hu) (λu hu=>K5 (λv hv=>U8 d n (by omega) v hv) u hu) t ht
theorem yF (t:T) (ht:sOk t):f_1 [t]= .ok (.bl (isK 3 t)):=by
 have e:f_1 [t]=zn (b_1 (f_c 20) [.vl t]):=rfl;rw [e,b_1];simp only [zW,ZW,ZX,jq,ZA,v0,zS,bOk];exact U8 3 20 (by omega) t ht
def inR (lo hi:Int):T->Bool
 | .int i=>decide (lo<=i) && decide (i<=hi)
 | _=>false
theorem jg (t:T) (lo hi:Int):f_p [t, .int lo, .int hi]= .ok (.bl (inR lo hi t)):=by
 cases t with
 | int i=>
  show zn ((if decide (lo<=i)=true then R.ok (T.bl (decide (i<=hi))) else .ok (.bl false)).s λt=> .rt t)=R.ok (T.bl (decide (lo<=i) && decide (i<=hi)))
  cases decide (lo<=i) <;> rfl
 | _=>rfl
theorem qa (xs:List T):eqC (.lst xs) (.lst [])= .ok xs.isEmpty:=by cases xs <;> rfl
theorem v6 (c:Nat) (ρ:En):jE (chT leC leC (cE (.str "a")) (vB 0) (cE (.str "z"))) ((Sl.vl (.str ⟨#[c]⟩)) :: ρ)= .ok (!zV c):=by
 have e1:leC (.str "a") (.str ⟨#[c]⟩)= .ok (decide (97<=c)):=by
  show R.ok (!decide ([c] < [97]))=_;rw [UR]
  by_cases h:c < 97
  ·rw [decide_eq_true h,decide_eq_false (by omega)]; rfl
  ·rw [decide_eq_false h,decide_eq_true (by omega)]; rfl
 have e2:leC (.str ⟨#[c]⟩) (.str "z")= .ok (decide (c<=122)):=by
  show R.ok (!decide ([122] < [c]))=_;rw [UR]
  by_cases h:122 < c
  ·rw [decide_eq_true h,decide_eq_false (by omega)]; rfl
  ·rw [decide_eq_false h,decide_eq_true (by omega)]; rfl
 show ((leC (.str "a") (.str ⟨#[c]⟩)).bind (λk=>if k=true then leC (.str ⟨#[c]⟩) (.str "z") else R.ok false)).bind (λx=>R.ok (!x))=_
 rw [e1,e2];unfold zV;show (if decide (97<=c)=true then R.ok (decide (c<=122)) else R.ok false).bind (λx=>R.ok (!x))=_
 cases decide (97<=c) <;> rfl
theorem jQ {α:Type} (p:α->Bool):∀ xs:List α,(xs.filter λx=> !p x).isEmpty=xs.all p
 | []=>rfl
 | x :: xs=>by
  have ih:=jQ p xs;rw [List.all_cons];cases hp:p x with
  | true=>rw [List.filter_cons_of_neg (by simp [hp]),ih]; rfl
  | false=>rw [List.filter_cons_of_pos (by simp [hp])]; rfl
def xR:T->Bool
 | .str y=> !zV (y.cps.toList.headD 0)
 | _=>false
theorem U9 (t:T) (ht:xO t):f_v [t]= .ok (.bl (Z5 t)):=by
 cases t with
 | str x=>
  have hx:x.length<=bnd:=ht;have e0:zY (.str x)= .ok (.int x.length):=if_pos hx;have hs:(Zx x).length<=bnd:=by unfold Zx; rw [List.length_map,Array.length_toList]; exact hx
  have ec:zR (zz 0) (jE (chT leC leC (cE (.str "a")) (vB 0) (cE (.str "z")))) (vE 0) 1 [] [.vl (.str x)] (Zx x)= .ok (((Zx x).filter xR).map id):=by
   unfold zR;rw [if_pos hs];have:=Zr (ft:=jE (chT leC leC (cE (.str "a")) (vB 0) (cE (.str "z")))) (fe:=vE 0) (p:=xR) (h:=id) (Zx x) (wU 1 [] [.vl (.str x)]) λt ht=>by
    unfold Zx at ht;obtain ⟨c,_,rfl⟩:=List.mem_map.mp ht;exact ⟨v6 c [],λ_=>rfl⟩
   rw [this];rfl
  have em:(((Zx x).filter xR).map id).isEmpty=x.cps.toList.all zV:=by
   rw [List.map_id];unfold Zx;rw [List.filter_map,List.isEmpty_map];exact jQ zV x.cps.toList
  have e:f_v [.str x]=zn (b_v [.vl (.str x)]):=rfl;rw [e,b_v];simp only [zW,ZW,ZX,jq,Js,ZB,w0,v0,bOk,QZ,zS,e0,Wy,jy,Z7,jf,JR,ec];have c1:decide ((1:Int)<=(x.length:Int))=decide (1<=x.length):=by
   by_cases h:1<=x.length
   ·rw [decide_eq_true h]; exact decide_eq_true (by omega)
   ·rw [decide_eq_false h]; exact decide_eq_false (by omega)
  have c2:decide ((x.length:Int)<=(3:Int))=decide (x.length<=3):=by
   by_cases h:x.length<=3
   ·rw [decide_eq_true h]; exact decide_eq_true (by omega)
   ·rw [decide_eq_false h]; exact decide_eq_false (by omega)
  rw [c1,c2];have el:jb zh [Sl.vl (T.str x)]= .ok (.lst []):=rfl;rw [el];simp only [bOk,qa,em];show XG (R.ok (T.bl true)) (XG (if decide (1<=x.length)=true then R.ok (T.bl (decide (x.length<=3))) else R.ok (T.bl false)) (R.ok (T.bl (x.cps.toList.all zV))))=R.ok (T.bl (decide (1<=x.length) && decide (x.length<=3) && x.cps.toList.all zV))
  cases decide (1<=x.length) <;> cases decide (x.length<=3) <;> rfl
 | _=>rfl
theorem uy:∀ (ws acc:List Str),(dd acc ws).length<=acc.length+ws.length
 | [],acc=>Nat.le_refl _
 | w :: ws,acc=>by
  unfold dd;have:=uy ws (if w∈acc then acc else acc++[w])
  by_cases h:w∈acc
  ·rw [if_pos h] at this ⊢; simp only [List.length_cons]; omega
  ·rw [if_neg h] at this ⊢; rw [List.length_append,List.length_singleton] at this; simp only [List.length_cons]; omega
theorem wJ:∀ (ws acc:List Str),((dd acc ws).length=acc.length+ws.length)↔∀ (k:Nat) (w:Str),ws[k]? =some w->w ∉ acc++ws.take k
 | [],acc=>by simp [dd]
 | w :: ws,acc=>by
  unfold dd
  by_cases h:w∈acc
  ·rw [if_pos h];have:=uy ws acc;constructor
   ·intro e; simp only [List.length_cons] at e; omega
   ·intro H; exact absurd (List.mem_append_left _ h) (H 0 w rfl)
  ·rw [if_neg h];have ih:=wJ ws (acc++[w]);rw [List.length_append,List.length_singleton] at ih;rw [show acc.length+(w :: ws).length=acc.length+1+ws.length by simp only [List.length_cons]; omega,ih]
   constructor
   ·intro H k v e;cases k with
    | zero=>simp at e; subst e; simpa using h
    | succ k=>
     have:=H k v (by simpa using e)
     simpa [List.append_assoc] using this
   ·intro H k v e;have:=H (k+1) v (by simpa using e)
    simpa [List.append_assoc] using this
theorem cut1 {h:T} {r:List T}:slT (.tup (h :: r)) (some 1) none= .ok (.tup r):=by
 show R.ok (T.tup (cut (h :: r) (some 1) none))=_;have:cut (h :: r) (some 1) none=r:=by
  unfold cut;rw [show HT.sIx (h :: r).length 0 (some (1:Int))=1 from by rw [show (1:Int)=((1:Nat):Int) from rfl,HT.sIx_nat]; simp only [List.length_cons]; omega,HT.sIx_none]
  simp
 rw [this]
theorem neS (h:T) (w:Str):neC h (.str w)= .ok (!isS w h):=by cases h <;> rfl
theorem neI (i j:Int):neC (.int i) (.int j)= .ok (!(i == j)):=rfl
theorem ltI (i j:Int):ltC (.int i) (.int j)= .ok (decide (i < j)):=rfl
theorem v2 {t:T} {a b:Sl} {ρ:En}:vE 2 (a :: b :: .vl t :: ρ)= .ok t:=rfl
theorem v3 {t:T} {a b c:Sl} {ρ:En}:vE 3 (a :: b :: c :: .vl t :: ρ)= .ok t:=rfl
theorem w2 {t:T} {a b:Sl} {ρ:En}:vB 2 (a :: b :: .vl t :: ρ)= .ok t:=rfl
theorem w3 {t:T} {a b c:Sl} {ρ:En}:vB 3 (a :: b :: c :: .vl t :: ρ)= .ok t:=rfl
theorem w5 {t:T} {a b c d e:Sl} {ρ:En}:vB 5 (a :: b :: c :: d :: e :: .vl t :: ρ)= .ok t:=rfl
theorem v4 {t:T} {a b c d:Sl} {ρ:En}:vE 4 (a :: b :: c :: d :: .vl t :: ρ)= .ok t:=rfl
theorem WB (f g:En->R Bool) (ρ:En):wz f g ρ=(f ρ).bind λx=>if x=true then g ρ else .ok false:=rfl
theorem qb {g g' :T->T->R Bool} {fa fb fc:En->R T} {ρ:En}:chT g g' fa fb fc ρ=(fa ρ).bind λx=>(fb ρ).bind λy=>(g x y).bind λk=>if k=true then (fc ρ).bind λz=>g' y z else .ok false:=rfl
theorem JK (t:T):jF "tuple" t= .ok (.bl (match t with | .tup _=>true | _=>false)):=by cases t <;> rfl
theorem xS {n d:Nat} {k:T->Bool} (H0:∀ t,sOk t->S_a n 0 [t, .int d]= .ok (.bl (k t))) {ks:List T} (hk:∀ u∈ks,sOk u) (hl:ks.length<=3) {x y z:Sl} {L:Int} (hL:L - 1=(d:Int)) {ρ:En}:
  zR (zz 0) (jE (ZP (zd 2 (S_a n 0) (z9 (vE 0) (z9 (ze wv (vE 1) (cE (.int 1))) zh))))) (vE 0) 1 [1] (x :: .vl (.int L) :: ρ) ks= .ok (ks.filter λc=> !k c):=by
 unfold zR;rw [if_pos (Nat.le_trans hl (by decide))]
 have:=Zr (ft:=jE (ZP (zd 2 (S_a n 0) (z9 (vE 0) (z9 (ze wv (vE 1) (cE (.int 1))) zh))))) (fe:=vE 0) (p:=λc=> !k c) (h:=id) ks (wU 1 [1] (x :: .vl (.int L) :: ρ)) λc hc=>by
  refine ⟨?_,λ_=>rfl⟩;show jE (ZP (zd 2 (S_a n 0) (z9 (vE 0) (z9 (ze wv (vE 1) (cE (.int 1))) zh)))) [.vl c, .vl (.int L)]=_;simp only [jP,je,ZA,v0,v1,bOk,zm,zS,Jt,hL,H0 c (hk c hc),ZC]
 rw [this,List.map_id];rfl
def uV:T->Bool
 | .tup [_,_]=>true
 | _=>false
def Ua:T->T
 | .tup (w :: _)=>w
 | t=>t
theorem GB {cs:List T} (hl:cs.length<=4) {ρ:En}:zR (zz 0) (wz (ZP (ap1 (jF "tuple") (vB 0))) (zC eqC (ap1 zY (vB 0)) (cE (.int 2)))) (vE 0) 1 [] ρ cs= .ok (cs.filter uV):=by
 unfold zR;rw [if_pos (Nat.le_trans hl (by decide))]
 have:=Zr (ft:=wz (ZP (ap1 (jF "tuple") (vB 0))) (zC eqC (ap1 zY (vB 0)) (cE (.int 2)))) (fe:=vE 0) (p:=uV) (h:=id) cs (wU 1 [] ρ) λc _=>by
  refine ⟨?_,λ_=>rfl⟩;show wz (ZP (ap1 (jF "tuple") (vB 0))) (zC eqC (ap1 zY (vB 0)) (cE (.int 2))) [.vl c]=_;cases c with
  | tup xs=>
   match xs with
   | []=>rfl
   | [_]=>rfl
   | [_,_]=>rfl
   | _ :: _ :: _ :: xs=>
    simp only [WB,je,ZB,w0,bOk,JK,ZC,if_true,zX,jr,zS,eqI,uV];congr 1
    all_goals (rw [beq_eq_false_iff_ne]; simp only [List.length_cons]; omega)
  | _=>rfl
 rw [this,List.map_id];rfl
theorem Wd (c:T):zr c=(uV c && (match c with | .tup [w,n]=>Z5 w && inR 1 20 n | _=>false)):=by
 cases c with
 | tup xs=>
  match xs with
  | []=>rfl
  | [_]=>rfl
  | _ :: _ :: _ :: _=>simp [zr,uV]
  | [w,n]=>
   cases n with
   | int i=>
    show (Z5 w && decide (1<=i) && decide (i<=20))=(true && (Z5 w && (decide (1<=i) && decide (i<=20))));rw [Bool.true_and,Bool.and_assoc]
   | _=>
    show false=(true && (Z5 w && false));cases Z5 w <;> rfl
 | _=>rfl
theorem GC {cs:List T} (hs:∀ c∈cs,sOk c) (hl:cs.length<=4) {ρ:En}:
  zR (zz 0) (wz (ZP (zd 1 f_v (z9 (ze ixT (vE 0) (cE (.int 0))) zh))) (ZP (zd 3 f_p (z9 (ze ixT (vE 0) (cE (.int 1))) (z9 (cE (.int 1)) (z9 (cE (.int 20)) zh)))))) (ze ixT (vE 0) (cE (.int 0))) 1 [] ρ (cs.filter uV)= .ok ((cs.filter zr).map Ua):=by
 unfold zR;have hl' :(cs.filter uV).length<=bnd:=Nat.le_trans (List.length_filter_le _ _) (Nat.le_trans hl (by decide))
 rw [if_pos hl'];have:=Zr (ft:=wz (ZP (zd 1 f_v (z9 (ze ixT (vE 0) (cE (.int 0))) zh))) (ZP (zd 3 f_p (z9 (ze ixT (vE 0) (cE (.int 1))) (z9 (cE (.int 1)) (z9 (cE (.int 20)) zh)))))) (fe:=ze ixT (vE 0) (cE (.int 0))) (p:=zr) (h:=Ua) (cs.filter uV) (wU 1 [] ρ) λc hc=>by
  obtain ⟨hc1,hc2⟩:=List.mem_filter.mp hc;have hso:=hs c hc1;unfold uV at hc2;split at hc2
  ·rename_i w n;have hw:sOk w:=j1 (j9 hso) (by simp)
   refine ⟨?_,λ_=> ?_⟩
   ·show wz (ZP (zd 1 f_v (z9 (ze ixT (vE 0) (cE (.int 0))) zh))) (ZP (zd 3 f_p (z9 (ze ixT (vE 0) (cE (.int 1))) (z9 (cE (.int 1)) (z9 (cE (.int 20)) zh))))) [.vl (.tup [w,n])]=_;simp only [WB,je,Zv,Z2,zm,v0,zS,bOk,at0,at1,U9 w hw.str,jg,ZC,Wd];show (if Z5 w=true then R.ok (inR 1 20 n) else R.ok false)=R.ok (true && (Z5 w && inR 1 20 n))
    cases Z5 w <;> rfl
   ·show ze ixT (vE 0) (cE (.int 0)) [.vl (.tup [w,n])]=_;simp only [zm,v0,zS,bOk,at0];rfl
  ·cases hc2
 rw [this,List.filter_filter];have:(cs.filter λa=>zr a && uV a)=cs.filter zr:=by
  refine List.filter_congr λc _=> ?_;rw [Wd];cases uV c <;> simp
 rw [this];rfl
theorem wc (w:Str):∀ ws:List Str,WT (λy=>eqF 30 y (.str w)) (ws.map T.str)=some (decide (w∈ws))
 | []=>rfl
 | x :: ws=>by
  have ih:=wc w ws;show (match WT (λy=>eqF 30 y (.str w)) (ws.map T.str) with | none=>none | some c=>some ((x == w) || c))=_
  rw [ih];show some ((x == w) || decide (w∈ws))=_
  congr 1
  by_cases h:x=w
  ·subst h; simp
  ·have h' :¬ w=x:=λz=>h z.symm;simp [h,h']
theorem US {xs:List T} {k:Nat}:slT (.lst xs) none (some (k:Int))= .ok (.lst (xs.take k)):=by
 show R.ok (T.lst (cut xs none (some (k:Int))))=_;have:cut xs none (some (k:Int))=xs.take k:=by
  unfold cut;rw [HT.sIx_none,HT.sIx_nat];simp only [List.drop_zero,Nat.sub_zero];rw [List.take_eq_take_iff];omega
 rw [this]
theorem K6 {xs:List T} {k:Nat} {t:T} (h:xs[k]? =some t):ixT (.lst xs) (.int k)= .ok t:=by
 show atT xs k=_;unfold atT;rw [j3 h]
theorem GD {ws:List Str} (hl:ws.length<=4) {a b c d e:Sl}:∃ r,zR (zz 0) (zC inC (ze ixT (vE 1) (vE 0)) (slE (vE 1) noO (zB (vE 0)))) (vE 0) 1 [5] [a,b,c,d,e, .vl (.lst (ws.map T.str))] (rng 0 ws.length)= .ok r/\
  (r.isEmpty=true↔∀ (k:Nat) (w:Str),ws[k]? =some w->w ∉ ws.take k):=by
 have hl' :(rng 0 ws.length).length<=bnd:=by unfold rng; rw [List.length_map,List.length_range]; exact Nat.le_trans hl (by decide)
 let p:T->Bool:=λt=>match t with
  | .int i=>match ws[i.toNat]? with | some w=>decide (w∈ws.take i.toNat) | none=>false
  | _=>false
 have key:=Zr (ft:=zC inC (ze ixT (vE 1) (vE 0)) (slE (vE 1) noO (zB (vE 0)))) (fe:=vE 0) (p:=p) (h:=id) (rng 0 ws.length) (wU 1 [5] [a,b,c,d,e, .vl (.lst (ws.map T.str))]) λt ht=>by
  unfold rng at ht;obtain ⟨k,hk,rfl⟩:=List.mem_map.mp ht;have hk' :k < ws.length:=List.mem_range.mp hk;refine ⟨?_,λ_=>rfl⟩;show zC inC (ze ixT (vE 1) (vE 0)) (slE (vE 1) noO (zB (vE 0))) [.vl (.int (0+(k:Int))), .vl (.lst (ws.map T.str))]=_;rw [show (0:Int)+(k:Int)=(k:Int) by omega]
  have e1:ixT (.lst (ws.map T.str)) (.int k)= .ok (.str ws[k]):=K6 (by rw [List.getElem?_map,List.getElem?_eq_getElem hk']; rfl)
  have e2:slE (vE 1) noO (zB (vE 0)) [.vl (.int (k:Int)), .vl (.lst (ws.map T.str))]=slT (.lst (ws.map T.str)) none (some (k:Int)):=rfl;simp only [zX,zm,v1,v0,bOk,e1,e2,US];show inC (.str ws[k]) (.lst ((ws.map T.str).take k))=R.ok (p (.int (k:Int)));have e3:inC (.str ws[k]) (.lst ((ws.map T.str).take k))= .ok (decide (ws[k]∈ws.take k)):=by
   show (match WT (λy=>eqF 30 y (.str ws[k])) ((ws.map T.str).take k) with | some b=>R.ok b | none=> .bad)=_
   rw [← List.map_take,wc]
  rw [e3];show _=R.ok (match ws[((k:Int)).toNat]? with | some w=>decide (w∈ws.take ((k:Int)).toNat) | none=>false)
  rw [Int.toNat_natCast,List.getElem?_eq_getElem hk']
 refine ⟨((rng 0 ws.length).filter p).map id, ?_, ?_⟩
 ·unfold zR;rw [if_pos hl',key];rfl
 ·rw [List.map_id,List.isEmpty_iff,List.filter_eq_nil_iff];constructor
  ·intro H k w e;have hk:k < ws.length:=(List.getElem?_eq_some_iff.mp e).1;have:=H (.int (0+(k:Int))) (List.mem_map.mpr ⟨k,List.mem_range.mpr hk,rfl⟩);rw [show (0:Int)+(k:Int)=(k:Int) by omega] at this
   have q:p (.int (k:Int))=decide (w∈ws.take k):=by
    show (match ws[((k:Int)).toNat]? with | some w=>decide (w∈ws.take ((k:Int)).toNat) | none=>false)=_
    rw [Int.toNat_natCast,e]
   rw [q] at this;simpa using this
  ·intro H t ht;unfold rng at ht;obtain ⟨k,hk,rfl⟩:=List.mem_map.mp ht;have hk' :k < ws.length:=List.mem_range.mp hk;rw [show (0:Int)+(k:Int)=(k:Int) by omega]
   have q:p (.int (k:Int))=decide (ws[k]∈ws.take k):=by
    show (match ws[((k:Int)).toNat]? with | some w=>decide (w∈ws.take ((k:Int)).toNat) | none=>false)=_
    rw [Int.toNat_natCast,List.getElem?_eq_getElem hk']
   rw [q];simpa using H k ws[k] (List.getElem?_eq_getElem hk')
theorem GE {cs:List T} (h:cs.all zr=true):(cs.filter zr).map Ua=(cs.map zZ).map T.str:=by
 rw [List.filter_eq_self.mpr (λc hc=>List.all_eq_true.mp h c hc),List.map_map];refine List.map_congr_left λc hc=> ?_;obtain ⟨w,n,rfl⟩:=JS (List.all_eq_true.mp h c hc);rfl
theorem Jc {α:Type} (p:α->Bool):∀ xs:List α,((xs.filter p).length=xs.length)↔xs.all p=true
 | []=>by simp
 | x :: xs=>by
  have ih:=Jc p xs;have hl:=List.length_filter_le p xs;cases hp:p x with
  | true=>rw [List.filter_cons_of_pos hp,List.all_cons,hp,Bool.true_and,← ih]; simp
  | false=>
   rw [List.filter_cons_of_neg (by rw [hp]; exact Bool.false_ne_true),List.all_cons,hp,Bool.false_and]
   simp only [List.length_cons];constructor
   ·intro z; omega
   ·intro z; cases z
theorem uz (lo hi:Int) (a b:T):(if inR lo hi a=true then f_p [b,a, .int hi] else R.ok (.bl false))= .ok (.bl (jO lo hi a b)):=by
 cases a with
 | int i=>
  rw [jg];show (if (decide (lo<=i) && decide (i<=hi))=true then R.ok (T.bl (inR i hi b)) else R.ok (T.bl false))=_
  cases b with
  | int j=>
   show (if (decide (lo<=i) && decide (i<=hi))=true then R.ok (T.bl (decide (i<=j) && decide (j<=hi))) else R.ok (T.bl false))=R.ok (T.bl (decide (lo<=i) && decide (i<=j) && decide (j<=hi)))
   by_cases h1:lo<=i
   ·by_cases h2:i<=hi
    ·rw [decide_eq_true h1,decide_eq_true h2]; rfl
    ·rw [decide_eq_true h1,decide_eq_false h2];show R.ok (T.bl false)=R.ok (T.bl (decide (i<=j) && decide (j<=hi)))
     by_cases h3:i<=j
     ·rw [decide_eq_true h3,decide_eq_false (show ¬ j<=hi by omega)]; rfl
     ·rw [decide_eq_false h3]; rfl
   ·rw [decide_eq_false h1]; rfl
  | _=>
   show (if (decide (lo<=i) && decide (i<=hi))=true then R.ok (T.bl false) else R.ok (T.bl false))=R.ok (T.bl false)
   cases (decide (lo<=i) && decide (i<=hi)) <;> rfl
 | _=>cases b <;> rfl
theorem xT {xs:List T} (h:xs.length<=4) {a b c d e:Sl}:Zu (ap1 zY (vB 5)) [a,b,c,d,e, .vl (.lst xs)]= .ok (rng 0 xs.length):=by
 have e1:Zu (ap1 zY (vB 5)) [a,b,c,d,e, .vl (.lst xs)]=(R.ok (T.int (xs.length:Int))).bind λt=>match t with | .int j=>if -1000000 < j/\j < 1000000 then .ok (rng 0 j.toNat) else .bad | _=> .bad:=rfl
 rw [e1,bOk];dsimp only;rw [if_pos ⟨by omega,by omega⟩,Int.toNat_natCast]
theorem WC {c:T} (hc:sOk c) {a b d e f:Sl}:
  zn (match (((jF "tuple" c).bind tru).bind λx=>R.ok (!x)).bind (λx=>if x=true then R.ok true else ((zY c).bind λy=>(leC (.int 1) y).bind λk=>if k=true then leC y (.int 4) else R.ok false).bind λx=>R.ok (!x)) with
   | .ok k=>if k=true then RS.rt (T.bl false) else (zI (Jf (w8 eqC (ap1 zY (vB 5)) (ap1 zY (ze ixT (vE 3) (cE (.int 0))))) (w8 eqC (Ze (Zu (ap1 zY (vB 5))) (zz 0) (zC inC (ze ixT (vE 1) (vE 0)) (slE (vE 1) (noO) (zB (vE 0)))) (vE 0) 1 [5]) (jb (zh)))) [a,b,d, .vl (.tup [c]),f, .vl (.lst (match c with | .tup cs=>(cs.filter zr).map Ua | _=>[]))])
   | .ex c=> .ex c
   | .bad=> .bad)= .ok (.bl (uv c)):=by
 cases c with
 | tup cs=>
  have e1:(leC (.int 1) (.int (cs.length:Int))).bind (λk=>if k=true then leC (.int (cs.length:Int)) (.int 4) else R.ok false)= .ok (decide (1<=cs.length) && decide (cs.length<=4)):=by
   show (if decide ((1:Int)<=(cs.length:Int))=true then R.ok (decide ((cs.length:Int)<=4)) else R.ok false)=_
   by_cases h:1<=cs.length
   ·rw [decide_eq_true h,decide_eq_true (show (1:Int)<=(cs.length:Int) by omega)]
    show R.ok (decide ((cs.length:Int)<=4))=R.ok (decide (cs.length<=4))
    by_cases h4:cs.length<=4
    ·rw [decide_eq_true h4,decide_eq_true (show (cs.length:Int)<=4 by omega)]
    ·rw [decide_eq_false h4,decide_eq_false (show ¬ (cs.length:Int)<=4 by omega)]
   ·rw [decide_eq_false h,decide_eq_false (show ¬ (1:Int)<=(cs.length:Int) by omega)]; rfl
  simp only [JK,bOk,ZC,Bool.not_true,Bool.false_eq_true,if_false,jr,e1];show _=R.ok (T.bl (decide (1<=cs.length) && decide (cs.length<=4) && cs.all zr && decide ((dd [] (cs.map zZ)).length=cs.length)));cases h14:(decide (1<=cs.length) && decide (cs.length<=4)) with
  | false=>rfl
  | true=>
   rw [Bool.and_eq_true,decide_eq_true_eq,decide_eq_true_eq] at h14;simp only [Bool.not_true,Bool.false_eq_true,if_false,zW,ZW,ZX,Js,jy,ZB];have ef:frz [a,b,d, .vl (.tup [.tup cs]),f, .vl (.lst ((cs.filter zr).map Ua))]=[Jg a,Jg b,Jg d, .vl (.tup [.tup cs]),Jg f, .vl (.lst ((cs.filter zr).map Ua))]:=rfl;rw [ef];simp only [w5,zm,v3,zS,bOk,at0,Wz,jr,eqI,List.length_map,Z7];rw [wI,ZF]
   by_cases hall:cs.all zr=true
   ·rw [decide_eq_true ((Jc zr cs).mpr hall),if_pos rfl,hall];have hw:(cs.map zZ).length<=4:=by rw [List.length_map]; exact h14.2
    obtain ⟨r,er,hr⟩:=GD hw (a:=Jg a) (b:=Jg b) (c:=Jg d) (d:= .vl (.tup [.tup cs])) (e:=Jg f);rw [GE hall];have ei:Zu (ap1 zY (vB 5)) [Jg a,Jg b,Jg d, .vl (.tup [.tup cs]),Jg f, .vl (.lst ((cs.map zZ).map T.str))]= .ok (rng 0 (cs.map zZ).length):=by
     rw [xT (by rw [List.length_map]; exact hw),List.length_map]
    rw [ei];simp only [bOk,er];have el:jb zh [Jg a,Jg b,Jg d, .vl (.tup [.tup cs]),Jg f, .vl (.lst ((cs.map zZ).map T.str))]= .ok (.lst []):=rfl;rw [el];rw [bOk,qa,bOk];rw [Bool.true_and,Bool.true_and];refine congrArg (λz=>R.ok (T.bl z)) ?_;have hdd:=wJ (cs.map zZ) [];rw [List.length_nil,Nat.zero_add,List.length_map] at hdd;simp only [List.nil_append] at hdd
    by_cases hq:(dd [] (cs.map zZ)).length=cs.length
    ·rw [decide_eq_true hq];exact hr.mpr (hdd.mp hq)
    ·rw [decide_eq_false hq];cases hre:r.isEmpty with
     | false=>rfl
     | true=>exact absurd (hdd.mpr (hr.mp hre)) hq
   ·have hn:¬ (cs.filter zr).length=cs.length:=λz=>hall ((Jc zr cs).mp z);rw [decide_eq_false hn,if_neg Bool.false_ne_true];have:cs.all zr=false:=by simpa using hall
    rw [this];rfl
 | _=>rfl
theorem K7 {i j:Nat} {f f' :En->R T} {ρ:En}:gi i j (z9 f (z9 f' zh)) ρ=(f ρ).s λx=>(f' ρ).s λy=> .nx ((ρ.set i (.vl x)).set j (.vl y)):=by
 unfold gi z9 zh;cases f ρ with
 | ok a=>cases f' ρ <;> rfl
 | ex c=>rfl
 | bad=>rfl
theorem wY {f:En->R T} {l h:En->R (Option Int)} {ρ:En}:slE f l h ρ=(f ρ).bind λt=>(l ρ).bind λlo=>(h ρ).bind λhi=>slT t lo hi:=rfl
theorem qc {i:Int} {ρ:En}:zB (cE (.int i)) ρ= .ok (some i):=rfl
theorem v7 {ρ:En}:noO ρ= .ok none:=rfl
theorem qd (t:T):jF "str" t= .ok (.bl (match t with | .str _=>true | _=>false)):=by cases t <;> rfl
theorem btw {n m:Nat} {M:Int} (hM:M=(m:Int)):(if decide ((1:Int)<=(n:Int))=true then R.ok (decide ((n:Int)<=M)) else R.ok false)=R.ok (decide (1<=n) && decide (n<=m)):=by
 subst hM
 by_cases h:1<=n
 ·rw [decide_eq_true h,decide_eq_true (show (1:Int)<=(n:Int) by omega),if_pos rfl,Bool.true_and]
  by_cases h4:n<=m
  ·rw [decide_eq_true h4,decide_eq_true (show (n:Int)<=m by omega)]
  ·rw [decide_eq_false h4,decide_eq_false (show ¬ (n:Int)<=m by omega)]
 ·rw [decide_eq_false h,decide_eq_false (show ¬ (1:Int)<=(n:Int) by omega)]; rfl
set_option maxHeartbeats 1000000 in
theorem v8 {n:Nat} {d:Nat} {k:T->Bool} (H0:∀ t,sOk t->S_a n 0 [t, .int d]= .ok (.bl (k t))) (t:T) (ht:sOk t):
  S_a (n+1) 0 [t, .int ((d+1:Nat):Int)]= .ok (.bl (WA k t)):=by
 have e:S_a (n+1) 0 [t, .int ((d+1:Nat):Int)]=zn (b_a f_p f_v (S_a n 0) [.vl t, .vl (.int ((d+1:Nat):Int)), .un, .un, .un, .un]):=rfl;have hL:decide (((d+1:Nat):Int) < 1)=false:=decide_eq_false (by omega)
 have hL1:((d+1:Nat):Int) - 1=(d:Int):=by omega
 rw [e,b_a];simp only [zG,ZH,U7,jP,je,zX,w0,w1,v0,zS,bOk,ZB,JK,ZC,zm];cases t with
 | tup xs=>
  match xs,ht with
  | [],_=>rfl
  | [h],_=>
   have:WA k (.tup [h])=false:=by
    unfold WA;simp [JT,uw,V3,ux]
   rw [this];rfl
  | h :: a :: r,ht=>
   have hs:=j9 ht;have hm:∀ u∈a :: r,sOk u:=λu hu=>j1 hs (List.mem_cons_of_mem _ hu);have z0:decide (((h :: a :: r).length:Int) < 2)=false:=decide_eq_false (by simp only [List.length_cons]; omega)
   simp only [Bool.not_true,Bool.false_eq_true,if_false,jr,ltI,z0,bOk,at0,qd,ZC,hL];cases h with
   | str s=>
    simp only [Bool.not_true,Bool.false_eq_true,if_false,Zg,bOk,hL,K7,zm,v0,zS,at0,wY,qc,v7,cut1,nxS];have hset:(([Sl.vl (T.tup (T.str s :: a :: r)),Sl.vl (.int ((d+1:Nat):Int)), .un, .un, .un, .un]:En).set 2 (.vl (.str s))).set 3 (.vl (.tup (a :: r)))=[Sl.vl (T.tup (T.str s :: a :: r)),Sl.vl (.int ((d+1:Nat):Int)), .vl (.str s), .vl (.tup (a :: r)), .un, .un]:=rfl;simp only [hset,w2,zS,bOk,eqS,neS,Zg];have l2:(((a :: r).length:Int) == 2)=decide ((a :: r).length=2):=wI (a :: r) 2;have l1:(((a :: r).length:Int) == 1)=decide ((a :: r).length=1):=wI (a :: r) 1;have l3:(((a :: r).length:Int) == 3)=decide ((a :: r).length=3):=wI (a :: r) 3;show _=R.ok (T.bl (if isS "whole" (.str s)=true then JT (a :: r) else if isS "pick" (.str s)=true then uw (a :: r) else if isS "row" (.str s)=true then V3 k (a :: r) else if isS "many" (.str s)=true then ux k (a :: r) else false))
    cases hw:isS "whole" (.str s) with
    | true=>
     simp only [if_true,zW,ZX,JJ,jq,Js,jy,ZB,w3,v3,bOk,jr,zS,eqI,l2,ZF,Z2,zm,V4]
     match r,hm with
     | [],_=>rfl
     | _ :: _ :: _,_=>simp [JT,Zg,zn]
     | [b],_=>
      simp only [at0,at1,bOk,jg,ZF];rw [uz];rfl
    | false=>
     simp only [Bool.false_eq_true,if_false,w2,w3,v3,bOk,Zg,jr,neI,l1];cases hp:isS "pick" (.str s) with
     | true=>
      simp only [if_true]
      match r,hm with
      | _ :: _,_=>simp [uw,Zg,zn,zS]; rfl
      | [],hm=>
       simp only [List.length_cons,List.length_nil,decide_true,Bool.not_true,Bool.false_eq_true,if_false,at0,bOk];cases a with
       | tup cs=>
        have hc:sOk (.tup cs):=hm _ (by simp)
        have P:=WC hc (a:= .vl (.tup [.str s, .tup cs])) (b:= .vl (.int ((d+1:Nat):Int))) (d:= .vl (.str s)) (e:= .un) (f:= .vl (.lst (cs.filter uV)));simp only [JK,bOk,ZC,Bool.not_true,Bool.false_eq_true,if_false,qb,ZB,zm,v3,zS,at0,jr,Wy,btw (m:=4) (M:=4) rfl] at P ⊢;cases h14:(decide (1<=cs.length) && decide (cs.length<=4)) with
        | false=>
         rw [h14] at P;exact P
        | true=>
         rw [h14] at P;have h4:cs.length<=4:=by
          rw [Bool.and_eq_true,decide_eq_true_eq,decide_eq_true_eq] at h14;exact h14.2
         simp only [Bool.not_true,Bool.false_eq_true,if_false,Zg] at P ⊢;have s4:∀ (x0 x1 x2:Sl),zH 4 (Ze (jl (ze ixT (vE 3) (cE (T.int 0)))) (zz 0) (wz (ZP (ap1 (jF "tuple") (vB 0))) (zC eqC (ap1 zY (vB 0)) (cE (T.int 2)))) (vE 0) 1 []) [x0,x1,x2, .vl (.tup [.tup cs]), .un, .un]= .nx [x0,x1,x2, .vl (.tup [.tup cs]), .vl (.lst (cs.filter uV)), .un]:=by
          intro x0 x1 x2;simp only [ZL,Z7,jf,zm,v3,zS,bOk,at0];show ((zR (zz 0) _ _ 1 [] _ cs).bind λvs=>R.ok (T.lst vs)).s _=_;rw [GB h4];rfl
         have s5:∀ (x0 x1 x2:Sl),zH 5 (Ze (jl (vE 4)) (zz 0) (wz (ZP (zd 1 f_v (z9 (ze ixT (vE 0) (cE (T.int 0))) zh))) (ZP (zd 3 f_p (z9 (ze ixT (vE 0) (cE (T.int 1))) (z9 (cE (T.int 1)) (z9 (cE (T.int 20)) zh)))))) (ze ixT (vE 0) (cE (T.int 0))) 1 []) [x0,x1,x2, .vl (.tup [.tup cs]), .vl (.lst (cs.filter uV)), .un]= .nx [x0,x1,x2, .vl (.tup [.tup cs]), .vl (.lst (cs.filter uV)), .vl (.lst ((cs.filter zr).map Ua))]:=by
          intro x0 x1 x2;simp only [ZL,Z7,jf,v4,bOk];show ((zR (zz 0) _ _ 1 [] _ (cs.filter uV)).bind λvs=>R.ok (T.lst vs)).s _=_;rw [GC (λc hc' =>j1 (j9 hc) hc') h4];rfl
         simp only [s4,s5];revert P;simp only [zW];generalize Jf _ _ _=z;intro P;cases z with
         | ok t=>exact P
         | ex c=>exact P
         | bad=>exact P
       | _=>rfl
     | false=>
      simp only [Bool.false_eq_true,if_false,w2,w3,v3,bOk,Zg,jr,neI,l1];cases hr:isS "row" (.str s) with
      | true=>
       simp only [if_true]
       match r,hm with
       | _ :: _,_=>simp [V3,Zg,zn,zS]; rfl
       | [],hm=>
        simp only [List.length_cons,List.length_nil,decide_true,Bool.not_true,Bool.false_eq_true,if_false,at0,bOk];cases a with
        | tup cs=>
         have hc:sOk (.tup cs):=hm _ (by simp)
         simp only [JK,bOk,ZC,Bool.not_true,Bool.false_eq_true,if_false,qb,ZB,zm,v3,zS,at0,jr,Wy,btw (m:=3) (M:=3) rfl];show _=R.ok (T.bl (decide (1<=cs.length) && decide (cs.length<=3) && cs.all k));cases h14:(decide (1<=cs.length) && decide (cs.length<=3)) with
         | false=>rfl
         | true=>
          have h4:cs.length<=3:=by
           rw [Bool.and_eq_true,decide_eq_true_eq,decide_eq_true_eq] at h14;exact h14.2
          simp only [Bool.not_true,Bool.false_eq_true,if_false,Zg,zW,ZX,JJ,jq,jy,Z7,jf,zm,v3,zS,bOk,at0,Bool.true_and];have ia:JR (.tup cs)= .ok cs:=rfl;simp only [ia,bOk,xS H0 (λu hu=>j1 (j9 hc) hu) h4 (x:= .vl (.tup [.str s, .tup cs])) (y:= .un) (z:= .un) hL1];have el:∀ ρ,jb zh ρ= .ok (.lst []):=λ_=>rfl;simp only [el,bOk,qa,jQ,Zg,zn]
        | _=>rfl
      | false=>
       simp only [Bool.false_eq_true,if_false,w2,w3,v3,bOk,Zg,jr,neI,l3];cases hy:isS "many" (.str s) with
       | true=>
        simp only [Bool.not_true,Bool.false_eq_true,if_false,bOk]
        match r,hm with
        | [],_=>rfl
        | [_],_=>rfl
        | _ :: _ :: _ :: _,_=>simp [ux,Zg,zn,zS]; rfl
        | [b,c],hm=>
         simp only [Z2,ZA,zm,v3,zS,bOk,at0,at1,at2,jg,ZC];have S:=uz 0 3 b c;show _=R.ok (T.bl (jO 0 3 b c && k a));cases hb:inR 0 3 b with
         | false=>
          rw [hb] at S;injection S with S;injection S with S;rw [← S];rfl
         | true=>
          rw [hb,if_pos rfl] at S;simp only [S,bOk,ZC];cases jO 0 3 b c with
          | false=>rfl
          | true=>
           have hk:=H0 a (hm a (by simp))
           simp only [zW,ZX,JJ,jq,v1,v3,Jt,bOk,at0,hL1,hk,Bool.not_true,Bool.false_eq_true,if_false,Zg,zn,List.length_cons,List.length_nil,decide_true,Bool.true_and,ZA,zm,zS]
       | false=>rfl
   | _=>rfl
 | _=>rfl
theorem qe {n:Nat} (t:T):S_a (n+1) 0 [t, .int 0]= .ok (.bl false):=by
 have e:S_a (n+1) 0 [t, .int 0]=zn (b_a f_p f_v (S_a n 0) [.vl t, .vl (.int 0), .un, .un, .un, .un]):=rfl;rw [e,b_a];simp only [zG,ZH,U7,jP,je,zX,w0,w1,v0,zS,bOk,ZB,JK,ZC,zm];cases t with
 | tup xs=>
  match xs with
  | []=>rfl
  | [h]=>rfl
  | h :: a :: r=>
   have z0:decide (((h :: a :: r).length:Int) < 2)=false:=decide_eq_false (by simp only [List.length_cons]; omega)
   have hL:decide ((0:Int) < 1)=true:=rfl;simp only [Bool.not_true,Bool.false_eq_true,if_false,jr,ltI,z0,bOk,at0,qd,ZC,hL];cases h <;> rfl
 | _=>rfl
theorem wK:∀ (d n:Nat),d+1<=n->∀ t,sOk t->S_a n 0 [t, .int d]= .ok (.bl (isK d t))
 | 0,n+1,_,t,_=>qe t
 | d+1,n+1,h,t,ht=>v8 (λt ht=>wK d n (by omega) t ht) t ht
theorem wZ (t:T) (ht:sOk t):f_a 12 [t, .int 3]= .ok (.bl (isK 3 t)):=wK 3 12 (by omega) t ht
theorem gtI (i j:Int):gtC (.int i) (.int j)= .ok (decide (i > j)):=rfl
theorem Zd (i j:Int):zu (.int i) (.int j)= .ok (.int (i+j)):=rfl
theorem K8 (p:Int) (h0:0<=p) (h1:p < 26):ixT (.str "abcdefghijklmnopqrstuvwxyz") (.int p)= .ok (.str ⟨#[97+p.toNat]⟩):=by
 have h:p=0\/p=1\/p=2\/p=3\/p=4\/p=5\/p=6\/p=7\/p=8\/p=9\/p=10\/p=11\/p=12\/p=13\/p=14\/p=15\/p=16\/p=17\/p=18\/p=19\/p=20\/p=21\/p=22\/p=23\/p=24\/p=25:=by omega
 rcases h with rfl|rfl|rfl|rfl|rfl|rfl|rfl|rfl|rfl|rfl|rfl|rfl|rfl|rfl|rfl|rfl|rfl|rfl|rfl|rfl|rfl|rfl|rfl|rfl|rfl|rfl <;> rfl
abbrev gz:En->R T:=ze ixT (vE 3) (zd 3 f_2 (z9 (vE 1) (z9 (ze zu (ze zu (vE 2) (cE (.int 2))) (vE 0)) (z9 (cE (.int 26)) (zh)))))
theorem K9 (ns:List Int) (k:Int) (h0:0<=k) (j:Nat):∃ c:Nat,(97<=c/\c<=122)/\gz [.vl (.int (j:Int)), .vl (scr ns), .vl (.int k), .vl (.str "abcdefghijklmnopqrstuvwxyz")]= .ok (.str ⟨#[c]⟩):=by
 obtain ⟨p,e,p0,p1⟩:=Z6 ns (k+2+j) 26 (by omega) (by omega)
 refine ⟨97+p.toNat,⟨by omega,by omega⟩, ?_⟩
 simp only [gz,zm,v3,bOk,Z2,v1,v2,v0,zS,Zd,e];exact K8 p p0 p1
theorem yG (ns:List Int) (k:Int) (h0:0<=k):∃ w:Str,Xz [scr ns, .int k]= .ok (.str w)/\Z5 (.str w)=true:=by
 have e:Xz [scr ns, .int k]=zn (gq f_2 [.vl (scr ns), .vl (.int k), .un]):=rfl;obtain ⟨p,e0,p0,p1⟩:=Z6 ns k 6 h0 (by omega)
 have hset:∀ t,([Sl.vl (scr ns),Sl.vl (.int k), .un]:En).set 2 (.vl t)=[Sl.vl (scr ns),Sl.vl (.int k), .vl t]:=λ_=>rfl;rw [e,gq];simp only [zG,ZH,ZL,zS,Zg,hset,zX,Z2,v0,v1,bOk,e0,gtI];cases hp:decide (p > 0) with
 | true=>
  obtain ⟨q,e1,q0,q1⟩:=Z6 ns (k+1) 4 (by omega) (by omega)
  simp only [if_true,zW,ZX,jq,zm,Z2,v0,v1,zS,bOk,Zd,e1];have hq:q=0\/q=1\/q=2\/q=3:=by omega
  rcases hq with rfl | rfl | rfl | rfl
  ·exact ⟨"a",rfl,by decide⟩
  ·exact ⟨"b",rfl,by decide⟩
  ·exact ⟨"ab",rfl,by decide⟩
  ·exact ⟨"cab",rfl,by decide⟩
 | false=>
  obtain ⟨q,e1,q0,q1⟩:=Z6 ns (k+1) 3 (by omega) (by omega)
  simp only [Bool.false_eq_true,if_false,nxS,zW,ZW,ZX,jq,ZB,Z7];obtain ⟨g,hg⟩:=Classical.skolem.mp (K9 ns k h0);have ei:Zu (ze zu (cE (.int 1)) (zd 3 f_2 (z9 (vE 0) (z9 (ze zu (vE 1) (cE (.int 1))) (z9 (cE (.int 3)) (zh)))))) [Sl.vl (scr ns),Sl.vl (.int k), .vl (.str "abcdefghijklmnopqrstuvwxyz")]= .ok (rng 0 (1+q).toNat):=by
   unfold Zu;simp only [zm,Z2,v0,v1,zS,bOk,Zd,e1];rw [if_pos ⟨by omega,by omega⟩]
  have ec:∀ n:Nat,n<=3->zR (zz 0) Zi gz 1 [0,1,2] [Sl.vl (scr ns),Sl.vl (.int k), .vl (.str "abcdefghijklmnopqrstuvwxyz")] (rng 0 n)= .ok ((rng 0 n).map λt=>match t with | .int j=> .str ⟨#[g j.toNat]⟩ | t=>t):=λn hn=>
   Zs (rng 0 n) (by unfold rng; rw [List.length_map,List.length_range]; exact Nat.le_trans hn (by decide)) λt ht=>by
    unfold rng at ht;obtain ⟨j,_,rfl⟩:=List.mem_map.mp ht;show gz [.vl (.int (0+(j:Int))), .vl (scr ns), .vl (.int k), .vl (.str "abcdefghijklmnopqrstuvwxyz")]= .ok (.str ⟨#[g (0+(j:Int)).toNat]⟩);rw [Int.zero_add,Int.toNat_natCast];exact (hg j).2
  rw [ei,bOk,ec _ (by omega),bOk,bOk]
  have hw:∀ j,zV (g j)=true:=λj=>by
   obtain ⟨a,b⟩:=(hg j).1;unfold zV;rw [decide_eq_true a,decide_eq_true b]; rfl
  have hq:q=0\/q=1\/q=2:=by omega
  rcases hq with rfl | rfl | rfl
  ·refine ⟨⟨#[g 0]⟩,rfl, ?_⟩;show (zV (g 0) && true)=true;rw [hw 0]; rfl
  ·refine ⟨⟨#[g 0,g 1]⟩,rfl, ?_⟩;show (zV (g 0) && (zV (g 1) && true))=true;rw [hw 0,hw 1]; rfl
  ·refine ⟨⟨#[g 0,g 1,g 2]⟩,rfl, ?_⟩;show (zV (g 0) && (zV (g 1) && (zV (g 2) && true)))=true;rw [hw 0,hw 1,hw 2]; rfl
theorem GF (j:Int):Zn (.int 5) (.int j)= .ok (.int (5*j)):=by
 show (if WS 5 j then R.ok (T.int (5*j)) else .bad)=_
 rw [if_pos (.inl ⟨by decide,by decide⟩)]
theorem qf {f g:En->R T} {ρ:En} {x y:T} (hf:f ρ= .ok x) (hg:g ρ= .ok y):ZK (z9 f (z9 g zh)) ρ= .ok (.tup [x,y]):=by
 unfold ZK z9 zh;rw [hf,hg]; rfl
theorem tup3 {f g h:En->R T} {ρ:En} {x y z:T} (hf:f ρ= .ok x) (hg:g ρ= .ok y) (hh:h ρ= .ok z):ZK (z9 f (z9 g (z9 h zh))) ρ= .ok (.tup [x,y,z]):=by
 unfold ZK z9 zh;rw [hf,hg,hh]; rfl
theorem tup4 {f g h i:En->R T} {ρ:En} {x y z w:T} (hf:f ρ= .ok x) (hg:g ρ= .ok y) (hh:h ρ= .ok z) (hi:i ρ= .ok w):ZK (z9 f (z9 g (z9 h (z9 i zh)))) ρ= .ok (.tup [x,y,z,w]):=by
 unfold ZK z9 zh;rw [hf,hg,hh,hi]; rfl
def Dst (ws:List Str):Prop:=∀ (k:Nat) (w:Str),ws[k]? =some w->w ∉ ws.take k
theorem Dst.add {ws:List Str} (h:Dst ws) {w:Str} (hw:w ∉ ws):Dst (ws++[w]):=λk x hx=>by
 by_cases hk:k < ws.length
 ·rw [List.getElem?_append_left hk] at hx;rw [List.take_append_of_le_length (by omega)]
  exact h k x hx
 ·rw [List.getElem?_append_right (by omega)] at hx
  have hk' :k=ws.length:=by
   rcases Nat.lt_or_ge (k - ws.length) 1 with z | z
   ·omega
   ·rw [List.getElem?_eq_none (by simpa using z)] at hx; cases hx
  subst hk';rw [Nat.sub_self] at hx;cases hx;rw [List.take_left']
  ·exact hw
  ·rfl
abbrev uA:En->RS:=zv (zH 5 (zd 2 Xz (z9 (vE 0) (z9 (ze zu (ze zu (vE 1) (cE (.int 5))) (ze Zn (cE (.int 5)) (vE 4))) (zh)))))
  (ifS (zC yU (vB 5) (vB 3)) (Qg 3 (vE 5)) (nxS))
theorem wL (ns:List Int) (k:Int) (h0:0<=k):∀ (js:List Nat) (ws:List Str) (x4 x5:Sl),js.length+ws.length<=4->Dst ws->(∀ w∈ws,Z5 (.str w)=true)->
  ∃ ws' y4 y5,ZI (zz 4) uA (js.map λ(j:Nat)=>T.int (0+(j:Int))) [.vl (scr ns), .vl (.int k), .un, .ow (ws.map T.str),x4,x5]= .nx [.vl (scr ns), .vl (.int k), .un, .ow (ws'.map T.str),y4,y5]/\ws'.length<=4/\Dst ws' /\(∀ w∈ws',Z5 (.str w)=true)/\(0 < js.length+ws.length->0 < ws'.length)
 | [],ws,x4,x5,hl,hd,hw=>⟨ws,x4,x5,rfl,by simpa using hl,hd,hw,λh=>by simpa using h⟩
 | j :: js,ws,x4,x5,hl,hd,hw=>by
  obtain ⟨w,ew,hw'⟩:=yG ns (k+5+5*(0+(j:Int))) (by omega)
  have hl' :js.length+ws.length+1<=4:=by simpa [List.length_cons,Nat.add_right_comm] using hl
  have e:ZI (zz 4) uA ((j :: js).map λ(j:Nat)=>T.int (0+(j:Int))) [.vl (scr ns), .vl (.int k), .un, .ow (ws.map T.str),x4,x5]=match uA [.vl (scr ns), .vl (.int k), .un, .ow (ws.map T.str), .vl (.int (0+(j:Int))),x5] with
   | .nx ρ2=>ZI (zz 4) uA (js.map λ(j:Nat)=>T.int (0+(j:Int))) ρ2
   | .ct ρ2=>ZI (zz 4) uA (js.map λ(j:Nat)=>T.int (0+(j:Int))) ρ2
   | .bk ρ2=> .nx ρ2
   | r=>r:=rfl
  have eb:uA [.vl (scr ns), .vl (.int k), .un, .ow (ws.map T.str), .vl (.int (0+(j:Int))),x5]= .nx [.vl (scr ns), .vl (.int k), .un, .ow ((if w∈ws then ws else ws++[w]).map T.str), .vl (.int (0+(j:Int))), .vl (.str w)]:=by
   have w3o:∀ (a b c:Sl) (ts:List T) (ρ:En),vB 3 (a :: b :: c :: .ow ts :: ρ)= .ok (.lst ts):=λ_ _ _ _ _=>rfl;have hset:∀ t,([.vl (scr ns), .vl (.int k), .un, .ow (ws.map T.str), .vl (.int (0+(j:Int))),x5]:En).set 5 (.vl t)=[.vl (scr ns), .vl (.int k), .un, .ow (ws.map T.str), .vl (.int (0+(j:Int))), .vl t]:=λ_=>rfl;have en:yU (.str w) (.lst (ws.map T.str))= .ok (!decide (w∈ws)):=by
    show ((match WT (λy=>eqF 30 y (.str w)) (ws.map T.str) with | some b=>R.ok b | none=> .bad)).bind (λb=>R.ok (!b))=_
    rw [wc]; rfl
   simp only [uA,zG,ZL,ZA,v0,v1,v4,zm,zS,bOk,Zd,GF,ew,Zg,hset,ZH,zX,w5,w3o,en]
   by_cases hm:w∈ws
   ·rw [decide_eq_true hm,if_pos hm]; rfl
   ·rw [decide_eq_false hm,if_neg hm];have hb:(ws.map T.str).length < bnd:=by rw [List.length_map]; exact Nat.lt_of_le_of_lt (show ws.length<=4 by omega) (by decide)
    show (if (ws.map T.str).length < bnd then RS.nx _ else .bad)=_
    rw [if_pos hb,List.map_append];rfl
  rw [e,eb]
  by_cases hm:w∈ws
  ·rw [if_pos hm];obtain ⟨ws',y4,y5,r1,r2,r3,r4,r5⟩:=wL ns k h0 js ws (.vl (.int (0+(j:Int)))) (.vl (.str w)) (by omega) hd hw
   exact ⟨ws',y4,y5,r1,r2,r3,r4,λ_=>r5 (by have:=List.length_pos_of_mem hm; omega)⟩
  ·rw [if_neg hm];obtain ⟨ws',y4,y5,r1,r2,r3,r4,r5⟩:=wL ns k h0 js (ws++[w]) (.vl (.int (0+(j:Int)))) (.vl (.str w)) (by simp only [List.length_append,List.length_cons,List.length_nil]; omega) (hd.add hm) (λx hx=>by
    rcases List.mem_append.mp hx with z | z
    ·exact hw x z
    ·rw [List.mem_singleton.mp z]; exact hw')
   exact ⟨ws',y4,y5,r1,r2,r3,r4,λ_=>r5 (by simp only [List.length_append,List.length_cons,List.length_nil]; omega)⟩
abbrev Ka:En->R T:=ZK (z9 (vE 1) (z9 (ze zu (cE (.int 1)) (zd 3 f_2 (z9 (vE 2) (z9 (ze zu (ze zu (vE 3) (cE (.int 30))) (vE 0)) (z9 (cE (.int 20)) (zh)))))) (zh)))
theorem UT (ns:List Int) (k:Int) (h0:0<=k):∀ (ws:List Str) (i:Nat) (x0 x1:Sl),(∀ w∈ws,Z5 (.str w)=true)->∃ cs:List T,zL (Z1 0 1) Zi Ka (((ws.map T.str).zipIdx i).map λp=>T.tup [.int (p.2:Nat),p.1]) [x0,x1, .vl (scr ns), .vl (.int k)]= .ok cs/\cs.all zr=true/\cs.map zZ=ws
 | [],i,x0,x1,_=>⟨[],rfl,rfl,rfl⟩
 | w :: ws,i,x0,x1,hw=>by
  obtain ⟨p,e,p0,p1⟩:=Z6 ns (k+30+i) 20 (by omega) (by omega)
  obtain ⟨cs,r1,r2,r3⟩:=UT ns k h0 ws (i+1) (.vl (.int (i:Int))) (.vl (.str w)) λx hx=>hw x (List.mem_cons_of_mem _ hx);have ec:Ka [.vl (.int (i:Int)), .vl (.str w), .vl (scr ns), .vl (.int k)]= .ok (.tup [.str w, .int (1+p)]):=by
   have ea:zd 3 f_2 (z9 (vE 2) (z9 (ze zu (ze zu (vE 3) (cE (.int 30))) (vE 0)) (z9 (cE (.int 20)) (zh)))) [.vl (.int (i:Int)), .vl (.str w), .vl (scr ns), .vl (.int k)]= .ok (.int p):=by
    simp only [Z2,v2,v3,v0,zm,zS,bOk,Zd,e]
   have eb:ze zu (cE (.int 1)) (zd 3 f_2 (z9 (vE 2) (z9 (ze zu (ze zu (vE 3) (cE (.int 30))) (vE 0)) (z9 (cE (.int 20)) (zh))))) [.vl (.int (i:Int)), .vl (.str w), .vl (scr ns), .vl (.int k)]= .ok (.int (1+p)):=by
    rw [zm,ea]; rfl
   exact qf v1 eb
  refine ⟨.tup [.str w, .int (1+p)] :: cs, ?_, ?_, ?_⟩
  ·show ((Ka [.vl (.int (i:Int)), .vl (.str w), .vl (scr ns), .vl (.int k)]).bind λv=>(zL (Z1 0 1) Zi Ka (((ws.map T.str).zipIdx (i+1)).map λp=>T.tup [.int (p.2:Nat),p.1]) [.vl (.int (i:Int)), .vl (.str w), .vl (scr ns), .vl (.int k)]).bind λvs=>R.ok (v :: vs))=_;rw [ec,r1]; rfl
  ·rw [List.all_cons,r2,Bool.and_true];show (Z5 (.str w) && decide (1<=1+p) && decide (1+p<=20))=true;rw [hw w List.mem_cons_self,decide_eq_true (by omega),decide_eq_true (by omega)]; rfl
  ·rw [List.map_cons,r3]; rfl
theorem V5 (i j:Int):Yy (.int i) (.int j)= .ok (.int (if j < i then j else i)):=rfl
theorem xU (ns:List Int) (k:Int) (h0:0<=k):∃ t,f_u [scr ns, .int k]= .ok t/\∀ d,isK (d+1) t=true:=by
 have e:f_u [scr ns, .int k]=zn (b_u f_2 Xz [.vl (scr ns), .vl (.int k), .un, .un, .un, .un]):=rfl;obtain ⟨p,e0,p0,p1⟩:=Z6 ns k 3 h0 (by omega)
 rw [e,b_u,zG];simp only [ZH,zX,Z2,v0,v1,zS,bOk,e0,gtI,Zg];cases hp:decide (p > 0) with
 | true=>
  obtain ⟨q,e1,q0,q1⟩:=Z6 ns (k+1) 7 (by omega) (by omega)
  obtain ⟨q3,e3,_,_⟩:=Z6 ns (k+3) 8 (by omega) (by omega)
  obtain ⟨q4,e4,a4,b4⟩:=Z6 ns (k+4) 3 (by omega) (by omega)
  obtain ⟨q2,e2,a2,b2⟩:=Z6 ns (k+2) 4 (by omega) (by omega)
  have hset:∀ t x,([.vl (scr ns), .vl (.int k),x, .un, .un, .un]:En).set 2 (.vl t)=[.vl (scr ns), .vl (.int k), .vl t, .un, .un, .un]:=λ_ _=>rfl;have fin:∀ low:Int, -20<=low->low<=20->∃ t,zn (zI (ZK (z9 (cE (.str "whole")) (z9 (vE 2) (z9 (ze Yy (cE (.int 20)) (ze zu (vE 2) (zd 3 f_2 (z9 (vE 0) (z9 (ze zu (vE 1) (cE (.int 2))) (z9 (cE (.int 4)) (zh))))))) (zh))))) [.vl (scr ns), .vl (.int k), .vl (.int low), .un, .un, .un])= .ok t/\∀ d,isK (d+1) t=true:=by
   intro low hl1 hl2;refine ⟨.tup [.str "whole", .int low, .int (if low+q2 < 20 then low+q2 else 20)], ?_,λd=> ?_⟩
   ·rw [zW,ZW];refine tup3 rfl rfl ?_;simp only [ZX,JJ,jq,zm,v2,v0,v1,Z2,zS,bOk,Zd,e2,V5]
   ·show (decide (-20<=low) && decide (low<=_) && decide (_<=(20:Int)))=true;rw [decide_eq_true hl1,decide_eq_true (by split <;> omega),decide_eq_true (by split <;> omega)]; rfl
  simp only [if_true,zG,ZL,ZH,zm,Z2,v0,v1,zS,bOk,Zd,e1,Jt,Zg,hset,zX,e3,eqI];cases hq:(q3 == 0) with
  | true=>
   have h3:q4=0\/q4=1\/q4=2:=by omega
   rcases h3 with rfl | rfl | rfl
   ·obtain ⟨t,r,s⟩:=fin (-20) (by omega) (by omega)
    refine ⟨t, ?_,s⟩;rw [← r];simp only [if_true,e4,bOk];have hv:∀ ρ,(jb (z9 (yv (cE (.int 20))) (z9 (cE (.int 17)) (z9 (cE (.int 20)) (zh)))) ρ)= .ok (.lst [.int (-20), .int 17, .int 20]):=λ_=>rfl;simp only [hv,bOk];have hx:ixT (.lst [.int (-20), .int 17, .int 20]) (.int 0)= .ok (.int (-20)):=rfl;simp only [hx,Zg,hset,zW];generalize ZK _ _=z;cases z <;> rfl
   ·obtain ⟨t,r,s⟩:=fin (17) (by omega) (by omega)
    refine ⟨t, ?_,s⟩;rw [← r];simp only [if_true,e4,bOk];have hv:∀ ρ,(jb (z9 (yv (cE (.int 20))) (z9 (cE (.int 17)) (z9 (cE (.int 20)) (zh)))) ρ)= .ok (.lst [.int (-20), .int 17, .int 20]):=λ_=>rfl;simp only [hv,bOk];have hx:ixT (.lst [.int (-20), .int 17, .int 20]) (.int 1)= .ok (.int (17)):=rfl;simp only [hx,Zg,hset,zW];generalize ZK _ _=z;cases z <;> rfl
   ·obtain ⟨t,r,s⟩:=fin (20) (by omega) (by omega)
    refine ⟨t, ?_,s⟩;rw [← r];simp only [if_true,e4,bOk];have hv:∀ ρ,(jb (z9 (yv (cE (.int 20))) (z9 (cE (.int 17)) (z9 (cE (.int 20)) (zh)))) ρ)= .ok (.lst [.int (-20), .int 17, .int 20]):=λ_=>rfl;simp only [hv,bOk];have hx:ixT (.lst [.int (-20), .int 17, .int 20]) (.int 2)= .ok (.int (20)):=rfl;simp only [hx,Zg,hset,zW];generalize ZK _ _=z;cases z <;> rfl
  | false=>
   obtain ⟨t,r,s⟩:=fin (q - 3) (by omega) (by omega)
   refine ⟨t, ?_,s⟩;rw [← r];simp only [Bool.false_eq_true,if_false,nxS,zW];generalize ZK _ _=z;cases z <;> rfl
 | false=>
  obtain ⟨q,e1,q0,q1⟩:=Z6 ns (k+1) 4 (by omega) (by omega)
  simp only [Bool.false_eq_true,if_false,nxS,zG];have ei:Zu (ze zu (cE (.int 1)) (zd 3 f_2 (z9 (vE 0) (z9 (ze zu (vE 1) (cE (.int 1))) (z9 (cE (.int 4)) (zh)))))) [.vl (scr ns), .vl (.int k), .un, .ow [], .un, .un]= .ok (rng 0 (1+q).toNat):=by
   unfold Zu;simp only [zm,Z2,v0,v1,zS,bOk,Zd,e1];rw [if_pos ⟨by omega,by omega⟩]
  have el:UD 3 zh [.vl (scr ns), .vl (.int k), .un, .un, .un, .un]= .nx [.vl (scr ns), .vl (.int k), .un, .ow [], .un, .un]:=rfl;rw [el];have hn:(List.range (1+q).toNat).length=(1+q).toNat:=List.length_range;obtain ⟨ws,y4,y5,r1,r2,r3,r4,r5⟩:=wL ns k h0 (List.range (1+q).toNat) [] .un .un (by rw [hn,List.length_nil]; omega) (λk w h=>by cases h) (λw h=>by cases h)
  have hpos:0 < ws.length:=r5 (by rw [hn,List.length_nil]; omega)
  have ef:jx (Zu (ze zu (cE (.int 1)) (zd 3 f_2 (z9 (vE 0) (z9 (ze zu (vE 1) (cE (.int 1))) (z9 (cE (.int 4)) (zh))))))) (zz 4) uA [.vl (scr ns), .vl (.int k), .un, .ow [], .un, .un]= .nx [.vl (scr ns), .vl (.int k), .un, .ow (ws.map T.str),y4,y5]:=by
   unfold jx;rw [ei,Zg];exact r1
  obtain ⟨cs,s1,s2,s3⟩:=UT ns k h0 ws 0 .un .un r4;have hcl:cs.length=ws.length:=by rw [← s3,List.length_map]
  refine ⟨.tup [.str "pick", .tup cs], ?_,λd=> ?_⟩
  ·dsimp only;rw [ef];dsimp only;rw [zW,ZW];refine qf rfl ?_;rw [ZB,Z7];have ee:xg (vE 3) (frz [.vl (scr ns), .vl (.int k), .un, .ow (ws.map T.str),y4,y5])= .ok (jo (ws.map T.str)):=rfl;rw [ee,bOk];unfold zR;rw [if_pos (by unfold jo; rw [List.length_map,List.length_zipIdx,List.length_map]; exact Nat.le_trans r2 (by decide))]
   have ec:zL (Z1 0 1) Zi Ka (jo (ws.map T.str)) (wU 2 [0,1] (frz [.vl (scr ns), .vl (.int k), .un, .ow (ws.map T.str),y4,y5]))= .ok cs:=s1;rw [ec];rfl
  ·show (decide (1<=cs.length) && decide (cs.length<=4) && cs.all zr && decide ((dd [] (cs.map zZ)).length=cs.length))=true;have hd:(dd [] (cs.map zZ)).length=cs.length:=by
    rw [s3,hcl];have:=(wJ ws []).mpr (λk w h=>by simpa using r3 k w h)
    simpa using this
   rw [decide_eq_true (by omega),decide_eq_true (by omega),s2,decide_eq_true hd]; rfl
theorem qg (c:Int) (j:Int) (hc:WS c j):Zn (.int c) (.int j)= .ok (.int (c*j)):=by
 show (if WS c j then R.ok (T.int (c*j)) else .bad)=_
 rw [if_pos hc]
theorem Kb (j:Int):Zn (.int 3) (.int j)= .ok (.int (3*j)):=qg _ _ (.inl ⟨by decide,by decide⟩)
theorem Kc (j:Int):Zn (.int 50) (.int j)= .ok (.int (50*j)):=qg _ _ (.inl ⟨by decide,by decide⟩)
abbrev gA (c:List T->R T):En->R T:=zd 3 c (z9 (vE 1) (z9 (ze zu (ze zu (ze Zn (cE (.int 3)) (vE 2)) (cE (.int 40))) (ze Zn (cE (.int 50)) (vE 0))) (z9 (ze wv (vE 3) (cE (.int 1))) (zh))))
theorem Ub (ns:List Int):∀ (d n:Nat),d<=n->1<=d->∀ k:Int,0<=k->∃ t,S_f n 0 [scr ns, .int k, .int (d:Int)]= .ok t/\isK d t=true
 | d+1,n+1,hn,_,k,h0=>by
  have e:S_f (n+1) 0 [scr ns, .int k, .int ((d+1:Nat):Int)]=zn (b_f f_2 f_u (S_f n 0) [.vl (scr ns), .vl (.int k), .vl (.int ((d+1:Nat):Int)), .un, .un, .un]):=rfl;obtain ⟨p,e0,p0,p1⟩:=Z6 ns k 5 h0 (by omega)
  obtain ⟨l,el,hl⟩:=xU ns (k+1) (by omega)
  have hset:([.vl (scr ns), .vl (.int k), .vl (.int ((d+1:Nat):Int)), .un, .un, .un]:En).set 3 (.vl (.int p))=[.vl (scr ns), .vl (.int k), .vl (.int ((d+1:Nat):Int)), .vl (.int p), .un, .un]:=rfl;rw [e,b_f];simp only [zG,ZL,ZH,U7,zX,Z2,ZA,v0,v1,v2,zS,bOk,e0,Zg,hset,w2,w3,eqI,ltI,Zd,zW,ZX,JJ,jq,zm,el];have hd1:((((d+1:Nat):Int) == 1))=decide (d=0):=by
   by_cases h:d=0
   ·subst h; rfl
   ·rw [decide_eq_false h,beq_eq_false_iff_ne]; omega
  rw [hd1]
  by_cases hleaf:d=0\/p < 2
  ·refine ⟨l, ?_,hl d⟩;rcases hleaf with h | h
   ·rw [decide_eq_true h]; rfl
   ·rw [decide_eq_true h];cases decide (d=0) <;> rfl
  ·have hd0:¬ d=0:=λz=>hleaf (.inl z);have hp2:¬ p < 2:=λz=>hleaf (.inr z);have hsub:((d+1:Nat):Int) - 1=(d:Int):=by omega
   rw [decide_eq_false hd0,decide_eq_false hp2];simp only [Bool.false_eq_true,if_false,Zg,nxS,w3,v0,v1,v2,bOk,ltI,zS];cases hp:decide (p < 4) with
   | true=>
    obtain ⟨q,e1,q0,q1⟩:=Z6 ns (k+1) 3 (by omega) (by omega)
    have hj:∀ j:Nat,∃ t,gA (S_f n 0) [.vl (.int (0+(j:Int))), .vl (scr ns), .vl (.int k), .vl (.int ((d+1:Nat):Int))]= .ok t/\isK d t=true:=λj=>by
     obtain ⟨t,r,s⟩:=Ub ns d n (by omega) (by omega) (3*k+40+50*(0+(j:Int))) (by omega)
     refine ⟨t, ?_,s⟩;simp only [gA,Z2,v0,v1,v2,v3,zm,zS,bOk,Kb,Kc,Zd,Jt,hsub,r]
    obtain ⟨g,hg⟩:=Classical.skolem.mp hj;have ei:Zu (ze zu (cE (.int 1)) (zd 3 f_2 (z9 (vE 0) (z9 (ze zu (vE 1) (cE (.int 1))) (z9 (cE (.int 3)) (zh)))))) [.vl (scr ns), .vl (.int k), .vl (.int ((d+1:Nat):Int)), .vl (.int p), .un, .un]= .ok (rng 0 (1+q).toNat):=by
     unfold Zu;simp only [zm,Z2,v0,v1,zS,bOk,Zd,e1];rw [if_pos ⟨by omega,by omega⟩]
    have ec:zR (zz 0) Zi (gA (S_f n 0)) 1 [0,1,2] [.vl (scr ns), .vl (.int k), .vl (.int ((d+1:Nat):Int)), .vl (.int p), .un, .un] (rng 0 (1+q).toNat)= .ok ((rng 0 (1+q).toNat).map λt=>match t with | .int j=>g j.toNat | t=>t):=
     Zs (rng 0 (1+q).toNat) (by unfold rng; rw [List.length_map,List.length_range]; exact Nat.le_trans (show (1+q).toNat<=3 by omega) (by decide)) λt ht=>by
      unfold rng at ht;obtain ⟨j,_,rfl⟩:=List.mem_map.mp ht;show gA (S_f n 0) [.vl (.int (0+(j:Int))), .vl (scr ns), .vl (.int k), .vl (.int ((d+1:Nat):Int))]= .ok (g (0+(j:Int)).toNat);rw [(hg j).1,Int.zero_add,Int.toNat_natCast]
    generalize hcs:((rng 0 (1+q).toNat).map λt=>match t with | .int j=>g j.toNat | t=>t)=cs at ec
    have hlen:cs.length=(1+q).toNat:=by rw [← hcs]; unfold rng; rw [List.length_map,List.length_map,List.length_range]
    have hall:∀ t∈cs,isK d t=true:=λt ht=>by
     rw [← hcs] at ht;obtain ⟨u,hu,rfl⟩:=List.mem_map.mp ht;unfold rng at hu;obtain ⟨j,_,rfl⟩:=List.mem_map.mp hu;exact (hg _).2
    refine ⟨.tup [.str "row", .tup cs], ?_, ?_⟩
    ·have hs4:([.vl (scr ns), .vl (.int k), .vl (.int ((d+1:Nat):Int)), .vl (.int p), .un, .un]:En).set 4 (.vl (.lst cs))=[.vl (scr ns), .vl (.int k), .vl (.int ((d+1:Nat):Int)), .vl (.int p), .vl (.lst cs), .un]:=rfl;simp only [if_true,Z7,ei,bOk,ec,Zg,hs4,ZX,JJ,jq];rfl
    ·show (decide (1<=cs.length) && decide (cs.length<=3) && cs.all (isK d))=true;rw [decide_eq_true (by omega),decide_eq_true (by omega),List.all_eq_true.mpr hall]; rfl
   | false=>
    obtain ⟨q,e1,q0,q1⟩:=Z6 ns (k+1) 3 (by omega) (by omega)
    obtain ⟨q2,e2,_,_⟩:=Z6 ns (k+2) 3 (by omega) (by omega)
    obtain ⟨t,r,s⟩:=Ub ns d n (by omega) (by omega) (3*k+40) (by omega)
    refine ⟨.tup [.str "many",t, .int q, .int (if q+q2 < 3 then q+q2 else 3)], ?_, ?_⟩
    ·have hs5:([.vl (scr ns), .vl (.int k), .vl (.int ((d+1:Nat):Int)), .vl (.int p), .un, .un]:En).set 5 (.vl (.int q))=[.vl (scr ns), .vl (.int k), .vl (.int ((d+1:Nat):Int)), .vl (.int p), .un, .vl (.int q)]:=rfl;simp only [Bool.false_eq_true,if_false,v0,v1,zm,zS,bOk,Zd,e1,Zg,hs5,ZX,JJ,jq,ZW];refine tup4 rfl ?_ rfl ?_
     ·simp only [Z2,v0,v1,v2,zm,zS,bOk,Kb,Zd,Jt,hsub,r]
     ·have v5:∀ {t:T} {a b c d e:Sl} {ρ:En},vE 5 (a :: b :: c :: d :: e :: .vl t :: ρ)= .ok t:=rfl;simp only [Z2,v0,v1,v5,zm,zS,bOk,Zd,e2,V5]
    ·show (jO 0 3 (.int q) (.int _) && isK d t)=true;rw [s,Bool.and_true];show (decide (0<=q) && decide (q<=_) && decide (_<=(3:Int)))=true;rw [decide_eq_true (by omega),decide_eq_true (by split <;> omega),decide_eq_true (by split <;> omega)]; rfl
mutual
def dep:T->Nat
 | .tup xs=>J6 xs+1
 | .lst xs=>J6 xs+1
 | _=>1
def J6:List T->Nat
 | []=>0
 | t :: ts=>max (dep t) (J6 ts)
end
mutual
def siz:T->Nat
 | .tup xs=>jG xs+1
 | .lst xs=>jG xs+1
 | _=>1
def jG:List T->Nat
 | []=>0
 | t :: ts=>siz t+jG ts
end
theorem JU {w:Str} {t:T} (h:isS w t=true):t= .str w:=by
 cases t with
 | str s=>
  have:(s == w)=true:=h;rw [eq_of_beq this]
 | _=>cases h
theorem JL {lo hi:Int} {t:T} (h:inR lo hi t=true):∃ i,t= .int i:=by
 cases t with
 | int i=>exact ⟨i,rfl⟩
 | _=>cases h
theorem wd {lo hi:Int} {a b:T} (h:jO lo hi a b=true):∃ i j,a= .int i/\b= .int j:=by
 cases a with
 | int i=>
  cases b with
  | int j=>exact ⟨i,j,rfl,rfl⟩
  | _=>cases h
 | _=>cases h
structure Fit (D S:Nat) (t:T):Prop where
 so:sOk t
 dp:dep t<=D
 sz:siz t<=S
theorem yH {c:T} (h:zr c=true):Fit 2 3 c:=by
 unfold zr at h;split at h
 ·rename_i w i;have hw:Z5 w=true:=by
   rw [Bool.and_eq_true,Bool.and_eq_true] at h;exact h.1.1
  cases w with
  | str x=>
   have hx:(decide (1<=x.length) && decide (x.length<=3) && x.cps.toList.all zV)=true:=hw;rw [Bool.and_eq_true,Bool.and_eq_true,decide_eq_true_eq,decide_eq_true_eq] at hx;refine ⟨?_, ?_, ?_⟩
   ·simp only [sOk,jY,and_true];exact Nat.le_trans hx.1.2 (by decide)
   ·simp [dep,J6]
   ·simp [siz,jG]
  | _=>cases hw
 ·cases h
theorem gB {D S:Nat}:∀ {cs:List T},(∀ c∈cs,Fit D S c)->jY cs/\J6 cs<=D/\jG cs<=S*cs.length
 | [],_=>⟨by simp only [jY],Nat.zero_le _,Nat.zero_le _⟩
 | c :: cs,h=>by
  obtain ⟨a,b,d⟩:=gB (cs:=cs) λx hx=>h x (List.mem_cons_of_mem _ hx);obtain ⟨x,y,z⟩:=h c List.mem_cons_self;refine ⟨?_, ?_, ?_⟩
  ·simp only [jY]; exact ⟨x,a⟩
  ·simp only [J6]; omega
  ·simp only [jG,List.length_cons,Nat.mul_add,Nat.mul_one]; omega
theorem Ju:∀ (d:Nat) (t:T),isK d t=true->Fit (2*d+2) (15*4 ^ d) t
 | 0,_,h=>by cases h
 | d+1,t,h=>by
  have hpow:4 ^ (d+1)=4*4 ^ d:=by rw [Nat.pow_succ,Nat.mul_comm]
  have hone:1<=4 ^ d:=Nat.pow_pos (by omega)
  have h:WA (isK d) t=true:=h;unfold WA at h;split at h
  ·rename_i hd r;split at h
   ·rename_i e;rw [JU e];unfold JT at h;split at h
    ·obtain ⟨i,j,rfl,rfl⟩:=wd h;refine ⟨by simp only [sOk,jY,and_true]; decide,by simp only [dep,J6]; omega,by simp only [siz,jG]; omega⟩
    ·cases h
   ·split at h
    ·rename_i e;rw [JU e];unfold uw at h;split at h
     ·rename_i c;unfold uv at h;split at h
      ·rename_i cs;rw [Bool.and_eq_true,Bool.and_eq_true,Bool.and_eq_true,decide_eq_true_eq,decide_eq_true_eq] at h;obtain ⟨a,b,z⟩:=gB (D:=2) (S:=3) (cs:=cs) λc hc=>yH (List.all_eq_true.mp h.1.2 c hc);refine ⟨by simp only [sOk,jY,and_true]; exact ⟨by decide,a⟩,by simp only [dep,J6]; omega,by simp only [siz,jG]; omega⟩
      ·cases h
     ·cases h
    ·split at h
     ·rename_i e;rw [JU e];unfold V3 at h;split at h
      ·rename_i c;unfold wH at h;split at h
       ·rename_i cs;rw [Bool.and_eq_true,Bool.and_eq_true,decide_eq_true_eq,decide_eq_true_eq] at h;obtain ⟨a,b,z⟩:=gB (D:=2*d+2) (S:=15*4 ^ d) (cs:=cs) λc hc=>Ju d c (List.all_eq_true.mp h.2 c hc);have:15*4 ^ d*cs.length<=15*4 ^ d*3:=Nat.mul_le_mul_left _ h.1.2;refine ⟨by simp only [sOk,jY,and_true]; exact ⟨by decide,a⟩,by simp only [dep,J6]; omega,by simp only [siz,jG]; omega⟩
       ·cases h
      ·cases h
     ·split at h
      ·rename_i e;rw [JU e];unfold ux at h;split at h
       ·rename_i c a b;rw [Bool.and_eq_true] at h;obtain ⟨i,j,rfl,rfl⟩:=wd h.1;obtain ⟨x,y,z⟩:=Ju d c h.2;refine ⟨by simp only [sOk,jY,and_true]; exact ⟨by decide,x⟩,by simp only [dep,J6]; omega,by simp only [siz,jG]; omega⟩
       ·cases h
      ·cases h
  ·cases h
def WW:T->List Nat->Option T
 | t,[]=>some t
 | .tup xs,i :: r=>match xs[i]? with | some x=>WW x r | none=>none
 | _,_ :: _=>none
abbrev pth (p:List Nat):T:= .tup (p.map λ(i:Nat)=>T.int (i:Int))
abbrev V6 (c:List T->R T):En->RS:=QC 1 (Ze (jl (zd 1 c (z9 (ze ixT (vE 0) (vE 2)) (zh)))) (zz 0) (Zi) (ze zu (ZK (z9 (vE 1) (zh))) (vE 0)) 1 [2])
def yI (xs:List T) (j:Nat):Nat:=match xs[j]? with | some x=>siz x | none=>0
theorem Uc:∀ xs:List T,((List.range xs.length).map (yI xs)).sum=jG xs
 | []=>rfl
 | x :: xs=>by
  rw [List.length_cons,List.range_succ_eq_map,List.map_cons,List.sum_cons,List.map_map];show siz x+((List.range xs.length).map (yI xs)).sum=siz x+jG xs;rw [Uc xs]
theorem WD:∀ {xs:List T} {x:T},x∈xs->siz x<=jG xs
 | y :: ys,x,h=>by
  simp only [jG];rcases List.mem_cons.mp h with rfl | h
  ·omega
  ·have:=WD h; omega
theorem Ud (t:T):1<=siz t:=by cases t <;> simp [siz]
theorem UU:∀ {t u:T} (p:List Nat),WW t p=some u->p.length < siz t
 | t,_,[],_=>Ud t
 | .tup xs,u,i :: r,h=>by
  have h:(match xs[i]? with | some x=>WW x r | none=>none)=some u:=h
  cases hx:xs[i]? with
  | none=>rw [hx] at h; cases h
  | some x=>
   rw [hx] at h;have a:=UU r h;have b:=WD (List.mem_of_getElem? hx);simp only [siz,List.length_cons];omega
 | .non,_,_ :: _,h=>by cases h
 | .bl _,_,_ :: _,h=>by cases h
 | .int _,_,_ :: _,h=>by cases h
 | .str _,_,_ :: _,h=>by cases h
 | .lst _,_,_ :: _,h=>by cases h
 | .fz _,_,_ :: _,h=>by cases h
theorem GG {f:En->R T} {ρ:En} {x:T} (hf:f ρ= .ok x):ZK (z9 f zh) ρ= .ok (.tup [x]):=by
 unfold ZK z9 zh;rw [hf]; rfl
theorem UV {c:List T->R T} {xs:List T} (H:∀ x∈xs,∃ ps:List (List Nat),c [x]= .ok (.lst (ps.map pth))/\ps.length<=siz x/\∀ p∈ps,∃ u,WW x p=some u):
  ∀ (js:List Nat),(∀ j∈js,j < xs.length)->∀ (acc:List (List Nat)) (x2:Sl),(∀ p∈acc,∃ u,WW (.tup xs) p=some u)->acc.length+(js.map (yI xs)).sum<=bnd->
  ∃ (acc' :List (List Nat)) (y2:Sl),ZI (zz 2) (V6 c) (js.map λ(j:Nat)=>T.int (0+(j:Int))) [.vl (.tup xs), .ow (acc.map pth),x2]= .nx [.vl (.tup xs), .ow (acc'.map pth),y2]/\acc.length<=acc'.length/\acc'.length<=acc.length+(js.map (yI xs)).sum/\∀ p∈acc',∃ u,WW (.tup xs) p=some u
 | [],_,acc,x2,ha,hl=>⟨acc,x2,rfl,Nat.le_refl _,by simp,ha⟩
 | j :: js,hj,acc,x2,ha,hl=>by
  have hjl:j < xs.length:=hj j List.mem_cons_self;have hx:xs[j]? =some xs[j]:=List.getElem?_eq_getElem hjl;obtain ⟨ps,e1,e2,e3⟩:=H xs[j] (List.getElem_mem hjl);have hsz:yI xs j=siz xs[j]:=by unfold yI; rw [hx]
  rw [List.map_cons,List.sum_cons,hsz] at hl;have e:ZI (zz 2) (V6 c) ((j :: js).map λ(j:Nat)=>T.int (0+(j:Int))) [.vl (.tup xs), .ow (acc.map pth),x2]=match V6 c [.vl (.tup xs), .ow (acc.map pth), .vl (.int (0+(j:Int)))] with
   | .nx ρ2=>ZI (zz 2) (V6 c) (js.map λ(j:Nat)=>T.int (0+(j:Int))) ρ2
   | .ct ρ2=>ZI (zz 2) (V6 c) (js.map λ(j:Nat)=>T.int (0+(j:Int))) ρ2
   | .bk ρ2=> .nx ρ2
   | r=>r:=rfl
  have eb:V6 c [.vl (.tup xs), .ow (acc.map pth), .vl (.int (0+(j:Int)))]= .nx [.vl (.tup xs), .ow ((acc++ps.map (j :: ·)).map pth), .vl (.int (0+(j:Int)))]:=by
   have ex:ixT (.tup xs) (.int (0+(j:Int)))= .ok xs[j]:=by
    rw [Int.zero_add];show atT xs j=_;unfold atT;rw [j3 hx]
   have ei:jl (zd 1 c (z9 (ze ixT (vE 0) (vE 2)) (zh))) [.vl (.tup xs), .ow (acc.map pth), .vl (.int (0+(j:Int)))]= .ok (ps.map pth):=by
    simp only [jf,Zv,zm,v0,v2,bOk,ex,e1];rfl
   have ec:zR (zz 0) Zi (ze zu (ZK (z9 (vE 1) (zh))) (vE 0)) 1 [2] [.vl (.tup xs), .ow (acc.map pth), .vl (.int (0+(j:Int)))] (ps.map pth)= .ok ((ps.map pth).map λt=>match t with | .tup q=> .tup (.int (0+(j:Int)) :: q) | t=>t):=
    Zs _ (by rw [List.length_map]; omega) λt ht=>by
     obtain ⟨p,hp,rfl⟩:=List.mem_map.mp ht;show ze zu (ZK (z9 (vE 1) (zh))) (vE 0) [.vl (pth p), .vl (.int (0+(j:Int)))]=_;rw [zm,GG v1,bOk,v0,bOk];obtain ⟨u,hu⟩:=e3 p hp;have hpl:=UU p hu;show (if [T.int (0+(j:Int))].length+(p.map λ(i:Nat)=>T.int (i:Int)).length<=bnd then R.ok (T.tup _) else .bad)=_
     rw [if_pos (by rw [List.length_map,List.length_singleton]; omega)]
     rfl
   show ((Ze _ _ _ _ _ _ _).s λt=>match t with | .lst us=>if (acc.map pth).length+us.length<=bnd then RS.nx _ else .bad | _=> .bad)=_
   rw [Z7,ei,bOk,ec,bOk,Zg];show (if _ then _ else _)=_
   rw [if_pos (by simp only [List.length_map]; omega)]
   rw [List.map_append,List.map_map,List.map_map];show RS.nx [.vl (.tup xs), .ow (acc.map pth++_), .vl (.int (0+(j:Int)))]=_;have hm:List.map ((λt=>match t with | .tup q=>T.tup (.int (0+(j:Int)) :: q) | t=>t) ∘ pth) ps=List.map (pth ∘ λx=>j :: x) ps:=by
    refine List.map_congr_left λp _=> ?_;show T.tup (T.int (0+(j:Int)) :: _)=T.tup (T.int (j:Int) :: _);rw [Int.zero_add]
   rw [← hm]
  rw [e,eb];obtain ⟨acc',y2,r1,r2,r3,r4⟩:=UV H js (λi hi=>hj i (List.mem_cons_of_mem _ hi)) (acc++ps.map (j :: ·)) (.vl (.int (0+(j:Int)))) (λp hp=>by
   rcases List.mem_append.mp hp with z | z
   ·exact ha p z
   ·obtain ⟨q,hq,rfl⟩:=List.mem_map.mp z;obtain ⟨u,hu⟩:=e3 q hq;refine ⟨u, ?_⟩;show (match xs[j]? with | some x=>WW x q | none=>none)=some u
    rw [hx]; exact hu) (by rw [List.length_append,List.length_map]; omega)
  rw [List.length_append,List.length_map] at r2 r3;refine ⟨acc',y2,r1,by omega, ?_,r4⟩
  rw [List.map_cons,List.sum_cons,hsz];omega
theorem qh:∀ {xs:List T} {x:T},x∈xs->dep x<=J6 xs
 | y :: ys,x,h=>by
  simp only [J6];rcases List.mem_cons.mp h with rfl | h
  ·omega
  ·have:=qh h; omega
def lim:Nat:=900000
theorem Ue:lim+lim+lim+10<=bnd:=by decide
theorem xV:(lim:Int)+10 < 1000000:=by decide
abbrev yJ (c:List T->R T) (t:T):Prop:=∃ ps:List (List Nat),c [t]= .ok (.lst (ps.map pth))/\0 < ps.length/\ps.length<=siz t/\∀ p∈ps,∃ u,WW t p=some u
theorem we:∀ xs:List T,xs.length<=jG xs
 | []=>Nat.zero_le _
 | x :: xs=>by
  have:=Ud x;have:=we xs;simp only [jG,List.length_cons];omega
theorem Ke {xs:List T} {a b:Sl} (h:(xs.length:Int) < 1000000):Zu (ap1 zY (vB 0)) [.vl (.tup xs),a,b]= .ok (rng 0 xs.length):=by
 unfold Zu;rw [ZB,w0,bOk,jr,bOk];dsimp only;rw [if_pos ⟨by omega,by omega⟩,Int.toNat_natCast]
theorem qi (t:T) (ps:List (List Nat)) (y:Sl):zn (zI (vE 1) [.vl t, .ow (ps.map pth),y])= .ok (.lst (ps.map pth)):=rfl
theorem Kf (t:T):UD 1 (z9 (ZK zh) zh) [.vl t, .un, .un]= .nx [.vl t, .ow [.tup []], .un]:=rfl
theorem V7 {c:List T->R T} (t:T):zn (b_l c (en0 3 [t]))=zn (match (tru (.bl (isT "tuple" t))).s λk=>if k=true then jx (Zu (ap1 zY (vB 0))) (zz 2) (V6 c) [.vl t, .ow [.tup []], .un] else nxS [.vl t, .ow [.tup []], .un] with | .nx ρ=>zI (vE 1) ρ | r=>r):=by
 have e:zn (b_l c (en0 3 [t]))=zn (b_l c [.vl t, .un, .un]):=rfl;rw [e,b_l,zG,Kf];dsimp only;rw [zG,ZH,je,ZB,w0,bOk];rfl
theorem yK {c:List T->R T} (xs:List T) (hs:jG xs+1<=lim) (H:∀ x∈xs,yJ c x):yJ (λts=>zn (b_l c (en0 3 ts))) (.tup xs):=by
 have hb:=Ue;have hm:=xV;have H:∀ x∈xs,∃ ps:List (List Nat),c [x]= .ok (.lst (ps.map pth))/\ps.length<=siz x/\∀ p∈ps,∃ u,WW x p=some u:=λx hx=>by
  obtain ⟨ps,r1,r2,r3,r4⟩:=H x hx;exact ⟨ps,r1,r3,r4⟩
 have hlen:=we xs;obtain ⟨acc,y,r1,r2,r3,r4⟩:=UV H (List.range xs.length) (λj hj=>List.mem_range.mp hj) [[]] .un (λp hp=>by
  rw [List.mem_singleton.mp hp]; exact ⟨_,rfl⟩) (by rw [Uc,List.length_singleton]; omega)
 rw [Uc,List.length_singleton] at r3;rw [List.length_singleton] at r2;refine ⟨acc, ?_,by omega,by simp only [siz]; omega,r4⟩
 have ef:jx (Zu (ap1 zY (vB 0))) (zz 2) (V6 c) [.vl (.tup xs), .ow [.tup []], .un]= .nx [.vl (.tup xs), .ow (acc.map pth),y]:=by
  unfold jx;rw [Ke (by omega),Zg]
  exact r1
 dsimp only;rw [V7,show isT "tuple" (.tup xs)=true from rfl,ZC,Zg,if_pos rfl,ef];exact qi _ acc y
theorem yL {c:List T->R T} (t:T) (ht:∀ xs,t ≠ .tup xs):yJ (λts=>zn (b_l c (en0 3 ts))) t:=by
 have e:isT "tuple" t=false:=by
  cases t with
  | tup xs=>exact (ht xs rfl).elim
  | _=>rfl
 refine ⟨[[]], ?_,by decide,Ud t,λp hp=> ?_⟩
 ·dsimp only;rw [V7,e,ZC,Zg,if_neg Bool.false_ne_true];exact qi t [[]] .un
 rw [List.mem_singleton.mp hp]; exact ⟨t,by cases t <;> rfl⟩
theorem Uf {c:List T->R T} (t:T) (hs:siz t<=lim) (H:∀ xs,t= .tup xs->∀ x∈xs,yJ c x):yJ (λts=>zn (b_l c (en0 3 ts))) t:=by
 by_cases ht:∃ xs,t= .tup xs
 ·obtain ⟨xs,rfl⟩:=ht;simp only [siz] at hs;exact yK xs hs (H xs rfl)
 ·exact yL t λxs z=>ht ⟨xs,z⟩
theorem qj (n:Nat):∀ (t:T),dep t<=n->siz t<=lim->yJ (S_l n 0) t:=by
 induction n with
 | zero=>intro t h; cases t <;> simp [dep] at h
 | succ n ih=>
  intro t h hs;exact Uf t hs λxs e x hx=>by
   subst e;simp only [dep,siz] at h hs;have a:=qh hx;have b:=WD hx;exact ih x (by omega) (by omega)
theorem V8 {xs:List T} {j:Nat} {x:T} (h:xs[j]? =some x):ixT (.tup xs) (.int (j:Int))= .ok x:=by
 show atT xs j=_;unfold atT;rw [j3 h]
theorem wM {xs:List T} {i:Nat} {r:List Nat} {u:T} (h:WW (.tup xs) (i :: r)=some u):∃ x,xs[i]? =some x/\WW x r=some u:=by
 have h:(match xs[i]? with | some x=>WW x r | none=>none)=some u:=h
 cases hx:xs[i]? with
 | none=>rw [hx] at h; cases h
 | some x=>rw [hx] at h; exact ⟨x,rfl,h⟩
theorem WF {t:T} {i:Nat} {r:List Nat} {u:T} (h:WW t (i :: r)=some u):∃ xs,t= .tup xs:=by
 cases t with
 | tup xs=>exact ⟨xs,rfl⟩
 | _=>cases h
theorem UW (t:T):WW t []=some t:=by cases t <;> rfl
theorem qk {X:Sl}:∀ (p:List Nat) (t u:T) (y:Sl),WW t p=some u->∃ y',ZI (zz 2) (zH 0 (ze ixT (vE 0) (vE 2))) (p.map λ(i:Nat)=>T.int (i:Int)) [.vl t,X,y]= .nx [.vl u,X,y']
 | [],t,u,y,h=>by
  rw [UW] at h;cases h;exact ⟨y,rfl⟩
 | i :: r,t,u,y,h=>by
  obtain ⟨xs,rfl⟩:=WF h;obtain ⟨x,hx,hr⟩:=wM h;obtain ⟨y',e⟩:=qk (X:=X) r x u (.vl (.int (i:Int))) hr;refine ⟨y', ?_⟩;have e1:ZI (zz 2) (zH 0 (ze ixT (vE 0) (vE 2))) ((i :: r).map λ(i:Nat)=>T.int (i:Int)) [.vl (.tup xs),X,y]=match zH 0 (ze ixT (vE 0) (vE 2)) [.vl (.tup xs),X, .vl (.int (i:Int))] with
   | .nx ρ2=>ZI (zz 2) (zH 0 (ze ixT (vE 0) (vE 2))) (r.map λ(j:Nat)=>T.int (j:Int)) ρ2
   | .ct ρ2=>ZI (zz 2) (zH 0 (ze ixT (vE 0) (vE 2))) (r.map λ(j:Nat)=>T.int (j:Int)) ρ2
   | .bk ρ2=> .nx ρ2
   | r=>r:=rfl
  rw [e1,ZL,zm,v0,bOk,v2,bOk,V8 hx,Zg];exact e
theorem GH {t u:T} {p:List Nat} (h:WW t p=some u):XA [t,pth p]= .ok u:=by
 obtain ⟨y',e⟩:=qk (X:= .vl (pth p)) p t u .un h;have e0:XA [t,pth p]=zn (gr [.vl t, .vl (pth p), .un]):=rfl;have ef:jx (jl (vE 1)) (zz 2) (zH 0 (ze ixT (vE 0) (vE 2))) [.vl t, .vl (pth p), .un]= .nx [.vl u, .vl (pth p),y']:=e;rw [e0,gr,zG,ef];rfl
def uB:T->List Nat->T->T
 | _,[],v=>v
 | .tup xs,i :: r,v=>match xs[i]? with
  | some x=> .tup (xs.take i++[uB x r v]++xs.drop (i+1))
  | none=> .tup xs
 | t,_ :: _,_=>t
theorem ql {xs:List T} {i:Nat} (h:i < xs.length):slT (.tup xs) none (some (i:Int))= .ok (.tup (xs.take i)):=by
 show R.ok (T.tup (cut xs none (some (i:Int))))=_;have:cut xs none (some (i:Int))=xs.take i:=by
  unfold cut;rw [HT.sIx_none,HT.sIx_nat,Nat.min_eq_left (by omega),Nat.sub_zero,List.drop_zero]
 rw [this]
theorem qm {xs:List T} {i:Nat} (h:i<=xs.length):slT (.tup xs) (some (i:Int)) none= .ok (.tup (xs.drop i)):=by
 show R.ok (T.tup (cut xs (some (i:Int)) none))=_;have:cut xs (some (i:Int)) none=xs.drop i:=by
  unfold cut;rw [HT.sIx_none,HT.sIx_nat,Nat.min_eq_left h];exact List.take_of_length_le (by rw [List.length_drop]; omega)
 rw [this]
theorem v9 {xs:List T} {i j:Nat} (hi:i<=xs.length) (hj:j<=xs.length):slT (.tup xs) (some (i:Int)) (some (j:Int))= .ok (.tup ((xs.drop i).take (j - i))):=by
 show R.ok (T.tup (cut xs (some (i:Int)) (some (j:Int))))=_;have:cut xs (some (i:Int)) (some (j:Int))=(xs.drop i).take (j - i):=by
  unfold cut;rw [HT.sIx_nat,HT.sIx_nat,Nat.min_eq_left hi,Nat.min_eq_left hj]
 rw [this]
theorem We {xs ys:List T} (h:xs.length+ys.length<=bnd):zu (.tup xs) (.tup ys)= .ok (.tup (xs++ys)):=if_pos h
theorem JV {f:En->R T} {ρ:En} {i:Int} (h:f ρ= .ok (.int i)):zB f ρ= .ok (some i):=by
 unfold zB; rw [h]; rfl
theorem va {c:List T->R T} {xs:List T} {i:Nat} {r:List Nat} {v x w:T} (hx:xs[i]? =some x) (hl:xs.length<=lim) (hc:c [x,pth r,v]= .ok w):
  zn (b_9 c (en0 4 [.tup xs,pth (i :: r),v]))= .ok (.tup (xs.take i++[w]++xs.drop (i+1))):=by
 have hi:i < xs.length:=(List.getElem?_eq_some_iff.mp hx).1;have hb:=Ue;have e:zn (b_9 c (en0 4 [.tup xs,pth (i :: r),v]))=zn (b_9 c [.vl (.tup xs), .vl (pth (i :: r)), .vl v, .un]):=rfl;have e1:zC eqC (vB 1) (ZK zh) [.vl (.tup xs), .vl (pth (i :: r)), .vl v, .un]= .ok false:=rfl;have e2:zH 3 (ze ixT (vE 1) (cE (.int 0))) [.vl (.tup xs), .vl (pth (i :: r)), .vl v, .un]= .nx [.vl (.tup xs), .vl (pth (i :: r)), .vl v, .vl (.int (i:Int))]:=by
  rw [ZL,zm,v1,bOk,zS,bOk,show ixT (pth (i :: r)) (.int 0)= .ok (.int (i:Int)) from at0,Zg]; rfl
 rw [e,b_9,zG,ZH,e1,Zg,if_neg Bool.false_ne_true];unfold nxS;dsimp only;rw [zG,e2];dsimp only;rw [zW,ZX,ZX,ZX,ZX,jq,ZW];have ep:slE (vE 1) (zB (cE (.int 1))) noO [.vl (.tup xs), .vl (pth (i :: r)), .vl v, .vl (.int (i:Int))]= .ok (pth r):=by
  rw [wY,v1,bOk,qc,bOk,v7,bOk];exact cut1
 have ec:zd 3 c (z9 (ze ixT (vE 0) (vE 3)) (z9 (slE (vE 1) (zB (cE (.int 1))) (noO)) (z9 (vE 2) (zh)))) [.vl (.tup xs), .vl (pth (i :: r)), .vl v, .vl (.int (i:Int))]= .ok w:=by
  rw [Z2,zm,v0,bOk,v3,bOk,V8 hx,bOk,ep,bOk,v2,bOk,hc]
 have ea:zu (.int (i:Int)) (.int 1)= .ok (.int ((i+1:Nat):Int)):=by
  rw [Zd,Int.natCast_add]; rfl
 have eb:ze zu (vE 3) (cE (.int 1)) [.vl (.tup xs), .vl (pth (i :: r)), .vl v, .vl (.int (i:Int))]= .ok (.int ((i+1:Nat):Int)):=by
  rw [zm,v3,bOk,zS,bOk,ea]
 rw [zm,zm,wY,v0,bOk,v7,bOk,JV v3,bOk,ql hi,bOk,GG ec,bOk,We (by rw [List.length_take,List.length_singleton]; omega),bOk,wY,v0,bOk,JV eb,bOk,v7,bOk,qm (by omega),bOk]
 exact We (by rw [List.length_append,List.length_take,List.length_singleton,List.length_drop]; omega)
theorem Kg (n:Nat):∀ (p:List Nat) (t u v:T),p.length < n->siz t<=lim->WW t p=some u->S_9 n 0 [t,pth p,v]= .ok (uB t p v):=by
 induction n with
 | zero=>intro p t u v h; omega
 | succ n ih=>
  intro p t u v h hs hg;cases p with
  | nil=>
   have:uB t [] v=v:=by cases t <;> rfl
   rw [this];rfl
  | cons i r=>
   obtain ⟨xs,rfl⟩:=WF hg;obtain ⟨x,hx,hr⟩:=wM hg;simp only [siz] at hs;have hl:=we xs;have hz:=WD (List.mem_of_getElem? hx);rw [List.length_cons] at h;have hc:=ih r x u v (by omega) (by omega) hr
   have:=va (c:=S_9 n 0) (r:=r) hx (by omega) hc
   have e:uB (.tup xs) (i :: r) v= .tup (xs.take i++[uB x r v]++xs.drop (i+1)):=by
    show (match xs[i]? with | some x=>T.tup (xs.take i++[uB x r v]++xs.drop (i+1)) | none=> .tup xs)=_
    rw [hx]
   rw [e];exact this
theorem jZ:∀ (xs ys:List T),jG (xs++ys)=jG xs+jG ys
 | [],ys=>by simp [jG]
 | x :: xs,ys=>by simp only [List.cons_append,jG,jZ xs ys]; omega
theorem J0:∀ (xs ys:List T),J6 (xs++ys)=max (J6 xs) (J6 ys)
 | [],ys=>by simp [J6]
 | x :: xs,ys=>by simp only [List.cons_append,J6,J0 xs ys]; omega
theorem J4:∀ {xs ys:List T},jY (xs++ys)↔jY xs/\jY ys
 | [],ys=>by simp [jY]
 | x :: xs,ys=>by simp only [List.cons_append,jY,J4 (xs:=xs) (ys:=ys),and_assoc]
theorem vb {xs:List T} {i:Nat} {x:T} (h:xs[i]? =some x):xs=xs.take i++([x]++xs.drop (i+1)):=by
 obtain ⟨hi,rfl⟩:=List.getElem?_eq_some_iff.mp h;rw [List.singleton_append,← List.drop_eq_getElem_cons,List.take_append_drop]
theorem wN {xs:List T} {i:Nat} {x:T} (h:xs[i]? =some x):(jY xs->jY (xs.take i)/\sOk x/\jY (xs.drop (i+1)))/\J6 (xs.take i)<=J6 xs/\dep x<=J6 xs/\J6 (xs.drop (i+1))<=J6 xs/\jG (xs.take i)+siz x+jG (xs.drop (i+1))=jG xs:=by
 have e:=vb h;have e1:jY xs↔jY (xs.take i)/\jY [x]/\jY (xs.drop (i+1)):=by
  conv=>lhs; rw [e,J4,J4]
 have e2:J6 xs=max (J6 (xs.take i)) (max (J6 [x]) (J6 (xs.drop (i+1)))):=by
  conv=>lhs; rw [e,J0,J0]
 have e3:jG xs=jG (xs.take i)+(jG [x]+jG (xs.drop (i+1))):=by
  conv=>lhs; rw [e,jZ,jZ]
 simp only [J6,jG,Nat.add_zero,Nat.max_zero] at e2 e3;refine ⟨λq=> ?_,by omega,by omega,by omega,by omega⟩
 have:=e1.mp q;simp only [jY,and_true] at this;exact this
theorem qo:∀ (p:List Nat) (t v:T),sOk t->sOk v->sOk (uB t p v)/\dep (uB t p v)<=dep t+dep v/\siz (uB t p v)<=siz t+siz v
 | [],t,v,ht,hv=>by
  have:uB t [] v=v:=by cases t <;> rfl
  rw [this];exact ⟨hv,by omega,by omega⟩
 | i :: r,t,v,ht,hv=>by
  by_cases hx:∃ xs x,t= .tup xs/\xs[i]? =some x
  ·obtain ⟨xs,x,rfl,hx⟩:=hx;have e:uB (.tup xs) (i :: r) v= .tup (xs.take i++[uB x r v]++xs.drop (i+1)):=by
    show (match xs[i]? with | some x=>T.tup (xs.take i++[uB x r v]++xs.drop (i+1)) | none=> .tup xs)=_
    rw [hx]
   obtain ⟨q1,q2,q3,q4,q5⟩:=wN hx;obtain ⟨s1,s2,s3⟩:=q1 (j9 ht);obtain ⟨i1,i2,i3⟩:=qo r x v s2 hv;rw [e];refine ⟨?_, ?_, ?_⟩
   ·simp only [sOk,J4,jY,and_true];exact ⟨⟨s1,i1⟩,s3⟩
   ·simp only [dep,J0,J6,Nat.max_zero];omega
   ·simp only [siz,jZ,jG,Nat.add_zero];omega
  ·have:uB t (i :: r) v=t:=by
    cases t with
    | tup xs=>
     show (match xs[i]? with | some x=>T.tup (xs.take i++[uB x r v]++xs.drop (i+1)) | none=> .tup xs)=_
     cases hi:xs[i]? with
     | none=>rfl
     | some x=>exact (hx ⟨xs,x,rfl,hi⟩).elim
    | _=>rfl
   rw [this];exact ⟨ht,by omega,by omega⟩
theorem qp:∀ (p:List Nat) (t u:T),WW t p=some u->(sOk t->sOk u)/\dep u+p.length<=dep t/\siz u<=siz t
 | [],t,u,h=>by
  rw [UW] at h;cases h;exact ⟨id,Nat.le_refl _,Nat.le_refl _⟩
 | i :: r,t,u,h=>by
  obtain ⟨xs,rfl⟩:=WF h;obtain ⟨x,hx,hr⟩:=wM h;obtain ⟨q1,q2,q3,q4,q5⟩:=wN hx;obtain ⟨i1,i2,i3⟩:=qp r x u hr;refine ⟨λq=>i1 (q1 (j9 q)).2.1, ?_, ?_⟩
  ·simp only [dep,List.length_cons]; omega
  ·simp only [siz]; omega
theorem qq (t:T):1<=dep t:=by cases t <;> simp [dep]
theorem wO {xs:List T} {j:Nat} {x:T} (h:xs[j]? =some x):ixT (.lst xs) (.int (j:Int))= .ok x:=by
 show atT xs j=_;unfold atT;rw [j3 h]
theorem ixl {xs:List T} {i:Int} (h0:0<=i) (h1:i < (xs.length:Int)):∃ x,ixT (.lst xs) (.int i)= .ok x/\x∈xs:=by
 have hj:i.toNat < xs.length:=by omega
 have e:i=((i.toNat:Nat):Int):=by omega
 have q:=wO (List.getElem?_eq_getElem hj);rw [← e] at q;exact ⟨xs[i.toNat],q,List.getElem_mem hj⟩
def jR (u:T):List T:=[.int 0, .int 1, .int (-21), .int 21, .int 3, .int 4, .bl true, .non, .str "a", .str "abcd", .str "A", .str "", .str "many", .str "row", .tup [], .tup [u], .lst [u], .tup [.str "whole", .int 1, .int 0]]
theorem yM {u:T} {D S:Nat} (h:Fit D S u):∀ v∈jR u,Fit (D+2) (2*S+4) v:=by
 obtain ⟨h1,h2,h3⟩:=h;have hl:∀ n:Nat,n<=10->n<=bnd:=λn h=>Nat.le_trans h (by decide)
 intro v hv;unfold jR at hv;simp only [List.mem_cons,List.not_mem_nil,or_false] at hv;rcases hv with rfl | rfl | rfl | rfl | rfl | rfl | rfl | rfl | rfl | rfl | rfl | rfl | rfl | rfl | rfl | rfl | rfl | rfl
 all_goals first
  | exact ⟨by simp only [sOk,jY,and_true]; first | decide | exact h1,by simp only [dep,J6]; omega,by simp only [siz,jG]; omega⟩
  | exact ⟨by simp only [sOk,jY],by simp only [dep,J6]; omega,by simp only [siz,jG]; omega⟩
  | exact ⟨hl _ (by decide),by simp only [dep,J6]; omega,by simp only [siz,jG]; omega⟩
theorem WG {a b t d p e g h i:T} {j:Sl} {f:En->R T} {v w:T} (hj:Jg j=j) (hf:f [.vl a, .vl b, .vl t, .vl d, .vl p, .vl e, .vl g, .vl h,j]= .ok v) (hw:f_9 40 [t,p,v]= .ok w):
  zn (zI (zd 3 (f_9 40) (z9 (vE 2) (z9 (vE 4) (z9 f zh)))) [.vl a, .vl b, .vl t, .vl d, .vl p, .vl e, .vl g, .vl h,j])= .ok w:=by
 have ez:frz [.vl a, .vl b, .vl t, .vl d, .vl p, .vl e, .vl g, .vl h,j]=[.vl a, .vl b, .vl t, .vl d, .vl p, .vl e, .vl g, .vl h,j]:=by
  show [Sl.vl a, .vl b, .vl t, .vl d, .vl p, .vl e, .vl g, .vl h,Jg j]=_;rw [hj]
 rw [zW,ez,ZW,Z2,v2,bOk,v4,bOk,hf,bOk];exact hw
theorem GI (j:Int):Zn (.int 2) (.int j)= .ok (.int (2*j)):=qg _ _ (.inl ⟨by decide,by decide⟩)
abbrev vc:En->R T:=ze zu (slE (vE 5) (noO) (zB (vE 8))) (slE (vE 5) (zB (ze zu (vE 8) (cE (.int 1)))) (noO))
abbrev vd:En->R T:=ze zu (ze zu (slE (vE 5) (noO) (zB (vE 8))) (slE (vE 5) (zB (vE 8)) (zB (ze zu (vE 8) (cE (.int 1)))))) (slE (vE 5) (zB (vE 8)) (noO))
abbrev en9 (a:T) (k:Int) (t d p e:T) (g:List T) (w:Int) (j:Sl):En:=[.vl a, .vl (.int k), .vl t, .vl d, .vl p, .vl e, .vl (.lst g), .vl (.int w),j]
theorem uC {xs:List T} {i:Nat} {x:T} (h:xs[i]? =some x):xs.drop i=x :: xs.drop (i+1):=by
 obtain ⟨hi,rfl⟩:=List.getElem?_eq_some_iff.mp h;exact List.drop_eq_getElem_cons hi
theorem xW {a t d p:T} {g xs:List T} {k w:Int} {i:Nat} {x:T} (hx:xs[i]? =some x) (hl:xs.length<=lim):
  vc (en9 a k t d p (.tup xs) g w (.vl (.int (i:Int))))= .ok (.tup (xs.take i++xs.drop (i+1)))/\
  vd (en9 a k t d p (.tup xs) g w (.vl (.int (i:Int))))= .ok (.tup (xs.take i++[x]++(x :: xs.drop (i+1)))):=by
 have hi:i < xs.length:=(List.getElem?_eq_some_iff.mp hx).1;have hb:=Ue;have e5:vE 5 (en9 a k t d p (.tup xs) g w (.vl (.int (i:Int))))= .ok (.tup xs):=rfl;have e8:vE 8 (en9 a k t d p (.tup xs) g w (.vl (.int (i:Int))))= .ok (.int (i:Int)):=rfl;have ea:zu (.int (i:Int)) (.int 1)= .ok (.int ((i+1:Nat):Int)):=by
  rw [Zd,Int.natCast_add]; rfl
 have eb:ze zu (vE 8) (cE (.int 1)) (en9 a k t d p (.tup xs) g w (.vl (.int (i:Int))))= .ok (.int ((i+1:Nat):Int)):=by
  rw [zm,e8,bOk,zS,bOk,ea]
 have em:(xs.drop i).take (i+1 - i)=[x]:=by
  rw [uC hx,show i+1 - i=1 from by omega]; rfl
 constructor
 ·unfold vc;rw [zm,wY,e5,bOk,v7,bOk,JV e8,bOk,ql hi,bOk,wY,e5,bOk,JV eb,bOk,v7,bOk,qm (by omega),bOk]
  exact We (by rw [List.length_take,List.length_drop]; omega)
 ·unfold vd;rw [zm,zm,wY,e5,bOk,v7,bOk,JV e8,bOk,ql hi,bOk,wY,e5,bOk,JV e8,bOk,JV eb,bOk,v9 (by omega) (by omega),bOk,em,We (by rw [List.length_take,List.length_singleton]; omega),bOk,wY,e5,bOk,JV e8,bOk,v7,bOk,qm (by omega),bOk,← uC hx]
  exact We (by rw [List.length_append,List.length_take,List.length_singleton,List.length_drop]; omega)
theorem xX {D S:Nat} {xs:List T} {i:Nat} {x:T} (hx:xs[i]? =some x) (h:Fit D S (.tup xs)):Fit (D+2) (2*S+4) (.tup (xs.take i++xs.drop (i+1)))/\Fit (D+2) (2*S+4) (.tup (xs.take i++[x]++(x :: xs.drop (i+1)))):=by
 obtain ⟨h1,h2,h3⟩:=h;obtain ⟨q1,q2,q3,q4,q5⟩:=wN hx;obtain ⟨s1,s2,s3⟩:=q1 (j9 h1);simp only [dep,siz] at h2 h3;refine ⟨⟨?_, ?_, ?_⟩,⟨?_, ?_, ?_⟩⟩
 ·simp only [sOk,J4]; exact ⟨s1,s3⟩
 ·simp only [dep,J0]; omega
 ·simp only [siz,jZ]; omega
 ·simp only [sOk,J4,jY,and_true]; exact ⟨⟨s1,s2⟩,s2,s3⟩
 ·simp only [dep,J0,J6]; omega
 ·simp only [siz,jZ,jG]; omega
abbrev W0 (cp:List T->R T) (cput:List T->R T):En->RS:=
  (zv (ifS (wz (ZP (ap1 (jF "tuple") (vB 5))) (zC neC (vB 5) (ZK (zh)))) (zv (zH 8 (zd 3 cp (z9 (vE 0) (z9 (ze zu (vE 1) (cE (.int 2))) (z9 (ap1 zY (vB 5)) (zh))))))
  (zI (zd 3 cput (z9 (vE 2) (z9 (vE 4) (z9 (ze ixT (jb (z9 vc (z9 vd (zh)))) (ze jJ (vE 7) (cE (.int 2)))) (zh))))))) (nxS))
  (zv (ifS (ZP (ap1 (jF "int") (vB 5))) (zI (zd 3 cput (z9 (vE 2) (z9 (vE 4) (z9 (ze wv (ze zu (vE 5) (cE (.int 1))) (ze Zn (cE (.int 2)) (ze jJ (vE 7) (cE (.int 2))))) (zh)))))) (nxS))
  (zI (zd 3 cput (z9 (vE 2) (z9 (vE 4) (z9 (ZK (z9 (cE (.str "row")) (z9 (ZK (z9 (vE 5) (z9 (vE 5) (zh)))) (zh)))) (zh))))))))
theorem lst2 {f g:En->R T} {ρ:En} {x y:T} (hf:f ρ= .ok x) (hg:g ρ= .ok y):jb (z9 f (z9 g zh)) ρ= .ok (.lst [x,y]):=by
 unfold jb z9 zh;rw [hf,hg]; rfl
theorem ve (ns:List Int) {t d p:T} {g xs:List T} {k w:Int} (h0:0<=k) {D S:Nat} (hl:S<=lim) (hF:Fit D S (.tup xs)) (hne:xs ≠ []) (H:∀ v,Fit (D+2) (2*S+4) v->∃ r,f_9 40 [t,p,v]= .ok r):
  ∃ v r,Fit (D+2) (2*S+4) v/\f_9 40 [t,p,v]= .ok r/\zn (W0 f_2 (f_9 40) (en9 (scr ns) k t d p (.tup xs) g w .un))= .ok r:=by
 have hxl:=we xs;have hz:=hF.sz;simp only [siz] at hz;have hpos:0 < xs.length:=List.length_pos_iff.mpr hne;obtain ⟨q,hq,q0,q1⟩:=Z6 ns (k+2) (xs.length:Int) (by omega) (by omega)
 have hqi:q=((q.toNat:Nat):Int):=by omega
 have hqx:xs[q.toNat]? =some (xs[q.toNat]'(by omega)):=List.getElem?_eq_getElem (by omega)
 generalize xs[q.toNat]'(by omega)=x at hqx
 generalize q.toNat=i at hqi hqx;subst hqi;obtain ⟨c1,c2⟩:=xW (a:=scr ns) (t:=t) (d:=d) (p:=p) (g:=g) (k:=k) (w:=w) hqx (by omega)
 obtain ⟨f1,f2⟩:=xX hqx hF;have ec:wz (ZP (ap1 (jF "tuple") (vB 5))) (zC neC (vB 5) (ZK (zh))) (en9 (scr ns) k t d p (.tup xs) g w .un)= .ok true:=by
  cases xs with
  | nil=>exact (hne rfl).elim
  | cons _ _=>rfl
 have es:zH 8 (zd 3 f_2 (z9 (vE 0) (z9 (ze zu (vE 1) (cE (.int 2))) (z9 (ap1 zY (vB 5)) (zh))))) (en9 (scr ns) k t d p (.tup xs) g w .un)= .nx (en9 (scr ns) k t d p (.tup xs) g w (.vl (.int (i:Int)))):=by
  rw [ZL,Z2,v0,bOk,zm,v1,bOk,zS,bOk,Zd,bOk,ZB,show vB 5 (en9 (scr ns) k t d p (.tup xs) g w .un)= .ok (.tup xs) from rfl,bOk,jr,bOk,hq,Zg];rfl
 have em:ze jJ (vE 7) (cE (.int 2)) (en9 (scr ns) k t d p (.tup xs) g w (.vl (.int (i:Int))))= .ok (.int (w % 2)):=rfl;have hm:w % 2=0\/w % 2=1:=by omega
 have go:∀ v,ze ixT (jb (z9 vc (z9 vd (zh)))) (ze jJ (vE 7) (cE (.int 2))) (en9 (scr ns) k t d p (.tup xs) g w (.vl (.int (i:Int))))= .ok v->Fit (D+2) (2*S+4) v->∃ v r,Fit (D+2) (2*S+4) v/\f_9 40 [t,p,v]= .ok r/\zn (W0 f_2 (f_9 40) (en9 (scr ns) k t d p (.tup xs) g w .un))= .ok r:=λv hv fv=>by
  obtain ⟨r,hr⟩:=H v fv;refine ⟨v,r,fv,hr, ?_⟩;have e1:=WG (i:= .non) (j:= .vl (.int (i:Int))) rfl hv hr;unfold W0;rw [zG,ZH,ec,Zg,if_pos rfl,zG,es];dsimp only;rw [zW] at e1 ⊢;rw [ZW] at e1;rw [e1];rfl
 rcases hm with hm | hm
 ·exact go _ (by rw [zm,lst2 c1 c2,bOk,em,bOk,hm]; rfl) f1
 ·exact go _ (by rw [zm,lst2 c1 c2,bOk,em,bOk,hm]; rfl) f2
abbrev intE:En->R T:=ze wv (ze zu (vE 5) (cE (.int 1))) (ze Zn (cE (.int 2)) (ze jJ (vE 7) (cE (.int 2))))
abbrev rowE:En->R T:=ZK (z9 (cE (.str "row")) (z9 (ZK (z9 (vE 5) (z9 (vE 5) (zh)))) (zh)))
theorem qr {D S:Nat} (i:Int):Fit (D+2) (2*S+4) (.int i):=⟨by simp only [sOk],by simp only [dep]; omega,by simp only [siz]; omega⟩
theorem qt {D S:Nat} {u:T} (h:Fit D S u):Fit (D+2) (2*S+4) (.tup [.str "row", .tup [u,u]]):=by
 obtain ⟨h1,h2,h3⟩:=h;have hd:=qq u;refine ⟨?_, ?_, ?_⟩
 ·simp only [sOk,jY,and_true]; exact ⟨by decide,h1,h1⟩
 ·simp only [dep,J6]; omega
 ·simp only [siz,jG]; omega
theorem vf {cp:List T->R T} {a t d p u:T} {g:List T} {k w:Int} {r:T} (ht:wz (ZP (ap1 (jF "tuple") (vB 5))) (zC neC (vB 5) (ZK (zh))) (en9 a k t d p u g w .un)= .ok false) (hi:isT "int" u=false)
  (hr:f_9 40 [t,p, .tup [.str "row", .tup [u,u]]]= .ok r):zn (W0 cp (f_9 40) (en9 a k t d p u g w .un))= .ok r:=by
 have e1:=WG (f:=rowE) (a:=a) (b:= .int k) (t:=t) (d:=d) (p:=p) (e:=u) (g:= .lst g) (h:= .int w) (i:= .non) (j:= .un) rfl (qf zS (qf rfl rfl)) hr;have ei:ZP (ap1 (jF "int") (vB 5)) (en9 a k t d p u g w .un)= .ok false:=by
  show tru (.bl (isT "int" u))=_;rw [hi]; rfl
 unfold W0;rw [zG,ZH,ht,Zg,if_neg Bool.false_ne_true];unfold nxS;dsimp only;rw [zG,ZH,ei,Zg,if_neg Bool.false_ne_true];exact e1
theorem vg {cp:List T->R T} {a t d p u:T} {g:List T} {k w i:Int} {r:T} (ht:isT "tuple" u=false) (hi:isT "int" u=true) (ha:zu u (.int 1)= .ok (.int i))
  (hr:f_9 40 [t,p, .int (i - 2*(w % 2))]= .ok r):zn (W0 cp (f_9 40) (en9 a k t d p u g w .un))= .ok r:=by
 have e0:intE (en9 a k t d p u g w .un)= .ok (.int (i - 2*(w % 2))):=by
  show ((zu u (.int 1)).bind λx=>(Zn (.int 2) (.int (w % 2))).bind λy=>wv x y)=_;rw [ha,GI];rfl
 have e1:=WG (f:=intE) (a:=a) (b:= .int k) (t:=t) (d:=d) (p:=p) (e:=u) (g:= .lst g) (h:= .int w) (i:= .non) (j:= .un) rfl e0 hr;have et:wz (ZP (ap1 (jF "tuple") (vB 5))) (zC neC (vB 5) (ZK (zh))) (en9 a k t d p u g w .un)= .ok false:=by
  show (tru (.bl (isT "tuple" u))).bind (λx=>if x=true then _ else R.ok false)=_
  rw [ht]; rfl
 have ei:ZP (ap1 (jF "int") (vB 5)) (en9 a k t d p u g w .un)= .ok true:=by
  show tru (.bl (isT "int" u))=_;rw [hi]; rfl
 unfold W0;rw [zG,ZH,et,Zg,if_neg Bool.false_ne_true];unfold nxS;dsimp only;rw [zG,ZH,ei,Zg,if_pos rfl];rw [zW] at e1 ⊢;rw [ZW] at e1;rw [e1];rfl
theorem xY (ns:List Int) {t d p u:T} {g:List T} {k w:Int} (h0:0<=k) {D S:Nat} (hl:S<=lim) (hF:Fit D S u) (H:∀ v,Fit (D+2) (2*S+4) v->∃ r,f_9 40 [t,p,v]= .ok r):
  ∃ v r,Fit (D+2) (2*S+4) v/\f_9 40 [t,p,v]= .ok r/\zn (W0 f_2 (f_9 40) (en9 (scr ns) k t d p u g w .un))= .ok r:=by
 have row:wz (ZP (ap1 (jF "tuple") (vB 5))) (zC neC (vB 5) (ZK (zh))) (en9 (scr ns) k t d p u g w .un)= .ok false->isT "int" u=false->∃ v r,Fit (D+2) (2*S+4) v/\f_9 40 [t,p,v]= .ok r/\zn (W0 f_2 (f_9 40) (en9 (scr ns) k t d p u g w .un))= .ok r:=λe1 e2=>by
  obtain ⟨r,hr⟩:=H _ (qt hF);exact ⟨_,r,qt hF,hr,vf e1 e2 hr⟩
 have num:∀ i,isT "tuple" u=false->isT "int" u=true->zu u (.int 1)= .ok (.int i)->∃ v r,Fit (D+2) (2*S+4) v/\f_9 40 [t,p,v]= .ok r/\zn (W0 f_2 (f_9 40) (en9 (scr ns) k t d p u g w .un))= .ok r:=λi e1 e2 e3=>by
  obtain ⟨r,hr⟩:=H _ (qr (i - 2*(w % 2)));exact ⟨_,r,qr _,hr,vg e1 e2 e3 hr⟩
 cases u with
 | tup xs=>
  by_cases hx:xs=[]
  ·subst hx; exact row rfl rfl
  ·exact ve ns h0 hl hF hx H
 | int i=>exact num (i+1) rfl rfl rfl
 | bl b=>exact num (b2 b+1) rfl rfl rfl
 | non=>exact row rfl rfl
 | str x=>exact row rfl rfl
 | lst x=>exact row rfl rfl
 | fz x=>exact row rfl rfl
theorem uD (ns:List Int) (k:Int) (h0:0<=k) {D S:Nat} (hD:D<=40) (hS:S<=lim) {t:T} (hF:Fit D S t):
  ∃ r,f_r [scr ns, .int k,t]= .ok r/\Fit (2*D+2) (3*S+4) r:=by
 obtain ⟨ht,hd,hs⟩:=hF;have hs' :=Nat.le_trans hs hS;obtain ⟨ps,hp,hp0,hpl,hpv⟩:=qj 40 t (Nat.le_trans hd hD) hs';have hp:f_l 40 [t]= .ok (.lst (ps.map pth)):=hp;obtain ⟨q,hq,q0,q1⟩:=Z6 ns k (ps.length:Int) h0 (by omega)
 obtain ⟨x,ex,hx⟩:=ixl (xs:=ps.map pth) q0 (by rw [List.length_map]; exact q1)
 obtain ⟨p,hpm,rfl⟩:=List.mem_map.mp hx;obtain ⟨u,hu⟩:=hpv p hpm;obtain ⟨g1,g2,g3⟩:=qp p t u hu;have hdu:=qq u;have hUF:Fit D S u:=⟨g1 ht,by omega,by omega⟩
 have hput:∀ v,f_9 40 [t,pth p,v]= .ok (uB t p v):=λv=>Kg 40 p t u v (by omega) hs' hu
 have fin:∀ v,Fit (D+2) (2*S+4) v->Fit (2*D+2) (3*S+4) (uB t p v):=λv hv=>by
  obtain ⟨a,b,c⟩:=qo p t v ht hv.so;have:=hv.dp;have:=hv.sz;exact ⟨a,by omega,by omega⟩
 obtain ⟨w,hw,w0',w1⟩:=Z6 ns (k+1) 23 (by omega) (by omega)
 have e:f_r [scr ns, .int k,t]=zn (b_r f_2 (f_l 40) XA (f_9 40) [.vl (scr ns), .vl (.int k), .vl t, .un, .un, .un, .un, .un, .un]):=rfl;have e1:zH 3 (zd 1 (f_l 40) (z9 (vE 2) (zh))) [.vl (scr ns), .vl (.int k), .vl t, .un, .un, .un, .un, .un, .un]= .nx [.vl (scr ns), .vl (.int k), .vl t, .vl (.lst (ps.map pth)), .un, .un, .un, .un, .un]:=by
  rw [ZL,Zv,v2,bOk,hp,Zg]; rfl
 have e2:zH 4 (ze ixT (vE 3) (zd 3 f_2 (z9 (vE 0) (z9 (vE 1) (z9 (ap1 zY (vB 3)) (zh)))))) [.vl (scr ns), .vl (.int k), .vl t, .vl (.lst (ps.map pth)), .un, .un, .un, .un, .un]= .nx [.vl (scr ns), .vl (.int k), .vl t, .vl (.lst (ps.map pth)), .vl (pth p), .un, .un, .un, .un]:=by
  rw [ZL,zm,v3,bOk,Z2,v0,bOk,v1,bOk,ZB,w3,bOk,Wz,bOk,List.length_map,hq,bOk,ex,Zg]; rfl
 have e3:zH 5 (zd 2 XA (z9 (vE 2) (z9 (vE 4) (zh)))) [.vl (scr ns), .vl (.int k), .vl t, .vl (.lst (ps.map pth)), .vl (pth p), .un, .un, .un, .un]= .nx [.vl (scr ns), .vl (.int k), .vl t, .vl (.lst (ps.map pth)), .vl (pth p), .vl u, .un, .un, .un]:=by
  rw [ZL,ZA,v2,bOk,v4,bOk,GH hu,Zg]; rfl
 rw [e,b_r,zG,e1];dsimp only;rw [zG,e2];dsimp only;rw [zG,e3];dsimp only;rw [zG];have e4:zH 6 (jb (z9 (cE (.int 0)) (z9 (cE (.int 1)) (z9 (yv (cE (.int 21))) (z9 (cE (.int 21)) (z9 (cE (.int 3)) (z9 (cE (.int 4)) (z9 (cE (.bl true)) (z9 (cE .non) (z9 (cE (.str "a")) (z9 (cE (.str "abcd")) (z9 (cE (.str "A")) (z9 (cE (.str "")) (z9 (cE (.str "many")) (z9 (cE (.str "row")) (z9 (ZK (zh)) (z9 (ZK (z9 (vE 5) (zh))) (z9 (jb (z9 (vE 5) (zh))) (z9 (ZK (z9 (cE (.str "whole")) (z9 (cE (.int 1)) (z9 (cE (.int 0)) (zh))))) (zh)))))))))))))))))))) [.vl (scr ns), .vl (.int k), .vl t, .vl (.lst (ps.map pth)), .vl (pth p), .vl u, .un, .un, .un]= .nx [.vl (scr ns), .vl (.int k), .vl t, .vl (.lst (ps.map pth)), .vl (pth p), .vl u, .vl (.lst (jR u)), .un, .un]:=rfl;rw [e4];dsimp only;have e5:zH 7 (zd 3 f_2 (z9 (vE 0) (z9 (ze zu (vE 1) (cE (.int 1))) (z9 (ze zu (ap1 zY (vB 6)) (cE (.int 5))) (zh))))) [.vl (scr ns), .vl (.int k), .vl t, .vl (.lst (ps.map pth)), .vl (pth p), .vl u, .vl (.lst (jR u)), .un, .un]= .nx (en9 (scr ns) k t (.lst (ps.map pth)) (pth p) u (jR u) w .un):=by
  rw [ZL,Z2,v0,bOk,zm,v1,bOk,zS,bOk,Zd,bOk];rw [show ze zu (ap1 zY (vB 6)) (cE (.int 5)) [.vl (scr ns), .vl (.int k), .vl t, .vl (.lst (ps.map pth)), .vl (pth p), .vl u, .vl (.lst (jR u)), .un, .un]= .ok (.int 23) from rfl,bOk,hw,Zg];rfl
 rw [zG,e5];dsimp only;rw [zG,ZH];have e6:zC ltC (vB 7) (ap1 zY (vB 6)) (en9 (scr ns) k t (.lst (ps.map pth)) (pth p) u (jR u) w .un)= .ok (decide (w < 18)):=rfl;rw [e6,Zg]
 by_cases h18:w < 18
 ·rw [decide_eq_true h18,if_pos rfl];obtain ⟨v,ev,hv⟩:=ixl (xs:=jR u) w0' (by show w < 18; exact h18)
  have hfv:=yM hUF v hv;have er:=WG (f:=ze ixT (vE 6) (vE 7)) (a:=scr ns) (b:= .int k) (t:=t) (d:= .lst (ps.map pth)) (p:=pth p) (e:=u) (g:= .lst (jR u)) (h:= .int w) (i:= .non) (j:= .un) rfl (show ixT (.lst (jR u)) (.int w)= .ok v from ev) (hput v);refine ⟨_, ?_,fin v hfv⟩;rw [zW] at er ⊢;rw [ZW] at er;rw [er];rfl
 ·rw [decide_eq_false h18,if_neg Bool.false_ne_true];obtain ⟨v,r,hfv,hr,et⟩:=xY ns (t:=t) (d:= .lst (ps.map pth)) (p:=pth p) (u:=u) (g:=jR u) (k:=k) (w:=w) h0 hS hUF λv _=>⟨_,hput v⟩;rw [hput v] at hr;cases hr;exact ⟨_,et,fin v hfv⟩
theorem Wf (ρ:En):nxS ρ= .nx ρ:=rfl
inductive Kd where
 | whole (lo hi:Int)
 | pick (cs:List (Str×Int))
 | row (ks:List Kd)
 | many (k:Kd) (lo hi:Nat)
def JM (c:Str×Int):T:= .tup [.str c.1, .int c.2]
mutual
def Kd.t:Kd->T
 | .whole lo hi=> .tup [.str "whole", .int lo, .int hi]
 | .pick cs=> .tup [.str "pick", .tup (cs.map JM)]
 | .row ks=> .tup [.str "row", .tup (Kd.ts ks)]
 | .many k lo hi=> .tup [.str "many",k.t, .int (lo:Int), .int (hi:Int)]
def Kd.ts:List Kd->List T
 | []=>[]
 | k :: ks=>k.t :: Kd.ts ks
end
theorem Kd.ts_map:∀ ks:List Kd,Kd.ts ks=ks.map Kd.t
 | []=>by simp only [Kd.ts,List.map_nil]
 | k :: ks=>by simp only [Kd.ts,List.map_cons,Kd.ts_map ks]
def Kd.Ok:Nat->Kd->Prop
 | 0,_=>False
 | _+1, .whole lo hi=> -20<=lo/\lo<=hi/\hi<=20
 | _+1, .pick cs=>1<=cs.length/\cs.length<=4/\(∀ c∈cs,Z5 (.str c.1)=true/\1<=c.2/\c.2<=20)/\Dst (cs.map (·.1))
 | d+1, .row ks=>1<=ks.length/\ks.length<=3/\∀ k∈ks,Kd.Ok d k
 | d+1, .many k lo hi=>lo<=hi/\hi<=3/\Kd.Ok d k
theorem qu {c:T} (h:zr c=true):∃ p:Str×Int,c=JM p/\Z5 (.str p.1)=true/\1<=p.2/\p.2<=20:=by
 unfold zr at h;split at h
 ·rename_i w i;rw [Bool.and_eq_true,Bool.and_eq_true,decide_eq_true_eq,decide_eq_true_eq] at h;cases w with
  | str x=>exact ⟨(x,i),rfl,h.1.1,h.1.2,h.2⟩
  | _=>cases h.1.1
 ·cases h
theorem Ug {α:Type} {P:T->Prop} {Q:α->Prop} {f:α->T} (H:∀ t,P t->∃ a,t=f a/\Q a):∀ (ts:List T),(∀ t∈ts,P t)->∃ as:List α,ts=as.map f/\∀ a∈as,Q a
 | [],_=>⟨[],rfl,λ_ h=>nomatch h⟩
 | t :: ts,h=>by
  obtain ⟨a,rfl,ha⟩:=H t (h t List.mem_cons_self);obtain ⟨as,rfl,has⟩:=Ug H ts λu hu=>h u (List.mem_cons_of_mem _ hu);exact ⟨a :: as,rfl,λb hb=>by
   rcases List.mem_cons.mp hb with rfl | hb
   ·exact ha
   ·exact has b hb⟩
theorem Uh:∀ (d:Nat) (t:T),isK d t=true->∃ k:Kd,t=k.t/\k.Ok d
 | 0,_,h=>by cases h
 | d+1,t,h=>by
  have h:WA (isK d) t=true:=h;unfold WA at h;split at h
  ·rename_i hd r;split at h
   ·rename_i e;rw [JU e];unfold JT at h;split at h
    ·obtain ⟨i,j,rfl,rfl⟩:=wd h;have h:(decide (-20<=i) && decide (i<=j) && decide (j<=20))=true:=h;rw [Bool.and_eq_true,Bool.and_eq_true,decide_eq_true_eq,decide_eq_true_eq,decide_eq_true_eq] at h;exact ⟨.whole i j,by simp only [Kd.t],h.1.1,h.1.2,h.2⟩
    ·cases h
   ·split at h
    ·rename_i e;rw [JU e];unfold uw at h;split at h
     ·rename_i c;unfold uv at h;split at h
      ·rename_i cs;rw [Bool.and_eq_true,Bool.and_eq_true,Bool.and_eq_true,decide_eq_true_eq,decide_eq_true_eq,decide_eq_true_eq] at h;obtain ⟨⟨⟨h1,h2⟩,h3⟩,h4⟩:=h;obtain ⟨as,rfl,has⟩:=Ug (λt ht=>qu ht) cs λc hc=>List.all_eq_true.mp h3 c hc;rw [List.length_map] at h1 h2;refine ⟨.pick as,by simp only [Kd.t],h1,h2,has, ?_⟩
       have e1:(as.map JM).map zZ=as.map (·.1):=by rw [List.map_map]; rfl
       rw [e1] at h4;have:=(wJ (as.map (·.1)) []).mp (by rw [h4,List.length_map,List.length_map]; simp)
       exact λk w hw hm=>this k w hw (by simpa using hm)
      ·cases h
     ·cases h
    ·split at h
     ·rename_i e;rw [JU e];unfold V3 at h;split at h
      ·rename_i c;unfold wH at h;split at h
       ·rename_i cs;rw [Bool.and_eq_true,Bool.and_eq_true,decide_eq_true_eq,decide_eq_true_eq] at h;obtain ⟨ks,rfl,hks⟩:=Ug (λt ht=>Uh d t ht) cs λc hc=>List.all_eq_true.mp h.2 c hc;rw [List.length_map] at h;exact ⟨.row ks,by simp only [Kd.t,Kd.ts_map],h.1.1,h.1.2,hks⟩
       ·cases h
      ·cases h
     ·split at h
      ·rename_i e;rw [JU e];unfold ux at h;split at h
       ·rename_i c a b;rw [Bool.and_eq_true] at h;obtain ⟨h1,h2⟩:=h;obtain ⟨i,j,rfl,rfl⟩:=wd h1;obtain ⟨k,rfl,hk⟩:=Uh d c h2;have h1:(decide (0<=i) && decide (i<=j) && decide (j<=3))=true:=h1;rw [Bool.and_eq_true,Bool.and_eq_true,decide_eq_true_eq,decide_eq_true_eq,decide_eq_true_eq] at h1;obtain ⟨⟨a1,a2⟩,a3⟩:=h1;obtain ⟨m,rfl⟩:=Int.eq_ofNat_of_zero_le a1;obtain ⟨n,rfl⟩:=Int.eq_ofNat_of_zero_le (Int.le_trans a1 a2);exact ⟨.many k m n,by simp only [Kd.t],by omega,by omega,hk⟩
       ·cases h
      ·cases h
  ·cases h
def W1 (made:List (List T)):List (List T)->List (List T)
 | []=>made
 | ls :: r=>W1 (made.flatMap λa=>ls.map λx=>a++[x]) r
abbrev Ui (ls:List (List T)):List T:=(W1 [[]] ls).map T.tup
mutual
def Kd.all:Kd->List T
 | .whole lo hi=>(List.range (hi+1 - lo).toNat).map λ(i:Nat)=>T.int (lo+(i:Int))
 | .pick cs=>cs.map λc=>T.str c.1
 | .row ks=>Ui (Kd.alls ks)
 | .many k lo hi=>(List.range (hi+1 - lo)).flatMap λi=>Ui (List.replicate (lo+i) k.all)
def Kd.alls:List Kd->List (List T)
 | []=>[]
 | k :: ks=>k.all :: Kd.alls ks
end
theorem Kd.alls_map:∀ ks:List Kd,Kd.alls ks=ks.map Kd.all
 | []=>by simp only [Kd.alls,List.map_nil]
 | k :: ks=>by simp only [Kd.alls,List.map_cons,Kd.alls_map ks]
def prd:List Nat->Nat
 | []=>1
 | n :: r=>n*prd r
theorem WH:∀ {ns:List Nat},(∀ n∈ns,1<=n)->1<=prd ns
 | [],_=>Nat.le_refl _
 | n :: ns,h=>Nat.mul_pos (h n List.mem_cons_self) (WH λm hm=>h m (List.mem_cons_of_mem _ hm))
theorem wf {α β:Type} (f:α->List β) (n:Nat):∀ as:List α,(∀ a∈as,(f a).length=n)->(as.flatMap f).length=as.length*n
 | [],_=>by simp
 | a :: as,h=>by
  rw [List.flatMap_cons,List.length_append,h a List.mem_cons_self,wf f n as λb hb=>h b (List.mem_cons_of_mem _ hb),List.length_cons,Nat.add_mul,Nat.one_mul,Nat.add_comm]
theorem uE:∀ (ls:List (List T)) (made:List (List T)),(W1 made ls).length=made.length*prd (ls.map (·.length))
 | [],made=>by simp [W1,prd]
 | l :: ls,made=>by
  rw [W1,uE ls,wf _ l.length made λa _=>List.length_map ..,List.map_cons,prd,Nat.mul_assoc]
abbrev V9:En->RS:=QC 3 (Ze (jl (vE 2)) (zz 0) (Zi) (ze zu (vE 1) (ZK (z9 (vE 0) (zh)))) 1 [4])
theorem UX {L M:T} {l:List T} (hl:l.length<=bnd):∀ (as:List (List T)) (acc:List T) (x:Sl),(∀ a∈as,a.length<=1000)->acc.length+as.length*l.length<=bnd->
  ∃ y,ZI (zz 4) V9 (as.map T.tup) [.vl L, .vl M, .vl (.lst l), .ow acc,x]= .nx [.vl L, .vl M, .vl (.lst l), .ow (acc++(as.flatMap λa=>l.map λx=>a++[x]).map T.tup),y]
 | [],acc,x,_,_=>⟨x,by simp [ZI]⟩
 | a :: as,acc,x,ha,hb=>by
  have ha1:=ha a List.mem_cons_self;have hb1:bnd=16777216:=rfl;rw [List.length_cons,Nat.add_mul,Nat.one_mul] at hb;have ec:zR (zz 0) Zi (ze zu (vE 1) (ZK (z9 (vE 0) (zh)))) 1 [4] [.vl L, .vl M, .vl (.lst l), .ow acc, .vl (.tup a)] l= .ok (l.map λx=>T.tup (a++[x])):=
   Zs (h:=λx=>T.tup (a++[x])) l hl λx hx=>by
    show ze zu (vE 1) (ZK (z9 (vE 0) (zh))) [.vl x, .vl (.tup a)]=_;rw [zm,v1,bOk,GG v0,bOk];exact We (by rw [List.length_singleton]; omega)
  have eb:V9 [.vl L, .vl M, .vl (.lst l), .ow acc, .vl (.tup a)]= .nx [.vl L, .vl M, .vl (.lst l), .ow (acc++l.map λx=>T.tup (a++[x])), .vl (.tup a)]:=by
   show ((Ze _ _ _ _ _ _ _).s λt=>match t with | .lst us=>if acc.length+us.length<=bnd then RS.nx _ else .bad | _=> .bad)=_
   rw [Z7,jf,v2,bOk];show (((zR _ _ _ _ _ _ l).bind _).s _)=_;rw [ec,bOk,Zg];show (if _ then _ else _)=_
   rw [if_pos (by rw [List.length_map]; omega)]
   rfl
  obtain ⟨y,ih⟩:=UX hl as (acc++l.map λx=>T.tup (a++[x])) (.vl (.tup a)) (λb hb=>ha b (List.mem_cons_of_mem _ hb)) (by rw [List.length_append,List.length_map]; omega)
  refine ⟨y, ?_⟩;have e:ZI (zz 4) V9 ((a :: as).map T.tup) [.vl L, .vl M, .vl (.lst l), .ow acc,x]=match V9 [.vl L, .vl M, .vl (.lst l), .ow acc, .vl (.tup a)] with
   | .nx ρ2=>ZI (zz 4) V9 (as.map T.tup) ρ2
   | .ct ρ2=>ZI (zz 4) V9 (as.map T.tup) ρ2
   | .bk ρ2=> .nx ρ2
   | r=>r:=rfl
  rw [e,eb];dsimp only;rw [ih,List.flatMap_cons,List.map_append,List.map_map,List.append_assoc];rfl
abbrev uF:En->RS:=(zv (UD 3 (zh))
  (zv (jx (jl (vE 1)) (zz 4) V9)
  (mvS 1 3)))
theorem uG {L:T} (m:Nat):∀ (ls:List (List T)) (made:List (List T)) (k:Nat) (x y z:Sl),(∀ a∈made,a.length<=k)->k+ls.length<=1000->(∀ l∈ls,1<=l.length)->made.length*prd (ls.map (·.length))<=bnd->1<=made.length->
  ∃ x' y' z',ZI (zz 2) uF (ls.map T.lst) [.vl L, .vl (.lst (made.map T.tup)),x,y,z]= .nx [.vl L, .vl (.lst ((W1 made ls).map T.tup)),x',y',z']
 | [],made,k,x,y,z,_,_,_,_,_=>⟨x,y,z,by simp [ZI,W1]⟩
 | l :: ls,made,k,x,y,z,hk,hkl,hpos,hb,hm=>by
  have hpr:1<=prd (ls.map (·.length)):=WH λn hn=>by
   obtain ⟨l',hl',rfl⟩:=List.mem_map.mp hn;exact hpos l' (List.mem_cons_of_mem _ hl')
  rw [List.map_cons,prd,← Nat.mul_assoc] at hb;have hb1:made.length*l.length<=bnd:=Nat.le_trans (Nat.le_mul_of_pos_right _ hpr) hb;have hll:l.length<=bnd:=Nat.le_trans (Nat.le_mul_of_pos_left _ hm) hb1;rw [List.length_cons] at hkl;obtain ⟨w,er⟩:=UX (L:=L) (M:= .lst (made.map T.tup)) hll made [] z (λa ha=>Nat.le_trans (hk a ha) (by omega)) (by rw [List.length_nil]; omega)
  rw [List.nil_append] at er;have es:uF [.vl L, .vl (.lst (made.map T.tup)), .vl (.lst l),y,z]= .nx [.vl L, .vl (.lst ((made.flatMap λa=>l.map λx=>a++[x]).map T.tup)), .vl (.lst l), .vl (.lst ((made.flatMap λa=>l.map λx=>a++[x]).map T.tup)),w]:=by
   have e0:UD 3 (zh) [.vl L, .vl (.lst (made.map T.tup)), .vl (.lst l),y,z]= .nx [.vl L, .vl (.lst (made.map T.tup)), .vl (.lst l), .ow [],z]:=rfl;have e1:jx (jl (vE 1)) (zz 4) V9 [.vl L, .vl (.lst (made.map T.tup)), .vl (.lst l), .ow [],z]= .nx [.vl L, .vl (.lst (made.map T.tup)), .vl (.lst l), .ow ((made.flatMap λa=>l.map λx=>a++[x]).map T.tup),w]:=er;unfold uF;rw [zG,e0];dsimp only;rw [zG,e1];rfl
  obtain ⟨x',y',z',ih⟩:=uG (L:=L) m ls (made.flatMap λa=>l.map λx=>a++[x]) (k+1) (.vl (.lst l)) (.vl (.lst ((made.flatMap λa=>l.map λx=>a++[x]).map T.tup))) w (λa ha=>by
   obtain ⟨b,hb,hx⟩:=List.mem_flatMap.mp ha;obtain ⟨u,_,rfl⟩:=List.mem_map.mp hx;have:=hk b hb;rw [List.length_append,List.length_singleton]; omega) (by omega) (λl' hl' =>hpos l' (List.mem_cons_of_mem _ hl')) (by
    rw [wf _ l.length made λa _=>List.length_map ..]; exact hb) (by
    rw [wf _ l.length made λa _=>List.length_map ..]; exact Nat.mul_pos hm (hpos l List.mem_cons_self))
  refine ⟨x',y',z', ?_⟩;have e:ZI (zz 2) uF ((l :: ls).map T.lst) [.vl L, .vl (.lst (made.map T.tup)),x,y,z]=match uF [.vl L, .vl (.lst (made.map T.tup)), .vl (.lst l),y,z] with
   | .nx ρ2=>ZI (zz 2) uF (ls.map T.lst) ρ2
   | .ct ρ2=>ZI (zz 2) uF (ls.map T.lst) ρ2
   | .bk ρ2=> .nx ρ2
   | r=>r:=rfl
  rw [e,es];exact ih
theorem qv (ls:List (List T)) (hl:ls.length<=1000) (hpos:∀ l∈ls,1<=l.length) (hb:prd (ls.map (·.length))<=bnd):f_e [.lst (ls.map T.lst)]= .ok (.lst (Ui ls)):=by
 obtain ⟨x',y',z',er⟩:=uG (L:= .lst (ls.map T.lst)) 0 ls [[]] 0 .un .un .un (λa ha=>by rw [List.mem_singleton.mp ha]; exact Nat.le_refl _) (by omega) hpos (by rw [List.length_singleton,Nat.one_mul]; exact hb) (Nat.le_refl _)
 have e:f_e [.lst (ls.map T.lst)]=zn (b_e [.vl (.lst (ls.map T.lst)), .un, .un, .un, .un]):=rfl;have e0:zH 1 (jb (z9 (ZK (zh)) (zh))) [.vl (.lst (ls.map T.lst)), .un, .un, .un, .un]= .nx [.vl (.lst (ls.map T.lst)), .vl (.lst [.tup []]), .un, .un, .un]:=rfl;have e1:jx (jl (vE 0)) (zz 2) uF [.vl (.lst (ls.map T.lst)), .vl (.lst [.tup []]), .un, .un, .un]= .nx [.vl (.lst (ls.map T.lst)), .vl (.lst (Ui ls)),x',y',z']:=er;rw [e,b_e,zG,e0];dsimp only;rw [zG,e1];rfl
theorem WI (n:Nat):∀ m:Nat,prd (List.replicate m n)=n ^ m
 | 0=>rfl
 | m+1=>by rw [List.replicate_succ,prd,WI n m,Nat.pow_succ,Nat.mul_comm]
theorem WJ (ls:List (List T)):(Ui ls).length=prd (ls.map (·.length)):=by
 unfold Ui;rw [List.length_map,uE,List.length_singleton,Nat.one_mul]
def pw (n lo hi:Nat):Nat:=((List.range (hi+1 - lo)).map λi=>n ^ (lo+i)).sum
theorem wg (k:Kd) (lo hi:Nat):(Kd.many k lo hi).all.length=pw k.all.length lo hi:=by
 rw [Kd.all,List.length_flatMap,pw];congr 1
 refine List.map_congr_left λi _=> ?_;rw [WJ,List.map_replicate,WI]
theorem WK (ks:List Kd):(Kd.row ks).all.length=prd (ks.map λk=>k.all.length):=by
 rw [Kd.all,WJ,Kd.alls_map,List.map_map]; rfl
theorem jS (lo hi:Int):(Kd.whole lo hi).all.length=(hi+1 - lo).toNat:=by
 rw [Kd.all,List.length_map,List.length_range]
theorem WL (cs:List (Str×Int)):(Kd.pick cs).all.length=cs.length:=by
 rw [Kd.all,List.length_map]
theorem xZ {lo hi:Nat} (h:lo<=hi) (h3:hi<=3):(lo=0/\hi=0)\/(lo=0/\hi=1)\/(lo=0/\hi=2)\/(lo=0/\hi=3)\/(lo=1/\hi=1)\/(lo=1/\hi=2)\/(lo=1/\hi=3)\/(lo=2/\hi=2)\/(lo=2/\hi=3)\/(lo=3/\hi=3):=by omega
def iv (b:Bool):Nat:=if b then 1 else 0
theorem X0 (n:Nat) {lo hi:Nat} (h:lo<=hi) (h3:hi<=3):pw n lo hi=iv (lo == 0)+n*iv (decide (lo<=1) && decide (1<=hi))+n*n*iv (decide (lo<=2) && decide (2<=hi))+n*n*n*iv (hi == 3):=by
 rcases xZ h h3 with ⟨rfl,rfl⟩ | ⟨rfl,rfl⟩ | ⟨rfl,rfl⟩ | ⟨rfl,rfl⟩ | ⟨rfl,rfl⟩ | ⟨rfl,rfl⟩ | ⟨rfl,rfl⟩ | ⟨rfl,rfl⟩ | ⟨rfl,rfl⟩ | ⟨rfl,rfl⟩ <;>
  simp [pw,List.range_succ,iv,Nat.pow_succ]
 all_goals omega
theorem Kh {n:Nat} (hn:1<=n) {lo hi:Nat} (h:lo<=hi) (h3:hi<=3):1<=pw n lo hi:=by
 have h2:1<=n*n:=Nat.mul_pos hn hn;have h1:1<=n*n*n:=Nat.mul_pos h2 hn;rw [X0 n h h3];rcases xZ h h3 with ⟨rfl,rfl⟩ | ⟨rfl,rfl⟩ | ⟨rfl,rfl⟩ | ⟨rfl,rfl⟩ | ⟨rfl,rfl⟩ | ⟨rfl,rfl⟩ | ⟨rfl,rfl⟩ | ⟨rfl,rfl⟩ | ⟨rfl,rfl⟩ | ⟨rfl,rfl⟩ <;>
  simp [iv] <;> omega
theorem GJ {n N:Nat} (hn:n<=N) {lo hi:Nat} (h:lo<=hi) (h3:hi<=3):pw n lo hi<=1+N+N*N+N*N*N:=by
 have h2:n*n<=N*N:=Nat.mul_le_mul hn hn;have h1:n*n*n<=N*N*N:=Nat.mul_le_mul h2 hn;rw [X0 n h h3];rcases xZ h h3 with ⟨rfl,rfl⟩ | ⟨rfl,rfl⟩ | ⟨rfl,rfl⟩ | ⟨rfl,rfl⟩ | ⟨rfl,rfl⟩ | ⟨rfl,rfl⟩ | ⟨rfl,rfl⟩ | ⟨rfl,rfl⟩ | ⟨rfl,rfl⟩ | ⟨rfl,rfl⟩ <;>
  simp [iv] <;> omega
theorem Va {N:Nat} (hN:1<=N):∀ (ns:List Nat),(∀ n∈ns,n<=N)->prd ns<=N ^ ns.length
 | [],_=>Nat.le_refl _
 | n :: ns,h=>by
  rw [prd,List.length_cons,Nat.pow_succ,Nat.mul_comm];exact Nat.mul_le_mul (Va hN ns λm hm=>h m (List.mem_cons_of_mem _ hm)) (h n List.mem_cons_self)
theorem Jd:∀ (d:Nat) (k:Kd),k.Ok d->1<=k.all.length
 | 0,_,h=>h.elim
 | d+1, .whole lo hi,h=>by
  obtain ⟨_,h2,_⟩:=h;rw [jS]; omega
 | d+1, .pick cs,h=>by
  rw [WL]; exact h.1
 | d+1, .row ks,h=>by
  rw [WK];refine WH λn hn=> ?_;obtain ⟨k,hk,rfl⟩:=List.mem_map.mp hn;exact Jd d k (h.2.2 k hk)
 | d+1, .many k lo hi,h=>by
  rw [wg];exact Kh (Jd d k h.2.2) h.1 h.2.1
def mx:Nat->Nat
 | 0=>0
 | 1=>41
 | d+1=>1+mx d+mx d*mx d+mx d*mx d*mx d
theorem Vb (d:Nat):41<=mx (d+1):=by
 induction d with
 | zero=>exact Nat.le_refl _
 | succ d ih=>
  show 41<=1+mx (d+1)+mx (d+1)*mx (d+1)+mx (d+1)*mx (d+1)*mx (d+1);omega
theorem qw (d:Nat) (n:Nat) (h:n<=41):n<=mx (d+1):=Nat.le_trans h (Vb d)
theorem X1 {N m:Nat} (hN:1<=N) (h:m<=3):N ^ m<=1+N+N*N+N*N*N:=by
 have:m=0\/m=1\/m=2\/m=3:=by omega
 rcases this with rfl | rfl | rfl | rfl <;> simp [Nat.pow_succ] <;> omega
theorem wP:∀ (d:Nat) (k:Kd),k.Ok d->k.all.length<=mx d
 | 0,_,h=>h.elim
 | d+1, .whole lo hi,h=>by
  obtain ⟨h1,h2,h3⟩:=h;rw [jS]; exact qw d _ (by omega)
 | d+1, .pick cs,h=>by
  rw [WL]; exact qw d _ (Nat.le_trans h.2.1 (by omega))
 | 1, .row ks,h=>by
  obtain ⟨h1,h2,h3⟩:=h
  match ks,h1,h3 with
  | k :: _,_,h3=>exact (h3 k List.mem_cons_self).elim
 | d+2, .row ks,h=>by
  obtain ⟨h1,h2,h3⟩:=h;rw [WK];have hp:=Nat.le_trans (by omega:1<=41) (Vb d)
  have:=Va hp (ks.map λk=>k.all.length) λn hn=>by
   obtain ⟨k,hk,rfl⟩:=List.mem_map.mp hn;exact wP (d+1) k (h3 k hk)
  rw [List.length_map] at this;exact Nat.le_trans this (X1 hp h2)
 | 1, .many k lo hi,h=>h.2.2.elim
 | d+2, .many k lo hi,h=>by
  rw [wg];exact GJ (wP (d+1) k h.2.2) h.1 h.2.1
theorem zk {f g:En->RS} {ρ ρ' :En} (h:f ρ= .nx ρ'):zv f g ρ=g ρ' :=by rw [zG,h]
theorem cs0 {x w:Str} {r:List T} {ρ:En}:zC eqC (ze ixT (vE 0) (cE (.int 0))) (cE (.str w)) (.vl (.tup (.str x :: r)) :: ρ)= .ok (x == w):=by
 rw [zX,zm,v0,bOk,zS,bOk,at0,bOk,zS,bOk,eqS]; rfl
theorem yN {a b:T} {r:List T} {ρ:En}:ze ixT (vE 0) (cE (.int 1)) (.vl (.tup (a :: b :: r)) :: ρ)= .ok b:=by
 rw [zm,v0,bOk,zS,bOk,at1]
theorem Vc {a b c:T} {r:List T} {ρ:En}:ze ixT (vE 0) (cE (.int 2)) (.vl (.tup (a :: b :: c :: r)) :: ρ)= .ok c:=by
 rw [zm,v0,bOk,zS,bOk,at2]
theorem XH {a b c d:T} {r:List T} {ρ:En}:ze ixT (vE 0) (cE (.int 3)) (.vl (.tup (a :: b :: c :: d :: r)) :: ρ)= .ok d:=by
 rw [zm,v0,bOk,zS,bOk,at3]
theorem Ki {f:En->R T} {ρ:En} {i:Int} (h:f ρ= .ok (.int i)):ze zu f (cE (.int 1)) ρ= .ok (.int (i+1)):=by
 rw [zm,h,bOk,zS,bOk,Zd]
theorem qx {f g:En->R T} {ρ:En} {i j:Int} (hf:f ρ= .ok (.int i)) (hg:g ρ= .ok (.int j)) (h: -1000000 < i/\i < 1000000/\ -1000000 < j/\j < 1000000):wX f g ρ= .ok (rng i (j - i).toNat):=by
 unfold wX;rw [hf,bOk,hg,bOk];exact if_pos h
theorem qy:∀ (cs:List (Str×Int)) (x y:Sl),zL (Z1 0 1) Zi (vE 0) (cs.map JM) [x,y]= .ok (cs.map λc=>T.str c.1)
 | [],_,_=>rfl
 | c :: cs,x,y=>by
  have e:zL (Z1 0 1) Zi (vE 0) ((c :: cs).map JM) [x,y]=(zL (Z1 0 1) Zi (vE 0) (cs.map JM) [.vl (.str c.1), .vl (.int c.2)]).bind λvs=> .ok (.str c.1 :: vs):=rfl;rw [e,qy cs]; rfl
theorem qz {x:T} {m:Nat} (h:m<=3):Zn (.lst [x]) (.int (m:Int))= .ok (.lst (List.replicate m [x]).flatten):=by
 unfold Zn;dsimp only;have c:0<=(m:Int)/\(m:Int) < 1000000/\[x].length*(m:Int).toNat<=bnd:=by
  have hb:3<=bnd:=by decide
  refine ⟨by omega,by omega, ?_⟩
  rw [List.length_singleton,Int.toNat_natCast,Nat.one_mul];exact Nat.le_trans h hb
 rw [if_pos c,Int.toNat_natCast]
theorem wj {α:Type} (x:α):∀ m:Nat,(List.replicate m [x]).flatten=List.replicate m x
 | 0=>rfl
 | m+1=>by rw [List.replicate_succ,List.replicate_succ,List.flatten_cons,wj x m]; rfl
abbrev W2 (ca cr:List T->R T):En->RS:=QC 1 (zd 1 cr (z9 (ze Zn (jb (z9 (zd 1 ca (z9 (ze ixT (vE 0) (cE (.int 1))) (zh))) (zh))) (vE 2)) (zh)))
theorem GK {f:En->R T} {ρ:En} {x:T} (hf:f ρ= .ok x):jb (z9 f zh) ρ= .ok (.lst [x]):=by
 unfold jb z9 zh;rw [hf]; rfl
theorem uH {ca:List T->R T} {k:Kd} {t:T} {lo:Nat} {ws:List T} (hw:ca [t]= .ok (.lst ws)) (hpos:1<=ws.length) {a b c:T}:∀ (js:List Nat) (acc:List T) (x:Sl),(∀ j∈js,lo+j<=3)->acc.length+(js.map λj=>ws.length ^ (lo+j)).sum<=bnd->
  ∃ y,ZI (zz 2) (W2 ca f_e) (js.map λ(j:Nat)=>T.int ((lo:Int)+(j:Int))) [.vl (.tup [a,t,b,c]), .ow acc,x]= .nx [.vl (.tup [a,t,b,c]), .ow (acc++js.flatMap λj=>Ui (List.replicate (lo+j) ws)),y]
 | [],acc,x,_,_=>⟨x,by simp [ZI]⟩
 | j :: js,acc,x,hj,hb=>by
  have hj1:=hj j List.mem_cons_self;have hb1:bnd=16777216:=rfl;rw [List.map_cons,List.sum_cons] at hb;have er:f_e [.lst ((List.replicate (lo+j) ws).map T.lst)]= .ok (.lst (Ui (List.replicate (lo+j) ws))):=qv _ (by rw [List.length_replicate]; omega) (λl hl=>by rw [List.eq_of_mem_replicate hl]; exact hpos) (by rw [List.map_replicate,WI]; omega)
  have hlen:(Ui (List.replicate (lo+j) ws)).length=ws.length ^ (lo+j):=by rw [WJ,List.map_replicate,WI]
  have em:Zn (.lst [.lst ws]) (.int ((lo:Int)+(j:Int)))= .ok (.lst ((List.replicate (lo+j) ws).map T.lst)):=by
   have e1:(lo:Int)+(j:Int)=((lo+j:Nat):Int):=by omega
   rw [e1,qz (by omega),wj,List.map_replicate]
  have eb:W2 ca f_e [.vl (.tup [a,t,b,c]), .ow acc, .vl (.int ((lo:Int)+(j:Int)))]= .nx [.vl (.tup [a,t,b,c]), .ow (acc++Ui (List.replicate (lo+j) ws)), .vl (.int ((lo:Int)+(j:Int)))]:=by
   have e1:zd 1 f_e (z9 (ze Zn (jb (z9 (zd 1 ca (z9 (ze ixT (vE 0) (cE (.int 1))) (zh))) (zh))) (vE 2)) (zh)) [.vl (.tup [a,t,b,c]), .ow acc, .vl (.int ((lo:Int)+(j:Int)))]= .ok (.lst (Ui (List.replicate (lo+j) ws))):=by
    have e0:zd 1 ca (z9 (ze ixT (vE 0) (cE (.int 1))) (zh)) [.vl (.tup [a,t,b,c]), .ow acc, .vl (.int ((lo:Int)+(j:Int)))]= .ok (.lst ws):=by
     rw [Zv,yN,bOk,hw]
    rw [Zv,zm,GK e0,bOk,v2,bOk,em,bOk,er]
   show ((zd 1 f_e _ _).s λt=>match t with | .lst us=>if acc.length+us.length<=bnd then RS.nx _ else .bad | _=> .bad)=_
   rw [e1,Zg];show (if _ then _ else _)=_
   rw [if_pos (by rw [hlen]; omega)]
   rfl
  obtain ⟨y,ih⟩:=uH (k:=k) hw hpos (a:=a) (b:=b) (c:=c) js (acc++Ui (List.replicate (lo+j) ws)) (.vl (.int ((lo:Int)+(j:Int)))) (λi hi=>hj i (List.mem_cons_of_mem _ hi)) (by rw [List.length_append,hlen]; omega)
  refine ⟨y, ?_⟩;have e:ZI (zz 2) (W2 ca f_e) ((j :: js).map λ(j:Nat)=>T.int ((lo:Int)+(j:Int))) [.vl (.tup [a,t,b,c]), .ow acc,x]=match W2 ca f_e [.vl (.tup [a,t,b,c]), .ow acc, .vl (.int ((lo:Int)+(j:Int)))] with
   | .nx ρ2=>ZI (zz 2) (W2 ca f_e) (js.map λ(j:Nat)=>T.int ((lo:Int)+(j:Int))) ρ2
   | .ct ρ2=>ZI (zz 2) (W2 ca f_e) (js.map λ(j:Nat)=>T.int ((lo:Int)+(j:Int))) ρ2
   | .bk ρ2=> .nx ρ2
   | r=>r:=rfl
  rw [e,eb];dsimp only;rw [ih,List.flatMap_cons,List.append_assoc]
theorem vh {ca:List T->R T} {a t:T} {lo hi:Nat} (h1:lo<=hi) (h2:hi<=3) {x:Sl} {acc:List T} {r:RS}
  (el:ZI (zz 2) (W2 ca f_e) ((List.range (hi+1 - lo)).map λ(j:Nat)=>T.int ((lo:Int)+(j:Int))) [.vl (.tup [a,t, .int (lo:Int), .int (hi:Int)]), .ow acc,x]=r):
  jx (wX (ze ixT (vE 0) (cE (.int 2))) (ze zu (ze ixT (vE 0) (cE (.int 3))) (cE (.int 1)))) (zz 2) (W2 ca f_e) [.vl (.tup [a,t, .int (lo:Int), .int (hi:Int)]), .ow acc,x]=r:=by
 have hn:((hi:Int)+1 - (lo:Int)).toNat=hi+1 - lo:=by omega
 have hc: -1000000 < (lo:Int)/\(lo:Int) < 1000000/\ -1000000 < (hi:Int)+1/\(hi:Int)+1 < 1000000:=by omega
 have e:jx (wX (ze ixT (vE 0) (cE (.int 2))) (ze zu (ze ixT (vE 0) (cE (.int 3))) (cE (.int 1)))) (zz 2) (W2 ca f_e) [.vl (.tup [a,t, .int (lo:Int), .int (hi:Int)]), .ow acc,x]=(wX (ze ixT (vE 0) (cE (.int 2))) (ze zu (ze ixT (vE 0) (cE (.int 3))) (cE (.int 1))) [.vl (.tup [a,t, .int (lo:Int), .int (hi:Int)]), .ow acc,x]).s λts=>ZI (zz 2) (W2 ca f_e) ts [.vl (.tup [a,t, .int (lo:Int), .int (hi:Int)]), .ow acc,x]:=rfl;rw [e,qx Vc (Ki XH) hc,Zg,hn];exact el
theorem Kj {n L lo hi:Nat} (e:L=pw n lo hi) (h:L<=1000000):([]:List T).length+((List.range (hi+1 - lo)).map λj=>n ^ (lo+j)).sum<=bnd:=by
 have h' :pw n lo hi<=bnd:=Nat.le_trans (e ▸ h) (by decide)
 unfold pw at h';rw [List.length_nil,Nat.zero_add];exact h'
theorem qA {ca:List T->R T} (d:Nat) (lo hi:Int) (h:(Kd.whole lo hi).Ok (d+1)) (hl:(Kd.whole lo hi).all.length<=1000000) (H:∀ k' :Kd,k'.Ok d->ca [k'.t]= .ok (.lst k'.all)):zn (b_3 ca f_e (en0 3 [(Kd.whole lo hi).t]))= .ok (.lst (Kd.whole lo hi).all):=by
 have hb1:bnd=16777216:=rfl;have e:zn (b_3 ca f_e (en0 3 [(Kd.whole lo hi).t]))=zn (b_3 ca f_e [.vl (Kd.whole lo hi).t, .un, .un]):=rfl;rw [e,b_3,zG,ZH];obtain ⟨h1,h2,h3⟩:=h;simp only [Kd.t];rw [cs0,Zg,show (("whole":Str) == "whole")=true from rfl,if_pos rfl,zW,ZX,JJ,JJ,jq];unfold gj;rw [qx yN (Ki Vc) ⟨by omega,by omega,by omega,by omega⟩]
 rw [Kd.all];rfl
theorem vi {ca:List T->R T} (d:Nat) (cs:List (Str×Int)) (h:(Kd.pick cs).Ok (d+1)) (hl:(Kd.pick cs).all.length<=1000000) (H:∀ k' :Kd,k'.Ok d->ca [k'.t]= .ok (.lst k'.all)):zn (b_3 ca f_e (en0 3 [(Kd.pick cs).t]))= .ok (.lst (Kd.pick cs).all):=by
 have hb1:bnd=16777216:=rfl;have e:zn (b_3 ca f_e (en0 3 [(Kd.pick cs).t]))=zn (b_3 ca f_e [.vl (Kd.pick cs).t, .un, .un]):=rfl;rw [e,b_3,zG,ZH];simp only [Kd.t];rw [cs0,Zg,show (("pick":Str) == "whole")=false from rfl,if_neg Bool.false_ne_true,Wf];dsimp only;rw [zG,ZH,cs0,Zg,show (("pick":Str) == "pick")=true from rfl,if_pos rfl,zW,ZX,JJ,JJ,jq,Z7,jf,yN,bOk];have hc:cs.length<=4:=h.2.1;have ec:zR (Z1 0 1) Zi (vE 0) 2 [] [.vl (.tup [.str "pick", .tup (cs.map JM)]), .un, .un] (cs.map JM)= .ok (cs.map λc=>T.str c.1):=by
  unfold zR;rw [if_pos (by rw [List.length_map]; omega)]
  show quiet (zL (Z1 0 1) Zi (vE 0) (cs.map JM) [.un, .un])=_;rw [qy]; rfl
 show zn (match ((((R.ok (cs.map JM)).bind λts=>(zR (Z1 0 1) Zi (vE 0) 2 [] [.vl (.tup [.str "pick", .tup (cs.map JM)]), .un, .un] ts).bind λvs=> .ok (.lst vs))).s λt=> .rt t) with | .nx ρ' =>_ | r=>r)=_
 rw [bOk,ec];rw [Kd.all];rfl
theorem X2 {ca:List T->R T} (d:Nat) (ks:List Kd) (h:(Kd.row ks).Ok (d+1)) (hl:(Kd.row ks).all.length<=1000000) (H:∀ k' :Kd,k'.Ok d->ca [k'.t]= .ok (.lst k'.all)):zn (b_3 ca f_e (en0 3 [(Kd.row ks).t]))= .ok (.lst (Kd.row ks).all):=by
 have hb1:bnd=16777216:=rfl;have e:zn (b_3 ca f_e (en0 3 [(Kd.row ks).t]))=zn (b_3 ca f_e [.vl (Kd.row ks).t, .un, .un]):=rfl;rw [e,b_3,zG,ZH];obtain ⟨h1,h2,h3⟩:=h;simp only [Kd.t];rw [cs0,Zg,show (("row":Str) == "whole")=false from rfl,if_neg Bool.false_ne_true,Wf];dsimp only;rw [zG,ZH,cs0,Zg,show (("row":Str) == "pick")=false from rfl,if_neg Bool.false_ne_true,Wf];dsimp only;rw [zG,ZH,cs0,Zg,show (("row":Str) == "row")=true from rfl,if_pos rfl,zW,ZX,JJ,JJ,jq,Zv,Z7,jf,yN,bOk,Kd.ts_map];have ec:zR (zz 0) Zi (zd 1 ca (z9 (vE 0) (zh))) 1 [] [.vl (.tup [.str "row", .tup (ks.map Kd.t)]), .un, .un] (ks.map Kd.t)= .ok ((ks.map Kd.all).map T.lst):=by
  unfold zR;rw [if_pos (by rw [List.length_map]; omega)]
  show quiet (zL (zz 0) Zi _ (ks.map Kd.t) [.un])=_;have:∀ (ks:List Kd) (x:Sl),(∀ k∈ks,k.Ok d)->zL (zz 0) Zi (zd 1 ca (z9 (vE 0) (zh))) (ks.map Kd.t) [x]= .ok ((ks.map Kd.all).map T.lst):=by
   intro ks
   induction ks with
   | nil=>intro _ _; rfl
   | cons k ks ih=>
    intro x hk;have e1:zL (zz 0) Zi (zd 1 ca (z9 (vE 0) (zh))) ((k :: ks).map Kd.t) [x]=(zd 1 ca (z9 (vE 0) (zh)) [.vl k.t]).bind λv=>(zL (zz 0) Zi (zd 1 ca (z9 (vE 0) (zh))) (ks.map Kd.t) [.vl k.t]).bind λvs=> .ok (v :: vs):=rfl;rw [e1,Zv,v0,bOk,H k (hk k List.mem_cons_self),bOk,ih _ λk' hk' =>hk k' (List.mem_cons_of_mem _ hk')];rfl
  rw [this ks .un h3]; rfl
 have hrow:=WK ks;have er:f_e [.lst ((ks.map Kd.all).map T.lst)]= .ok (.lst (Ui (ks.map Kd.all))):=qv _ (by rw [List.length_map]; omega) (λl hl=>by
  obtain ⟨k,hk,rfl⟩:=List.mem_map.mp hl;exact Jd d k (h3 k hk)) (by
  rw [List.map_map];show prd (ks.map λk=>k.all.length)<=bnd;omega)
 show zn (match ((((R.ok (ks.map Kd.t)).bind λts=>(zR (zz 0) Zi (zd 1 ca (z9 (vE 0) (zh))) 1 [] [.vl (.tup [.str "row", .tup (ks.map Kd.t)]), .un, .un] ts).bind λvs=> .ok (.lst vs)).bind λx=>f_e [x]).s λt=> .rt t) with | .nx ρ' =>_ | r=>r)=_
 rw [bOk,ec,bOk,bOk,er,Kd.all,Kd.alls_map];rfl
theorem vj {ca:List T->R T} (d:Nat) (k:Kd) (lo hi:Nat) (h:(Kd.many k lo hi).Ok (d+1)) (hl:(Kd.many k lo hi).all.length<=1000000) (H:∀ k' :Kd,k'.Ok d->ca [k'.t]= .ok (.lst k'.all)):zn (b_3 ca f_e (en0 3 [(Kd.many k lo hi).t]))= .ok (.lst (Kd.many k lo hi).all):=by
 have hb1:bnd=16777216:=rfl;have e:zn (b_3 ca f_e (en0 3 [(Kd.many k lo hi).t]))=zn (b_3 ca f_e [.vl (Kd.many k lo hi).t, .un, .un]):=rfl;rw [e,b_3,zG,ZH];obtain ⟨h1,h2,h3⟩:=h;have hml:=wg k lo hi;simp only [Kd.t];rw [cs0,Zg,show (("many":Str) == "whole")=false from rfl,if_neg Bool.false_ne_true,Wf];dsimp only;rw [zG,ZH,cs0,Zg,show (("many":Str) == "pick")=false from rfl,if_neg Bool.false_ne_true,Wf];dsimp only;rw [zG,ZH,cs0,Zg,show (("many":Str) == "row")=false from rfl,if_neg Bool.false_ne_true,Wf];dsimp only;have e0:UD 1 (zh) [.vl (.tup [.str "many",k.t, .int (lo:Int), .int (hi:Int)]), .un, .un]= .nx [.vl (.tup [.str "many",k.t, .int (lo:Int), .int (hi:Int)]), .ow [], .un]:=rfl;rw [zG,e0];dsimp only;obtain ⟨y,el⟩:=uH (k:=k) (lo:=lo) (H k h3) (Jd d k h3) (a:= .str "many") (b:= .int (lo:Int)) (c:= .int (hi:Int)) (List.range (hi+1 - lo)) [] .un (λj hj=>by have:=List.mem_range.mp hj; omega) (Kj hml hl)
 have e1:=vh (ca:=ca) (t:=k.t) h1 h2 el;rw [List.nil_append] at e1;rw [zk e1,Kd.all];rfl
theorem vk {ca:List T->R T} (d:Nat) (k:Kd) (h:k.Ok (d+1)) (hl:k.all.length<=1000000) (H:∀ k' :Kd,k'.Ok d->ca [k'.t]= .ok (.lst k'.all)):zn (b_3 ca f_e (en0 3 [k.t]))= .ok (.lst k.all):=by
 cases k with
 | whole lo hi=>exact qA d lo hi h hl H
 | pick cs=>exact vi d cs h hl H
 | row ks=>exact X2 d ks h hl H
 | many k lo hi=>exact vj d k lo hi h hl H
theorem UY:∀ (d n:Nat),d<=n->d<=3->∀ k:Kd,k.Ok d->k.all.length<=1000000->S_3 n 0 [k.t]= .ok (.lst k.all)
 | 0,_,_,_,_,h,_=>h.elim
 | d+1,0,hn,_,_,_,_=>by omega
 | d+1,n+1,hn,hd,k,h,hl=>by
  have e:S_3 (n+1) 0 [k.t]=zn (b_3 (S_3 n 0) f_e (en0 3 [k.t])):=rfl;rw [e];refine vk d k h hl λk' hk' =>UY d n (by omega) (by omega) k' hk' ?_
  have h1:=wP d k' hk';have:mx d<=1000000:=by
   have:d=0\/d=1\/d=2:=by omega
   rcases this with rfl | rfl | rfl <;> decide
  omega
theorem in2 {x a b:Str} {r:List T} {ρ:En}:zC inC (ze ixT (vE 0) (cE (.int 0))) (ZK (z9 (cE (.str a)) (z9 (cE (.str b)) (zh)))) (.vl (.tup (.str x :: r)) :: ρ)=inC (.str x) (.tup [.str a, .str b]):=by
 rw [zX,zm,v0,bOk,zS,bOk,at0,bOk,qf zS zS,bOk]
theorem WX {g:En->R Bool} {f1 f2:En->RS} {ρ:En} (h:g ρ= .ok true):ifS g f1 f2 ρ=f1 ρ:=by rw [ZH,h,Zg,if_pos rfl]
theorem if_f {g:En->R Bool} {f1 f2:En->RS} {ρ:En} (h:g ρ= .ok false):ifS g f1 f2 ρ=f2 ρ:=by rw [ZH,h,Zg,if_neg Bool.false_ne_true]
theorem ZM {g:En->R Bool} {f1:En->RS} {ρ:En} (h:g ρ= .ok false):ifS g f1 nxS ρ= .nx ρ:=by rw [if_f h]; rfl
theorem Z8 {i:Nat} {f:En->R T} {ρ:En} {t:T} (h:f ρ= .ok t):zH i f ρ= .nx (ρ.set i (.vl t)):=by rw [ZL,h,Zg]
theorem Z9 {f:En->R T} {ρ:En} {t:T} (h:f (frz ρ)= .ok t):zI f ρ= .rt t:=by rw [zW,h,Zg]
theorem JW {g:T->En->R En} {fb:En->RS} {t:T} {ts:List T} {ρ ρ1 ρ2:En} (hg:g t ρ= .ok ρ1) (hb:fb ρ1= .nx ρ2):ZI g fb (t :: ts) ρ=ZI g fb ts ρ2:=by
 rw [ZI,hg];dsimp only;rw [hb]
theorem ja {f g:En->RS} {ρ:En} {t:T} (h:f ρ= .rt t):zv f g ρ= .rt t:=by rw [zG,h]
theorem Vd {i j:Nat} (h:i < 2 ^ 60):Zn (.int (i:Int)) (.int (j:Int))= .ok (.int ((i*j:Nat):Int)):=by
 rw [qg _ _ (.inl ⟨by omega,by omega⟩),Int.natCast_mul]
theorem GL {d n:Nat} (h:n<=mx d) (hd:d<=3):n < 2 ^ 60:=by
 have:d=0\/d=1\/d=2\/d=3:=by omega
 have h3:mx 3 < 2 ^ 60:=by decide
 have h2:mx 2 < 2 ^ 60:=by decide
 have h1:mx 1 < 2 ^ 60:=by decide
 have h0:mx 0 < 2 ^ 60:=by decide
 rcases this with rfl | rfl | rfl | rfl <;> omega
theorem UZ {a b:Sl}:∀ (ns:List Nat) (m:Nat) (x y:Sl),(∀ n∈ns,1<=n)->m*prd ns < 2 ^ 60->∃ x',ZI (zz 3) (zH 2 (ze Zn (vE 2) (vE 3))) (ns.map λ(n:Nat)=>T.int (n:Int)) [a,b, .vl (.int (m:Int)),x,y]= .nx [a,b, .vl (.int ((m*prd ns:Nat):Int)),x',y]
 | [],m,x,y,_,_=>⟨x,by simp [ZI,prd]⟩
 | n :: ns,m,x,y,hp,hb=>by
  have hpr:=WH (ns:=ns) λk hk=>hp k (List.mem_cons_of_mem _ hk);have hn:=hp n List.mem_cons_self;have hmm:m<=m*prd (n :: ns):=Nat.le_mul_of_pos_right _ (Nat.mul_pos hn hpr);have hb2:m < 2 ^ 60:=Nat.lt_of_le_of_lt hmm hb;rw [prd,← Nat.mul_assoc] at hb;obtain ⟨x',ih⟩:=UZ (a:=a) (b:=b) ns (m*n) (.vl (.int (n:Int))) y (λk hk=>hp k (List.mem_cons_of_mem _ hk)) hb;refine ⟨x', ?_⟩;have es:zH 2 (ze Zn (vE 2) (vE 3)) [a,b, .vl (.int (m:Int)), .vl (.int (n:Int)),y]= .nx [a,b, .vl (.int ((m*n:Nat):Int)), .vl (.int (n:Int)),y]:=by
   rw [ZL,zm,v2,bOk,v3,bOk,Vd hb2,Zg]; rfl
  have s3:zz 3 (T.int (n:Int)) [a,b, .vl (.int (m:Int)),x,y]= .ok [a,b, .vl (.int (m:Int)), .vl (.int (n:Int)),y]:=rfl;rw [List.map_cons,JW s3 es,prd,← Nat.mul_assoc];exact ih
theorem WM:∀ (d:Nat) (lo hi:Int),(Kd.whole lo hi).Ok (d+1)->(Kd.whole lo hi).Ok 1
 | _,_,_,h=>h
theorem WN:∀ (d:Nat) (cs:List (Str×Int)),(Kd.pick cs).Ok (d+1)->(Kd.pick cs).Ok 1
 | _,_,h=>h
theorem uI {cs:List T->R T} (k:Kd) (h:k.Ok 1) {x:Str} {r:List T} (ht:k.t= .tup (.str x :: r)) (hx:inC (.str x) (.tup [.str "whole", .str "pick"])= .ok true):zn (b_8 (f_3 8) cs (en0 5 [k.t]))= .ok (.int (k.all.length:Int)):=by
 have ha:f_3 8 [k.t]= .ok (.lst k.all):=UY 1 8 (by omega) (by omega) k h (Nat.le_trans (wP 1 k h) (by decide))
 have e:zn (b_8 (f_3 8) cs (en0 5 [k.t]))=zn (b_8 (f_3 8) cs [.vl k.t, .un, .un, .un, .un]):=rfl;have e1:zC inC (ze ixT (vE 0) (cE (.int 0))) (ZK (z9 (cE (.str "whole")) (z9 (cE (.str "pick")) (zh)))) [.vl k.t, .un, .un, .un, .un]= .ok true:=by
  rw [ht,in2,hx]
 have e2:zI (ap1 zY (zd 1 (f_3 8) (z9 (vE 0) (zh)))) [.vl k.t, .un, .un, .un, .un]= .rt (.int (k.all.length:Int)):=by
  refine Z9 ?_;rw [ZX,ZB,Zv,v0,bOk,ha,bOk,Wz]
 rw [e,b_8,ja (by rw [WX e1,e2])]
 rfl
theorem GM (b:Bool):b2 b=(iv b:Int):=by cases b <;> rfl
theorem vm {cs:List T->R T} {d:Nat} (hd:d+1<=3) (ks:List Kd) (h:(Kd.row ks).Ok (d+1)) (H:∀ k:Kd,k.Ok d->cs [k.t]= .ok (.int (k.all.length:Int))):zn (b_8 (f_3 8) cs (en0 5 [(Kd.row ks).t]))= .ok (.int ((Kd.row ks).all.length:Int)):=by
 have hlt:=GL (wP (d+1) (.row ks) h) hd;rw [WK] at hlt ⊢;obtain ⟨h1,h2,h3⟩:=h;simp only [Kd.t,Kd.ts_map];have e:zn (b_8 (f_3 8) cs (en0 5 [.tup [.str "row", .tup (ks.map Kd.t)]]))=zn (b_8 (f_3 8) cs [.vl (.tup [.str "row", .tup (ks.map Kd.t)]), .un, .un, .un, .un]):=rfl;have e1:zC inC (ze ixT (vE 0) (cE (.int 0))) (ZK (z9 (cE (.str "whole")) (z9 (cE (.str "pick")) (zh)))) [.vl (.tup [.str "row", .tup (ks.map Kd.t)]), .un, .un, .un, .un]= .ok false:=by
  rw [in2]; rfl
 have ec:zR (zz 0) Zi (zd 1 cs (z9 (vE 0) (zh))) 1 [] [.vl (.tup [.str "row", .tup (ks.map Kd.t)]), .un, .un, .un, .un] (ks.map Kd.t)= .ok ((ks.map λk=>k.all.length).map λ(n:Nat)=>T.int (n:Int)):=by
  unfold zR;rw [if_pos (by rw [List.length_map]; exact Nat.le_trans h2 (by decide))]
  have:∀ (ks:List Kd) (x:Sl),(∀ k∈ks,k.Ok d)->zL (zz 0) Zi (zd 1 cs (z9 (vE 0) (zh))) (ks.map Kd.t) [x]= .ok ((ks.map λk=>k.all.length).map λ(n:Nat)=>T.int (n:Int)):=by
   intro ks
   induction ks with
   | nil=>intro _ _; rfl
   | cons k ks ih=>
    intro x hk;have e1:zL (zz 0) Zi (zd 1 cs (z9 (vE 0) (zh))) ((k :: ks).map Kd.t) [x]=(zd 1 cs (z9 (vE 0) (zh)) [.vl k.t]).bind λv=>(zL (zz 0) Zi (zd 1 cs (z9 (vE 0) (zh))) (ks.map Kd.t) [.vl k.t]).bind λvs=> .ok (v :: vs):=rfl;rw [e1,Zv,v0,bOk,H k (hk k List.mem_cons_self),bOk,ih _ λk' hk' =>hk k' (List.mem_cons_of_mem _ hk')];rfl
  show quiet (zL (zz 0) Zi _ (ks.map Kd.t) [.un])=_;rw [this ks .un h3]; rfl
 have e2:ifE (zC eqC (ze ixT (vE 0) (cE (.int 0))) (cE (.str "row"))) (Ze (jl (ze ixT (vE 0) (cE (.int 1)))) (zz 0) (Zi) (zd 1 cs (z9 (vE 0) (zh))) 1 []) (jb (zh)) [.vl (.tup [.str "row", .tup (ks.map Kd.t)]), .un, .un, .un, .un]= .ok (.lst ((ks.map λk=>k.all.length).map λ(n:Nat)=>T.int (n:Int))):=by
  unfold ifE;rw [cs0,bOk,show (("row":Str) == "row")=true from rfl,if_pos rfl,Z7,jf,yN,bOk];show ((R.ok (ks.map Kd.t)).bind _)=_;rw [bOk,ec,bOk]
 obtain ⟨x',el⟩:=UZ (a:= .vl (.tup [.str "row", .tup (ks.map Kd.t)])) (b:= .vl (.lst ((ks.map λk=>k.all.length).map λ(n:Nat)=>T.int (n:Int)))) (ks.map λk=>k.all.length) 1 .un .un (λn hn=>by
  obtain ⟨k,hk,rfl⟩:=List.mem_map.mp hn;exact Jd d k (h3 k hk)) (by rw [Nat.one_mul]; exact hlt)
 rw [Nat.one_mul] at el;have e3:jx (jl (vE 1)) (zz 3) (zH 2 (ze Zn (vE 2) (vE 3))) [.vl (.tup [.str "row", .tup (ks.map Kd.t)]), .vl (.lst ((ks.map λk=>k.all.length).map λ(n:Nat)=>T.int (n:Int))), .vl (.int 1), .un, .un]=_:=el;have e4:zC eqC (ze ixT (vE 0) (cE (.int 0))) (cE (.str "many")) [.vl (.tup [.str "row", .tup (ks.map Kd.t)]), .vl (.lst ((ks.map λk=>k.all.length).map λ(n:Nat)=>T.int (n:Int))), .vl (.int ((prd (ks.map λk=>k.all.length):Nat):Int)),x', .un]= .ok false:=by
  rw [cs0]; rfl
 rw [e,b_8,zk (ZM e1),zk (Z8 e2)];have s1:([.vl (.tup [.str "row", .tup (ks.map Kd.t)]), .un, .un, .un, .un]:En).set 1 (.vl (.lst ((ks.map λk=>k.all.length).map λ(n:Nat)=>T.int (n:Int))))=[.vl (.tup [.str "row", .tup (ks.map Kd.t)]), .vl (.lst ((ks.map λk=>k.all.length).map λ(n:Nat)=>T.int (n:Int))), .un, .un, .un]:=rfl;rw [s1,zk (Z8 zS)];have s2:([.vl (.tup [.str "row", .tup (ks.map Kd.t)]), .vl (.lst ((ks.map λk=>k.all.length).map λ(n:Nat)=>T.int (n:Int))), .un, .un, .un]:En).set 2 (.vl (.int 1))=[.vl (.tup [.str "row", .tup (ks.map Kd.t)]), .vl (.lst ((ks.map λk=>k.all.length).map λ(n:Nat)=>T.int (n:Int))), .vl (.int 1), .un, .un]:=rfl;rw [s2,zk e3,zk (ZM e4)];rfl
theorem Kk {f g:En->R T} {ρ:En} {i j c:Int} (hf:f ρ= .ok (.int i)) (hg:g ρ= .ok (.int j)):chE leC leC f (cE (.int c)) g ρ= .ok (.bl (decide (i<=c) && decide (c<=j))):=by
 rw [QZ,hf,bOk,zS,bOk,Wy,bOk,hg];cases decide (i<=c) <;> rfl
theorem wQ (a b:Nat):decide ((a:Int)<=(b:Int))=decide (a<=b):=by
 by_cases h:a<=b
 ·rw [decide_eq_true h]; exact decide_eq_true (by omega)
 ·rw [decide_eq_false h]; exact decide_eq_false (by omega)
theorem Ve (a b:Nat):((a:Int) == (b:Int))=(a == b):=by
 by_cases h:a=b
 ·subst h; simp
 ·rw [beq_eq_false_iff_ne.mpr h,beq_eq_false_iff_ne]; omega
theorem gC {f:En->R T} {ρ:En} {b:Bool} (h:f ρ= .ok (.bl b)):ap1 WV f ρ= .ok (.int ((iv b:Nat):Int)):=by
 rw [ZB,h,bOk];show R.ok (T.int (b2 b))=_;rw [GM]
theorem qB {f g:En->R T} {ρ:En} {i j:Nat} (hf:f ρ= .ok (.int (i:Int))) (hg:g ρ= .ok (.int (j:Int))):ze zu f g ρ= .ok (.int ((i+j:Nat):Int)):=by
 rw [zm,hf,bOk,hg,bOk,Zd,Int.natCast_add]
theorem JN {f g:En->R T} {ρ:En} {i j:Nat} (h:i < 2 ^ 60) (hf:f ρ= .ok (.int (i:Int))) (hg:g ρ= .ok (.int (j:Int))):ze Zn f g ρ= .ok (.int ((i*j:Nat):Int)):=by
 rw [zm,hf,bOk,hg,bOk,Vd h]
theorem X3 {d n:Nat} (h:n<=mx d) (hd:d+1<=3) (h0:1<=d):n*n*n < 2 ^ 60/\n*n < 2 ^ 60/\n < 2 ^ 60:=by
 have h1:n<=70644:=by
  have:d=1\/d=2:=by omega
  have h2:mx 2=70644:=by decide
  have h1:mx 1=41:=by decide
  rcases this with rfl | rfl <;> omega
 have h2:n*n<=70644*70644:=Nat.mul_le_mul h1 h1;have h3:n*n*n<=70644*70644*70644:=Nat.mul_le_mul h2 h1;have h4:70644*70644*70644 < 2 ^ 60:=by decide
 have h5:70644*70644 < 2 ^ 60:=by decide
 have h6:70644 < 2 ^ 60:=by decide
 exact ⟨Nat.lt_of_le_of_lt h3 h4,Nat.lt_of_le_of_lt h2 h5,Nat.lt_of_le_of_lt h1 h6⟩
abbrev mt (t:T) (lo hi:Nat):T:= .tup [.str "many",t, .int (lo:Int), .int (hi:Int)]
theorem v4' {t:T} {a b c d:Sl} {ρ:En}:vE 4 (a :: b :: c :: d :: .vl t :: ρ)= .ok t:=rfl
theorem qC {t:T} {a x:Sl} {lo hi n:Nat} (h3:n*n*n < 2 ^ 60) (h2:n*n < 2 ^ 60) (h1:n < 2 ^ 60):
  zv (zH 2 (ze zu (ap1 WV (w8 eqC (ze ixT (vE 0) (cE (.int 2))) (cE (.int 0)))) (ze Zn (vE 4) (ap1 WV (chE leC leC (ze ixT (vE 0) (cE (.int 2))) (cE (.int 1)) (ze ixT (vE 0) (cE (.int 3))))))))
  (zv (zH 2 (ze zu (vE 2) (ze Zn (ze Zn (vE 4) (vE 4)) (ap1 WV (chE leC leC (ze ixT (vE 0) (cE (.int 2))) (cE (.int 2)) (ze ixT (vE 0) (cE (.int 3))))))))
  (zH 2 (ze zu (vE 2) (ze Zn (ze Zn (ze Zn (vE 4) (vE 4)) (vE 4)) (ap1 WV (w8 eqC (ze ixT (vE 0) (cE (.int 3))) (cE (.int 3))))))))
  [.vl (mt t lo hi),a, .vl (.int 1),x, .vl (.int (n:Int))]= .nx [.vl (mt t lo hi),a, .vl (.int ((iv (lo == 0)+n*iv (decide (lo<=1) && decide (1<=hi))+n*n*iv (decide (lo<=2) && decide (2<=hi))+n*n*n*iv (hi == 3):Nat):Int)),x, .vl (.int (n:Int))]:=by
 have le1:∀ {p q r s:Sl},ap1 WV (chE leC leC (ze ixT (vE 0) (cE (.int 2))) (cE (.int 1)) (ze ixT (vE 0) (cE (.int 3)))) [.vl (mt t lo hi),p,q,r,s]= .ok (.int ((iv (decide (lo<=1) && decide (1<=hi)):Nat):Int)):=λ{p q r s}=>gC (by
  rw [Kk (c:=1) Vc XH];rw [show decide ((lo:Int)<=1)=decide (lo<=1) from wQ lo 1,show decide ((1:Int)<=(hi:Int))=decide (1<=hi) from wQ 1 hi])
 have le2:∀ {p q r s:Sl},ap1 WV (chE leC leC (ze ixT (vE 0) (cE (.int 2))) (cE (.int 2)) (ze ixT (vE 0) (cE (.int 3)))) [.vl (mt t lo hi),p,q,r,s]= .ok (.int ((iv (decide (lo<=2) && decide (2<=hi)):Nat):Int)):=λ{p q r s}=>gC (by
  rw [Kk (c:=2) Vc XH];rw [show decide ((lo:Int)<=2)=decide (lo<=2) from wQ lo 2,show decide ((2:Int)<=(hi:Int))=decide (2<=hi) from wQ 2 hi])
 have eq0:∀ {p q r s:Sl},ap1 WV (w8 eqC (ze ixT (vE 0) (cE (.int 2))) (cE (.int 0))) [.vl (mt t lo hi),p,q,r,s]= .ok (.int ((iv (lo == 0):Nat):Int)):=λ{p q r s}=>gC (by
  rw [jy,Vc,bOk,zS,bOk,eqI,bOk,show ((lo:Int) == 0)=(lo == 0) from Ve lo 0])
 have eq3:∀ {p q r s:Sl},ap1 WV (w8 eqC (ze ixT (vE 0) (cE (.int 3))) (cE (.int 3))) [.vl (mt t lo hi),p,q,r,s]= .ok (.int ((iv (hi == 3):Nat):Int)):=λ{p q r s}=>gC (by
  rw [jy,XH,bOk,zS,bOk,eqI,bOk,show ((hi:Int) == 3)=(hi == 3) from Ve hi 3])
 have a1:=Z8 (i:=2) (qB (eq0 (p:=a) (q:= .vl (.int 1)) (r:=x) (s:= .vl (.int (n:Int)))) (JN h1 v4' le1));have a1:zH 2 (ze zu (ap1 WV (w8 eqC (ze ixT (vE 0) (cE (.int 2))) (cE (.int 0)))) (ze Zn (vE 4) (ap1 WV (chE leC leC (ze ixT (vE 0) (cE (.int 2))) (cE (.int 1)) (ze ixT (vE 0) (cE (.int 3))))))) [.vl (mt t lo hi),a, .vl (.int 1),x, .vl (.int (n:Int))]= .nx [.vl (mt t lo hi),a, .vl (.int ((iv (lo == 0)+n*iv (decide (lo<=1) && decide (1<=hi)):Nat):Int)),x, .vl (.int (n:Int))]:=a1;rw [zk a1];generalize iv (lo == 0)+n*iv (decide (lo<=1) && decide (1<=hi))=m1;have a2:=Z8 (i:=2) (qB (v2 (t:= .int (m1:Int)) (a:= .vl (mt t lo hi)) (b:=a) (ρ:=[x, .vl (.int (n:Int))])) (JN h2 (JN h1 v4' v4') le2));have a2:zH 2 (ze zu (vE 2) (ze Zn (ze Zn (vE 4) (vE 4)) (ap1 WV (chE leC leC (ze ixT (vE 0) (cE (.int 2))) (cE (.int 2)) (ze ixT (vE 0) (cE (.int 3))))))) [.vl (mt t lo hi),a, .vl (.int (m1:Int)),x, .vl (.int (n:Int))]= .nx [.vl (mt t lo hi),a, .vl (.int ((m1+n*n*iv (decide (lo<=2) && decide (2<=hi)):Nat):Int)),x, .vl (.int (n:Int))]:=a2;rw [zk a2];generalize m1+n*n*iv (decide (lo<=2) && decide (2<=hi))=m2;have a3:=Z8 (i:=2) (qB (v2 (t:= .int (m2:Int)) (a:= .vl (mt t lo hi)) (b:=a) (ρ:=[x, .vl (.int (n:Int))])) (JN h3 (JN h2 (JN h1 v4' v4') v4') eq3));exact a3
theorem qD {cs:List T->R T} {d:Nat} (hd:d+1<=3) (k:Kd) (lo hi:Nat) (h:(Kd.many k lo hi).Ok (d+1)) (H:∀ k:Kd,k.Ok d->cs [k.t]= .ok (.int (k.all.length:Int))):zn (b_8 (f_3 8) cs (en0 5 [(Kd.many k lo hi).t]))= .ok (.int ((Kd.many k lo hi).all.length:Int)):=by
 obtain ⟨h1,h2,h3⟩:=h;have hd0:1<=d:=by
  cases d with
  | zero=>exact h3.elim
  | succ d=>omega
 obtain ⟨c3,c2,c1⟩:=X3 (wP d k h3) hd hd0;rw [wg,X0 _ h1 h2];simp only [Kd.t];have hk:=H k h3;generalize k.all.length=n at*;generalize k.t=t at*;have e:zn (b_8 (f_3 8) cs (en0 5 [mt t lo hi]))=zn (b_8 (f_3 8) cs [.vl (mt t lo hi), .un, .un, .un, .un]):=rfl;have e1:zC inC (ze ixT (vE 0) (cE (.int 0))) (ZK (z9 (cE (.str "whole")) (z9 (cE (.str "pick")) (zh)))) [.vl (mt t lo hi), .un, .un, .un, .un]= .ok false:=by
  rw [in2]; rfl
 have e2:ifE (zC eqC (ze ixT (vE 0) (cE (.int 0))) (cE (.str "row"))) (Ze (jl (ze ixT (vE 0) (cE (.int 1)))) (zz 0) (Zi) (zd 1 cs (z9 (vE 0) (zh))) 1 []) (jb (zh)) [.vl (mt t lo hi), .un, .un, .un, .un]= .ok (.lst []):=by
  unfold ifE;rw [cs0,bOk,show (("many":Str) == "row")=false from rfl,if_neg Bool.false_ne_true];rfl
 have s1:([.vl (mt t lo hi), .un, .un, .un, .un]:En).set 1 (.vl (.lst []))=[.vl (mt t lo hi), .vl (.lst []), .un, .un, .un]:=rfl;have s2:([.vl (mt t lo hi), .vl (.lst []), .un, .un, .un]:En).set 2 (.vl (.int 1))=[.vl (mt t lo hi), .vl (.lst []), .vl (.int 1), .un, .un]:=rfl;have e3:jx (jl (vE 1)) (zz 3) (zH 2 (ze Zn (vE 2) (vE 3))) [.vl (mt t lo hi), .vl (.lst []), .vl (.int 1), .un, .un]= .nx [.vl (mt t lo hi), .vl (.lst []), .vl (.int 1), .un, .un]:=rfl;have e4:zC eqC (ze ixT (vE 0) (cE (.int 0))) (cE (.str "many")) [.vl (mt t lo hi), .vl (.lst []), .vl (.int 1), .un, .un]= .ok true:=by
  rw [cs0]; rfl
 have e5:zd 1 cs (z9 (ze ixT (vE 0) (cE (.int 1))) (zh)) [.vl (mt t lo hi), .vl (.lst []), .vl (.int 1), .un, .un]= .ok (.int (n:Int)):=by
  rw [Zv,yN,bOk,hk]
 have s5:([.vl (mt t lo hi), .vl (.lst []), .vl (.int 1), .un, .un]:En).set 4 (.vl (.int (n:Int)))=[.vl (mt t lo hi), .vl (.lst []), .vl (.int 1), .un, .vl (.int (n:Int))]:=rfl;have e6:=qC (t:=t) (a:= .vl (.lst [])) (x:= .un) (lo:=lo) (hi:=hi) c3 c2 c1;rw [e,b_8,zk (ZM e1),zk (Z8 e2),s1,zk (Z8 zS),s2,zk e3];have e7:∀ (P:En->RS),ifS (zC eqC (ze ixT (vE 0) (cE (.int 0))) (cE (.str "many"))) (zv (zH 4 (zd 1 cs (z9 (ze ixT (vE 0) (cE (.int 1))) (zh)))) P) nxS [.vl (mt t lo hi), .vl (.lst []), .vl (.int 1), .un, .un]=P [.vl (mt t lo hi), .vl (.lst []), .vl (.int 1), .un, .vl (.int (n:Int))]:=λP=>by
  rw [WX e4,zk (Z8 e5),s5]
 rw [zk (Eq.trans (e7 _) e6)];rfl
theorem qE:∀ (d n:Nat),d<=n->d<=3->∀ k:Kd,k.Ok d->S_8 n 0 [k.t]= .ok (.int (k.all.length:Int))
 | 0,_,_,_,_,h=>h.elim
 | d+1,0,hn,_,_,_=>by omega
 | d+1,n+1,hn,hd,k,h=>by
  have e:S_8 (n+1) 0 [k.t]=zn (b_8 (f_3 8) (S_8 n 0) (en0 5 [k.t])):=rfl;rw [e];have H:∀ k:Kd,k.Ok d->S_8 n 0 [k.t]= .ok (.int (k.all.length:Int)):=λk' hk' =>qE d n (by omega) (by omega) k' hk'
  cases k with
  | whole lo hi=>exact uI (.whole lo hi) (WM d lo hi h) (x:="whole") (r:=[.int lo, .int hi]) (by simp only [Kd.t]) rfl
  | pick cs=>exact uI (.pick cs) (WN d cs h) (x:="pick") (r:=[.tup (cs.map JM)]) (by simp only [Kd.t]) rfl
  | row ks=>exact vm (by omega) ks h H
  | many k lo hi=>exact qD (by omega) k lo hi h H
theorem Ok.mono:∀ (d:Nat) (k:Kd),k.Ok d->k.Ok (d+1)
 | 0,_,h=>h.elim
 | d+1, .whole _ _,h=>h
 | d+1, .pick _,h=>h
 | d+1, .row ks,h=>⟨h.1,h.2.1,λk hk=>Ok.mono d k (h.2.2 k hk)⟩
 | d+1, .many k _ _,h=>⟨h.1,h.2.1,Ok.mono d k h.2.2⟩
theorem X4 (j:Int):Zn (.int 700) (.int j)= .ok (.int (700*j)):=qg _ _ (.inl ⟨by decide,by decide⟩)
theorem Kl (ns:List Int) (d:Nat) (h1:1<=d) (h8:d<=8) (k:Int) (h0:0<=k):∃ q:Kd,f_f 8 [scr ns, .int k, .int (d:Int)]= .ok q.t/\q.Ok d:=by
 obtain ⟨t,ht,hi⟩:=Ub ns d 8 h8 h1 k h0;obtain ⟨q,rfl,hq⟩:=Uh d t hi;exact ⟨q,ht,hq⟩
abbrev smB:En->RS:=zv (ifS (zC leC (zd 1 (f_8 8) (z9 (vE 3) (zh))) (vB 2)) (zI (vE 3)) (nxS))
  (zH 3 (zd 3 (f_f 8) (z9 (vE 0) (z9 (ze zu (ze zu (vE 1) (cE (.int 500))) (ze Zn (cE (.int 700)) (vE 4))) (z9 (cE (.int 2)) (zh))))))
abbrev en5 (ns:List Int) (a:Int) (m:Nat) (k:Kd) (x:Sl):En:=[.vl (scr ns), .vl (.int a), .vl (.int (m:Int)), .vl k.t,x]
theorem qF {ns:List Int} {a:Int} {m:Nat} {k:Kd} {x:Sl} (hk:k.Ok 3):zC leC (zd 1 (f_8 8) (z9 (vE 3) (zh))) (vB 2) (en5 ns a m k x)= .ok (decide (k.all.length<=m)):=by
 have e:f_8 8 [k.t]= .ok (.int (k.all.length:Int)):=qE 3 8 (by omega) (by omega) k hk
 rw [zX,Zv,v3,bOk,e,bOk,w2,bOk,Wy,wQ]
theorem X5 (ns:List Int) {a:Int} {m:Nat} (ha:0<=a) {k:Kd} (hk:k.Ok 3) (j:Nat):(k.all.length<=m/\smB (en5 ns a m k (.vl (.int (0+(j:Int)))))= .rt k.t)\/∃ k' :Kd,k'.Ok 3/\smB (en5 ns a m k (.vl (.int (0+(j:Int)))))= .nx (en5 ns a m k' (.vl (.int (0+(j:Int))))):=by
 by_cases h:k.all.length<=m
 ·refine .inl ⟨h, ?_⟩;unfold smB;refine ja ?_;rw [WX (by rw [qF hk,decide_eq_true h])]
  exact Z9 rfl
 ·obtain ⟨q,hq,ho⟩:=Kl ns 2 (by omega) (by omega) (a+500+700*(0+(j:Int))) (by omega)
  refine .inr ⟨q,Ok.mono 2 q ho, ?_⟩;unfold smB;rw [zk (ZM (by rw [qF hk,decide_eq_false h]))]
  have hq:f_f 8 [scr ns, .int (a+500+700*(0+(j:Int))), .int 2]= .ok q.t:=hq;have e:zd 3 (f_f 8) (z9 (vE 0) (z9 (ze zu (ze zu (vE 1) (cE (.int 500))) (ze Zn (cE (.int 700)) (vE 4))) (z9 (cE (.int 2)) (zh)))) (en5 ns a m k (.vl (.int (0+(j:Int)))))= .ok q.t:=by
   rw [Z2,v0,bOk,zm,zm,v1,bOk,zS,bOk,Zd,bOk,zm,zS,bOk,v4,bOk,X4,bOk,Zd,bOk,zS,bOk,hq]
  rw [Z8 e];rfl
theorem Vf {g:T->En->R En} {fb:En->RS} {t:T} {ts:List T} {ρ ρ1:En} {r:T} (hg:g t ρ= .ok ρ1) (hb:fb ρ1= .rt r):ZI g fb (t :: ts) ρ= .rt r:=by
 rw [ZI,hg];dsimp only;rw [hb]
theorem qG (ns:List Int) {a:Int} {m:Nat} (ha:0<=a):∀ (js:List Nat) (k:Kd) (x:Sl),k.Ok 3->(∃ k' :Kd,k'.Ok 3/\k'.all.length<=m/\ZI (zz 4) smB (js.map λ(j:Nat)=>T.int (0+(j:Int))) (en5 ns a m k x)= .rt k'.t)\/
  ∃ (k' :Kd) (x' :Sl),k'.Ok 3/\ZI (zz 4) smB (js.map λ(j:Nat)=>T.int (0+(j:Int))) (en5 ns a m k x)= .nx (en5 ns a m k' x')
 | [],k,x,hk=> .inr ⟨k,x,hk,rfl⟩
 | j :: js,k,x,hk=>by
  have s3:zz 4 (T.int (0+(j:Int))) (en5 ns a m k x)= .ok (en5 ns a m k (.vl (.int (0+(j:Int))))):=rfl;rw [List.map_cons];rcases X5 ns ha (m:=m) hk j with ⟨h1,h2⟩ | ⟨k',h1,h2⟩
  ·exact .inl ⟨k,hk,h1,Vf s3 h2⟩
  ·rw [JW s3 h2];exact qG ns ha js k' _ h1
theorem y0 (ns:List Int) (a:Int) (ha:0<=a) (m:Nat) (hm:4<=m):∃ k:Kd,k.Ok 3/\k.all.length<=m/\f_s [scr ns, .int a, .int (m:Int)]= .ok k.t:=by
 obtain ⟨q,hq,ho⟩:=Kl ns 3 (by omega) (by omega) a ha
 have hq:f_f 8 [scr ns, .int a, .int 3]= .ok q.t:=hq;have e:f_s [scr ns, .int a, .int (m:Int)]=zn (b_s (f_f 8) (f_8 8) [.vl (scr ns), .vl (.int a), .vl (.int (m:Int)), .un, .un]):=rfl;have e1:zd 3 (f_f 8) (z9 (vE 0) (z9 (vE 1) (z9 (cE (.int 3)) (zh)))) [.vl (scr ns), .vl (.int a), .vl (.int (m:Int)), .un, .un]= .ok q.t:=by
  rw [Z2,v0,bOk,v1,bOk,zS,bOk,hq]
 have s1:([.vl (scr ns), .vl (.int a), .vl (.int (m:Int)), .un, .un]:En).set 3 (.vl q.t)=en5 ns a m q .un:=rfl;rw [e,b_s,zk (Z8 e1),s1];rcases qG ns ha (m:=m) (List.range 3) q .un ho with ⟨k,h1,h2,h3⟩ | ⟨k,x,h1,h3⟩
 ·refine ⟨k,h1,h2, ?_⟩;have e2:jx (Zu (cE (.int 3))) (zz 4) smB (en5 ns a m q .un)= .rt k.t:=h3;rw [ja e2];rfl
 ·have e2:jx (Zu (cE (.int 3))) (zz 4) smB (en5 ns a m q .un)= .nx (en5 ns a m k x):=h3;rw [zk e2];have ec:zC leC (zd 1 (f_8 8) (z9 (vE 3) (zh))) (vB 2) (frz (en5 ns a m k x))= .ok (decide (k.all.length<=m)):=qF (x:=Jg x) h1
  by_cases h:k.all.length<=m
  ·refine ⟨k,h1,h, ?_⟩;rw [Z9 (t:=k.t)]
   ·rfl
   ·unfold ifE;rw [ec,bOk,decide_eq_true h,if_pos rfl];rfl
  ·refine ⟨.whole (-1) 2,⟨by omega,by omega,by omega⟩,by rw [jS]; exact hm, ?_⟩
   rw [Z9 (t:=(Kd.whole (-1) 2).t)]
   ·rfl
   ·unfold ifE;rw [ec,bOk,decide_eq_false h,if_neg Bool.false_ne_true,Kd.t];rfl
mutual
def Kd.has:Kd->T->Bool
 | .whole lo hi=>λt=>inR lo hi t
 | .pick cs=>λt=>match t with | .str x=>cs.any λc=>c.1 == x | _=>false
 | .row ks=>λt=>match t with | .tup xs=>xs.length == ks.length && Kd.hass ks xs | _=>false
 | .many k lo hi=>λt=>match t with | .tup xs=>decide (lo<=xs.length) && decide (xs.length<=hi) && xs.all k.has | _=>false
def Kd.hass:List Kd->List T->Bool
 | []=>λ_=>true
 | k :: ks=>λxs=>match xs with | []=>true | x :: xs=>k.has x && Kd.hass ks xs
end
theorem wk:∀ (ks:List Kd) (xs:List T),Kd.hass ks xs=(ks.zip xs).all λq=>q.1.has q.2
 | [],_=>by simp [Kd.hass]
 | k :: ks,[]=>by simp [Kd.hass]
 | k :: ks,x :: xs=>by simp [Kd.hass,wk ks xs]
def yO:List (List T)->List T->Prop
 | [],[]=>True
 | l :: ls,x :: xs=>x∈l/\yO ls xs
 | _,_=>False
theorem wR:∀ (ls made:List (List T)) (xs:List T),xs∈W1 made ls↔∃ a∈made,∃ b,yO ls b/\xs=a++b
 | [],made,xs=>by
  rw [W1];constructor
  ·exact λh=>⟨xs,h,[],trivial,by simp⟩
  ·rintro ⟨a,ha,b,hb,rfl⟩
   cases b with
   | nil=>simpa using ha
   | cons=>exact hb.elim
 | l :: ls,made,xs=>by
  rw [W1,wR ls];constructor
  ·rintro ⟨a',ha',b,hb,rfl⟩
   obtain ⟨a,ha,hx⟩:=List.mem_flatMap.mp ha';obtain ⟨x,hl,e⟩:=List.mem_map.mp hx;exact ⟨a,ha,x :: b,⟨hl,hb⟩,by rw [← e]; simp⟩
  ·rintro ⟨a,ha,b,hb,rfl⟩
   cases b with
   | nil=>exact hb.elim
   | cons x b=>exact ⟨a++[x],List.mem_flatMap.mpr ⟨a,ha,List.mem_map.mpr ⟨x,hb.1,rfl⟩⟩,b,hb.2,by simp⟩
theorem WO (ls:List (List T)) (t:T):t∈Ui ls↔∃ xs,yO ls xs/\t= .tup xs:=by
 unfold Ui;rw [List.mem_map];constructor
 ·rintro ⟨xs,h,rfl⟩
  obtain ⟨a,ha,b,hb,rfl⟩:=(wR ls [[]] xs).mp h;rw [List.mem_singleton.mp ha];exact ⟨b,hb,rfl⟩
 ·rintro ⟨xs,h,rfl⟩
  exact ⟨xs,(wR ls [[]] xs).mpr ⟨[],List.mem_singleton.mpr rfl,xs,h,rfl⟩,rfl⟩
theorem WP (l:List T):∀ (m:Nat) (xs:List T),yO (List.replicate m l) xs↔xs.length=m/\∀ x∈xs,x∈l
 | 0,[]=>by simp [yO]
 | 0,x :: xs=>by simp [yO]
 | m+1,[]=>by simp [yO,List.replicate_succ]
 | m+1,x :: xs=>by
  rw [List.replicate_succ];show x∈l/\yO _ xs↔_;rw [WP l m xs];simp;constructor
  ·rintro ⟨a,b,c⟩; exact ⟨b,a,c⟩
  ·rintro ⟨a,b,c⟩; exact ⟨b,a,c⟩
theorem uJ:∀ (ks:List Kd),(∀ k∈ks,∀ x,x∈k.all↔k.has x=true)->∀ xs,yO (ks.map Kd.all) xs↔(xs.length == ks.length && Kd.hass ks xs)=true
 | [],_,[]=>by simp [yO,Kd.hass]
 | [],_,x :: xs=>by simp [yO]
 | k :: ks,h,[]=>by simp [yO]
 | k :: ks,h,x :: xs=>by
  show x∈k.all/\yO (ks.map Kd.all) xs↔_;rw [uJ ks (λk' hk' =>h k' (List.mem_cons_of_mem _ hk')) xs,h k List.mem_cons_self x];simp [Kd.hass];constructor
  ·rintro ⟨a,b,c⟩; exact ⟨b,a,c⟩
  ·rintro ⟨a,b,c⟩; exact ⟨b,a,c⟩
mutual
theorem ZN:∀ (k:Kd) (x:T),x∈k.all↔k.has x=true
 | .whole lo hi,x=>by
  rw [Kd.all,Kd.has,List.mem_map];constructor
  ·rintro ⟨i,hi',rfl⟩
   rw [List.mem_range] at hi';simp [inR]; omega
  ·intro h;obtain ⟨i,rfl⟩:=JL h;simp [inR] at h;exact ⟨(i - lo).toNat,by rw [List.mem_range]; omega,by congr 1; omega⟩
 | .pick cs,x=>by
  rw [Kd.all,Kd.has,List.mem_map];constructor
  ·rintro ⟨c,hc,rfl⟩
   simp only [List.any_eq_true];exact ⟨c,hc,by simp⟩
  ·intro h;dsimp only at h;split at h
   ·rw [List.any_eq_true] at h;obtain ⟨c,hc,e⟩:=h;exact ⟨c,hc,by rw [eq_of_beq e]⟩
   ·cases h
 | .row ks,x=>by
  rw [Kd.all,Kd.has,WO,Kd.alls_map];have:=uJ ks (y6 ks);constructor
  ·rintro ⟨xs,h,rfl⟩
   exact (this xs).mp h
  ·intro h;dsimp only at h;split at h
   ·rename_i xs;exact ⟨xs,(this xs).mpr h,rfl⟩
   ·cases h
 | .many k lo hi,x=>by
  rw [Kd.all,Kd.has,List.mem_flatMap];constructor
  ·rintro ⟨i,hi',h⟩
   rw [WO] at h;obtain ⟨xs,h,rfl⟩:=h;rw [WP] at h;rw [List.mem_range] at hi';simp only [Bool.and_eq_true,decide_eq_true_eq,List.all_eq_true];exact ⟨⟨by omega,by omega⟩,λy hy=>(ZN k y).mp (h.2 y hy)⟩
  ·intro h;dsimp only at h;split at h
   ·rename_i xs;simp only [Bool.and_eq_true,decide_eq_true_eq,List.all_eq_true] at h;refine ⟨xs.length - lo,by rw [List.mem_range]; omega, ?_⟩
    rw [WO];exact ⟨xs,(WP _ _ _).mpr ⟨by omega,λy hy=>(ZN k y).mpr (h.2 y hy)⟩,rfl⟩
   ·cases h
theorem y6:∀ (ks:List Kd),∀ k∈ks,∀ x,x∈k.all↔k.has x=true
 | [],_,h=>nomatch h
 | k :: ks,k',h=>by
  rcases List.mem_cons.mp h with e | h
  ·intro x;rw [e];exact ZN k x
  ·exact y6 ks k' h
end
theorem Wg {c:List T->R T}:∀ (qs:List (Kd×T)) (x y:Sl),(∀ q∈qs,c [q.1.t,q.2]= .ok (.bl (q.1.has q.2)))->zL (Z1 0 1) Zi (zd 2 c (z9 (vE 0) (z9 (vE 1) (zh)))) (qs.map λq=>T.tup [q.1.t,q.2]) [x,y]= .ok (qs.map λq=>T.bl (q.1.has q.2))
 | [],_,_,_=>rfl
 | q :: qs,x,y,h=>by
  have e:zd 2 c (z9 (vE 0) (z9 (vE 1) (zh))) [.vl q.1.t, .vl q.2]= .ok (.bl (q.1.has q.2)):=by
   rw [ZA,v0,bOk,v1,bOk,h q List.mem_cons_self]
  have ih:=Wg qs (.vl q.1.t) (.vl q.2) λr hr=>h r (List.mem_cons_of_mem _ hr);have e0:zL (Z1 0 1) Zi (zd 2 c (z9 (vE 0) (z9 (vE 1) (zh)))) ((q :: qs).map λq=>T.tup [q.1.t,q.2]) [x,y]=
   (zd 2 c (z9 (vE 0) (z9 (vE 1) (zh))) [.vl q.1.t, .vl q.2]).bind λv=>(zL (Z1 0 1) Zi (zd 2 c (z9 (vE 0) (z9 (vE 1) (zh)))) (qs.map λq=>T.tup [q.1.t,q.2]) [.vl q.1.t, .vl q.2]).bind λvs=> .ok (v :: vs):=rfl
  rw [e0,e,bOk,ih,bOk,List.map_cons]
theorem y7 {α:Type} (p:α->Bool):∀ qs:List α,uU (qs.map λq=>T.bl (p q))=some (qs.all p)
 | []=>rfl
 | q :: qs=>by
  have e:uU ((q :: qs).map λq=>T.bl (p q))=match uU (qs.map λq=>T.bl (p q)) with | some j=>some (p q && j) | none=>none:=rfl
  rw [e,y7 p qs];rfl
theorem GN (ks:List Kd) (xs:List T):YL (ks.map Kd.t) xs=(ks.zip xs).map λq=>T.tup [q.1.t,q.2]:=by
 unfold YL;rw [List.zip_map_left,List.map_map];rfl
theorem y8 {c:List T->R T} {s:T} (ks:List Kd) (xs:List T) (hs:JZ s= .ok (ks.map Kd.t)) (hl:ks.length<=3) (H:∀ q∈ks.zip xs,c [q.1.t,q.2]= .ok (.bl (q.1.has q.2))):
  zn (K2 c (en0 2 [s, .tup xs]))= .ok (.bl ((ks.zip xs).all λq=>q.1.has q.2)):=by
 have e:en0 2 [s, .tup xs]=[.vl s, .vl (.tup xs)]:=rfl;have ez:kU (vE 0) (vE 1) [.vl s, .vl (.tup xs)]= .ok ((ks.zip xs).map λq=>T.tup [q.1.t,q.2]):=by
  show (JZ s).bind _=_;rw [hs,bOk,← GN];rfl
 have hb:((ks.zip xs).map λq=>T.tup [q.1.t,q.2]).length<=bnd:=by
  rw [List.length_map,List.length_zip];exact Nat.le_trans (Nat.min_le_left _ _) (Nat.le_trans hl (by decide))
 have ec:zR (Z1 0 1) Zi (zd 2 c (z9 (vE 0) (z9 (vE 1) (zh)))) 2 [] [.vl s, .vl (.tup xs)] ((ks.zip xs).map λq=>T.tup [q.1.t,q.2])= .ok ((ks.zip xs).map λq=>T.bl (q.1.has q.2)):=by
  unfold zR;rw [if_pos hb];show quiet (zL _ _ _ _ [.un, .un])=_;rw [Wg _ _ _ H];rfl
 rw [e,K2,Z9 (t:= .bl ((ks.zip xs).all λq=>q.1.has q.2))]
 ·rfl
 ·show ap1 _ _ [.vl s, .vl (.tup xs)]=_;rw [ZB,Z7,ez,bOk,ec,bOk,bOk];show (match uU ((ks.zip xs).map λq=>T.bl (q.1.has q.2)) with | some k=>_ | none=>_)=_
  rw [y7]
theorem y9 (cs:List (Str×Int)) (h:cs.length<=4):f_m [(Kd.pick cs).t]= .ok (.lst (cs.map λc=>T.str c.1)):=by
 have e:f_m [(Kd.pick cs).t]=zn (b_m [.vl (.tup [.str "pick", .tup (cs.map JM)])]):=by rw [Kd.t]; rfl
 have hb:(cs.map JM).length<=bnd:=by rw [List.length_map]; exact Nat.le_trans h (by decide)
 have ec:zR (zz 0) Zi (ze ixT (vE 0) (cE (.int 0))) 1 [] [.vl (.tup [.str "pick", .tup (cs.map JM)])] (cs.map JM)= .ok ((cs.map JM).map λc=>match c with | .tup (w :: _)=>w | _=>c):=
  Zs _ hb λt ht=>by
   obtain ⟨c,_,rfl⟩:=List.mem_map.mp ht;rfl
 rw [e,b_m,Z9 (t:= .lst (cs.map λc=>T.str c.1))]
 ·rfl
 ·show Ze _ _ _ _ _ _ [.vl (.tup [.str "pick", .tup (cs.map JM)])]=_;rw [Z7,jf,yN,bOk];show ((zR _ _ _ _ _ _ (cs.map JM)).bind _)=_;rw [ec,bOk,List.map_map];rfl
theorem ya (t:T):∀ cs:List (Str×Int),WT (λy=>eqF 30 y t) (cs.map λc=>T.str c.1)=some ((Kd.pick cs).has t)
 | []=>by rw [Kd.has]; cases t <;> rfl
 | c :: cs=>by
  have ih:=ya t cs;rw [Kd.has] at ih ⊢;have e:WT (λy=>eqF 30 y t) ((c :: cs).map λc=>T.str c.1)=match eqF 30 (.str c.1) t with
   | none=>none
   | some b=>match WT (λy=>eqF 30 y t) (cs.map λc=>T.str c.1) with
    | none=>none
    | some d=>some (b || d):=rfl
  rw [e,ih];cases t <;> rfl
abbrev en2 (a b:T):En:=[.vl a, .vl b]
theorem X6 {x w:Str} {r:List T} {b:T} (h:(x == w)=false) {f:En->RS}:ifS (zC eqC (ze ixT (vE 0) (cE (.int 0))) (cE (.str w))) f nxS (en2 (.tup (.str x :: r)) b)= .nx (en2 (.tup (.str x :: r)) b):=
 ZM (by rw [cs0,h])
theorem Km {x:Str} {r:List T} {b:T} {f:En->RS}:ifS (zC eqC (ze ixT (vE 0) (cE (.int 0))) (cE (.str x))) f nxS (en2 (.tup (.str x :: r)) b)=f (en2 (.tup (.str x :: r)) b):=
 WX (by rw [cs0,beq_self_eq_true])
theorem qH {cp:List T->R T} (lo hi:Int) (x:T):zn (b_h f_k f_b f_m cp (en0 2 [(Kd.whole lo hi).t,x]))= .ok (.bl ((Kd.whole lo hi).has x)):=by
 have e:en0 2 [(Kd.whole lo hi).t,x]=en2 (.tup [.str "whole", .int lo, .int hi]) x:=by rw [Kd.t]; rfl
 rw [e,b_h,ja (t:= .bl (inR lo hi x))]
 ·rw [Kd.has]; rfl
 ·rw [Km,Z9];show Jf _ _ (en2 _ x)=_;rw [Js,Zv,v1,bOk,UQ,ZF];cases x with
  | int i=>
   rw [show isW (T.int i)=true from rfl,if_pos rfl,QZ,yN,bOk,w1,bOk,Wy,bOk,Vc,bOk,Wy,bOk];show _=R.ok (T.bl (decide (lo<=i) && decide (i<=hi)));cases decide (lo<=i) <;> rfl
  | _=>rfl
theorem vn {cp:List T->R T} (cs:List (Str×Int)) (h4:cs.length<=4) (x:T):zn (b_h f_k f_b f_m cp (en0 2 [(Kd.pick cs).t,x]))= .ok (.bl ((Kd.pick cs).has x)):=by
 have e:en0 2 [(Kd.pick cs).t,x]=en2 (.tup [.str "pick", .tup (cs.map JM)]) x:=by rw [Kd.t]; rfl
 have hw:=y9 cs h4;rw [Kd.t] at hw;rw [e,b_h,zk (X6 (by decide)),ja (t:= .bl ((Kd.pick cs).has x))]
 ·rfl
 ·rw [Km,Z9];show w8 _ _ _ (en2 _ x)=_;rw [jy,w1,bOk,Zv,v0,bOk,hw,bOk];show ((match WT (λy=>eqF 30 y x) (cs.map λ(c:Str×Int)=>T.str c.1) with | some b=>R.ok b | none=> .bad).bind _)=_
  rw [ya];rfl
theorem X7 {cp:List T->R T} (ks:List Kd) (h3:ks.length<=3) (x:T) (H:∀ xs,x= .tup xs->cp [.tup (ks.map Kd.t),x]= .ok (.bl ((ks.zip xs).all λq=>q.1.has q.2))):zn (b_h f_k f_b f_m cp (en0 2 [(Kd.row ks).t,x]))= .ok (.bl ((Kd.row ks).has x)):=by
 have e:en0 2 [(Kd.row ks).t,x]=en2 (.tup [.str "row", .tup (ks.map Kd.t)]) x:=by rw [Kd.t,Kd.ts_map]; rfl
 rw [e,b_h,zk (X6 (by decide)),zk (X6 (by decide)),ja (t:= .bl ((Kd.row ks).has x))]
 ·rfl
 ·rw [Km,Z9];show Jf _ _ (en2 _ x)=_;have el:ap1 zY (ze ixT (vE 0) (cE (.int 1))) (en2 (.tup [.str "row", .tup (ks.map Kd.t)]) x)= .ok (.int (ks.length:Nat)):=by
   rw [ZB,yN,bOk,jr,List.length_map]
  rw [Js,Z2,v1,bOk,el,bOk,bOk,j8,ZF,ZA,yN,bOk,v1,bOk,Kd.has];cases x with
  | tup xs=>
   rw [H xs rfl];show (if (decide (ks.length<=xs.length) && decide (xs.length<=ks.length))=true then _ else _)=R.ok (T.bl (xs.length == ks.length && Kd.hass ks xs))
   rw [wk]
   by_cases h:xs.length=ks.length
   ·rw [if_pos (by simp [h])]
    simp [h]
   ·rw [if_neg (by simp; omega)]
    simp [h]
  | _=>rfl
theorem Uj (k:Kd):∀ xs:List T,((List.replicate xs.length k).zip xs).all (λq=>q.1.has q.2)=xs.all k.has
 | []=>rfl
 | x :: xs=>by
  rw [List.length_cons,List.replicate_succ,List.zip_cons_cons,List.all_cons,List.all_cons,Uj k xs]
theorem vo {cp:List T->R T} (k:Kd) (lo hi:Nat) (h3:hi<=3) (x:T) (H:∀ xs,x= .tup xs->xs.length<=3->cp [.lst ((List.replicate xs.length k).map Kd.t),x]= .ok (.bl (((List.replicate xs.length k).zip xs).all λq=>q.1.has q.2))):zn (b_h f_k f_b f_m cp (en0 2 [(Kd.many k lo hi).t,x]))= .ok (.bl ((Kd.many k lo hi).has x)):=by
 have e:en0 2 [(Kd.many k lo hi).t,x]=en2 (.tup [.str "many",k.t, .int (lo:Int), .int (hi:Int)]) x:=by rw [Kd.t]; rfl
 rw [e,b_h,zk (X6 (by decide)),zk (X6 (by decide)),zk (X6 (by decide)),Z9 (t:= .bl ((Kd.many k lo hi).has x))]
 ·rfl
 ·show Jf _ _ (en2 _ x)=_;rw [Js,Z2,v1,bOk,Vc,bOk,XH,bOk,j8,ZF,Kd.has];cases x with
  | tup xs=>
   show (if (decide (lo<=xs.length) && decide (xs.length<=hi))=true then _ else _)=R.ok (T.bl (decide (lo<=xs.length) && decide (xs.length<=hi) && xs.all k.has))
   cases hh:(decide (lo<=xs.length) && decide (xs.length<=hi)) with
   | false=>rfl
   | true=>
    rw [Bool.and_eq_true,decide_eq_true_eq,decide_eq_true_eq] at hh;have hx:xs.length<=3:=by omega
    have em:ze Zn (jb (z9 (ze ixT (vE 0) (cE (.int 1))) (zh))) (ap1 zY (vB 1)) (en2 (.tup [.str "many",k.t, .int (lo:Int), .int (hi:Int)]) (.tup xs))= .ok (.lst ((List.replicate xs.length k).map Kd.t)):=by
     rw [zm,GK yN,bOk,ZB,w1,bOk,jr,bOk,qz hx,wj,List.map_replicate]
    rw [if_pos rfl,ZA,em,bOk,v1,bOk,H xs rfl hx,Uj];rfl
  | _=>rfl
theorem Vg:∀ (d n:Nat),2*d<=n->∀ (k:Kd) (x:T),k.Ok d->S_h n 0 [k.t,x]= .ok (.bl (k.has x))
 | 0,_,_,_,_,h=>h.elim
 | d+1,n+2,hn,k,x,h=>by
  have ih:=Vg d n (by omega)
  have e:S_h (n+2) 0 [k.t,x]=zn (b_h f_k f_b f_m (S_h (n+1) 1) (en0 2 [k.t,x])):=by rw [S_h]
  have e1:∀ s y,S_h (n+1) 1 [s,y]=zn (K2 (S_h n 0) (en0 2 [s,y])):=λs y=>by rw [S_h]; intro h; cases h
  rw [e];cases k with
  | whole lo hi=>exact qH lo hi x
  | pick cs=>exact vn cs h.2.1 x
  | row ks=>
   refine X7 ks h.2.1 x λxs hx=> ?_;rw [e1,hx,y8 ks xs rfl h.2.1 λq hq=>ih q.1 q.2 (h.2.2 q.1 (List.of_mem_zip hq).1)]
  | many k lo hi=>
   refine vo k lo hi h.2.1 x λxs hx h3=> ?_;rw [e1,hx,y8 (List.replicate xs.length k) xs rfl (by rw [List.length_replicate]; exact h3) λq hq=>ih q.1 q.2 (by
    rw [List.eq_of_mem_replicate (List.of_mem_zip hq).1]; exact h.2.2)]
theorem uK:∀ (d:Nat) (k:Kd),k.Ok d->isK d k.t=true
 | 0,_,h=>h.elim
 | d+1, .whole lo hi,h=>by
  have e:isK (d+1) (Kd.whole lo hi).t=(decide (-20<=lo) && decide (lo<=hi) && decide (hi<=20)):=by rw [Kd.t]; rfl
  obtain ⟨h1,h2,h3⟩:=h;rw [e]; simp; omega
 | d+1, .pick cs,h=>by
  have e:isK (d+1) (Kd.pick cs).t=(decide (1<=(cs.map JM).length) && decide ((cs.map JM).length<=4) && (cs.map JM).all zr && decide ((dd [] ((cs.map JM).map zZ)).length=(cs.map JM).length)):=by rw [Kd.t]; rfl
  obtain ⟨h1,h2,h3,h4⟩:=h;have e1:(cs.map JM).map zZ=cs.map (·.1):=by rw [List.map_map]; rfl
  have e2:=(wJ (cs.map (·.1)) []).mpr λk w hw=>by simpa using h4 k w hw
  rw [e,e1,e2,List.length_map,List.length_map];simp only [Bool.and_eq_true,decide_eq_true_eq,List.all_eq_true];refine ⟨⟨⟨h1,h2⟩,λc hc=> ?_⟩,by simp⟩
  obtain ⟨p,hp,rfl⟩:=List.mem_map.mp hc;obtain ⟨a,b,c⟩:=h3 p hp;show (Z5 (.str p.1) && decide (1<=p.2) && decide (p.2<=20))=true;rw [a]; simp; omega
 | d+1, .row ks,h=>by
  have e:isK (d+1) (Kd.row ks).t=(decide (1<=(ks.map Kd.t).length) && decide ((ks.map Kd.t).length<=3) && (ks.map Kd.t).all (isK d)):=by rw [Kd.t,Kd.ts_map]; rfl
  obtain ⟨h1,h2,h3⟩:=h;rw [e,List.length_map];simp only [Bool.and_eq_true,decide_eq_true_eq,List.all_eq_true];refine ⟨⟨h1,h2⟩,λc hc=> ?_⟩;obtain ⟨k,hk,rfl⟩:=List.mem_map.mp hc;exact uK d k (h3 k hk)
 | d+1, .many k lo hi,h=>by
  have e:isK (d+1) (Kd.many k lo hi).t=((decide ((0:Int)<=(lo:Int)) && decide ((lo:Int)<=(hi:Int)) && decide ((hi:Int)<=3)) && isK d k.t):=by rw [Kd.t]; rfl
  obtain ⟨h1,h2,h3⟩:=h;rw [e,uK d k h3]; simp; omega
theorem Jv:∀ (ks:List Kd) (xs:List T),xs.length=ks.length->Kd.hass ks xs=true->∀ x∈xs,∃ k∈ks,k.has x=true
 | [],[],_,_,_,h=>nomatch h
 | k :: ks,[],h,_,_,_=>by cases h
 | [],x :: xs,h,_,_,_=>by cases h
 | k :: ks,x :: xs,hl,h,y,hy=>by
  rw [Kd.hass] at h;have h:(k.has x && Kd.hass ks xs)=true:=h;rw [Bool.and_eq_true] at h;rcases List.mem_cons.mp hy with rfl | hy
  ·exact ⟨k,List.mem_cons_self,h.1⟩
  ·obtain ⟨k',hk,hh⟩:=Jv ks xs (by simpa using hl) h.2 y hy
   exact ⟨k',List.mem_cons_of_mem _ hk,hh⟩
theorem qI {d:Nat} {xs:List T} (h:∀ x∈xs,Fit d (4 ^ d) x) (h3:xs.length<=3):Fit (d+1) (4 ^ (d+1)) (.tup xs):=by
 obtain ⟨a,b,c⟩:=gB h;have hp:1<=4 ^ d:=Nat.pow_pos (by omega)
 have h3:4 ^ d*xs.length<=4 ^ d*3:=Nat.mul_le_mul_left _ h3;refine ⟨?_, ?_, ?_⟩
 ·simp only [sOk]; exact a
 ·simp only [dep]; omega
 ·simp only [siz,Nat.pow_succ]; omega
theorem wS:∀ (d:Nat) (k:Kd) (x:T),k.Ok d->k.has x=true->Fit d (4 ^ d) x
 | 0,_,_,h,_=>h.elim
 | d+1, .whole lo hi,x,h,hx=>by
  rw [Kd.has] at hx;obtain ⟨i,rfl⟩:=JL hx;have hp:1<=4 ^ (d+1):=Nat.pow_pos (by omega)
  exact ⟨by simp only [sOk],by simp only [dep]; omega,by simp only [siz]; omega⟩
 | d+1, .pick cs,x,h,hx=>by
  rw [Kd.has] at hx;have hp:1<=4 ^ (d+1):=Nat.pow_pos (by omega)
  dsimp only at hx;split at hx
  ·rename_i y;rw [List.any_eq_true] at hx;obtain ⟨c,hc,e⟩:=hx;have hw:(decide (1<=c.1.length) && decide (c.1.length<=3) && c.1.cps.toList.all zV)=true:=(h.2.2.1 c hc).1;rw [Bool.and_eq_true,Bool.and_eq_true,decide_eq_true_eq,decide_eq_true_eq] at hw;rw [← eq_of_beq e];exact ⟨by simp only [sOk]; exact Nat.le_trans hw.1.2 (by decide),by simp only [dep]; omega,by simp only [siz]; omega⟩
  ·cases hx
 | d+1, .row ks,x,h,hx=>by
  rw [Kd.has] at hx;dsimp only at hx;split at hx
  ·rename_i xs;rw [Bool.and_eq_true,beq_iff_eq] at hx;refine qI (λy hy=> ?_) (by rw [hx.1]; exact h.2.1)
   obtain ⟨k,hk,hh⟩:=Jv ks xs hx.1 hx.2 y hy;exact wS d k y (h.2.2 k hk) hh
  ·cases hx
 | d+1, .many k lo hi,x,h,hx=>by
  rw [Kd.has] at hx;dsimp only at hx;split at hx
  ·rename_i xs;rw [Bool.and_eq_true,Bool.and_eq_true,decide_eq_true_eq,decide_eq_true_eq,List.all_eq_true] at hx;exact qI (λy hy=>wS d k y h.2.2 (hx.2 y hy)) (Nat.le_trans hx.1.2 h.2.1)
  ·cases hx
theorem jh (t:T) (ht:sOk t):f_n [t]=if isK 3 t=true then .ok .non else .ex 0:=by
 have e:f_n [t]=zn (b_n f_1 [.vl t]):=rfl;have ec:jE (ZP (zd 1 f_1 (z9 (vE 0) (zh)))) [.vl t]= .ok (!isK 3 t):=by
  rw [jP,je,Zv,v0,bOk,yF t ht,bOk,ZC,bOk]
 rw [e,b_n,ZH,ec,Zg];cases isK 3 t <;> rfl
theorem Uk (k:Kd) (hk:k.Ok 3) (x:T):f_w [k.t,x]= .ok (.bl (k.has x)):=by
 have hi:=uK 3 k hk;have e:f_w [k.t,x]=zn (b_w f_n (f_h 20) (en2 k.t x)):=rfl;have e1:wB (zd 1 f_n (z9 (vE 0) (zh))) (en2 k.t x)= .nx (en2 k.t x):=by
  show (zd 1 _ _ _).s _=_;rw [Zv,v0,bOk,jh _ (Ju 3 _ hi).so,hi,if_pos rfl,Zg]
 have hh:f_h 20 [k.t,x]= .ok (.bl (k.has x)):=Vg 3 20 (by omega) k x hk
 rw [e,b_w,zk e1,Z9 (t:= .bl (k.has x))]
 ·rfl
 ·show zd 2 _ _ (en2 k.t x)=_;rw [ZA,v0,bOk,v1,bOk,hh]
theorem JX {f g:En->RS} {ρ:En} {c:Nat} (h:f ρ= .ex c):zv f g ρ= .ex c:=by rw [zG,h]
theorem Ul (t:T) (ht:sOk t) (hi:isK 3 t=false) (x:T):f_w [t,x]= .ex 0:=by
 have e:f_w [t,x]=zn (b_w f_n (f_h 20) (en2 t x)):=rfl;have e1:wB (zd 1 f_n (z9 (vE 0) (zh))) (en2 t x)= .ex 0:=by
  show (zd 1 _ _ _).s _=_;rw [Zv,v0,bOk,jh _ ht,hi]; rfl
 rw [e,b_w,JX e1];rfl
theorem yb {α:Type} {xs:List α} {i:Nat} (h:i < xs.length):∃ x,xs[i]? =some x:=⟨_,List.getElem?_eq_getElem h⟩
theorem Kn {xs:List T} {j:Nat} {v:T} (h:xs[j]? =some v):atT xs (j:Int)= .ok v:=by unfold atT; rw [j3 h]
theorem Wn (k:Kd) (m:Nat):((List.replicate m k).map λk=>k.all.length)=List.replicate m k.all.length:=by rw [List.map_replicate]
def Pl:Nat->T->Prop
 | 0,_=>False
 | n+1, .tup xs=>∀ x∈xs,Pl n x
 | n+1, .lst xs=>∀ x∈xs,Pl n x
 | _+1, .fz _=>False
 | _+1,_=>True
theorem wl {f:T->T->Option Bool}:∀ (xs ys:List T),(∀ x∈xs,∀ y,∃ b,f x y=some b)->∃ b,eqL f xs ys=some b
 | [],[],_=>⟨_,rfl⟩
 | [],_ :: _,_=>⟨_,rfl⟩
 | _ :: _,[],_=>⟨_,rfl⟩
 | x :: xs,y :: ys,h=>by
  obtain ⟨b,hb⟩:=h x List.mem_cons_self y;obtain ⟨c,hc⟩:=wl xs ys λz hz=>h z (List.mem_cons_of_mem _ hz);exact ⟨b && c,by unfold eqL; rw [hb,hc]⟩
theorem ZU {f:T->T->Option Bool}:∀ (xs:List T),(∀ x∈xs,f x x=some true)->eqL f xs xs=some true
 | [],_=>rfl
 | x :: xs,h=>by
  unfold eqL;rw [h x List.mem_cons_self,ZU xs λz hz=>h z (List.mem_cons_of_mem _ hz)];rfl
theorem wm:∀ (n:Nat) (y x:T),Pl n y->∃ b,eqF n y x=some b
 | 0,_,_,h=>h.elim
 | n+1,y,x,h=>by
  cases y with
  | tup xs=>
   have h:∀ x∈xs,Pl n x:=h;cases x with
   | tup ys=>rw [eqF]; exact wl xs ys λz hz u=>wm n z u (h z hz)
   | _=>exact ⟨false,by rw [eqF] <;> intros <;> first | rfl | contradiction | (intro z; cases z)⟩
  | lst xs=>
   have h:∀ x∈xs,Pl n x:=h;cases x with
   | lst ys=>rw [eqF]; exact wl xs ys λz hz u=>wm n z u (h z hz)
   | fz ys=>rw [eqF]; exact wl xs ys λz hz u=>wm n z u (h z hz)
   | _=>exact ⟨false,by rw [eqF] <;> intros <;> first | rfl | contradiction | (intro z; cases z)⟩
  | fz xs=>exact h.elim
  | non=>cases x <;> exact ⟨_,rfl⟩
  | bl b=>cases x <;> exact ⟨_,rfl⟩
  | int i=>cases x <;> exact ⟨_,rfl⟩
  | str i=>cases x <;> exact ⟨_,rfl⟩
theorem Zt:∀ (n:Nat) (y:T),Pl n y->eqF n y y=some true
 | 0,_,h=>h.elim
 | n+1,y,h=>by
  cases y with
  | tup xs=>rw [eqF]; exact ZU xs λz hz=>Zt n z ((show ∀ x∈xs,Pl n x from h) z hz)
  | lst xs=>rw [eqF]; exact ZU xs λz hz=>Zt n z ((show ∀ x∈xs,Pl n x from h) z hz)
  | fz xs=>exact h.elim
  | non=>rfl
  | bl b=>show some (b == b)=_; simp
  | int i=>show some (i == i)=_; simp
  | str i=>show some (i == i)=_; simp
theorem Pl.up:∀ (n:Nat) (y:T),Pl n y->Pl (n+1) y
 | 0,_,h=>h.elim
 | n+1,y,h=>by
  cases y with
  | tup xs=>exact λz hz=>Pl.up n z ((show ∀ x∈xs,Pl n x from h) z hz)
  | lst xs=>exact λz hz=>Pl.up n z ((show ∀ x∈xs,Pl n x from h) z hz)
  | fz xs=>exact h.elim
  | _=>exact trivial
theorem Pl.le {n m:Nat} {y:T} (hm:n<=m) (h:Pl n y):Pl m y:=by
 obtain ⟨j,rfl⟩:∃ j,m=n+j:=⟨m - n,by omega⟩
 clear hm
 induction j with
 | zero=>exact h
 | succ j ih=>exact Pl.up _ _ ih
theorem yP:∀ (d:Nat) (k:Kd) (x:T),k.Ok d->k.has x=true->Pl d x
 | 0,_,_,h,_=>h.elim
 | d+1, .whole lo hi,x,h,hx=>by
  rw [Kd.has] at hx;obtain ⟨i,rfl⟩:=JL hx;trivial
 | d+1, .pick cs,x,h,hx=>by
  rw [Kd.has] at hx;dsimp only at hx;split at hx
  ·trivial
  ·cases hx
 | d+1, .row ks,x,h,hx=>by
  rw [Kd.has] at hx;dsimp only at hx;split at hx
  ·rename_i xs;rw [Bool.and_eq_true,beq_iff_eq] at hx;intro y hy;obtain ⟨k,hk,hh⟩:=Jv ks xs hx.1 hx.2 y hy;exact yP d k y (h.2.2 k hk) hh
  ·cases hx
 | d+1, .many k lo hi,x,h,hx=>by
  rw [Kd.has] at hx;dsimp only at hx;split at hx
  ·rename_i xs;rw [Bool.and_eq_true,List.all_eq_true] at hx;exact λy hy=>yP d k y h.2.2 (hx.2 y hy)
  ·cases hx
theorem qJ {t:T} (h:Pl 30 t):neC t t= .ok false:=by unfold neC; rw [Zt 30 t h]; rfl
theorem uL {f:T->Option Bool}:∀ (ts:List T),(∀ t∈ts,∃ b,f t=some b)->∃ b,WT f ts=some b/\(b=false->∀ t∈ts,f t=some false)
 | [],_=>⟨false,rfl,λ_ _ h=>nomatch h⟩
 | t :: ts,h=>by
  obtain ⟨b,hb⟩:=h t List.mem_cons_self;obtain ⟨c,hc,h'⟩:=uL ts λu hu=>h u (List.mem_cons_of_mem _ hu);refine ⟨b || c,by unfold WT; rw [hb,hc],λe u hu=> ?_⟩
  rw [Bool.or_eq_false_iff] at e;rcases List.mem_cons.mp hu with rfl | hu
  ·rw [hb,e.1]
  ·exact h' e.2 u hu
theorem X8 {k:Kd} (hk:k.Ok 3) (x:T):∃ b,yU x (.lst k.all)= .ok b/\(b=true->k.has x=false):=by
 obtain ⟨b,hb,h⟩:=uL (f:=λy=>eqF 30 y x) k.all λy hy=>wm 30 y x ((yP 3 k y hk ((ZN k y).mp hy)).le (by omega))
 refine ⟨!b, ?_,λe=> ?_⟩
 ·show ((match WT (λy=>eqF 30 y x) k.all with | some b=>R.ok b | none=> .bad).bind λb=> .ok (!b))=_
  rw [hb]; rfl
 ·have hf:b=false:=by simpa using e
  cases hh:k.has x with
  | false=>rfl
  | true=>
   have h1:=h hf x ((ZN k x).mpr hh);have h2:=Zt 30 x ((yP 3 k x hk hh).le (by omega))
   have h1:eqF 30 x x=some false:=h1;rw [h2] at h1; cases h1
theorem X9 {k:Kd} (hk:k.Ok 3):f_n [k.t]= .ok .non:=by
 have hi:=uK 3 k hk;rw [jh _ (Ju 3 _ hi).so,if_pos hi]
theorem Um {f:En->R T} {ρ:En} {t:T} (h:f ρ= .ok t):wB f ρ= .nx ρ:=by unfold wB; rw [h,Zg]
theorem Uo {f:En->R T} {ρ:En} {c:Nat} (h:f ρ= .ex c):wB f ρ= .ex c:=by unfold wB; rw [h]; rfl
theorem Xa {t:T} (ht:sOk t) (hi:isK 3 t=false):f_n [t]= .ex 0:=by
 rw [jh _ ht,hi]; rfl
theorem Jw {k:Kd} (hk:k.Ok 3) (x:T):XD [k.t,x]=if k.has x=true then .ok .non else .ex 1:=by
 show zn (XB f_w (en2 k.t x))=_;have ec:jE (ZP (zd 2 f_w (z9 (vE 0) (z9 (vE 1) (zh))))) (en2 k.t x)= .ok (!k.has x):=by
  rw [jP,je,ZA,v0,bOk,v1,bOk,Uk k hk x,bOk,ZC,bOk]
 rw [XB,ZH,ec,Zg];cases k.has x <;> rfl
theorem WQ {t:T} (ht:sOk t) (hi:isK 3 t=false) (x:T):XD [t,x]= .ex 0:=by
 show zn (XB f_w (en2 t x))=_;have ec:jE (ZP (zd 2 f_w (z9 (vE 0) (z9 (vE 1) (zh))))) (en2 t x)= .ex 0:=by
  rw [jP,je,ZA,v0,bOk,v1,bOk,Ul t ht hi x]; rfl
 rw [XB,ZH,ec];rfl
theorem Up {f:En->R T} {ρ:En} {j:Int} (hf:f ρ= .ok (.int j)) (h: -1000000 < j/\j < 1000000):Zu f ρ= .ok (rng 0 j.toNat):=by
 unfold Zu;rw [hf,bOk];exact if_pos h
abbrev en6 (w t x:T) (a:T):En:=[.vl w, .vl t, .vl x, .vl .non, .vl a, .un]
theorem Ko:f_7 0= .ok (.str "no kind"):=by rfl
theorem GO:f_7 1= .ok (.str "no worth"):=by rfl
theorem Vh {i j:Int} {t x a:T} (b:Bool) (h:(i == j)=b):zC eqC (vB 0) (cE (.int j)) (en6 (.int i) t x a)= .ok b:=by
 rw [zX,w0,bOk,zS,bOk];show R.ok (i == j)=_;rw [h]
theorem Kp {i:Nat} {f:En->R T} {ρ:En} {c:Nat} (h:f ρ= .ex c):zH i f ρ= .ex c:=by rw [ZL,h]; rfl
theorem qK {g:En->R Bool} {f f' :En->R T} {ρ:En} (h:g ρ= .ok true):ifE g f f' ρ=f ρ:=by unfold ifE; rw [h]; rfl
theorem qL {g:En->R Bool} {f f' :En->R T} {ρ:En} (h:g ρ= .ok false):ifE g f f' ρ=f' ρ:=by unfold ifE; rw [h]; rfl
theorem Xb {i:Str}:neC (.str i) (.str i)= .ok false:=by show R.ok (!(i == i))=_; simp
def S (l:List Nat):Str:=⟨l.toArray⟩
theorem ZZ (l:List Nat):(S l).cps.toList=l:=by simp [S]
theorem jt (l:List Nat):(S l).length=l.length:=by simp [S,Str.length]
theorem Xc (a b:List Nat):S a++S b=S (a++b):=Str.ext' (by simp [S,Str.cps_append])
theorem Kq (x:Str):S x.cps.toList=x:=Str.ext' (by simp [S])
theorem vp {a b:List Nat} (h:S a=S b):a=b:=by rw [← ZZ a,h,ZZ]
def jn:List (List Nat)->List Nat
 | []=>[]
 | [x]=>x
 | x :: y :: r=>x++32 :: jn (y :: r)
theorem Vi:∀ ls:List (List Nat),Str.join (S [32]) (ls.map S)=S (jn ls)
 | []=>rfl
 | [x]=>rfl
 | x :: y :: r=>by
  have h:=Vi (y :: r);show S x++S [32]++Str.join (S [32]) ((y :: r).map S)=_;rw [h,Xc,Xc];simp [jn]
theorem Kr (c d:Nat) (l:List Nat):Txt.startswith (S (c :: l)) (S [d])=(c == d):=by
 unfold Txt.startswith;rw [StrLaws.subAt_eq,jt,jt,ZZ,ZZ];simp
theorem Ks {l:List Nat} {a b:Nat} (h1:a<=b) (h2:b<=l.length):Txt.slice (S l) (some (a:Int)) (some (b:Int))=S ((l.drop a).take (b - a)):=by
 have:=StrLaws.sliceText_nat (S l) h1 (by rw [jt]; exact h2)
 rw [ZZ] at this;exact this
theorem qM {l:List Nat} {a:Nat} (h:a<=l.length):Txt.slice (S l) (some (a:Int)) none=S (l.drop a):=by
 have:=StrLaws.sliceText_from (x:=S l) (i:=(a:Int)) ⟨by omega,by rw [ZZ]; omega⟩
 rw [ZZ] at this;refine Eq.trans this ?_;show S _=S _;congr 1
 rw [show ((a:Int)).toNat=a by omega]
 exact List.take_of_length_le (by simp)
theorem Kt (c d:Nat) (l:List Nat):Txt.slice (S (c :: (l++[d]))) (some 1) (some (-1))=S l:=by
 have e:Txt.slice (S (c :: (l++[d]))) (some 1) (some (-1))=Txt.slice (S (c :: (l++[d]))) (some 1) (some (-1+(S (c :: (l++[d]))).length)):=StrLaws.sliceText_neg_hi _ _ (by decide) (by rw [jt]; simp; omega)
 rw [e,jt,show (-1+((c :: (l++[d])).length:Nat):Int)=((l.length+1:Nat):Int) by simp; omega,show (1:Int)=((1:Nat):Int) from rfl,Ks (by omega) (by simp)]
 simp
theorem GP {l:List Nat} {c i:Nat} (h:i < l.length):Txt.startswith3 (S l) (S [c]) (i:Int)=(l[i]? == some c):=by
 unfold Txt.startswith3;have e:fromIndex (S l).length (i:Int)=i:=by
  unfold fromIndex;rw [if_neg (by omega)]
  omega
 rw [e,StrLaws.subAt_eq,jt,jt,ZZ,ZZ];have e2:decide (i+[c].length<=l.length)=true:=decide_eq_true (by simp; omega)
 rw [e2,Bool.true_and];have:((l.drop i).take [c].length == [c])=(l[i]? == some c):=by
  rw [List.getElem?_eq_getElem h,List.drop_eq_getElem_cons h];show ([l[i]] == [c])=_;simp
 exact this
def opn (c:Nat):Bool:=decide (c∈[40,91,123])
def cls (c:Nat):Bool:=decide (c∈[41,93,125])
def sc:Nat->List Nat->Option Nat
 | d,[]=>some d
 | d,c :: r=>if opn c then sc (d+1) r else if cls c then (match d with | 0=>none | e+1=>if e=0/\c=32 then none else sc e r) else if d=0/\c=32 then none else sc d r
abbrev pE (L:List Nat) (acc:List T) (b d:Int) (x y:Sl):En:=[.vl (.str (S L)), .vl (.str " "), .ow acc, .vl (.int b), .vl (.int d),x,y]
abbrev Jx:En->RS:=(zv (ifS (zC UO (vB 6) (cE (.str "([{"))) (zH 4 (ze zu (vE 4) (cE (.int 1)))) (nxS))
  (zv (ifS (zC UO (vB 6) (cE (.str ")]}"))) (zH 4 (ze wv (vE 4) (cE (.int 1)))) (nxS))
  (ifS (wz (zC eqC (vB 4) (cE (.int 0))) (ZP (QV (vE 0) (vE 1) (vE 5)))) (zv (Qg 2 (J7 (vE 0) (zB (vE 3)) (zB (vE 5))))
  (zH 3 (ze zu (vE 5) (ap1 zY (vB 1))))) (nxS))))
def itm (L:List Nat):List T:=jo (Zx (S L))
theorem yc {L:List Nat} {i c:Nat} {r:List Nat} (h:L.drop i=c :: r):(itm L).drop i=T.tup [.int (i:Nat), .str (S [c])] :: (itm L).drop (i+1):=by
 have hg:L[i]? =some c:=by
  have:(L.drop i)[0]? =some c:=by rw [h]; rfl
  simpa using this
 have e:(itm L)[i]? =some (T.tup [.int (i:Nat), .str (S [c])]):=by
  unfold itm jo Zx;rw [ZZ,List.getElem?_map,List.getElem?_zipIdx,List.getElem?_map,hg];simp [S]
 obtain ⟨hi,e⟩:=List.getElem?_eq_some_iff.mp e;rw [List.drop_eq_getElem_cons hi,e]
theorem Ku {ρ:En} {c:Nat} (h:vB 6 ρ= .ok (.str (S [c]))):zC UO (vB 6) (cE (.str "([{")) ρ= .ok (opn c):=by
 show (R.bind (vB 6 ρ) λx=>R.bind (.ok (.str "([{")) λy=>UO x y)=_;rw [h,bOk,bOk];show R.ok (!(Builtin.Str.occurrences "([{" ⟨#[c]⟩ 0 ((("([{":Str))).length 1).isEmpty)=_;rw [StrLaws.found_one]; rfl
theorem Xd {ρ:En} {c:Nat} (h:vB 6 ρ= .ok (.str (S [c]))):zC UO (vB 6) (cE (.str ")]}")) ρ= .ok (cls c):=by
 show (R.bind (vB 6 ρ) λx=>R.bind (.ok (.str ")]}")) λy=>UO x y)=_;rw [h,bOk,bOk];show R.ok (!(Builtin.Str.occurrences ")]}" ⟨#[c]⟩ 0 (((")]}":Str))).length 1).isEmpty)=_;rw [StrLaws.found_one]; rfl
theorem Kv {c:Nat} (h:opn c=true):cls c=false:=by
 unfold opn at h;unfold cls;simp at h ⊢;omega
theorem Kw {acc:List T} {L:List Nat} {b d:Int} {i c:Nat}:zv (ifS (zC UO (vB 6) (cE (.str "([{"))) (zH 4 (ze zu (vE 4) (cE (.int 1)))) nxS) (zv (ifS (zC UO (vB 6) (cE (.str ")]}"))) (zH 4 (ze wv (vE 4) (cE (.int 1)))) nxS) f) (pE L acc b d (.vl (.int (i:Nat))) (.vl (.str (S [c]))))=f (pE L acc b (d+(if opn c then 1 else 0) - (if cls c then 1 else 0)) (.vl (.int (i:Nat))) (.vl (.str (S [c])))):=by
 cases ho:opn c with
 | true=>
  have hc:=Kv ho;have e1:zH 4 (ze zu (vE 4) (cE (.int 1))) (pE L acc b d (.vl (.int (i:Nat))) (.vl (.str (S [c]))))= .nx (pE L acc b (d+1) (.vl (.int (i:Nat))) (.vl (.str (S [c])))):=rfl;rw [zk ((WX (by rw [Ku rfl,ho])).trans e1),zk (ZM (by rw [Xd rfl,hc])),hc]
  simp
 | false=>
  rw [zk (ZM (by rw [Ku rfl,ho]))]
  cases hc:cls c with
  | true=>
   have e1:zH 4 (ze wv (vE 4) (cE (.int 1))) (pE L acc b d (.vl (.int (i:Nat))) (.vl (.str (S [c]))))= .nx (pE L acc b (d - 1) (.vl (.int (i:Nat))) (.vl (.str (S [c])))):=rfl;rw [zk ((WX (by rw [Xd rfl,hc])).trans e1)]
   simp
  | false=>
   rw [zk (ZM (by rw [Xd rfl,hc]))]
   simp
theorem Kx {L:List Nat} {acc:List T} {b d:Int} {i c:Nat} {r:List Nat} (h:L.drop i=c :: r):wz (zC eqC (vB 4) (cE (.int 0))) (ZP (QV (vE 0) (vE 1) (vE 5))) (pE L acc b d (.vl (.int (i:Nat))) (.vl (.str (S [c]))))= .ok ((d == 0) && (c == 32)):=by
 rw [WB];show (R.bind (.ok (d == 0)) _)=_;rw [bOk];cases hd:(d == 0) with
 | false=>rfl
 | true=>
  rw [if_pos rfl,je];have hg:L[i]? =some c:=by
   have:(L.drop i)[0]? =some c:=by rw [h]; rfl
   simpa using this
  have hi:i < L.length:=(List.getElem?_eq_some_iff.mp hg).1;show R.ok (Txt.startswith3 (S L) (S [32]) (i:Int))=_;rw [GP hi,hg];simp
theorem yd {L:List Nat} {acc:List T} {b d:Int} {i c:Nat} {r:List Nat} {x y:Sl} (h:L.drop i=c :: r) (hn:((d+(if opn c then 1 else 0) - (if cls c then 1 else 0) == 0) && (c == 32))=false):
  ZI (Z1 5 6) Jx ((itm L).drop i) (pE L acc b d x y)=ZI (Z1 5 6) Jx ((itm L).drop (i+1)) (pE L acc b (d+(if opn c then 1 else 0) - (if cls c then 1 else 0)) (.vl (.int (i:Nat))) (.vl (.str (S [c])))):=by
 rw [yc h];refine JW (ρ1:=pE L acc b d (.vl (.int (i:Nat))) (.vl (.str (S [c])))) rfl ?_;unfold Jx;rw [Kw];exact ZM (by rw [Kx h,hn])
theorem qN {L:List Nat} {acc:List T} {b:Int}:∀ (w:List Nat) (d e i:Nat) (rest:List Nat) (x y:Sl),L.drop i=w++rest->sc d w=some e->∃ x' y',ZI (Z1 5 6) Jx ((itm L).drop i) (pE L acc b (d:Nat) x y)=ZI (Z1 5 6) Jx ((itm L).drop (i+w.length)) (pE L acc b (e:Nat) x' y')
 | [],d,e,i,rest,x,y,_,h=>by
  cases h;exact ⟨x,y,rfl⟩
 | c :: w,d,e,i,rest,x,y,hL,h=>by
  have hL' :L.drop (i+1)=w++rest:=by
   have:(L.drop i).drop 1=w++rest:=by rw [hL]; rfl
   rw [List.drop_drop] at this; exact this
  unfold sc at h;cases ho:opn c with
  | true=>
   rw [ho,if_pos rfl] at h;have hc:=Kv ho;have h32:c ≠ 32:=λz=>by subst z; cases ho
   obtain ⟨x',y',q⟩:=qN w (d+1) e (i+1) rest (.vl (.int (i:Nat))) (.vl (.str (S [c]))) hL' h;refine ⟨x',y', ?_⟩;rw [yd hL (by rw [beq_eq_false_iff_ne.mpr h32,Bool.and_false]),ho,hc]
   rw [List.length_cons,show i+(w.length+1)=i+1+w.length by omega,← q]
   simp
  | false=>
   rw [ho,if_neg Bool.false_ne_true] at h;cases hc:cls c with
   | true=>
    rw [hc,if_pos rfl] at h;cases d with
    | zero=>cases h
    | succ d=>
     have h32:c ≠ 32:=λz=>by subst z; cases hc
     have h:(if d=0/\c=32 then none else sc d w)=some e:=h
     rw [if_neg (λz=>h32 z.2)] at h;obtain ⟨x',y',q⟩:=qN w d e (i+1) rest (.vl (.int (i:Nat))) (.vl (.str (S [c]))) hL' h;refine ⟨x',y', ?_⟩;rw [yd hL (by rw [beq_eq_false_iff_ne.mpr h32,Bool.and_false]),ho,hc]
     rw [List.length_cons,show i+(w.length+1)=i+1+w.length by omega,← q]
     simp
   | false=>
    rw [hc,if_neg Bool.false_ne_true] at h;split at h
    ·cases h
    ·rename_i hz;obtain ⟨x',y',q⟩:=qN w d e (i+1) rest (.vl (.int (i:Nat))) (.vl (.str (S [c]))) hL' h;refine ⟨x',y', ?_⟩;rw [yd hL (by
      rw [ho,hc]
      by_cases h32:c=32
      ·have:d ≠ 0:=λz=>hz ⟨z,h32⟩;simp; omega
      ·rw [beq_eq_false_iff_ne.mpr h32,Bool.and_false]),ho,hc]
     rw [List.length_cons,show i+(w.length+1)=i+1+w.length by omega,← q]
     simp
theorem Ky {L:List Nat} {acc:List T} {b i:Nat} {r:List Nat} {x y:Sl} (h:L.drop i=32 :: r) (hb:b<=i) (hl:L.length<=9000) (ha:acc.length < 1000):
  ∃ x' y',ZI (Z1 5 6) Jx ((itm L).drop i) (pE L acc (b:Nat) 0 x y)=ZI (Z1 5 6) Jx ((itm L).drop (i+1)) (pE L (acc++[.str (S ((L.drop b).take (i - b)))]) ((i+1:Nat):Int) 0 x' y'):=by
 refine ⟨.vl (.int (i:Nat)), .vl (.str (S [32])), ?_⟩;have hi:i<=L.length:=by
  have:=congrArg List.length h;simp at this; omega
 rw [yc h];refine JW (ρ1:=pE L acc (b:Nat) 0 (.vl (.int (i:Nat))) (.vl (.str (S [32])))) rfl ?_;unfold Jx;rw [Kw];have e0:(0:Int)+(if opn 32 then 1 else 0) - (if cls 32 then 1 else 0)=0:=by decide
 rw [e0,WX (by rw [Kx h]; rfl)]
 have e1:J7 (vE 0) (zB (vE 3)) (zB (vE 5)) (pE L acc (b:Nat) 0 (.vl (.int (i:Nat))) (.vl (.str (S [32]))))= .ok (.str (S ((L.drop b).take (i - b)))):=by
  show (if (S L).length<=bnd then R.ok (T.str (Txt.slice (S L) (some (b:Int)) (some (i:Int)))) else .bad)=_
  rw [Ks hb hi,if_pos];rw [jt];have:bnd=16777216:=rfl;omega
 have e2:Qg 2 (J7 (vE 0) (zB (vE 3)) (zB (vE 5))) (pE L acc (b:Nat) 0 (.vl (.int (i:Nat))) (.vl (.str (S [32]))))= .nx (pE L (acc++[.str (S ((L.drop b).take (i - b)))]) (b:Nat) 0 (.vl (.int (i:Nat))) (.vl (.str (S [32])))):=by
  show (R.s (J7 (vE 0) (zB (vE 3)) (zB (vE 5)) _) λt=>if acc.length < bnd then RS.nx _ else .bad)=_
  rw [e1,Zg,if_pos (by have:bnd=16777216:=rfl; omega)]; rfl
 rw [zk e2];rfl
theorem Kz {L:List Nat} (hL:L.length<=9000):∀ (ls:List (List Nat)) (acc:List T) (i:Nat) (x y:Sl),ls ≠ []->ls.length+acc.length<=900->(∀ w∈ls,sc 0 w=some 0)->L.drop i=jn ls->i<=L.length->
  ∃ (acc' :List T) (j:Nat) (x' y' :Sl),ZI (Z1 5 6) Jx ((itm L).drop i) (pE L acc (i:Nat) 0 x y)= .nx (pE L acc' (j:Nat) 0 x' y')/\j<=L.length/\acc'.length<=900/\acc' ++[.str (S (L.drop j))]=acc++ls.map λl=>T.str (S l)
 | [],_,_,_,_,h,_,_,_,_=>absurd rfl h
 | [w],acc,i,x,y,_,hc,hs,hj,hi=>by
  have hj:L.drop i=w++[]:=by rw [List.append_nil]; exact hj
  obtain ⟨x',y',q⟩:=qN (L:=L) (acc:=acc) (b:=(i:Nat)) w 0 0 i [] x y hj (hs w List.mem_cons_self);refine ⟨acc,i,x',y', ?_,hi,by simp at hc; omega,by rw [hj,List.append_nil]; rfl⟩
  refine Eq.trans q ?_;have:(itm L).drop (i+w.length)=[]:=by
   refine List.drop_eq_nil_of_le ?_;have e:=congrArg List.length hj;unfold itm jo Zx;rw [ZZ];simp at e ⊢; omega
  rw [this]; rfl
 | w :: v :: r,acc,i,x,y,_,hc,hs,hj,hi=>by
  have hj:L.drop i=w++32 :: jn (v :: r):=hj;obtain ⟨x1,y1,q1⟩:=qN (L:=L) (acc:=acc) (b:=(i:Nat)) w 0 0 i _ x y hj (hs w List.mem_cons_self);have hj2:L.drop (i+w.length)=32 :: jn (v :: r):=by
   rw [← List.drop_drop,hj,List.drop_left]
  have hj3:L.drop (i+w.length+1)=jn (v :: r):=by
   rw [← List.drop_drop,hj2]; rfl
  obtain ⟨x2,y2,q2⟩:=Ky (L:=L) (acc:=acc) (b:=i) (i:=i+w.length) (x:=x1) (y:=y1) hj2 (by omega) hL (by simp at hc; omega)
  have ht:(L.drop i).take (i+w.length - i)=w:=by
   rw [hj,show i+w.length - i=w.length by omega,List.take_left]
  rw [ht] at q2;have hle:i+w.length+1<=L.length:=by
   have:=congrArg List.length hj2;simp at this; omega
  obtain ⟨acc',j,x3,y3,q3,a1,a2,a3⟩:=Kz hL (v :: r) (acc++[.str (S w)]) (i+w.length+1) x2 y2 (List.cons_ne_nil _ _) (by simp at hc ⊢; omega) (λz hz=>hs z (List.mem_cons_of_mem _ hz)) hj3 hle
  exact ⟨acc',j,x3,y3,q1.trans (q2.trans q3),a1,a2,by rw [a3]; simp⟩
theorem qO {ls:List (List Nat)} (h0:ls ≠ []) (hc:ls.length<=100) (hs:∀ w∈ls,sc 0 w=some 0) (hL:(jn ls).length<=9000):f_q [.str (S (jn ls)), .str " "]= .ok (.lst (ls.map λl=>T.str (S l))):=by
 obtain ⟨acc',j,x',y',q,a1,a2,a3⟩:=Kz hL ls [] 0 .un .un h0 (by simp; omega) hs rfl (Nat.zero_le _)
 have e1:jx (UP (vE 0)) (Z1 5 6) Jx (pE (jn ls) [] 0 0 .un .un)= .nx (pE (jn ls) acc' (j:Nat) 0 x' y'):=q;have e2:J7 (vE 0) (zB (vE 3)) noO (pE (jn ls) acc' (j:Nat) 0 x' y')= .ok (.str (S ((jn ls).drop j))):=by
  show (if (S (jn ls)).length<=bnd then R.ok (T.str (Txt.slice (S (jn ls)) (some (j:Int)) none)) else .bad)=_
  rw [qM a1,if_pos];rw [jt];have:bnd=16777216:=rfl;omega
 have e3:Qg 2 (J7 (vE 0) (zB (vE 3)) noO) (pE (jn ls) acc' (j:Nat) 0 x' y')= .nx (pE (jn ls) (ls.map λl=>T.str (S l)) (j:Nat) 0 x' y'):=by
  show (R.s (J7 (vE 0) (zB (vE 3)) noO _) λt=>if acc'.length < bnd then RS.nx _ else .bad)=_
  rw [e2,Zg,if_pos (by have:bnd=16777216:=rfl; omega)]
  show RS.nx (pE (jn ls) (acc' ++[.str (S ((jn ls).drop j))]) (j:Nat) 0 x' y')=_;rw [a3]; rfl
 show zn (b_q [.vl (.str (S (jn ls))), .vl (.str " "), .un, .un, .un, .un, .un])=_;unfold b_q;have z1:UD 2 zh [.vl (.str (S (jn ls))), .vl (.str " "), .un, .un, .un, .un, .un]= .nx [.vl (.str (S (jn ls))), .vl (.str " "), .ow [], .un, .un, .un, .un]:=rfl;have z2:zH 3 (cE (.int 0)) [.vl (.str (S (jn ls))), .vl (.str " "), .ow [], .un, .un, .un, .un]= .nx [.vl (.str (S (jn ls))), .vl (.str " "), .ow [], .vl (.int 0), .un, .un, .un]:=rfl;have z3:zH 4 (cE (.int 0)) [.vl (.str (S (jn ls))), .vl (.str " "), .ow [], .vl (.int 0), .un, .un, .un]= .nx (pE (jn ls) [] 0 0 .un .un):=rfl;unfold Jx at e1;rw [zk z1,zk z2,zk z3,zk e1,zk e3];rfl
def nl (i:Int):List Nat:=(xF i).cps.toList
theorem GQ (i:Int):xF i=S (nl i):=(Kq _).symm
def nOk (i:Int):Bool:=decide ((nl i).length<=3) && !(nl i).isEmpty && (nl i).all (λc=>c == 45 || (decide (48<=c) && decide (c<=57))) && decide (rdI (xF i)=some i)
theorem GR:∀ k < 41,nOk ((k:Nat) - 20:Int)=true:=by decide+kernel
theorem KA {i:Int} (h1: -20<=i) (h2:i<=20):(nl i).length<=3/\nl i ≠ []/\(∀ c∈nl i,c=45\/(48<=c/\c<=57))/\rdI (xF i)=some i:=by
 have:=GR (i+20).toNat (by omega)
 rw [show (((i+20).toNat:Nat) - 20:Int)=i by omega] at this
 unfold nOk at this;simp at this;exact ⟨this.1.1.1,this.1.1.2,this.1.2,this.2⟩
theorem qP (B:Nat):∀ ls:List (List Nat),(∀ x∈ls,x.length<=B)->(jn ls).length<=ls.length*(B+1)
 | [],_=>by simp [jn]
 | [x],h=>by have:=h x List.mem_cons_self; simp only [jn,List.length_cons,List.length_nil]; omega
 | x :: y :: r,h=>by
  have h1:=h x List.mem_cons_self;have h2:=qP B (y :: r) λz hz=>h z (List.mem_cons_of_mem _ hz);rw [List.length_cons (a:=x),Nat.add_mul];simp only [jn,List.length_append,List.length_cons] at h2 ⊢;omega
theorem qQ (B:Nat):∀ ls:List (List Nat),(∀ x∈ls,x.length<=B)->(ls.map (·.length)).sum<=ls.length*B
 | [],_=>by simp
 | x :: r,h=>by
  have h1:=h x List.mem_cons_self;have h2:=qQ B r λz hz=>h z (List.mem_cons_of_mem _ hz);rw [List.map_cons,List.sum_cons,List.length_cons,Nat.add_mul];omega
theorem ye {x:Str} (h:Z5 (.str x)=true):x.cps.toList.length<=3:=by
 have h:(decide (1<=x.length) && decide (x.length<=3) && x.cps.toList.all zV)=true:=h;rw [Bool.and_eq_true,Bool.and_eq_true] at h;have:=of_decide_eq_true h.1.2;simpa [Str.length] using this
theorem KC {i:Int} (h:i.natAbs < 1000000):txO (.int i)=some (S (nl i)):=by rw [← GQ]; exact if_pos h
theorem yQ {f g:En->R T} {ρ:En} {a b:List Nat} (hf:f ρ= .ok (.str (S a))) (hg:g ρ= .ok (.str (S b))) (hl:a.length+b.length<=10000):ze zu f g ρ= .ok (.str (S (a++b))):=by
 rw [zm,hf,bOk,hg,bOk,← Xc];exact if_pos (by rw [jt,jt]; have:bnd=16777216:=rfl; omega)
theorem Vj:∀ ls:List (List Nat),U4 (ls.map λl=>T.str (S l))=some (ls.map S)
 | []=>rfl
 | l :: r=>by
  rw [List.map_cons];unfold U4;rw [Vj r];rfl
theorem Xe {f:En->R T} {ρ:En} {ls:List (List Nat)} (hf:f ρ= .ok (.lst (ls.map λl=>T.str (S l)))) (hb:(ls.map (·.length)).sum+ls.length<=10000):ap1 (QJ " ") f ρ= .ok (.str (S (jn ls))):=by
 rw [ZB,hf,bOk];show (match U4 (ls.map λl=>T.str (S l)) with | some ys=>if (ys.map λ(y:Str)=>y.length).sum+ys.length*((" ":Str)).length<=16777216 then R.ok (T.str (Txt.join " " ys)) else .bad | none=> .bad)=_
 rw [Vj];dsimp only;have e:((ls.map S).map (·.length))=ls.map (·.length):=by
  rw [List.map_map];exact List.map_congr_left λl _=>jt l
 rw [e,List.length_map,if_pos (show (ls.map (·.length)).sum+ls.length*((" ":Str)).length<=16777216 by rw [show ((" ":Str)).length=1 from rfl]; omega)]
 show R.ok (T.str (Builtin.Str.glued (S [32]) (ls.map S)))=_;rw [StrLaws.glued_eq_join,Vi]
theorem itA {f:En->R T} {ρ:En} {ts:List T} (h:f ρ= .ok (.tup ts)):jl f ρ= .ok ts:=by
 show (f ρ).bind JR=_;rw [h]; rfl
theorem KD {fi:En->R (List T)} {g:T->En->R En} {fe:En->R T} {k:Nat} {js:List Nat} {ρ:En} {ts vs:List T} (hi:fi ρ= .ok ts) (hl:ts.length<=100) (h:zL g Zi fe ts (wU k js ρ)= .ok vs):Ze fi g Zi fe k js ρ= .ok (.lst vs):=by
 rw [Z7,hi,bOk];unfold zR;rw [if_pos (show ts.length<=bnd by have:bnd=16777216:=rfl; omega),h]
 rfl
theorem uM {c:List T->R T} {α:Type} (f:α->T) (g:α->T):∀ (as:List α) (x:Sl),(∀ a∈as,c [f a]= .ok (g a))->zL (zz 0) Zi (zd 1 c (z9 (vE 0) zh)) (as.map f) [x]= .ok (as.map g)
 | [],_,_=>rfl
 | a :: as,x,h=>by
  have e:zL (zz 0) Zi (zd 1 c (z9 (vE 0) zh)) ((a :: as).map f) [x]=(zd 1 c (z9 (vE 0) zh) [.vl (f a)]).bind λv=>(zL (zz 0) Zi (zd 1 c (z9 (vE 0) zh)) (as.map f) [.vl (f a)]).bind λvs=> .ok (v :: vs):=rfl;rw [e,Zv,v0,bOk,h a List.mem_cons_self,bOk,uM f g as _ λb hb=>h b (List.mem_cons_of_mem _ hb)]; rfl
abbrev en1 (t:T):En:=[.vl t]
theorem vq {x:Str} (h:Z5 (.str x)=true):∀ c∈x.cps.toList,97<=c/\c<=122:=by
 have h:(decide (1<=x.length) && decide (x.length<=3) && x.cps.toList.all zV)=true:=h;rw [Bool.and_eq_true] at h;intro c hc;have:=List.all_eq_true.mp h.2 c hc;unfold zV at this;simp at this;exact this
def pln (c:Nat):Prop:=c ≠ 32/\c ≠ 40/\c ≠ 91/\c ≠ 123/\c ≠ 41/\c ≠ 93/\c ≠ 125
theorem KG {c:Nat} (h:pln c):opn c=false/\cls c=false:=by
 unfold pln at h;unfold opn cls;simp; omega
theorem qR:∀ (l:List Nat) (d:Nat),(∀ c∈l,pln c)->sc d l=some d
 | [],_,_=>rfl
 | c :: r,d,h=>by
  have hc:=h c List.mem_cons_self;obtain ⟨h1,h2⟩:=KG hc;unfold sc;rw [h1,h2,if_neg Bool.false_ne_true,if_neg Bool.false_ne_true,if_neg (λz=>hc.1 z.2)];exact qR r d λx hx=>h x (List.mem_cons_of_mem _ hx)
theorem Uq (d c:Nat) (r:List Nat):sc d (c :: r)=if opn c then sc (d+1) r else if cls c then (match d with | 0=>none | e+1=>if e=0/\c=32 then none else sc e r) else if d=0/\c=32 then none else sc d r:=by
 conv=>lhs; unfold sc
 all_goals (cases d <;> rfl)
theorem uN:∀ (a b:List Nat) (d e:Nat),sc d a=some e->sc d (a++b)=sc e b
 | [],b,d,e,h=>by cases h; rfl
 | c :: r,b,d,e,h=>by
  rw [List.cons_append,Uq];rw [Uq] at h;split at h
  ·rename_i ho;rw [if_pos ho]; exact uN r b _ _ h
  ·rename_i ho;rw [if_neg ho];split at h
   ·rename_i hc;rw [if_pos hc];cases d with
    | zero=>cases h
    | succ d=>
     dsimp only at h ⊢;split at h
     ·cases h
     ·rename_i hz;rw [if_neg hz]; exact uN r b _ _ h
   ·rename_i hc;rw [if_neg hc];split at h
    ·cases h
    ·rename_i hz;rw [if_neg hz]; exact uN r b _ _ h
theorem qS:∀ (a:List Nat) (d e:Nat),sc d a=some e->sc (d+1) a=some (e+1)
 | [],d,e,h=>by cases h; rfl
 | c :: r,d,e,h=>by
  unfold sc at h ⊢;split at h
  ·rename_i ho;rw [if_pos ho]; exact qS r _ _ h
  ·rename_i ho;rw [if_neg ho];split at h
   ·rename_i hc;rw [if_pos hc];cases d with
    | zero=>cases h
    | succ d=>
     dsimp only at h ⊢;split at h
     ·cases h
     ·rw [if_neg (by omega)]; exact qS r _ _ h
   ·rename_i hc;rw [if_neg hc];split at h
    ·cases h
    ·rw [if_neg (by omega)]; exact qS r _ _ h
theorem KH:∀ ls:List (List Nat),(∀ w∈ls,sc 0 w=some 0)->sc 1 (jn ls)=some 1
 | [],_=>rfl
 | [w],h=>qS w 0 0 (h w List.mem_cons_self)
 | w :: v :: r,h=>by
  show sc 1 (w++32 :: jn (v :: r))=_;rw [uN w _ 1 1 (qS w 0 0 (h w List.mem_cons_self))];show sc 1 (jn (v :: r))=_;exact KH (v :: r) λz hz=>h z (List.mem_cons_of_mem _ hz)
theorem GS {i:Int} (h1: -20<=i) (h2:i<=20):∀ c∈nl i,pln c:=λc hc=>by
 have:=(KA h1 h2).2.2.1 c hc;unfold pln; omega
def Wt:Nat->T->Prop
 | 0,_=>False
 | d+1,x=>(∃ i:Int,x= .int i/\ -20<=i/\i<=20)\/(∃ w:Str,x= .str w/\Z5 (.str w)=true)\/∃ xs:List T,x= .tup xs/\xs.length<=3/\∀ y∈xs,Wt d y
theorem WR:∀ (d:Nat) (k:Kd) (x:T),k.Ok d->k.has x=true->Wt d x
 | 0,_,_,h,_=>h.elim
 | d+1, .whole lo hi,x,h,hx=>by
  rw [Kd.has] at hx;obtain ⟨i,rfl⟩:=JL hx;have hx:(decide (lo<=i) && decide (i<=hi))=true:=hx;rw [Bool.and_eq_true,decide_eq_true_eq,decide_eq_true_eq] at hx;have h1:=h.1;have h3:=h.2.2;exact .inl ⟨i,rfl,by omega,by omega⟩
 | d+1, .pick cs,x,h,hx=>by
  rw [Kd.has] at hx;dsimp only at hx;split at hx
  ·rename_i y;rw [List.any_eq_true] at hx;obtain ⟨c,hc,e⟩:=hx;rw [← eq_of_beq e];exact .inr (.inl ⟨c.1,rfl,(h.2.2.1 c hc).1⟩)
  ·cases hx
 | d+1, .row ks,x,h,hx=>by
  rw [Kd.has] at hx;dsimp only at hx;split at hx
  ·rename_i xs;rw [Bool.and_eq_true,beq_iff_eq] at hx;refine .inr (.inr ⟨xs,rfl,by rw [hx.1]; exact h.2.1,λy hy=> ?_⟩)
   obtain ⟨k,hk,hh⟩:=Jv ks xs hx.1 hx.2 y hy;exact WR d k y (h.2.2 k hk) hh
  ·cases hx
 | d+1, .many k lo hi,x,h,hx=>by
  rw [Kd.has] at hx;dsimp only at hx;split at hx
  ·rename_i xs;rw [Bool.and_eq_true,Bool.and_eq_true,decide_eq_true_eq,decide_eq_true_eq,List.all_eq_true] at hx;exact .inr (.inr ⟨xs,rfl,Nat.le_trans hx.1.2 h.2.1,λy hy=>WR d k y h.2.2 (hx.2 y hy)⟩)
  ·cases hx
mutual
def wx:T->List Nat
 | .int i=>nl i
 | .str x=>x.cps.toList
 | .tup xs=>40 :: (jn (wxs xs)++[41])
 | _=>[]
def wxs:List T->List (List Nat)
 | []=>[]
 | x :: xs=>wx x :: wxs xs
end
theorem qT:∀ xs:List T,wxs xs=xs.map wx
 | []=>by simp only [wxs,List.map_nil]
 | x :: xs=>by simp only [wxs,List.map_cons,qT xs]
theorem Vk (xs:List T):wx (.tup xs)=40 :: (jn (xs.map wx)++[41]):=by rw [wx,qT]
theorem Xf (i:Int):wx (.int i)=nl i:=by rw [wx]
theorem Xg (x:Str):wx (.str x)=x.cps.toList:=by rw [wx]
def lw:Nat->Nat
 | 0=>0
 | d+1=>3*lw d+6
theorem vt {d:Nat} (h:d<=3):lw d<=78:=by
 have:d=0\/d=1\/d=2\/d=3:=by omega
 rcases this with rfl | rfl | rfl | rfl <;> decide
theorem uO:∀ (d:Nat) (x:T),Wt d x->(wx x).length<=lw d
 | 0,_,h=>h.elim
 | d+1,x,h=>by
  rcases h with ⟨i,rfl,h1,h2⟩ | ⟨w,rfl,hw⟩ | ⟨xs,rfl,h3,hy⟩
  ·rw [Xf];have:=(KA h1 h2).1;unfold lw; omega
  ·rw [Xg];have:=ye hw;unfold lw; omega
  ·rw [Vk];have:=qP (lw d) (xs.map wx) λl hl=>by
    obtain ⟨y,hy',rfl⟩:=List.mem_map.mp hl;exact uO d y (hy y hy')
   rw [List.length_map] at this;have h4:xs.length*(lw d+1)<=3*(lw d+1):=Nat.mul_le_mul_right _ h3;simp only [lw,List.length_cons,List.length_append,List.length_nil]; omega
theorem GT:∀ (d:Nat) (x:T),Wt d x->wx x ≠ []
 | 0,_,h=>h.elim
 | d+1,x,h=>by
  rcases h with ⟨i,rfl,h1,h2⟩ | ⟨w,rfl,hw⟩ | ⟨xs,rfl,h3,hy⟩
  ·rw [Xf]; exact (KA h1 h2).2.1
  ·rw [Xg];intro z;have h:(decide (1<=w.length) && decide (w.length<=3) && w.cps.toList.all zV)=true:=hw;rw [Bool.and_eq_true,Bool.and_eq_true] at h;have h1:=of_decide_eq_true h.1.1;have h2:=congrArg List.length z;simp [Str.length] at h1 h2;rw [h2] at h1;exact absurd h1 (by decide)
  ·rw [Vk]; exact List.cons_ne_nil _ _
theorem KI:∀ (d:Nat) (x:T),Wt d x->sc 0 (wx x)=some 0
 | 0,_,h=>h.elim
 | d+1,x,h=>by
  rcases h with ⟨i,rfl,h1,h2⟩ | ⟨w,rfl,hw⟩ | ⟨xs,rfl,h3,hy⟩
  ·rw [Xf]; exact qR _ 0 (GS h1 h2)
  ·rw [Xg];refine qR _ 0 λc hc=> ?_;have:=vq hw c hc;unfold pln; omega
  ·rw [Vk,Uq,if_pos (by decide),uN _ _ 1 1 (KH _ λl hl=> ?_)]
   ·decide
   ·obtain ⟨y,hy',rfl⟩:=List.mem_map.mp hl;exact KI d y (hy y hy')
theorem KJ {i:Int} (h1: -20<=i) (h2:i<=20) {f:En->R T} {ρ:En} (h:f ρ= .ok (.int i)):ap1 V0 f ρ= .ok (.str (S (nl i))):=by
 rw [ZB,h,bOk];unfold V0;rw [KC (by omega)]
theorem KK {w:Str} (hw:Z5 (.str w)=true) {f:En->R T} {ρ:En} (h:f ρ= .ok (.str w)):ap1 V0 f ρ= .ok (.str (S w.cps.toList)):=by
 have hl:=ye hw;have e0:txO (.str w)=some (S w.cps.toList):=by rw [Kq]; exact if_pos (by simp [Str.length] at hl ⊢; omega)
 rw [ZB,h,bOk];unfold V0;rw [e0]
theorem Ur {d:Nat} {xs:List T} (hd:d<=3) (h2:xs.length<=3) (h3:∀ x∈xs,Wt d x):((xs.map wx).map (·.length)).sum+(xs.map wx).length<=10000/\(jn (xs.map wx)).length<=300:=by
 have hB:=vt hd;have h:∀ l∈xs.map wx,l.length<=78:=λl hl=>by
  obtain ⟨x,hx,rfl⟩:=List.mem_map.mp hl;exact Nat.le_trans (uO d x (h3 x hx)) hB
 have e1:=qQ 78 _ h;have e2:=qP 78 _ h;rw [List.length_map] at e1 e2 ⊢;omega
theorem Xh:∀ (d n:Nat),d<=n->d<=3->∀ x:T,Wt d x->S_g n 0 [x]= .ok (.str (S (wx x)))
 | 0,_,_,_,_,h=>h.elim
 | d+1,n+1,hn,hd,x,h=>by
  show zn (b_g (S_g n 0) (en1 x))=_;unfold b_g;rcases h with ⟨i,rfl,h1,h2⟩ | ⟨w,rfl,hw⟩ | ⟨xs,rfl,h3,hy⟩
  ·rw [zk (ZM rfl),Z9 (KJ h1 h2 rfl),Xf]; rfl
  ·rw [zk (ZM rfl),Z9 (KK hw rfl),Xg]; rfl
  ·obtain ⟨s1,s2⟩:=Ur (by omega) h3 hy
   have e0:Ze (jl (vE 0)) (zz 0) Zi (zd 1 (S_g n 0) (z9 (vE 0) zh)) 1 [] (en1 (.tup xs))= .ok (.lst ((xs.map wx).map λl=>T.str (S l))):=by
    have:=uM (c:=S_g n 0) (λx:T=>x) (λx=>T.str (S (wx x))) xs .un λy hy' =>Xh d n (by omega) (by omega) y (hy y hy')
    rw [List.map_id'] at this;rw [KD (ts:=xs) (itA rfl) (by omega) this,List.map_map]; rfl
   have e1:=Xe e0 s1;have e2:=yQ (f:=cE (.str "(")) (a:=[40]) (ρ:=en1 (.tup xs)) rfl e1 (by simp only [List.length_cons,List.length_nil]; omega)
   have e3:=yQ (g:=cE (.str ")")) (b:=[41]) e2 rfl (by simp only [List.length_append,List.length_cons,List.length_nil]; omega)
   rw [ja (t:= .str (S ([40]++jn (xs.map wx)++[41]))) (by rw [WX rfl]; exact Z9 e3),Vk]; rfl
abbrev ltB (c:List T->R T):En->RS:=zH 1 (ze zu (ze zu (vE 1) (ifE (zC gtC (vB 2) (cE (.int 0))) (cE (.str " ")) (cE (.str "")))) (zd 1 c (z9 (vE 3) (zh))))
theorem qU {c:List T->R T} {t:T}:∀ (xs:List T) (i:Nat) (acc:List Nat) (a b:Sl),acc.length+xs.length*90<=5000->(∀ x∈xs,(wx x).length<=80/\c [x]= .ok (.str (S (wx x))))->
  ∃ a' b',ZI (Z1 2 3) (ltB c) ((xs.zipIdx i).map λq=>T.tup [.int (q.2:Int),q.1]) [.vl t, .vl (.str (S acc)),a,b]= .nx [.vl t, .vl (.str (S (acc++(if i=0 then jn (xs.map wx) else xs.flatMap λx=>32 :: wx x)))),a',b']
 | [],i,acc,a,b,_,_=>⟨a,b,by simp [jn,ZI]⟩
 | x :: xs,i,acc,a,b,hl,h=>by
  obtain ⟨h1,h2⟩:=h x List.mem_cons_self;simp only [List.length_cons] at hl;have e0:ifE (zC gtC (vB 2) (cE (.int 0))) (cE (.str " ")) (cE (.str "")) [.vl t, .vl (.str (S acc)), .vl (.int (i:Int)), .vl x]= .ok (.str (S (if i=0 then [] else [32]))):=by
   have eg:zC gtC (vB 2) (cE (.int 0)) [.vl t, .vl (.str (S acc)), .vl (.int (i:Int)), .vl x]= .ok (decide ((0:Int) < i)):=rfl
   by_cases hi:i=0
   ·rw [if_pos hi,qL (by rw [eg,decide_eq_false (by omega)])]; rfl
   ·rw [if_neg hi,qK (by rw [eg,decide_eq_true (by omega)])]; rfl
  have hz:(if i=0 then ([]:List Nat) else [32]).length<=1:=by split <;> simp
  have e1:=yQ (f:=vE 1) (a:=acc) (ρ:=[.vl t, .vl (.str (S acc)), .vl (.int (i:Int)), .vl x]) rfl e0 (by omega)
  have e2:=yQ (g:=zd 1 c (z9 (vE 3) zh)) (b:=wx x) e1 (by rw [Zv]; exact h2) (by rw [List.length_append]; omega)
  obtain ⟨a',b',ih⟩:=qU xs (i+1) (acc++(if i=0 then [] else [32])++wx x) (.vl (.int (i:Int))) (.vl x) (by rw [List.length_append,List.length_append]; omega) λy hy=>h y (List.mem_cons_of_mem _ hy)
  refine ⟨a',b', ?_⟩;rw [List.zipIdx_cons,List.map_cons,JW (ρ1:=[.vl t, .vl (.str (S acc)), .vl (.int (i:Int)), .vl x]) (ρ2:=[.vl t, .vl (.str (S (acc++(if i=0 then [] else [32])++wx x))), .vl (.int (i:Int)), .vl x]) rfl (Z8 e2),ih]
  rw [if_neg (show ¬ (i+1=0) by omega)]
  congr 1
  by_cases hi:i=0
  ·rw [if_pos hi,if_pos hi];have:∀ (x:T) (xs:List T),wx x++xs.flatMap (λx=>32 :: wx x)=jn ((x :: xs).map wx):=by
    intro x xs
    induction xs generalizing x with
    | nil=>simp [jn]
    | cons y r ih=>rw [List.flatMap_cons,List.map_cons,List.map_cons]; show _=wx x++32 :: jn (wx y :: r.map wx); rw [← List.map_cons,← ih y]; simp
   rw [← this x xs]; simp
  ·rw [if_neg hi,if_neg hi]; simp
theorem Xi:∀ (d n:Nat),d<=n->d<=3->∀ x:T,Wt d x->S_i n 0 [x]= .ok (.str (S (wx x)))
 | 0,_,_,_,_,h=>h.elim
 | d+1,n+1,hn,hd,x,h=>by
  show zn (b_i (S_i n 0) [.vl x, .un, .un, .un])=_;unfold b_i;rcases h with ⟨i,rfl,h1,h2⟩ | ⟨w,rfl,hw⟩ | ⟨xs,rfl,h3,hy⟩
  ·rw [ja (t:= .str (S (nl i))) (by rw [WX rfl]; exact Z9 (KJ h1 h2 rfl)),Xf]; rfl
  ·rw [ja (t:= .str (S w.cps.toList)) (by rw [WX rfl]; exact Z9 (KK hw rfl)),Xg]; rfl
  ·obtain ⟨s1,s2⟩:=Ur (by omega) h3 hy
   obtain ⟨a',b',e1⟩:=qU (c:=S_i n 0) (t:= .tup xs) xs 0 [40] .un .un (by simp; omega) λy hy' =>⟨by have:=uO d y (hy y hy'); have:=vt (d:=d) (by omega); omega,Xi d n (by omega) (by omega) y (hy y hy')⟩
   rw [if_pos rfl] at e1;have e2:jx (YT (vE 0)) (Z1 2 3) (ltB (S_i n 0)) [.vl (.tup xs), .vl (.str (S [40])), .un, .un]= .nx [.vl (.tup xs), .vl (.str (S ([40]++jn (xs.map wx)))),a',b']:=e1;have e0:zH 1 (cE (.str "(")) [.vl (.tup xs), .un, .un, .un]= .nx [.vl (.tup xs), .vl (.str (S [40])), .un, .un]:=rfl;have e3:=yQ (f:=vE 1) (a:=[40]++jn (xs.map wx)) (g:=cE (.str ")")) (b:=[41]) (ρ:=frz [.vl (.tup xs), .vl (.str (S ([40]++jn (xs.map wx)))),a',b']) rfl rfl (by simp only [List.length_append,List.length_cons,List.length_nil]; omega)
   unfold ltB at e2;rw [zk (ZM rfl),zk e0,zk e2,Z9 e3,Vk]; rfl
def pre (ps:List (List Nat)):List Nat:=ps.flatMap (·++[32])
theorem qV:∀ (ps:List (List Nat)) (r:List Nat),jn (ps++[r])=pre ps++r
 | [],r=>rfl
 | [p],r=>by simp [jn,pre]
 | p :: q :: ps,r=>by
  have:=qV (q :: ps) r;show p++32 :: jn (q :: (ps++[r]))=_;rw [show q :: (ps++[r])=(q :: ps)++[r] from rfl,this];simp [pre]
theorem vv (ps:List (List Nat)) (p:List Nat):pre (ps++[p])=pre ps++(p++[32]):=by simp [pre]
theorem Xj {L:List Nat} (hL:L.length<=900):∀ (r:List Nat) (i b:Nat) (ps:List (List Nat)) (d:Int) (x y:Sl),L.drop i=r->b<=i->i<=L.length->ps.length<=i->L=pre ps++L.drop b->
  ∃ (ps' :List (List Nat)) (b' :Nat) (d' :Int) (x' y' :Sl),ZI (Z1 5 6) Jx ((itm L).drop i) (pE L (ps.map λl=>T.str (S l)) (b:Nat) d x y)= .nx (pE L (ps'.map λl=>T.str (S l)) (b' :Nat) d' x' y')/\b' <=L.length/\ps'.length<=L.length/\L=pre ps' ++L.drop b'
 | [],i,b,ps,d,x,y,hr,hb,hi,hp,hj=>by
  refine ⟨ps,b,d,x,y, ?_,by omega,by omega,hj⟩
  have:(itm L).drop i=[]:=by
   refine List.drop_eq_nil_of_le ?_;have e:=congrArg List.length hr;unfold itm jo Zx;rw [ZZ];simp at e ⊢; omega
  rw [this]; rfl
 | c :: r,i,b,ps,d,x,y,hr,hb,hi,hp,hj=>by
  have hr' :L.drop (i+1)=r:=by
   have:(L.drop i).drop 1=r:=by rw [hr]; rfl
   rw [List.drop_drop] at this; exact this
  have hi' :i+1<=L.length:=by
   have:=congrArg List.length hr;simp at this; omega
  by_cases h:((d+(if opn c then 1 else 0) - (if cls c then 1 else 0) == 0) && (c == 32))=true
  ·rw [Bool.and_eq_true,beq_iff_eq,beq_iff_eq] at h;obtain ⟨h1,rfl⟩:=h;have hd:d=0:=by
    have e0:(if opn 32 then (1:Int) else 0)=0:=by decide
    have e1:(if cls 32 then (1:Int) else 0)=0:=by decide
    omega
   subst hd;obtain ⟨x',y',q⟩:=Ky (L:=L) (acc:=ps.map λl=>T.str (S l)) (b:=b) (i:=i) (x:=x) (y:=y) hr hb (by omega) (by rw [List.length_map]; omega)
   have hps:(ps.map λl=>T.str (S l))++[T.str (S ((L.drop b).take (i - b)))]=(ps++[(L.drop b).take (i - b)]).map λl=>T.str (S l):=by simp
   rw [hps] at q;obtain ⟨ps',b',d',x2,y2,q2,a1,a2,a3⟩:=Xj hL r (i+1) (i+1) (ps++[(L.drop b).take (i - b)]) 0 x' y' hr' (Nat.le_refl _) hi' (by simp; omega) (by
    have hsp:L.drop b=(L.drop b).take (i - b)++32 :: r:=by
     have h3:(L.drop b).drop (i - b)=32 :: r:=by rw [List.drop_drop,show b+(i - b)=i by omega]; exact hr
     rw [← h3,List.take_append_drop]
    rw [hr',vv];refine hj.trans ?_;rw [List.append_assoc,List.append_assoc];congr 1)
   exact ⟨ps',b',d',x2,y2,q.trans q2,a1,a2,a3⟩
  ·have hn:=Bool.eq_false_iff.mpr h;obtain ⟨ps',b',d',x2,y2,q2,a⟩:=Xj hL r (i+1) b ps (d+(if opn c then 1 else 0) - (if cls c then 1 else 0)) (.vl (.int (i:Nat))) (.vl (.str (S [c]))) hr' (by omega) hi' (by omega) hj
   exact ⟨ps',b',d',x2,y2,(yd hr hn).trans q2,a⟩
theorem yR {L:List Nat} (hL:L.length<=900):∃ ls:List (List Nat),ls ≠ []/\ls.length<=901/\jn ls=L/\f_q [.str (S L), .str " "]= .ok (.lst (ls.map λl=>T.str (S l))):=by
 obtain ⟨ps,j,d',x',y',q,a1,a2,a3⟩:=Xj hL L 0 0 [] 0 .un .un rfl (Nat.le_refl _) (Nat.zero_le _) (Nat.zero_le _) (by simp [pre])
 refine ⟨ps++[L.drop j],by simp,by simp; omega,by rw [qV]; exact a3.symm, ?_⟩
 have e1:jx (UP (vE 0)) (Z1 5 6) Jx (pE L [] 0 0 .un .un)= .nx (pE L (ps.map λl=>T.str (S l)) (j:Nat) d' x' y'):=q;have e2:J7 (vE 0) (zB (vE 3)) noO (pE L (ps.map λl=>T.str (S l)) (j:Nat) d' x' y')= .ok (.str (S (L.drop j))):=by
  show (if (S L).length<=bnd then R.ok (T.str (Txt.slice (S L) (some (j:Int)) none)) else .bad)=_
  rw [qM a1,if_pos];rw [jt];have:bnd=16777216:=rfl;omega
 have e3:Qg 2 (J7 (vE 0) (zB (vE 3)) noO) (pE L (ps.map λl=>T.str (S l)) (j:Nat) d' x' y')= .nx (pE L ((ps++[L.drop j]).map λl=>T.str (S l)) (j:Nat) d' x' y'):=by
  show (R.s (J7 (vE 0) (zB (vE 3)) noO _) λt=>if (ps.map λl=>T.str (S l)).length < bnd then RS.nx _ else .bad)=_
  rw [e2,Zg,if_pos (by rw [List.length_map]; have:bnd=16777216:=rfl; omega),List.map_append]
  rfl
 show zn (b_q [.vl (.str (S L)), .vl (.str " "), .un, .un, .un, .un, .un])=_;unfold b_q;have z1:UD 2 zh [.vl (.str (S L)), .vl (.str " "), .un, .un, .un, .un, .un]= .nx [.vl (.str (S L)), .vl (.str " "), .ow [], .un, .un, .un, .un]:=rfl;have z2:zH 3 (cE (.int 0)) [.vl (.str (S L)), .vl (.str " "), .ow [], .un, .un, .un, .un]= .nx [.vl (.str (S L)), .vl (.str " "), .ow [], .vl (.int 0), .un, .un, .un]:=rfl;have z3:zH 4 (cE (.int 0)) [.vl (.str (S L)), .vl (.str " "), .ow [], .vl (.int 0), .un, .un, .un]= .nx (pE L [] 0 0 .un .un):=rfl;unfold Jx at e1;rw [zk z1,zk z2,zk z3,zk e1,zk e3];rfl
theorem Xk (d:Nat):Txt.startswith (S []) (S [d])=false:=by
 unfold Txt.startswith;rw [StrLaws.subAt_eq,jt,jt,ZZ,ZZ];simp
theorem Us (c d:Nat) (l:List Nat):Txt.endswith (S (l++[c])) (S [d])=(c == d):=by
 unfold Txt.endswith;rw [StrLaws.subAt_eq,jt,jt,ZZ,ZZ];simp
abbrev tiE (L:List Nat):En:=[.vl (.str (S L)), .vl (.str (S [40])), .vl (.str (S [41]))]
abbrev tiT:En->R Bool:=orT (jE (ZP (smE gm (vE 0) (vE 1)))) (jE (ZP (smE gp (vE 0) (vE 2))))
theorem qW (L:List Nat):tiT (tiE L)= .ok (!(Txt.startswith (S L) (S [40]) && Txt.endswith (S L) (S [41]))):=by
 have e1:smE gm (vE 0) (vE 1) (tiE L)= .ok (.bl (Txt.startswith (S L) (S [40]))):=rfl;have e2:smE gp (vE 0) (vE 2) (tiE L)= .ok (.bl (Txt.endswith (S L) (S [41]))):=rfl;unfold tiT;rw [U7,jP,je,e1,bOk,ZC,bOk,bOk,jP,je,e2,bOk,ZC,bOk];cases Txt.startswith (S L) (S [40]) <;> rfl
theorem Xl {L:List Nat} (h:(Txt.startswith (S L) (S [40]) && Txt.endswith (S L) (S [41]))=true):∃ m,L=40 :: (m++[41]):=by
 rw [Bool.and_eq_true] at h;cases L with
 | nil=>rw [Xk] at h; cases h.1
 | cons c r=>
  rw [Kr,beq_iff_eq] at h;obtain ⟨rfl,h2⟩:=h;rcases List.eq_nil_or_concat r with rfl | ⟨m,e,rfl⟩
  ·rw [show [40]=[]++[40] from rfl,Us] at h2;cases h2
  ·rw [List.concat_eq_append] at h2 ⊢;rw [show 40 :: (m++[e])=(40 :: m)++[e] from rfl,Us,beq_iff_eq] at h2;exact ⟨m,by rw [h2]⟩
theorem qX {L:List Nat} (h:∀ m,L ≠ 40 :: (m++[41])):f_x [.str (S L), .str "(", .str ")"]= .ex 5:=by
 show zn (b_x (tiE L))=_;unfold b_x;have e:(Txt.startswith (S L) (S [40]) && Txt.endswith (S L) (S [41]))=false:=Bool.eq_false_iff.mpr λz=>(Xl z).elim h;rw [JX (c:=5) (by rw [WX ((qW L).trans (by rw [e]; rfl))]; rfl)]
 rfl
theorem yS {m:List Nat} (hl:m.length<=9000):f_x [.str (S (40 :: (m++[41]))), .str "(", .str ")"]= .ok (.str (S m)):=by
 show zn (b_x (tiE (40 :: (m++[41]))))=_;unfold b_x;have e3:tiT (tiE (40 :: (m++[41])))= .ok false:=by
  rw [qW,Kr,show 40 :: (m++[41])=(40 :: m)++[41] from rfl,Us]; rfl
 have e4:J7 (vE 0) (zB (ap1 zY (vB 1))) (zB (yv (ap1 zY (vB 2)))) (tiE (40 :: (m++[41])))= .ok (.str (S m)):=by
  show (if (S (40 :: (m++[41]))).length<=bnd then R.ok (T.str (Txt.slice (S (40 :: (m++[41]))) (some 1) (some (-1)))) else .bad)=_
  rw [Kt,if_pos];rw [jt];have:bnd=16777216:=rfl;simp only [List.length_cons,List.length_append,List.length_nil]; omega
 rw [zk (ZM e3),Z9 e4]; rfl
abbrev poT (m:List Nat):En:=[.vl (.str (S (40 :: (m++[41])))), .vl (.str (S m))]
theorem yf {m:List Nat} (hl:m.length<=9000):zH 1 (zd 3 f_x (z9 (vE 0) (z9 (cE (.str "(")) (z9 (cE (.str ")")) (zh))))) [.vl (.str (S (40 :: (m++[41])))), .un]= .nx (poT m):=by
 rw [Z8 (t:= .str (S m)) (by rw [Z2]; exact yS hl)]; rfl
theorem vw (m:List Nat):zC neC (vB 1) (cE (.str "")) (poT m)= .ok (decide (m ≠ [])):=by
 show R.ok (!(S m == S []))=_
 by_cases h:m=[]
 ·subst h; rfl
 ·rw [beq_eq_false_iff_ne.mpr (λz=>h (vp z)),decide_eq_true h]; rfl
theorem qY {L:List Nat} (hL:L.length<=900):(∃ ls:List (List Nat),ls.length<=901/\(∀ l∈ls,l.length<=900)/\L=40 :: (jn ls++[41])/\f_o [.str (S L)]= .ok (.lst (ls.map λl=>T.str (S l))))\/f_o [.str (S L)]= .ex 5:=by
 by_cases h:∃ m,L=40 :: (m++[41])
 ·obtain ⟨m,rfl⟩:=h;have hm:m.length<=900:=by simp at hL; omega
  left
  by_cases hz:m=[]
  ·subst hz;refine ⟨[],by simp,(λl hl=>by cases hl),rfl, ?_⟩
   show zn (b_o f_x f_q [.vl (.str (S (40 :: ([]++[41])))), .un])=_;unfold b_o;rw [zk (yf (by simp)),Z9 (t:= .lst []) (by show ifE _ _ _ (poT [])=_; rw [qL (by rw [vw]; rfl)]; rfl)]; rfl
  ·obtain ⟨ls,h0,h1,h2,h3⟩:=yR hm;have hlen:∀ (ls:List (List Nat)) (l:List Nat),l∈ls->l.length<=(jn ls).length:=by
    intro ls
    induction ls with
    | nil=>intro l hl; cases hl
    | cons a r ih=>
     intro l hl;cases r with
     | nil=>rw [List.mem_singleton.mp hl]; exact Nat.le_refl _
     | cons b r=>
      have e:(jn (a :: b :: r)).length=a.length+1+(jn (b :: r)).length:=by simp [jn]; omega
      rcases List.mem_cons.mp hl with rfl | hl
      ·omega
      ·have:=ih l hl; omega
   refine ⟨ls,h1,λl hl=>by have:=hlen ls l hl; rw [h2] at this; omega,by rw [h2], ?_⟩
   show zn (b_o f_x f_q [.vl (.str (S (40 :: (m++[41])))), .un])=_;unfold b_o;rw [zk (yf (by omega)),Z9 (t:= .lst (ls.map λl=>T.str (S l))) (by show ifE _ _ _ (poT m)=_; rw [qK (by rw [vw,decide_eq_true hz]),ZA]; exact h3)]; rfl
 ·right
  show zn (b_o f_x f_q [.vl (.str (S L)), .un])=_;unfold b_o;rw [JX (c:=5) (Kp (by rw [Z2]; exact qX λm z=>h ⟨m,z⟩))]; rfl
theorem KL {ls:List (List Nat)} (hc:ls.length<=100) (hs:∀ w∈ls,sc 0 w=some 0) (hn:∀ w∈ls,w ≠ []) (hL:(jn ls).length<=9000):f_o [.str (S (40 :: (jn ls++[41])))]= .ok (.lst (ls.map λl=>T.str (S l))):=by
 show zn (b_o f_x f_q [.vl (.str (S (40 :: (jn ls++[41])))), .un])=_;unfold b_o;cases ls with
 | nil=>rw [zk (yf hL),Z9 (t:= .lst []) (by show ifE _ _ _ (poT [])=_; rw [qL (by rw [vw]; rfl)]; rfl)]; rfl
 | cons a r=>
  have hz:jn (a :: r) ≠ []:=by
   have ha:=hn a List.mem_cons_self;cases r with
   | nil=>exact ha
   | cons b r=>show a++_ ≠ []; simp
  rw [zk (yf hL),Z9 (t:= .lst ((a :: r).map λl=>T.str (S l))) (by show ifE _ _ _ (poT (jn (a :: r)))=_; rw [qK (by rw [vw,decide_eq_true hz]),ZA]; exact qO (List.cons_ne_nil _ _) hc hs hL)]; rfl
theorem JO {g:En->R Bool} {f:En->R T} {h:En->RS} {ρ:En} (hg:g ρ= .ok true):zn (zv (ifS g (zI f) nxS) h ρ)=f (frz ρ):=by
 rw [zG,WX hg,zW];cases f (frz ρ) <;> rfl
theorem Je {f:En->R T} {ρ:En}:zn (zI f ρ)=f (frz ρ):=by rw [zW,ZW]
theorem vx {k:Kd} (h:k.Ok 1):f_j [k.t]= .ok (.int (k.all.length:Int)):=by
 show zn (b_j ZY j7 [.vl k.t])=_;unfold b_j;cases k with
 | whole lo hi=>
  obtain ⟨h1,h2,h3⟩:=h;rw [jS];simp only [Kd.t];rw [ja (t:= .int ((hi+1 - lo).toNat:Int))]
  ·rfl
  ·rw [WX (by rw [cs0,beq_self_eq_true]),Z9]
   show R.ok (T.int (hi - lo+1))=_;congr 2; omega
 | pick cs=>
  rw [WL];simp only [Kd.t];rw [zk (ZM (by rw [cs0]; rfl)),ja (t:= .int (cs.length:Int))]
  ·rfl
  ·rw [WX (by rw [cs0,beq_self_eq_true]),Z9]
   show R.ok (T.int ((cs.map JM).length:Int))=_;rw [List.length_map]
 | row ks=>
  obtain ⟨h1,_,h3⟩:=h;cases ks with
  | nil=>cases h1
  | cons k ks=>exact (h3 k List.mem_cons_self).elim
 | many k lo hi=>exact h.2.2.elim
theorem Xm {k:Kd} (h:k.Ok 1) {i:Nat} {x:T} (hx:k.all[i]? =some x):K4 [k.t, .int (i:Int)]= .ok x:=by
 have hi' :=(List.getElem?_eq_some_iff.mp hx).1;show zn (gw f_m wG JI (en2 k.t (.int (i:Int))))=_;unfold gw;cases k with
 | whole lo hi=>
  rw [Kd.all,List.getElem?_map] at hx;rw [jS] at hi';rw [List.getElem?_range hi'] at hx;cases hx;simp only [Kd.t];rw [ja (t:= .int (lo+(i:Int)))]
  ·rfl
  ·rw [Km,Z9]; rfl
 | pick cs=>
  have hw:=y9 cs h.2.1;rw [Kd.all] at hx;simp only [Kd.t] at hw ⊢;rw [zk (X6 (by decide)),ja (t:=x)]
  ·rfl
  ·rw [Km,Z9];show ze ixT _ _ (en2 _ _)=_;rw [zm,Zv,v0,bOk,hw,bOk,v1,bOk];exact Kn hx
 | row ks=>
  obtain ⟨h1,_,h3⟩:=h;cases ks with
  | nil=>cases h1
  | cons k ks=>exact (h3 k List.mem_cons_self).elim
 | many k lo hi=>exact h.2.2.elim
abbrev siE (k:Kd) (L:List Nat) (x y:Sl):En:=[.vl k.t, .vl (.str (S L)),x,y]
abbrev siB:En->RS:=zv (zH 3 (zd 2 (K4) (z9 (vE 0) (z9 (vE 2) (zh)))))
  (ifS (zC eqC (zd 1 (f_g 8) (z9 (vE 3) (zh))) (vB 1)) (zI (vE 3)) (nxS))
theorem Xn {k:Kd} (h1:k.Ok 1) {L:List Nat} {j:Nat} {w:T} (hw:k.all[j]? =some w) (y:Sl):siB (siE k L (.vl (.int (0+(j:Int)))) y)=if wx w=L then .rt w else .nx (siE k L (.vl (.int (0+(j:Int)))) (.vl w)):=by
 have hk:k.Ok 3:=Ok.mono 2 k (Ok.mono 1 k h1);have hh:k.has w=true:=(ZN k w).mp (List.mem_of_getElem? hw);have e1:zH 3 (zd 2 (K4) (z9 (vE 0) (z9 (vE 2) (zh)))) (siE k L (.vl (.int (0+(j:Int)))) y)= .nx (siE k L (.vl (.int (0+(j:Int)))) (.vl w)):=by
  rw [Z8 (t:=w)]
  ·rfl
  ·rw [ZA,v0,bOk,v2,bOk,show (0:Int)+(j:Int)=(j:Int) by omega]; exact Xm h1 hw
 have e2:zC eqC (zd 1 (f_g 8) (z9 (vE 3) (zh))) (vB 1) (siE k L (.vl (.int (0+(j:Int)))) (.vl w))= .ok (S (wx w) == S L):=by
  rw [zX,Zv,v3,bOk,show f_g 8 [w]= .ok (.str (S (wx w))) from Xh 3 8 (by omega) (by omega) w (WR 3 k w hk hh),bOk,w1,bOk]; rfl
 unfold siB;rw [zk e1]
 by_cases h:wx w=L
 ·rw [if_pos h,WX (by rw [e2,h,beq_self_eq_true]),Z9 (t:=w) rfl]
 ·rw [if_neg h,ZM (by rw [e2,beq_eq_false_iff_ne.mpr (λz=>h (vp z))])]
theorem qZ {k:Kd} (h1:k.Ok 1) {L:List Nat}:∀ (js:List Nat) (x y:Sl),(∀ j∈js,j < k.all.length)->
  (∃ w,k.has w=true/\wx w=L/\ZI (zz 2) siB (js.map λ(j:Nat)=>T.int (0+(j:Int))) (siE k L x y)= .rt w)\/((∀ j∈js,∀ w,k.all[j]? =some w->wx w ≠ L)/\∃ x' y',ZI (zz 2) siB (js.map λ(j:Nat)=>T.int (0+(j:Int))) (siE k L x y)= .nx (siE k L x' y'))
 | [],x,y,_=> .inr ⟨(λj hj=>by cases hj),x,y,rfl⟩
 | j :: js,x,y,h=>by
  obtain ⟨w,hw⟩:=yb (h j List.mem_cons_self);have ht:=Xn h1 (L:=L) hw y
  by_cases hx:wx w=L
  ·rw [if_pos hx] at ht;exact .inl ⟨w,(ZN k w).mp (List.mem_of_getElem? hw),hx,Vf (ρ1:=siE k L (.vl (.int (0+(j:Int)))) y) rfl ht⟩
  ·rw [if_neg hx] at ht;have e:ZI (zz 2) siB ((j :: js).map λ(j:Nat)=>T.int (0+(j:Int))) (siE k L x y)=ZI (zz 2) siB (js.map λ(j:Nat)=>T.int (0+(j:Int))) (siE k L (.vl (.int (0+(j:Int)))) (.vl w)):=JW (ρ1:=siE k L (.vl (.int (0+(j:Int)))) y) rfl ht;rcases qZ h1 js (.vl (.int (0+(j:Int)))) (.vl w) (λi hi=>h i (List.mem_cons_of_mem _ hi)) with ⟨w',a1,a2,a3⟩ | ⟨a1,x',y',a2⟩
   ·exact .inl ⟨w',a1,a2,e.trans a3⟩
   ·refine .inr ⟨λi hi w' hw' => ?_,x',y',e.trans a2⟩;rcases List.mem_cons.mp hi with rfl | hi
    ·rw [hw] at hw'; cases hw'; exact hx
    ·exact a1 i hi w' hw'
theorem Wh {k:Kd} (h1:k.Ok 1) (L:List Nat):(∃ w,Qi [k.t, .str (S L)]= .ok w/\k.has w=true/\wx w=L)\/(Qi [k.t, .str (S L)]= .ex 5/\∀ w,k.has w=true->wx w ≠ L):=by
 have hk:k.Ok 3:=Ok.mono 2 k (Ok.mono 1 k h1);have hm:k.all.length < 1000000:=Nat.lt_of_le_of_lt (wP 1 k h1) (by decide)
 have ei:Zu (zd 1 (f_j) (z9 (vE 0) (zh))) (siE k L .un .un)= .ok (rng 0 k.all.length):=by
  rw [Up (j:=(k.all.length:Int)) (by rw [Zv,v0,bOk]; exact vx h1) (by omega)]
  rfl
 have es:jx (Zu (zd 1 (f_j) (z9 (vE 0) (zh)))) (zz 2) siB (siE k L .un .un)=ZI (zz 2) siB ((List.range k.all.length).map λ(j:Nat)=>T.int (0+(j:Int))) (siE k L .un .un):=by
  unfold jx; rw [ei,Zg]; rfl
 have e:Qi [k.t, .str (S L)]=zn (zv (jx (Zu (zd 1 (f_j) (z9 (vE 0) (zh)))) (zz 2) siB) (Jr 5) (siE k L .un .un)):=rfl;rcases qZ h1 (L:=L) (List.range k.all.length) .un .un (λj hj=>List.mem_range.mp hj) with ⟨w,a1,a2,a3⟩ | ⟨a1,x',y',a2⟩
 ·exact .inl ⟨w,by rw [e,ja (es.trans a3)]; rfl,a1,a2⟩
 ·refine .inr ⟨by rw [e,zk (es.trans a2)]; rfl,λw hw=> ?_⟩
  obtain ⟨j,hj,hg⟩:=List.mem_iff_getElem.mp ((ZN k w).mpr hw);exact a1 j (List.mem_range.mpr hj) w (by rw [List.getElem?_eq_getElem hj,hg])
theorem KM {i j:Int} (h1: -20<=i) (h2:i<=20) (h3: -20<=j) (h4:j<=20) (h:nl i=nl j):i=j:=by
 have e1:=(KA h1 h2).2.2.2;have e2:=(KA h3 h4).2.2.2;rw [GQ,h,← GQ,e2] at e1;exact (Option.some.inj e1).symm
theorem vy {k:Kd} (h:k.Ok 1) {v w:T} (hv:k.has v=true) (hw:k.has w=true) (e:wx v=wx w):v=w:=by
 cases k with
 | whole lo hi=>
  rw [Kd.has] at hv hw;obtain ⟨i,rfl⟩:=JL hv;obtain ⟨j,rfl⟩:=JL hw;have hv:(decide (lo<=i) && decide (i<=hi))=true:=hv;have hw:(decide (lo<=j) && decide (j<=hi))=true:=hw;rw [Bool.and_eq_true,decide_eq_true_eq,decide_eq_true_eq] at hv hw;obtain ⟨h1,h2,h3⟩:=h;rw [Xf,Xf] at e;rw [KM (by omega) (by omega) (by omega) (by omega) e]
 | pick cs=>
  rw [Kd.has] at hv hw;dsimp only at hv hw;cases v with
  | str a=>
   cases w with
   | str b=>
    rw [Xg,Xg] at e;rw [← Kq a,← Kq b,e]
   | _=>cases hw
  | _=>cases hv
 | row ks=>
  obtain ⟨h1,_,h3⟩:=h;cases ks with
  | nil=>cases h1
  | cons k ks=>exact (h3 k List.mem_cons_self).elim
 | many k lo hi=>exact h.2.2.elim
theorem Q0 {k:Kd} (h1:k.Ok 1) {w:T} (hw:k.has w=true):Qi [k.t, .str (S (wx w))]= .ok w:=by
 rcases Wh h1 (wx w) with ⟨v,a1,a2,a3⟩ | ⟨_,a⟩
 ·rw [a1,vy h1 a2 hw a3]
 ·exact absurd rfl (a w hw)
abbrev pcE (c:List T->R T):En->R T:=zd 2 c (z9 (vE 0) (z9 (vE 1) (zh)))
theorem Vl {c:List T->R T}:∀ (qs:List (Kd×List Nat)) (x y:Sl),(∀ q∈qs,(∃ w,c [q.1.t, .str (S q.2)]= .ok w/\q.1.has w=true/\wx w=q.2)\/c [q.1.t, .str (S q.2)]= .ex 5)->
  (∃ ws:List T,zL (Z1 0 1) Zi (pcE c) (qs.map λq=>T.tup [q.1.t, .str (S q.2)]) [x,y]= .ok ws/\ws.map wx=qs.map (·.2)/\ws.length=qs.length/\Kd.hass (qs.map (·.1)) ws=true)\/zL (Z1 0 1) Zi (pcE c) (qs.map λq=>T.tup [q.1.t, .str (S q.2)]) [x,y]= .ex 5
 | [],_,_,_=> .inl ⟨[],rfl,rfl,rfl,by simp [Kd.hass]⟩
 | q :: qs,x,y,h=>by
  have e0:zL (Z1 0 1) Zi (pcE c) ((q :: qs).map λq=>T.tup [q.1.t, .str (S q.2)]) [x,y]=(pcE c [.vl q.1.t, .vl (.str (S q.2))]).bind λv=>(zL (Z1 0 1) Zi (pcE c) (qs.map λq=>T.tup [q.1.t, .str (S q.2)]) [.vl q.1.t, .vl (.str (S q.2))]).bind λvs=> .ok (v :: vs):=rfl;have e1:pcE c [.vl q.1.t, .vl (.str (S q.2))]=c [q.1.t, .str (S q.2)]:=by unfold pcE; rw [ZA,v0,bOk,v1,bOk]
  rw [e0,e1];rcases h q List.mem_cons_self with ⟨w,a1,a2,a3⟩ | a
  ·rw [a1,bOk];rcases Vl qs (.vl q.1.t) (.vl (.str (S q.2))) (λr hr=>h r (List.mem_cons_of_mem _ hr)) with ⟨ws,b1,b2,b3,b4⟩ | b
   ·rw [b1,bOk];exact .inl ⟨w :: ws,rfl,by rw [List.map_cons,List.map_cons,a3,b2],by rw [List.length_cons,List.length_cons,b3],by rw [List.map_cons,Kd.hass]; simp [a2,b4]⟩
   ·rw [b]; exact .inr rfl
  ·rw [a]; exact .inr rfl
theorem KN {c:List T->R T}:∀ (qs:List (Kd×T)) (x y:Sl),(∀ q∈qs,c [q.1.t, .str (S (wx q.2))]= .ok q.2)->zL (Z1 0 1) Zi (pcE c) (qs.map λq=>T.tup [q.1.t, .str (S (wx q.2))]) [x,y]= .ok (qs.map (·.2))
 | [],_,_,_=>rfl
 | q :: qs,x,y,h=>by
  have e0:zL (Z1 0 1) Zi (pcE c) ((q :: qs).map λq=>T.tup [q.1.t, .str (S (wx q.2))]) [x,y]=(pcE c [.vl q.1.t, .vl (.str (S (wx q.2)))]).bind λv=>(zL (Z1 0 1) Zi (pcE c) (qs.map λq=>T.tup [q.1.t, .str (S (wx q.2))]) [.vl q.1.t, .vl (.str (S (wx q.2)))]).bind λvs=> .ok (v :: vs):=rfl;have e1:pcE c [.vl q.1.t, .vl (.str (S (wx q.2)))]=c [q.1.t, .str (S (wx q.2))]:=by unfold pcE; rw [ZA,v0,bOk,v1,bOk]
  rw [e0,e1,h q List.mem_cons_self,bOk,KN qs _ _ λr hr=>h r (List.mem_cons_of_mem _ hr)]; rfl
theorem KO {c:List T->R T} {s:T} (ks:List Kd) (ls:List (List Nat)) (hs:JZ s= .ok (ks.map Kd.t)) (hl:zY s= .ok (.int (ks.length:Int))) (h3:ks.length<=3):
  zn (b_t c (en0 2 [s, .lst (ls.map λl=>T.str (S l))]))=if ks.length=ls.length then (zL (Z1 0 1) Zi (pcE c) ((ks.zip ls).map λq=>T.tup [q.1.t, .str (S q.2)]) [.un, .un]).bind λws=> .ok (.tup ws) else .ex 5:=by
 have e:en0 2 [s, .lst (ls.map λl=>T.str (S l))]=en2 s (.lst (ls.map λl=>T.str (S l))):=rfl;have et:zC neC (ap1 zY (vB 0)) (ap1 zY (vB 1)) (en2 s (.lst (ls.map λl=>T.str (S l))))= .ok (!((ks.length:Int) == (ls.length:Int))):=by
  rw [zX,ZB,w0,bOk,hl,bOk,ZB,w1,bOk,Wz,bOk,List.length_map]; rfl
 rw [e];unfold b_t
 by_cases h:ks.length=ls.length
 ·rw [if_pos h,zk (ZM (by rw [et,h,beq_self_eq_true]; rfl)),Je]
  have ez:kU (vE 0) (vE 1) (en2 s (.lst (ls.map λl=>T.str (S l))))= .ok ((ks.zip ls).map λq=>T.tup [q.1.t, .str (S q.2)]):=by
   show (JZ s).bind _=_;rw [hs,bOk];show R.ok (YL (ks.map Kd.t) (ls.map λl=>T.str (S l)))=_;unfold YL;rw [List.zip_map,List.map_map]; rfl
  have hb:((ks.zip ls).map λq=>T.tup [q.1.t, .str (S q.2)]).length<=bnd:=by
   rw [List.length_map,List.length_zip];exact Nat.le_trans (Nat.min_le_left _ _) (Nat.le_trans h3 (by decide))
  show ap1 Xx _ (en2 s _)=_;rw [ZB];unfold YG;rw [ez,bOk];unfold YF;rw [if_pos hb];show R.bind (R.bind (zL _ _ _ _ [.un, .un]) _) _=_;cases zL (Z1 0 1) Zi (pcE c) ((ks.zip ls).map λq=>T.tup [q.1.t, .str (S q.2)]) [.un, .un] <;> rfl
 ·rw [if_neg h,JX (c:=5) (by rw [WX (by rw [et,beq_eq_false_iff_ne.mpr (by omega)]; rfl)]; rfl)]; rfl
theorem Vm {n:Nat} (ks:List Kd) (L:List Nat):S_4 (n+1) 0 [(Kd.row ks).t, .str (S L)]=(f_o [.str (S L)]).bind λp=>S_4 n 2 [.tup (ks.map Kd.t),p]:=by
 have e:S_4 (n+1) 0 [(Kd.row ks).t, .str (S L)]=zn (b_4 Qi (S_4 n 1) (S_4 n 2) f_o (en2 (.tup [.str "row", .tup (ks.map Kd.t)]) (.str (S L)))):=by rw [S_4,Kd.t,Kd.ts_map]; rfl
 rw [e];unfold b_4;rw [JO cs0,show frz (en2 (.tup [.str "row", .tup (ks.map Kd.t)]) (.str (S L)))=en2 (.tup [.str "row", .tup (ks.map Kd.t)]) (.str (S L)) from rfl,ZA,yN,bOk,Zv,v1,bOk]
theorem Q1 {n:Nat} (k:Kd) (lo hi:Nat) (L:List Nat):S_4 (n+1) 0 [(Kd.many k lo hi).t, .str (S L)]=(f_o [.str (S L)]).bind λp=>S_4 n 1 [mt k.t lo hi,p]:=by
 have e:S_4 (n+1) 0 [(Kd.many k lo hi).t, .str (S L)]=zn (b_4 Qi (S_4 n 1) (S_4 n 2) f_o (en2 (mt k.t lo hi) (.str (S L)))):=by rw [S_4,Kd.t]; rfl
 rw [e];unfold b_4;rw [zk (ZM (by unfold mt; exact cs0)),JO (by unfold mt; exact cs0),show frz (en2 (mt k.t lo hi) (.str (S L)))=en2 (mt k.t lo hi) (.str (S L)) from rfl,ZA,v0,bOk,Zv,v1,bOk]
theorem Q2 {n:Nat} {k:Kd} (h:k.Ok 1) (L:List Nat):S_4 (n+1) 0 [k.t, .str (S L)]=Qi [k.t, .str (S L)]:=by
 have e:S_4 (n+1) 0 [k.t, .str (S L)]=zn (b_4 Qi (S_4 n 1) (S_4 n 2) f_o (en2 k.t (.str (S L)))):=by rw [S_4]; rfl
 rw [e];unfold b_4;cases k with
 | whole lo hi=>
  rw [zk (ZM (by rw [Kd.t]; exact cs0)),zk (ZM (by rw [Kd.t]; exact cs0)),Je]
  show zd 2 _ _ (en2 _ _)=_;rw [ZA,v0,bOk,v1,bOk]
 | pick cs=>
  rw [zk (ZM (by rw [Kd.t]; exact cs0)),zk (ZM (by rw [Kd.t]; exact cs0)),Je]
  show zd 2 _ _ (en2 _ _)=_;rw [ZA,v0,bOk,v1,bOk]
 | row ks=>
  obtain ⟨h1,_,h3⟩:=h;cases ks with
  | nil=>cases h1
  | cons k ks=>exact (h3 k List.mem_cons_self).elim
 | many k lo hi=>exact h.2.2.elim
theorem KP {n:Nat} {k:Kd} {lo hi:Nat} (h3:hi<=3) (ls:List (List Nat)):S_4 (n+1) 1 [mt k.t lo hi, .lst (ls.map λl=>T.str (S l))]=if lo<=ls.length/\ls.length<=hi then S_4 n 2 [.lst ((List.replicate ls.length k).map Kd.t), .lst (ls.map λl=>T.str (S l))] else .ex 5:=by
 have e:S_4 (n+1) 1 [mt k.t lo hi, .lst (ls.map λl=>T.str (S l))]=zn (gy (S_4 n 2) (en2 (mt k.t lo hi) (.lst (ls.map λl=>T.str (S l))))):=by rw [S_4]; rfl
 have et:jE (chT leC leC (ze ixT (vE 0) (cE (.int 2))) (ap1 zY (vB 1)) (ze ixT (vE 0) (cE (.int 3)))) (en2 (mt k.t lo hi) (.lst (ls.map λl=>T.str (S l))))= .ok (!(decide (lo<=ls.length) && decide (ls.length<=hi))):=by
  rw [jP,qb,show ze ixT (vE 0) (cE (.int 2)) (en2 (mt k.t lo hi) (.lst (ls.map λl=>T.str (S l))))= .ok (.int (lo:Int)) from Vc,bOk,ZB,w1,bOk,Wz,bOk,List.length_map,Wy,bOk,show ze ixT (vE 0) (cE (.int 3)) (en2 (mt k.t lo hi) (.lst (ls.map λl=>T.str (S l))))= .ok (.int (hi:Int)) from XH,bOk,Wy,wQ,wQ];cases decide (lo<=ls.length) <;> rfl
 rw [e];unfold gy
 by_cases h:lo<=ls.length/\ls.length<=hi
 ·rw [if_pos h,zk (ZM (by rw [et,decide_eq_true h.1,decide_eq_true h.2]; rfl)),Je]
  have em:ze Zn (jb (z9 (ze ixT (vE 0) (cE (.int 1))) (zh))) (ap1 zY (vB 1)) (en2 (mt k.t lo hi) (.lst (ls.map λl=>T.str (S l))))= .ok (.lst ((List.replicate ls.length k).map Kd.t)):=by
   rw [zm,GK (x:=k.t) yN,bOk,ZB,w1,bOk,Wz,bOk,List.length_map,qz (by omega),wj,List.map_replicate]
  show zd 2 _ _ (en2 _ _)=_;rw [ZA,em,bOk,v1,bOk]
 ·rw [if_neg h,JX (c:=5) (by rw [WX (by rw [et]; have:(decide (lo<=ls.length) && decide (ls.length<=hi))=false:=Bool.eq_false_iff.mpr λz=>h (by rw [Bool.and_eq_true,decide_eq_true_eq,decide_eq_true_eq] at z; exact z); rw [this]; rfl)]; rfl)]; rfl
theorem si2 {n:Nat} (s p:T):S_4 (n+1) 2 [s,p]=zn (b_t (S_4 n 0) (en0 2 [s,p])):=by
 rw [S_4]
 ·intro h; cases h
 ·intro h; cases h
theorem Q3:∀ (ks:List Kd) (ls:List (List Nat)),ks.length=ls.length->(ks.zip ls).map (·.1)=ks/\(ks.zip ls).map (·.2)=ls
 | [],[],_=>⟨rfl,rfl⟩
 | [],_ :: _,h=>by cases h
 | _ :: _,[],h=>by cases h
 | k :: ks,l :: ls,h=>by
  obtain ⟨a,b⟩:=Q3 ks ls (by simpa using h)
  rw [List.zip_cons_cons,List.map_cons,List.map_cons,a,b];exact ⟨rfl,rfl⟩
abbrev Rd (c:List T->R T) (k:Kd) (L:List Nat):Prop:=(∃ w,c [k.t, .str (S L)]= .ok w/\k.has w=true/\wx w=L)\/c [k.t, .str (S L)]= .ex 5
theorem UJ {n:Nat} {s:T} (ks:List Kd) (ls:List (List Nat)) (hs:JZ s= .ok (ks.map Kd.t)) (hl:zY s= .ok (.int (ks.length:Int))) (h3:ks.length<=3) (H:∀ k∈ks,∀ l∈ls,Rd (S_4 n 0) k l):
  (∃ ws,S_4 (n+1) 2 [s, .lst (ls.map λl=>T.str (S l))]= .ok (.tup ws)/\ws.map wx=ls/\ws.length=ks.length/\Kd.hass ks ws=true)\/S_4 (n+1) 2 [s, .lst (ls.map λl=>T.str (S l))]= .ex 5:=by
 rw [si2,KO ks ls hs hl h3]
 by_cases h:ks.length=ls.length
 ·rw [if_pos h];obtain ⟨z1,z2⟩:=Q3 ks ls h;rcases Vl (c:=S_4 n 0) (ks.zip ls) .un .un (λq hq=>H q.1 (List.of_mem_zip hq).1 q.2 (List.of_mem_zip hq).2) with ⟨ws,a1,a2,a3,a4⟩ | a
  ·rw [a1];exact .inl ⟨ws,rfl,by rw [a2,z2],by rw [a3,List.length_zip]; omega,by rw [z1] at a4; exact a4⟩
  ·rw [a]; exact .inr rfl
 ·rw [if_neg h]; exact .inr rfl
theorem KQ {n:Nat} {s:T} (ks:List Kd) (ws:List T) (hs:JZ s= .ok (ks.map Kd.t)) (hl:zY s= .ok (.int (ks.length:Int))) (h3:ks.length<=3) (hw:ws.length=ks.length) (H:∀ q∈ks.zip ws,S_4 n 0 [q.1.t, .str (S (wx q.2))]= .ok q.2):
  S_4 (n+1) 2 [s, .lst ((ws.map wx).map λl=>T.str (S l))]= .ok (.tup ws):=by
 rw [si2,KO ks (ws.map wx) hs hl h3,if_pos (by rw [List.length_map,hw])]
 have e:((ks.zip (ws.map wx)).map λq=>T.tup [q.1.t, .str (S q.2)])=(ks.zip ws).map λq=>T.tup [q.1.t, .str (S (wx q.2))]:=by
  rw [List.zip_map_right,List.map_map]; rfl
 rw [e,KN (c:=S_4 n 0) (ks.zip ws) .un .un H,bOk];have:(ks.zip ws).map (·.2)=ws:=by
  rw [List.map_snd_zip]; omega
 rw [this]
theorem Q4:∀ (d n:Nat),3*d<=n->∀ (k:Kd) (L:List Nat),k.Ok d->L.length<=900->Rd (S_4 n 0) k L
 | 0,_,_,_,_,h,_=>h.elim
 | d+1,n+3,hn,k,L,h,hL=>by
  have ih:=Q4 d;unfold Rd;have leaf:k.Ok 1->Rd (S_4 (n+3) 0) k L:=λh1=>by
   unfold Rd;rw [Q2 h1];rcases Wh h1 L with a | ⟨a,_⟩
   ·exact .inl a
   ·exact .inr a
  cases k with
  | whole lo hi=>exact leaf (WM d lo hi h)
  | pick cs=>exact leaf (WN d cs h)
  | row ks=>
   rw [Vm];rcases qY hL with ⟨ls,a1,a2,a3,a4⟩ | a
   ·rw [a4,bOk];rcases UJ (n:=n+1) (s:= .tup (ks.map Kd.t)) ks ls rfl (by rw [jr,List.length_map]) h.2.1 (λk hk l hl=>ih (n+1) (by omega) k l (h.2.2 k hk) (a2 l hl)) with ⟨ws,b1,b2,b3,b4⟩ | b
    ·refine .inl ⟨.tup ws,b1, ?_,by rw [Vk,b2,a3]⟩
     rw [Kd.has]; simp [b3,b4]
    ·exact .inr b
   ·rw [a]; exact .inr rfl
  | many k lo hi=>
   rw [Q1];rcases qY hL with ⟨ls,a1,a2,a3,a4⟩ | a
   ·rw [a4,bOk,KP h.2.1];split
    ·rename_i hb;have h3:ls.length<=3:=Nat.le_trans hb.2 h.2.1;rcases UJ (n:=n) (s:= .lst ((List.replicate ls.length k).map Kd.t)) (List.replicate ls.length k) ls rfl (by rw [Wz,List.length_map]) (by rw [List.length_replicate]; exact h3) (λk' hk l hl=>by
      rw [List.eq_of_mem_replicate hk]; exact ih n (by omega) k l h.2.2 (a2 l hl)) with ⟨ws,b1,b2,b3,b4⟩ | b
     ·refine .inl ⟨.tup ws,b1, ?_,by rw [Vk,b2,a3]⟩
      rw [List.length_replicate] at b3;rw [Kd.has];rw [wk,← b3,Uj] at b4;rw [← b3] at hb;simp only [b4,Bool.and_true,Bool.and_eq_true,decide_eq_true_eq];exact hb
     ·exact .inr b
    ·exact .inr rfl
   ·rw [a]; exact .inr rfl
theorem Q5 {d:Nat} {xs:List T} (hd:d<=3) (h2:xs.length<=3) (h3:∀ x∈xs,Wt d x):f_o [.str (S (wx (.tup xs)))]= .ok (.lst ((xs.map wx).map λl=>T.str (S l))):=by
 obtain ⟨_,s2⟩:=Ur hd h2 h3;rw [Vk];refine KL (by rw [List.length_map]; omega) (λl hl=> ?_) (λl hl=> ?_) (by omega)
 ·obtain ⟨y,hy,rfl⟩:=List.mem_map.mp hl;exact KI d y (h3 y hy)
 ·obtain ⟨y,hy,rfl⟩:=List.mem_map.mp hl;exact GT d y (h3 y hy)
theorem Xo:∀ (ks:List Kd) (ws:List T),Kd.hass ks ws=true->∀ q∈ks.zip ws,q.1.has q.2=true:=λks ws h q hq=>by
 rw [wk,List.all_eq_true] at h;exact h q hq
theorem Vn:∀ (d n:Nat),3*d<=n->d<=3->∀ (k:Kd) (w:T),k.Ok d->k.has w=true->S_4 n 0 [k.t, .str (S (wx w))]= .ok w
 | 0,_,_,_,_,_,h,_=>h.elim
 | d+1,n+3,hn,hd,k,w,h,hw=>by
  have ih:=Vn d;have leaf:k.Ok 1->S_4 (n+3) 0 [k.t, .str (S (wx w))]= .ok w:=λh1=>by rw [Q2 h1,Q0 h1 hw]
  cases k with
  | whole lo hi=>exact leaf (WM d lo hi h)
  | pick cs=>exact leaf (WN d cs h)
  | row ks=>
   rw [Vm];have hh:=hw;rw [Kd.has] at hh;dsimp only at hh;split at hh
   ·rename_i xs;rw [Bool.and_eq_true,beq_iff_eq] at hh;have hWt:∀ y∈xs,Wt d y:=λy hy=>by
     obtain ⟨k,hk,hh'⟩:=Jv ks xs hh.1 hh.2 y hy;exact WR d k y (h.2.2 k hk) hh'
    rw [Q5 (by omega) (by rw [hh.1]; exact h.2.1) hWt,bOk]
    exact KQ (n:=n+1) (s:= .tup (ks.map Kd.t)) ks xs rfl (by rw [jr,List.length_map]) h.2.1 hh.1 λq hq=>ih (n+1) (by omega) (by omega) q.1 q.2 (h.2.2 q.1 (List.of_mem_zip hq).1) (Xo ks xs hh.2 q hq)
   ·cases hh
  | many k lo hi=>
   rw [Q1];have hh:=hw;rw [Kd.has] at hh;dsimp only at hh;split at hh
   ·rename_i xs;rw [Bool.and_eq_true,Bool.and_eq_true,decide_eq_true_eq,decide_eq_true_eq,List.all_eq_true] at hh;have h3:xs.length<=3:=Nat.le_trans hh.1.2 h.2.1;rw [Q5 (d:=d) (by omega) h3 (λy hy=>WR d k y h.2.2 (hh.2 y hy)),bOk,KP h.2.1,if_pos (by rw [List.length_map]; exact hh.1)]
    exact KQ (n:=n) (s:= .lst ((List.replicate (xs.map wx).length k).map Kd.t)) (List.replicate (xs.map wx).length k) xs rfl (by rw [Wz,List.length_map]) (by rw [List.length_replicate,List.length_map]; exact h3) (by rw [List.length_replicate,List.length_map]) λq hq=>by
     rw [List.eq_of_mem_replicate (List.of_mem_zip hq).1];exact ih n (by omega) (by omega) k q.2 h.2.2 (hh.2 q.2 (List.of_mem_zip hq).2)
   ·cases hh
abbrev trB:En->RS:=zH 4 (ifE (zC eqC (vB 0) (cE (.int 0))) (zd 2 V2 (z9 (vE 1) (z9 (vE 2) (zh)))) (zd 2 f_z (z9 (vE 1) (z9 (vE 2) (zh)))))
theorem uP {w t x v:T} (h:trB (en6 w t x .non)= .nx (en6 w t x v)):f_d [w,t,x]= .ok v:=by
 show zn (b_d f_7 V2 f_z [.vl w, .vl t, .vl x, .un, .un, .un])=_;have e1:zH 3 (cE .non) [.vl w, .vl t, .vl x, .un, .un, .un]= .nx [.vl w, .vl t, .vl x, .vl .non, .un, .un]:=rfl;have e2:zH 4 (cE .non) [.vl w, .vl t, .vl x, .vl .non, .un, .un]= .nx (en6 w t x .non):=rfl;have e3:xm 3 okX trB (en6 w t x .non)= .nx (en6 w t x v):=by unfold xm; rw [h]
 have e4:kM 3 (en6 w t x v)= .ok true:=rfl;rw [b_d,zk e1,zk e2,zk e3,ja (t:=v)]
 ·rfl
 ·rw [WX e4]; rfl
theorem Jy {w t x:T} {c:Nat} (hc:okX c=true) (h:trB (en6 w t x .non)= .ex c):f_d [w,t,x]=f_7 c:=by
 show zn (b_d f_7 V2 f_z [.vl w, .vl t, .vl x, .un, .un, .un])=_;have e1:zH 3 (cE .non) [.vl w, .vl t, .vl x, .un, .un, .un]= .nx [.vl w, .vl t, .vl x, .vl .non, .un, .un]:=rfl;have e2:zH 4 (cE .non) [.vl w, .vl t, .vl x, .vl .non, .un, .un]= .nx (en6 w t x .non):=rfl;have e3:xm 3 okX trB (en6 w t x .non)= .nx [.un, .un, .un, .xc c, .un, .un]:=by unfold xm; rw [h]; dsimp only; rw [if_pos hc]; rfl
 have e4:kM 3 [.un, .un, .un, .xc c, .un, .un]= .ok false:=rfl;rw [b_d,zk e1,zk e2,zk e3,zk (ZM e4)];show zn ((f_7 c).s λt=> .rt t)=_;rw [ZW]
theorem GU:f_7 5= .ok (.str "no text"):=by rfl
theorem tr0 {t x:T} {r:R T} (h:V2 [t,x]=r):trB (en6 (.int 0) t x .non)=(r.s λv=> .nx (en6 (.int 0) t x v)):=by
 unfold trB;rw [ZL,qK (Vh true rfl),ZA,v1,bOk,v2,bOk,h]; rfl
theorem tr1 {t x:T} {r:R T} (i:Int) (hi:(i == 0)=false) (h:f_z [t,x]=r):trB (en6 (.int i) t x .non)=(r.s λv=> .nx (en6 (.int i) t x v)):=by
 unfold trB;rw [ZL,qL (Vh false hi),ZA,v1,bOk,v2,bOk,h]; rfl
theorem yg {k:Kd} (hk:k.Ok 3) (x:T):V2 [k.t,x]=if k.has x=true then .ok (.str (S (wx x))) else .ex 1:=by
 show zn (XF XD (f_g 8) (en2 k.t x))=_;unfold XF
 by_cases h:k.has x=true
 ·rw [if_pos h,zk (Um (t:= .non) (by rw [ZA,v0,bOk,v1,bOk,Jw hk,if_pos h])),Je]
  show zd 1 _ _ (en2 _ _)=_;rw [Zv,v1,bOk]; exact Xh 3 8 (by omega) (by omega) x (WR 3 k x hk h)
 ·rw [if_neg h,JX (Uo (c:=1) (by rw [ZA,v0,bOk,v1,bOk,Jw hk,if_neg h]))]; rfl
theorem uQ (x:Str):K3 [.str x]= .ok .non:=rfl
theorem Q6 {k:Kd} (hk:k.Ok 3) (x:Str):f_z [k.t, .str x]=f_4 20 [k.t, .str x]:=by
 show zn (b_z f_n K3 (f_4 20) (en2 k.t (.str x)))=_;unfold b_z;rw [zk (Um (t:= .non) (by rw [Zv,v0,bOk,X9 hk])),zk (Um (t:= .non) (by rw [Zv,v1,bOk,uQ])),Je]
 show zd 2 _ _ (en2 _ _)=_;rw [ZA,v0,bOk,v1,bOk]
theorem Xp {k:Kd} (hk:k.Ok 3) {x:T} (h:k.has x=true):f_d [.int 0,k.t,x]= .ok (.str (S (wx x))):=uP (by rw [tr0 (yg hk x),if_pos h]; rfl)
theorem vz {k:Kd} (hk:k.Ok 3) {x:T} (h:k.has x=false):f_d [.int 0,k.t,x]= .ok (.str "no worth"):=by
 rw [Jy (c:=1) (by decide) (by rw [tr0 (yg hk x),if_neg (by rw [h]; exact Bool.false_ne_true)]; rfl),GO]
theorem Q7 {k:Kd} (hk:k.Ok 3) {w:T} (h:k.has w=true):f_d [.int 1,k.t, .str (S (wx w))]= .ok w:=uP (by rw [tr1 1 rfl (Q6 hk _),show f_4 20 [k.t, .str (S (wx w))]= .ok w from Vn 3 20 (by omega) (by omega) k w hk h]; rfl)
theorem vA {k:Kd} (hk:k.Ok 3) {L:List Nat} (hL:L.length<=900) (h:∀ w,k.has w=true->wx w ≠ L):f_d [.int 1,k.t, .str (S L)]= .ok (.str "no text"):=by
 rcases Q4 3 20 (by omega) k L hk hL with ⟨w,_,a2,a3⟩ | a
 ·exact absurd a3 (h w a2)
 ·rw [Jy (c:=5) (by decide) (by rw [tr1 1 rfl (Q6 hk _),show f_4 20 [k.t, .str (S L)]= .ex 5 from a]; rfl),GU]
theorem Xq {t:T} (ht:sOk t) (hi:isK 3 t=false) (x:Str):∀ j:Nat,j < 2->f_d [.int (j:Int),t, .str x]= .ok (.str "no kind"):=λj hj=>by
 have e0:V2 [t, .str x]= .ex 0:=by
  show zn (XF XD (f_g 8) (en2 t (.str x)))=_;unfold XF;rw [JX (Uo (c:=0) (by rw [ZA,v0,bOk,v1,bOk,WQ ht hi]))]; rfl
 have e1:f_z [t, .str x]= .ex 0:=by
  show zn (b_z f_n K3 (f_4 20) (en2 t (.str x)))=_;unfold b_z;rw [JX (Uo (c:=0) (by rw [Zv,v0,bOk,Xa ht hi]))]; rfl
 have:j=0\/j=1:=by omega
 rcases this with rfl | rfl
 ·rw [Jy (c:=0) (by decide) (by rw [show ((0:Nat):Int)=0 from rfl,tr0 e0]; rfl),Ko]
 ·rw [Jy (c:=0) (by decide) (by rw [show ((1:Nat):Int)=1 from rfl,tr1 1 rfl e1]; rfl),Ko]
def txs (k:Kd):List T:=(k.all.map λw=>S (wx w)).map T.str
theorem Q8 (x:Str):∀ ws:List Str,eqs (.str x) (ws.map T.str)=some (ws.map λw=>w == x)
 | []=>rfl
 | w :: ws=>by
  have e:eqs (.str x) ((w :: ws).map T.str)=match eqs (.str x) (ws.map T.str) with | none=>none | some bs=>some ((w == x) :: bs):=rfl
  rw [e,Q8 x ws]; rfl
abbrev gD (i:Nat):En->R T:=ifE (zC inC (vB i) (vB 3)) (ze ixT (vE 2) (UN yA (vB 3) (vB i))) (cE (.str "no text"))
theorem Vo {k:Kd} (hk:k.Ok 3) {i:Nat} {ρ:En} {L:List Nat} (hL:L.length<=900) (h1:vB i ρ= .ok (.str (S L))) (h2:vE 2 ρ= .ok (.lst k.all)) (h3:vB 3 ρ= .ok (.lst (txs k))):
  ∃ v,gD i ρ= .ok v/\f_d [.int 1,k.t, .str (S L)]= .ok v/\neC v v= .ok false:=by
 have ei:zC inC (vB i) (vB 3) ρ= .ok (decide (S L∈k.all.map λw=>S (wx w))):=by
  rw [zX,h1,bOk,h3,bOk];show (match WT (λy=>eqF 30 y (.str (S L))) (txs k) with | some b=>R.ok b | none=> .bad)=_
  unfold txs;rw [wc]
 by_cases h:S L∈k.all.map λw=>S (wx w)
 ·obtain ⟨w0,hw0,e0⟩:=List.mem_map.mp h;have e0' :wx w0=L:=vp e0;have hm:true∈(k.all.map λw=>S (wx w)).map λw=>w == S L:=List.mem_map.mpr ⟨S L,h,by simp⟩
  have hlt:=List.idxOf_lt_length_of_mem hm;have hg:=List.getElem_idxOf hlt;generalize hj:((k.all.map λw=>S (wx w)).map λw=>w == S L).idxOf true=j at hlt hg;have hj' :j < k.all.length:=by simpa using hlt
  obtain ⟨w,hw⟩:=yb hj';have hwx:wx w=L:=by
   rw [List.getElem_map,List.getElem_map] at hg;have e2:=eq_of_beq hg;have e3:k.all[j]=w:=by rw [List.getElem?_eq_getElem hj'] at hw; exact Option.some.inj hw
   rw [e3] at e2;exact vp e2
  have hh:k.has w=true:=(ZN k w).mp (List.mem_of_getElem? hw);refine ⟨w, ?_,by rw [← hwx]; exact Q7 hk hh,qJ ((yP 3 k w hk hh).le (by omega))⟩
  unfold gD;rw [qK (by rw [ei,decide_eq_true h]),zm,h2,bOk]
  have em:UN yA (vB 3) (vB i) ρ= .ok (.int (j:Int)):=by
   unfold UN;rw [h3,bOk];dsimp only;rw [h1,bOk];unfold yA txs;rw [Q8];dsimp only;rw [if_pos hm,hj]
  rw [em,bOk,wO hw]
 ·refine ⟨.str "no text", ?_,vA hk hL λw hw z=>h (List.mem_map.mpr ⟨w,(ZN k w).mpr hw,by rw [z]⟩),Xb⟩
  unfold gD;rw [qL (by rw [ei,decide_eq_false h])]; rfl
def TxB (f:En->R T) (ρ:En) (B:Nat):Prop:=∃ L,f ρ= .ok (.str (S L))/\L.length<=B
theorem GV {f:En->R T} {l h:En->R (Option Int)} {ρ:En} {L:List Nat} {B:Nat} {a b:Option Int} (hf:f ρ= .ok (.str (S L))) (hl:l ρ= .ok a) (hh:h ρ= .ok b) (hB:L.length<=B) (h9:B<=10000):TxB (J7 f l h) ρ B:=by
 refine ⟨(Txt.slice (S L) a b).cps.toList, ?_, ?_⟩
 ·unfold J7;rw [hf,bOk,hl,bOk,hh,bOk];dsimp only;rw [if_pos (by rw [jt]; have:bnd=16777216:=rfl; omega),Kq]
 ·have:=Txt.slice_le (S L) a b;rw [jt] at this;exact Nat.le_trans (by simpa [Str.length] using this) hB
theorem jT {f g:En->R T} {ρ:En} {B C:Nat} (hf:TxB f ρ B) (hg:TxB g ρ C) (h:B+C<=10000):TxB (ze zu f g) ρ (B+C):=by
 obtain ⟨a,e1,l1⟩:=hf;obtain ⟨b,e2,l2⟩:=hg;exact ⟨a++b,yQ e1 e2 (by omega),by rw [List.length_append]; omega⟩
theorem KR {f:En->R T} {ρ:En} {B:Nat} (h:TxB f (frz ρ) B):∃ L,zn (zI f ρ)= .ok (.str (S L))/\L.length<=B:=by rw [Je]; exact h
theorem Q9 {g:En->R Bool} {f:En->R T} {k:En->RS} {ρ:En} {B:Nat} {b:Bool} (hg:g ρ= .ok b) (h:TxB f (frz ρ) B) (hk:∃ L,zn (k ρ)= .ok (.str (S L))/\L.length<=B):∃ L,zn (zv (ifS g (zI f) nxS) k ρ)= .ok (.str (S L))/\L.length<=B:=by
 cases b with
 | true=>rw [JO hg]; exact h
 | false=>rw [zk (ZM hg)]; exact hk
theorem TxB.le {f:En->R T} {ρ:En} {B C:Nat} (h:TxB f ρ B) (hBC:B<=C):TxB f ρ C:=let ⟨L,e,l⟩:=h; ⟨L,e,Nat.le_trans l hBC⟩
theorem KS (p:Int) (h0:0<=p) (h1:p < 10):∃ c,ixT (.str "() -0129ab") (.int p)= .ok (.str (S [c])):=by
 have:p=0\/p=1\/p=2\/p=3\/p=4\/p=5\/p=6\/p=7\/p=8\/p=9:=by omega
 rcases this with rfl | rfl | rfl | rfl | rfl | rfl | rfl | rfl | rfl | rfl <;> exact ⟨_,rfl⟩
theorem GW (L:List Nat) (h:L.length<=10000):zY (.str (S L))= .ok (.int (L.length:Int)):=by
 show (if (S L).length<=bnd then R.ok (T.int (S L).length) else .bad)=_
 rw [jt,if_pos (by have:bnd=16777216:=rfl; omega)]
abbrev spE (L:List Nat) (c a:Int) (g:Nat) (o y:Int):En:=[.vl (.str (S L)), .vl (.int c), .vl (.str "() -0129ab"), .vl (.int a), .vl (.str (S [g])), .vl (.int o), .vl (.int y)]
theorem KT {L:List Nat} (hL:L.length<=100) (c:Int) (h0:0<=c):∃ L',f_5 [.str (S L), .int c, .str "() -0129ab"]= .ok (.str (S L'))/\L'.length<=900:=by
 have m1:∀ (i j:Int),0 < j->jJ (.int i) (.int j)= .ok (.int (i % j)):=λi j h=>if_pos h;have d1:∀ (i j:Int),0 < j->j < 1073741824->JB (.int i) (.int j)= .ok (.int (i / j)):=λi j h h' =>if_pos ⟨h,h'⟩;obtain ⟨g,hg⟩:=KS (c / 1000 % 10) (by omega) (by omega)
 show ∃ L',zn (b_5 [.vl (.str (S L)), .vl (.int c), .vl (.str "() -0129ab"), .un, .un, .un, .un])= .ok (.str (S L'))/\L'.length<=900;unfold b_5;have e3:zH 3 (ze jJ (vE 1) (ze zu (ap1 zY (vB 0)) (cE (.int 1)))) [.vl (.str (S L)), .vl (.int c), .vl (.str "() -0129ab"), .un, .un, .un, .un]= .nx [.vl (.str (S L)), .vl (.int c), .vl (.str "() -0129ab"), .vl (.int (c % ((L.length:Int)+1))), .un, .un, .un]:=by
  rw [Z8 (t:= .int (c % ((L.length:Int)+1)))]
  ·rfl
  ·rw [zm,v1,bOk,zm,ZB,w0,bOk,GW L (by omega),bOk,zS,bOk,Zd,bOk,m1 _ _ (by omega)]
 generalize c % ((L.length:Int)+1)=a at e3;have e4:zH 4 (ze ixT (vE 2) (ze jJ (ze JB (vE 1) (cE (.int 1000))) (ap1 zY (vB 2)))) [.vl (.str (S L)), .vl (.int c), .vl (.str "() -0129ab"), .vl (.int a), .un, .un, .un]= .nx [.vl (.str (S L)), .vl (.int c), .vl (.str "() -0129ab"), .vl (.int a), .vl (.str (S [g])), .un, .un]:=by
  rw [Z8 (t:= .str (S [g]))]
  ·rfl
  ·rw [zm,v2,bOk,zm,zm,v1,bOk,zS,bOk,d1 _ _ (by decide) (by decide),bOk,show ap1 zY (vB 2) [.vl (.str (S L)), .vl (.int c), .vl (.str "() -0129ab"), .vl (.int a), .un, .un, .un]= .ok (.int 10) from rfl,bOk,m1 _ _ (by decide),bOk,hg]
 have e5:zH 5 (ze zu (ze zu (vE 3) (cE (.int 1))) (ze jJ (ze JB (vE 1) (cE (.int 7))) (cE (.int 9)))) [.vl (.str (S L)), .vl (.int c), .vl (.str "() -0129ab"), .vl (.int a), .vl (.str (S [g])), .un, .un]= .nx [.vl (.str (S L)), .vl (.int c), .vl (.str "() -0129ab"), .vl (.int a), .vl (.str (S [g])), .vl (.int (a+1+c / 7 % 9)), .un]:=by
  rw [Z8 (t:= .int (a+1+c / 7 % 9))]
  ·rfl
  ·rw [zm,zm,v3,bOk,zS,bOk,Zd,bOk,zm,zm,v1,bOk,zS,bOk,d1 _ _ (by decide) (by decide),bOk,zS,bOk,m1 _ _ (by decide),bOk,Zd]
 generalize a+1+c / 7 % 9=o at e5;have e6:zH 6 (ze jJ (ze JB (vE 1) (cE (.int 100000))) (cE (.int 8))) [.vl (.str (S L)), .vl (.int c), .vl (.str "() -0129ab"), .vl (.int a), .vl (.str (S [g])), .vl (.int o), .un]= .nx (spE L c a g o (c / 100000 % 8)):=by
  rw [Z8 (t:= .int (c / 100000 % 8))]
  ·rfl
  ·rw [zm,zm,v1,bOk,zS,bOk,d1 _ _ (by decide) (by decide),bOk,zS,bOk,m1 _ _ (by decide)]
 generalize c / 100000 % 8=y at e6;rw [zk e3,zk e4,zk e5,zk e6];have sl:∀ {l h:En->R (Option Int)} {p q:Option Int},l (spE L c a g o y)= .ok p->h (spE L c a g o y)= .ok q->TxB (J7 (vE 0) l h) (spE L c a g o y) 100:=λhl hh=>GV rfl hl hh hL (by decide)
 have sg:TxB (vE 4) (spE L c a g o y) 1:=⟨[g],rfl,Nat.le_refl 1⟩;have t0:TxB (vE 0) (spE L c a g o y) 100:=⟨L,rfl,hL⟩;have s3:zB (vE 3) (spE L c a g o y)= .ok (some a):=rfl;have s31:zB (ze zu (vE 3) (cE (.int 1))) (spE L c a g o y)= .ok (some (a+1)):=rfl;have s5:zB (vE 5) (spE L c a g o y)= .ok (some o):=rfl;have sn:noO (spE L c a g o y)= .ok none:=rfl;refine Q9 (b:=decide (y < 2)) rfl ((jT (jT (sl sn s3) sg (by decide)) (sl s3 sn) (by decide)).le (by decide)) ?_
 refine Q9 (b:=y == 2) rfl ((jT (sl sn s3) (sl s31 sn) (by decide)).le (by decide)) ?_
 refine Q9 (b:=decide (y < 5)) rfl ((jT (jT (sl sn s3) sg (by decide)) (sl s31 sn) (by decide)).le (by decide)) ?_
 refine Q9 (b:=y == 5) rfl ((jT (sl sn s3) (sl s5 sn) (by decide)).le (by decide)) ?_
 refine Q9 (b:=y == 6) rfl ((jT (sl sn s5) (sl s3 sn) (by decide)).le (by decide)) ?_
 refine KR (show TxB _ (spE L c a g o y) 900 from ?_);obtain ⟨l1,a1,b1⟩:=jT t0 (show TxB (cE (.str " ")) (spE L c a g o y) 1 from ⟨[32],rfl,by decide⟩) (by decide)
 obtain ⟨l2,a2,b2⟩:=jT (show TxB (cE (.str " ")) (spE L c a g o y) 1 from ⟨[32],rfl,by decide⟩) t0 (by decide)
 obtain ⟨l3,a3,b3⟩:=jT (sl s3 sn) (sl sn s3) (by decide)
 obtain ⟨l5,a5,b5⟩:=jT t0 t0 (by decide)
 have el:jb (z9 (ze zu (vE 0) (cE (.str " "))) (z9 (ze zu (cE (.str " ")) (vE 0)) (z9 (ze zu (J7 (vE 0) (zB (vE 3)) (noO)) (J7 (vE 0) (noO) (zB (vE 3)))) (z9 (cE (.str "")) (z9 (ze zu (vE 0) (vE 0)) (zh)))))) (spE L c a g o y)= .ok (.lst ([l1,l2,l3,[],l5].map λl=>T.str (S l))):=by
  unfold jb z9;simp only [z9,zh,a1,a2,a3,a5,zS,bOk];rfl
 have hm:ze jJ (vE 1) (cE (.int 5)) (spE L c a g o y)= .ok (.int (c % 5)):=by rw [zm,v1,bOk,zS,bOk,m1 _ _ (by decide)]
 obtain ⟨x,hx,hxm⟩:=ixl (xs:=[l1,l2,l3,[],l5].map λl=>T.str (S l)) (i:=c % 5) (by omega) (by simp; omega)
 obtain ⟨l,hl,rfl⟩:=List.mem_map.mp hxm;refine ⟨l,by rw [zm,el,bOk,hm,bOk,hx], ?_⟩
 simp only [List.mem_cons,List.not_mem_nil,or_false] at hl;rcases hl with rfl | rfl | rfl | rfl | rfl
 ·omega
 ·omega
 ·omega
 ·simp
 ·omega
abbrev EL (ns:List Int) (k:Kd) (a b c d e f g h i j:Sl):En:=[.vl (scr ns), .vl k.t, .vl (.lst k.all), .vl (.lst (txs k)),a,b,c,d,e,f,g,h,i,j]
theorem v1E {ns:List Int} {k:Kd} {a b c d e f g h i j:Sl}:vE 1 (EL ns k a b c d e f g h i j)= .ok k.t:=rfl
theorem v2E {ns:List Int} {k:Kd} {a b c d e f g h i j:Sl}:vE 2 (EL ns k a b c d e f g h i j)= .ok (.lst k.all):=rfl
theorem v3E {ns:List Int} {k:Kd} {a b c d e f g h i j:Sl}:vE 3 (EL ns k a b c d e f g h i j)= .ok (.lst (txs k)):=rfl
theorem v0E {ns:List Int} {k:Kd} {a b c d e f g h i j:Sl}:vE 0 (EL ns k a b c d e f g h i j)= .ok (scr ns):=rfl
theorem v4E {ns:List Int} {k:Kd} {t:T} {b c d e f g h i j:Sl}:vE 4 (EL ns k (.vl t) b c d e f g h i j)= .ok t:=rfl
theorem v5E {ns:List Int} {k:Kd} {t:T} {a c d e f g h i j:Sl}:vE 5 (EL ns k a (.vl t) c d e f g h i j)= .ok t:=rfl
theorem v6E {ns:List Int} {k:Kd} {t:T} {a b d e f g h i j:Sl}:vE 6 (EL ns k a b (.vl t) d e f g h i j)= .ok t:=rfl
theorem w7E {ns:List Int} {k:Kd} {t:T} {a b c e f g h i j:Sl}:vB 7 (EL ns k a b c (.vl t) e f g h i j)= .ok t:=rfl
theorem v8E {ns:List Int} {k:Kd} {t:T} {a b c d f g h i j:Sl}:vE 8 (EL ns k a b c d (.vl t) f g h i j)= .ok t:=rfl
theorem v9E {ns:List Int} {k:Kd} {t:T} {a b c d e g h i j:Sl}:vE 9 (EL ns k a b c d e (.vl t) g h i j)= .ok t:=rfl
theorem v10E {ns:List Int} {k:Kd} {t:T} {a b c d e f h i j:Sl}:vE 10 (EL ns k a b c d e f (.vl t) h i j)= .ok t:=rfl
theorem w12E {ns:List Int} {k:Kd} {t:T} {a b c d e f g h j:Sl}:vB 12 (EL ns k a b c d e f g h (.vl t) j)= .ok t:=rfl
theorem v12E {ns:List Int} {k:Kd} {t:T} {a b c d e f g h j:Sl}:vE 12 (EL ns k a b c d e f g h (.vl t) j)= .ok t:=rfl
theorem GX {k:Kd} {q:Nat} {w:T} (h:k.all[q]? =some w):ixT (.lst (txs k)) (.int (q:Int))= .ok (.str (S (wx w))):=by
 refine wO ?_;unfold txs;rw [List.getElem?_map,List.getElem?_map,h]; rfl
abbrev l5B:En->RS:=(zv (zH 5 (zd 3 f_2 (z9 (vE 0) (z9 (ze zu (cE (.int 4000)) (vE 4)) (z9 (ap1 zY (vB 2)) (zh))))))
  (zv (ifS (orT (zC neC (zd 3 f_d (z9 (cE (.int 0)) (z9 (vE 1) (z9 (ze ixT (vE 2) (vE 5)) (zh))))) (ze ixT (vE 3) (vE 5))) (zC neC (zd 3 f_d (z9 (cE (.int 1)) (z9 (vE 1) (z9 (ze ixT (vE 3) (vE 5)) (zh))))) (ze ixT (vE 2) (vE 5)))) (zI (cE (.bl false))) (nxS))
  (zv (zH 6 (zd 3 f_5 (z9 (ze ixT (vE 3) (vE 5)) (z9 (zd 3 f_2 (z9 (vE 0) (z9 (ze zu (cE (.int 4010)) (vE 4)) (z9 (ze xI (cE (.int 10)) (cE (.int 9))) (zh))))) (z9 (cE (.str "() -0129ab")) (zh))))))
  (zv (zH 7 (ifE (zC inC (vB 6) (vB 3)) (ze ixT (vE 2) (UN yA (vB 3) (vB 6))) (cE (.str "no text"))))
  (ifS (zC neC (zd 3 f_d (z9 (cE (.int 1)) (z9 (vE 1) (z9 (vE 6) (zh))))) (vB 7)) (zI (cE (.bl false))) (nxS))))))
theorem Xr (ns:List Int) {k:Kd} (hk:k.Ok 3) (m:Nat) (b c d:Sl):∃ b' c' d',l5B (EL ns k (.vl (.int (0+(m:Int)))) b c d .un .un .un .un .un .un)= .nx (EL ns k (.vl (.int (0+(m:Int)))) b' c' d' .un .un .un .un .un .un):=by
 have hpos:=Jd 3 k hk;obtain ⟨p,hp,p0,p1⟩:=Z6 ns (4000+(0+(m:Int))) (k.all.length:Int) (by omega) (by omega)
 obtain ⟨w,hw⟩:=yb (xs:=k.all) (i:=p.toNat) (by omega)
 have ep:p=(p.toNat:Int):=by omega
 have hh:k.has w=true:=(ZN k w).mp (List.mem_of_getElem? hw);have hWt:=WR 3 k w hk hh;have hlen:(wx w).length<=100:=by have:=uO 3 w hWt; have:=vt (d:=3) (by omega); omega
 obtain ⟨q,hq,q0,q1⟩:=Z6 ns (4010+(0+(m:Int))) 1000000000 (by omega) (by omega)
 obtain ⟨L,hs,hL⟩:=KT hlen q q0;obtain ⟨v,d1,d2,d3⟩:=Vo hk hL (i:=6) (ρ:=EL ns k (.vl (.int (0+(m:Int)))) (.vl (.int p)) (.vl (.str (S L))) d .un .un .un .un .un .un) rfl rfl rfl;refine ⟨.vl (.int p), .vl (.str (S L)), .vl v, ?_⟩;have e1:zH 5 (zd 3 f_2 (z9 (vE 0) (z9 (ze zu (cE (.int 4000)) (vE 4)) (z9 (ap1 zY (vB 2)) (zh))))) (EL ns k (.vl (.int (0+(m:Int)))) b c d .un .un .un .un .un .un)= .nx (EL ns k (.vl (.int (0+(m:Int)))) (.vl (.int p)) c d .un .un .un .un .un .un):=by
  rw [Z8 (t:= .int p)]
  ·rfl
  ·rw [Z2,v0E,bOk,zm,zS,bOk,v4E,bOk,Zd,bOk,show ap1 zY (vB 2) (EL ns k (.vl (.int (0+(m:Int)))) b c d .un .un .un .un .un .un)= .ok (.int (k.all.length:Int)) from rfl,bOk,hp]
 have i2:ze ixT (vE 2) (vE 5) (EL ns k (.vl (.int (0+(m:Int)))) (.vl (.int p)) c d .un .un .un .un .un .un)= .ok w:=by
  rw [zm,v2E,bOk,v5E,bOk,ep,wO hw]
 have i3:ze ixT (vE 3) (vE 5) (EL ns k (.vl (.int (0+(m:Int)))) (.vl (.int p)) c d .un .un .un .un .un .un)= .ok (.str (S (wx w))):=by
  rw [zm,v3E,bOk,v5E,bOk,ep,GX hw]
 have e2:orT (zC neC (zd 3 f_d (z9 (cE (.int 0)) (z9 (vE 1) (z9 (ze ixT (vE 2) (vE 5)) (zh))))) (ze ixT (vE 3) (vE 5))) (zC neC (zd 3 f_d (z9 (cE (.int 1)) (z9 (vE 1) (z9 (ze ixT (vE 3) (vE 5)) (zh))))) (ze ixT (vE 2) (vE 5))) (EL ns k (.vl (.int (0+(m:Int)))) (.vl (.int p)) c d .un .un .un .un .un .un)= .ok false:=by
  rw [U7,zX,Z2,zS,bOk,v1E,bOk,i2,bOk,Xp hk hh,bOk,i3,bOk,Xb,bOk,if_neg Bool.false_ne_true,zX,Z2,zS,bOk,v1E,bOk,i3,bOk,Q7 hk hh,bOk,i2,bOk,qJ ((yP 3 k w hk hh).le (by omega))]
 have e3:zH 6 (zd 3 f_5 (z9 (ze ixT (vE 3) (vE 5)) (z9 (zd 3 f_2 (z9 (vE 0) (z9 (ze zu (cE (.int 4010)) (vE 4)) (z9 (ze xI (cE (.int 10)) (cE (.int 9))) (zh))))) (z9 (cE (.str "() -0129ab")) (zh))))) (EL ns k (.vl (.int (0+(m:Int)))) (.vl (.int p)) c d .un .un .un .un .un .un)= .nx (EL ns k (.vl (.int (0+(m:Int)))) (.vl (.int p)) (.vl (.str (S L))) d .un .un .un .un .un .un):=by
  rw [Z8 (t:= .str (S L))]
  ·rfl
  ·rw [Z2,i3,bOk,Z2,v0E,bOk,zm,zS,bOk,v4E,bOk,Zd,bOk,show ze xI (cE (.int 10)) (cE (.int 9)) (EL ns k (.vl (.int (0+(m:Int)))) (.vl (.int p)) c d .un .un .un .un .un .un)= .ok (.int 1000000000) from rfl,bOk,hq,bOk,zS,bOk,hs]
 have e4:zH 7 (ifE (zC inC (vB 6) (vB 3)) (ze ixT (vE 2) (UN yA (vB 3) (vB 6))) (cE (.str "no text"))) (EL ns k (.vl (.int (0+(m:Int)))) (.vl (.int p)) (.vl (.str (S L))) d .un .un .un .un .un .un)= .nx (EL ns k (.vl (.int (0+(m:Int)))) (.vl (.int p)) (.vl (.str (S L))) (.vl v) .un .un .un .un .un .un):=by
  rw [Z8 d1]; rfl
 have e5:zC neC (zd 3 f_d (z9 (cE (.int 1)) (z9 (vE 1) (z9 (vE 6) (zh))))) (vB 7) (EL ns k (.vl (.int (0+(m:Int)))) (.vl (.int p)) (.vl (.str (S L))) (.vl v) .un .un .un .un .un .un)= .ok false:=by
  rw [zX,Z2,zS,bOk,v1E,bOk,v6E,bOk,d2,bOk,w7E,bOk,d3]
 unfold l5B;rw [zk e1,zk (ZM e2),zk e3,zk e4,ZM e5]
theorem Qa (ns:List Int) {k:Kd} (hk:k.Ok 3):∀ (ms:List Nat) (a b c d:Sl),∃ a' b' c' d',ZI (zz 4) l5B (ms.map λ(m:Nat)=>T.int (0+(m:Int))) (EL ns k a b c d .un .un .un .un .un .un)= .nx (EL ns k a' b' c' d' .un .un .un .un .un .un)
 | [],a,b,c,d=>⟨a,b,c,d,rfl⟩
 | m :: ms,a,b,c,d=>by
  obtain ⟨b1,c1,d1,e⟩:=Xr ns hk m b c d;obtain ⟨a2,b2,c2,d2,e2⟩:=Qa ns hk ms (.vl (.int (0+(m:Int)))) b1 c1 d1;exact ⟨a2,b2,c2,d2,(JW (ρ1:=EL ns k (.vl (.int (0+(m:Int)))) b c d .un .un .un .un .un .un) rfl e).trans e2⟩
abbrev l9B:En->RS:=(zv (zH 10 (zd 1 (f_i 8) (z9 (vE 9) (zh))))
  (ifS (zC neC (zd 3 f_d (z9 (cE (.int 1)) (z9 (vE 1) (z9 (vE 10) (zh))))) (ifE (zC inC (vB 10) (vB 3)) (ze ixT (vE 2) (UN yA (vB 3) (vB 10))) (cE (.str "no text")))) (zI (cE (.bl false))) (nxS)))
theorem KU {ns:List Int} {k:Kd} (hk:k.Ok 3) {L:List Nat} (hL:L.length<=900) {a b c d e f h i j:Sl}:zC neC (zd 3 f_d (z9 (cE (.int 1)) (z9 (vE 1) (z9 (vE 10) (zh))))) (ifE (zC inC (vB 10) (vB 3)) (ze ixT (vE 2) (UN yA (vB 3) (vB 10))) (cE (.str "no text"))) (EL ns k a b c d e f (.vl (.str (S L))) h i j)= .ok false:=by
 obtain ⟨v,d1,d2,d3⟩:=Vo hk hL (i:=10) (ρ:=EL ns k a b c d e f (.vl (.str (S L))) h i j) rfl rfl rfl;unfold gD at d1;rw [zX,Z2,zS,bOk,v1E,bOk,v10E,bOk,d2,bOk,d1,bOk,d3]
theorem Qb (ns:List Int) {k:Kd} (hk:k.Ok 3) {a b c d e:Sl}:∀ (ws:List T) (f g:Sl),(∀ w∈ws,Wt 3 w)->∃ f' g',ZI (zz 9) l9B ws (EL ns k a b c d e f g .un .un .un)= .nx (EL ns k a b c d e f' g' .un .un .un)
 | [],f,g,_=>⟨f,g,rfl⟩
 | w :: ws,f,g,h=>by
  have hw:=h w List.mem_cons_self;have hlen:(wx w).length<=900:=by have:=uO 3 w hw; have:=vt (d:=3) (by omega); omega
  have e1:zH 10 (zd 1 (f_i 8) (z9 (vE 9) (zh))) (EL ns k a b c d e (.vl w) g .un .un .un)= .nx (EL ns k a b c d e (.vl w) (.vl (.str (S (wx w)))) .un .un .un):=by
   rw [Z8 (t:= .str (S (wx w)))]
   ·rfl
   ·rw [Zv,v9E,bOk]; exact Xi 3 8 (by omega) (by omega) w hw
  have e2:l9B (EL ns k a b c d e (.vl w) g .un .un .un)= .nx (EL ns k a b c d e (.vl w) (.vl (.str (S (wx w)))) .un .un .un):=by
   unfold l9B;rw [zk e1,ZM (KU hk hlen)]
  obtain ⟨f',g',ih⟩:=Qb ns hk ws (.vl w) (.vl (.str (S (wx w)))) λv hv=>h v (List.mem_cons_of_mem _ hv);exact ⟨f',g',(JW (ρ1:=EL ns k a b c d e (.vl w) g .un .un .un) rfl e2).trans ih⟩
def WY:List (List Nat):=[[],[40],[41],[40,41],[40,32,41],[40,40,41],[40,41,41],[49,32,50],[48,49],[45,48],[43,49],[40,49,32,32,50,41],[40,49,32,50,32,41],[97,32,98],[49,41],[40,40,49,41]]
theorem law_ok (ns:List Int) (h:ns.length<=63):f_0 [.fz (ns.map T.int)]= .ok (.bl true):=by
 obtain ⟨k,hk,h120,hs⟩:=y0 ns 0 (by omega) 120 (by omega)
 have hs:f_s [scr ns, .int 0, .int 120]= .ok k.t:=hs;have hi:=uK 3 k hk;have hpos:=Jd 3 k hk;have ha:f_3 8 [k.t]= .ok (.lst k.all):=UY 3 8 (by omega) (by omega) k hk (by omega)
 obtain ⟨k2,hk2,h40,hs2⟩:=y0 ns 6000 (by omega) 40 (by omega)
 have hs2:f_s [scr ns, .int 6000, .int 40]= .ok k2.t:=hs2;have ha2:f_3 8 [k2.t]= .ok (.lst k2.all):=UY 3 8 (by omega) (by omega) k2 hk2 (by omega)
 obtain ⟨w,hw⟩:=yb (xs:=k.all) (i:=0) (by omega)
 obtain ⟨th,hth,hF0⟩:=uD ns 4200 (by omega) (by omega) (by decide) (wS 3 k w hk ((ZN k w).mp (List.mem_of_getElem? hw)))
 obtain ⟨r,hr,hF⟩:=uD ns 4300 (by omega) (by omega) (by decide) (Ju 3 k.t hi)
 obtain ⟨q,hq,q0,q1⟩:=Z6 ns 4100 16 (by omega) (by omega)
 obtain ⟨od,hod,hom⟩:=ixl (xs:=WY.map λl=>T.str (S l)) q0 (by show q < 16; exact q1)
 obtain ⟨lo,hlo,rfl⟩:=List.mem_map.mp hom;have hlo9:lo.length<=900:=by
  have:∀ l∈WY,l.length<=900:=by decide
  exact this lo hlo
 have e:f_0 [.fz (ns.map T.int)]=zn (b_0 f_2 (f_3 8) f_s (f_a 12) f_r f_d f_5 (f_i 8) [.vl (scr ns), .un, .un, .un, .un, .un, .un, .un, .un, .un, .un, .un, .un, .un]):=rfl;have e1:zH 1 (zd 3 f_s (z9 (vE 0) (z9 (cE (.int 0)) (z9 (cE (.int 120)) (zh))))) [.vl (scr ns), .un, .un, .un, .un, .un, .un, .un, .un, .un, .un, .un, .un, .un]= .nx [.vl (scr ns), .vl k.t, .un, .un, .un, .un, .un, .un, .un, .un, .un, .un, .un, .un]:=by
  rw [Z8 (t:=k.t)]
  ·rfl
  ·rw [Z2,v0,bOk,zS,bOk,zS,bOk,hs]
 have e2:zH 2 (zd 1 (f_3 8) (z9 (vE 1) (zh))) [.vl (scr ns), .vl k.t, .un, .un, .un, .un, .un, .un, .un, .un, .un, .un, .un, .un]= .nx [.vl (scr ns), .vl k.t, .vl (.lst k.all), .un, .un, .un, .un, .un, .un, .un, .un, .un, .un, .un]:=by
  rw [Z8 (t:= .lst k.all)]
  ·rfl
  ·rw [Zv,v1,bOk,ha]
 have e3:zH 3 (Ze (jl (vE 2)) (zz 0) (Zi) (zd 1 (f_i 8) (z9 (vE 0) (zh))) 1 []) [.vl (scr ns), .vl k.t, .vl (.lst k.all), .un, .un, .un, .un, .un, .un, .un, .un, .un, .un, .un]= .nx (EL ns k .un .un .un .un .un .un .un .un .un .un):=by
  rw [Z8 (t:= .lst (txs k))]
  ·rfl
  ·have hc:zR (zz 0) Zi (zd 1 (f_i 8) (z9 (vE 0) (zh))) 1 [] [.vl (scr ns), .vl k.t, .vl (.lst k.all), .un, .un, .un, .un, .un, .un, .un, .un, .un, .un, .un] k.all= .ok (k.all.map λw=>T.str (S (wx w))):=
    Zs _ (by have:bnd=16777216:=rfl; omega) λt ht=>by
     show zd 1 (f_i 8) (z9 (vE 0) zh) [.vl t]=_;rw [Zv,v0,bOk]; exact Xi 3 8 (by omega) (by omega) t (WR 3 k t hk ((ZN k t).mp ht))
   rw [Z7,show jl (vE 2) [.vl (scr ns), .vl k.t, .vl (.lst k.all), .un, .un, .un, .un, .un, .un, .un, .un, .un, .un, .un]= .ok k.all from rfl,bOk,hc,bOk];unfold txs;rw [List.map_map]; rfl
 obtain ⟨a4,a5,a6,a7,el⟩:=Qa ns hk (List.range 5) .un .un .un .un;have e4:jx (Zu (cE (.int 5))) (zz 4) l5B (EL ns k .un .un .un .un .un .un .un .un .un .un)= .nx (EL ns k a4 a5 a6 a7 .un .un .un .un .un .un):=by
  unfold jx;rw [Up (j:=5) rfl (by decide),Zg]
  exact el
 have e5:zH 8 (zd 3 f_s (z9 (vE 0) (z9 (cE (.int 6000)) (z9 (cE (.int 40)) (zh))))) (EL ns k a4 a5 a6 a7 .un .un .un .un .un .un)= .nx (EL ns k a4 a5 a6 a7 (.vl k2.t) .un .un .un .un .un):=by
  rw [Z8 (t:=k2.t)]
  ·rfl
  ·rw [Z2,v0E,bOk,zS,bOk,zS,bOk,hs2]
 obtain ⟨a9,a10,el2⟩:=Qb ns hk (a:=a4) (b:=a5) (c:=a6) (d:=a7) (e:= .vl k2.t) (k2.all.take 12) .un .un (λv hv=>WR 3 k2 v hk2 ((ZN k2 v).mp (List.mem_of_mem_take hv)));have e6:jx (jl (slE (zd 1 (f_3 8) (z9 (vE 8) (zh))) (noO) (zB (cE (.int 12))))) (zz 9) l9B (EL ns k a4 a5 a6 a7 (.vl k2.t) .un .un .un .un .un)= .nx (EL ns k a4 a5 a6 a7 (.vl k2.t) a9 a10 .un .un .un):=by
  have es:jl (slE (zd 1 (f_3 8) (z9 (vE 8) (zh))) (noO) (zB (cE (.int 12)))) (EL ns k a4 a5 a6 a7 (.vl k2.t) .un .un .un .un .un)= .ok (k2.all.take 12):=by
   rw [jf,wY,Zv,v8E,bOk,ha2,bOk,v7,bOk,qc,bOk,show (12:Int)=((12:Nat):Int) from rfl,US,bOk]; rfl
  unfold jx;rw [es,Zg];exact el2
 have e7:zH 11 (jb (z9 (cE (.str "")) (z9 (cE (.str "(")) (z9 (cE (.str ")")) (z9 (cE (.str "()")) (z9 (cE (.str "( )")) (z9 (cE (.str "(()")) (z9 (cE (.str "())")) (z9 (cE (.str "1 2")) (z9 (cE (.str "01")) (z9 (cE (.str "-0")) (z9 (cE (.str "+1")) (z9 (cE (.str "(1  2)")) (z9 (cE (.str "(1 2 )")) (z9 (cE (.str "a b")) (z9 (cE (.str "1)")) (z9 (cE (.str "((1)")) (zh)))))))))))))))))) (EL ns k a4 a5 a6 a7 (.vl k2.t) a9 a10 .un .un .un)= .nx (EL ns k a4 a5 a6 a7 (.vl k2.t) a9 a10 (.vl (.lst (WY.map λl=>T.str (S l)))) .un .un):=rfl;have e8:zH 10 (ze ixT (vE 11) (zd 3 f_2 (z9 (vE 0) (z9 (cE (.int 4100)) (z9 (cE (.int 16)) (zh)))))) (EL ns k a4 a5 a6 a7 (.vl k2.t) a9 a10 (.vl (.lst (WY.map λl=>T.str (S l)))) .un .un)= .nx (EL ns k a4 a5 a6 a7 (.vl k2.t) a9 (.vl (.str (S lo))) (.vl (.lst (WY.map λl=>T.str (S l)))) .un .un):=by
  rw [Z8 (t:= .str (S lo))]
  ·rfl
  ·rw [zm,show vE 11 (EL ns k a4 a5 a6 a7 (.vl k2.t) a9 a10 (.vl (.lst (WY.map λl=>T.str (S l)))) .un .un)= .ok (.lst (WY.map λl=>T.str (S l))) from rfl,bOk,Z2,v0E,bOk,zS,bOk,zS,bOk,hq,bOk,hod]
 have e9:zH 12 (zd 3 f_r (z9 (vE 0) (z9 (cE (.int 4200)) (z9 (ze ixT (vE 2) (cE (.int 0))) (zh))))) (EL ns k a4 a5 a6 a7 (.vl k2.t) a9 (.vl (.str (S lo))) (.vl (.lst (WY.map λl=>T.str (S l)))) .un .un)= .nx (EL ns k a4 a5 a6 a7 (.vl k2.t) a9 (.vl (.str (S lo))) (.vl (.lst (WY.map λl=>T.str (S l)))) (.vl th) .un):=by
  rw [Z8 (t:=th)]
  ·rfl
  ·rw [Z2,v0E,bOk,zS,bOk,zm,v2E,bOk,zS,bOk,show (0:Int)=((0:Nat):Int) from rfl,wO hw,bOk,hth]
 have e10:wz (zC yU (vB 12) (vB 2)) (zC neC (zd 3 f_d (z9 (cE (.int 0)) (z9 (vE 1) (z9 (vE 12) (zh))))) (cE (.str "no worth"))) (EL ns k a4 a5 a6 a7 (.vl k2.t) a9 (.vl (.str (S lo))) (.vl (.lst (WY.map λl=>T.str (S l)))) (.vl th) .un)= .ok false:=by
  obtain ⟨b,hb,hh⟩:=X8 hk th;rw [WB,zX,w12E,bOk,show vB 2 (EL ns k a4 a5 a6 a7 (.vl k2.t) a9 (.vl (.str (S lo))) (.vl (.lst (WY.map λl=>T.str (S l)))) (.vl th) .un)= .ok (.lst k.all) from rfl,bOk,hb,bOk];cases b with
  | false=>rfl
  | true=>rw [if_pos rfl,zX,Z2,zS,bOk,v1E,bOk,v12E,bOk,vz hk (hh rfl),bOk,zS,bOk,Xb]
 have e11:zH 13 (zd 3 f_r (z9 (vE 0) (z9 (cE (.int 4300)) (z9 (vE 1) (zh))))) (EL ns k a4 a5 a6 a7 (.vl k2.t) a9 (.vl (.str (S lo))) (.vl (.lst (WY.map λl=>T.str (S l)))) (.vl th) .un)= .nx (EL ns k a4 a5 a6 a7 (.vl k2.t) a9 (.vl (.str (S lo))) (.vl (.lst (WY.map λl=>T.str (S l)))) (.vl th) (.vl r)):=by
  rw [Z8 (t:=r)]
  ·rfl
  ·rw [Z2,v0E,bOk,zS,bOk,v1E,bOk,hr]
 unfold l5B at e4;unfold l9B at e6;rw [e,b_0,zk e1,zk e2,zk e3,zk e4,zk e5,zk e6,zk e7,zk e8,zk (ZM (KU hk hlo9)),zk e9,zk (ZM e10),zk e11,Z9 (t:= .bl true)]
 ·rfl
 ·show orE _ _ (EL ns k (Jg a4) (Jg a5) (Jg a6) (Jg a7) (.vl k2.t) (Jg a9) (.vl (.str (S lo))) (.vl (.lst (WY.map λl=>T.str (S l)))) (.vl th) (.vl r))=_;generalize Jg a4=b4;generalize Jg a5=b5;generalize Jg a6=b6;generalize Jg a7=b7;generalize Jg a9=b9;have ek:zd 2 (f_a 12) (z9 (vE 13) (z9 (cE (.int 3)) (zh))) (EL ns k b4 b5 b6 b7 (.vl k2.t) b9 (.vl (.str (S lo))) (.vl (.lst (WY.map λl=>T.str (S l)))) (.vl th) (.vl r))= .ok (.bl (isK 3 r)):=by
   rw [ZA,show vE 13 (EL ns k b4 b5 b6 b7 (.vl k2.t) b9 (.vl (.str (S lo))) (.vl (.lst (WY.map λl=>T.str (S l)))) (.vl th) (.vl r))= .ok r from rfl,bOk,zS,bOk,wZ r hF.so]
  unfold orE;rw [ek,bOk];cases hkr:isK 3 r with
  | true=>rfl
  | false=>
   dsimp only;have ei:Zu (cE (.int 2)) (EL ns k b4 b5 b6 b7 (.vl k2.t) b9 (.vl (.str (S lo))) (.vl (.lst (WY.map λl=>T.str (S l)))) (.vl th) (.vl r))= .ok (rng 0 2):=by rw [Up (j:=2) rfl (by decide)]; rfl
   have ec:zR (zz 0) Zi (zd 3 f_d (z9 (vE 0) (z9 (vE 1) (z9 (cE (.str "1")) (zh))))) 1 [13] (EL ns k b4 b5 b6 b7 (.vl k2.t) b9 (.vl (.str (S lo))) (.vl (.lst (WY.map λl=>T.str (S l)))) (.vl th) (.vl r)) (rng 0 2)= .ok ((rng 0 2).map λ_=>T.str "no kind"):=
    Zs _ (by show 2<=bnd; decide) λt ht=>by
     unfold rng at ht;obtain ⟨j,hj,rfl⟩:=List.mem_map.mp ht;show zd 3 _ _ (en2 (.int (0+(j:Int))) r)=_;rw [Z2,v0,bOk,v1,bOk,zS,bOk,show (0:Int)+(j:Int)=(j:Int) by omega]
     exact Xq hF.so hkr _ j (List.mem_range.mp hj)
   rw [jy,Z7,ei,bOk,ec,bOk,bOk];rfl
end G
namespace G
open PySem PySem.Spec PyProof.Rows L2 PV
def top (i:Nat):Stmt:=PySem.Challenge.pw_worthkinds_k70_whole_texts.main.body.getD i (.Pass ⟨0,0,0,0⟩)
abbrev s_1a:Stmt:=top 45
abbrev N_1a:List Str:=["_law_script","_law_k"]
theorem GY:zp N_1a ["_law_script","_law_k"] (zf s_1a):=by refine ⟨rfl,rfl,rfl, ?_,rfl, ?_, ?_⟩ <;> decide+kernel
abbrev s_2:Stmt:=top 46
abbrev N_2:List Str:=["_law_script","_law_k","_law_many","_law_drawn"]
theorem sc_2:zp N_2 ["_law_script","_law_k","_law_many"] (zf s_2):=by refine ⟨rfl,rfl,rfl, ?_,rfl, ?_, ?_⟩ <;> decide+kernel
abbrev GZ:Stmt:=top 47
abbrev N_12:List Str:=["_law_script","_law_at_here","_law_letters"]
theorem KW:zp N_12 ["_law_script","_law_at_here"] (zf GZ):=by refine ⟨rfl,rfl,rfl, ?_,rfl, ?_, ?_⟩ <;> decide+kernel
abbrev s_u:Stmt:=top 48
abbrev N_u:List Str:=["_law_script","_law_at_here","_law_low","_law_words","_law_k","_law_word_here"]
theorem XI:zp N_u ["_law_script","_law_at_here"] (zf s_u):=by refine ⟨rfl,rfl,rfl, ?_,rfl, ?_, ?_⟩ <;> decide+kernel
abbrev s_f:Stmt:=top 49
abbrev N_f:List Str:=["_law_script","_law_at_here","_law_deep","_law_way","_law_some","_law_low"]
theorem gE:zp N_f ["_law_script","_law_at_here","_law_deep"] (zf s_f):=by refine ⟨rfl,rfl,rfl, ?_,rfl, ?_, ?_⟩ <;> decide+kernel
abbrev s_e:Stmt:=top 51
abbrev N_e:List Str:=["_law_lists","_law_made","_law_some","_law_longer","_law_ahead"]
theorem XJ:zp N_e ["_law_lists"] (zf s_e):=by refine ⟨rfl,rfl,rfl, ?_,rfl, ?_, ?_⟩ <;> decide+kernel
abbrev s_3:Stmt:=top 50
abbrev N_3:List Str:=["_law_kind_here","_law_made","_law_size_here"]
theorem z00:zp N_3 ["_law_kind_here"] (zf s_3):=by refine ⟨rfl,rfl,rfl, ?_,rfl, ?_, ?_⟩ <;> decide+kernel
abbrev s_8:Stmt:=top 52
abbrev N_8:List Str:=["_law_kind_here","_law_sizes","_law_made","_law_size_here","_law_inner"]
theorem vC:zp N_8 ["_law_kind_here"] (zf s_8):=by refine ⟨rfl,rfl,rfl, ?_,rfl, ?_, ?_⟩ <;> decide+kernel
abbrev s_s:Stmt:=top 53
abbrev N_s:List Str:=["_law_script","_law_at_here","_law_most","_law_kind_here","_law_k"]
theorem gF:zp N_s ["_law_script","_law_at_here","_law_most"] (zf s_s):=by refine ⟨rfl,rfl,rfl, ?_,rfl, ?_, ?_⟩ <;> decide+kernel
abbrev s_l:Stmt:=top 57
abbrev N_l:List Str:=["_law_thing","_law_made","_law_k"]
theorem z01:zp N_l ["_law_thing"] (zf s_l):=by refine ⟨rfl,rfl,rfl, ?_,rfl, ?_, ?_⟩ <;> decide+kernel
abbrev s_14:Stmt:=top 58
abbrev N_14:List Str:=["_law_thing","_law_place","_law_k"]
theorem Xs:zp N_14 ["_law_thing","_law_place"] (zf s_14):=by refine ⟨rfl,rfl,rfl, ?_,rfl, ?_, ?_⟩ <;> decide+kernel
abbrev s_9:Stmt:=top 59
abbrev N_9:List Str:=["_law_thing","_law_place","_law_new","_law_k"]
theorem sc_9:zp N_9 ["_law_thing","_law_place","_law_new"] (zf s_9):=by refine ⟨rfl,rfl,rfl, ?_,rfl, ?_, ?_⟩ <;> decide+kernel
abbrev s_r:Stmt:=top 60
abbrev N_r:List Str:=["_law_script","_law_at_here","_law_thing","_law_places_here","_law_place","_law_here","_law_some","_law_way","_law_k"]
theorem Xt:zp N_r ["_law_script","_law_at_here","_law_thing"] (zf s_r):=by refine ⟨rfl,rfl,rfl, ?_,rfl, ?_, ?_⟩ <;> decide+kernel
abbrev s_i:Stmt:=top 63
abbrev N_i:List Str:=["_law_worth","_law_text_here","_law_k","_law_part"]
theorem gG:zp N_i ["_law_worth"] (zf s_i):=by refine ⟨rfl,rfl,rfl, ?_,rfl, ?_, ?_⟩ <;> decide+kernel
abbrev s_5:Stmt:=top 61
abbrev N_5:List Str:=["_law_text_here","_law_cell_here","_law_signs","_law_at_here","_law_sign","_law_on","_law_way"]
theorem KY:zp N_5 ["_law_text_here","_law_cell_here","_law_signs"] (zf s_5):=by refine ⟨rfl,rfl,rfl, ?_,rfl, ?_, ?_⟩ <;> decide+kernel
abbrev s_7:Stmt:=top 62
abbrev N_7:List Str:=["_law_kept","_law_kinds"]
theorem sc_7:zp N_7 ["_law_kept"] (zf s_7):=by refine ⟨rfl,rfl,rfl, ?_,rfl, ?_, ?_⟩ <;> decide+kernel
abbrev s_k:Stmt:=top 14
abbrev N_k:List Str:=["thing"]
theorem sc_k:zp N_k ["thing"] (zf s_k):=by refine ⟨rfl,rfl,rfl, ?_,rfl, ?_, ?_⟩ <;> decide+kernel
abbrev s_18:Stmt:=top 17
abbrev N_18:List Str:=["low","high","least","most"]
theorem z02:zp N_18 ["low","high","least","most"] (zf s_18):=by refine ⟨rfl,rfl,rfl, ?_,rfl, ?_, ?_⟩ <;> decide+kernel
abbrev s_b:Stmt:=top 15
abbrev N_b:List Str:=["thing","least","most"]
theorem sc_b:zp N_b ["thing","least","most"] (zf s_b):=by refine ⟨rfl,rfl,rfl, ?_,rfl, ?_, ?_⟩ <;> decide+kernel
abbrev s_6:Stmt:=top 16
abbrev N_6:List Str:=["thing"]
theorem sc_6:zp N_6 ["thing"] (zf s_6):=by refine ⟨rfl,rfl,rfl, ?_,rfl, ?_, ?_⟩ <;> decide+kernel
abbrev s_16:Stmt:=top 20
abbrev N_16:List Str:=["thing"]
theorem z03:zp N_16 ["thing"] (zf s_16):=by refine ⟨rfl,rfl,rfl, ?_,rfl, ?_, ?_⟩ <;> decide+kernel
abbrev s_y:Stmt:=top 19
abbrev N_y:List Str:=["thing","words"]
theorem sc_y:zp N_y ["thing"] (zf s_y):=by refine ⟨rfl,rfl,rfl, ?_,rfl, ?_, ?_⟩ <;> decide+kernel
abbrev s_c:Stmt:=top 18
abbrev N_c:List Str:=["thing","levels"]
theorem sc_c:zp N_c ["thing","levels"] (zf s_c):=by refine ⟨rfl,rfl,rfl, ?_,rfl, ?_, ?_⟩ <;> decide+kernel
abbrev z04:Stmt:=top 21
abbrev N_19:List Str:=["thing","levels"]
theorem z05:zp N_19 ["thing","levels"] (zf z04):=by refine ⟨rfl,rfl,rfl, ?_,rfl, ?_, ?_⟩ <;> decide+kernel
abbrev s_1:Stmt:=top 10
abbrev N_1:List Str:=["thing"]
theorem sc_1:zp N_1 ["thing"] (zf s_1):=by refine ⟨rfl,rfl,rfl, ?_,rfl, ?_, ?_⟩ <;> decide+kernel
abbrev s_n:Stmt:=top 12
abbrev N_n:List Str:=["kind"]
theorem sc_n:zp N_n ["kind"] (zf s_n):=by refine ⟨rfl,rfl,rfl, ?_,rfl, ?_, ?_⟩ <;> decide+kernel
abbrev s_m:Stmt:=top 22
abbrev N_m:List Str:=["kind"]
theorem sc_m:zp N_m ["kind"] (zf s_m):=by refine ⟨rfl,rfl,rfl, ?_,rfl, ?_, ?_⟩ <;> decide+kernel
abbrev s_h:Stmt:=top 23
abbrev N_h:List Str:=["kind","thing"]
theorem sc_h:zp N_h ["kind","thing"] (zf s_h):=by refine ⟨rfl,rfl,rfl, ?_,rfl, ?_, ?_⟩ <;> decide+kernel
abbrev z06:Stmt:=top 24
abbrev N_15:List Str:=["kinds","parts"]
theorem z07:zp N_15 ["kinds","parts"] (zf z06):=by refine ⟨rfl,rfl,rfl, ?_,rfl, ?_, ?_⟩ <;> decide+kernel
abbrev s_w:Stmt:=top 11
abbrev N_w:List Str:=["kind","thing"]
theorem sc_w:zp N_w ["kind","thing"] (zf s_w):=by refine ⟨rfl,rfl,rfl, ?_,rfl, ?_, ?_⟩ <;> decide+kernel
abbrev s_13:Stmt:=top 13
abbrev N_13:List Str:=["kind","worth"]
theorem z08:zp N_13 ["kind","worth"] (zf s_13):=by refine ⟨rfl,rfl,rfl, ?_,rfl, ?_, ?_⟩ <;> decide+kernel
abbrev s_g:Stmt:=top 36
abbrev N_g:List Str:=["worth"]
theorem sc_g:zp N_g ["worth"] (zf s_g):=by refine ⟨rfl,rfl,rfl, ?_,rfl, ?_, ?_⟩ <;> decide+kernel
abbrev s_10:Stmt:=top 33
abbrev N_10:List Str:=["kind","worth"]
theorem z09:zp N_10 ["kind","worth"] (zf s_10):=by refine ⟨rfl,rfl,rfl, ?_,rfl, ?_, ?_⟩ <;> decide+kernel
abbrev s_1b:Stmt:=top 35
abbrev N_1b:List Str:=["thing"]
theorem z0a:zp N_1b ["thing"] (zf s_1b):=by refine ⟨rfl,rfl,rfl, ?_,rfl, ?_, ?_⟩ <;> decide+kernel
abbrev wT:Stmt:=top 28
abbrev w4:Stmt:=top 27
abbrev s_j:Stmt:=top 26
abbrev N_j:List Str:=["kind"]
theorem sc_j:zp N_j ["kind"] (zf s_j):=by refine ⟨rfl,rfl,rfl, ?_,rfl, ?_, ?_⟩ <;> decide+kernel
abbrev Qc:Stmt:=top 30
abbrev yT:Stmt:=top 31
abbrev s_17:Stmt:=top 29
abbrev N_17:List Str:=["kind","number"]
theorem z0b:zp N_17 ["kind","number"] (zf s_17):=by refine ⟨rfl,rfl,rfl, ?_,rfl, ?_, ?_⟩ <;> decide+kernel
abbrev s_11:Stmt:=top 38
abbrev N_11:List Str:=["kind","text","number","worth"]
theorem Xu:zp N_11 ["kind","text"] (zf s_11):=by refine ⟨rfl,rfl,rfl, ?_,rfl, ?_, ?_⟩ <;> decide+kernel
abbrev s_x:Stmt:=top 42
abbrev N_x:List Str:=["text","opening","closing"]
theorem sc_x:zp N_x ["text","opening","closing"] (zf s_x):=by refine ⟨rfl,rfl,rfl, ?_,rfl, ?_, ?_⟩ <;> decide+kernel
abbrev s_q:Stmt:=top 43
abbrev N_q:List Str:=["text","mark","pieces","begin","depth","place","sign"]
theorem Vp:zp N_q ["text","mark"] (zf s_q):=by refine ⟨rfl,rfl,rfl, ?_,rfl, ?_, ?_⟩ <;> decide+kernel
abbrev s_o:Stmt:=top 41
abbrev N_o:List Str:=["text","inner"]
theorem sc_o:zp N_o ["text"] (zf s_o):=by refine ⟨rfl,rfl,rfl, ?_,rfl, ?_, ?_⟩ <;> decide+kernel
abbrev s_4:Stmt:=top 37
abbrev N_4:List Str:=["kind","text"]
theorem sc_4:zp N_4 ["kind","text"] (zf s_4):=by refine ⟨rfl,rfl,rfl, ?_,rfl, ?_, ?_⟩ <;> decide+kernel
abbrev s_1c:Stmt:=top 39
abbrev N_1c:List Str:=["kind","pieces"]
theorem z0c:zp N_1c ["kind","pieces"] (zf s_1c):=by refine ⟨rfl,rfl,rfl, ?_,rfl, ?_, ?_⟩ <;> decide+kernel
abbrev s_t:Stmt:=top 40
abbrev N_t:List Str:=["kinds","pieces"]
theorem sc_t:zp N_t ["kinds","pieces"] (zf s_t):=by refine ⟨rfl,rfl,rfl, ?_,rfl, ?_, ?_⟩ <;> decide+kernel
abbrev s_z:Stmt:=top 34
abbrev N_z:List Str:=["kind","text"]
theorem sc_z:zp N_z ["kind","text"] (zf s_z):=by refine ⟨rfl,rfl,rfl, ?_,rfl, ?_, ?_⟩ <;> decide+kernel
abbrev s_d:Stmt:=top 64
abbrev N_d:List Str:=["_law_what","_law_kind_here","_law_thing","_law_kept","_law_answer","e"]
theorem KZ:zp N_d ["_law_what","_law_kind_here","_law_thing"] (zf s_d):=by refine ⟨rfl,rfl,rfl, ?_,rfl, ?_, ?_⟩ <;> decide+kernel
abbrev s_p:Stmt:=top 54
abbrev N_p:List Str:=["_law_thing","_law_low","_law_high"]
theorem sc_p:zp N_p ["_law_thing","_law_low","_law_high"] (zf s_p):=by refine ⟨rfl,rfl,rfl, ?_,rfl, ?_, ?_⟩ <;> decide+kernel
abbrev s_v:Stmt:=top 55
abbrev N_v:List Str:=["_law_thing"]
theorem sc_v:zp N_v ["_law_thing"] (zf s_v):=by refine ⟨rfl,rfl,rfl, ?_,rfl, ?_, ?_⟩ <;> decide+kernel
abbrev s_a:Stmt:=top 56
abbrev N_a:List Str:=["_law_thing","_law_deep","_law_word_here","_law_rest","_law_some","_law_words"]
theorem gH:zp N_a ["_law_thing","_law_deep"] (zf s_a):=by refine ⟨rfl,rfl,rfl, ?_,rfl, ?_, ?_⟩ <;> decide+kernel
abbrev s_0:Stmt:=top 65
abbrev N_0:List Str:=["_law_script","_law_kind_here","_law_every","_law_texts","_law_k","_law_at_here","_law_spoilt_here","_law_due","_law_other","_law_worth","_law_text_here","_law_odd","_law_thing","_law_bad"]
theorem Ut:zp N_0 ["_law_script"] (zf s_0):=by refine ⟨rfl,rfl,rfl, ?_,rfl, ?_, ?_⟩ <;> decide+kernel
structure Fn (K:PySem.W.Frag) (mg:Str->Option Value) (x:Str) (st:Stmt) (ps:List Str) (f:Addr) (fd:FuncData):Prop where
 F:Fun K x x st f fd
 b:L2.Binds K fd ps []
 m:mg x=some (.ref f)
abbrev XL:List Value:=[.type "ValueError", .type "Exception", .type "BaseException", .type "object"]
set_option genInjectivity false in
set_option genSizeOf false in
structure Tx (K:PySem.W.Frag) (mg:Str->Option Value) where
 a_1a:Addr
 d_1a:FuncData
 C_1a:Fn K mg "_law_cell" s_1a ["_law_script","_law_k"] a_1a d_1a
 a_2:Addr
 d_2:FuncData
 C_2:Fn K mg "_law_pick" s_2 ["_law_script","_law_k","_law_many"] a_2 d_2
 a_12:Addr
 d_12:FuncData
 C_12:Fn K mg "_law_word_of" GZ ["_law_script","_law_at_here"] a_12 d_12
 a_u:Addr
 d_u:FuncData
 C_u:Fn K mg "_law_leaf_kind" s_u ["_law_script","_law_at_here"] a_u d_u
 a_f:Addr
 d_f:FuncData
 C_f:Fn K mg "_law_kind" s_f ["_law_script","_law_at_here","_law_deep"] a_f d_f
 a_e:Addr
 d_e:FuncData
 C_e:Fn K mg "_law_rows_of" s_e ["_law_lists"] a_e d_e
 a_3:Addr
 d_3:FuncData
 C_3:Fn K mg "_law_all" s_3 ["_law_kind_here"] a_3 d_3
 a_8:Addr
 d_8:FuncData
 C_8:Fn K mg "_law_size" s_8 ["_law_kind_here"] a_8 d_8
 a_s:Addr
 d_s:FuncData
 C_s:Fn K mg "_law_small" s_s ["_law_script","_law_at_here","_law_most"] a_s d_s
 a_l:Addr
 d_l:FuncData
 C_l:Fn K mg "_law_places" s_l ["_law_thing"] a_l d_l
 a_14:Addr
 d_14:FuncData
 C_14:Fn K mg "_law_at" s_14 ["_law_thing","_law_place"] a_14 d_14
 a_9:Addr
 d_9:FuncData
 C_9:Fn K mg "_law_put" s_9 ["_law_thing","_law_place","_law_new"] a_9 d_9
 a_r:Addr
 d_r:FuncData
 C_r:Fn K mg "_law_spoilt_thing" s_r ["_law_script","_law_at_here","_law_thing"] a_r d_r
 a_i:Addr
 d_i:FuncData
 C_i:Fn K mg "_law_text" s_i ["_law_worth"] a_i d_i
 a_5:Addr
 d_5:FuncData
 C_5:Fn K mg "_law_spoilt" s_5 ["_law_text_here","_law_cell_here","_law_signs"] a_5 d_5
 a_7:Addr
 d_7:FuncData
 C_7:Fn K mg "_law_word" s_7 ["_law_kept"] a_7 d_7
 a_k:Addr
 d_k:FuncData
 C_k:Fn K mg "is_whole" s_k ["thing"] a_k d_k
 a_18:Addr
 d_18:FuncData
 C_18:Fn K mg "is_span" s_18 ["low","high","least","most"] a_18 d_18
 a_b:Addr
 d_b:FuncData
 C_b:Fn K mg "is_tuple_of" s_b ["thing","least","most"] a_b d_b
 a_6:Addr
 d_6:FuncData
 C_6:Fn K mg "is_word" s_6 ["thing"] a_6 d_6
 a_16:Addr
 d_16:FuncData
 C_16:Fn K mg "is_choice" s_16 ["thing"] a_16 d_16
 a_y:Addr
 d_y:FuncData
 C_y:Fn K mg "are_choices" s_y ["thing"] a_y d_y
 a_c:Addr
 d_c:FuncData
 C_c:Fn K mg "is_kind_within" s_c ["thing","levels"] a_c d_c
 a_19:Addr
 d_19:FuncData
 C_19:Fn K mg "are_kinds_within" z04 ["thing","levels"] a_19 d_19
 a_1:Addr
 d_1:FuncData
 C_1:Fn K mg "is_kind" s_1 ["thing"] a_1 d_1
 a_n:Addr
 d_n:FuncData
 C_n:Fn K mg "need_kind" s_n ["kind"] a_n d_n
 a_m:Addr
 d_m:FuncData
 C_m:Fn K mg "words_of_pick" s_m ["kind"] a_m d_m
 a_h:Addr
 d_h:FuncData
 C_h:Fn K mg "has_worth" s_h ["kind","thing"] a_h d_h
 a_15:Addr
 d_15:FuncData
 C_15:Fn K mg "have_parts" z06 ["kinds","parts"] a_15 d_15
 a_w:Addr
 d_w:FuncData
 C_w:Fn K mg "is_worth" s_w ["kind","thing"] a_w d_w
 a_13:Addr
 d_13:FuncData
 C_13:Fn K mg "need_worth" s_13 ["kind","worth"] a_13 d_13
 a_g:Addr
 d_g:FuncData
 C_g:Fn K mg "worth_written" s_g ["worth"] a_g d_g
 a_10:Addr
 d_10:FuncData
 C_10:Fn K mg "worth_text" s_10 ["kind","worth"] a_10 d_10
 a_1b:Addr
 d_1b:FuncData
 C_1b:Fn K mg "need_text" s_1b ["thing"] a_1b d_1b
 a_count_shorter:Addr
 d_count_shorter:FuncData
 C_count_shorter:Fn K mg "count_shorter" wT ["kind","length"] a_count_shorter d_count_shorter
 a_count_of_parts:Addr
 d_count_of_parts:FuncData
 C_count_of_parts:Fn K mg "count_of_parts" w4 ["kinds"] a_count_of_parts d_count_of_parts
 a_j:Addr
 d_j:FuncData
 C_j:Fn K mg "count_of" s_j ["kind"] a_j d_j
 a_many_at:Addr
 d_many_at:FuncData
 C_many_at:Fn K mg "many_at" Qc ["kind","number"] a_many_at d_many_at
 a_parts_at:Addr
 d_parts_at:FuncData
 C_parts_at:Fn K mg "parts_at" yT ["kinds","number"] a_parts_at d_parts_at
 a_17:Addr
 d_17:FuncData
 C_17:Fn K mg "worth_at" s_17 ["kind","number"] a_17 d_17
 a_11:Addr
 d_11:FuncData
 C_11:Fn K mg "single_in" s_11 ["kind","text"] a_11 d_11
 a_x:Addr
 d_x:FuncData
 C_x:Fn K mg "text_inside" s_x ["text","opening","closing"] a_x d_x
 a_q:Addr
 d_q:FuncData
 C_q:Fn K mg "pieces_between" s_q ["text","mark"] a_q d_q
 a_o:Addr
 d_o:FuncData
 C_o:Fn K mg "pieces_of_tuple" s_o ["text"] a_o d_o
 a_4:Addr
 d_4:FuncData
 C_4:Fn K mg "worth_in" s_4 ["kind","text"] a_4 d_4
 a_1c:Addr
 d_1c:FuncData
 C_1c:Fn K mg "many_in" s_1c ["kind","pieces"] a_1c d_1c
 a_t:Addr
 d_t:FuncData
 C_t:Fn K mg "parts_in" s_t ["kinds","pieces"] a_t d_t
 a_z:Addr
 d_z:FuncData
 C_z:Fn K mg "read_worth" s_z ["kind","text"] a_z d_z
 a_d:Addr
 d_d:FuncData
 C_d:Fn K mg "_law_tried" s_d ["_law_what","_law_kind_here","_law_thing"] a_d d_d
 a_p:Addr
 d_p:FuncData
 C_p:Fn K mg "_law_whole" s_p ["_law_thing","_law_low","_law_high"] a_p d_p
 a_v:Addr
 d_v:FuncData
 C_v:Fn K mg "_law_is_word" s_v ["_law_thing"] a_v d_v
 a_a:Addr
 d_a:FuncData
 C_a:Fn K mg "_law_is_kind" s_a ["_law_thing","_law_deep"] a_a d_a
 a_0:Addr
 d_0:FuncData
 C_0:Fn K mg "law" s_0 ["_law_script"] a_0 d_0
 z_ValueError:mg "ValueError"=none
 z_all:mg "all"=none
 z_bool:mg "bool"=none
 z_enumerate:mg "enumerate"=none
 z_int:mg "int"=none
 z_isinstance:mg "isinstance"=none
 z_len:mg "len"=none
 z_list:mg "list"=none
 z_min:mg "min"=none
 z_range:mg "range"=none
 z_set:mg "set"=none
 z_str:mg "str"=none
 z_tuple:mg "tuple"=none
 z_zip:mg "zip"=none
 c_DEEPEST:∃ u,mg "DEEPEST"=some u/\∃ t,u=Value.int 3 t
set_option genInjectivity false in
set_option genSizeOf false in
structure Tq (K:PySem.W.Frag) (mg:Str->Option Value) (base:Heap) (cl:Nat->Value) where
 q_Ended:Addr
 q_NoKind:Addr
 q_NoRule:Addr
 q_NoText:Addr
 q_NoWorth:Addr
 q_TooMany:Addr
 q_WorthError:Addr
 X_k:XK1 K cl okX
 e_WorthError:∀ c,okX c=true->PySem.W.exmOne K (cl c) (.ref q_WorthError)=some true
 l_NoKind:cl 0= .ref q_NoKind
 l_NoText:cl 5= .ref q_NoText
 l_NoWorth:cl 1= .ref q_NoWorth
 m_Ended:mg "Ended"=some (.ref q_Ended)
 m_NoKind:mg "NoKind"=some (.ref q_NoKind)
 m_NoRule:mg "NoRule"=some (.ref q_NoRule)
 m_NoText:mg "NoText"=some (.ref q_NoText)
 m_NoWorth:mg "NoWorth"=some (.ref q_NoWorth)
 m_TooMany:mg "TooMany"=some (.ref q_TooMany)
 m_WorthError:mg "WorthError"=some (.ref q_WorthError)
 o_NoKind:OwnCls "NoKind" q_NoKind XL "ValueError.__new__" mg base
 o_NoText:OwnCls "NoText" q_NoText XL "ValueError.__new__" mg base
 o_NoWorth:OwnCls "NoWorth" q_NoWorth XL "ValueError.__new__" mg base
 t_Ended:∀ c,okX c=true->PySem.W.kitOne K (cl c) (.ref q_Ended)=some (wF c)
 t_NoKind:∀ c,okX c=true->PySem.W.kitOne K (cl c) (.ref q_NoKind)=some (JF c)
 t_NoRule:∀ c,okX c=true->PySem.W.kitOne K (cl c) (.ref q_NoRule)=some (JG c)
 t_NoText:∀ c,okX c=true->PySem.W.kitOne K (cl c) (.ref q_NoText)=some (JH c)
 t_NoWorth:∀ c,okX c=true->PySem.W.kitOne K (cl c) (.ref q_NoWorth)=some (Ja c)
 t_TooMany:∀ c,okX c=true->PySem.W.kitOne K (cl c) (.ref q_TooMany)=some (Jb c)
 t_ValueError:∀ c,okX c=true->PySem.W.kitOne K (cl c) (.type "ValueError")=some (jp c)
section
variable (P:Program) (w:World) {K:PySem.W.Frag} {mg:Str->Option Value} (base:Heap) (cl:Nat->Value) (tx:Tx K mg) (k:Nat) (c:List T->R T)
abbrev z0d:Prop:=Zm P w K mg base CX0 k tx.a_1a tx.d_1a ["_law_script","_law_k"] (spP cl 2 c)
abbrev Q_2:Prop:=Zm P w K mg base CX0 k tx.a_2 tx.d_2 ["_law_script","_law_k","_law_many"] (spP cl 3 c)
abbrev z0e:Prop:=Zm P w K mg base CX0 k tx.a_12 tx.d_12 ["_law_script","_law_at_here"] (spP cl 2 c)
abbrev Q_u:Prop:=Zm P w K mg base CX0 k tx.a_u tx.d_u ["_law_script","_law_at_here"] (spP cl 2 c)
abbrev Q_f:Prop:=Zm P w K mg base CX0 k tx.a_f tx.d_f ["_law_script","_law_at_here","_law_deep"] (spP cl 3 c)
abbrev Q_e:Prop:=Zm P w K mg base CX0 k tx.a_e tx.d_e ["_law_lists"] (spP cl 1 c)
abbrev Q_3:Prop:=Zm P w K mg base CX0 k tx.a_3 tx.d_3 ["_law_kind_here"] (spP cl 1 c)
abbrev Q_8:Prop:=Zm P w K mg base CX0 k tx.a_8 tx.d_8 ["_law_kind_here"] (spP cl 1 c)
abbrev Q_s:Prop:=Zm P w K mg base CX0 k tx.a_s tx.d_s ["_law_script","_law_at_here","_law_most"] (spP cl 3 c)
abbrev Q_l:Prop:=Zm P w K mg base CX0 k tx.a_l tx.d_l ["_law_thing"] (spP cl 1 c)
abbrev z0f:Prop:=Zm P w K mg base CX0 k tx.a_14 tx.d_14 ["_law_thing","_law_place"] (spP cl 2 c)
abbrev Q_9:Prop:=Zm P w K mg base CX0 k tx.a_9 tx.d_9 ["_law_thing","_law_place","_law_new"] (spP cl 3 c)
abbrev Q_r:Prop:=Zm P w K mg base CX0 k tx.a_r tx.d_r ["_law_script","_law_at_here","_law_thing"] (spP cl 3 c)
abbrev Q_i:Prop:=Zm P w K mg base CX0 k tx.a_i tx.d_i ["_law_worth"] (spP cl 1 c)
abbrev Q_5:Prop:=Zm P w K mg base CX0 k tx.a_5 tx.d_5 ["_law_text_here","_law_cell_here","_law_signs"] (spP cl 3 c)
abbrev Q_7 (c:Nat->R T):Prop:=Zm P w K mg base CX0 k tx.a_7 tx.d_7 ["_law_kept"] (spC cl c)
abbrev Q_k:Prop:=Zm P w K mg base CX0 k tx.a_k tx.d_k ["thing"] (spP cl 1 c)
abbrev z0g:Prop:=Zm P w K mg base CX0 k tx.a_18 tx.d_18 ["low","high","least","most"] (spP cl 4 c)
abbrev Q_b:Prop:=Zm P w K mg base CX0 k tx.a_b tx.d_b ["thing","least","most"] (spP cl 3 c)
abbrev Q_6:Prop:=Zm P w K mg base CX0 k tx.a_6 tx.d_6 ["thing"] (spP cl 1 c)
abbrev z0h:Prop:=Zm P w K mg base CX0 k tx.a_16 tx.d_16 ["thing"] (spP cl 1 c)
abbrev Q_y:Prop:=Zm P w K mg base CX0 k tx.a_y tx.d_y ["thing"] (spP cl 1 c)
abbrev Q_c:Prop:=Zm P w K mg base CX0 k tx.a_c tx.d_c ["thing","levels"] (spP cl 2 c)
abbrev gI:Prop:=Zm P w K mg base CX0 k tx.a_19 tx.d_19 ["thing","levels"] (spP cl 2 c)
abbrev Q_1:Prop:=Zm P w K mg base CX0 k tx.a_1 tx.d_1 ["thing"] (spP cl 1 c)
abbrev Q_n:Prop:=Zm P w K mg base (CX1 P w) k tx.a_n tx.d_n ["kind"] (spP cl 1 c)
abbrev Q_m:Prop:=Zm P w K mg base CX0 k tx.a_m tx.d_m ["kind"] (spP cl 1 c)
abbrev Q_h:Prop:=Zm P w K mg base CX0 k tx.a_h tx.d_h ["kind","thing"] (spP cl 2 c)
abbrev gJ:Prop:=Zm P w K mg base CX0 k tx.a_15 tx.d_15 ["kinds","parts"] (spP cl 2 c)
abbrev Q_w:Prop:=Zm P w K mg base (CX1 P w) k tx.a_w tx.d_w ["kind","thing"] (spP cl 2 c)
abbrev z0i:Prop:=Zm P w K mg base (CX1 P w) k tx.a_13 tx.d_13 ["kind","worth"] (spP cl 2 c)
abbrev Q_g:Prop:=Zm P w K mg base CX0 k tx.a_g tx.d_g ["worth"] (spP cl 1 c)
abbrev z0j:Prop:=Zm P w K mg base (CX1 P w) k tx.a_10 tx.d_10 ["kind","worth"] (spP cl 2 c)
abbrev z0k:Prop:=Zm P w K mg base (CX1 P w) k tx.a_1b tx.d_1b ["thing"] (spP cl 1 c)
abbrev jU:Prop:=Zm P w K mg base CX0 k tx.a_count_shorter tx.d_count_shorter ["kind","length"] (spP cl 2 c)
abbrev jC:Prop:=Zm P w K mg base CX0 k tx.a_count_of_parts tx.d_count_of_parts ["kinds"] (spP cl 1 c)
abbrev Q_j:Prop:=Zm P w K mg base CX0 k tx.a_j tx.d_j ["kind"] (spP cl 1 c)
abbrev uR:Prop:=Zm P w K mg base CX0 k tx.a_many_at tx.d_many_at ["kind","number"] (spP cl 2 c)
abbrev Wi:Prop:=Zm P w K mg base CX0 k tx.a_parts_at tx.d_parts_at ["kinds","number"] (spP cl 2 c)
abbrev z0l:Prop:=Zm P w K mg base CX0 k tx.a_17 tx.d_17 ["kind","number"] (spP cl 2 c)
abbrev z0m:Prop:=Zm P w K mg base (CX1 P w) k tx.a_11 tx.d_11 ["kind","text"] (spP cl 2 c)
abbrev Q_x:Prop:=Zm P w K mg base (CX1 P w) k tx.a_x tx.d_x ["text","opening","closing"] (spP cl 3 c)
abbrev Q_q:Prop:=Zm P w K mg base CX0 k tx.a_q tx.d_q ["text","mark"] (spP cl 2 c)
abbrev Q_o:Prop:=Zm P w K mg base (CX1 P w) k tx.a_o tx.d_o ["text"] (spP cl 1 c)
abbrev Q_4:Prop:=Zm P w K mg base (CX1 P w) k tx.a_4 tx.d_4 ["kind","text"] (spP cl 2 c)
abbrev gK:Prop:=Zm P w K mg base (CX1 P w) k tx.a_1c tx.d_1c ["kind","pieces"] (spP cl 2 c)
abbrev Q_t:Prop:=Zm P w K mg base (CX1 P w) k tx.a_t tx.d_t ["kinds","pieces"] (spP cl 2 c)
abbrev Q_z:Prop:=Zm P w K mg base (CX1 P w) k tx.a_z tx.d_z ["kind","text"] (spP cl 2 c)
abbrev Q_d:Prop:=Zm P w K mg base CX0 k tx.a_d tx.d_d ["_law_what","_law_kind_here","_law_thing"] (spP cl 3 c)
abbrev Q_p:Prop:=Zm P w K mg base CX0 k tx.a_p tx.d_p ["_law_thing","_law_low","_law_high"] (spP cl 3 c)
abbrev Q_v:Prop:=Zm P w K mg base CX0 k tx.a_v tx.d_v ["_law_thing"] (spP cl 1 c)
abbrev Q_a:Prop:=Zm P w K mg base CX0 k tx.a_a tx.d_a ["_law_thing","_law_deep"] (spP cl 2 c)
abbrev Q_0:Prop:=Zm P w K mg base CX0 k tx.a_0 tx.d_0 ["_law_script"] (spP cl 1 c)
end
theorem cZ {X:Cx} {Y:Fx} {cl:Nat->Value} {k j n:Nat} {f:Addr} {fd:FuncData} {ps:List Str} {g:List T->R T} {x:Str} {st:Stmt} {a:Expr} {es:List Expr} {ga:En->R (List T)} {p pos:Pos} (hy:Y.cl=cl) (F:Zm X.prog X.w X.K X.mg X.base CX0 j f fd ps (spP cl n g)) (hr:Jz k X.A) (C:Fn X.K X.mg x st ps f fd) (ha:U0 X Y (a :: es) ga) (hj:j<=k:=by omega) (gl:Gl X x:=by rfl) (hd:(x == ("__debug__":Str))=false:=by decide)
  (hs:starEach (a :: es) X.env=(false,eval a X.env) :: starEach es X.env:=by exact Zo rfl) (hz:((backTo pos (starEach es X.env)).any λx=>x.fst)=false:=by exact j0 rfl):Snd X Y (.Call (.Name x p) (a :: es) [] pos) (zd n g ga):=xi hy F hr hj gl C.m C.F.kp C.b ha hd hs hz
theorem cX {X:Cx} {Y:Fx} {cl:Nat->Value} {k j n:Nat} {f:Addr} {fd:FuncData} {ps:List Str} {g:List T->R T} {x:Str} {st:Stmt} {a:Expr} {es:List Expr} {ga:En->R (List T)} {p pos:Pos} (hy:Y.cl=cl) (hp:jA (CX1 X.prog X.w) X Y.E) (F:Zm X.prog X.w X.K X.mg X.base (CX1 X.prog X.w) j f fd ps (spP cl n g)) (hr:Jz k X.A) (C:Fn X.K X.mg x st ps f fd) (ha:U0 X Y (a :: es) ga) (hj:j<=k:=by omega) (gl:Gl X x:=by rfl) (hd:(x == ("__debug__":Str))=false:=by decide)
  (hs:starEach (a :: es) X.env=(false,eval a X.env) :: starEach es X.env:=by exact Zo rfl) (hz:((backTo pos (starEach es X.env)).any λx=>x.fst)=false:=by exact j0 rfl):Snd X Y (.Call (.Name x p) (a :: es) [] pos) (zd n g ga):=xl hy hp F hr hj gl C.m C.F.kp C.b ha hd hs hz
section
variable {P:Program} {w:World} {K:PySem.W.Frag} {mg:Str->Option Value} {base:Heap} {cl:Nat->Value} {tx:Tx K mg}
theorem z0n:z0d P w base cl tx 1 (λts=>zn (b_1a  (en0 2 ts))):=by
 refine Zl tx.C_1a.F GY rfl (λcdv A outer s H E Y hy hr=> ?_) (λts h=>rfl);refine zg ?_ ?_;refine zF ?_ ?_ ?_;exact zy uj JP (zj 1 (pv 1)) (Snd.b (Zb (by rfl) tx.z_len (zj 0 (pv 0)))) (zo _)
 exact zl (zq (zM (zb 0 (pv 0)) (zb 1 (pv 1))))
 exact zE
 refine zg ?_ ?_;refine zF ?_ ?_ ?_;exact zy zO (zx hr.units) (zj 0 (pv 0)) (Snd.b (ju zi)) (zo _)
 exact zl (zq zc)
 exact zE
 refine zl ?_;refine zq ?_;refine zw ?_ ?_;refine jk ?_ ?_;exact zM (zb 0 (pv 0)) (ww (zb 1 (pv 1)) (Zb (by rfl) tx.z_len (zj 0 (pv 0))))
 exact zc
 exact zb 1 (pv 1)
theorem ok_2 {c_1a:List T->R T} (O_1a:z0d P w base cl tx 1 c_1a):Q_2 P w base cl tx 2 (λts=>zn (b_2 c_1a (en0 4 ts))):=by
 refine Zl tx.C_2.F sc_2 rfl (λcdv A outer s H E Y hy hr=> ?_) (λts h=>rfl);refine zg ?_ ?_;refine zN (i:=3) sc_2.nd (by rfl) (.inl (by rfl)) ?_
 refine ww ?_ ?_;refine jk ?_ ?_;refine zw ?_ ?_;exact cZ hy O_1a hr tx.C_1a (za (zb 0 (pv 0)) (za (zb 1 (pv 1)) zi))
 exact jk zc (zw (zb 1 (pv 1)) zc)
 exact zc
 exact zc
 refine zl ?_;refine zq ?_;refine ww ?_ ?_;refine ww ?_ ?_;exact zw (jk (zb 3 (pv 3)) (zb 3 (pv 3))) (UB (zb 3 (pv 3)) zc)
 exact zc
 exact zb 2 (pv 2)
theorem z0o {c_2:List T->R T} (O_2:Q_2 P w base cl tx 2 c_2):z0e P w base cl tx 3 (λts=>zn (gq c_2 (en0 3 ts))):=by
 refine Zl tx.C_12.F KW rfl (λcdv A outer s H E Y hy hr=> ?_) (λts h=>rfl);refine zg ?_ ?_;exact zN (i:=2) KW.nd (by rfl) (.inr (by rfl)) zt
 refine zg ?_ ?_;refine zF ?_ ?_ ?_;refine zy VT Yp ?_ ?_ (zo _);refine Snd.b ?_;refine cZ hy O_2 hr tx.C_2 ?_;exact za (zb 0 (pv 0)) (za (zb 1 (pv 1)) (za zc zi))
 exact Snd.b zc
 refine zl ?_;refine zq ?_;refine zM ?_ ?_;refine ju ?_;refine za ?_ ?_;exact zt
 exact za zt (za zt (za zt zi))
 refine cZ hy O_2 hr tx.C_2 ?_;refine za ?_ ?_;exact zb 0 (pv 0)
 exact za (zw (zb 1 (pv 1)) zc) (za zc zi)
 exact zE
 refine zl ?_;refine zq ?_;refine vX ?_;refine Snd.b ?_;refine ZR (Zq ["_law_k","_law_script","_law_at_here","_law_letters"] N_12 (zf GZ) (by rfl) (by rfl) (by decide+kernel) (by rfl) ?_ (λ_ _ _ _ _ _=>zK (show List.Nodup (["_law_k","_law_script","_law_at_here","_law_letters"]:List Str) by decide+kernel) (by rfl) (.inl (by rfl)) (.inr (by rfl))) (zP 0) (zQ 0) (λY' hy' _ _ _ _ _ _=> ?_) (λY' hy' _ _ _ _ _ _ _ hp' => ?_))
 refine Jp (by rfl) tx.z_range ?_
 refine zw ?_ ?_;exact zc
 refine cZ hy O_2 hr tx.C_2 ?_;refine za ?_ ?_;exact zb 0 (pv 0)
 exact za (zw (zb 1 (pv 1)) zc) (za zc zi)
 exact ZQ
 refine zM ?_ ?_;exact zb 3 (pv 3)
 refine cZ (hy'.trans hy) O_2 hr tx.C_2 ?_;refine za ?_ ?_;exact zb 1 (pv 1)
 refine za ?_ ?_;exact zw (zw (zb 2 (pv 2)) zc) (zb 0 (pv 0))
 exact za zc zi
theorem ok_u {c_2 c_12:List T->R T} (O_2:Q_2 P w base cl tx 2 c_2) (O_12:z0e P w base cl tx 3 c_12):Q_u P w base cl tx 4 (λts=>zn (b_u c_2 c_12 (en0 6 ts))):=by
 refine Zl tx.C_u.F XI rfl (λcdv A outer s H E Y hy hr=> ?_) (λts h=>rfl);refine zg ?_ ?_;refine zF ?_ ?_ ?_;refine zy VT Yp ?_ ?_ (zo _);refine Snd.b ?_;refine cZ hy O_2 hr tx.C_2 ?_;exact za (zb 0 (pv 0)) (za (zb 1 (pv 1)) (za zc zi))
 exact Snd.b zc
 refine zg ?_ ?_;refine zN (i:=2) XI.nd (by rfl) (.inl (by rfl)) ?_
 refine wW ?_ ?_;refine cZ hy O_2 hr tx.C_2 ?_;refine za ?_ ?_;exact zb 0 (pv 0)
 exact za (zw (zb 1 (pv 1)) zc) (za zc zi)
 exact zc
 refine zg ?_ ?_;refine zF ?_ ?_ ?_;refine zy zO (zx hr.units) ?_ ?_ (zo _);refine Snd.b ?_;refine cZ hy O_2 hr tx.C_2 ?_;refine za ?_ ?_;exact zb 0 (pv 0)
 exact za (zw (zb 1 (pv 1)) zc) (za zc zi)
 exact Snd.b zc
 refine zl ?_;refine zN (i:=2) XI.nd (by rfl) (.inl (by rfl)) ?_
 refine zM ?_ ?_;refine ju ?_;refine za ?_ ?_;exact yw zc
 exact za zc (za zc zi)
 refine cZ hy O_2 hr tx.C_2 ?_;refine za ?_ ?_;exact zb 0 (pv 0)
 exact za (zw (zb 1 (pv 1)) zc) (za zc zi)
 exact zE
 refine zl ?_;refine zq ?_;refine jv ?_;refine za ?_ ?_;exact zt
 refine za ?_ ?_;exact zb 2 (pv 2)
 refine za ?_ ?_;refine vQ (by rfl) (by rfl) tx.z_min ?_ ?_
 exact zc
 refine zw ?_ ?_;exact zb 2 (pv 2)
 refine cZ hy O_2 hr tx.C_2 ?_;refine za ?_ ?_;exact zb 0 (pv 0)
 exact za (zw (zb 1 (pv 1)) zc) (za zc zi)
 exact zi
 exact zE
 refine zg ?_ ?_;exact W9 (i:=3) XI.nd (by rfl) (.inl (by rfl)) zi
 refine zg ?_ ?_;refine JD PassesOwn.never (by rfl) ?_ ?_ ?_
 refine Jp (by rfl) tx.z_range ?_
 refine zw ?_ ?_;exact zc
 refine cZ hy O_2 hr tx.C_2 ?_;refine za ?_ ?_;exact zb 0 (pv 0)
 exact za (zw (zb 1 (pv 1)) zc) (za zc zi)
 exact jM (i:=4) XI.nd (by rfl) (.inl (by rfl))
 refine zg ?_ ?_;refine zN (i:=5) XI.nd (by rfl) (.inl (by rfl)) ?_
 refine cZ hy O_12 hr tx.C_12 ?_;refine za ?_ ?_;exact zb 0 (pv 0)
 refine za ?_ ?_;exact zw (zw (zb 1 (pv 1)) zc) (jk zc (zb 4 (pv 4)))
 exact zi
 refine zl ?_;refine zF ?_ ?_ ?_;exact zy vM (Ys hr.units) (zj 5 (pv 5)) (zj 3 (pv 3)) (by rfl)
 exact zl (VY (i:=3) (pv 3) (zb 5 (pv 5)))
 exact zE
 refine zl ?_;refine zq ?_;refine jv ?_;refine za ?_ ?_;exact zt
 refine za ?_ ?_;refine U2 (by rfl) tx.z_tuple ?_
 refine ZR (Zq ["_law_k","_law_word_here","_law_script","_law_at_here"] N_u (zf s_u) (by rfl) (by rfl) (by decide+kernel) (by rfl) ?_ (λ_ _ _ _ _ _=>u4 (by rfl) (ZT (zK (show List.Nodup (["_law_k","_law_word_here","_law_script","_law_at_here"]:List Str) by decide+kernel) (by rfl) (.inl (by rfl)) (.inr (by rfl))) (ZT (zK (show List.Nodup (["_law_k","_law_word_here","_law_script","_law_at_here"]:List Str) by decide+kernel) (by rfl) (.inl (by rfl)) (.inr (by rfl))) wn))) (w9 _ 0 1) (wa 0 1) (λY' hy' _ _ _ _ _ _=> ?_) (λY' hy' _ _ _ _ _ _ _ hp' => ?_))
 exact kI (by rfl) tx.z_enumerate (zb 3 (pv 3))
 exact ZQ
 refine jv ?_;refine za ?_ ?_;exact zb 1 (pv 1)
 refine za ?_ ?_;refine zw ?_ ?_;exact zc
 refine cZ (hy'.trans hy) O_2 hr tx.C_2 ?_;refine za ?_ ?_;exact zb 2 (pv 2)
 refine za ?_ ?_;exact zw (zw (zb 3 (pv 3)) zc) (zb 0 (pv 0))
 exact za zc zi
 exact zi
 exact zi
theorem ok_f {j:Nat} (hj:4<=j) {c_2 c_u c_f:List T->R T} (O_2:Q_2 P w base cl tx 2 c_2) (O_u:Q_u P w base cl tx 4 c_u) (O_f:Q_f P w base cl tx j c_f):Q_f P w base cl tx (j+1) (λts=>zn (b_f c_2 c_u c_f (en0 6 ts))):=by
 refine Zl tx.C_f.F gE rfl (λcdv A outer s H E Y hy hr=> ?_) (λts h=>rfl);refine zg ?_ ?_;refine zN (i:=3) gE.nd (by rfl) (.inl (by rfl)) ?_
 refine cZ hy O_2 hr tx.C_2 ?_;exact za (zb 0 (pv 0)) (za (zb 1 (pv 1)) (za zc zi))
 refine zg ?_ ?_;refine zF ?_ ?_ ?_;refine JQ.t ?_;refine WU ?_ ?_;exact zy zO (zx hr.units) (zj 2 (pv 2)) (Snd.b zc) (zo _)
 exact wA (zy uj JP (zj 3 (pv 3)) (Snd.b zc) (zo _))
 refine zl ?_;refine zq ?_;refine cZ hy O_u hr tx.C_u ?_;exact za (zb 0 (pv 0)) (za (zw (zb 1 (pv 1)) zc) zi)
 exact zE
 refine zg ?_ ?_;refine zF ?_ ?_ ?_;exact zy uj JP (zj 3 (pv 3)) (Snd.b zc) (zo _)
 refine zg ?_ ?_;refine UI (i:=4) (Zq ["_law_k","_law_script","_law_at_here","_law_deep"] N_f (zf s_f) (by rfl) (by rfl) (by decide+kernel) (by rfl) ?_ (λ_ _ _ _ _ _=>zK (show List.Nodup (["_law_k","_law_script","_law_at_here","_law_deep"]:List Str) by decide+kernel) (by rfl) (.inl (by rfl)) (.inr (by rfl))) (zP 0) (zQ 0) (λY' hy' _ _ _ _ _ _=> ?_) (λY' hy' _ _ _ _ _ _ _ hp' => ?_)) gE.nd (by rfl) (.inl (by rfl)) (by rfl)
 refine Jp (by rfl) tx.z_range ?_
 refine zw ?_ ?_;exact zc
 refine cZ hy O_2 hr tx.C_2 ?_;refine za ?_ ?_;exact zb 0 (pv 0)
 exact za (zw (zb 1 (pv 1)) zc) (za zc zi)
 exact ZQ
 refine cZ (hy'.trans hy) O_f hr tx.C_f ?_;refine za ?_ ?_;exact zb 1 (pv 1)
 refine za ?_ ?_;refine zw ?_ ?_;exact zw (jk zc (zb 2 (pv 2))) zc
 exact jk zc (zb 0 (pv 0))
 exact za (wW (zb 3 (pv 3)) zc) zi
 refine zl ?_;refine zq ?_;exact jv (za zt (za (U2 (by rfl) tx.z_tuple (zb 4 (pv 4))) zi))
 exact zE
 refine zg ?_ ?_;refine zN (i:=5) gE.nd (by rfl) (.inl (by rfl)) ?_
 refine cZ hy O_2 hr tx.C_2 ?_;refine za ?_ ?_;exact zb 0 (pv 0)
 exact za (zw (zb 1 (pv 1)) zc) (za zc zi)
 refine zl ?_;refine zq ?_;refine jv ?_;refine za ?_ ?_;exact zt
 refine za ?_ ?_;refine cZ hy O_f hr tx.C_f ?_;refine za ?_ ?_;exact zb 0 (pv 0)
 refine za ?_ ?_;exact zw (jk zc (zb 1 (pv 1))) zc
 exact za (wW (zb 2 (pv 2)) zc) zi
 refine za ?_ ?_;exact zb 5 (pv 5)
 refine za ?_ ?_;refine vQ (by rfl) (by rfl) tx.z_min ?_ ?_
 exact zc
 refine zw ?_ ?_;exact zb 5 (pv 5)
 refine cZ hy O_2 hr tx.C_2 ?_;refine za ?_ ?_;exact zb 0 (pv 0)
 exact za (zw (zb 1 (pv 1)) zc) (za zc zi)
 exact zi
theorem ok_e:Q_e P w base cl tx 1 (λts=>zn (b_e  (en0 5 ts))):=by
 refine Zl tx.C_e.F XJ rfl (λcdv A outer s H E Y hy hr=> ?_) (λts h=>rfl);refine zg ?_ ?_;exact zN (i:=1) XJ.nd (by rfl) (.inl (by rfl)) (ju (za (jv zi) zi))
 refine zg ?_ ?_;refine JD PassesOwn.never (by rfl) ?_ ?_ ?_
 exact jm (zb 0 (pv 0))
 exact jM (i:=2) XJ.nd (by rfl) (.inl (by rfl))
 refine zg ?_ ?_;exact W9 (i:=3) XJ.nd (by rfl) (.inl (by rfl)) zi
 refine zg ?_ ?_;refine JD PassesOwn.never (by rfl) ?_ ?_ ?_
 exact jm (zb 1 (pv 1))
 exact jM (i:=4) XJ.nd (by rfl) (.inr (by rfl))
 refine zl ?_;refine QD (i:=3) (pv 3) ?_;refine ZR (Zq ["_law_one","_law_ahead"] N_e (zf s_e) (by rfl) (by rfl) (by decide+kernel) (by rfl) ?_ (λ_ _ _ _ _ _=>zK (show List.Nodup (["_law_one","_law_ahead"]:List Str) by decide+kernel) (by rfl) (.inl (by rfl)) (.inr (by rfl))) (zP 0) (zQ 0) (λY' hy' _ _ _ _ _ _=> ?_) (λY' hy' _ _ _ _ _ _ _ hp' => ?_))
 exact jm (zb 2 (pv 2))
 exact ZQ
 exact zw (zb 1 (pv 1)) (jv (za (zb 0 (pv 0)) zi))
 exact zl (s_mv (i:=1) (j:=3) (pv 3) XJ.nd (by rfl) (.inl (by rfl)))
 exact zl (zq (zb 1 (pv 1)))
theorem ok_3 {j:Nat} (hj:1<=j) {c_3 c_e:List T->R T} (O_3:Q_3 P w base cl tx j c_3) (O_e:Q_e P w base cl tx 1 c_e):Q_3 P w base cl tx (j+1) (λts=>zn (b_3 c_3 c_e (en0 3 ts))):=by
 refine Zl tx.C_3.F z00 rfl (λcdv A outer s H E Y hy hr=> ?_) (λts h=>rfl);refine zg ?_ ?_;refine zF ?_ ?_ ?_;exact zy zO (zx hr.units) (Snd.b (zM (zb 0 (pv 0)) zc)) (Snd.b zt) (zo _)
 refine zl ?_;refine zq ?_;refine xC hr.hd (by rfl) tx.z_list (by rfl) tx.z_range ?_ ?_
 exact zM (zb 0 (pv 0)) zc
 exact zw (zM (zb 0 (pv 0)) zc) zc
 exact zE
 refine zg ?_ ?_;refine zF ?_ ?_ ?_;exact zy zO (zx hr.units) (Snd.b (zM (zb 0 (pv 0)) zc)) (Snd.b zt) (zo _)
 refine zl ?_;refine zq ?_;refine ZR (Zq ["_law_word_here","_law_heavy"] N_3 (zf s_3) (by rfl) (by rfl) (by decide+kernel) (by rfl) ?_ (λ_ _ _ _ _ _=>u4 (by rfl) (ZT (zK (show List.Nodup (["_law_word_here","_law_heavy"]:List Str) by decide+kernel) (by rfl) (.inl (by rfl)) (.inr (by rfl))) (ZT (zK (show List.Nodup (["_law_word_here","_law_heavy"]:List Str) by decide+kernel) (by rfl) (.inl (by rfl)) (.inr (by rfl))) wn))) (w9 _ 0 1) (wa 0 1) (λY' hy' _ _ _ _ _ _=> ?_) (λY' hy' _ _ _ _ _ _ _ hp' => ?_))
 exact jm (zM (zb 0 (pv 0)) zc)
 exact ZQ
 exact zb 0 (pv 0)
 exact zE
 refine zg ?_ ?_;refine zF ?_ ?_ ?_;exact zy zO (zx hr.units) (Snd.b (zM (zb 0 (pv 0)) zc)) (Snd.b zt) (zo _)
 refine zl ?_;refine zq ?_;refine cZ hy O_e hr tx.C_e ?_;refine za ?_ ?_;refine ZR (Zq ["_law_one"] N_3 (zf s_3) (by rfl) (by rfl) (by decide+kernel) (by rfl) ?_ (λ_ _ _ _ _ _=>zK (show List.Nodup (["_law_one"]:List Str) by decide+kernel) (by rfl) (.inl (by rfl)) (.inr (by rfl))) (zP 0) (zQ 0) (λY' hy' _ _ _ _ _ _=> ?_) (λY' hy' _ _ _ _ _ _ _ hp' => ?_))
 exact jm (zM (zb 0 (pv 0)) zc)
 exact ZQ
 exact cZ (hy'.trans hy) O_3 hr tx.C_3 (za (zb 0 (pv 0)) zi)
 exact zi
 exact zE
 refine zg ?_ ?_;exact W9 (i:=1) z00.nd (by rfl) (.inl (by rfl)) zi
 refine zg ?_ ?_;refine JD PassesOwn.never (by rfl) ?_ ?_ ?_
 refine kG (by rfl) tx.z_range ?_ ?_
 exact zM (zb 0 (pv 0)) zc
 exact zw (zM (zb 0 (pv 0)) zc) zc
 exact jM (i:=2) z00.nd (by rfl) (.inl (by rfl))
 refine zl ?_;refine QD (i:=1) (pv 1) ?_;refine cZ hy O_e hr tx.C_e ?_;refine za ?_ ?_;refine jk ?_ ?_;refine ju ?_;refine za ?_ ?_;exact cZ hy O_3 hr tx.C_3 (za (zM (zb 0 (pv 0)) zc) zi)
 exact zi
 exact zb 2 (pv 2)
 exact zi
 exact zl (zq (zb 1 (pv 1)))
theorem ok_8 {j:Nat} (hj:9<=j) {c_3 c_8:List T->R T} (O_3:Q_3 P w base cl tx 9 c_3) (O_8:Q_8 P w base cl tx j c_8):Q_8 P w base cl tx (j+1) (λts=>zn (b_8 c_3 c_8 (en0 5 ts))):=by
 refine Zl tx.C_8.F vC rfl (λcdv A outer s H E Y hy hr=> ?_) (λts h=>rfl);refine zg ?_ ?_;refine zF ?_ ?_ ?_;refine zy uk (W8 hr.units) ?_ ?_ (by rfl)
 exact Snd.b (zM (zb 0 (pv 0)) zc)
 exact Snd.b (jv (za zt (za zt zi)))
 refine zl ?_;exact zq (Zb (by rfl) tx.z_len (Snd.b (cZ hy O_3 hr tx.C_3 (za (zb 0 (pv 0)) zi))))
 exact zE
 refine zg ?_ ?_;refine zN (i:=1) vC.nd (by rfl) (.inl (by rfl)) ?_
 refine vN ?_ ?_ ?_;exact zy zO (zx hr.units) (Snd.b (zM (zb 0 (pv 0)) zc)) (Snd.b zt) (zo _)
 refine ZR (Zq ["_law_one"] N_8 (zf s_8) (by rfl) (by rfl) (by decide+kernel) (by rfl) ?_ (λ_ _ _ _ _ _=>zK (show List.Nodup (["_law_one"]:List Str) by decide+kernel) (by rfl) (.inl (by rfl)) (.inr (by rfl))) (zP 0) (zQ 0) (λY' hy' _ _ _ _ _ _=> ?_) (λY' hy' _ _ _ _ _ _ _ hp' => ?_))
 exact jm (zM (zb 0 (pv 0)) zc)
 exact ZQ
 exact cZ (hy'.trans hy) O_8 hr tx.C_8 (za (zb 0 (pv 0)) zi)
 exact ju zi
 refine zg ?_ ?_;exact zN (i:=2) vC.nd (by rfl) (.inl (by rfl)) zc
 refine zg ?_ ?_;refine JD PassesOwn.never (by rfl) ?_ ?_ ?_
 exact jm (zb 1 (pv 1))
 exact jM (i:=3) vC.nd (by rfl) (.inl (by rfl))
 exact zl (zN (i:=2) vC.nd (by rfl) (.inl (by rfl)) (jk (zb 2 (pv 2)) (zb 3 (pv 3))))
 refine zg ?_ ?_;refine zF ?_ ?_ ?_;exact zy zO (zx hr.units) (Snd.b (zM (zb 0 (pv 0)) zc)) (Snd.b zt) (zo _)
 refine zg ?_ ?_;exact zN (i:=4) vC.nd (by rfl) (.inl (by rfl)) (cZ hy O_8 hr tx.C_8 (za (zM (zb 0 (pv 0)) zc) zi))
 refine zg ?_ ?_;refine zN (i:=2) vC.nd (by rfl) (.inl (by rfl)) ?_
 refine zw ?_ ?_;refine UM (by rfl) tx.z_int ?_
 exact Jn zO (zx hr.units) (Snd.b (zM (zb 0 (pv 0)) zc)) (Snd.b zc) (zo _)
 refine jk ?_ ?_;exact zb 4 (pv 4)
 refine UM (by rfl) tx.z_int ?_
 refine jK ZE ZE zU zU ?_ ?_ ?_;exact Snd.b (zM (zb 0 (pv 0)) zc)
 exact Snd.b zc
 exact Snd.b (zM (zb 0 (pv 0)) zc)
 refine zg ?_ ?_;refine zN (i:=2) vC.nd (by rfl) (.inl (by rfl)) ?_
 refine zw ?_ ?_;exact zb 2 (pv 2)
 refine jk ?_ ?_;exact jk (zb 4 (pv 4)) (zb 4 (pv 4))
 refine UM (by rfl) tx.z_int ?_
 refine jK ZE ZE zU zU ?_ ?_ ?_;exact Snd.b (zM (zb 0 (pv 0)) zc)
 exact Snd.b zc
 exact Snd.b (zM (zb 0 (pv 0)) zc)
 refine zl ?_;refine zN (i:=2) vC.nd (by rfl) (.inl (by rfl)) ?_
 refine zw ?_ ?_;exact zb 2 (pv 2)
 refine jk ?_ ?_;exact jk (jk (zb 4 (pv 4)) (zb 4 (pv 4))) (zb 4 (pv 4))
 refine UM (by rfl) tx.z_int ?_
 exact Jn zO (zx hr.units) (Snd.b (zM (zb 0 (pv 0)) zc)) (Snd.b zc) (zo _)
 exact zE
 exact zl (zq (zb 2 (pv 2)))
theorem ok_s {c_f c_8:List T->R T} (O_f:Q_f P w base cl tx 12 c_f) (O_8:Q_8 P w base cl tx 17 c_8):Q_s P w base cl tx 18 (λts=>zn (b_s c_f c_8 (en0 5 ts))):=by
 refine Zl tx.C_s.F gF rfl (λcdv A outer s H E Y hy hr=> ?_) (λts h=>rfl);refine zg ?_ ?_;refine zN (i:=3) gF.nd (by rfl) (.inl (by rfl)) ?_
 refine cZ hy O_f hr tx.C_f ?_;exact za (zb 0 (pv 0)) (za (zb 1 (pv 1)) (za zc zi))
 refine zg ?_ ?_;refine JD PassesOwn.never (by rfl) ?_ ?_ ?_
 exact Jp (by rfl) tx.z_range zc
 exact jM (i:=4) gF.nd (by rfl) (.inl (by rfl))
 refine zg ?_ ?_;refine zF ?_ ?_ ?_;exact zy ZE zU (Snd.b (cZ hy O_8 hr tx.C_8 (za (zb 3 (pv 3)) zi))) (zj 2 (pv 2)) (zo _)
 exact zl (zq (zb 3 (pv 3)))
 exact zE
 refine zl ?_;refine zN (i:=3) gF.nd (by rfl) (.inl (by rfl)) ?_
 refine cZ hy O_f hr tx.C_f ?_;refine za ?_ ?_;exact zb 0 (pv 0)
 refine za ?_ ?_;exact zw (zw (zb 1 (pv 1)) zc) (jk zc (zb 4 (pv 4)))
 exact za zc zi
 refine zl ?_;refine zq ?_;refine vN ?_ ?_ ?_;exact zy ZE zU (Snd.b (cZ hy O_8 hr tx.C_8 (za (zb 3 (pv 3)) zi))) (zj 2 (pv 2)) (zo _)
 exact zb 3 (pv 3)
 refine jv ?_;refine za ?_ ?_;exact zt
 exact za (yw zc) (za zc zi)
theorem ok_l {j:Nat} (hj:0<=j) {c_l:List T->R T} (O_l:Q_l P w base cl tx j c_l):Q_l P w base cl tx (j+1) (λts=>zn (b_l c_l (en0 3 ts))):=by
 refine Zl tx.C_l.F z01 rfl (λcdv A outer s H E Y hy hr=> ?_) (λts h=>rfl);refine zg ?_ ?_;exact W9 (i:=1) z01.nd (by rfl) (.inl (by rfl)) (za (jv zi) zi)
 refine zg ?_ ?_;refine zF ?_ ?_ ?_;exact ZV (Snd.b (jw (n:="tuple") (Zz _) (by rfl) tx.z_isinstance (by rfl) tx.z_tuple PyProof.Rows.Boot.«tuple» (zj 0 (pv 0))))
 refine zl ?_;refine JD PassesOwn.never (by rfl) ?_ ?_ ?_
 exact Jp (by rfl) tx.z_range (Zb (by rfl) tx.z_len (zj 0 (pv 0)))
 exact jM (i:=2) z01.nd (by rfl) (.inr (by rfl))
 refine zl ?_;refine QD (i:=1) (pv 1) ?_;refine ZR (Zq ["_law_place","_law_k"] N_l (zf s_l) (by rfl) (by rfl) (by decide+kernel) (by rfl) ?_ (λ_ _ _ _ _ _=>zK (show List.Nodup (["_law_place","_law_k"]:List Str) by decide+kernel) (by rfl) (.inl (by rfl)) (.inr (by rfl))) (zP 0) (zQ 0) (λY' hy' _ _ _ _ _ _=> ?_) (λY' hy' _ _ _ _ _ _ _ hp' => ?_))
 exact jm (cZ hy O_l hr tx.C_l (za (zM (zb 0 (pv 0)) (zb 2 (pv 2))) zi))
 exact ZQ
 exact zw (jv (za (zb 1 (pv 1)) zi)) (zb 0 (pv 0))
 exact zE
 exact zl (zq (zb 1 (pv 1)))
theorem z0p:z0f P w base cl tx 1 (λts=>zn (gr  (en0 3 ts))):=by
 refine Zl tx.C_14.F Xs rfl (λcdv A outer s H E Y hy hr=> ?_) (λts h=>rfl);refine zg ?_ ?_;refine JD PassesOwn.never (by rfl) ?_ ?_ ?_
 exact jm (zb 1 (pv 1))
 exact jM (i:=2) Xs.nd (by rfl) (.inl (by rfl))
 exact zl (zN (i:=0) Xs.nd (by rfl) (.inl (by rfl)) (zM (zb 0 (pv 0)) (zb 2 (pv 2))))
 exact zl (zq (zb 0 (pv 0)))
theorem ok_9 {j:Nat} (hj:0<=j) {c_9:List T->R T} (O_9:Q_9 P w base cl tx j c_9):Q_9 P w base cl tx (j+1) (λts=>zn (b_9 c_9 (en0 4 ts))):=by
 refine Zl tx.C_9.F sc_9 rfl (λcdv A outer s H E Y hy hr=> ?_) (λts h=>rfl);refine zg ?_ ?_;refine zF ?_ ?_ ?_;exact zy zO (zx hr.units) (zj 1 (pv 1)) (Snd.b (jv zi)) (zo _)
 exact zl (zq (zb 2 (pv 2)))
 exact zE
 refine zg ?_ ?_;exact zN (i:=3) sc_9.nd (by rfl) (.inl (by rfl)) (zM (zb 1 (pv 1)) zc)
 refine zl ?_;refine zq ?_;refine zw ?_ ?_;refine zw ?_ ?_;exact j6 (zb 0 (pv 0)) Zp (Z4 (zb 3 (pv 3)))
 refine jv ?_;refine za ?_ ?_;refine cZ hy O_9 hr tx.C_9 ?_;refine za ?_ ?_;exact zM (zb 0 (pv 0)) (zb 3 (pv 3))
 refine za ?_ ?_;exact j6 (zb 1 (pv 1)) (Z4 zc) Zp
 exact za (zb 2 (pv 2)) zi
 exact zi
 exact j6 (zb 0 (pv 0)) (Z4 (zw (zb 3 (pv 3)) zc)) Zp
theorem ok_r {c_2 c_l c_14 c_9:List T->R T} (O_2:Q_2 P w base cl tx 2 c_2) (O_l:Q_l P w base cl tx 40 c_l) (O_14:z0f P w base cl tx 1 c_14) (O_9:Q_9 P w base cl tx 40 c_9):Q_r P w base cl tx 41 (λts=>zn (b_r c_2 c_l c_14 c_9 (en0 9 ts))):=by
 refine Zl tx.C_r.F Xt rfl (λcdv A outer s H E Y hy hr=> ?_) (λts h=>rfl);refine zg ?_ ?_;exact zN (i:=3) Xt.nd (by rfl) (.inl (by rfl)) (cZ hy O_l hr tx.C_l (za (zb 2 (pv 2)) zi))
 refine zg ?_ ?_;refine zN (i:=4) Xt.nd (by rfl) (.inl (by rfl)) ?_
 refine zM ?_ ?_;exact zb 3 (pv 3)
 refine cZ hy O_2 hr tx.C_2 ?_;refine za ?_ ?_;exact zb 0 (pv 0)
 exact za (zb 1 (pv 1)) (za (Zb (by rfl) tx.z_len (zj 3 (pv 3))) zi)
 refine zg ?_ ?_;exact zN (i:=5) Xt.nd (by rfl) (.inl (by rfl)) (cZ hy O_14 hr tx.C_14 (za (zb 2 (pv 2)) (za (zb 4 (pv 4)) zi)))
 refine zg ?_ ?_;refine zN (i:=6) Xt.nd (by rfl) (.inl (by rfl)) ?_
 refine ju ?_;refine za ?_ ?_;exact zc
 refine za ?_ ?_;exact zc
 refine za ?_ ?_;exact yw zc
 refine za ?_ ?_;exact zc
 refine za ?_ ?_;exact zc
 refine za ?_ ?_;exact zc
 refine za ?_ ?_;exact uT
 refine za ?_ ?_;exact VJ
 refine za ?_ ?_;exact zt
 refine za ?_ ?_;exact zt
 refine za ?_ ?_;exact zt
 refine za ?_ ?_;exact zt
 refine za ?_ ?_;exact zt
 refine za ?_ ?_;exact zt
 refine za ?_ ?_;exact jv zi
 refine za ?_ ?_;exact jv (za (zb 5 (pv 5)) zi)
 refine za ?_ ?_;exact ju (za (zb 5 (pv 5)) zi)
 refine za ?_ ?_;refine jv ?_;exact za zt (za zc (za zc zi))
 exact zi
 refine zg ?_ ?_;refine zN (i:=7) Xt.nd (by rfl) (.inl (by rfl)) ?_
 refine cZ hy O_2 hr tx.C_2 ?_;refine za ?_ ?_;exact zb 0 (pv 0)
 refine za ?_ ?_;exact zw (zb 1 (pv 1)) zc
 exact za (zw (Zb (by rfl) tx.z_len (zj 6 (pv 6))) zc) zi
 refine zg ?_ ?_;refine zF ?_ ?_ ?_;exact zy uj JP (zj 7 (pv 7)) (Snd.b (Zb (by rfl) tx.z_len (zj 6 (pv 6)))) (zo _)
 refine zl ?_;refine zq ?_;refine cZ hy O_9 hr tx.C_9 ?_;refine za ?_ ?_;exact zb 2 (pv 2)
 exact za (zb 4 (pv 4)) (za (zM (zb 6 (pv 6)) (zb 7 (pv 7))) zi)
 exact zE
 refine zg ?_ ?_;refine zF ?_ ?_ ?_;refine JQ.t ?_;refine Yu ?_ ?_;exact ZV (Snd.b (jw (n:="tuple") (Zz _) (by rfl) tx.z_isinstance (by rfl) tx.z_tuple PyProof.Rows.Boot.«tuple» (zj 5 (pv 5))))
 exact ul (zy Jo (jd hr.units) (zj 5 (pv 5)) (Snd.b (jv zi)) (zo _))
 refine zg ?_ ?_;refine zN (i:=8) Xt.nd (by rfl) (.inl (by rfl)) ?_
 refine cZ hy O_2 hr tx.C_2 ?_;refine za ?_ ?_;exact zb 0 (pv 0)
 refine za ?_ ?_;exact zw (zb 1 (pv 1)) zc
 exact za (Zb (by rfl) tx.z_len (zj 5 (pv 5))) zi
 refine zl ?_;refine zq ?_;refine cZ hy O_9 hr tx.C_9 ?_;refine za ?_ ?_;exact zb 2 (pv 2)
 refine za ?_ ?_;exact zb 4 (pv 4)
 refine za ?_ ?_;refine zM ?_ ?_;refine ju ?_;refine za ?_ ?_;refine zw ?_ ?_;exact j6 (zb 5 (pv 5)) Zp (Z4 (zb 8 (pv 8)))
 exact j6 (zb 5 (pv 5)) (Z4 (zw (zb 8 (pv 8)) zc)) Zp
 refine za ?_ ?_;refine zw ?_ ?_;refine zw ?_ ?_;exact j6 (zb 5 (pv 5)) Zp (Z4 (zb 8 (pv 8)))
 refine j6 ?_ ?_ ?_;exact zb 5 (pv 5)
 exact Z4 (zb 8 (pv 8))
 exact Z4 (zw (zb 8 (pv 8)) zc)
 exact j6 (zb 5 (pv 5)) (Z4 (zb 8 (pv 8))) Zp
 exact zi
 exact ww (zb 7 (pv 7)) zc
 exact zi
 exact zE
 refine zg ?_ ?_;refine zF ?_ ?_ ?_;exact ZV (Snd.b (jw (n:="int") (U3 _) (by rfl) tx.z_isinstance (by rfl) tx.z_int PyProof.Rows.Boot.«int» (zj 5 (pv 5))))
 refine zl ?_;refine zq ?_;refine cZ hy O_9 hr tx.C_9 ?_;refine za ?_ ?_;exact zb 2 (pv 2)
 refine za ?_ ?_;exact zb 4 (pv 4)
 refine za ?_ ?_;refine wW ?_ ?_;exact zw (zb 5 (pv 5)) zc
 exact jk zc (ww (zb 7 (pv 7)) zc)
 exact zi
 exact zE
 refine zl ?_;refine zq ?_;refine cZ hy O_9 hr tx.C_9 ?_;refine za ?_ ?_;exact zb 2 (pv 2)
 refine za ?_ ?_;exact zb 4 (pv 4)
 refine za ?_ ?_;refine jv ?_;refine za ?_ ?_;exact zt
 refine za ?_ ?_;exact jv (za (zb 5 (pv 5)) (za (zb 5 (pv 5)) zi))
 exact zi
 exact zi
theorem ok_i {j:Nat} (hj:0<=j) {c_i:List T->R T} (O_i:Q_i P w base cl tx j c_i):Q_i P w base cl tx (j+1) (λts=>zn (b_i c_i (en0 4 ts))):=by
 refine Zl tx.C_i.F gG rfl (λcdv A outer s H E Y hy hr=> ?_) (λts h=>rfl);refine zg ?_ ?_;refine zF ?_ ?_ ?_;exact j5 (ZV (Snd.b (jw (n:="tuple") (Zz _) (by rfl) tx.z_isinstance (by rfl) tx.z_tuple PyProof.Rows.Boot.«tuple» (zj 0 (pv 0)))))
 exact zl (zq (V1 (by rfl) tx.z_str (zb 0 (pv 0))))
 exact zE
 refine zg ?_ ?_;exact zN (i:=1) gG.nd (by rfl) (.inl (by rfl)) zt
 refine zg ?_ ?_;refine JD PassesOwn.never (by rfl) ?_ ?_ ?_
 exact xE (by rfl) tx.z_enumerate (zb 0 (pv 0))
 exact vW (i:=2) (j:=3) (by rfl) gG.nd (by rfl) (by rfl) (.inl (by rfl)) (.inl (by rfl))
 refine zl ?_;refine zN (i:=1) gG.nd (by rfl) (.inl (by rfl)) ?_
 refine zw ?_ ?_;refine zw ?_ ?_;exact zb 1 (pv 1)
 exact vN (zy VT Yp (zj 2 (pv 2)) (Snd.b zc) (zo _)) zt zt
 exact cZ hy O_i hr tx.C_i (za (zb 3 (pv 3)) zi)
 exact zl (zq (zw (zb 1 (pv 1)) zt))
theorem ok_5:Q_5 P w base cl tx 1 (λts=>zn (b_5  (en0 7 ts))):=by
 refine Zl tx.C_5.F KY rfl (λcdv A outer s H E Y hy hr=> ?_) (λts h=>rfl);refine zg ?_ ?_;exact zN (i:=3) KY.nd (by rfl) (.inl (by rfl)) (ww (zb 1 (pv 1)) (zw (Zb (by rfl) tx.z_len (zj 0 (pv 0))) zc))
 refine zg ?_ ?_;refine zN (i:=4) KY.nd (by rfl) (.inl (by rfl)) ?_
 refine zM ?_ ?_;exact zb 2 (pv 2)
 exact ww (UB (zb 1 (pv 1)) zc) (Zb (by rfl) tx.z_len (zj 2 (pv 2)))
 refine zg ?_ ?_;refine zN (i:=5) KY.nd (by rfl) (.inl (by rfl)) ?_
 refine zw ?_ ?_;exact zw (zb 3 (pv 3)) zc
 exact ww (UB (zb 1 (pv 1)) zc) zc
 refine zg ?_ ?_;exact zN (i:=6) KY.nd (by rfl) (.inl (by rfl)) (ww (UB (zb 1 (pv 1)) zc) zc)
 refine zg ?_ ?_;refine zF ?_ ?_ ?_;exact zy uj JP (zj 6 (pv 6)) (Snd.b zc) (zo _)
 refine zl ?_;refine zq ?_;refine zw ?_ ?_;exact zw (J9 (zb 0 (pv 0)) Zp (Z4 (zb 3 (pv 3)))) (zb 4 (pv 4))
 exact J9 (zb 0 (pv 0)) (Z4 (zb 3 (pv 3))) Zp
 exact zE
 refine zg ?_ ?_;refine zF ?_ ?_ ?_;exact zy zO (zx hr.units) (zj 6 (pv 6)) (Snd.b zc) (zo _)
 refine zl ?_;refine zq ?_;refine zw ?_ ?_;exact J9 (zb 0 (pv 0)) Zp (Z4 (zb 3 (pv 3)))
 exact J9 (zb 0 (pv 0)) (Z4 (zw (zb 3 (pv 3)) zc)) Zp
 exact zE
 refine zg ?_ ?_;refine zF ?_ ?_ ?_;exact zy uj JP (zj 6 (pv 6)) (Snd.b zc) (zo _)
 refine zl ?_;refine zq ?_;refine zw ?_ ?_;exact zw (J9 (zb 0 (pv 0)) Zp (Z4 (zb 3 (pv 3)))) (zb 4 (pv 4))
 exact J9 (zb 0 (pv 0)) (Z4 (zw (zb 3 (pv 3)) zc)) Zp
 exact zE
 refine zg ?_ ?_;refine zF ?_ ?_ ?_;exact zy zO (zx hr.units) (zj 6 (pv 6)) (Snd.b zc) (zo _)
 refine zl ?_;refine zq ?_;refine zw ?_ ?_;exact J9 (zb 0 (pv 0)) Zp (Z4 (zb 3 (pv 3)))
 exact J9 (zb 0 (pv 0)) (Z4 (zb 5 (pv 5))) Zp
 exact zE
 refine zg ?_ ?_;refine zF ?_ ?_ ?_;exact zy zO (zx hr.units) (zj 6 (pv 6)) (Snd.b zc) (zo _)
 refine zl ?_;refine zq ?_;refine zw ?_ ?_;exact J9 (zb 0 (pv 0)) Zp (Z4 (zb 5 (pv 5)))
 exact J9 (zb 0 (pv 0)) (Z4 (zb 3 (pv 3))) Zp
 exact zE
 refine zl ?_;refine zq ?_;refine zM ?_ ?_;refine ju ?_;refine za ?_ ?_;exact zw (zb 0 (pv 0)) zt
 refine za ?_ ?_;exact zw zt (zb 0 (pv 0))
 refine za ?_ ?_;refine zw ?_ ?_;exact J9 (zb 0 (pv 0)) (Z4 (zb 3 (pv 3))) Zp
 exact J9 (zb 0 (pv 0)) Zp (Z4 (zb 3 (pv 3)))
 exact za zt (za (zw (zb 0 (pv 0)) (zb 0 (pv 0))) zi)
 exact ww (zb 1 (pv 1)) zc
theorem ok_7 (xq:Tq K mg base cl):Q_7 P w base cl tx 1 (λc=>zn (b_7  (enC 2 c))):=by
 refine kP tx.C_7.F sc_7 (by decide) (λcdv A outer s H E Y hy hr=> ?_) (λc=>rfl)
 refine zg ?_ ?_;refine W9 (i:=1) sc_7.nd (by rfl) (.inl (by rfl)) ?_
 refine za ?_ ?_;exact JE (hy ▸ xq.X_k) (hy ▸ xq.t_Ended) (by rfl) tx.z_isinstance (pv 0) (by rfl) xq.m_Ended
 exact za (JE (hy ▸ xq.X_k) (hy ▸ xq.t_NoKind) (by rfl) tx.z_isinstance (pv 0) (by rfl) xq.m_NoKind) (za (JE (hy ▸ xq.X_k) (hy ▸ xq.t_NoRule) (by rfl) tx.z_isinstance (pv 0) (by rfl) xq.m_NoRule) (za (JE (hy ▸ xq.X_k) (hy ▸ xq.t_NoText) (by rfl) tx.z_isinstance (pv 0) (by rfl) xq.m_NoText) zi))
 refine zg ?_ ?_;exact QD (i:=1) (pv 1) (ju (za (JE (hy ▸ xq.X_k) (hy ▸ xq.t_NoWorth) (by rfl) tx.z_isinstance (pv 0) (by rfl) xq.m_NoWorth) (za (JE (hy ▸ xq.X_k) (hy ▸ xq.t_TooMany) (by rfl) tx.z_isinstance (pv 0) (by rfl) xq.m_TooMany) zi)))
 refine zg ?_ ?_;refine zF ?_ ?_ ?_;refine JQ.t ?_;refine WU ?_ ?_;refine zy Jo (jd hr.units) ?_ ?_ (zo _);exact Snd.b (xD hr.units (zj 1 (pv 1)) (Snd.b uT))
 exact Snd.b zc
 exact wA (j5 (ZV (Snd.b (xp (n:="ValueError") (hy ▸ xq.X_k) (hy ▸ xq.t_ValueError) (by rfl) tx.z_isinstance (pv 0) (by rfl) tx.z_ValueError PyProof.Rows.Boot.«ValueError»))))
 exact zl (zq zt)
 exact zE
 refine zl ?_;refine zq ?_;refine zM ?_ ?_;refine ju ?_;refine za ?_ ?_;exact zt
 refine za ?_ ?_;exact zt
 refine za ?_ ?_;exact zt
 exact za zt (za zt (za zt zi))
 exact Wx hr.units (zj 1 (pv 1)) (Snd.b uT)
theorem ok_k:Q_k P w base cl tx 1 (λts=>zn (b_k  (en0 1 ts))):=by
 refine Zl tx.C_k.F sc_k rfl (λcdv A outer s H E Y hy hr=> ?_) (λts h=>rfl);refine zl ?_;refine zq ?_;exact j4 (jw (n:="int") (U3 _) (by rfl) tx.z_isinstance (by rfl) tx.z_int PyProof.Rows.Boot.«int» (zj 0 (pv 0))) (jL (kB (jw (n:="bool") (UC _) (by rfl) tx.z_isinstance (by rfl) tx.z_bool PyProof.Rows.Boot.«bool» (zj 0 (pv 0)))))
theorem z0q {c_k:List T->R T} (O_k:Q_k P w base cl tx 1 c_k):z0g P w base cl tx 2 (λts=>zn (b_18 c_k (en0 4 ts))):=by
 refine Zl tx.C_18.F z02 rfl (λcdv A outer s H E Y hy hr=> ?_) (λts h=>rfl);refine zl ?_;refine zq ?_;refine j4 ?_ ?_;exact cZ hy O_k hr tx.C_k (za (zb 0 (pv 0)) zi)
 refine j4 ?_ ?_;exact cZ hy O_k hr tx.C_k (za (zb 1 (pv 1)) zi)
 exact jL (Qz ZE ZE ZE zU zU zU (zj 2 (pv 2)) (zj 0 (pv 0)) (zj 1 (pv 1)) (zj 3 (pv 3)))
theorem ok_b:Q_b P w base cl tx 1 (λts=>zn (b_b  (en0 3 ts))):=by
 refine Zl tx.C_b.F sc_b rfl (λcdv A outer s H E Y hy hr=> ?_) (λts h=>rfl);refine zl ?_;refine zq ?_;refine j4 ?_ ?_;exact jw (n:="tuple") (Zz _) (by rfl) tx.z_isinstance (by rfl) tx.z_tuple PyProof.Rows.Boot.«tuple» (zj 0 (pv 0))
 exact jL (jK ZE ZE zU zU (zj 1 (pv 1)) (Snd.b (Zb (by rfl) tx.z_len (zj 0 (pv 0)))) (zj 2 (pv 2)))
theorem ok_6:Q_6 P w base cl tx 1 (λts=>zn (b_6  (en0 1 ts))):=by
 refine Zl tx.C_6.F sc_6 rfl (λcdv A outer s H E Y hy hr=> ?_) (λts h=>rfl);refine zg ?_ ?_;refine zF ?_ ?_ ?_;refine JQ.t ?_;refine WU ?_ ?_;exact j5 (ZV (Snd.b (jw (n:="str") (Wq _) (by rfl) tx.z_isinstance (by rfl) tx.z_str PyProof.Rows.Boot.«str» (zj 0 (pv 0)))))
 refine wA ?_;refine j5 ?_;refine wy ZE ZE zU zU ?_ ?_ ?_;exact Snd.b zc
 exact Snd.b (Zb (by rfl) tx.z_len (zj 0 (pv 0)))
 exact Snd.b zc
 exact zl (zq uT)
 exact zE
 refine zl ?_;refine zq ?_;refine QB hr.hd (by rfl) tx.z_all ?_
 refine Snd.b ?_;refine ZR (Zq ["sign"] N_6 (zf s_6) (by rfl) (by rfl) (by decide+kernel) (by rfl) ?_ (λ_ _ _ _ _ _=>zK (show List.Nodup (["sign"]:List Str) by decide+kernel) (by rfl) (.inl (by rfl)) (.inr (by rfl))) (zP 0) (zQ 0) (λY' hy' _ _ _ _ _ _=> ?_) (λY' hy' _ _ _ _ _ _ _ hp' => ?_))
 exact jm (zb 0 (pv 0))
 exact ZQ
 exact jK ZE ZE zU zU (Snd.b zt) (zj 0 (pv 0)) (Snd.b zt)
theorem z0r {c_k c_b c_6:List T->R T} (O_k:Q_k P w base cl tx 1 c_k) (O_b:Q_b P w base cl tx 1 c_b) (O_6:Q_6 P w base cl tx 1 c_6):z0h P w base cl tx 2 (λts=>zn (gu c_k c_b c_6 (en0 1 ts))):=by
 refine Zl tx.C_16.F z03 rfl (λcdv A outer s H E Y hy hr=> ?_) (λts h=>rfl);refine zl ?_;refine zq ?_;refine j4 ?_ ?_;refine cZ hy O_b hr tx.C_b ?_;exact za (zb 0 (pv 0)) (za zc (za zc zi))
 refine j4 ?_ ?_;exact cZ hy O_6 hr tx.C_6 (za (zM (zb 0 (pv 0)) zc) zi)
 refine j4 ?_ ?_;exact cZ hy O_k hr tx.C_k (za (zM (zb 0 (pv 0)) zc) zi)
 refine jL ?_;refine jK ZE ZE zU zU ?_ ?_ ?_;exact Snd.b zc
 exact Snd.b (zM (zb 0 (pv 0)) zc)
 exact Snd.b zc
theorem ok_y {c_b c_16:List T->R T} (O_b:Q_b P w base cl tx 1 c_b) (O_16:z0h P w base cl tx 2 c_16):Q_y P w base cl tx 3 (λts=>zn (b_y c_b c_16 (en0 2 ts))):=by
 refine Zl tx.C_y.F sc_y rfl (λcdv A outer s H E Y hy hr=> ?_) (λts h=>rfl);refine zg ?_ ?_;refine zF ?_ ?_ ?_;refine JQ.t ?_;refine WU ?_ ?_;refine j5 ?_;refine ZV ?_;refine Snd.b ?_;refine cZ hy O_b hr tx.C_b ?_;exact za (zb 0 (pv 0)) (za zc (za zc zi))
 refine wA ?_;refine j5 ?_;refine ZV ?_;refine Snd.b ?_;refine QB hr.hd (by rfl) tx.z_all ?_
 refine Snd.b ?_;refine ZR (Zq ["part"] N_y (zf s_y) (by rfl) (by rfl) (by decide+kernel) (by rfl) ?_ (λ_ _ _ _ _ _=>zK (show List.Nodup (["part"]:List Str) by decide+kernel) (by rfl) (.inl (by rfl)) (.inr (by rfl))) (zP 0) (zQ 0) (λY' hy' _ _ _ _ _ _=> ?_) (λY' hy' _ _ _ _ _ _ _ hp' => ?_))
 exact jm (zb 0 (pv 0))
 exact ZQ
 exact cZ (hy'.trans hy) O_16 hr tx.C_16 (za (zb 0 (pv 0)) zi)
 exact zl (zq uT)
 exact zE
 refine zg ?_ ?_;refine UI (i:=1) (Zq ["choice"] N_y (zf s_y) (by rfl) (by rfl) (by decide+kernel) (by rfl) ?_ (λ_ _ _ _ _ _=>zK (show List.Nodup (["choice"]:List Str) by decide+kernel) (by rfl) (.inl (by rfl)) (.inr (by rfl))) (zP 0) (zQ 0) (λY' hy' _ _ _ _ _ _=> ?_) (λY' hy' _ _ _ _ _ _ _ hp' => ?_)) sc_y.nd (by rfl) (.inl (by rfl)) (by rfl)
 exact jm (zb 0 (pv 0))
 exact ZQ
 exact zM (zb 0 (pv 0)) zc
 refine zl ?_;refine zq ?_;exact Jn zO (zx hr.units) (Snd.b (kJ hr.hd (by rfl) tx.z_len (by rfl) tx.z_set (zj 1 (pv 1)))) (Snd.b (Zb (by rfl) tx.z_len (zj 1 (pv 1)))) (zo _)
theorem ok_c {j:Nat} (hj:3<=j) {c_18 c_c c_y c_19:List T->R T} (O_18:z0g P w base cl tx 2 c_18) (O_c:Q_c P w base cl tx j c_c) (O_y:Q_y P w base cl tx 3 c_y) (O_19:gI P w base cl tx j c_19):Q_c P w base cl tx (j+1) (λts=>zn (b_c c_18 c_c c_y c_19 (en0 2 ts))):=by
 refine Zl tx.C_c.F sc_c rfl (λcdv A outer s H E Y hy hr=> ?_) (λts h=>rfl);refine zg ?_ ?_;refine zF ?_ ?_ ?_;refine JQ.t ?_;refine WU ?_ ?_;exact zy zO (zx hr.units) (zj 1 (pv 1)) (Snd.b zc) (zo _)
 refine WU ?_ ?_;exact j5 (ZV (Snd.b (jw (n:="tuple") (Zz _) (by rfl) tx.z_isinstance (by rfl) tx.z_tuple PyProof.Rows.Boot.«tuple» (zj 0 (pv 0)))))
 exact wA (zy zO (zx hr.units) (Snd.b (Zb (by rfl) tx.z_len (zj 0 (pv 0)))) (Snd.b zc) (zo _))
 exact zl (zq uT)
 exact zE
 refine zg ?_ ?_;refine zF ?_ ?_ ?_;exact zy zO (zx hr.units) (Snd.b (zM (zb 0 (pv 0)) zc)) (Snd.b zt) (zo _)
 refine zl ?_;refine zq ?_;refine j4 ?_ ?_;exact Jn zO (zx hr.units) (Snd.b (Zb (by rfl) tx.z_len (zj 0 (pv 0)))) (Snd.b zc) (zo _)
 refine jL ?_;refine cZ hy O_18 hr tx.C_18 ?_;refine za ?_ ?_;exact zM (zb 0 (pv 0)) zc
 refine za ?_ ?_;exact zM (zb 0 (pv 0)) zc
 exact za (yw zc) (za zc zi)
 exact zE
 refine zg ?_ ?_;refine zF ?_ ?_ ?_;exact zy zO (zx hr.units) (Snd.b (zM (zb 0 (pv 0)) zc)) (Snd.b zt) (zo _)
 refine zl ?_;refine zq ?_;refine j4 ?_ ?_;exact Jn zO (zx hr.units) (Snd.b (Zb (by rfl) tx.z_len (zj 0 (pv 0)))) (Snd.b zc) (zo _)
 exact jL (cZ hy O_y hr tx.C_y (za (zM (zb 0 (pv 0)) zc) zi))
 exact zE
 refine zg ?_ ?_;refine zF ?_ ?_ ?_;exact zy zO (zx hr.units) (Snd.b (zM (zb 0 (pv 0)) zc)) (Snd.b zt) (zo _)
 refine zl ?_;refine zq ?_;refine j4 ?_ ?_;exact Jn zO (zx hr.units) (Snd.b (Zb (by rfl) tx.z_len (zj 0 (pv 0)))) (Snd.b zc) (zo _)
 refine jL ?_;refine cZ hy O_19 hr tx.C_19 ?_;refine za ?_ ?_;exact zM (zb 0 (pv 0)) zc
 exact za (wW (zb 1 (pv 1)) zc) zi
 exact zE
 refine zg ?_ ?_;refine zF ?_ ?_ ?_;exact zy zO (zx hr.units) (Snd.b (zM (zb 0 (pv 0)) zc)) (Snd.b zt) (zo _)
 refine zl ?_;refine zq ?_;refine j4 ?_ ?_;exact Jn zO (zx hr.units) (Snd.b (Zb (by rfl) tx.z_len (zj 0 (pv 0)))) (Snd.b zc) (zo _)
 refine j4 ?_ ?_;refine cZ hy O_18 hr tx.C_18 ?_;refine za ?_ ?_;exact zM (zb 0 (pv 0)) zc
 refine za ?_ ?_;exact zM (zb 0 (pv 0)) zc
 exact za zc (za zc zi)
 refine jL ?_;refine cZ hy O_c hr tx.C_c ?_;refine za ?_ ?_;exact zM (zb 0 (pv 0)) zc
 exact za (wW (zb 1 (pv 1)) zc) zi
 exact zE
 exact zl (zq uT)
theorem z0s {j:Nat} (hj:3<=j) {c_b c_c:List T->R T} (O_b:Q_b P w base cl tx 1 c_b) (O_c:Q_c P w base cl tx j c_c):gI P w base cl tx (j+1) (λts=>zn (gv c_b c_c (en0 2 ts))):=by
 refine Zl tx.C_19.F z05 rfl (λcdv A outer s H E Y hy hr=> ?_) (λts h=>rfl);refine zl ?_;refine zq ?_;refine j4 ?_ ?_;refine cZ hy O_b hr tx.C_b ?_;exact za (zb 0 (pv 0)) (za zc (za zc zi))
 refine jL ?_;refine QB hr.hd (by rfl) tx.z_all ?_
 refine Snd.b ?_;refine ZR (Zq ["part","levels"] N_19 (zf z04) (by rfl) (by rfl) (by decide+kernel) (by rfl) ?_ (λ_ _ _ _ _ _=>zK (show List.Nodup (["part","levels"]:List Str) by decide+kernel) (by rfl) (.inl (by rfl)) (.inr (by rfl))) (zP 0) (zQ 0) (λY' hy' _ _ _ _ _ _=> ?_) (λY' hy' _ _ _ _ _ _ _ hp' => ?_))
 exact jm (zb 0 (pv 0))
 exact ZQ
 exact cZ (hy'.trans hy) O_c hr tx.C_c (za (zb 0 (pv 0)) (za (zb 1 (pv 1)) zi))
theorem ok_1 {c_c:List T->R T} (O_c:Q_c P w base cl tx 23 c_c):Q_1 P w base cl tx 24 (λts=>zn (b_1 c_c (en0 1 ts))):=by
 obtain ⟨u_DEEPEST,c_DEEPEST⟩:=tx.c_DEEPEST;refine Zl tx.C_1.F sc_1 rfl (λcdv A outer s H E Y hy hr=> ?_) (λts h=>rfl);refine zl ?_;exact zq (cZ hy O_c hr tx.C_c (za (zb 0 (pv 0)) (za (xj (by rfl) c_DEEPEST.1 c_DEEPEST.2) zi)))
theorem ok_n {c_1:List T->R T} (xq:Tq K mg base cl) (O_1:Q_1 P w base cl tx 24 c_1):Q_n P w base cl tx 25 (λts=>zn (b_n c_1 (en0 1 ts))):=by
 refine jB tx.C_n.F sc_n rfl (λcdv A outer s H E Y hy hE hr=> ?_) (λts h=>rfl);refine zl ?_;refine zF ?_ ?_ ?_;exact j5 (ZV (Snd.b (cZ hy O_1 hr tx.C_1 (za (zb 0 (pv 0)) zi))))
 exact zl (J8 (c:=0) xq.o_NoKind PySem.F.excBase_ValueError (by decide) PySem.F.excBase_ValueError hE (by rw [hy]; exact xq.l_NoKind) (by rfl))
 exact zE
theorem ok_m:Q_m P w base cl tx 1 (λts=>zn (b_m  (en0 1 ts))):=by
 refine Zl tx.C_m.F sc_m rfl (λcdv A outer s H E Y hy hr=> ?_) (λts h=>rfl);refine zl ?_;refine zq ?_;refine ZR (Zq ["choice"] N_m (zf s_m) (by rfl) (by rfl) (by decide+kernel) (by rfl) ?_ (λ_ _ _ _ _ _=>zK (show List.Nodup (["choice"]:List Str) by decide+kernel) (by rfl) (.inl (by rfl)) (.inr (by rfl))) (zP 0) (zQ 0) (λY' hy' _ _ _ _ _ _=> ?_) (λY' hy' _ _ _ _ _ _ _ hp' => ?_))
 exact jm (zM (zb 0 (pv 0)) zc)
 exact ZQ
 exact zM (zb 0 (pv 0)) zc
theorem ok_h {j:Nat} (hj:1<=j) {c_k c_b c_m c_15:List T->R T} (O_k:Q_k P w base cl tx 1 c_k) (O_b:Q_b P w base cl tx 1 c_b) (O_m:Q_m P w base cl tx 1 c_m) (O_15:gJ P w base cl tx j c_15):Q_h P w base cl tx (j+1) (λts=>zn (b_h c_k c_b c_m c_15 (en0 2 ts))):=by
 refine Zl tx.C_h.F sc_h rfl (λcdv A outer s H E Y hy hr=> ?_) (λts h=>rfl);refine zg ?_ ?_;refine zF ?_ ?_ ?_;exact zy zO (zx hr.units) (Snd.b (zM (zb 0 (pv 0)) zc)) (Snd.b zt) (zo _)
 refine zl ?_;refine zq ?_;refine j4 ?_ ?_;exact cZ hy O_k hr tx.C_k (za (zb 1 (pv 1)) zi)
 refine jL ?_;refine jK ZE ZE zU zU ?_ ?_ ?_;exact Snd.b (zM (zb 0 (pv 0)) zc)
 exact zj 1 (pv 1)
 exact Snd.b (zM (zb 0 (pv 0)) zc)
 exact zE
 refine zg ?_ ?_;refine zF ?_ ?_ ?_;exact zy zO (zx hr.units) (Snd.b (zM (zb 0 (pv 0)) zc)) (Snd.b zt) (zo _)
 refine zl ?_;refine zq ?_;exact Jn uk (W8 hr.units) (zj 1 (pv 1)) (Snd.b (cZ hy O_m hr tx.C_m (za (zb 0 (pv 0)) zi))) (by rfl)
 exact zE
 refine zg ?_ ?_;refine zF ?_ ?_ ?_;exact zy zO (zx hr.units) (Snd.b (zM (zb 0 (pv 0)) zc)) (Snd.b zt) (zo _)
 refine zl ?_;refine zq ?_;refine j4 ?_ ?_;refine cZ hy O_b hr tx.C_b ?_;refine za ?_ ?_;exact zb 1 (pv 1)
 refine za ?_ ?_;exact Zb (by rfl) tx.z_len (Snd.b (zM (zb 0 (pv 0)) zc))
 exact za (Zb (by rfl) tx.z_len (Snd.b (zM (zb 0 (pv 0)) zc))) zi
 refine jL ?_;refine cZ hy O_15 hr tx.C_15 ?_;exact za (zM (zb 0 (pv 0)) zc) (za (zb 1 (pv 1)) zi)
 exact zE
 refine zl ?_;refine zq ?_;refine j4 ?_ ?_;refine cZ hy O_b hr tx.C_b ?_;refine za ?_ ?_;exact zb 1 (pv 1)
 refine za ?_ ?_;exact zM (zb 0 (pv 0)) zc
 exact za (zM (zb 0 (pv 0)) zc) zi
 refine jL ?_;refine cZ hy O_15 hr tx.C_15 ?_;refine za ?_ ?_;refine jk ?_ ?_;exact ju (za (zM (zb 0 (pv 0)) zc) zi)
 exact Zb (by rfl) tx.z_len (zj 1 (pv 1))
 exact za (zb 1 (pv 1)) zi
theorem z0t {j:Nat} (hj:1<=j) {c_h:List T->R T} (O_h:Q_h P w base cl tx j c_h):gJ P w base cl tx (j+1) (λts=>zn (K2 c_h (en0 2 ts))):=by
 refine Zl tx.C_15.F z07 rfl (λcdv A outer s H E Y hy hr=> ?_) (λts h=>rfl);refine zl ?_;refine zq ?_;refine QB hr.hd (by rfl) tx.z_all ?_
 refine Snd.b ?_;refine ZR (Zq ["kind","part"] N_15 (zf z06) (by rfl) (by rfl) (by decide+kernel) (by rfl) ?_ (λ_ _ _ _ _ _=>u4 (by rfl) (ZT (zK (show List.Nodup (["kind","part"]:List Str) by decide+kernel) (by rfl) (.inl (by rfl)) (.inr (by rfl))) (ZT (zK (show List.Nodup (["kind","part"]:List Str) by decide+kernel) (by rfl) (.inl (by rfl)) (.inr (by rfl))) wn))) (w9 _ 0 1) (wa 0 1) (λY' hy' _ _ _ _ _ _=> ?_) (λY' hy' _ _ _ _ _ _ _ hp' => ?_))
 exact kW (by rfl) tx.z_zip (zb 0 (pv 0)) (zb 1 (pv 1))
 exact ZQ
 exact cZ (hy'.trans hy) O_h hr tx.C_h (za (zb 0 (pv 0)) (za (zb 1 (pv 1)) zi))
theorem ok_w {c_n c_h:List T->R T} (O_n:Q_n P w base cl tx 25 c_n) (O_h:Q_h P w base cl tx 21 c_h):Q_w P w base cl tx 26 (λts=>zn (b_w c_n c_h (en0 2 ts))):=by
 refine jB tx.C_w.F sc_w rfl (λcdv A outer s H E Y hy hE hr=> ?_) (λts h=>rfl);refine zg ?_ ?_;exact UE (cX hy (hE ▸ JA) O_n hr tx.C_n (za (zb 0 (pv 0)) zi))
 refine zl ?_;exact zq (cZ hy O_h hr tx.C_h (za (zb 0 (pv 0)) (za (zb 1 (pv 1)) zi)))
theorem z0u {c_w:List T->R T} (xq:Tq K mg base cl) (O_w:Q_w P w base cl tx 26 c_w):z0i P w base cl tx 27 (λts=>zn (XB c_w (en0 2 ts))):=by
 refine jB tx.C_13.F z08 rfl (λcdv A outer s H E Y hy hE hr=> ?_) (λts h=>rfl);refine zl ?_;refine zF ?_ ?_ ?_;refine j5 ?_;refine ZV ?_;exact Snd.b (cX hy (hE ▸ JA) O_w hr tx.C_w (za (zb 0 (pv 0)) (za (zb 1 (pv 1)) zi)))
 exact zl (J8 (c:=1) xq.o_NoWorth PySem.F.excBase_ValueError (by decide) PySem.F.excBase_ValueError hE (by rw [hy]; exact xq.l_NoWorth) (by rfl))
 exact zE
theorem ok_g {j:Nat} (hj:0<=j) {c_g:List T->R T} (O_g:Q_g P w base cl tx j c_g):Q_g P w base cl tx (j+1) (λts=>zn (b_g c_g (en0 1 ts))):=by
 refine Zl tx.C_g.F sc_g rfl (λcdv A outer s H E Y hy hr=> ?_) (λts h=>rfl);refine zg ?_ ?_;refine zF ?_ ?_ ?_;exact ZV (Snd.b (jw (n:="tuple") (Zz _) (by rfl) tx.z_isinstance (by rfl) tx.z_tuple PyProof.Rows.Boot.«tuple» (zj 0 (pv 0))))
 refine zl ?_;refine zq ?_;refine zw ?_ ?_;refine zw ?_ ?_;exact zt
 refine vX ?_;refine Snd.b ?_;refine ZR (Zq ["part"] N_g (zf s_g) (by rfl) (by rfl) (by decide+kernel) (by rfl) ?_ (λ_ _ _ _ _ _=>zK (show List.Nodup (["part"]:List Str) by decide+kernel) (by rfl) (.inl (by rfl)) (.inr (by rfl))) (zP 0) (zQ 0) (λY' hy' _ _ _ _ _ _=> ?_) (λY' hy' _ _ _ _ _ _ _ hp' => ?_))
 exact jm (zb 0 (pv 0))
 exact ZQ
 exact cZ (hy'.trans hy) O_g hr tx.C_g (za (zb 0 (pv 0)) zi)
 exact zt
 exact zE
 exact zl (zq (V1 (by rfl) tx.z_str (zb 0 (pv 0))))
theorem z0v {c_13 c_g:List T->R T} (O_13:z0i P w base cl tx 27 c_13) (O_g:Q_g P w base cl tx 8 c_g):z0j P w base cl tx 28 (λts=>zn (XF c_13 c_g (en0 2 ts))):=by
 refine jB tx.C_10.F z09 rfl (λcdv A outer s H E Y hy hE hr=> ?_) (λts h=>rfl);refine zg ?_ ?_;exact UE (cX hy (hE ▸ JA) O_13 hr tx.C_13 (za (zb 0 (pv 0)) (za (zb 1 (pv 1)) zi)))
 exact zl (zq (cZ hy O_g hr tx.C_g (za (zb 1 (pv 1)) zi)))
theorem z0w (xq:Tq K mg base cl):z0k P w base cl tx 1 (λts=>zn (b_1b  (en0 1 ts))):=by
 refine jB tx.C_1b.F z0a rfl (λcdv A outer s H E Y hy hE hr=> ?_) (λts h=>rfl);refine zl ?_;refine zF ?_ ?_ ?_;exact j5 (ZV (Snd.b (jw (n:="str") (Wq _) (by rfl) tx.z_isinstance (by rfl) tx.z_str PyProof.Rows.Boot.«str» (zj 0 (pv 0)))))
 exact zl (J8 (c:=5) xq.o_NoText PySem.F.excBase_ValueError (by decide) PySem.F.excBase_ValueError hE (by rw [hy]; exact xq.l_NoText) (by rfl))
 exact zE
theorem ok_j {c_count_of_parts c_count_shorter:List T->R T} (O_count_of_parts:jC P w base cl tx 1 c_count_of_parts) (O_count_shorter:jU P w base cl tx 1 c_count_shorter):Q_j P w base cl tx 2 (λts=>zn (b_j c_count_of_parts c_count_shorter (en0 1 ts))):=by
 refine Zl tx.C_j.F sc_j rfl (λcdv A outer s H E Y hy hr=> ?_) (λts h=>rfl);refine zg ?_ ?_;refine zF ?_ ?_ ?_;exact zy zO (zx hr.units) (Snd.b (zM (zb 0 (pv 0)) zc)) (Snd.b zt) (zo _)
 refine zl ?_;refine zq ?_;refine zw ?_ ?_;exact wW (zM (zb 0 (pv 0)) zc) (zM (zb 0 (pv 0)) zc)
 exact zc
 exact zE
 refine zg ?_ ?_;refine zF ?_ ?_ ?_;exact zy zO (zx hr.units) (Snd.b (zM (zb 0 (pv 0)) zc)) (Snd.b zt) (zo _)
 exact zl (zq (Zb (by rfl) tx.z_len (Snd.b (zM (zb 0 (pv 0)) zc))))
 exact zE
 refine zg ?_ ?_;refine zF ?_ ?_ ?_;exact zy zO (zx hr.units) (Snd.b (zM (zb 0 (pv 0)) zc)) (Snd.b zt) (zo _)
 refine zl ?_;exact zq (cZ hy O_count_of_parts hr tx.C_count_of_parts (za (zM (zb 0 (pv 0)) zc) zi))
 exact zE
 refine zl ?_;refine zq ?_;refine cZ hy O_count_shorter hr tx.C_count_shorter ?_;refine za ?_ ?_;exact zb 0 (pv 0)
 exact za (zw (zM (zb 0 (pv 0)) zc) zc) zi
theorem z0x {c_m c_many_at c_parts_at:List T->R T} (O_m:Q_m P w base cl tx 1 c_m) (O_many_at:uR P w base cl tx 1 c_many_at) (O_parts_at:Wi P w base cl tx 1 c_parts_at):z0l P w base cl tx 2 (λts=>zn (gw c_m c_many_at c_parts_at (en0 2 ts))):=by
 refine Zl tx.C_17.F z0b rfl (λcdv A outer s H E Y hy hr=> ?_) (λts h=>rfl);refine zg ?_ ?_;refine zF ?_ ?_ ?_;exact zy zO (zx hr.units) (Snd.b (zM (zb 0 (pv 0)) zc)) (Snd.b zt) (zo _)
 exact zl (zq (zw (zM (zb 0 (pv 0)) zc) (zb 1 (pv 1))))
 exact zE
 refine zg ?_ ?_;refine zF ?_ ?_ ?_;exact zy zO (zx hr.units) (Snd.b (zM (zb 0 (pv 0)) zc)) (Snd.b zt) (zo _)
 refine zl ?_;exact zq (zM (cZ hy O_m hr tx.C_m (za (zb 0 (pv 0)) zi)) (zb 1 (pv 1)))
 exact zE
 refine zg ?_ ?_;refine zF ?_ ?_ ?_;exact zy zO (zx hr.units) (Snd.b (zM (zb 0 (pv 0)) zc)) (Snd.b zt) (zo _)
 refine zl ?_;refine zq ?_;refine cZ hy O_parts_at hr tx.C_parts_at ?_;exact za (zM (zb 0 (pv 0)) zc) (za (zb 1 (pv 1)) zi)
 exact zE
 refine zl ?_;exact zq (cZ hy O_many_at hr tx.C_many_at (za (zb 0 (pv 0)) (za (zb 1 (pv 1)) zi)))
theorem z0y {c_j c_17 c_g:List T->R T} (xq:Tq K mg base cl) (O_j:Q_j P w base cl tx 2 c_j) (O_17:z0l P w base cl tx 2 c_17) (O_g:Q_g P w base cl tx 8 c_g):z0m P w base cl tx 9 (λts=>zn (b_11 c_j c_17 c_g (en0 4 ts))):=by
 refine jB tx.C_11.F Xu rfl (λcdv A outer s H E Y hy hE hr=> ?_) (λts h=>rfl);refine zg ?_ ?_;refine JD PassesOwn.leaving (by rfl) ?_ ?_ ?_
 exact Jp (by rfl) tx.z_range (cZ hy O_j hr tx.C_j (za (zb 0 (pv 0)) zi))
 exact jM (i:=2) Xu.nd (by rfl) (.inl (by rfl))
 refine zg ?_ ?_;exact zN (i:=3) Xu.nd (by rfl) (.inl (by rfl)) (cZ hy O_17 hr tx.C_17 (za (zb 0 (pv 0)) (za (zb 2 (pv 2)) zi)))
 refine zl ?_;refine zF ?_ ?_ ?_;exact zy zO (zx hr.units) (Snd.b (cZ hy O_g hr tx.C_g (za (zb 3 (pv 3)) zi))) (zj 1 (pv 1)) (zo _)
 exact zl (zq (zb 3 (pv 3)))
 exact zE
 exact zl (J8 (c:=5) xq.o_NoText PySem.F.excBase_ValueError (by decide) PySem.F.excBase_ValueError hE (by rw [hy]; exact xq.l_NoText) (by rfl))
theorem ok_x (xq:Tq K mg base cl):Q_x P w base cl tx 1 (λts=>zn (b_x  (en0 3 ts))):=by
 refine jB tx.C_x.F sc_x rfl (λcdv A outer s H E Y hy hE hr=> ?_) (λts h=>rfl);refine zg ?_ ?_;refine zF ?_ ?_ ?_;refine JQ.t ?_;refine WU ?_ ?_;exact j5 (ZV (Snd.b (Gw (zb 0 (pv 0)) (zb 1 (pv 1)))))
 exact wA (j5 (ZV (Snd.b (Gx (zb 0 (pv 0)) (zb 2 (pv 2))))))
 exact zl (J8 (c:=5) xq.o_NoText PySem.F.excBase_ValueError (by decide) PySem.F.excBase_ValueError hE (by rw [hy]; exact xq.l_NoText) (by rfl))
 exact zE
 refine zl ?_;refine zq ?_;refine J9 ?_ ?_ ?_;exact zb 0 (pv 0)
 exact Z4 (Zb (by rfl) tx.z_len (zj 1 (pv 1)))
 exact Z4 (yw (Zb (by rfl) tx.z_len (zj 2 (pv 2))))
theorem ok_q:Q_q P w base cl tx 1 (λts=>zn (b_q  (en0 7 ts))):=by
 refine Zl tx.C_q.F Vp rfl (λcdv A outer s H E Y hy hr=> ?_) (λts h=>rfl);refine zg ?_ ?_;exact W9 (i:=2) Vp.nd (by rfl) (.inl (by rfl)) zi
 refine zg ?_ ?_;exact zN (i:=3) Vp.nd (by rfl) (.inl (by rfl)) zc
 refine zg ?_ ?_;exact zN (i:=4) Vp.nd (by rfl) (.inl (by rfl)) zc
 refine zg ?_ ?_;refine JD PassesOwn.never (by rfl) ?_ ?_ ?_
 exact xH (by rfl) tx.z_enumerate (zb 0 (pv 0))
 exact vW (i:=5) (j:=6) (by rfl) Vp.nd (by rfl) (by rfl) (.inl (by rfl)) (.inl (by rfl))
 refine zg ?_ ?_;refine zF ?_ ?_ ?_;exact zy vY YU (zj 6 (pv 6)) (Snd.b zt) (by rfl)
 exact zl (zN (i:=4) Vp.nd (by rfl) (.inl (by rfl)) (zw (zb 4 (pv 4)) zc))
 exact zE
 refine zg ?_ ?_;refine zF ?_ ?_ ?_;exact zy vY YU (zj 6 (pv 6)) (Snd.b zt) (by rfl)
 exact zl (zN (i:=4) Vp.nd (by rfl) (.inl (by rfl)) (wW (zb 4 (pv 4)) zc))
 exact zE
 refine zl ?_;refine zF ?_ ?_ ?_;refine JQ.t ?_;refine Yu ?_ ?_;exact zy zO (zx hr.units) (zj 4 (pv 4)) (Snd.b zc) (zo _)
 exact ul (ZV (Snd.b (kY (zb 0 (pv 0)) (zb 1 (pv 1)) (zb 5 (pv 5)))))
 refine zg ?_ ?_;exact VY (i:=2) (pv 2) (J9 (zb 0 (pv 0)) (Z4 (zb 3 (pv 3))) (Z4 (zb 5 (pv 5))))
 exact zl (zN (i:=3) Vp.nd (by rfl) (.inl (by rfl)) (zw (zb 5 (pv 5)) (Zb (by rfl) tx.z_len (zj 1 (pv 1)))))
 exact zE
 refine zg ?_ ?_;exact VY (i:=2) (pv 2) (J9 (zb 0 (pv 0)) (Z4 (zb 3 (pv 3))) Zp)
 exact zl (zq (zb 2 (pv 2)))
theorem ok_o {c_x c_q:List T->R T} (O_x:Q_x P w base cl tx 1 c_x) (O_q:Q_q P w base cl tx 1 c_q):Q_o P w base cl tx 2 (λts=>zn (b_o c_x c_q (en0 2 ts))):=by
 refine jB tx.C_o.F sc_o rfl (λcdv A outer s H E Y hy hE hr=> ?_) (λts h=>rfl);refine zg ?_ ?_;refine zN (i:=1) sc_o.nd (by rfl) (.inl (by rfl)) ?_
 refine cX hy (hE ▸ JA) O_x hr tx.C_x ?_;exact za (zb 0 (pv 0)) (za zt (za zt zi))
 refine zl ?_;refine zq ?_;refine vN ?_ ?_ ?_;exact zy Jo (jd hr.units) (zj 1 (pv 1)) (Snd.b zt) (zo _)
 exact cZ hy O_q hr tx.C_q (za (zb 1 (pv 1)) (za zt zi))
 exact ju zi
theorem ok_4 {j:Nat} (hj:9<=j) {c_11 c_1c c_t c_o:List T->R T} (O_11:z0m P w base cl tx 9 c_11) (O_1c:gK P w base cl tx j c_1c) (O_t:Q_t P w base cl tx j c_t) (O_o:Q_o P w base cl tx 2 c_o):Q_4 P w base cl tx (j+1) (λts=>zn (b_4 c_11 c_1c c_t c_o (en0 2 ts))):=by
 refine jB tx.C_4.F sc_4 rfl (λcdv A outer s H E Y hy hE hr=> ?_) (λts h=>rfl);refine zg ?_ ?_;refine zF ?_ ?_ ?_;exact zy zO (zx hr.units) (Snd.b (zM (zb 0 (pv 0)) zc)) (Snd.b zt) (zo _)
 refine zl ?_;refine zq ?_;refine cX hy (hE ▸ JA) O_t hr tx.C_t ?_;refine za ?_ ?_;exact zM (zb 0 (pv 0)) zc
 exact za (cX hy (hE ▸ JA) O_o hr tx.C_o (za (zb 1 (pv 1)) zi)) zi
 exact zE
 refine zg ?_ ?_;refine zF ?_ ?_ ?_;exact zy zO (zx hr.units) (Snd.b (zM (zb 0 (pv 0)) zc)) (Snd.b zt) (zo _)
 refine zl ?_;refine zq ?_;refine cX hy (hE ▸ JA) O_1c hr tx.C_1c ?_;refine za ?_ ?_;exact zb 0 (pv 0)
 exact za (cX hy (hE ▸ JA) O_o hr tx.C_o (za (zb 1 (pv 1)) zi)) zi
 exact zE
 refine zl ?_;exact zq (cX hy (hE ▸ JA) O_11 hr tx.C_11 (za (zb 0 (pv 0)) (za (zb 1 (pv 1)) zi)))
theorem z0z {j:Nat} (hj:9<=j) {c_t:List T->R T} (xq:Tq K mg base cl) (O_t:Q_t P w base cl tx j c_t):gK P w base cl tx (j+1) (λts=>zn (gy c_t (en0 2 ts))):=by
 refine jB tx.C_1c.F z0c rfl (λcdv A outer s H E Y hy hE hr=> ?_) (λts h=>rfl);refine zg ?_ ?_;refine zF ?_ ?_ ?_;refine j5 ?_;refine wy ZE ZE zU zU ?_ ?_ ?_;exact Snd.b (zM (zb 0 (pv 0)) zc)
 exact Snd.b (Zb (by rfl) tx.z_len (zj 1 (pv 1)))
 exact Snd.b (zM (zb 0 (pv 0)) zc)
 exact zl (J8 (c:=5) xq.o_NoText PySem.F.excBase_ValueError (by decide) PySem.F.excBase_ValueError hE (by rw [hy]; exact xq.l_NoText) (by rfl))
 exact zE
 refine zl ?_;refine zq ?_;refine cX hy (hE ▸ JA) O_t hr tx.C_t ?_;refine za ?_ ?_;refine jk ?_ ?_;exact ju (za (zM (zb 0 (pv 0)) zc) zi)
 exact Zb (by rfl) tx.z_len (zj 1 (pv 1))
 exact za (zb 1 (pv 1)) zi
theorem ok_t {j:Nat} (hj:9<=j) {c_4:List T->R T} (xq:Tq K mg base cl) (O_4:Q_4 P w base cl tx j c_4):Q_t P w base cl tx (j+1) (λts=>zn (b_t c_4 (en0 2 ts))):=by
 refine jB tx.C_t.F sc_t rfl (λcdv A outer s H E Y hy hE hr=> ?_) (λts h=>rfl);refine zg ?_ ?_;refine zF ?_ ?_ ?_;exact zy Jo (jd hr.units) (Snd.b (Zb (by rfl) tx.z_len (zj 0 (pv 0)))) (Snd.b (Zb (by rfl) tx.z_len (zj 1 (pv 1)))) (zo _)
 exact zl (J8 (c:=5) xq.o_NoText PySem.F.excBase_ValueError (by decide) PySem.F.excBase_ValueError hE (by rw [hy]; exact xq.l_NoText) (by rfl))
 exact zE
 refine zl ?_;refine zq ?_;refine U2 (by rfl) tx.z_tuple ?_
 refine xa (hE ▸ ky) (Zq ["kind","piece"] N_t (zf s_t) (by rfl) (by rfl) (by decide+kernel) (by rfl) ?_ (λ_ _ _ _ _ _=>u4 (by rfl) (ZT (zK (show List.Nodup (["kind","piece"]:List Str) by decide+kernel) (by rfl) (.inl (by rfl)) (.inr (by rfl))) (ZT (zK (show List.Nodup (["kind","piece"]:List Str) by decide+kernel) (by rfl) (.inl (by rfl)) (.inr (by rfl))) wn))) (w9 _ 0 1) (wa 0 1) (λY' hy' _ _ _ _ _ _=> ?_) (λY' hy' _ _ _ _ _ _ _ hp' => ?_))
 exact kW (by rfl) tx.z_zip (zb 0 (pv 0)) (zb 1 (pv 1))
 exact ZQ
 exact cX (hy'.trans hy) hp' O_4 hr tx.C_4 (za (zb 0 (pv 0)) (za (zb 1 (pv 1)) zi))
theorem ok_z {c_n c_1b c_4:List T->R T} (O_n:Q_n P w base cl tx 25 c_n) (O_1b:z0k P w base cl tx 1 c_1b) (O_4:Q_4 P w base cl tx 29 c_4):Q_z P w base cl tx 30 (λts=>zn (b_z c_n c_1b c_4 (en0 2 ts))):=by
 refine jB tx.C_z.F sc_z rfl (λcdv A outer s H E Y hy hE hr=> ?_) (λts h=>rfl);refine zg ?_ ?_;exact UE (cX hy (hE ▸ JA) O_n hr tx.C_n (za (zb 0 (pv 0)) zi))
 refine zg ?_ ?_;exact UE (cX hy (hE ▸ JA) O_1b hr tx.C_1b (za (zb 1 (pv 1)) zi))
 refine zl ?_;exact zq (cX hy (hE ▸ JA) O_4 hr tx.C_4 (za (zb 0 (pv 0)) (za (zb 1 (pv 1)) zi)))
theorem ok_d {c_10 c_z:List T->R T} {c_7:Nat->R T} (xq:Tq K mg base cl) (O_7:Q_7 P w base cl tx 1 c_7) (O_10:z0j P w base cl tx 28 c_10) (O_z:Q_z P w base cl tx 30 c_z):Q_d P w base cl tx 31 (λts=>zn (b_d c_7 c_10 c_z (en0 6 ts))):=by
 refine Zl tx.C_d.F KZ rfl (λcdv A outer s H E Y hy hr=> ?_) (λts h=>rfl);refine zg ?_ ?_;exact zN (i:=3) KZ.nd (by rfl) (.inl (by rfl)) VJ
 refine zg ?_ ?_;exact zN (i:=4) KZ.nd (by rfl) (.inl (by rfl)) VJ
 refine zg ?_ ?_;refine Gr (i:=5) (k:=3) (ok:=okX) (by rfl) (by rfl) KZ.nd (by rfl) (by rfl) (by rfl) (by rfl) (by decide) (by rfl) xq.m_WorthError (hy ▸ xq.e_WorthError) (λE' pn xe hp=> ?_)
 refine zl ?_;refine zN (i:=4) KZ.nd (by rfl) (.inl (by rfl)) ?_
 refine vN ?_ ?_ ?_;exact zy zO (zx hr.units) (zj 0 (pv 0)) (Snd.b zc) (zo _)
 exact cX hy hp O_10 hr tx.C_10 (za (zb 1 (pv 1)) (za (zb 2 (pv 2)) zi))
 exact cX hy hp O_z hr tx.C_z (za (zb 1 (pv 1)) (za (zb 2 (pv 2)) zi))
 refine zg ?_ ?_;exact zF (kO (pv 3)) (zl (zq (zb 4 (pv 4)))) zE
 exact zl (zq (xt hy O_7 hr (by omega) (by rfl) tx.C_7.m tx.C_7.F.kp tx.C_7.b (pv 3)))
theorem ok_p:Q_p P w base cl tx 1 (λts=>zn (b_p  (en0 3 ts))):=by
 refine Zl tx.C_p.F sc_p rfl (λcdv A outer s H E Y hy hr=> ?_) (λts h=>rfl);refine zl ?_;refine zq ?_;refine j4 ?_ ?_;exact jw (n:="int") (U3 _) (by rfl) tx.z_isinstance (by rfl) tx.z_int PyProof.Rows.Boot.«int» (zj 0 (pv 0))
 refine j4 ?_ ?_;exact kB (jw (n:="bool") (UC _) (by rfl) tx.z_isinstance (by rfl) tx.z_bool PyProof.Rows.Boot.«bool» (zj 0 (pv 0)))
 exact jL (jK ZE ZE zU zU (zj 1 (pv 1)) (zj 0 (pv 0)) (zj 2 (pv 2)))
theorem ok_v:Q_v P w base cl tx 1 (λts=>zn (b_v  (en0 1 ts))):=by
 refine Zl tx.C_v.F sc_v rfl (λcdv A outer s H E Y hy hr=> ?_) (λts h=>rfl);refine zl ?_;refine zq ?_;refine j4 ?_ ?_;exact jw (n:="str") (Wq _) (by rfl) tx.z_isinstance (by rfl) tx.z_str PyProof.Rows.Boot.«str» (zj 0 (pv 0))
 refine j4 ?_ ?_;refine jK ZE ZE zU zU ?_ ?_ ?_;exact Snd.b zc
 exact Snd.b (Zb (by rfl) tx.z_len (zj 0 (pv 0)))
 exact Snd.b zc
 refine jL ?_;refine Jn zO (zx hr.units) ?_ ?_ (zo _);refine Snd.b ?_;refine ZR (Zq ["_law_sign"] N_v (zf s_v) (by rfl) (by rfl) (by decide+kernel) (by rfl) ?_ (λ_ _ _ _ _ _=>zK (show List.Nodup (["_law_sign"]:List Str) by decide+kernel) (by rfl) (.inl (by rfl)) (.inr (by rfl))) (zP 0) (zQ 0) (λY' hy' _ _ _ _ _ _=> ?_) (λY' hy' _ _ _ _ _ _ _ hp' => ?_))
 exact jm (zb 0 (pv 0))
 refine uo ?_;exact j5 (wy ZE ZE zU zU (Snd.b zt) (zj 0 (pv 0)) (Snd.b zt))
 exact zb 0 (pv 0)
 exact Snd.b (ju zi)
theorem ok_a {j:Nat} (hj:1<=j) {c_p c_v c_a:List T->R T} (O_p:Q_p P w base cl tx 1 c_p) (O_v:Q_v P w base cl tx 1 c_v) (O_a:Q_a P w base cl tx j c_a):Q_a P w base cl tx (j+1) (λts=>zn (b_a c_p c_v c_a (en0 6 ts))):=by
 refine Zl tx.C_a.F gH rfl (λcdv A outer s H E Y hy hr=> ?_) (λts h=>rfl);refine zg ?_ ?_;refine zF ?_ ?_ ?_;refine JQ.t ?_;refine WU ?_ ?_;exact j5 (ZV (Snd.b (jw (n:="tuple") (Zz _) (by rfl) tx.z_isinstance (by rfl) tx.z_tuple PyProof.Rows.Boot.«tuple» (zj 0 (pv 0)))))
 refine WU ?_ ?_;exact zy uj JP (Snd.b (Zb (by rfl) tx.z_len (zj 0 (pv 0)))) (Snd.b zc) (zo _)
 refine WU ?_ ?_;refine j5 ?_;exact ZV (Snd.b (jw (n:="str") (Wq _) (by rfl) tx.z_isinstance (by rfl) tx.z_str PyProof.Rows.Boot.«str» (Snd.b (zM (zb 0 (pv 0)) zc))))
 exact wA (zy uj JP (zj 1 (pv 1)) (Snd.b zc) (zo _))
 exact zl (zq uT)
 exact zE
 refine zg ?_ ?_;refine Go (i:=2) (j:=3) (by rfl) gH.nd (by rfl) (by rfl) (by decide) (by rfl) (by rfl) ?_ (by rfl)
 refine za ?_ ?_;exact zM (zb 0 (pv 0)) zc
 exact za (j6 (zb 0 (pv 0)) (Z4 zc) Zp) zi
 refine zg ?_ ?_;refine zF ?_ ?_ ?_;exact zy zO (zx hr.units) (zj 2 (pv 2)) (Snd.b zt) (zo _)
 refine zl ?_;refine zq ?_;refine j4 ?_ ?_;exact Jn zO (zx hr.units) (Snd.b (Zb (by rfl) tx.z_len (zj 3 (pv 3)))) (Snd.b zc) (zo _)
 refine j4 ?_ ?_;refine cZ hy O_p hr tx.C_p ?_;refine za ?_ ?_;exact zM (zb 3 (pv 3)) zc
 exact za (yw zc) (za zc zi)
 refine jL ?_;refine cZ hy O_p hr tx.C_p ?_;refine za ?_ ?_;exact zM (zb 3 (pv 3)) zc
 exact za (zM (zb 3 (pv 3)) zc) (za zc zi)
 exact zE
 refine zg ?_ ?_;refine zF ?_ ?_ ?_;exact zy zO (zx hr.units) (zj 2 (pv 2)) (Snd.b zt) (zo _)
 refine zg ?_ ?_;refine zF ?_ ?_ ?_;refine JQ.t ?_;refine WU ?_ ?_;exact zy Jo (jd hr.units) (Snd.b (Zb (by rfl) tx.z_len (zj 3 (pv 3)))) (Snd.b zc) (zo _)
 refine WU ?_ ?_;refine j5 ?_;exact ZV (Snd.b (jw (n:="tuple") (Zz _) (by rfl) tx.z_isinstance (by rfl) tx.z_tuple PyProof.Rows.Boot.«tuple» (Snd.b (zM (zb 3 (pv 3)) zc))))
 refine wA ?_;refine j5 ?_;refine wy ZE ZE zU zU ?_ ?_ ?_;exact Snd.b zc
 exact Snd.b (Zb (by rfl) tx.z_len (Snd.b (zM (zb 3 (pv 3)) zc)))
 exact Snd.b zc
 exact zl (zq uT)
 exact zE
 refine zg ?_ ?_;refine UI (i:=4) (Zq ["_law_one"] N_a (zf s_a) (by rfl) (by rfl) (by decide+kernel) (by rfl) ?_ (λ_ _ _ _ _ _=>zK (show List.Nodup (["_law_one"]:List Str) by decide+kernel) (by rfl) (.inl (by rfl)) (.inr (by rfl))) (zP 0) (zQ 0) (λY' hy' _ _ _ _ _ _=> ?_) (λY' hy' _ _ _ _ _ _ _ hp' => ?_)) gH.nd (by rfl) (.inl (by rfl)) (by rfl)
 exact jm (zM (zb 3 (pv 3)) zc)
 refine uo ?_;refine JQ.t ?_;refine Yu ?_ ?_;exact ZV (Snd.b (jw (n:="tuple") (Zz _) (by rfl) tx.z_isinstance (by rfl) tx.z_tuple PyProof.Rows.Boot.«tuple» (zj 0 (pv 0))))
 exact ul (zy zO (zx hr.units) (Snd.b (Zb (by rfl) tx.z_len (zj 0 (pv 0)))) (Snd.b zc) (zo _))
 exact zb 0 (pv 0)
 refine zg ?_ ?_;refine zN (i:=5) gH.nd (by rfl) (.inr (by rfl)) (ZR (Zq ["_law_one"] N_a (zf s_a) (by rfl) (by rfl) (by decide+kernel) (by rfl) ?_ (λ_ _ _ _ _ _=>zK (show List.Nodup (["_law_one"]:List Str) by decide+kernel) (by rfl) (.inl (by rfl)) (.inr (by rfl))) (zP 0) (zQ 0) (λY' hy' _ _ _ _ _ _=> ?_) (λY' hy' _ _ _ _ _ _ _ hp' => ?_)))
 exact jm (zb 4 (pv 4))
 refine uo ?_;refine JQ.t ?_;refine Yu ?_ ?_;refine ZV ?_;exact Snd.b (cZ (hy'.trans hy) O_v hr tx.C_v (za (zM (zb 0 (pv 0)) zc) zi))
 refine ul ?_;refine ZV ?_;refine Snd.b ?_;refine cZ (hy'.trans hy) O_p hr tx.C_p ?_;refine za ?_ ?_;exact zM (zb 0 (pv 0)) zc
 exact za zc (za zc zi)
 exact zM (zb 0 (pv 0)) zc
 refine zl ?_;refine zq ?_;refine j4 ?_ ?_;refine Jn zO (zx hr.units) ?_ ?_ (zo _);exact Snd.b (Zb (by rfl) tx.z_len (zj 5 (pv 5)))
 exact Snd.b (Zb (by rfl) tx.z_len (Snd.b (zM (zb 3 (pv 3)) zc)))
 refine jL ?_;refine Jn zO (zx hr.units) ?_ ?_ (zo _);refine Snd.b ?_;refine ZR (Zq ["_law_k","_law_words"] N_a (zf s_a) (by rfl) (by rfl) (by decide+kernel) (by rfl) ?_ (λ_ _ _ _ _ _=>zK (show List.Nodup (["_law_k","_law_words"]:List Str) by decide+kernel) (by rfl) (.inl (by rfl)) (.inr (by rfl))) (zP 0) (zQ 0) (λY' hy' _ _ _ _ _ _=> ?_) (λY' hy' _ _ _ _ _ _ _ hp' => ?_))
 exact Jp (by rfl) tx.z_range (Zb (by rfl) tx.z_len (zj 5 (pv 5)))
 refine uo ?_;refine zy uk (W8 hr.units) ?_ ?_ (by rfl)
 exact Snd.b (zM (zb 1 (pv 1)) (zb 0 (pv 0)))
 exact Snd.b (j6 (zb 1 (pv 1)) Zp (Z4 (zb 0 (pv 0))))
 exact zb 0 (pv 0)
 exact Snd.b (ju zi)
 exact zE
 refine zg ?_ ?_;refine zF ?_ ?_ ?_;exact zy zO (zx hr.units) (zj 2 (pv 2)) (Snd.b zt) (zo _)
 refine zg ?_ ?_;refine zF ?_ ?_ ?_;refine JQ.t ?_;refine WU ?_ ?_;exact zy Jo (jd hr.units) (Snd.b (Zb (by rfl) tx.z_len (zj 3 (pv 3)))) (Snd.b zc) (zo _)
 refine WU ?_ ?_;refine j5 ?_;exact ZV (Snd.b (jw (n:="tuple") (Zz _) (by rfl) tx.z_isinstance (by rfl) tx.z_tuple PyProof.Rows.Boot.«tuple» (Snd.b (zM (zb 3 (pv 3)) zc))))
 refine wA ?_;refine j5 ?_;refine wy ZE ZE zU zU ?_ ?_ ?_;exact Snd.b zc
 exact Snd.b (Zb (by rfl) tx.z_len (Snd.b (zM (zb 3 (pv 3)) zc)))
 exact Snd.b zc
 exact zl (zq uT)
 exact zE
 refine zl ?_;refine zq ?_;refine Jn zO (zx hr.units) ?_ ?_ (zo _);refine Snd.b ?_;refine ZR (Zq ["_law_one","_law_deep"] N_a (zf s_a) (by rfl) (by rfl) (by decide+kernel) (by rfl) ?_ (λ_ _ _ _ _ _=>zK (show List.Nodup (["_law_one","_law_deep"]:List Str) by decide+kernel) (by rfl) (.inl (by rfl)) (.inr (by rfl))) (zP 0) (zQ 0) (λY' hy' _ _ _ _ _ _=> ?_) (λY' hy' _ _ _ _ _ _ _ hp' => ?_))
 exact jm (zM (zb 3 (pv 3)) zc)
 refine uo ?_;refine j5 ?_;refine ZV ?_;refine Snd.b ?_;refine cZ (hy'.trans hy) O_a hr tx.C_a ?_;exact za (zb 0 (pv 0)) (za (wW (zb 1 (pv 1)) zc) zi)
 exact zb 0 (pv 0)
 exact Snd.b (ju zi)
 exact zE
 refine zg ?_ ?_;refine zF ?_ ?_ ?_;refine JQ.t ?_;refine WU ?_ ?_;exact zy Jo (jd hr.units) (zj 2 (pv 2)) (Snd.b zt) (zo _)
 refine WU ?_ ?_;exact zy Jo (jd hr.units) (Snd.b (Zb (by rfl) tx.z_len (zj 3 (pv 3)))) (Snd.b zc) (zo _)
 refine WU ?_ ?_;refine j5 ?_;refine ZV ?_;refine Snd.b ?_;refine cZ hy O_p hr tx.C_p ?_;refine za ?_ ?_;exact zM (zb 3 (pv 3)) zc
 exact za zc (za zc zi)
 refine wA ?_;refine j5 ?_;refine ZV ?_;refine Snd.b ?_;refine cZ hy O_p hr tx.C_p ?_;refine za ?_ ?_;exact zM (zb 3 (pv 3)) zc
 exact za (zM (zb 3 (pv 3)) zc) (za zc zi)
 exact zl (zq uT)
 exact zE
 refine zl ?_;refine zq ?_;refine cZ hy O_a hr tx.C_a ?_;refine za ?_ ?_;exact zM (zb 3 (pv 3)) zc
 exact za (wW (zb 1 (pv 1)) zc) zi
theorem ok_0 {c_2 c_3 c_s c_a c_r c_d c_5 c_i:List T->R T} (O_2:Q_2 P w base cl tx 2 c_2) (O_3:Q_3 P w base cl tx 9 c_3) (O_s:Q_s P w base cl tx 18 c_s) (O_a:Q_a P w base cl tx 13 c_a) (O_r:Q_r P w base cl tx 41 c_r) (O_d:Q_d P w base cl tx 31 c_d) (O_5:Q_5 P w base cl tx 1 c_5) (O_i:Q_i P w base cl tx 8 c_i):Q_0 P w base cl tx 42 (λts=>zn (b_0 c_2 c_3 c_s c_a c_r c_d c_5 c_i (en0 14 ts))):=by
 refine Zl tx.C_0.F Ut rfl (λcdv A outer s H E Y hy hr=> ?_) (λts h=>rfl);refine zg ?_ ?_;refine zN (i:=1) Ut.nd (by rfl) (.inl (by rfl)) ?_
 refine cZ hy O_s hr tx.C_s ?_;exact za (zb 0 (pv 0)) (za zc (za zc zi))
 refine zg ?_ ?_;exact zN (i:=2) Ut.nd (by rfl) (.inl (by rfl)) (cZ hy O_3 hr tx.C_3 (za (zb 1 (pv 1)) zi))
 refine zg ?_ ?_;refine UI (i:=3) (Zq ["_law_worth"] N_0 (zf s_0) (by rfl) (by rfl) (by decide+kernel) (by rfl) ?_ (λ_ _ _ _ _ _=>zK (show List.Nodup (["_law_worth"]:List Str) by decide+kernel) (by rfl) (.inl (by rfl)) (.inr (by rfl))) (zP 0) (zQ 0) (λY' hy' _ _ _ _ _ _=> ?_) (λY' hy' _ _ _ _ _ _ _ hp' => ?_)) Ut.nd (by rfl) (.inl (by rfl)) (by rfl)
 exact jm (zb 2 (pv 2))
 exact ZQ
 exact cZ (hy'.trans hy) O_i hr tx.C_i (za (zb 0 (pv 0)) zi)
 refine zg ?_ ?_;refine JD PassesOwn.never (by rfl) ?_ ?_ ?_
 exact Jp (by rfl) tx.z_range zc
 exact jM (i:=4) Ut.nd (by rfl) (.inl (by rfl))
 refine zg ?_ ?_;refine zN (i:=5) Ut.nd (by rfl) (.inl (by rfl)) ?_
 refine cZ hy O_2 hr tx.C_2 ?_;refine za ?_ ?_;exact zb 0 (pv 0)
 refine za ?_ ?_;exact zw zc (zb 4 (pv 4))
 exact za (Zb (by rfl) tx.z_len (zj 2 (pv 2))) zi
 refine zg ?_ ?_;refine zF ?_ ?_ ?_;refine JQ.t ?_;refine WU ?_ ?_;refine zy Jo (jd hr.units) ?_ ?_ (zo _);refine Snd.b ?_;refine cZ hy O_d hr tx.C_d ?_;refine za ?_ ?_;exact zc
 exact za (zb 1 (pv 1)) (za (zM (zb 2 (pv 2)) (zb 5 (pv 5))) zi)
 exact Snd.b (zM (zb 3 (pv 3)) (zb 5 (pv 5)))
 refine wA ?_;refine zy Jo (jd hr.units) ?_ ?_ (zo _);refine Snd.b ?_;refine cZ hy O_d hr tx.C_d ?_;refine za ?_ ?_;exact zc
 exact za (zb 1 (pv 1)) (za (zM (zb 3 (pv 3)) (zb 5 (pv 5))) zi)
 exact Snd.b (zM (zb 2 (pv 2)) (zb 5 (pv 5)))
 exact zl (zq uT)
 exact zE
 refine zg ?_ ?_;refine zN (i:=6) Ut.nd (by rfl) (.inl (by rfl)) ?_
 refine cZ hy O_5 hr tx.C_5 ?_;refine za ?_ ?_;exact zM (zb 3 (pv 3)) (zb 5 (pv 5))
 refine za ?_ ?_;refine cZ hy O_2 hr tx.C_2 ?_;refine za ?_ ?_;exact zb 0 (pv 0)
 refine za ?_ ?_;exact zw zc (zb 4 (pv 4))
 exact za (Gz zc zc) zi
 exact za zt zi
 refine zg ?_ ?_;refine zN (i:=7) Ut.nd (by rfl) (.inl (by rfl)) ?_
 refine vN ?_ ?_ ?_;exact zy uk (W8 hr.units) (zj 6 (pv 6)) (zj 3 (pv 3)) (by rfl)
 exact zM (zb 2 (pv 2)) (Wx hr.units (zj 3 (pv 3)) (zj 6 (pv 6)))
 exact zt
 refine zl ?_;refine zF ?_ ?_ ?_;refine zy Jo (jd hr.units) ?_ ?_ (zo _);refine Snd.b ?_;refine cZ hy O_d hr tx.C_d ?_;exact za zc (za (zb 1 (pv 1)) (za (zb 6 (pv 6)) zi))
 exact zj 7 (pv 7)
 exact zl (zq uT)
 exact zE
 refine zg ?_ ?_;refine zN (i:=8) Ut.nd (by rfl) (.inl (by rfl)) ?_
 refine cZ hy O_s hr tx.C_s ?_;exact za (zb 0 (pv 0)) (za zc (za zc zi))
 refine zg ?_ ?_;refine JD PassesOwn.never (by rfl) ?_ ?_ ?_
 refine jm ?_;refine j6 ?_ ?_ ?_;exact cZ hy O_3 hr tx.C_3 (za (zb 8 (pv 8)) zi)
 exact Zp
 exact Z4 zc
 exact jM (i:=9) Ut.nd (by rfl) (.inl (by rfl))
 refine zg ?_ ?_;exact zN (i:=10) Ut.nd (by rfl) (.inl (by rfl)) (cZ hy O_i hr tx.C_i (za (zb 9 (pv 9)) zi))
 refine zl ?_;refine zF ?_ ?_ ?_;refine zy Jo (jd hr.units) ?_ ?_ (zo _);refine Snd.b ?_;refine cZ hy O_d hr tx.C_d ?_;exact za zc (za (zb 1 (pv 1)) (za (zb 10 (pv 10)) zi))
 refine Snd.b ?_;refine vN ?_ ?_ ?_;exact zy uk (W8 hr.units) (zj 10 (pv 10)) (zj 3 (pv 3)) (by rfl)
 exact zM (zb 2 (pv 2)) (Wx hr.units (zj 3 (pv 3)) (zj 10 (pv 10)))
 exact zt
 exact zl (zq uT)
 exact zE
 refine zg ?_ ?_;refine zN (i:=11) Ut.nd (by rfl) (.inl (by rfl)) ?_
 refine ju ?_;refine za ?_ ?_;exact zt
 refine za ?_ ?_;exact zt
 refine za ?_ ?_;exact zt
 refine za ?_ ?_;exact zt
 refine za ?_ ?_;exact zt
 refine za ?_ ?_;exact zt
 refine za ?_ ?_;exact zt
 refine za ?_ ?_;exact zt
 refine za ?_ ?_;exact zt
 refine za ?_ ?_;exact zt
 refine za ?_ ?_;exact zt
 refine za ?_ ?_;exact zt
 refine za ?_ ?_;exact zt
 exact za zt (za zt (za zt zi))
 refine zg ?_ ?_;refine zN (i:=10) Ut.nd (by rfl) (.inl (by rfl)) ?_
 refine zM ?_ ?_;exact zb 11 (pv 11)
 refine cZ hy O_2 hr tx.C_2 ?_;exact za (zb 0 (pv 0)) (za zc (za zc zi))
 refine zg ?_ ?_;refine zF ?_ ?_ ?_;refine zy Jo (jd hr.units) ?_ ?_ (zo _);refine Snd.b ?_;refine cZ hy O_d hr tx.C_d ?_;exact za zc (za (zb 1 (pv 1)) (za (zb 10 (pv 10)) zi))
 refine Snd.b ?_;refine vN ?_ ?_ ?_;exact zy uk (W8 hr.units) (zj 10 (pv 10)) (zj 3 (pv 3)) (by rfl)
 exact zM (zb 2 (pv 2)) (Wx hr.units (zj 3 (pv 3)) (zj 10 (pv 10)))
 exact zt
 exact zl (zq uT)
 exact zE
 refine zg ?_ ?_;refine zN (i:=12) Ut.nd (by rfl) (.inl (by rfl)) ?_
 refine cZ hy O_r hr tx.C_r ?_;refine za ?_ ?_;exact zb 0 (pv 0)
 exact za zc (za (zM (zb 2 (pv 2)) zc) zi)
 refine zg ?_ ?_;refine zF ?_ ?_ ?_;refine JQ.t ?_;refine Yu ?_ ?_;exact zy vM (Ys hr.units) (zj 12 (pv 12)) (zj 2 (pv 2)) (by rfl)
 refine ul ?_;refine zy Jo (jd hr.units) ?_ ?_ (zo _);refine Snd.b ?_;refine cZ hy O_d hr tx.C_d ?_;exact za zc (za (zb 1 (pv 1)) (za (zb 12 (pv 12)) zi))
 exact Snd.b zt
 exact zl (zq uT)
 exact zE
 refine zg ?_ ?_;refine zN (i:=13) Ut.nd (by rfl) (.inr (by rfl)) ?_
 refine cZ hy O_r hr tx.C_r ?_;exact za (zb 0 (pv 0)) (za zc (za (zb 1 (pv 1)) zi))
 refine zl ?_;refine zq ?_;refine s_or ?_ ?_;exact cZ hy O_a hr tx.C_a (za (zb 13 (pv 13)) (za zc zi))
 refine jL ?_;refine Jn zO (zx hr.units) ?_ ?_ (zo _);refine Snd.b ?_;refine ZR (Zq ["_law_what","_law_bad"] N_0 (zf s_0) (by rfl) (by rfl) (by decide+kernel) (by rfl) ?_ (λ_ _ _ _ _ _=>zK (show List.Nodup (["_law_what","_law_bad"]:List Str) by decide+kernel) (by rfl) (.inl (by rfl)) (.inr (by rfl))) (zP 0) (zQ 0) (λY' hy' _ _ _ _ _ _=> ?_) (λY' hy' _ _ _ _ _ _ _ hp' => ?_))
 exact Jp (by rfl) tx.z_range zc
 exact ZQ
 refine cZ (hy'.trans hy) O_d hr tx.C_d ?_;exact za (zb 0 (pv 0)) (za (zb 1 (pv 1)) (za zt zi))
 exact Snd.b (jk (ju (za zt zi)) zc)
end
theorem ZO {P:Program} {w:World} {K:PySem.W.Frag} {mg:Str->Option Value} {base:Heap} {CX:CXT} {cl:Nat->Value} {k n:Nat} {f:Addr} {fd:FuncData} {ps:List Str} (hn:n=ps.length):Zm P w K mg base CX k f fd ps (spP cl n (λ_=> .bad)):=
 ⟨λvs H Q E h=>by rw [← hn]; exact spP.len vs H Q E h,λA outer s H args us vs Q E _ _ _ _ ⟨B,ts,_,_,_,q⟩=>q.elim⟩
section
variable {P:Program} {w:World} {K:PySem.W.Frag} {mg:Str->Option Value} {base:Heap} {cl:Nat->Value} {tx:Tx K mg}
theorem g6 (xq:Tq K mg base cl):Q_0 P w base cl tx 42 f_0:=by
 have O_1a:z0d P w base cl tx 1 K1:=z0n;have O_2:Q_2 P w base cl tx 2 f_2:=ok_2 O_1a;have O_12:z0e P w base cl tx 3 Xz:=z0o O_2;have O_u:Q_u P w base cl tx 4 f_u:=ok_u O_2 O_12;have R_f:∀ n:Nat,Q_f P w base cl tx (4+n) (S_f n 0):=by
  intro n
  induction n with
  | zero=>exact ZO rfl
  | succ n ih=>
   exact ok_f (j:=4+n) (by omega) O_2 O_u ih
 have O_f:Q_f P w base cl tx 12 (f_f 8):=(R_f 8);have O_e:Q_e P w base cl tx 1 f_e:=ok_e;have R_3:∀ n:Nat,Q_3 P w base cl tx (1+n) (S_3 n 0):=by
  intro n
  induction n with
  | zero=>exact ZO rfl
  | succ n ih=>
   exact ok_3 (j:=1+n) (by omega) ih O_e
 have O_3:Q_3 P w base cl tx 9 (f_3 8):=(R_3 8);have R_8:∀ n:Nat,Q_8 P w base cl tx (9+n) (S_8 n 0):=by
  intro n
  induction n with
  | zero=>exact ZO rfl
  | succ n ih=>
   exact ok_8 (j:=9+n) (by omega) O_3 ih
 have O_8:Q_8 P w base cl tx 17 (f_8 8):=(R_8 8);have O_s:Q_s P w base cl tx 18 f_s:=ok_s O_f O_8;have R_l:∀ n:Nat,Q_l P w base cl tx (0+n) (S_l n 0):=by
  intro n
  induction n with
  | zero=>exact ZO rfl
  | succ n ih=>
   exact ok_l (j:=0+n) (by omega) ih
 have O_l:Q_l P w base cl tx 40 (f_l 40):=(R_l 40);have O_14:z0f P w base cl tx 1 XA:=z0p;have R_9:∀ n:Nat,Q_9 P w base cl tx (0+n) (S_9 n 0):=by
  intro n
  induction n with
  | zero=>exact ZO rfl
  | succ n ih=>
   exact ok_9 (j:=0+n) (by omega) ih
 have O_9:Q_9 P w base cl tx 40 (f_9 40):=(R_9 40);have O_r:Q_r P w base cl tx 41 f_r:=ok_r O_2 O_l O_14 O_9;have R_i:∀ n:Nat,Q_i P w base cl tx (0+n) (S_i n 0):=by
  intro n
  induction n with
  | zero=>exact ZO rfl
  | succ n ih=>
   exact ok_i (j:=0+n) (by omega) ih
 have O_i:Q_i P w base cl tx 8 (f_i 8):=(R_i 8);have O_5:Q_5 P w base cl tx 1 f_5:=ok_5;have O_7:Q_7 P w base cl tx 1 f_7:=ok_7 xq;have O_k:Q_k P w base cl tx 1 f_k:=ok_k;have O_18:z0g P w base cl tx 2 gs:=z0q O_k;have O_b:Q_b P w base cl tx 1 f_b:=ok_b;have O_6:Q_6 P w base cl tx 1 f_6:=ok_6;have O_16:z0h P w base cl tx 2 xL:=z0r O_k O_b O_6;have O_y:Q_y P w base cl tx 3 f_y:=ok_y O_b O_16;have R_c:∀ n:Nat,Q_c P w base cl tx (3+n) (S_c n 0)/\gI P w base cl tx (3+n) (S_c n 1):=by
  intro n
  induction n with
  | zero=>exact ⟨ZO rfl,ZO rfl⟩
  | succ n ih=>
   exact ⟨ok_c (j:=3+n) (by omega) O_18 ih.1 O_y ih.2,z0s (j:=3+n) (by omega) O_b ih.1⟩
 have O_c:Q_c P w base cl tx 23 (f_c 20):=(R_c 20).1;have O_19:gI P w base cl tx 23 (f_19 20):=(R_c 20).2;have O_1:Q_1 P w base cl tx 24 f_1:=ok_1 O_c;have O_n:Q_n P w base cl tx 25 f_n:=ok_n xq O_1;have O_m:Q_m P w base cl tx 1 f_m:=ok_m;have R_h:∀ n:Nat,Q_h P w base cl tx (1+n) (S_h n 0)/\gJ P w base cl tx (1+n) (S_h n 1):=by
  intro n
  induction n with
  | zero=>exact ⟨ZO rfl,ZO rfl⟩
  | succ n ih=>
   exact ⟨ok_h (j:=1+n) (by omega) O_k O_b O_m ih.2,z0t (j:=1+n) (by omega) ih.1⟩
 have O_h:Q_h P w base cl tx 21 (f_h 20):=(R_h 20).1;have O_15:gJ P w base cl tx 21 (f_15 20):=(R_h 20).2;have O_w:Q_w P w base cl tx 26 f_w:=ok_w O_n O_h;have O_13:z0i P w base cl tx 27 XD:=z0u xq O_w;have R_g:∀ n:Nat,Q_g P w base cl tx (0+n) (S_g n 0):=by
  intro n
  induction n with
  | zero=>exact ZO rfl
  | succ n ih=>
   exact ok_g (j:=0+n) (by omega) ih
 have O_g:Q_g P w base cl tx 8 (f_g 8):=(R_g 8);have O_10:z0j P w base cl tx 28 V2:=z0v O_13 O_g;have O_1b:z0k P w base cl tx 1 K3:=z0w xq;have O_count_shorter:jU P w base cl tx 1 j7:=ZO rfl;have O_count_of_parts:jC P w base cl tx 1 ZY:=ZO rfl;have O_j:Q_j P w base cl tx 2 f_j:=ok_j O_count_of_parts O_count_shorter;have O_many_at:uR P w base cl tx 1 wG:=ZO rfl;have O_parts_at:Wi P w base cl tx 1 JI:=ZO rfl;have O_17:z0l P w base cl tx 2 K4:=z0x O_m O_many_at O_parts_at;have O_11:z0m P w base cl tx 9 Qi:=z0y xq O_j O_17 O_g;have O_x:Q_x P w base cl tx 1 f_x:=ok_x xq;have O_q:Q_q P w base cl tx 1 f_q:=ok_q;have O_o:Q_o P w base cl tx 2 f_o:=ok_o O_x O_q;have R_4:∀ n:Nat,Q_4 P w base cl tx (9+n) (S_4 n 0)/\gK P w base cl tx (9+n) (S_4 n 1)/\Q_t P w base cl tx (9+n) (S_4 n 2):=by
  intro n
  induction n with
  | zero=>exact ⟨ZO rfl,ZO rfl,ZO rfl⟩
  | succ n ih=>
   exact ⟨ok_4 (j:=9+n) (by omega) O_11 ih.2.1 ih.2.2 O_o,z0z (j:=9+n) (by omega) xq ih.2.2,ok_t (j:=9+n) (by omega) xq ih.1⟩
 have O_4:Q_4 P w base cl tx 29 (f_4 20):=(R_4 20).1;have O_1c:gK P w base cl tx 29 (f_1c 20):=(R_4 20).2.1;have O_t:Q_t P w base cl tx 29 (f_t 20):=(R_4 20).2.2;have O_z:Q_z P w base cl tx 30 f_z:=ok_z O_n O_1b O_4;have O_d:Q_d P w base cl tx 31 f_d:=ok_d xq O_7 O_10 O_z;have O_p:Q_p P w base cl tx 1 f_p:=ok_p;have O_v:Q_v P w base cl tx 1 f_v:=ok_v;have R_a:∀ n:Nat,Q_a P w base cl tx (1+n) (S_a n 0):=by
  intro n
  induction n with
  | zero=>exact ZO rfl
  | succ n ih=>
   exact ok_a (j:=1+n) (by omega) O_p O_v ih
 have O_a:Q_a P w base cl tx 13 (f_a 12):=(R_a 12);have O_0:Q_0 P w base cl tx 42 f_0:=ok_0 O_2 O_3 O_s O_a O_r O_d O_5 O_i;exact O_0
end
def Vq:List Str:=["NoKind","NoWorth","NoRule","TooMany","Ended","NoText","NoBack"]
def clK (K:PySem.W.Frag) (c:Nat):Value:=match PySem.W.nsIn K mainGlobals (Vq.getD c "") with
 | some (some v)=>v
 | _=> .none
theorem Qd {K:PySem.W.Frag} {c:Nat} {x:Str} {q:Addr} (hx:Vq.getD c ""=x) (h:PySem.W.nsIn K mainGlobals x=some (some (.ref q))):clK K c= .ref q:=by unfold clK; rw [hx,h]
def z0A:List Nat:=[0,1,2,3,4,5]
def Qj (p:Nat->Bool):Bool:=z0A.all p
theorem g9 {c:Nat} (h:okX c=true):c∈z0A:=by
 have h:c < 6:=of_decide_eq_true h;unfold z0A; simp; omega
theorem jz {p:Nat->Bool} (h:Qj p=true) {c:Nat} (hc:okX c=true):p c=true:=List.all_eq_true.mp h c (g9 hc)
def Xv (K:PySem.W.Frag) (v:Value):Bool:=match v with
 | .ref C=>PySem.W.findIn K (.ref C) "__getattribute__" == some (some (.builtin "BaseException.__getattribute__")) && (PySem.W.findIn K (.ref C) "__getattr__" == some none && (PySem.W.findIn K (.ref C) "__class__" == some (some (.builtin "object.__class__")) && (PySem.W.specialIn K (.builtin "object.__class__") "__get__" == some (some (.builtin "getset_descriptor.__get__")) && (PySem.W.takesIn K (.builtin "object.__class__") == some true && (PySem.W.mroIn K C (.type "object") == some true && (PySem.W.mroIn K C (.type "BaseException") == some true && (PySem.W.clsIn K C).isSome))))))
 | _=>false
theorem vD {K:PySem.W.Frag} {v:Value} (h:Xv K v=true):∃ C,v= .ref C/\PySem.W.XCls K C:=by
 unfold Xv at h;split at h
 ·rename_i C;simp only [Bool.and_eq_true,beq_iff_eq] at h;obtain ⟨h1,h2,h3,h4,h5,h6,h7,h8⟩:=h;exact ⟨C,rfl,h1,h2,h3,h4,h5,h6,h7,h8⟩
 ·cases h
theorem Qe {K:PySem.W.Frag} {base:Heap} {mg:Str->Option Value} {x:Str} {C:Addr} {bmB:List Value} {newId:String} (KB:K.In base) (hb:mg x=some (.ref C)) (h:PySem.W.excIn K C bmB newId=true):OwnCls x C bmB newId mg base:=by
 unfold PySem.W.excIn at h;split at h
 ·rename_i dd cd sl hC;split at h
  ·rename_i C1 bm a0 a1 a2 a3 m a5 hm hs;simp only [Bool.and_eq_true,beq_iff_eq,Bool.not_eq_true'] at h;obtain ⟨⟨⟨⟨⟨h1,h2⟩,h3⟩,h4⟩,h5⟩,h6⟩:=h;subst h1 h2;cases cd with
   | mk nm bs mro ns qn hd sn sub ab col del=>
    dsimp only at hm h3 h5 h6;subst hm h3;obtain rfl:sl= #[a0,a1,a2,a3,some (.builtin m),a5]:=by
     cases sl; simp only at hs; rw [hs]
    exact ⟨hb,bm,ns,nm,qn,bs,hd,sn,sub,ab,col,dd,a0,a1,a2,a3,a5,_,KB _ _ hC, .of_isNs (PySem.W.isNs_of_in KB h5),PySem.W.nsMap_none_of_in KB h5 h6,PySem.W.tail_of_in KB h4⟩
  ·cases h
 ·cases h
theorem fn1 {K:PySem.W.Frag} {h:Heap} {mg:Str->Option Value} {f:Addr} {od an:Option Addr} {sl:Array (Option Value)} {oc kV dc pm cd ct:Value} {x:Str} {st:Stmt} {ps:List Str} (X:K.In h) (G:h.Ns mainGlobals mg) (e:PySem.W.nsIn K mainGlobals x=some (some (.ref f))) (l:K.lookup f=some ⟨oc,od, .func (PySem.W.fnOf x x (jH st) (ZS st) (zf st) .none kV dc pm an cd ct),sl⟩) (g:PySem.W.codeIn K cd x=true) (k:PySem.W.keepIn K (.ref f)=true)
  (hb:∀ F:Fun K x x st f (PySem.W.fnOf x x (jH st) (ZS st) (zf st) .none kV dc pm an cd ct),L2.Binds K (PySem.W.fnOf x x (jH st) (ZS st) (zf st) .none kV dc pm an cd ct) ps []):Fn K mg x st ps f (PySem.W.fnOf x x (jH st) (ZS st) (zf st) .none kV dc pm an cd ct):=
 have F:=kw (st:=st) l g k
 ⟨F,hb F,PySem.W.mg_of X G e⟩
theorem fin_ {l:PySem.W.OpenLaw} {w:World} {K:PySem.W.Frag} {h:Heap} {mg:Str->Option Value} {fa:Addr} (X:K.In h) (G:h.Ns mainGlobals mg) (hfa:mg "law"=some (.ref fa)) (tx:Tx K mg) (hB:∀ (s:Shared) (v:Value),BindsTo s tx.d_0 ⟨[v],[]⟩ [("_law_script",v)]) {q_Ended q_NoKind q_NoRule q_NoText q_NoWorth q_TooMany q_WorthError:Addr} (n_Ended:PySem.W.nsIn K mainGlobals "Ended"=some (some (.ref q_Ended))) (n_NoKind:PySem.W.nsIn K mainGlobals "NoKind"=some (some (.ref q_NoKind))) (n_NoRule:PySem.W.nsIn K mainGlobals "NoRule"=some (some (.ref q_NoRule))) (n_NoText:PySem.W.nsIn K mainGlobals "NoText"=some (some (.ref q_NoText))) (n_NoWorth:PySem.W.nsIn K mainGlobals "NoWorth"=some (some (.ref q_NoWorth))) (n_TooMany:PySem.W.nsIn K mainGlobals "TooMany"=some (some (.ref q_TooMany))) (n_WorthError:PySem.W.nsIn K mainGlobals "WorthError"=some (some (.ref q_WorthError))) (b_K:Qj (λc=>Xv K (clK K c))=true) (b_e_WorthError:Qj (λc=>PySem.W.exmOne K (clK K c) (.ref q_WorthError) == some true)=true) (b_o_NoKind:PySem.W.excIn K q_NoKind XL "ValueError.__new__"=true) (b_o_NoText:PySem.W.excIn K q_NoText XL "ValueError.__new__"=true) (b_o_NoWorth:PySem.W.excIn K q_NoWorth XL "ValueError.__new__"=true) (b_t_Ended:Qj (λc=>PySem.W.kitOne K (clK K c) (.ref q_Ended) == some (wF c))=true) (b_t_NoKind:Qj (λc=>PySem.W.kitOne K (clK K c) (.ref q_NoKind) == some (JF c))=true) (b_t_NoRule:Qj (λc=>PySem.W.kitOne K (clK K c) (.ref q_NoRule) == some (JG c))=true) (b_t_NoText:Qj (λc=>PySem.W.kitOne K (clK K c) (.ref q_NoText) == some (JH c))=true) (b_t_NoWorth:Qj (λc=>PySem.W.kitOne K (clK K c) (.ref q_NoWorth) == some (Ja c))=true) (b_t_TooMany:Qj (λc=>PySem.W.kitOne K (clK K c) (.ref q_TooMany) == some (Jb c))=true) (b_t_ValueError:Qj (λc=>PySem.W.kitOne K (clK K c) (.type "ValueError") == some (jp c))=true):∃ fd:FuncData,(∀ (s:Shared) (v:Value),BindsTo s fd ⟨[v],[]⟩ [("_law_script",v)])/\∀ base:Heap,K.In base->base.Ns mainGlobals mg->Zm l.prog w K mg base CX0 42 fa fd ["_law_script"] (spP (clK K) 1 f_0):=by
 have e:=hfa.symm.trans tx.C_0.m;cases e;exact ⟨tx.d_0,hB,λbase KB _=>g6 ⟨q_Ended,q_NoKind,q_NoRule,q_NoText,q_NoWorth,q_TooMany,q_WorthError,⟨λc hc=>vD (jz b_K hc)⟩,(λc hc=>beq_iff_eq.mp (jz b_e_WorthError hc)),(Qd (x:="NoKind") rfl n_NoKind),(Qd (x:="NoText") rfl n_NoText),(Qd (x:="NoWorth") rfl n_NoWorth),(PySem.W.mg_of X G n_Ended),(PySem.W.mg_of X G n_NoKind),(PySem.W.mg_of X G n_NoRule),(PySem.W.mg_of X G n_NoText),(PySem.W.mg_of X G n_NoWorth),(PySem.W.mg_of X G n_TooMany),(PySem.W.mg_of X G n_WorthError),(Qe KB (PySem.W.mg_of X G n_NoKind) b_o_NoKind),(Qe KB (PySem.W.mg_of X G n_NoText) b_o_NoText),(Qe KB (PySem.W.mg_of X G n_NoWorth) b_o_NoWorth),(λc hc=>beq_iff_eq.mp (jz b_t_Ended hc)),(λc hc=>beq_iff_eq.mp (jz b_t_NoKind hc)),(λc hc=>beq_iff_eq.mp (jz b_t_NoRule hc)),(λc hc=>beq_iff_eq.mp (jz b_t_NoText hc)),(λc hc=>beq_iff_eq.mp (jz b_t_NoWorth hc)),(λc hc=>beq_iff_eq.mp (jz b_t_TooMany hc)),(λc hc=>beq_iff_eq.mp (jz b_t_ValueError hc))⟩⟩
def Uu (K:PySem.W.Frag):Bool:=K.all λp=> !(p.2.cls == Value.type "list")
theorem Xw {K:PySem.W.Frag} (h:Uu K=true) {a:Addr} {o:Obj} (e:K.lookup a=some o) (c:o.cls=Value.type "list"):False:=by
 have hm:(a,o)∈K:=by
  clear h
  induction K with
  | nil=>cases e
  | cons p r ih=>
   obtain ⟨b,u⟩:=p
   by_cases hb:a=b
   ·subst hb;have e' :some u=some o:=by simpa [List.lookup_cons] using e
    cases e'; exact List.mem_cons_self
   ·have e' :r.lookup a=some o:=by rw [List.lookup_cons,(beq_eq_false_iff_ne.mpr hb)] at e; exact e
    exact List.mem_cons_of_mem _ (ih e')
 have:=List.all_eq_true.mp h _ hm;rw [c] at this;simp at this
theorem gc {cl:Nat->Value} {K:PySem.W.Frag} {H:Hp} {a:Addr} {ns:List Int} (hL:f_0 [.fz (ns.map T.int)]= .ok (.bl true)) (hK:Uu K=true) (hO:gf H) (hS:SqL K H a (ns.map V.int)):spP cl 1 f_0 [.ref a] H (λv _=>v= .bl true) λ_ _ _=>False:=by
 have scrR:∀ ns:List Int,zT H (ns.map V.int) (ns.map T.int):=λns=>by
  induction ns with
  | nil=>exact .nil
  | cons n r ih=>exact .cons (.int n) ih
 rcases hS with (h | ⟨o,h⟩) | ⟨o,its,n,e,c,_⟩
 ·rcases hO a with z | ⟨ob,xs,z⟩ <;> (rw [h] at z; cases z)
 ·refine ⟨H,[.fz (ns.map T.int)],rfl,zJ.refl H, .cons (.fz h (scrR ns)) .nil, ?_⟩;rw [hL];intro v H' _ r;cases r; rfl
 ·exact (Xw hK e c).elim
theorem walk {l:PySem.W.OpenLaw} {q:Program} {loose:List Str} {XP:(Str->Option Value)->Heap->Prop} {YP:World->Heap->Prop} {d:DefRec} {K:Params->PySem.W.Frag} (hn:l.most=some 63) (hdf:d.params.defaults=[])
  (hL:∀ ns:List Int,ns.length<=63->f_0 [.fz (ns.map T.int)]= .ok (.bl true)) (hK:∀ p,Uu (K p)=true)
  (hY:∀ (w:World) (h:Heap),YP w h->(K w.params).In h)
  (F:∀ (w:World) (mg:Str->Option Value) (fa:Addr) (h:Heap),(K w.params).In h->h.Ns mainGlobals mg->mg d.name=some (.ref fa)->
   ∃ fd:FuncData,(∀ (s:Shared) (u:Value),BindsTo s fd ⟨[u],[]⟩ [("_law_script",u)])/\∀ base:Heap,(K w.params).In base->base.Ns mainGlobals mg->Zm l.prog w (K w.params) mg base CX0 42 fa fd ["_law_script"] (spP (clK (K w.params)) 1 f_0)):
  PySem.W.WalkO q loose XP YP l.row.toRowW d [] (λf vs=>PySem.call f vs):=
 L2.walk_of (n:=63) (k:=42) (x:="_law_script") (CX:=λw=>CX0) (sp:=λw=>spP (clK (K w.params)) 1 f_0) hn (by decide) hdf ⟨rfl,by decide,by decide⟩ hY F (λw H a ns hl hO hS=>gc (hL ns hl) (hK w.params) hO hS) λ_ _ _ _ _ z=>z
end G
namespace PySem.W.Fast
def tw6826208468667195359:=0
def tw4143524214290881336:=0
def tw12295047344042455511:=0
def tw4287028617109590301:=0
def tw3051754248123362919:=0
def tw3268539866889727176:=0
def tw10299089787150996926:=0
def tw6579088938607257379:=0
def tw17656501416538305809:=0
def tw7211784286606112704:=0
def tw17446962450343364114:=0
def tw3643071302144975431:=0
def tw4300693241762071245:=0
def tw12843420695475740388:=0
def tw13404372249860033374:=0
def tw11301772126775408766:=0
def tw13060817053996483944:=0
def tw10711767095371422662:=0
def tw2996684952970309804:=0
def tw18307877882358747060:=0
def tw2003843283505436923:=0
def tw16045145103610779002:=0
def tw4472368828273845437:=0
def tw11819097464191587475:=0
def tw7497980647164385728:=0
def tw4603875548678522731:=0
def tw18355393255006969655:=0
def tw5537425915184090976:=0
def tw15895619201893879862:=0
def tw5187854742456581571:=0
def tw12855989381797255532:=0
def tw2236554016697374285:=0
def tw4711870281719774747:=0
def tw3472347688433248564:=0
def tw4629682113101226666:=0
def tw17280515648903576374:=0
def tw7305891332478006619:=0
def tw16176567024002163469:=0
def tw17961379337754874396:=0
def tw12886852141594897841:=0
def tw6905918583143479714:=0
def tw4282360994550389889:=0
def tw15334838990146488296:=0
def tw12642935184138129056:=0
def tw3042539143231580861:=0
def tw16987485164775700907:=0
def tw328399546640166682:=0
def tw3629086613812369822:=0
def tw4514080310371552985:=0
def tw13504068803818114388:=0
def tw14979418302850344472:=0
def tw3401125693107342031:=0
def tw698264999013278203:=0
def tw15505152934062010130:=0
def tw5897212235161090418:=0
def tw6051480702327665363:=0
def tw13395681868053208033:=0
def tw11943250756440923933:=0
def tw13250004105625580255:=0
def tw2119411552305538354:=0
def tw5719638221584497688:=0
def tw8355957383774553535:=0
def tw9032177706598601606:=0
def tw3439683434108970672:=0
def tw6228254224372731851:=0
def tw11336101937749546582:=0
def tw4061401534892227237:=0
def tw8378622842268586136:=0
def tw6797550791044149251:=0
def tw17190935527286442063:=0
def tw8199294877156028173:=0
def tw11554720485583851777:=0
def tw3501678762035907029:=0
def tw14800738294060333397:=0
def tw2972328566460921180:=0
def tw13010993085265318312:=0
def tw13646355700360082616:=0
end PySem.W.Fast
open PySem PySem.W PyProof.Rows
set_option maxRecDepth 100000 in
set_option maxHeartbeats 0 in
theorem PySem.Challenge.cw_worthkinds_k70_whole_texts_holds : PySem.Challenge.rw_worthkinds_k70_whole_texts.Holds := by
 w_on; o_law; k_head; (case hw=>w_witness2)
 k_fill
 refine G.walk (l:=PySem.Challenge.rw_worthkinds_k70_whole_texts) rfl rfl G.law_ok ?nl (fun w h Y=>PySem.W.kIn_of Y) ?F
 case nl=>intro p; kernel_rfl
 case F=>
  intro w mg fa h KX G0 hmg
  obtain ⟨a0,d0,C0⟩:∃ a d,G.Fn _ mg "_law_cell" G.s_1a ["_law_script","_law_k"] a d:=by
   refine' ⟨_,_,G.fn1 KX G0 ?e ?l ?g ?k (fun F=>F.binds (ps:=["_law_script","_law_k"]) fun _ _ _ _ _ _ us hl=>match us,hl with | [_,_],_=>rfl)⟩
   (case e|l|g|k=>k_is)
  obtain ⟨a1,d1,C1⟩:∃ a d,G.Fn _ mg "_law_pick" G.s_2 ["_law_script","_law_k","_law_many"] a d:=by
   refine' ⟨_,_,G.fn1 KX G0 ?e ?l ?g ?k (fun F=>F.binds (ps:=["_law_script","_law_k","_law_many"]) fun _ _ _ _ _ _ us hl=>match us,hl with | [_,_,_],_=>rfl)⟩
   (case e|l|g|k=>k_is)
  obtain ⟨a2,d2,C2⟩:∃ a d,G.Fn _ mg "_law_word_of" G.GZ ["_law_script","_law_at_here"] a d:=by
   refine' ⟨_,_,G.fn1 KX G0 ?e ?l ?g ?k (fun F=>F.binds (ps:=["_law_script","_law_at_here"]) fun _ _ _ _ _ _ us hl=>match us,hl with | [_,_],_=>rfl)⟩
   (case e|l|g|k=>k_is)
  obtain ⟨a3,d3,C3⟩:∃ a d,G.Fn _ mg "_law_leaf_kind" G.s_u ["_law_script","_law_at_here"] a d:=by
   refine' ⟨_,_,G.fn1 KX G0 ?e ?l ?g ?k (fun F=>F.binds (ps:=["_law_script","_law_at_here"]) fun _ _ _ _ _ _ us hl=>match us,hl with | [_,_],_=>rfl)⟩
   (case e|l|g|k=>k_is)
  obtain ⟨a4,d4,C4⟩:∃ a d,G.Fn _ mg "_law_kind" G.s_f ["_law_script","_law_at_here","_law_deep"] a d:=by
   refine' ⟨_,_,G.fn1 KX G0 ?e ?l ?g ?k (fun F=>F.binds (ps:=["_law_script","_law_at_here","_law_deep"]) fun _ _ _ _ _ _ us hl=>match us,hl with | [_,_,_],_=>rfl)⟩
   (case e|l|g|k=>k_is)
  obtain ⟨a5,d5,C5⟩:∃ a d,G.Fn _ mg "_law_rows_of" G.s_e ["_law_lists"] a d:=by
   refine' ⟨_,_,G.fn1 KX G0 ?e ?l ?g ?k (fun F=>F.binds (ps:=["_law_lists"]) fun _ _ _ _ _ _ us hl=>match us,hl with | [_],_=>rfl)⟩
   (case e|l|g|k=>k_is)
  obtain ⟨a6,d6,C6⟩:∃ a d,G.Fn _ mg "_law_all" G.s_3 ["_law_kind_here"] a d:=by
   refine' ⟨_,_,G.fn1 KX G0 ?e ?l ?g ?k (fun F=>F.binds (ps:=["_law_kind_here"]) fun _ _ _ _ _ _ us hl=>match us,hl with | [_],_=>rfl)⟩
   (case e|l|g|k=>k_is)
  obtain ⟨a7,d7,C7⟩:∃ a d,G.Fn _ mg "_law_size" G.s_8 ["_law_kind_here"] a d:=by
   refine' ⟨_,_,G.fn1 KX G0 ?e ?l ?g ?k (fun F=>F.binds (ps:=["_law_kind_here"]) fun _ _ _ _ _ _ us hl=>match us,hl with | [_],_=>rfl)⟩
   (case e|l|g|k=>k_is)
  obtain ⟨a8,d8,C8⟩:∃ a d,G.Fn _ mg "_law_small" G.s_s ["_law_script","_law_at_here","_law_most"] a d:=by
   refine' ⟨_,_,G.fn1 KX G0 ?e ?l ?g ?k (fun F=>F.binds (ps:=["_law_script","_law_at_here","_law_most"]) fun _ _ _ _ _ _ us hl=>match us,hl with | [_,_,_],_=>rfl)⟩
   (case e|l|g|k=>k_is)
  obtain ⟨a9,d9,C9⟩:∃ a d,G.Fn _ mg "_law_places" G.s_l ["_law_thing"] a d:=by
   refine' ⟨_,_,G.fn1 KX G0 ?e ?l ?g ?k (fun F=>F.binds (ps:=["_law_thing"]) fun _ _ _ _ _ _ us hl=>match us,hl with | [_],_=>rfl)⟩
   (case e|l|g|k=>k_is)
  obtain ⟨a10,d10,C10⟩:∃ a d,G.Fn _ mg "_law_at" G.s_14 ["_law_thing","_law_place"] a d:=by
   refine' ⟨_,_,G.fn1 KX G0 ?e ?l ?g ?k (fun F=>F.binds (ps:=["_law_thing","_law_place"]) fun _ _ _ _ _ _ us hl=>match us,hl with | [_,_],_=>rfl)⟩
   (case e|l|g|k=>k_is)
  obtain ⟨a11,d11,C11⟩:∃ a d,G.Fn _ mg "_law_put" G.s_9 ["_law_thing","_law_place","_law_new"] a d:=by
   refine' ⟨_,_,G.fn1 KX G0 ?e ?l ?g ?k (fun F=>F.binds (ps:=["_law_thing","_law_place","_law_new"]) fun _ _ _ _ _ _ us hl=>match us,hl with | [_,_,_],_=>rfl)⟩
   (case e|l|g|k=>k_is)
  obtain ⟨a12,d12,C12⟩:∃ a d,G.Fn _ mg "_law_spoilt_thing" G.s_r ["_law_script","_law_at_here","_law_thing"] a d:=by
   refine' ⟨_,_,G.fn1 KX G0 ?e ?l ?g ?k (fun F=>F.binds (ps:=["_law_script","_law_at_here","_law_thing"]) fun _ _ _ _ _ _ us hl=>match us,hl with | [_,_,_],_=>rfl)⟩
   (case e|l|g|k=>k_is)
  obtain ⟨a13,d13,C13⟩:∃ a d,G.Fn _ mg "_law_text" G.s_i ["_law_worth"] a d:=by
   refine' ⟨_,_,G.fn1 KX G0 ?e ?l ?g ?k (fun F=>F.binds (ps:=["_law_worth"]) fun _ _ _ _ _ _ us hl=>match us,hl with | [_],_=>rfl)⟩
   (case e|l|g|k=>k_is)
  obtain ⟨a14,d14,C14⟩:∃ a d,G.Fn _ mg "_law_spoilt" G.s_5 ["_law_text_here","_law_cell_here","_law_signs"] a d:=by
   refine' ⟨_,_,G.fn1 KX G0 ?e ?l ?g ?k (fun F=>F.binds (ps:=["_law_text_here","_law_cell_here","_law_signs"]) fun _ _ _ _ _ _ us hl=>match us,hl with | [_,_,_],_=>rfl)⟩
   (case e|l|g|k=>k_is)
  obtain ⟨a15,d15,C15⟩:∃ a d,G.Fn _ mg "_law_word" G.s_7 ["_law_kept"] a d:=by
   refine' ⟨_,_,G.fn1 KX G0 ?e ?l ?g ?k (fun F=>F.binds (ps:=["_law_kept"]) fun _ _ _ _ _ _ us hl=>match us,hl with | [_],_=>rfl)⟩
   (case e|l|g|k=>k_is)
  obtain ⟨a16,d16,C16⟩:∃ a d,G.Fn _ mg "is_whole" G.s_k ["thing"] a d:=by
   refine' ⟨_,_,G.fn1 KX G0 ?e ?l ?g ?k (fun F=>F.binds (ps:=["thing"]) fun _ _ _ _ _ _ us hl=>match us,hl with | [_],_=>rfl)⟩
   (case e|l|g|k=>k_is)
  obtain ⟨a17,d17,C17⟩:∃ a d,G.Fn _ mg "is_span" G.s_18 ["low","high","least","most"] a d:=by
   refine' ⟨_,_,G.fn1 KX G0 ?e ?l ?g ?k (fun F=>F.binds (ps:=["low","high","least","most"]) fun _ _ _ _ _ _ us hl=>match us,hl with | [_,_,_,_],_=>rfl)⟩
   (case e|l|g|k=>k_is)
  obtain ⟨a18,d18,C18⟩:∃ a d,G.Fn _ mg "is_tuple_of" G.s_b ["thing","least","most"] a d:=by
   refine' ⟨_,_,G.fn1 KX G0 ?e ?l ?g ?k (fun F=>F.binds (ps:=["thing","least","most"]) fun _ _ _ _ _ _ us hl=>match us,hl with | [_,_,_],_=>rfl)⟩
   (case e|l|g|k=>k_is)
  obtain ⟨a19,d19,C19⟩:∃ a d,G.Fn _ mg "is_word" G.s_6 ["thing"] a d:=by
   refine' ⟨_,_,G.fn1 KX G0 ?e ?l ?g ?k (fun F=>F.binds (ps:=["thing"]) fun _ _ _ _ _ _ us hl=>match us,hl with | [_],_=>rfl)⟩
   (case e|l|g|k=>k_is)
  obtain ⟨a20,d20,C20⟩:∃ a d,G.Fn _ mg "is_choice" G.s_16 ["thing"] a d:=by
   refine' ⟨_,_,G.fn1 KX G0 ?e ?l ?g ?k (fun F=>F.binds (ps:=["thing"]) fun _ _ _ _ _ _ us hl=>match us,hl with | [_],_=>rfl)⟩
   (case e|l|g|k=>k_is)
  obtain ⟨a21,d21,C21⟩:∃ a d,G.Fn _ mg "are_choices" G.s_y ["thing"] a d:=by
   refine' ⟨_,_,G.fn1 KX G0 ?e ?l ?g ?k (fun F=>F.binds (ps:=["thing"]) fun _ _ _ _ _ _ us hl=>match us,hl with | [_],_=>rfl)⟩
   (case e|l|g|k=>k_is)
  obtain ⟨a22,d22,C22⟩:∃ a d,G.Fn _ mg "is_kind_within" G.s_c ["thing","levels"] a d:=by
   refine' ⟨_,_,G.fn1 KX G0 ?e ?l ?g ?k (fun F=>F.binds (ps:=["thing","levels"]) fun _ _ _ _ _ _ us hl=>match us,hl with | [_,_],_=>rfl)⟩
   (case e|l|g|k=>k_is)
  obtain ⟨a23,d23,C23⟩:∃ a d,G.Fn _ mg "are_kinds_within" G.z04 ["thing","levels"] a d:=by
   refine' ⟨_,_,G.fn1 KX G0 ?e ?l ?g ?k (fun F=>F.binds (ps:=["thing","levels"]) fun _ _ _ _ _ _ us hl=>match us,hl with | [_,_],_=>rfl)⟩
   (case e|l|g|k=>k_is)
  obtain ⟨a24,d24,C24⟩:∃ a d,G.Fn _ mg "is_kind" G.s_1 ["thing"] a d:=by
   refine' ⟨_,_,G.fn1 KX G0 ?e ?l ?g ?k (fun F=>F.binds (ps:=["thing"]) fun _ _ _ _ _ _ us hl=>match us,hl with | [_],_=>rfl)⟩
   (case e|l|g|k=>k_is)
  obtain ⟨a25,d25,C25⟩:∃ a d,G.Fn _ mg "need_kind" G.s_n ["kind"] a d:=by
   refine' ⟨_,_,G.fn1 KX G0 ?e ?l ?g ?k (fun F=>F.binds (ps:=["kind"]) fun _ _ _ _ _ _ us hl=>match us,hl with | [_],_=>rfl)⟩
   (case e|l|g|k=>k_is)
  obtain ⟨a26,d26,C26⟩:∃ a d,G.Fn _ mg "words_of_pick" G.s_m ["kind"] a d:=by
   refine' ⟨_,_,G.fn1 KX G0 ?e ?l ?g ?k (fun F=>F.binds (ps:=["kind"]) fun _ _ _ _ _ _ us hl=>match us,hl with | [_],_=>rfl)⟩
   (case e|l|g|k=>k_is)
  obtain ⟨a27,d27,C27⟩:∃ a d,G.Fn _ mg "has_worth" G.s_h ["kind","thing"] a d:=by
   refine' ⟨_,_,G.fn1 KX G0 ?e ?l ?g ?k (fun F=>F.binds (ps:=["kind","thing"]) fun _ _ _ _ _ _ us hl=>match us,hl with | [_,_],_=>rfl)⟩
   (case e|l|g|k=>k_is)
  obtain ⟨a28,d28,C28⟩:∃ a d,G.Fn _ mg "have_parts" G.z06 ["kinds","parts"] a d:=by
   refine' ⟨_,_,G.fn1 KX G0 ?e ?l ?g ?k (fun F=>F.binds (ps:=["kinds","parts"]) fun _ _ _ _ _ _ us hl=>match us,hl with | [_,_],_=>rfl)⟩
   (case e|l|g|k=>k_is)
  obtain ⟨a29,d29,C29⟩:∃ a d,G.Fn _ mg "is_worth" G.s_w ["kind","thing"] a d:=by
   refine' ⟨_,_,G.fn1 KX G0 ?e ?l ?g ?k (fun F=>F.binds (ps:=["kind","thing"]) fun _ _ _ _ _ _ us hl=>match us,hl with | [_,_],_=>rfl)⟩
   (case e|l|g|k=>k_is)
  obtain ⟨a30,d30,C30⟩:∃ a d,G.Fn _ mg "need_worth" G.s_13 ["kind","worth"] a d:=by
   refine' ⟨_,_,G.fn1 KX G0 ?e ?l ?g ?k (fun F=>F.binds (ps:=["kind","worth"]) fun _ _ _ _ _ _ us hl=>match us,hl with | [_,_],_=>rfl)⟩
   (case e|l|g|k=>k_is)
  obtain ⟨a31,d31,C31⟩:∃ a d,G.Fn _ mg "worth_written" G.s_g ["worth"] a d:=by
   refine' ⟨_,_,G.fn1 KX G0 ?e ?l ?g ?k (fun F=>F.binds (ps:=["worth"]) fun _ _ _ _ _ _ us hl=>match us,hl with | [_],_=>rfl)⟩
   (case e|l|g|k=>k_is)
  obtain ⟨a32,d32,C32⟩:∃ a d,G.Fn _ mg "worth_text" G.s_10 ["kind","worth"] a d:=by
   refine' ⟨_,_,G.fn1 KX G0 ?e ?l ?g ?k (fun F=>F.binds (ps:=["kind","worth"]) fun _ _ _ _ _ _ us hl=>match us,hl with | [_,_],_=>rfl)⟩
   (case e|l|g|k=>k_is)
  obtain ⟨a33,d33,C33⟩:∃ a d,G.Fn _ mg "need_text" G.s_1b ["thing"] a d:=by
   refine' ⟨_,_,G.fn1 KX G0 ?e ?l ?g ?k (fun F=>F.binds (ps:=["thing"]) fun _ _ _ _ _ _ us hl=>match us,hl with | [_],_=>rfl)⟩
   (case e|l|g|k=>k_is)
  obtain ⟨a34,d34,C34⟩:∃ a d,G.Fn _ mg "count_shorter" G.wT ["kind","length"] a d:=by
   refine' ⟨_,_,G.fn1 KX G0 ?e ?l ?g ?k (fun F=>F.binds (ps:=["kind","length"]) fun _ _ _ _ _ _ us hl=>match us,hl with | [_,_],_=>rfl)⟩
   (case e|l|g|k=>k_is)
  obtain ⟨a35,d35,C35⟩:∃ a d,G.Fn _ mg "count_of_parts" G.w4 ["kinds"] a d:=by
   refine' ⟨_,_,G.fn1 KX G0 ?e ?l ?g ?k (fun F=>F.binds (ps:=["kinds"]) fun _ _ _ _ _ _ us hl=>match us,hl with | [_],_=>rfl)⟩
   (case e|l|g|k=>k_is)
  obtain ⟨a36,d36,C36⟩:∃ a d,G.Fn _ mg "count_of" G.s_j ["kind"] a d:=by
   refine' ⟨_,_,G.fn1 KX G0 ?e ?l ?g ?k (fun F=>F.binds (ps:=["kind"]) fun _ _ _ _ _ _ us hl=>match us,hl with | [_],_=>rfl)⟩
   (case e|l|g|k=>k_is)
  obtain ⟨a37,d37,C37⟩:∃ a d,G.Fn _ mg "many_at" G.Qc ["kind","number"] a d:=by
   refine' ⟨_,_,G.fn1 KX G0 ?e ?l ?g ?k (fun F=>F.binds (ps:=["kind","number"]) fun _ _ _ _ _ _ us hl=>match us,hl with | [_,_],_=>rfl)⟩
   (case e|l|g|k=>k_is)
  obtain ⟨a38,d38,C38⟩:∃ a d,G.Fn _ mg "parts_at" G.yT ["kinds","number"] a d:=by
   refine' ⟨_,_,G.fn1 KX G0 ?e ?l ?g ?k (fun F=>F.binds (ps:=["kinds","number"]) fun _ _ _ _ _ _ us hl=>match us,hl with | [_,_],_=>rfl)⟩
   (case e|l|g|k=>k_is)
  obtain ⟨a39,d39,C39⟩:∃ a d,G.Fn _ mg "worth_at" G.s_17 ["kind","number"] a d:=by
   refine' ⟨_,_,G.fn1 KX G0 ?e ?l ?g ?k (fun F=>F.binds (ps:=["kind","number"]) fun _ _ _ _ _ _ us hl=>match us,hl with | [_,_],_=>rfl)⟩
   (case e|l|g|k=>k_is)
  obtain ⟨a40,d40,C40⟩:∃ a d,G.Fn _ mg "single_in" G.s_11 ["kind","text"] a d:=by
   refine' ⟨_,_,G.fn1 KX G0 ?e ?l ?g ?k (fun F=>F.binds (ps:=["kind","text"]) fun _ _ _ _ _ _ us hl=>match us,hl with | [_,_],_=>rfl)⟩
   (case e|l|g|k=>k_is)
  obtain ⟨a41,d41,C41⟩:∃ a d,G.Fn _ mg "text_inside" G.s_x ["text","opening","closing"] a d:=by
   refine' ⟨_,_,G.fn1 KX G0 ?e ?l ?g ?k (fun F=>F.binds (ps:=["text","opening","closing"]) fun _ _ _ _ _ _ us hl=>match us,hl with | [_,_,_],_=>rfl)⟩
   (case e|l|g|k=>k_is)
  obtain ⟨a42,d42,C42⟩:∃ a d,G.Fn _ mg "pieces_between" G.s_q ["text","mark"] a d:=by
   refine' ⟨_,_,G.fn1 KX G0 ?e ?l ?g ?k (fun F=>F.binds (ps:=["text","mark"]) fun _ _ _ _ _ _ us hl=>match us,hl with | [_,_],_=>rfl)⟩
   (case e|l|g|k=>k_is)
  obtain ⟨a43,d43,C43⟩:∃ a d,G.Fn _ mg "pieces_of_tuple" G.s_o ["text"] a d:=by
   refine' ⟨_,_,G.fn1 KX G0 ?e ?l ?g ?k (fun F=>F.binds (ps:=["text"]) fun _ _ _ _ _ _ us hl=>match us,hl with | [_],_=>rfl)⟩
   (case e|l|g|k=>k_is)
  obtain ⟨a44,d44,C44⟩:∃ a d,G.Fn _ mg "worth_in" G.s_4 ["kind","text"] a d:=by
   refine' ⟨_,_,G.fn1 KX G0 ?e ?l ?g ?k (fun F=>F.binds (ps:=["kind","text"]) fun _ _ _ _ _ _ us hl=>match us,hl with | [_,_],_=>rfl)⟩
   (case e|l|g|k=>k_is)
  obtain ⟨a45,d45,C45⟩:∃ a d,G.Fn _ mg "many_in" G.s_1c ["kind","pieces"] a d:=by
   refine' ⟨_,_,G.fn1 KX G0 ?e ?l ?g ?k (fun F=>F.binds (ps:=["kind","pieces"]) fun _ _ _ _ _ _ us hl=>match us,hl with | [_,_],_=>rfl)⟩
   (case e|l|g|k=>k_is)
  obtain ⟨a46,d46,C46⟩:∃ a d,G.Fn _ mg "parts_in" G.s_t ["kinds","pieces"] a d:=by
   refine' ⟨_,_,G.fn1 KX G0 ?e ?l ?g ?k (fun F=>F.binds (ps:=["kinds","pieces"]) fun _ _ _ _ _ _ us hl=>match us,hl with | [_,_],_=>rfl)⟩
   (case e|l|g|k=>k_is)
  obtain ⟨a47,d47,C47⟩:∃ a d,G.Fn _ mg "read_worth" G.s_z ["kind","text"] a d:=by
   refine' ⟨_,_,G.fn1 KX G0 ?e ?l ?g ?k (fun F=>F.binds (ps:=["kind","text"]) fun _ _ _ _ _ _ us hl=>match us,hl with | [_,_],_=>rfl)⟩
   (case e|l|g|k=>k_is)
  obtain ⟨a48,d48,C48⟩:∃ a d,G.Fn _ mg "_law_tried" G.s_d ["_law_what","_law_kind_here","_law_thing"] a d:=by
   refine' ⟨_,_,G.fn1 KX G0 ?e ?l ?g ?k (fun F=>F.binds (ps:=["_law_what","_law_kind_here","_law_thing"]) fun _ _ _ _ _ _ us hl=>match us,hl with | [_,_,_],_=>rfl)⟩
   (case e|l|g|k=>k_is)
  obtain ⟨a49,d49,C49⟩:∃ a d,G.Fn _ mg "_law_whole" G.s_p ["_law_thing","_law_low","_law_high"] a d:=by
   refine' ⟨_,_,G.fn1 KX G0 ?e ?l ?g ?k (fun F=>F.binds (ps:=["_law_thing","_law_low","_law_high"]) fun _ _ _ _ _ _ us hl=>match us,hl with | [_,_,_],_=>rfl)⟩
   (case e|l|g|k=>k_is)
  obtain ⟨a50,d50,C50⟩:∃ a d,G.Fn _ mg "_law_is_word" G.s_v ["_law_thing"] a d:=by
   refine' ⟨_,_,G.fn1 KX G0 ?e ?l ?g ?k (fun F=>F.binds (ps:=["_law_thing"]) fun _ _ _ _ _ _ us hl=>match us,hl with | [_],_=>rfl)⟩
   (case e|l|g|k=>k_is)
  obtain ⟨a51,d51,C51⟩:∃ a d,G.Fn _ mg "_law_is_kind" G.s_a ["_law_thing","_law_deep"] a d:=by
   refine' ⟨_,_,G.fn1 KX G0 ?e ?l ?g ?k (fun F=>F.binds (ps:=["_law_thing","_law_deep"]) fun _ _ _ _ _ _ us hl=>match us,hl with | [_,_],_=>rfl)⟩
   (case e|l|g|k=>k_is)
  obtain ⟨a52,d52,C52,hB⟩:∃ a d,G.Fn _ mg "law" G.s_0 ["_law_script"] a d/\∀ (s:PySem.Shared) (v:PySem.Value),BindsTo s d ⟨[v],[]⟩ [("_law_script",v)]:=by
   refine' ⟨_,_,G.fn1 KX G0 ?e ?l ?g ?k (fun F=>F.binds (ps:=["_law_script"]) fun _ _ _ _ _ _ us hl=>match us,hl with | [_],_=>rfl),fun s v=> .of_eq rfl⟩
   (case e|l|g|k=>k_is)
  refine' G.fin_ KX G0 hmg ⟨a0,d0,C0,a1,d1,C1,a2,d2,C2,a3,d3,C3,a4,d4,C4,a5,d5,C5,a6,d6,C6,a7,d7,C7,a8,d8,C8,a9,d9,C9,a10,d10,C10,a11,d11,C11,a12,d12,C12,a13,d13,C13,a14,d14,C14,a15,d15,C15,a16,d16,C16,a17,d17,C17,a18,d18,C18,a19,d19,C19,a20,d20,C20,a21,d21,C21,a22,d22,C22,a23,d23,C23,a24,d24,C24,a25,d25,C25,a26,d26,C26,a27,d27,C27,a28,d28,C28,a29,d29,C29,a30,d30,C30,a31,d31,C31,a32,d32,C32,a33,d33,C33,a34,d34,C34,a35,d35,C35,a36,d36,C36,a37,d37,C37,a38,d38,C38,a39,d39,C39,a40,d40,C40,a41,d41,C41,a42,d42,C42,a43,d43,C43,a44,d44,C44,a45,d45,C45,a46,d46,C46,a47,d47,C47,a48,d48,C48,a49,d49,C49,a50,d50,C50,a51,d51,C51,a52,d52,C52,PySem.W.mg_none_of KX G0 (by k_is),PySem.W.mg_none_of KX G0 (by k_is),PySem.W.mg_none_of KX G0 (by k_is),PySem.W.mg_none_of KX G0 (by k_is),PySem.W.mg_none_of KX G0 (by k_is),PySem.W.mg_none_of KX G0 (by k_is),PySem.W.mg_none_of KX G0 (by k_is),PySem.W.mg_none_of KX G0 (by k_is),PySem.W.mg_none_of KX G0 (by k_is),PySem.W.mg_none_of KX G0 (by k_is),PySem.W.mg_none_of KX G0 (by k_is),PySem.W.mg_none_of KX G0 (by k_is),PySem.W.mg_none_of KX G0 (by k_is),PySem.W.mg_none_of KX G0 (by k_is),⟨_,PySem.W.mg_of KX G0 (by k_is),_,rfl⟩⟩ hB ?n0 ?n1 ?n2 ?n3 ?n4 ?n5 ?n6 ?b0 ?b1 ?b2 ?b3 ?b4 ?b5 ?b6 ?b7 ?b8 ?b9 ?b10 ?b11
  (case n0|n1|n2|n3|n4|n5|n6=>k_is)
  (case b0|b1|b2|b3|b4|b5|b6|b7|b8|b9|b10|b11=>kernel_rfl)
