import PyProof.Rows.All
import Wide.All
import OpenK.AllK
import Wide.FinOn
import Lean
import PyProof.EqAt
import PyProof.EqKinds
import PyProof.TupleCall
import PyProof.NeKinds
import PyProof.WalksEnum
import PyProof.StrWalks
import PyProof.ExcAttrAll.ValueError
import PyProof.ZipIter
import KE.KRevIter
import PyProof.ListNew
import PyProof.WalksMore
import PyProof.ReprLoop
import PyProof.FactsAll.list
import PyProof.CollectIter
import PyProof.TupleOfGen
import PyProof.Draws
import PyProof.EnumMake
import PyProof.SeqI3
import KE.KMinBuiltin
import PyProof.SetRoads
import PyProof.CollectWalk
import KE.KDictSum
import PyProof.AttrMiss
import PyProof.IsiH_tuple
import KE.KDictOf
import PyProof.FitsBits
import PyProof.SliceList
import PyProof.InstFacts
import PyProof.Rows.StrNews2
import PyProof.StrBlockH
import PyProof.CallStr
import KE.KIntText
import PyProof.Rows.RuleB_pow
import KE.KSortTup
import PyProof.ReprRoads
import KE.KLam
import PySem.Challenge.RW_worthkinds_k44_shapes_and_rules_refused
noncomputable section
set_option maxHeartbeats 4000000
set_option Elab.async false
set_option linter.all false
set_option maxRecDepth 100000
namespace L2
open PySem PySem.Spec PyProof.Rows
abbrev Key:=Sum Int Str
def Y9:Key->Value->Bool
 | .inl k,v=>Value.isInt k v
 | .inr x,v=>Value.isStrOf x v
def xA (w:World):Key->Int
 | .inl k=>hashInt k
 | .inr x=>hashStr w x
theorem zx:∀ {k:Key} {v:Value},Y9 k v=true->(∃ i t,k=Sum.inl i/\v=Value.int i t)\/(∃ x t,k=Sum.inr x/\v=Value.str x t)
 | .inl i,v,h=>by
  obtain ⟨t,e⟩:=Value.isInt_shape (k:=i) (v:=v) h
  exact .inl ⟨i,t,rfl,e⟩
 | .inr x,v,h=>by
  obtain ⟨t,e⟩:=Value.isStrOf_shape (x:=x) (v:=v) h
  exact .inr ⟨x,t,rfl,e⟩
theorem Ya (a b:Int):decide ((Sum.inl a:Key)=Sum.inl b)=(a == b):=by
 by_cases e:a=b
 ·subst e; simp
 ·have h:¬ (Sum.inl a:Key)=Sum.inl b:=fun q=>e (Sum.inl.inj q)
  rw [decide_eq_false h]
  exact (beq_eq_false_iff_ne.mpr e).symm
theorem Yb (a b:Str):decide ((Sum.inr a:Key)=Sum.inr b)=decide (a=b):=by
 by_cases e:a=b
 ·subst e; simp
 ·have h:¬ (Sum.inr a:Key)=Sum.inr b:=fun q=>e (Sum.inr.inj q)
  rw [decide_eq_false h,decide_eq_false e]
theorem Yc (a:Int) (b:Str):decide ((Sum.inl a:Key)=Sum.inr b)=false:=decide_eq_false (fun q=>nomatch q)
theorem Yd (a:Str) (b:Int):decide ((Sum.inr a:Key)=Sum.inl b)=false:=decide_eq_false (fun q=>nomatch q)
def Jv (prog:Program) (w:World):PySem.KeyKind prog w Key where
 is:=Y9
 hash:=xA w
 inj:=fun v a b ha hb=>by
  rcases zx ha with ⟨i,t,rfl,rfl⟩ | ⟨x,t,rfl,rfl⟩
  ·rcases zx hb with ⟨j,u,rfl,e⟩ | ⟨y,u,rfl,e⟩
   ·injection e with e1 _; rw [e1]
   ·exact nomatch e
  ·rcases zx hb with ⟨j,u,rfl,e⟩ | ⟨y,u,rfl,e⟩
   ·exact nomatch e
   ·injection e with e1 _; rw [e1]
 byValue:=fun k v h=>by
  rcases zx h with ⟨i,t,rfl,rfl⟩ | ⟨x,t,rfl,rfl⟩ <;> rfl
 pyHash:=fun hv h=>by
  rcases zx hv with ⟨i,t,rfl,rfl⟩ | ⟨x,t,rfl,rfl⟩
  ·exact wpAny_pyHash_int h
  ·exact wpAny_pyHash_str h
 eqBool:=fun hu hv h=>by
  rcases zx hu with ⟨i,t,rfl,rfl⟩ | ⟨x,t,rfl,rfl⟩
  ·rcases zx hv with ⟨j,u,rfl,rfl⟩ | ⟨y,u,rfl,rfl⟩
   ·rw [Ya] at h; exact wpAny_eqBool_int h
   ·rw [Yc] at h; exact SeqAt.EqAt.int_str i t y u _ _ _ _ h
  ·rcases zx hv with ⟨j,u,rfl,rfl⟩ | ⟨y,u,rfl,rfl⟩
   ·rw [Yd] at h; exact SeqAt.EqAt.str_int x t j u _ _ _ _ h
   ·rw [Yb] at h; exact wpAny_eqBool_str h
 «strs»:=fun k x t v h=>by
  rcases zx h with ⟨i,u,rfl,e⟩ | ⟨y,u,rfl,e⟩
  ·exact nomatch e
  ·injection e with e1 _
   subst e1
   cases v <;> rfl
end L2
namespace L2
open PySem PySem.Spec PyProof.Rows
inductive V where
 | non | bl (b:Bool) | int (i:Int) | str (x:Str) | byt (b:Array UInt8) | flt (b:UInt64) | ref (a:Addr) | ty (n:String)
 deriving DecidableEq
def zJ:V->Value->Prop
 | .non,u=>u=Value.none
 | .bl b,u=>u=Value.bool b
 | .int i,u=>∃ t,u=Value.int i t
 | .str x,u=>∃ t,u=Value.str x t
 | .byt b,u=>∃ t,u=Value.bytes b t
 | .flt b,u=>∃ t,u=Value.float b t
 | .ref a,u=>u=Value.ref a
 | .ty n,u=>u=Value.type n
abbrev zE:List V->List Value->Prop:=Paired zJ
theorem zE.length {xs:List V} {us:List Value} (r:zE xs us):xs.length=us.length:=Paired.length r
theorem zE.get:∀ {xs:List V} {us:List Value} {i:Nat} {x:V},zE xs us->xs[i]? =some x->∃ u,us[i]? =some u/\zJ x u
 | _,_,_,_, .nil,e=>by simp at e
 | _,_,0,_, .cons r _,e=>by simp at e; subst e; exact ⟨_,rfl,r⟩
 | _,_,i+1,x, .cons _ t,e=>by
  obtain ⟨u,h1,h2⟩:=zE.get (i:=i) (x:=x) t (by simpa using e)
  exact ⟨u,by simpa using h1,h2⟩
theorem zE.append:∀ {xs ys:List V} {us ws:List Value},zE xs us->zE ys ws->zE (xs++ys) (us++ws)
 | _,_,_,_, .nil,s=>s
 | _,_,_,_, .cons r t,s=> .cons r (zE.append t s)
def Qz:Option V->Option Value->Prop
 | some v,some u=>zJ v u
 | none,none=>True
 | _,_=>False
def KV {κ:Type}:List (κ×V)->List (κ×Value)->Prop:=Paired fun (p:κ×V) (q:κ×Value)=>p.1=q.1/\zJ p.2 q.2
def kV:Key->V
 | .inl i=> .int i
 | .inr x=> .str x
inductive HO where
 | lst (xs:List V)
 | tup (xs:List V)
 | dK (kvs:List (Key×V)) | dT (kvs:List (List Key×V))
 | set (S:Int->Bool) (n:Nat)
 | ins (C dx:Addr) (fs:List (Str×V))
 | own (x:Addr)
 | xd (fs:List (Str×V))
 | met (f x:Addr)
 | rng (lo hi:Int)
 | frz (o:Obj) (u:HO)
 | tbl (ps:Array Value) (q:Str)
 | ext (φ:Heap->Prop)
abbrev Hp:=Addr->Option HO
def upd (H:Hp) (a:Addr) (o:HO):Hp:=fun b=>if b=a then some o else H b
theorem zh {H:Hp} {a:Addr} {o:HO}:upd H a o a=some o:=by unfold upd; rw [if_pos rfl]
theorem zf {H:Hp} {a b:Addr} {o:HO} (h:b ≠ a):upd H a o b=H b:=by unfold upd; rw [if_neg h]
theorem zm {H:Hp} {a b:Addr} {o:HO} (h:H a=some o) (h' :H b=none):a ≠ b:=by
 intro e; subst e; rw [h] at h'; cases h'
def ITN (h:Heap) (a:Addr) (its:Array Value):Prop:=IsTup h a its/\((∃ i t,its[0]? =some (Value.int i t))\/∃ o,h.get? a=some o/\o.dict=none)
theorem ITN.new (h:Heap) (its:Array Value):ITN (h.push { cls:= .type "tuple",data:= .seq its }) h.objs.size its:=⟨IsTup.new h its, .inr ⟨_,Heap.get?_push_size _ rfl,rfl⟩⟩
section
variable (P:Program) (w:World)
def zF (H:Hp) (h:Heap) (a:Addr):HO->Prop
 | .lst xs=>xs.length<=sizeLine/\∃ (its:List Value) (n:Nat),zE xs its/\h.get? a=some { cls:= .type "list",data:= .seq its.toArray n }
 | .tup xs=>xs.length<=sizeLine/\∃ its:List Value,zE xs its/\ITN h a its.toArray
 | .dK kvs=>kvs.length<=sizeLine/\(a == sysModules)=false/\∃ vs,KV kvs vs/\h.DictOf (Jv P w) a vs
 | .dT kvs=>kvs.length<=sizeLine/\(a == sysModules)=false/\∃ xs:List (List Key×Addr×Value),
   Paired (fun (p:List Key×V) (q:List Key×Addr×Value)=>p.1=q.1/\H q.2.1=some (.tup (p.1.map kV))/\zJ p.2 q.2.2) kvs xs/\
   ∃ o es ep,h.get? a=some o/\o.ExactDict/\o.data= .dict es ep/\es.toList=xs.map (entryOfKey (tupleKind (Jv P w)))/\(xs.map (·.1)).Nodup
 | .set S n=>h.SetOf (intKind P w) a S n
 | .ins C dx fs=>H dx=some (.own a)/\fs.length<=1000/\dx ≠ a/\h.get? a=some (PySem.W.instObj C dx)/\
   ∃ mA,h.Ns1 dx mA/\(∀ f,Qz (fs.lookup f) (mA f))/\PySem.Within mA (fs.map (·.1))
 | .own _=>∃ o,h.get? a=some o
 | .xd fs=>∃ mA,h.Ns1 a mA/\∀ f,Qz (fs.lookup f) (mA f)
 | .rng lo hi=>∃ t u v,h.get? a=some { cls:= .type "range",data:= .fields #[.int lo t, .int hi u, .int 1 v] }
 | .frz o u=>h.get? a=some o/\zF H h a u
 | .tbl ps q=>∃ more:Array Value,h.get? a=some { cls:= .none,data:= .fields (ps++more) }/\TriplesOk (ps++more).toList/\∀ p cv,codeAmong p (ps++more).toList=some cv->∃ c oc vs t,cv= .ref c/\H c=some (.frz oc (.own c))/\oc.data= .fields vs/\vs[1]? =some (.str q t)
 | .met f x=>h.get? a=some (PySem.W.methodObj (.ref f) (.ref x))
 | .ext φ=>φ h/\(∃ o,h.get? a=some o)/\∀ h1 h2:Heap,φ h1->(∀ o,h1.get? a=some o->h2.get? a=some o)->φ h2
def HOk (H:Hp) (h:Heap):Prop:=∀ a o,H a=some o->zF P w H h a o
end
section
variable {P:Program} {w:World} {H H' :Hp} {h h' :Heap} {a:Addr} {o:HO}
theorem zF.lt (x:zF P w H h a o):a < h.objs.size:=by
 cases o with
 | lst xs=>obtain ⟨_,_,_,_,e⟩:=x; exact Heap.lt_size e
 | tup xs=>obtain ⟨_,_,_,p,_⟩:=x; exact p.lt
 | dK kvs=>obtain ⟨_,_,_,_,o,_,_,e,_⟩:=x; exact Heap.lt_size e
 | dT kvs=>obtain ⟨_,_,_,_,o,_,_,e,_⟩:=x; exact Heap.lt_size e
 | set S n=>obtain ⟨o,_,_,_,e,_⟩:=x; exact Heap.lt_size e
 | ins C dx fs=>obtain ⟨_,_,_,e,_⟩:=x; exact Heap.lt_size e
 | own y=>obtain ⟨_,e⟩:=x; exact Heap.lt_size e
 | xd fs=>obtain ⟨_,⟨_,_,_,e,_⟩,_⟩:=x; exact Heap.lt_size e
 | rng lo hi=>obtain ⟨_,_,_,e⟩:=x; exact Heap.lt_size e
 | frz ob u=>obtain ⟨e,_⟩:=x; exact Heap.lt_size e
 | tbl ps q=>obtain ⟨_,e,_⟩:=x; exact Heap.lt_size e
 | met f y=>exact Heap.lt_size (show h.get? a=some _ from x)
 | ext φ=>obtain ⟨_,⟨_,e⟩,_⟩:=x; exact Heap.lt_size e
theorem Paired.mapP {α β:Type} {F G:α->β->Prop}:∀ {l₁:List α} {l₂:List β},Paired F l₁ l₂->(∀ a b,F a b->G a b)->Paired G l₁ l₂
 | _,_, .nil,_=> .nil
 | _,_, .cons r t,f=> .cons (f _ _ r) (Paired.mapP t f)
theorem zF.stay (x:zF P w H h a o) (k:∀ b u,(b=a\/H b=some (.own a))->h.get? b=some u->h'.get? b=some u)
  (ho:∀ b,H b=some (.own a)->H' b=some (.own a)) (ht:∀ b xs,H b=some (.tup xs)->H' b=some (.tup xs)) (hf:∀ b o u,H b=some (.frz o u)->H' b=some (.frz o u):=by exact fun _ _ _ q=>q):zF P w H' h' a o:=by
 induction o with
 | lst xs=>obtain ⟨z,its,n,r,e⟩:=x; exact ⟨z,its,n,r,k _ _ (.inl rfl) e⟩
 | tup xs=>obtain ⟨z,its,r,⟨ob,e,c⟩,q⟩:=x; exact ⟨z,its,r,⟨ob,k _ _ (.inl rfl) e,c⟩,q.imp id fun ⟨o2,e2,d2⟩=>⟨o2,k _ _ (.inl rfl) e2,d2⟩⟩
 | dK kvs=>obtain ⟨z,y,vs,r,ob,es,ep,e,c⟩:=x; exact ⟨z,y,vs,r,ob,es,ep,k _ _ (.inl rfl) e,c⟩
 | dT kvs=>
  obtain ⟨z,y,xs,r,ob,es,ep,e,c⟩:=x
  exact ⟨z,y,xs,Paired.mapP r fun p q z=>⟨z.1,ht _ _ z.2.1,z.2.2⟩,ob,es,ep,k _ _ (.inl rfl) e,c⟩
 | set S n=>obtain ⟨ob,es,ep,t,e,c⟩:=x; exact ⟨ob,es,ep,t,k _ _ (.inl rfl) e,c⟩
 | ins C dx fs=>
  obtain ⟨d,z,ne,e,mA,⟨od,es,ep,e2,c⟩,r⟩:=x
  exact ⟨ho _ d,z,ne,k _ _ (.inl rfl) e,mA,⟨od,es,ep,k _ _ (.inr d) e2,c⟩,r⟩
 | own y=>obtain ⟨ob,e⟩:=x; exact ⟨ob,k _ _ (.inl rfl) e⟩
 | xd fs=>obtain ⟨mA,⟨od,es,ep,e,c⟩,r⟩:=x; exact ⟨mA,⟨od,es,ep,k _ _ (.inl rfl) e,c⟩,r⟩
 | rng lo hi=>obtain ⟨t,u,v,e⟩:=x; exact ⟨t,u,v,k _ _ (.inl rfl) e⟩
 | frz ob u ih=>obtain ⟨e,q⟩:=x; exact ⟨k _ _ (.inl rfl) e,ih q⟩
 | tbl ps q=>
  obtain ⟨m,e,tr,al⟩:=x
  exact ⟨m,k a _ (.inl rfl) e,tr,fun p cv z=>let ⟨c,oc,vs,t,e1,e2,e3⟩:=al p cv z; ⟨c,oc,vs,t,e1,hf _ _ _ e2,e3⟩⟩
 | met f y=>
  have e:h.get? a=some (PySem.W.methodObj (.ref f) (.ref y)):=x
  show h'.get? a=some (PySem.W.methodObj (.ref f) (.ref y))
  exact k a _ (.inl rfl) e
 | ext φ=>obtain ⟨p,⟨o,e⟩,st⟩:=x; exact ⟨st _ _ p fun o q=>k _ _ (.inl rfl) q,⟨o,k _ _ (.inl rfl) e⟩,st⟩
theorem HOk.lt (x:HOk P w H h) (e:H a=some o):a < h.objs.size:=(x a o e).lt
theorem HOk.fresh (x:HOk P w H h) (e:h.objs.size<=a):H a=none:=by
 cases q:H a with
 | none=>rfl
 | some u=>exact absurd (Nat.lt_of_lt_of_le (x.lt q) e) (Nat.lt_irrefl _)
theorem HOk.kept (x:HOk P w H h) (k:∀ b u,h.get? b=some u->h'.get? b=some u):HOk P w H h' :=fun a o e=>
 (x a o e).stay (fun b u _ q=>k b u q) (fun _ q=>q) fun _ _ q=>q
theorem HOk.laid (x:HOk P w H h) (k:∀ b u,h.get? b=some u->h'.get? b=some u) (hp:h.objs.size<=a) (new:zF P w (upd H a o) h' a o):HOk P w (upd H a o) h' :=fun b u e=>by
 have hn:=x.fresh hp
 by_cases hb:b=a
 ·subst hb; rw [zh] at e; cases e; exact new
 ·rw [zf hb] at e
  exact (x b u e).stay (fun c v _ q=>k c v q) (fun c q=>by rw [zf (zm q hn)]; exact q) (fun c xs q=>by rw [zf (zm q hn)]; exact q) fun c o u q=>by rw [zf (zm q hn)]; exact q
end
def Rd (H:Hp) (a:Addr) (u:HO):Prop:=H a=some u\/∃ o,H a=some (.frz o u)
theorem Rd.ok {P:Program} {w:World} {H:Hp} {h:Heap} {a:Addr} {u:HO} (r:Rd H a u) (x:HOk P w H h):zF P w H h a u:=by
 rcases r with r | ⟨o,r⟩
 ·exact x a u r
 ·obtain ⟨_,q⟩:=x a _ r
  exact q
def Mut:Option HO->Prop
 | some (.lst _)=>True
 | some (.dK _)=>True
 | some (.dT _)=>True
 | some (.set _ _)=>True
 | some (.ins _ _ _)=>True
 | some (.ext _)=>True
 | _=>False
section
variable {P:Program} {w:World} {H:Hp} {h h' :Heap} {x e:Addr} {o' :HO}
theorem HOk.write (ok:HOk P w H h) (mu:Mut (H x)) (he:e=x\/H e=some (.own x)) (k:∀ b u,b ≠ e->h.get? b=some u->h'.get? b=some u) (heo:∃ u,h'.get? e=some u)
  (new:zF P w (upd H x o') h' x o'):HOk P w (upd H x o') h' :=fun b u q=>by
 have nown:∀ c y,H c=some (.own y)->c ≠ x:=fun c y r z=>by subst z; rw [r] at mu; exact mu
 have ntup:∀ c xs,H c=some (.tup xs)->c ≠ x:=fun c xs r z=>by subst z; rw [r] at mu; exact mu
 by_cases hb:b=x
 ·subst hb; rw [zh] at q; cases q; exact new
 ·rw [zf hb] at q
  by_cases hbe:b=e
  ·have q' :H b=some (.own x):=by
    rcases he with z | z
    ·exact absurd (hbe.trans z) hb
    ·rw [hbe]; exact z
   rw [q] at q'; cases q'
   obtain ⟨v,hv⟩:=heo
   exact ⟨v,by rw [hbe]; exact hv⟩
  ·refine (ok b u q).stay (fun c v hc r=>k c v ?_ r) (fun c r=>by rw [zf (nown c b r)]; exact r) (fun c xs r=>by rw [zf (ntup c xs r)]; exact r) fun c o u r=>by rw [zf (fun z=>by subst z; rw [r] at mu; exact mu)]; exact r
   rcases hc with rfl | hc
   ·exact hbe
   ·rintro rfl
    rcases he with z | z
    ·exact nown c b hc z
    ·rw [hc] at z; cases z; exact hb rfl
end
structure Un (fs ex:List Addr) (H H' :Hp) (h h' :Heap):Prop where
 keep:∀ b o,h.get? b=some o->H b=none->b ∉ fs->b ∉ ex->h'.get? b=some o
 slot:∀ b o,h.get? b=some o->H b=none->b∈fs->b ∉ ex->∃ sl,h'.get? b=some { o with slots:=sl }
 free:∀ b o,h.get? b=some o->H b=none->b ∉ ex->H' b=none
 there:∀ b o,h.get? b=some o->b ∉ ex->∃ o',h'.get? b=some o'
 tups:∀ b xs,H b=some (.tup xs)->H' b=some (.tup xs)
 frzs:∀ b o u,H b=some (.frz o u)->H' b=some (.frz o u)
 tbls:∀ b ps q,H b=some (.tbl ps q)->H' b=some (.tbl ps q)
section
variable {fs fs' ex ex' :List Addr} {H H1 H2:Hp} {h h1 h2 h' :Heap} {a x e:Addr} {o:HO}
theorem Un.any (u:Un fs ex H H1 h h1) {b:Addr} {ob:Obj} (q:h.get? b=some ob) (n:H b=none) (hx:b ∉ ex):∃ sl,h1.get? b=some { ob with slots:=sl }:=by
 by_cases hb:b∈fs
 ·exact u.slot b ob q n hb hx
 ·exact ⟨ob.slots,u.keep b ob q n hb hx⟩
theorem Un.kept (k:∀ b u,h.get? b=some u->h'.get? b=some u):Un fs ex H H h h' :=
 ⟨fun b ob q _ _ _=>k b ob q,fun b ob q _ _ _=>⟨ob.slots,k b ob q⟩,fun _ _ _ n _=>n,fun b ob q _=>⟨ob,k b ob q⟩,fun _ _ q=>q,fun _ _ _ q=>q,fun _ _ _ q=>q⟩
theorem Un.refl:Un fs ex H H h h:=Un.kept fun _ _ q=>q
theorem Un.laid (k:∀ b u,h.get? b=some u->h'.get? b=some u) (hp:h.objs.size<=a) (hn:H a=none):Un fs ex H (upd H a o) h h' where
 keep:=fun b u q _ _ _=>k b u q
 slot:=fun b u q _ _ _=>⟨u.slots,k b u q⟩
 free:=fun b u q n _=>by rw [zf (Nat.ne_of_lt (Nat.lt_of_lt_of_le (Heap.lt_size q) hp))]; exact n
 there:=fun b u q _=>⟨u,k b u q⟩
 tups:=fun b xs q=>by rw [zf (zm q hn)]; exact q
 frzs:=fun b u xs q=>by rw [zf (zm q hn)]; exact q
 tbls:=fun b ps q e=>by rw [zf (zm e hn)]; exact e
theorem Un.write (mu:Mut (H x)) (he:e=x\/H e=some (.own x)) (k:∀ b u,b ≠ e->h.get? b=some u->h'.get? b=some u) (heo:∃ u,h'.get? e=some u):Un fs ex H (upd H x o) h h' :=by
 have hx:∀ b,H b=none->b ≠ x:=fun b n z=>by subst z; rw [n] at mu; exact mu
 have hb:∀ b,H b=none->b ≠ e:=fun b n z=>by
  subst z
  rcases he with r | r
  ·exact hx b n r
  ·rw [n] at r; cases r
 have hm:∀ b u,H b=some u->¬ Mut (some u)->b ≠ x:=fun b u q nm z=>by subst z; rw [q] at mu; exact nm mu
 refine ⟨fun b u q n _ _=>k b u (hb b n) q,fun b u q n _ _=>⟨u.slots,k b u (hb b n) q⟩,fun b u q n _=>by rw [zf (hx b n)]; exact n,fun b u q _=> ?_,
  fun b xs q=>by rw [zf (hm b _ q fun z=>z)]; exact q,fun b u xs q=>by rw [zf (hm b _ q fun z=>z)]; exact q,fun b ps q e=>by rw [zf (hm b _ e fun z=>z)]; exact e⟩
 by_cases hbe:b=e
 ·subst hbe; exact heo
 ·exact ⟨u,k b u hbe q⟩
end
def trk (h:Heap) (H:Hp):List Addr:=(List.range h.objs.size).filter fun a=>(H a).isSome
def ui (h:Heap) (H:Hp):Heap:=PySem.W.hideAll h (trk h H)
theorem W0 (h:Heap) (H:Hp):(ui h H).objs.size=h.objs.size:=PySem.W.hideAll_size _ _
theorem jB {h:Heap} {H:Hp} {b:Addr} {o:Obj} (e:h.get? b=some o) (n:H b=none):(ui h H).get? b=some o:=
 PySem.W.hideAll_get _ e fun hm=>by
  have q:(H b).isSome=true:=(List.mem_filter.mp hm).2
  rw [n] at q; simp at q
theorem UA {h:Heap} {H:Hp} {b:Addr} {o:Obj} (e:(ui h H).get? b=some o):h.get? b=some o/\H b=none:=by
 have e' :h.get? b=some o:=PySem.W.of_hideAll (trk h H) e
 refine ⟨e', ?_⟩
 cases q:H b with
 | none=>rfl
 | some x=>
  have hm:b∈trk h H:=List.mem_filter.mpr ⟨List.mem_range.mpr (Heap.lt_size e'),by simp [q]⟩
  have z:(ui h H).get? b=none:=PySem.W.hideAll_none (trk h H) hm
  rw [z] at e; cases e
end L2
namespace L2
open PySem PySem.Spec PyProof.Rows
structure Mod (K:PySem.W.Frag) (mg:Str->Option Value) (base:Heap):Prop where
 kin:K.In base
 glob:base.Ns mainGlobals mg
 blt:∃ mb,base.Ns builtinsNs mb/\∀ x:Str,x ≠ "__name__"->mb x=bootBuiltins x
 nolimit:base.NoLimit
structure Cx where
 prog:Program
 w:World
 K:PySem.W.Frag
 mg:Str->Option Value
 base:Heap
 A:Around
 N:List Str
 s₀:Shared
 H₀:Hp
 env:Env
 outer:List Env
 stack:List Env
 ex:List Addr
 fn:Str->Bool
 calm:Bool
 pn:List (Addr×Obj)
 xe:Value->Shared->Prop
def frs (l:List Env):List Addr:=l.filterMap (·.frame)
abbrev Cx.fs (X:Cx):List Addr:=frs X.outer
def Vis (sc:Scope) (x:Str):Prop:=sc.names.lookup x=some .local\/sc.names.lookup x=some .cell\/sc.names.lookup x=some .free
def Loc (sc:Scope) (x:Str):Prop:=sc.names.lookup x=some .local\/sc.names.lookup x=some .cell
def xB (env:Env) (h:Heap) (m:Str->Option Value) (x:Str) (u:Value):Prop:=
 (env.kindOf x=some .local/\m x=some u)\/((env.kindOf x=some .cell\/env.kindOf x=some .free)/\∃ c,env.cells.lookup x=some c/\h.IsCell c (some u))
structure Cx.Ok (X:Cx):Prop where
 mod:Mod X.K X.mg X.base
 kind:X.env.scope.kind= .function
 glob:X.env.globals=mainGlobals
 blt:X.env.builtins=builtinsNs
 above:X.s₀.heap.objs.size<=X.env.locals
 inj:∀ x y c,X.env.cells.lookup x=some c->X.env.cells.lookup y=some c->x=y
 has:∀ x,(X.env.kindOf x=some .cell\/X.env.kindOf x=some .free)->∃ c,X.env.cells.lookup x=some c
 cab:∀ x c,X.fn x=true->X.env.cells.lookup x=some c->X.s₀.heap.objs.size<=c
 hd:X.calm=true->X.A.handled=none
 frames:X.A.frames=some X.stack
 stk:X.stack=X.outer\/(X.stack=X.env :: X.outer/\X.env.frame=some X.env.locals)
 exf:∀ b∈X.ex,b ≠ X.env.locals/\∀ x c,X.env.cells.lookup x=some c->c ≠ b
 bs:∀ b o,X.base.get? b=some o->X.s₀.heap.get? b=some o/\X.H₀ b=none
 bsz:X.base.objs.size<=X.s₀.heap.objs.size
 noex:∀ b o,X.base.get? b=some o->b ∉ X.ex
 exfs:∀ b∈X.ex,b ∉ X.fs
 funs:X.s₀.heap.FunFrames X.base X.outer
 frf:∀ b∈X.fs,X.H₀ b=none
structure Inv (X:Cx) (pins:List (Addr×Obj)) (σ:List (Option V)) (H:Hp) (s:Shared):Prop where
 ok:X.Ok
 os:s.os=X.s₀.os
 bare:AllBare s.gens
 base:Un X.fs X.ex X.H₀ H X.s₀.heap s.heap
 loc:∃ m,s.heap.Ns X.env.locals m/\∀ (i:Nat) (x:Str) (v:V),X.N[i]? =some x->σ[i]? =some (some v)->Vis X.env.scope x->∃ u,zJ v u/\xB X.env s.heap m x u
 cell:∀ x c,X.env.cells.lookup x=some c->∃ v,s.heap.IsCell c v
 free:H X.env.locals=none
 freeC:∀ x c,X.env.cells.lookup x=some c->H c=none
 pin:∀ p∈X.pn++pins,s.heap.get? p.1=some p.2/\H p.1=none/\p.1 ≠ X.env.locals/\p.1 ∉ X.fs/\∀ v,p.2.data ≠ .cell v
 hok:HOk X.prog X.w H s.heap
 len:σ.length=X.N.length
section
variable {X:Cx} {pins:List (Addr×Obj)} {σ:List (Option V)} {H H' :Hp} {s:Shared} {h' :Heap}
theorem Cx.Ok.nofr (ok:X.Ok) {b:Addr} {o:Obj} (e:X.base.get? b=some o):b ∉ X.fs:=fun hb=>by
 have:=(ok.funs.mem hb).1
 rw [e] at this; cases this
theorem Inv.bs (I:Inv X pins σ H s):∀ b o,X.base.get? b=some o->s.heap.get? b=some o/\H b=none:=fun b o e=>
 ⟨I.base.keep b o (I.ok.bs b o e).1 (I.ok.bs b o e).2 (I.ok.nofr e) (I.ok.noex b o e),I.base.free b o (I.ok.bs b o e).1 (I.ok.bs b o e).2 (I.ok.noex b o e)⟩
theorem Inv.bk (I:Inv X pins σ H s):∀ b o,X.base.get? b=some o->s.heap.get? b=some o:=fun b o e=>(I.bs b o e).1
theorem Inv.mod (I:Inv X pins σ H s):Mod X.K X.mg X.base:=I.ok.mod
theorem Inv.kIn (I:Inv X pins σ H s):X.K.In s.heap:=I.ok.mod.kin.keeps I.bk
theorem Inv.lt (I:Inv X pins σ H s):X.env.locals < s.heap.objs.size:=let ⟨_,hn,_⟩:=I.loc; hn.lt
theorem Inv.sz (I:Inv X pins σ H s):X.s₀.heap.objs.size<=s.heap.objs.size:=Nat.le_trans I.ok.above (Nat.le_of_lt I.lt)
theorem Inv.nofs (I:Inv X pins σ H s) {a:Addr} (h:s.heap.objs.size<=a):a ∉ X.fs:=fun hb=>by
 obtain ⟨_,o,ho,_⟩:=I.ok.funs.mem hb
 exact absurd (Nat.lt_of_lt_of_le (Heap.lt_size ho) (Nat.le_trans I.sz h)) (Nat.lt_irrefl _)
theorem Inv.cne (I:Inv X pins σ H s):∀ x c,X.env.cells.lookup x=some c->c ≠ X.env.locals:=fun x c e z=>by
 obtain ⟨v,o,ho,hd⟩:=I.cell x c e
 obtain ⟨m,⟨o',es,ep,ho',hd',_⟩,_⟩:=I.loc
 rw [z,ho'] at ho; cases ho; rw [hd'] at hd; cases hd
theorem Inv.funs (I:Inv X pins σ H s):s.heap.FunFrames X.base X.outer:=by
 have all:∀ (l:List Env),(∀ b∈frs l,b∈X.fs)->X.s₀.heap.FunFrames X.base l->s.heap.FunFrames X.base l:=by
  intro l
  induction l with
  | nil=>intro _ _; trivial
  | cons env r ih=>
   intro hs hl
   obtain ⟨hk,⟨L,o,hf,hn,ho,hd⟩,hr⟩:=hl
   have hL:L∈X.fs:=hs L (by unfold frs; rw [List.filterMap_cons,hf]; exact List.mem_cons_self)
   obtain ⟨sl,e⟩:=I.base.slot L o ho (I.ok.frf L hL) hL fun z=>I.ok.exfs L z hL
   exact ⟨hk,⟨L,_,hf,hn,e,hd⟩,ih (fun b hb=>hs b (by unfold frs; rw [List.filterMap_cons,hf]; exact List.mem_cons_of_mem _ hb)) hr⟩
 exact all X.outer (fun _ hb=>hb) I.ok.funs
theorem Inv.stack (I:Inv X pins σ H s):s.heap.FunFrames X.base X.stack:=by
 rcases I.ok.stk with e | ⟨e,hf⟩
 ·rw [e]; exact I.funs
 ·rw [e]
  obtain ⟨m,hn,_⟩:=I.loc
  refine .cons (by rw [I.ok.kind]; decide) hf hn ?_ I.funs
  exact Heap.get?_none_of_le (Nat.le_trans I.ok.bsz I.ok.above)
theorem Inv.stkSub (I:Inv X pins σ H s):∀ b∈frs X.stack,b∈X.env.locals :: X.fs:=fun b hb=>by
 rcases I.ok.stk with e | ⟨e,hf⟩
 ·rw [e] at hb; exact List.mem_cons_of_mem _ hb
 ·rw [e] at hb
  unfold frs at hb
  rw [List.filterMap_cons,hf] at hb
  exact hb
theorem Inv.stkFree (I:Inv X pins σ H s):∀ b∈frs X.stack,H b=none:=fun b hb=>by
 rcases List.mem_cons.mp (I.stkSub b hb) with e | hb
 ·rw [e]; exact I.free
 ·obtain ⟨_,o,ho,_⟩:=I.ok.funs.mem hb
  exact I.base.free b o ho (I.ok.frf b hb) fun z=>I.ok.exfs b z hb
theorem Inv.step {g' :Array GenState} {t' :Nat} {d' :Drawn} {ch:List Addr} (I:Inv X pins σ H s)
  (hch:∀ b∈ch,(b∈X.ex\/X.s₀.heap.objs.size<=b)/\b ≠ X.env.locals/\(∀ x c,X.env.cells.lookup x=some c->c ≠ b)/\∀ p∈X.pn++pins,p.1 ≠ b)
  (keep:∀ b o,b ≠ X.env.locals->b ∉ X.fs->b ∉ ch->s.heap.get? b=some o->H b=none->h'.get? b=some o)
  (slot:∀ b o,b ≠ X.env.locals->b∈X.fs->b ∉ ch->s.heap.get? b=some o->H b=none->∃ sl,h'.get? b=some { o with slots:=sl }) (free:∀ b o,b ∉ ch->s.heap.get? b=some o->H b=none->H' b=none)
  (there:∀ b o,b ∉ ch->s.heap.get? b=some o->∃ o',h'.get? b=some o')
  (tups:∀ b xs,H b=some (.tup xs)->H' b=some (.tup xs)) (frzs:∀ b o u,H b=some (.frz o u)->H' b=some (.frz o u)) (tbls:∀ b ps q,H b=some (.tbl ps q)->H' b=some (.tbl ps q))
  (ns:∀ m,s.heap.Ns X.env.locals m->h'.Ns X.env.locals m) (hok:HOk X.prog X.w H' h') (hg:AllBare g'):
  Inv X pins σ H' { s with heap:=h',gens:=g',drawn:=d',toks:=t' }:=by
 have neL:∀ b o,X.s₀.heap.get? b=some o->b ≠ X.env.locals:=fun b o e=>Nat.ne_of_lt (Nat.lt_of_lt_of_le (Heap.lt_size e) I.ok.above)
 have neC:∀ b o,X.s₀.heap.get? b=some o->b ∉ X.ex->b ∉ ch:=fun b o e hx hb=>by
  rcases (hch b hb).1 with z | z
  ·exact hx z
  ·exact absurd (Nat.lt_of_lt_of_le (Heap.lt_size e) z) (Nat.lt_irrefl _)
 have cellK:∀ x c,X.env.cells.lookup x=some c->∀ v,s.heap.IsCell c v->h'.IsCell c v:=fun x c e v ⟨o,ho,hd⟩=>by
  have nch:c ∉ ch:=fun z=>(hch c z).2.2.1 x c e rfl
  by_cases hc:c∈X.fs
  ·obtain ⟨sl,q⟩:=slot c o (I.cne x c e) hc nch ho (I.freeC x c e)
   exact ⟨_,q,hd⟩
  ·exact ⟨o,keep c o (I.cne x c e) hc nch ho (I.freeC x c e),hd⟩
 refine ⟨I.ok,I.os,hg,⟨fun b o e n hb hx=> ?_,fun b o e n hb hx=> ?_,fun b o e n hx=> ?_,fun b o e hx=> ?_,fun b xs e=>tups b xs (I.base.tups b xs e),fun b o xs e=>frzs b o xs (I.base.frzs b o xs e),fun b ps q e=>tbls b ps q (I.base.tbls b ps q e)⟩, ?_,fun x c e=> ?_, ?_,fun x c e=> ?_,fun p hp=> ?_,hok,I.len⟩
 ·exact keep b o (neL b o e) hb (neC b o e hx) (I.base.keep b o e n hb hx) (I.base.free b o e n hx)
 ·obtain ⟨sl,e1⟩:=I.base.slot b o e n hb hx
  obtain ⟨sl',e2⟩:=slot b _ (neL b o e) hb (neC b o e hx) e1 (I.base.free b o e n hx)
  exact ⟨sl',e2⟩
 ·obtain ⟨o',e1⟩:=I.base.there b o e hx
  exact free b o' (neC b o e hx) e1 (I.base.free b o e n hx)
 ·obtain ⟨o',e1⟩:=I.base.there b o e hx
  exact there b o' (neC b o e hx) e1
 ·obtain ⟨m,hn,hl⟩:=I.loc
  refine ⟨m,ns m hn,fun i x v e1 e2 e3=> ?_⟩
  obtain ⟨u,r,l⟩:=hl i x v e1 e2 e3
  refine ⟨u,r, ?_⟩
  rcases l with l | ⟨k,c,e,z⟩
  ·exact .inl l
  ·exact .inr ⟨k,c,e,cellK x c e _ z⟩
 ·obtain ⟨v,z⟩:=I.cell x c e
  exact ⟨v,cellK x c e v z⟩
 ·obtain ⟨m,⟨o,_,_,ho,_⟩,_⟩:=I.loc
  exact free _ o (fun z=>(hch _ z).2.1 rfl) ho I.free
 ·obtain ⟨v,o,ho,hd⟩:=I.cell x c e
  exact free c o (fun z=>(hch c z).2.2.1 x c e rfl) ho (I.freeC x c e)
 ·obtain ⟨e,n,ne,nf,d⟩:=I.pin p hp
  have nch:p.1 ∉ ch:=fun z=>(hch p.1 z).2.2.2 p hp rfl
  exact ⟨keep p.1 p.2 ne nf nch e n,free p.1 p.2 nch e n,ne,nf,d⟩
theorem Inv.un {t' :Nat} (I:Inv X pins σ H s) (u:Un X.fs [] H H' s.heap h') (hok:HOk X.prog X.w H' h'):Inv X pins σ H' { s with heap:=h',toks:=t' }:=by
 obtain ⟨m,⟨o,es,ep,ho,r⟩,_⟩:=id I.loc
 obtain ⟨sl,hL⟩:=u.any ho I.free (by simp)
 exact I.step (g' :=s.gens) (d' :=s.drawn) (ch:=[]) (fun _ z=>nomatch z) (fun b o _ hb _ e n=>u.keep b o e n hb (by simp)) (fun b o _ hb _ e n=>u.slot b o e n hb (by simp)) (fun b o _ e n=>u.free b o e n (by simp)) (fun b o _ e=>u.there b o e (by simp)) u.tups u.frzs u.tbls (fun m' hm=>by
  obtain ⟨o',es',ep',ho',r'⟩:=hm
  rw [ho] at ho'; cases ho'
  exact ⟨_,es',ep',hL,r'⟩) hok I.bare
theorem Inv.call {g' :Array GenState} {t' :Nat} {d' :Drawn} {ch:List Addr} (I:Inv X pins σ H s) (u:Un (frs X.stack) ch H H' s.heap h') (hok:HOk X.prog X.w H' h') (hg:AllBare g')
  (hch:∀ b∈ch,(b∈X.ex\/X.s₀.heap.objs.size<=b)/\b ≠ X.env.locals/\(∀ x c,X.env.cells.lookup x=some c->c ≠ b)/\∀ p∈X.pn++pins,p.1 ≠ b):
  Inv X pins σ H' { s with heap:=h',gens:=g',drawn:=d',toks:=t' }:=by
 obtain ⟨m,⟨o,es,ep,ho,r⟩,_⟩:=id I.loc
 obtain ⟨sl,hL⟩:=u.any ho I.free fun z=>(hch _ z).2.1 rfl
 exact I.step (ch:=ch) hch (fun b o hL hb hc e n=>u.keep b o e n (fun z=>(List.mem_cons.mp (I.stkSub b z)).elim hL hb) hc) (fun b o _ _ hc e n=>u.any e n hc) (fun b o hc e n=>u.free b o e n hc) (fun b o hc e=>u.there b o e hc) u.tups u.frzs u.tbls (fun m' hm=>by
  obtain ⟨o',es',ep',ho',r'⟩:=hm
  rw [ho] at ho'; cases ho'
  exact ⟨_,es',ep',hL,r'⟩) hok hg
theorem Inv.turned {t' :Nat} {it:Addr} (I:Inv X pins σ H s) (k:∀ b o,b ≠ it->s.heap.get? b=some o->h'.get? b=some o) (hn:H it=none) (hL:it ≠ X.env.locals)
  (h1:it∈X.ex\/X.s₀.heap.objs.size<=it) (h2:∀ x c,X.env.cells.lookup x=some c->c ≠ it) (h3:∀ p∈X.pn++pins,p.1 ≠ it):Inv X pins σ H { s with heap:=h',toks:=t' }:=by
 have nit:∀ b u,H b=some u->b ≠ it:=fun b u e z=>by rw [z,hn] at e; cases e
 refine I.step (g' :=s.gens) (d' :=s.drawn) (ch:=[it]) (fun b hb=> ?_) (fun b o _ _ hc e _=>k b o (fun z=>hc (by simp [z])) e) (fun b o _ _ hc e _=>⟨o.slots,k b o (fun z=>hc (by simp [z])) e⟩) (fun _ _ _ _ n=>n)
  (fun b o hc e=>⟨o,k b o (fun z=>hc (by simp [z])) e⟩) (fun _ _ e=>e) (fun _ _ _ e=>e) (fun _ _ _ e=>e) (fun m hm=> ?_) (fun b u e=> ?_) I.bare
 ·have e:b=it:=by simpa using hb
  subst e
  exact ⟨h1,hL,h2,h3⟩
 ·obtain ⟨o,es,ep,ho,r⟩:=hm
  exact ⟨o,es,ep,k _ o (Ne.symm hL) ho,r⟩
 ·refine (I.hok b u e).stay (fun c v hc q=>k c v ?_ q) (fun _ q=>q) fun _ _ q=>q
  rcases hc with z | z
  ·rw [z]; exact nit b u e
  ·exact nit c _ z
theorem Inv.tok (I:Inv X pins σ H s) (t:Nat):Inv X pins σ H { s with toks:=t }:=I.un (h' :=s.heap) (t' :=t) Un.refl I.hok
theorem Inv.kept {t' :Nat} (I:Inv X pins σ H s) (k:∀ b u,s.heap.get? b=some u->h'.get? b=some u):Inv X pins σ H { s with heap:=h',toks:=t' }:=I.un (Un.kept k) (I.hok.kept k)
theorem Inv.laid {a:Addr} {o:HO} {t' :Nat} (I:Inv X pins σ H s) (k:∀ b u,s.heap.get? b=some u->h'.get? b=some u) (hp:s.heap.objs.size<=a) (new:zF X.prog X.w (upd H a o) h' a o):
  Inv X pins σ (upd H a o) { s with heap:=h',toks:=t' }:=I.un (Un.laid k hp (I.hok.fresh hp)) (I.hok.laid k hp new)
theorem Inv.write {x e:Addr} {o:HO} {t' :Nat} (I:Inv X pins σ H s) (mu:Mut (H x)) (he:e=x\/H e=some (.own x)) (k:∀ b u,b ≠ e->s.heap.get? b=some u->h'.get? b=some u) (heo:∃ u,h'.get? e=some u)
  (new:zF X.prog X.w (upd H x o) h' x o):Inv X pins σ (upd H x o) { s with heap:=h',toks:=t' }:=I.un (Un.write mu he k heo) (I.hok.write mu he k heo new)
theorem Inv.pins_of {pins' :List (Addr×Obj)} (I:Inv X pins σ H s) (h:∀ p∈pins',s.heap.get? p.1=some p.2/\H p.1=none/\p.1 ≠ X.env.locals/\p.1 ∉ X.fs/\∀ v,p.2.data ≠ .cell v):Inv X pins' σ H s:=
 ⟨I.ok,I.os,I.bare,I.base,I.loc,I.cell,I.free,I.freeC,fun p hp=>(List.mem_append.mp hp).elim (fun z=>I.pin p (List.mem_append_left _ z)) (h p),I.hok,I.len⟩
theorem jC {N:List Str} (hN:N.Nodup) {i j:Nat} {x:Str} (a:N[i]? =some x) (b:N[j]? =some x):i=j:=by
 obtain ⟨h1,e1⟩:=List.getElem?_eq_some_iff.mp a
 obtain ⟨h2,e2⟩:=List.getElem?_eq_some_iff.mp b
 exact (List.getElem_inj hN).mp (e1.trans e2.symm)
theorem jV {M:Model} {A:Around} {E:Value->Shared->Prop} {i:Nat} {x:Str} {v:V} {u:Value} {Q:Unit->Shared->Prop} (I:Inv X pins σ H s) (hN:X.N.Nodup) (hi:X.N[i]? =some x) (hx:Loc X.env.scope x) (r:zJ v u)
  (h:∀ s',Inv X pins (σ.set i (some v)) H s' ->(∃ a,Heap.SameBut a s.heap s'.heap/\(a=X.env.locals\/X.env.cells.lookup x=some a))->Q () s') (hf:X.fn x=true\/X.env.scope.names.lookup x=some .local:=by first | exact .inl rfl | exact .inr rfl | assumption):wpAny M A (storeName X.env x u) Q E s:=by
 obtain ⟨m,hn,hl⟩:=id I.loc
 have hcls:(X.env.scope.kind == .class || (X.env.scope.kind == .module && X.env.locals != X.env.globals))=false:=by rw [I.ok.kind]; rfl
 have hiσ:i < σ.length:=by rw [I.len]; exact (List.getElem?_eq_some_iff.mp hi).1
 have cne:=I.cne
 have tracked:∀ {a:Addr} {h' :Heap},(∃ o,s.heap.get? a=some o/\H a=none)->Heap.SameBut a s.heap h' ->HOk X.prog X.w H h' :=fun {a h'} ha hs b ob e=>by
  obtain ⟨_,_,hfree⟩:=ha
  refine (I.hok b ob e).stay (fun c w' hc q=>(hs.2 c ?_).trans q) (fun _ q=>q) fun _ _ q=>q
  rintro rfl
  rcases hc with rfl | hc
  ·rw [hfree] at e; cases e
  ·rw [hfree] at hc; cases hc
 rcases hx with hk | hk
 ·refine wpAny_storeName_local hk hn (fun h' hn' hs=> ?_) hcls
  obtain ⟨oL,_,_,hoL,_⟩:=id hn
  refine h _ ⟨I.ok,I.os,I.bare,⟨fun b o e n hb hx=> ?_,fun b o e n hb hx=> ?_,I.base.free,fun b o e hx=> ?_,I.base.tups,I.base.frzs,I.base.tbls⟩,⟨_,hn',fun j y v' e1 e2 e3=> ?_⟩,fun y c e=> ?_,I.free,I.freeC,fun p hp=> ?_,tracked ⟨oL,hoL,I.free⟩ hs,by simpa using I.len⟩ ⟨_,hs, .inl rfl⟩
  ·exact (hs.2 b (Nat.ne_of_lt (Nat.lt_of_lt_of_le (Heap.lt_size e) I.ok.above))).trans (I.base.keep b o e n hb hx)
  ·obtain ⟨sl,e1⟩:=I.base.slot b o e n hb hx
   exact ⟨sl,(hs.2 b (Nat.ne_of_lt (Nat.lt_of_lt_of_le (Heap.lt_size e) I.ok.above))).trans e1⟩
  ·obtain ⟨o',e1⟩:=I.base.there b o e hx
   exact ⟨o',(hs.2 b (Nat.ne_of_lt (Nat.lt_of_lt_of_le (Heap.lt_size e) I.ok.above))).trans e1⟩
  ·by_cases hj:j=i
   ·subst hj
    rw [hi] at e1; cases e1
    rw [List.getElem?_set_self hiσ] at e2
    cases e2
    exact ⟨u,r, .inl ⟨hk,by simp⟩⟩
   ·rw [List.getElem?_set_ne (Ne.symm hj)] at e2
    obtain ⟨u',r',q⟩:=hl j y v' e1 e2 e3
    refine ⟨u',r', ?_⟩
    rcases q with ⟨k,e⟩ | ⟨k,c,e,z⟩
    ·refine .inl ⟨k, ?_⟩
     have:y ≠ x:=fun e=>hj (jC hN e1 (e ▸ hi))
     simp [this,e]
    ·exact .inr ⟨k,c,e,z.sameBut hs (cne y c e)⟩
  ·obtain ⟨w',z⟩:=I.cell y c e
   exact ⟨w',z.sameBut hs (cne y c e)⟩
  ·obtain ⟨e,n,ne,nf,d⟩:=I.pin p hp
   exact ⟨(hs.2 p.1 ne).trans e,n,ne,nf,d⟩
 ·have hfn:X.fn x=true:=by
   rcases hf with z | z
   ·exact z
   ·rw [z] at hk; cases hk
  obtain ⟨c,hc⟩:=I.ok.has x (.inl hk)
  obtain ⟨w',z⟩:=I.cell x c hc
  refine wpAny_storeName_cell I.ok.kind hk hc z (fun h' hc' hs=> ?_)
  obtain ⟨oc,hoc,hocd⟩:=id z
  refine h { s with heap:=h' } ⟨I.ok,I.os,I.bare,⟨fun b o e n hb hx=> ?_,fun b o e n hb hx=> ?_,I.base.free,fun b o e hx=> ?_,I.base.tups,I.base.frzs,I.base.tbls⟩,⟨m,hn.sameBut hs (Ne.symm (cne x c hc)),fun j y v' e1 e2 e3=> ?_⟩,fun y c' e=> ?_,I.free,I.freeC,fun p hp=> ?_,tracked ⟨oc,hoc,I.freeC x c hc⟩ hs,by simpa using I.len⟩ ⟨c,hs, .inr hc⟩
  ·exact (hs.2 b (Nat.ne_of_lt (Nat.lt_of_lt_of_le (Heap.lt_size e) (I.ok.cab x c hfn hc)))).trans (I.base.keep b o e n hb hx)
  ·obtain ⟨sl,e1⟩:=I.base.slot b o e n hb hx
   exact ⟨sl,(hs.2 b (Nat.ne_of_lt (Nat.lt_of_lt_of_le (Heap.lt_size e) (I.ok.cab x c hfn hc)))).trans e1⟩
  ·obtain ⟨o',e1⟩:=I.base.there b o e hx
   exact ⟨o',(hs.2 b (Nat.ne_of_lt (Nat.lt_of_lt_of_le (Heap.lt_size e) (I.ok.cab x c hfn hc)))).trans e1⟩
  ·by_cases hj:j=i
   ·subst hj
    rw [hi] at e1; cases e1
    rw [List.getElem?_set_self hiσ] at e2
    cases e2
    exact ⟨u,r, .inr ⟨.inl hk,c,hc,hc'⟩⟩
   ·rw [List.getElem?_set_ne (Ne.symm hj)] at e2
    obtain ⟨u',r',q⟩:=hl j y v' e1 e2 e3
    refine ⟨u',r', ?_⟩
    rcases q with q | ⟨k,c',e,z'⟩
    ·exact .inl q
    ·refine .inr ⟨k,c',e,z'.sameBut hs ?_⟩
     rintro rfl
     exact hj (jC hN e1 (I.ok.inj _ _ _ e hc ▸ hi))
  ·by_cases hcc:c' =c
   ·subst hcc; exact ⟨_,hc'⟩
   ·obtain ⟨w2,z2⟩:=I.cell y c' e
    exact ⟨w2,z2.sameBut hs hcc⟩
  ·obtain ⟨e,n,ne,nf,d⟩:=I.pin p hp
   refine ⟨(hs.2 p.1 ?_).trans e,n,ne,nf,d⟩
   intro q
   rw [q,hoc] at e
   have q' :oc=p.2:=Option.some.inj e
   exact d w' (by rw [← q']; exact hocd)
theorem jD {M:Model} {A:Around} {E:Value->Shared->Prop} {i:Nat} {x:Str} {v:V} {u:Value} {Q:Unit->Shared->Prop} (I:Inv X pins σ H s) (hN:X.N.Nodup) (hi:X.N[i]? =some x) (hx:Loc X.env.scope x) (r:zJ v u)
  (h:∀ s',Inv X pins (σ.set i (some v)) H s' ->Q () s') (hf:X.fn x=true\/X.env.scope.names.lookup x=some .local:=by first | exact .inl rfl | exact .inr rfl | assumption):wpAny M A (storeName X.env x u) Q E s:=
 jV I hN hi hx r (fun s' I' _=>h s' I') hf
theorem Inv.call' {s' :Shared} {ch:List Addr} (I:Inv X pins σ H s) (ho:s'.os=s.os) (u:Un (frs X.stack) ch H H' s.heap s'.heap) (hok:HOk X.prog X.w H' s'.heap) (hg:AllBare s'.gens)
  (hch:∀ b∈ch,(b∈X.ex\/X.s₀.heap.objs.size<=b)/\b ≠ X.env.locals/\(∀ x c,X.env.cells.lookup x=some c->c ≠ b)/\∀ p∈X.pn++pins,p.1 ≠ b):Inv X pins σ H' s' :=by
 obtain ⟨h',g',d',t',o'⟩:=s'
 have e:o' =s.os:=ho
 subst e
 exact I.call (g' :=g') (t' :=t') (d' :=d') u hok hg hch
end
abbrev XK:=Value->Option Addr->Hp->Prop
abbrev St:=List (Option V)
abbrev VK:=V->Hp->Prop
abbrev TE:=St->Hp->VK->Prop
abbrev TT:=St->Hp->(Bool->Hp->Prop)->Prop
abbrev TA:=St->Hp->(List V->Hp->Prop)->Prop
structure uj where
 nx:St->Hp->Prop
 rt:VK
 bk:St->Hp->Prop:=fun _ _=>False
 ct:St->Hp->Prop:=fun _ _=>False
abbrev TS:=uj->St->Hp->Prop
def EP (X:Cx) (pins:List (Addr×Obj)) (σ:St) (Q:VK) (u:Value) (s' :Shared):Prop:=∃ v H',Inv X pins σ H' s' /\zJ v u/\Q v H'
def TP (X:Cx) (pins:List (Addr×Obj)) (σ:St) (Q:Bool->Hp->Prop) (b:Bool) (s' :Shared):Prop:=∃ H',Inv X pins σ H' s' /\Q b H'
def AP (X:Cx) (pins:List (Addr×Obj)) (σ:St) (Q:List V->Hp->Prop) (us:List Value) (s' :Shared):Prop:=∃ vs H',Inv X pins σ H' s' /\zE vs us/\Q vs H'
def SP (X:Cx) (pins:List (Addr×Obj)) (D:uj) (f:Flow) (s' :Shared):Prop:=
 match f with
 | .next=>∃ σ' H',Inv X pins σ' H' s' /\D.nx σ' H'
 | .brk=>∃ σ' H',Inv X pins σ' H' s' /\D.bk σ' H'
 | .cont=>∃ σ' H',Inv X pins σ' H' s' /\D.ct σ' H'
 | .ret u=>∃ v σ' H',Inv X pins σ' H' s' /\zJ v u/\D.rt v H'
def PE (X:Cx) (e:Expr) (t:TE):Prop:=
 ∀ (pins:List (Addr×Obj)) (s:Shared) (σ:St) (H:Hp) (Q:VK),Inv X pins σ H s->t σ H Q->wpAny (model X.prog X.w) X.A (eval e X.env) (EP X pins σ Q) X.xe s
def PT (X:Cx) (e:Expr) (t:TT):Prop:=
 ∀ (pins:List (Addr×Obj)) (s:Shared) (σ:St) (H:Hp) (Q:Bool->Hp->Prop),Inv X pins σ H s->t σ H Q->wpAny (model X.prog X.w) X.A (isTrue e X.env (eval e X.env)) (TP X pins σ Q) X.xe s
def PW (X:Cx) (e:Expr) (t:TT):Prop:=
 ∀ (whole:Sem Value) (pins:List (Addr×Obj)) (s:Shared) (σ:St) (H:Hp) (Q:Bool->Hp->Prop),Inv X pins σ H s->t σ H Q->wpAny (model X.prog X.w) X.A (isTrue e X.env whole) (TP X pins σ Q) X.xe s
theorem PW.pt {X:Cx} {e:Expr} {t:TT} (h:PW X e t):PT X e t:=h _
def PA (X:Cx) (es:List Expr) (t:TA):Prop:=
 ∀ (pos:Pos) (pins:List (Addr×Obj)) (s:Shared) (σ:St) (H:Hp) (Q:List V->Hp->Prop),Inv X pins σ H s->t σ H Q->wpAny (model X.prog X.w) X.A (spliced (backTo pos (starEach es X.env))) (AP X pins σ Q) X.xe s
def PS (X:Cx) (st:Stmt) (t:TS):Prop:=
 ∀ (pins:List (Addr×Obj)) (s:Shared) (σ:St) (H:Hp) (D:uj),Inv X pins σ H s->t D σ H->wpAny (model X.prog X.w) X.A (exec st X.env) (SP X pins D) X.xe s
def PSs (X:Cx) (st:List Stmt) (t:TS):Prop:=
 ∀ (pins:List (Addr×Obj)) (s:Shared) (σ:St) (H:Hp) (D:uj),Inv X pins σ H s->t D σ H->wpAny (model X.prog X.w) X.A (execs st X.env) (SP X pins D) X.xe s
theorem thn {α:Type} {t:Sem α} {Q Q' :α->Shared->Prop} {M:Model} {A:Around} {E:Value->Shared->Prop} {s:Shared} (h:wpAny M A t Q E s) (hQ:∀ a s,Q a s->Q' a s):wpAny M A t Q' E s:=wpAny_mono h hQ fun _ _ x=>x
end L2
namespace L2
open PySem PySem.Spec PyProof.Rows
section
variable {X:Cx}
theorem bin {a b:Expr} {ta tb:TE} (ha:PE X a ta) (hb:PE X b tb) {pins:List (Addr×Obj)} {s:Shared} {σ:St} {H:Hp} {R:V->V->Hp->Prop} (I:Inv X pins σ H s) (h:ta σ H fun x H1=>tb σ H1 fun y H2=>R x y H2)
  {α:Type} {Q:α->Shared->Prop} {f:Value->Value->Sem α}
  (hf:∀ v u s2 x y H2,Inv X pins σ H2 s2->zJ x v->zJ y u->R x y H2->wpAny (model X.prog X.w) X.A (f v u) Q X.xe s2):
  wpAny (model X.prog X.w) X.A (eval a X.env) (fun v s₁=>wpAny (model X.prog X.w) X.A (eval b X.env) (fun u s₂=>wpAny (model X.prog X.w) X.A (f v u) Q X.xe s₂) X.xe s₁) X.xe s:=by
 refine thn (ha pins s σ H _ I h) fun v s1 ⟨x,H1,I1,r1,q1⟩=> ?_
 refine thn (hb pins s1 σ H1 _ I1 q1) fun u s2 ⟨y,H2,I2,r2,q2⟩=> ?_
 exact hf v u s2 x y H2 I2 r1 r2 q2
def uf (i:Nat):TE:=fun σ H Q=>∃ v,σ[i]? =some (some v)/\Q v H
def tC (v:V):TE:=fun _ H Q=>Q v H
theorem W1 {i:Nat} {x:Str} {pos:Pos} (hN:X.N[i]? =some x) (hv:Vis X.env.scope x) (hd:(x == ("__debug__":Str))=false:=by decide) (hcd:(x == ("__classdict__":Str))=false:=by decide):PE X (.Name x pos) (uf i):=by
 intro pins s σ H Q I h
 obtain ⟨v,e,h⟩:=h
 obtain ⟨m,hn,hl⟩:=I.loc
 obtain ⟨u,r,l⟩:=hl i x v hN e hv
 have fin:EP X pins σ Q u s:=⟨v,H,I,r,h⟩
 rcases l with ⟨hk,hm⟩ | ⟨hk,c,hc,hcell⟩
 ·exact wpAny_Name (wpAny_loadName_local I.ok.kind hk hn hm fin) hd
 ·rcases hk with hk | hk
  ·exact wpAny_Name (wpAny_loadName_cell I.ok.kind hk hc hcell fin) hd
  ·exact wpAny_Name (wpAny_loadName_free I.ok.kind hk hc hcell fin hcd) hd
theorem Ye {i j pos}:PE X (.Constant (.int i) j pos) (tC (.int i)):=fun _ _ _ H _ I h=>wpAny_Constant_int ⟨.int i,H,I.tok _,⟨_,rfl⟩,h⟩
theorem QA {b j pos}:PE X (.Constant (.bool b) j pos) (tC (.bl b)):=fun _ _ _ H _ I h=>Constant_bool ⟨.bl b,H,I,rfl,h⟩
theorem Yf {j pos}:PE X (.Constant .none j pos) (tC .non):=fun _ _ _ H _ I h=>Constant_none ⟨.non,H,I,rfl,h⟩
theorem Yg {x j pos}:PE X (.Constant (.str x) j pos) (tC (.str x)):=fun _ _ _ H _ I h=>Calls.Constant_str ⟨.str x,H,I.tok _,⟨_,rfl⟩,h⟩
def Gl (X:Cx) (x:Str):Prop:=X.env.kindOf x=some .globalImplicit
theorem Zz {E:Value->Shared->Prop} {pins:List (Addr×Obj)} {s:Shared} {σ:St} {H:Hp} {x:Str} {u:Value} {pos:Pos} {Q:Value->Shared->Prop} (I:Inv X pins σ H s) (hg:Gl X x) (hm:X.mg x=some u) (h:Q u s)
  (hd:(x == ("__debug__":Str))=false:=by decide):wpAny (model X.prog X.w) X.A (eval (.Name x pos) X.env) Q E s:=
 Calls.Name_function_global I.ok.kind hg (Calls.loadGlobal_global (by rw [I.ok.glob]; exact I.mod.glob.keeps I.bk) hm h) hd
theorem Zb {E:Value->Shared->Prop} {pins:List (Addr×Obj)} {s:Shared} {σ:St} {H:Hp} {x:Str} {u:Value} {pos:Pos} {Q:Value->Shared->Prop} (I:Inv X pins σ H s) (hg:Gl X x) (hm:X.mg x=none) (hv:bootBuiltins x=some u) (h:Q u s)
  (hn:x ≠ "__name__":=by decide) (hd:(x == ("__debug__":Str))=false:=by decide):wpAny (model X.prog X.w) X.A (eval (.Name x pos) X.env) Q E s:=by
 obtain ⟨mb,h1,h2⟩:=I.mod.blt
 exact Calls.Name_function_global I.ok.kind hg (Calls.loadGlobal_builtin (by rw [I.ok.glob]; exact I.mod.glob.keeps I.bk) hm (by rw [I.ok.blt]; exact h1.keeps I.bk) ((h2 x hn).trans hv) h) hd
theorem W2 {x:Str} {v:V} {u:Value} {pos:Pos} (hg:Gl X x) (hm:X.mg x=some u) (r:zJ v u) (hd:(x == ("__debug__":Str))=false:=by decide):PE X (.Name x pos) (tC v):=
 fun _ _ _ H _ I h=>Zz I hg hm ⟨v,H,I,r,h⟩ hd
theorem jE {x:Str} {v:V} {u:Value} {pos:Pos} (hg:Gl X x) (hm:X.mg x=none) (hv:bootBuiltins x=some u) (r:zJ v u) (hn:x ≠ "__name__":=by decide) (hd:(x == ("__debug__":Str))=false:=by decide):PE X (.Name x pos) (tC v):=
 fun _ _ _ H _ I h=>Zb I hg hm hv ⟨v,H,I,r,h⟩ hn hd
variable {a b:Expr} {ta tb:TE} {pos:Pos}
variable {tA tB' :TT} {rest:List Expr}
def tOr (t u:TT):TT:=fun σ H Q=>t σ H fun c H1=>if c=true then Q true H1 else u σ H1 Q
def xC (t:TT):TT:=fun σ H Q=>t σ H fun c H1=>Q (!c) H1
theorem Yh (ha:PT X a tA):PW X (.BoolOp .Or [a] pos) tA:=by
 intro wh pins s σ H Q I h
 refine isTrue_or (thn (ha pins s σ H Q I h) fun c s1 e=> ?_)
 cases c with
 | false=>exact isTrue_or_nil e
 | true=>exact e
theorem QB (ha:PT X a tA) (hb:PW X (.BoolOp .Or (b :: rest) pos) tB'):PW X (.BoolOp .Or (a :: b :: rest) pos) (tOr tA tB'):=by
 intro wh pins s σ H Q I h
 refine isTrue_or (thn (ha pins s σ H _ I h) fun c s1 ⟨H1,I1,q1⟩=> ?_)
 cases c with
 | true=>exact ⟨H1,I1,q1⟩
 | false=>exact hb wh pins s1 σ H1 Q I1 q1
theorem Yi (ha:PT X a tA):PT X (.UnaryOp .Not a pos) (xC tA):=by
 intro pins s σ H Q I h
 exact isTrue_not (ha pins s σ H (fun c H1=>Q (!c) H1) I h)
def QC (ta tb:TE):TE:=fun σ H Q=>ta σ H fun x H1=>∃ c,x= .bl c/\if c=true then tb σ H1 Q else Q (.bl false) H1
def QD (ta:TE):TE:=fun σ H Q=>ta σ H fun x H1=>∃ c,x= .bl c/\Q (.bl (!c)) H1
theorem Yj {op} {t:TE} (h:PE X a t):PE X (.BoolOp op [a] pos) t:=fun pins s σ H Q I hw=>BoolOp_one (h pins s σ H Q I hw)
theorem Yk (ha:PE X a ta) (hb:PE X (.BoolOp .And (b :: rest) pos) tb):PE X (.BoolOp .And (a :: b :: rest) pos) (QC ta tb):=by
 intro pins s σ H Q I h
 refine BoolOp_and (thn (ha pins s σ H _ I h) fun v s1 ⟨x,H1,I1,r1,q1⟩=> ?_)
 obtain ⟨c,rfl,q1⟩:=q1
 cases r1
 refine wpAny_truthy_bool ?_
 cases c with
 | true=>exact hb pins s1 σ H1 Q I1 q1
 | false=>exact ⟨.bl false,H1,I1,rfl,q1⟩
theorem Yl (ha:PE X a ta):PE X (.UnaryOp .Not a pos) (QD ta):=by
 intro pins s σ H Q I h
 refine UnaryOp_ (thn (ha pins s σ H _ I h) fun v s1 ⟨x,H1,I1,r1,q1⟩=> ?_)
 obtain ⟨c,rfl,q1⟩:=q1
 cases r1
 exact not_of (wpAny_truthy_bool ⟨.bl (!c),H1,I1,rfl,q1⟩)
end
end L2
namespace L2
open PySem PySem.Spec PyProof.Rows
def SqL (K:PySem.W.Frag) (H:Hp) (a:Addr) (xs:List V):Prop:=
 Rd H a (.lst xs)\/
  ∃ (o:Obj) (its:Array Value) (n:Nat),K.lookup a=some o/\o.cls= .type "list"/\o.dict=none/\o.data= .seq its n/\its.size<=sizeLine/\zE xs its.toList
def SqT (K:PySem.W.Frag) (H:Hp) (a:Addr) (xs:List V):Prop:=
 Rd H a (.tup xs)\/
  ∃ (o:Obj) (its:Array Value) (n:Nat),K.lookup a=some o/\o.cls= .type "tuple"/\o.data= .seq its n/\its.size<=sizeLine/\zE xs its.toList
def xD:Value->Option V
 | .none=>some .non
 | .bool b=>some (.bl b)
 | .int i _=>some (.int i)
 | .str x _=>some (.str x)
 | .bytes b _=>some (.byt b)
 | .float b _=>some (.flt b)
 | .ref a=>some (.ref a)
 | .type n=>some (.ty n)
 | _=>none
theorem zJ.abs {x:V} {u:Value} (r:zJ x u):xD u=some x:=by
 cases x with
 | non=>cases r; rfl
 | bl _=>cases r; rfl
 | int _=>obtain ⟨t,rfl⟩:=r; rfl
 | str _=>obtain ⟨t,rfl⟩:=r; rfl
 | byt _=>obtain ⟨t,rfl⟩:=r; rfl
 | flt _=>obtain ⟨t,rfl⟩:=r; rfl
 | ref _=>cases r; rfl
 | ty _=>cases r; rfl
theorem zJ.inj {x y:V} {u:Value} (r:zJ x u) (q:zJ y u):x=y:=Option.some.inj (r.abs.symm.trans q.abs)
theorem zE.inj:∀ {xs ys:List V} {us:List Value},zE xs us->zE ys us->xs=ys
 | _,_,_, .nil, .nil=>rfl
 | _,_,_, .cons r t, .cons r' t' =>by rw [r.inj r',zE.inj t t']
section
variable {X:Cx} {pins:List (Addr×Obj)} {σ:St} {H:Hp} {s:Shared} {a:Addr} {xs ys:List V}
theorem SqL.of {K:PySem.W.Frag} (h:H a=some (.lst xs)):SqL K H a xs:= .inl (.inl h)
theorem SqT.of {K:PySem.W.Frag} (h:H a=some (.tup xs)):SqT K H a xs:= .inl (.inl h)
theorem Inv.list (I:Inv X pins σ H s) (h:SqL X.K H a xs):∃ its:List Value,zE xs its/\PlainL s.heap a its.toArray/\xs.length<=sizeLine:=by
 rcases h with h | ⟨o,its,n,hk,hc,hd,hs,hz,r⟩
 ·obtain ⟨z,its,n,r,e⟩:=h.ok I.hok
  exact ⟨its,r,⟨_,n,e,rfl,rfl,rfl⟩,z⟩
 ·refine ⟨its.toList,r,⟨o,n,I.kIn a o hk,hc,hd,by simpa using hs⟩, ?_⟩
  have e:=r.length
  simp only [Array.length_toList] at e
  omega
theorem Inv.tuple (I:Inv X pins σ H s) (h:SqT X.K H a xs):∃ its:List Value,zE xs its/\IsTup s.heap a its.toArray/\xs.length<=sizeLine:=by
 rcases h with h | ⟨o,its,n,hk,hc,hs,hz,r⟩
 ·obtain ⟨z,its,r,p,_⟩:=h.ok I.hok
  exact ⟨its,r,p,z⟩
 ·refine ⟨its.toList,r,⟨o,I.kIn a o hk,hc,n,by simpa using hs⟩, ?_⟩
  have e:=r.length
  simp only [Array.length_toList] at e
  omega
theorem Inv.list_inj (I:Inv X pins σ H s) (h:SqL X.K H a xs) (h' :SqL X.K H a ys):xs=ys:=by
 obtain ⟨its,r,⟨o,n,e,_,_,d⟩,_⟩:=I.list h
 obtain ⟨its',r',⟨o',n',e',_,_,d'⟩,_⟩:=I.list h'
 rw [e] at e'; cases e'
 rw [d] at d'
 injection d' with d1 _
 have:its=its' :=by simpa using congrArg Array.toList d1
 subst this
 exact r.inj r'
theorem Inv.tuple_inj (I:Inv X pins σ H s) (h:SqT X.K H a xs) (h' :SqT X.K H a ys):xs=ys:=by
 obtain ⟨its,r,⟨o,e,_,n,d⟩,_⟩:=I.tuple h
 obtain ⟨its',r',⟨o',e',_,n',d'⟩,_⟩:=I.tuple h'
 rw [e] at e'; cases e'
 rw [d] at d'
 injection d' with d1 _
 have:its=its' :=by simpa using congrArg Array.toList d1
 subst this
 exact r.inj r'
end
abbrev Cx.wish (X:Cx) (E:Value->Shared->Prop):Cx:={ X with xe:=E }
abbrev Cx.nox (X:Cx):Cx:=X.wish fun _ _=>False
theorem Cx.Ok.wish {X:Cx} (ok:X.Ok) (E:Value->Shared->Prop):(X.wish E).Ok:=
 ⟨ok.mod,ok.kind,ok.glob,ok.blt,ok.above,ok.inj,ok.has,ok.cab,ok.hd,ok.frames,ok.stk,ok.exf,ok.bs,ok.bsz,ok.noex,ok.exfs,ok.funs,ok.frf⟩
theorem Cx.Ok.unwish {X:Cx} {E:Value->Shared->Prop} (ok:(X.wish E).Ok):X.Ok:=
 ⟨ok.mod,ok.kind,ok.glob,ok.blt,ok.above,ok.inj,ok.has,ok.cab,ok.hd,ok.frames,ok.stk,ok.exf,ok.bs,ok.bsz,ok.noex,ok.exfs,ok.funs,ok.frf⟩
section
variable {X:Cx} {pins:List (Addr×Obj)} {σ:St} {H:Hp} {s:Shared} {E:Value->Shared->Prop}
theorem Inv.wish (I:Inv X pins σ H s) (E:Value->Shared->Prop):Inv (X.wish E) pins σ H s:=⟨I.ok.wish E,I.os,I.bare,I.base,I.loc,I.cell,I.free,I.freeC,I.pin,I.hok,I.len⟩
theorem Inv.unwish (I:Inv (X.wish E) pins σ H s):Inv X pins σ H s:=⟨I.ok.unwish,I.os,I.bare,I.base,I.loc,I.cell,I.free,I.freeC,I.pin,I.hok,I.len⟩
theorem SP.unwish {D:uj} {f:Flow} {s' :Shared} (h:SP (X.wish E) pins D f s'):SP X pins D f s' :=by
 cases f with
 | next=>obtain ⟨σ',H',I,q⟩:=h; exact ⟨σ',H',I.unwish,q⟩
 | brk=>obtain ⟨σ',H',I,q⟩:=h; exact ⟨σ',H',I.unwish,q⟩
 | cont=>obtain ⟨σ',H',I,q⟩:=h; exact ⟨σ',H',I.unwish,q⟩
 | ret u=>obtain ⟨v,σ',H',I,r,q⟩:=h; exact ⟨v,σ',H',I.unwish,r,q⟩
theorem PSs.nox {st:List Stmt} {t:TS} (h:PSs X.nox st t):PSs X st t:=fun pins s σ H D I hw=>
 wpAny_mono (h pins s σ H D (I.wish _) hw) (fun _ _ q=>q.unwish) fun _ _ z=>False.elim z
end
section
variable {X:Cx} {st:Stmt} {rest:List Stmt} {t u:TS} {e:Expr} {te:TE} {pos:Pos}
def QE:TS:=fun D σ H=>D.nx σ H
def xE (t u:TS):TS:=fun D σ H=>t { D with nx:=u D } σ H
theorem UB:PSs X [] QE:=fun _ _ σ H _ I h=>wpAny_execs_nil ⟨σ,H,I,h⟩
theorem uk (h1:PS X st t) (h2:PSs X rest u):PSs X (st :: rest) (xE t u):=by
 intro pins s σ H D I h
 refine wpAny_execs_cons (thn (h1 pins s σ H { D with nx:=u D } I h) fun f s1 q=> ?_)
 cases f with
 | next=>
  obtain ⟨σ',H',I',q⟩:=q
  exact h2 pins s1 σ' H' D I' q
 | ret v=>exact q
 | brk=>exact q
 | cont=>exact q
theorem jF (h1:PS X st t):PSs X [st] t:=by
 intro pins s σ H D I h
 refine wpAny_execs_cons (thn (h1 pins s σ H D I h) fun f s1 q=> ?_)
 cases f with
 | next=>exact wpAny_execs_nil q
 | ret v=>exact q
 | brk=>exact q
 | cont=>exact q
theorem Inv.quiet {pins:List (Addr×Obj)} {σ:St} {H:Hp} {s:Shared} (I:Inv X pins σ H s):interactive X.env=false:=by simp [interactive,I.ok.kind]
def QF (te:TE):TS:=fun D σ H=>te σ H fun _ H1=>D.nx σ H1
theorem Jw (he:PE X e te) (hs:swapsWith e none pos.line X.env=pure false:=by rfl):PS X (.Expr e pos) (QF te):=by
 intro pins s σ H D I h
 exact wpAny_Expr_any (thn (he pins s σ H _ I h) fun v s1 ⟨x,H1,I1,r1,q1⟩=>⟨σ,H1,I1,q1⟩) I.quiet hs
def Vd (te:TE):TS:=fun D σ H=>te σ H D.rt
theorem W3 (he:PE X e te):PS X (.Return (some e) pos) (Vd te):=by
 intro pins s σ H D I h
 exact wpAny_Return_some (thn (he pins s σ H _ I h) fun v s1 ⟨x,H1,I1,r1,q1⟩=>⟨x,σ,H1,I1,r1,q1⟩)
def xF (c:TT) (t u:TS):TS:=fun D σ H=>c σ H fun b H1=>if b=true then t D σ H1 else u D σ H1
theorem QG {c:Expr} {a b:List Stmt} {tc:TT} (hc:PT X c tc) (ha:PSs X a t) (hb:PSs X b u):PS X (.If c a b pos) (xF tc t u):=by
 intro pins s σ H D I h
 refine wpAny_If (thn (hc pins s σ H _ I h) fun d s1 ⟨H1,I1,q1⟩=> ?_)
 cases d with
 | true=>exact ha pins s1 σ H1 D I1 q1
 | false=>exact hb pins s1 σ H1 D I1 q1
end
abbrev TG:=V->St->Hp->(St->Hp->Prop)->Prop
abbrev TGs:=List V->St->Hp->(St->Hp->Prop)->Prop
def PG (X:Cx) (target:Expr) (t:TG):Prop:=
 ∀ (pins:List (Addr×Obj)) (s:Shared) (σ:St) (H:Hp) (v:V) (u:Value) (Q:St->Hp->Prop),Inv X pins σ H s->zJ v u->t v σ H Q->
  wpAny (model X.prog X.w) X.A (assign target X.env u) (fun _ s' =>∃ σ' H',Inv X pins σ' H' s' /\Q σ' H') X.xe s
def PGs (X:Cx) (ts:List Expr) (t:TGs):Prop:=
 ∀ (pins:List (Addr×Obj)) (s:Shared) (σ:St) (H:Hp) (vs:List V) (us:List Value) (Q:St->Hp->Prop),Inv X pins σ H s->zE vs us->t vs σ H Q->
  wpAny (model X.prog X.w) X.A (assignInOrder ((assignEach ts X.env).map (·.2)) us) (fun _ s' =>∃ σ' H',Inv X pins σ' H' s' /\Q σ' H') X.xe s
section
variable {X:Cx} {pos:Pos}
def jG (i:Nat):TG:=fun v σ H Q=>Q (σ.set i (some v)) H
theorem zp {i:Nat} {x:Str} (hN:X.N.Nodup) (hi:X.N[i]? =some x) (hx:Loc X.env.scope x) (hf:X.fn x=true\/X.env.scope.names.lookup x=some .local:=by first | exact .inl rfl | exact .inr rfl | assumption):PG X (.Name x pos) (jG i):=by
 intro pins s σ H v u Q I r h
 exact wpAny_assign_Name (jD I hN hi hx r (fun s' I' =>⟨_,H,I',h⟩) hf)
def QH:TGs:=fun vs σ H Q=>vs=[]/\Q σ H
def ww (t:TG) (u:TGs):TGs:=fun vs σ H Q=>∃ v r,vs=v :: r/\t v σ H fun σ' H' =>u r σ' H' Q
theorem ZW:PGs X [] QH:=by
 intro pins s σ H vs us Q I r h
 obtain ⟨e,h⟩:=h
 subst e
 cases r
 exact assignInOrder_nil ⟨σ,H,I,h⟩
theorem zM {e:Expr} {es:List Expr} {t:TG} {u:TGs} (h1:PG X e t) (h2:PGs X es u)
  (hs:(assignEach (e :: es) X.env).map (·.2)=assign e X.env :: (assignEach es X.env).map (·.2):=by rfl):PGs X (e :: es) (ww t u):=by
 intro pins s σ H vs us Q I r h
 obtain ⟨v,vr,e1,h⟩:=h
 subst e1
 cases r with
 | cons r rr=>
  rw [hs]
  refine assignInOrder_cons (thn (h1 pins s σ H _ _ _ I r h) fun _ s1 ⟨σ1,H1,I1,q1⟩=> ?_)
  exact h2 pins s1 σ1 H1 _ _ Q I1 rr q1
def QI (K:PySem.W.Frag) (n:Nat) (t:TGs):TG:=fun v σ H Q=>∃ a xs,v= .ref a/\SqT K H a xs/\xs.length=n/\t xs σ H Q
theorem jW {es:List Expr} {k:Nat} {t:TGs} {n:Nat} (hc:X.calm=true) (h:PGs X es t)
  (hn:(assignEach es X.env).length=n:=by rfl) (hst:(assignEach es X.env).findIdx? (·.1)=none:=by rfl):PG X (.Tuple es k pos) (QI X.K n t):=by
 intro pins s σ H v u Q I r hw
 obtain ⟨a,xs,e1,hq,hl,hw⟩:=hw
 subst e1
 cases r
 obtain ⟨its,rv,ht,hz⟩:=I.tuple hq
 refine assign_Tuple_tuple (I.ok.hd hc) ht (by simp [hn,← hl,rv.length]) hst fun h' hx=> ?_
 have I1:Inv X pins σ H { s with heap:=h' }:=I.kept (t' :=s.toks) fun b o e=>hx b o (Nat.ne_of_lt (Heap.lt_size e)) e
 exact h pins _ σ H xs _ Q I1 (by simpa using rv) hw
def Ve (te:TE) (g:TG):TS:=fun D σ H=>te σ H fun x H1=>g x σ H1 D.nx
theorem Ym {tg e:Expr} {te:TE} {g:TG} (he:PE X e te) (hg:PG X tg g) (hs:swapsWithSole [tg] e pos.line X.env=pure false:=by rfl) (hw:swappedStores [tg] e X.env=pure none:=by rfl)
  (h1:(assignEach [tg] X.env).map (·.2)=[assign tg X.env]:=by rfl):PS X (.Assign [tg] e pos) (Ve te g):=by
 intro pins s σ H D I h
 refine wpAny_Assign_stores (thn (he pins s σ H _ I h) fun v s1 ⟨x,H1,I1,r1,q1⟩=> ?_) hs hw
 rw [h1]
 exact thn (hg pins s1 σ H1 x v _ I1 r1 q1) fun _ s2 q=>q
theorem W4 {i:Nat} {x:Str} {e:Expr} {te:TE} {pos' :Pos} (hN:X.N.Nodup) (hi:X.N[i]? =some x) (hx:Loc X.env.scope x) (he:PE X e te) (hs:swapsWith e (some (.Name x pos')) pos.line X.env=pure false:=by rfl) (hf:X.fn x=true\/X.env.scope.names.lookup x=some .local:=by first | exact .inl rfl | exact .inr rfl | assumption):
  PS X (.Assign [.Name x pos'] e pos) (Ve te (jG i)):=by
 intro pins s σ H D I h
 refine wpAny_Assign_Name (thn (he pins s σ H _ I h) fun v s1 ⟨y,H1,I1,r1,q1⟩=> ?_) hs
 exact jD I1 hN hi hx r1 (fun s2 I2=>⟨_,H1,I2,q1⟩) hf
end
section
variable {X:Cx} {pos:Pos}
def Yn (c:TT) (tb:TS):TS:=fun D σ H=>∃ W:Nat->St->Hp->Prop,(∃ m,W m σ H)/\∀ m σ H,W m σ H->
 c σ H fun b H1=>if b=true then ∃ N:St->Hp->Prop,(∀ σ' H',N σ' H' ->∃ m',m' < m/\W m' σ' H')/\tb { D with nx:=N,ct:=N,bk:=D.nx } σ H1 else D.nx σ H1
theorem ul {c:Expr} {body:List Stmt} {tc:TT} {tb:TS} (hp:PassesOwn (model X.prog X.w) X.A X.env X.xe) (hc:PT X c tc) (hb:PSs X body tb):PS X (.While c body [] pos) (Yn tc tb):=by
 intro pins s σ H D I h
 obtain ⟨W,⟨m0,w0⟩,turn⟩:=h
 refine wpAny_While (codeAny_whileLoop (fun n s' =>∃ σ' H',Inv X pins σ' H' s' /\W n σ' H') ?_ m0 ⟨σ,H,I,w0⟩)
 rintro n s1 ⟨σ1,H1,I1,w1⟩
 refine wpAny_passesOwn hp (thn (hc pins s1 σ1 H1 _ I1 (turn n σ1 H1 w1)) fun b s2 ⟨H2,I2,q2⟩=> ?_)
 cases b with
 | true=>
  obtain ⟨N,hN,q2⟩:=q2
  rw [if_pos rfl]
  refine wpAny_passesOwn hp (thn (hb pins s2 σ1 H2 _ I2 q2) fun f s3 q3=> ?_)
  cases f with
  | next=>
   obtain ⟨σ3,H3,I3,n3⟩:=q3
   obtain ⟨m',hm,w3⟩:=hN σ3 H3 n3
   exact ⟨m',hm,σ3,H3,I3,w3⟩
  | cont=>
   obtain ⟨σ3,H3,I3,n3⟩:=q3
   obtain ⟨m',hm,w3⟩:=hN σ3 H3 n3
   exact ⟨m',hm,σ3,H3,I3,w3⟩
  | brk=>exact q3
  | ret v=>exact q3
 | false=>
  rw [if_neg Bool.false_ne_true]
  exact wpAny_execs_nil ⟨σ1,H2,I2,q2⟩
end
structure It where
 go:Nat->Hp->Prop
 yld:Nat->Hp->V->Hp->Prop
 stop:Nat->Hp->Prop
def jT (X:Cx) (pins:List (Addr×Obj)) (H:Hp) (b:Addr):Prop:=
 H b=none/\b ≠ X.env.locals/\b ∉ X.fs/\(b∈X.ex\/X.s₀.heap.objs.size<=b)/\(∀ x c,X.env.cells.lookup x=some c->c ≠ b)/\∀ p∈X.pn++pins,p.1 ≠ b
theorem Inv.fpOk {X:Cx} {pins:List (Addr×Obj)} {σ:St} {H H' :Hp} {s:Shared} {b:Addr} (I:Inv X pins σ H s) (hb:s.heap.objs.size<=b) (hn:H' b=none):jT X pins H' b:=by
 refine ⟨hn,Nat.ne_of_gt (Nat.lt_of_lt_of_le I.lt hb),I.nofs hb, .inr (Nat.le_trans I.sz hb),fun x c e z=> ?_,fun p hp z=> ?_⟩
 ·obtain ⟨v,q⟩:=I.cell x c e
  exact absurd (Nat.lt_of_lt_of_le q.lt (by rw [z]; exact hb)) (Nat.lt_irrefl _)
 ·exact absurd (Nat.lt_of_lt_of_le (Heap.lt_size (I.pin p hp).1) (by rw [z]; exact hb)) (Nat.lt_irrefl _)
structure W5 (P:Program) (w:World) (K:PySem.W.Frag) (tg:Expr) (J:It) (fp:List Addr) (it:Addr) (tn:Nat->Heap->Prop):Prop where
 mem:it∈fp
 obj:∀ i h,tn i h->∀ b∈fp,∃ o,h.get? b=some o/\∀ v,o.data ≠ .cell v
 keep:∀ i h h',tn i h->(∀ b∈fp,∀ o,h.get? b=some o->h'.get? b=some o)->tn i h'
 item:∀ (X:Cx),X.prog=P->X.w=w->X.K=K->X.calm=true->∀ (i:Nat) (pins:List (Addr×Obj)) (s:Shared) (σ:St) (H:Hp) (E:Value->Shared->Prop),Inv X pins σ H s->(∀ b∈fp,jT X pins H b)->tn i s.heap->J.go i H->
  wpAny (model P w) X.A (pyNext (.ref it)) (fun r s1=>∃ u,r=some u/\
   wpAny (model P w) X.A (letOwnedTupleGo tg (.ref it) u) (fun _ s2=>∃ x H',Inv X pins σ H' s2/\zJ x u/\J.yld i H x H' /\tn (i+1) s2.heap/\∀ b∈fp,H' b=none) E s1) E s
 done:∀ (X:Cx),X.prog=P->X.w=w->X.K=K->X.calm=true->∀ (i:Nat) (pins:List (Addr×Obj)) (s:Shared) (σ:St) (H:Hp) (E:Value->Shared->Prop),Inv X pins σ H s->(∀ b∈fp,jT X pins H b)->tn i s.heap->J.stop i H->
  wpAny (model P w) X.A (pyNext (.ref it)) (fun r s1=>r=none/\Inv X pins σ H s1) E s
 self:∀ (A:Around) (i:Nat) (s:Shared) (Q:Value->Shared->Prop) (E:Value->Shared->Prop),tn i s.heap->Q (.ref it) s->wpAny (model P w) A (pyIter (.ref it)) Q E s
abbrev TI:=St->Hp->(It->Hp->Prop)->Prop
def PIE (X:Cx) (pins:List (Addr×Obj)) (σ:St) (tg:Expr) (R:It->Hp->Prop) (itv:Value) (s2:Shared):Prop:=
 ∃ (it:Addr) (fp:List Addr) (tn:Nat->Heap->Prop) (J:It) (H' :Hp),itv= .ref it/\Inv X pins σ H' s2/\W5 X.prog X.w X.K tg J fp it tn/\tn 0 s2.heap/\(∀ b∈fp,jT X pins H' b)/\R J H'
def PI (X:Cx) (tg iter:Expr) (wi:TI):Prop:=
 ∀ (pins:List (Addr×Obj)) (s:Shared) (σ:St) (H:Hp) (R:It->Hp->Prop),Inv X pins σ H s->wi σ H R->
  wpAny (model X.prog X.w) X.A (eval iter X.env) (fun v s1=>wpAny (model X.prog X.w) X.A (pyIter v) (PIE X pins σ tg R) X.xe s1) X.xe s
theorem wx {M:Model} {A:Around} {E:Value->Shared->Prop} {s:Shared} {tg:Expr} {it:Addr} {u:Value} {o:Obj} {n:String} {vs:Array Value} {Q:Unit->Shared->Prop} (ho:s.heap.get? it=some o) (hc:o.cls= .type n) (hd:o.data= .fields vs)
  (hn:["enumerate","zip","dict_itemiterator","dict_reverseitemiterator","odict_iterator","itertools.zip_longest","itertools.pairwise"].contains n=false) (hQ:Q () s):wpAny M A (letOwnedTupleGo tg (.ref it) u) Q E s:=by
 unfold letOwnedTupleGo
 cases tg <;> first
  | exact wpAny_pure hQ
  | (cases u <;> first
    | exact wpAny_pure hQ
    | (refine wpAny_bind (wpAny_load ho ?_); rw [hc,hd]; show wpAny M A (if (["enumerate","zip","dict_itemiterator","dict_reverseitemiterator","odict_iterator","itertools.zip_longest","itertools.pairwise"].contains n && vs[0]? == some (rawInt _))=true then _ else _) Q E s; rw [if_neg (by intro h; rw [hn,Bool.false_and] at h; cases h)]; exact wpAny_pure hQ))
def Itl (K:PySem.W.Frag) (a:Addr):It:=
 ⟨fun i H=>∃ xs x,SqL K H a xs/\xs[i]? =some x,fun i H x H' =>H' =H/\∀ xs,SqL K H a xs->xs[i]? =some x,fun i H=>∃ xs,SqL K H a xs/\xs.length<=i⟩
def Itt (K:PySem.W.Frag) (a:Addr):It:=
 ⟨fun i H=>∃ xs x,SqT K H a xs/\xs[i]? =some x,fun i H x H' =>H' =H/\∀ xs,SqT K H a xs->xs[i]? =some x,fun i H=>∃ xs,SqT K H a xs/\xs.length<=i⟩
def Itr (lo:Int) (n:Nat):It:=⟨fun i _=>i < n,fun i H x H' =>H' =H/\x= .int (lo+i),fun i _=>n<=i⟩
theorem W6 {P:Program} {w:World} {K:PySem.W.Frag} {tg:Expr} (a it:Addr):W5 P w K tg (Itl K a) [it] it (fun i h=>h.IsListIter it a i) where
 mem:=by simp
 obj:=fun i h st b hb=>by
  have e:b=it:=by simpa using hb
  subst e
  obtain ⟨o,e,c,d⟩:=st
  exact ⟨o,e,fun v z=>by rw [d] at z; cases z⟩
 keep:=fun i h h' st k=>st.at fun o e=>k it (by simp) o e
 item:=by
  intro X hP hw hK hc i pins s σ H E I hf st hg
  subst hP hw hK
  obtain ⟨xs,x,hq,hx⟩:=hg
  obtain ⟨its,rv,p,hz⟩:=I.list hq
  obtain ⟨u,hu,ru⟩:=rv.get hx
  obtain ⟨f0,f1,f2,f3,f4,f5⟩:=hf it (by simp)
  refine wpAny_pyNext_list_item st p.isList (x:=u) (by simpa using hu) fun h' st' sb=> ?_
  have I1:Inv X pins σ H { s with heap:=h' }:=I.turned (t' :=s.toks) (fun b o hb e=>(sb.2 b hb).trans e) f0 f1 f3 f4 f5
  obtain ⟨o,e,c,d⟩:=id st'
  exact ⟨u,rfl,wx (s:={ s with heap:=h' }) e c d (by decide) ⟨x,H,I1,ru,⟨rfl,fun ys hy=>by rw [I.list_inj hy hq]; exact hx⟩,st',fun b hb=>(hf b hb).1⟩⟩
 done:=by
  intro X hP hw hK hc i pins s σ H E I hf st hg
  subst hP hw hK
  obtain ⟨xs,hq,hx⟩:=hg
  obtain ⟨its,rv,p,hz⟩:=I.list hq
  obtain ⟨f0,f1,f2,f3,f4,f5⟩:=hf it (by simp)
  have hl:=rv.length
  exact wpAny_pyNext_list_end (I.ok.hd hc) st p.isList (by simp; omega) fun h' eb=>⟨rfl,I.turned (t' :=s.toks) (fun b o hb e=>eb b o hb e) f0 f1 f3 f4 f5⟩
 self:=fun _ _ _ _ _ st h=>wpAny_pyIter_listiter st h
theorem wy {P:Program} {w:World} {K:PySem.W.Frag} {tg:Expr} (a it:Addr):W5 P w K tg (Itt K a) [it] it (fun i h=>h.IsTupleIter it a i) where
 mem:=by simp
 obj:=fun i h st b hb=>by
  have e:b=it:=by simpa using hb
  subst e
  obtain ⟨o,e,c,d⟩:=st
  exact ⟨o,e,fun v z=>by rw [d] at z; cases z⟩
 keep:=fun i h h' st k=>st.at fun o e=>k it (by simp) o e
 item:=by
  intro X hP hw hK hc i pins s σ H E I hf st hg
  subst hP hw hK
  obtain ⟨xs,x,hq,hx⟩:=hg
  obtain ⟨its,rv,p,hz⟩:=I.tuple hq
  obtain ⟨u,hu,ru⟩:=rv.get hx
  obtain ⟨f0,f1,f2,f3,f4,f5⟩:=hf it (by simp)
  refine wpAny_pyNext_tuple_item st (show s.heap.IsTuple a its.toArray from p) (x:=u) (by simpa using hu) fun h' st' sb=> ?_
  have I1:Inv X pins σ H { s with heap:=h' }:=I.turned (t' :=s.toks) (fun b o hb e=>(sb.2 b hb).trans e) f0 f1 f3 f4 f5
  obtain ⟨o,e,c,d⟩:=id st'
  exact ⟨u,rfl,wx (s:={ s with heap:=h' }) e c d (by decide) ⟨x,H,I1,ru,⟨rfl,fun ys hy=>by rw [I.tuple_inj hy hq]; exact hx⟩,st',fun b hb=>(hf b hb).1⟩⟩
 done:=by
  intro X hP hw hK hc i pins s σ H E I hf st hg
  subst hP hw hK
  obtain ⟨xs,hq,hx⟩:=hg
  obtain ⟨its,rv,p,hz⟩:=I.tuple hq
  obtain ⟨f0,f1,f2,f3,f4,f5⟩:=hf it (by simp)
  have hl:=rv.length
  exact wpAny_pyNext_tuple_end (I.ok.hd hc) st (show s.heap.IsTuple a its.toArray from p) (by simp; omega) fun h' eb=>⟨rfl,I.turned (t' :=s.toks) (fun b o hb e=>eb b o hb e) f0 f1 f3 f4 f5⟩
 self:=fun _ _ _ _ _ st h=>wpAny_pyIter_tupleiter st h
theorem wz {P:Program} {w:World} {K:PySem.W.Frag} {tg:Expr} (it:Addr) (lo:Int) (n:Nat):W5 P w K tg (Itr lo n) [it] it (fun i h=>IsRangeIter h it (lo+(i:Nat)*1) ((n:Int) - (i:Nat)) 1) where
 mem:=by simp
 obj:=fun i h st b hb=>by
  have e:b=it:=by simpa using hb
  subst e
  exact ⟨_,st,fun v z=>by
   have z' :Data.fields _=Data.cell v:=z
   cases z'⟩
 keep:=fun i h h' st k=>k it (by simp) _ st
 item:=by
  intro X hP hw hK hc i pins s σ H E I hf st hg
  subst hP hw hK
  obtain ⟨f0,f1,f2,f3,f4,f5⟩:=hf it (by simp)
  have W:=Walks.range (prog:=X.prog) (w:=X.w) (I.ok.hd hc) it lo 1 n
  refine W.item i s _ _ hg st fun v h' tk hv st' kk=> ?_
  obtain ⟨t,rfl⟩:=hv
  have I1:Inv X pins σ H { s with heap:=h',toks:=tk }:=I.turned (fun b o hb e=>kk b o (by simpa using hb) e) f0 f1 f3 f4 f5
  refine ⟨_,rfl,wx (s:={ s with heap:=h',toks:=tk }) (n:="range_iterator") st' rfl rfl (by decide) ⟨.int (lo+i),H,I1,⟨t, ?_⟩,⟨rfl,rfl⟩,st',fun b hb=>(hf b hb).1⟩⟩
  rw [Int.mul_one]
 done:=by
  intro X hP hw hK hc i pins s σ H E I hf st hg
  subst hP hw hK
  obtain ⟨f0,f1,f2,f3,f4,f5⟩:=hf it (by simp)
  exact wpAny_pyNext_range_end (I.ok.hd hc) st (by have:n<=i:=hg; omega) fun h' eb=>⟨rfl,I.turned (t' :=s.toks) (fun b o hb e=>eb b o hb e) f0 f1 f3 f4 f5⟩
 self:=fun _ _ _ _ _ st h=>wpAny_pyIter_rangeiter st h
end L2
namespace L2
open PySem PySem.Spec PyProof.Rows
section
variable {X:Cx} {tg:Expr}
theorem JY {pins:List (Addr×Obj)} {σ:St} {H:Hp} {s:Shared} {R:It->Hp->Prop} {E:Value->Shared->Prop} {lo hi:Int} {t u v:Tok} {tk:Nat} (I:Inv X pins σ H s) (h1: -(2 ^ 62)<=lo) (h2:lo < 2 ^ 62) (h3: -(2 ^ 62)<=hi) (h4:hi < 2 ^ 62)
  (q:R (Itr lo (hi - lo).toNat) H):wpAny (model X.prog X.w) X.A (pyIter (.ref s.heap.objs.size)) (PIE X pins σ tg R) E { s with heap:=s.heap.push { cls:= .type "range",data:= .fields #[.int lo t, .int hi u, .int 1 v] },toks:=tk }:=by
 refine wpAny_pyIter_range (IsRange.new ..) (small_one h1 h2 h3 h4) ?_
 have I1:Inv X pins σ H { s with heap:=s.heap.push { cls:= .type "range",data:= .fields #[.int lo t, .int hi u, .int 1 v] },toks:=tk }:=I.kept fun b o e=>Heap.get?_push_of_some _ e
 refine ⟨(s.heap.push { cls:= .type "range",data:= .fields #[.int lo t, .int hi u, .int 1 v] }).objs.size,[(s.heap.push { cls:= .type "range",data:= .fields #[.int lo t, .int hi u, .int 1 v] }).objs.size],_,_,H,rfl,
  I1.kept (t' :=tk) fun b o e=>Heap.get?_push_of_some _ e,wz _ lo (hi - lo).toNat, ?_,fun b hb=> ?_,q⟩
 ·have e1:lo+((0:Nat):Int)*1=lo:=by simp
  have e2:(((hi - lo).toNat:Nat):Int) - ((0:Nat):Int)=Builtin.Range.rangeSize lo hi 1:=by rw [rangeSize_one]; split <;> omega
  show IsRangeIter _ _ (lo+((0:Nat):Int)*1) ((((hi - lo).toNat:Nat):Int) - ((0:Nat):Int)) 1
  rw [e1,e2]
  exact Heap.get?_push_size _ rfl
 ·have e:b=(s.heap.push { cls:= .type "range",data:= .fields #[.int lo t, .int hi u, .int 1 v] }).objs.size:=by simpa using hb
  subst e
  exact I1.fpOk (Nat.le_refl _) (I1.hok.fresh (Nat.le_refl _))
def QJ (ta:TA):TI:=fun σ H R=>ta σ H fun vs H1=>∃ j:Int,vs=[.int j]/\ -(2 ^ 62)<=j/\j < 2 ^ 62/\R (Itr 0 j.toNat) H1
def QK (ta:TA):TI:=fun σ H R=>ta σ H fun vs H1=>∃ i j:Int,vs=[.int i, .int j]/\(-(2 ^ 62)<=i/\i < 2 ^ 62/\ -(2 ^ 62)<=j/\j < 2 ^ 62)/\R (Itr i (j - i).toNat) H1
theorem W7 {a:Expr} {ta:TA} {p pos:Pos} (hg:Gl X "range") (hm:X.mg "range"=none) (ha:PA X [a] ta) (hs:starEach [a] X.env=[(false,eval a X.env)]:=by rfl):PI X tg (.Call (.Name "range" p) [a] [] pos) (QJ ta):=by
 intro pins s σ H R I h
 refine Call_ (Zb I hg hm boot_range (PyProof.Rows.callWith_type1 (thn (ha pos pins s σ H _ I h) fun us s1 ⟨vs,H1,I1,r1,q1⟩=> ?_) hs rfl))
 obtain ⟨j,e,q1,q2,q⟩:=q1
 subst e
 cases r1 with
 | cons r rr=>
  cases rr
  obtain ⟨t,rfl⟩:=r
  exact call_range_1 (JY I1 (by omega) (by omega) q1 q2 (by simpa using q))
theorem W8 {a b:Expr} {ta:TA} {p pos:Pos} (hg:Gl X "range") (hm:X.mg "range"=none) (ha:PA X [a,b] ta) (hs:starEach [a,b] X.env=[(false,eval a X.env),(false,eval b X.env)]:=by rfl) (hs2:starEach [b] X.env=[(false,eval b X.env)]:=by rfl):
  PI X tg (.Call (.Name "range" p) [a,b] [] pos) (QK ta):=by
 intro pins s σ H R I h
 refine Call_ (Zb I hg hm boot_range (PyProof.Rows.callWith_type1 (thn (ha pos pins s σ H _ I h) fun us s1 ⟨vs,H1,I1,r1,q1⟩=> ?_) (by rw [hs,hs2]) (by rw [hs2]; rfl)))
 obtain ⟨i,j,e,⟨q1,q2,q3,q4⟩,q⟩:=q1
 subst e
 cases r1 with
 | cons r rr=>
  cases rr with
  | cons r' rr=>
   cases rr
   obtain ⟨t,rfl⟩:=r
   obtain ⟨t',rfl⟩:=r'
   exact call_range_2 (JY I1 q1 q2 q3 q4 q)
def xG (wi:TI) (g:TG) (tb:TS):TS:=fun D σ H=>wi σ H fun J H1=>∃ W:Nat->Nat->St->Hp->Prop,(∃ m,W 0 m σ H1)/\∀ i m σ H,W i m σ H->
 (J.stop i H/\D.nx σ H)\/(J.go i H/\∃ N:St->Hp->Prop,(∀ σ' H',N σ' H' ->∃ m',m' < m/\W (i+1) m' σ' H')/\∀ x H',J.yld i H x H' ->g x σ H' fun σ2 H2=>tb { D with nx:=N,ct:=N,bk:=D.nx } σ2 H2)
def jX (fp:List Addr) (h:Heap):List (Addr×Obj):=fp.filterMap fun b=>(h.get? b).map fun o=>(b,o)
theorem Zh {fp:List Addr} {h:Heap} {b:Addr} {o:Obj} (hb:b∈fp) (e:h.get? b=some o):(b,o)∈jX fp h:=List.mem_filterMap.mpr ⟨b,hb,by rw [e]; rfl⟩
theorem W9 {fp:List Addr} {h:Heap} {p:Addr×Obj} (hp:p∈jX fp h):p.1∈fp/\h.get? p.1=some p.2:=by
 obtain ⟨b,hb,e⟩:=List.mem_filterMap.mp hp
 cases q:h.get? b with
 | none=>rw [q] at e; cases e
 | some o=>
  rw [q] at e
  have e' :(b,o)=p:=Option.some.inj e
  subst e'
  exact ⟨hb,q⟩
theorem Inv.pinned {pins:List (Addr×Obj)} {σ:St} {H:Hp} {s:Shared} {fp:List Addr} (I:Inv X pins σ H s) (hf:∀ b∈fp,jT X pins H b) (ho:∀ b∈fp,∃ o,s.heap.get? b=some o/\∀ v,o.data ≠ .cell v):Inv X (pins++jX fp s.heap) σ H s:=
 I.pins_of fun p hp=>(List.mem_append.mp hp).elim (fun z=>I.pin p (List.mem_append_right _ z)) fun z=>by
  obtain ⟨hb,e⟩:=W9 z
  obtain ⟨f0,f1,f2,_⟩:=hf p.1 hb
  obtain ⟨o,e',d⟩:=ho p.1 hb
  rw [e] at e'; cases e'
  exact ⟨e,f0,f1,f2,d⟩
theorem Inv.unpinned {pins pl:List (Addr×Obj)} {σ:St} {H:Hp} {s:Shared} (I:Inv X (pins++pl) σ H s):Inv X pins σ H s:=I.pins_of fun p hp=>I.pin p (List.mem_append_right _ (List.mem_append_left _ hp))
theorem Yo {iter:Expr} {body:List Stmt} {wi:TI} {g:TG} {tb:TS} {pos:Pos} (hp:PassesOwn (model X.prog X.w) X.A X.env X.xe) (hc:X.calm=true) (hi:PI X tg iter wi) (hg:PG X tg g) (hb:PSs X body tb)
  (hs:∀ x,foldedSetIterable iter X.env x=pure x:=by intro _; rfl):PS X (.For tg iter body [] pos) (xG wi g tb):=by
 intro pins s σ H D I h
 refine wpAny_For (thn (hi pins s σ H _ I h) fun v s1 h1=>thn h1 fun itv s2 h2=> ?_) hs
 obtain ⟨it,fp,tn,J,H2,e,I2,T,st2,f2,W,⟨m0,w0⟩,turn⟩:=h2
 subst e
 have stat:∀ {H' :Hp},(∀ b∈fp,H' b=none)->∀ b∈fp,jT X pins H' b:=fun hn b hb=>⟨hn b hb,(f2 b hb).2⟩
 refine codeAny_forLoop_any (fun n s' =>∃ i σ' H',Inv X pins σ' H' s' /\tn i s'.heap/\(∀ b∈fp,H' b=none)/\W i n σ' H') ?_ m0 ⟨0,σ,H2,I2,st2,fun b hb=>(f2 b hb).1,w0⟩
 rintro n s3 ⟨i,σ3,H3,I3,st3,fr3,w3⟩
 rcases turn i n σ3 H3 w3 with ⟨stop,qn⟩ | ⟨go,N,hN,step⟩
 ·refine wpAny_passesOwn hp (thn (T.done X rfl rfl rfl hc i pins s3 σ3 H3 X.xe I3 (stat fr3) st3 stop) fun r s4 ⟨hr,I4⟩=> ?_)
  subst hr
  exact wpAny_execs_nil ⟨σ3,H3,I4,qn⟩
 ·refine wpAny_passesOwn hp (thn (T.item X rfl rfl rfl hc i pins s3 σ3 H3 X.xe I3 (stat fr3) st3 go) fun r s4 ⟨u,hr,h4⟩=> ?_)
  subst hr
  refine wpAny_passesOwn hp (thn h4 fun _ s5 ⟨x,H5,I5,r5,y5,st5,fr5⟩=> ?_)
  have I5' :=I5.pinned (stat fr5) (T.obj _ _ st5)
  refine wpAny_passesOwn hp (thn (hg _ s5 σ3 H5 x u _ I5' r5 (step x H5 y5)) fun _ s6 ⟨σ6,H6,I6,q6⟩=> ?_)
  refine wpAny_passesOwn hp (thn (hb _ s6 σ6 H6 _ I6 q6) fun f s7 q7=> ?_)
  have again:∀ {σ7:St} {H7:Hp},Inv X (pins++jX fp s5.heap) σ7 H7 s7->N σ7 H7->∃ m,m < n/\∃ i σ' H',Inv X pins σ' H' s7/\tn i s7.heap/\(∀ b∈fp,H' b=none)/\W i m σ' H' :=fun {σ7 H7} I7 n7=>by
   obtain ⟨m',hm,w7⟩:=hN σ7 H7 n7
   refine ⟨m',hm,i+1,σ7,H7,I7.unpinned,T.keep _ _ _ st5 fun b hb o e=>(I7.pin (b,o) (List.mem_append_right _ (List.mem_append_right _ (Zh hb e)))).1,fun b hb=> ?_,w7⟩
   obtain ⟨o,e,d⟩:=T.obj _ _ st5 b hb
   exact (I7.pin (b,o) (List.mem_append_right _ (List.mem_append_right _ (Zh hb e)))).2.1
  cases f with
  | next=>obtain ⟨σ7,H7,I7,n7⟩:=q7; exact again I7 n7
  | cont=>obtain ⟨σ7,H7,I7,n7⟩:=q7; exact again I7 n7
  | brk=>obtain ⟨σ7,H7,I7,q7⟩:=q7; exact ⟨σ7,H7,I7.unpinned,q7⟩
  | ret v=>obtain ⟨x7,σ7,H7,I7,r7,q7⟩:=q7; exact ⟨x7,σ7,H7,I7.unpinned,r7,q7⟩
end
end L2
namespace L2
open PySem PySem.Spec PyProof.Rows
abbrev R2:=V->V->Hp->VK->Prop
def OpR (X:Cx) (f:Value->Value->Sem Value) (r:R2):Prop:=
 ∀ (pins:List (Addr×Obj)) (s:Shared) (σ:St) (H:Hp) (x y:V) (v u:Value) (Q:VK),Inv X pins σ H s->zJ x v->zJ y u->r x y H Q->
  wpAny (model X.prog X.w) X.A (f v u) (EP X pins σ Q) X.xe s
def UnR (X:Cx) (f:Value->Sem Value) (r:V->Hp->VK->Prop):Prop:=
 ∀ (pins:List (Addr×Obj)) (s:Shared) (σ:St) (H:Hp) (x:V) (v:Value) (Q:VK),Inv X pins σ H s->zJ x v->r x H Q->
  wpAny (model X.prog X.w) X.A (f v) (EP X pins σ Q) X.xe s
def Z1 (X:Cx) (f:Value) (r:List V->Hp->VK->Prop):Prop:=
 ∀ (pins:List (Addr×Obj)) (s:Shared) (σ:St) (H:Hp) (xs:List V) (us:List Value) (Q:VK),Inv X pins σ H s->zE xs us->r xs H Q->
  wpAny (model X.prog X.w) X.A (call f us) (EP X pins σ Q) X.xe s
def xH (X:Cx) (r:V->Hp->(Bool->Hp->Prop)->Prop):Prop:=
 ∀ (pins:List (Addr×Obj)) (s:Shared) (σ:St) (H:Hp) (x:V) (v:Value) (Q:Bool->Hp->Prop),Inv X pins σ H s->zJ x v->r x H Q->
  wpAny (model X.prog X.w) X.A (truthy v) (TP X pins σ Q) X.xe s
def tOp (r:R2) (ta tb:TE):TE:=fun σ H Q=>ta σ H fun x H1=>tb σ H1 fun y H2=>r x y H2 Q
def tUn (r:V->Hp->VK->Prop) (ta:TE):TE:=fun σ H Q=>ta σ H fun x H1=>r x H1 Q
def rI (C:Int->Int->Prop) (g:Int->Int->V):R2:=fun x y H Q=>∃ i j,x= .int i/\y= .int j/\C i j/\Q (g i j) H
def rI0 (g:Int->Int->V):R2:=fun x y H Q=>∃ i j,x= .int i/\y= .int j/\Q (g i j) H
def rU (g:Int->V):V->Hp->VK->Prop:=fun x H Q=>∃ i,x= .int i/\Q (g i) H
section
variable {X:Cx} {a b c:Expr} {ta tb tc:TE} {pos:Pos}
theorem QL (ha:PE X a ta) (hb:PE X b tb) {pins:List (Addr×Obj)} {s:Shared} {σ:St} {H:Hp} {R:V->V->Hp->Prop} (I:Inv X pins σ H s)
  (h:ta σ H fun x H1=>tb σ H1 fun y H2=>R x y H2) {Q:Value->Shared->Prop} {f:Value->Value->Sem Value}
  (hf:∀ v u s2 x y H2,Inv X pins σ H2 s2->zJ x v->zJ y u->R x y H2->wpAny (model X.prog X.w) X.A (f v u) Q X.xe s2):
  wpAny (model X.prog X.w) X.A (eval a X.env) (fun v s₁=>wpAny (model X.prog X.w) X.A (eval b X.env) (fun u s₂=>wpAny (model X.prog X.w) X.A (f v u) Q X.xe s₂) X.xe s₁) X.xe s:=by
 refine thn (ha pins s σ H _ I h) fun v s1 ⟨x,H1,I1,r1,q1⟩=> ?_
 refine thn (hb pins s1 σ H1 _ I1 q1) fun u s2 ⟨y,H2,I2,r2,q2⟩=> ?_
 exact hf v u s2 x y H2 I2 r1 r2 q2
theorem QM {op:Operator} {r:R2} (ho:OpR X (binaryOp op) r) (ha:PE X a ta) (hb:PE X b tb):PE X (.BinOp a op b pos) (tOp r ta tb):=by
 intro pins s σ H Q I h
 exact wpAny_BinOp (QL ha hb I h fun v u s2 x y H2 I2 rx ry q=>ho pins s2 σ H2 x y v u Q I2 rx ry q)
theorem QN {op:UnaryOp} {r:V->Hp->VK->Prop} (ho:UnR X (unaryOp op) r) (ha:PE X a ta):PE X (.UnaryOp op a pos) (tUn r ta):=by
 intro pins s σ H Q I h
 exact UnaryOp_ (thn (ha pins s σ H _ I h) fun v s1 ⟨x,H1,I1,r1,q1⟩=>ho pins s1 σ H1 x v Q I1 r1 q1)
theorem opI {f:Value->Value->Sem Value} {C:Int->Int->Prop} {g:Int->Int->Int}
  (rule:∀ (i j:Int) (t u:Tok) (s:Shared) (Q:Value->Shared->Prop) (E:Value->Shared->Prop),C i j->Q (.int (g i j) s.toks) { s with toks:=s.toks+1 }->wpAny (model X.prog X.w) X.A (f (.int i t) (.int j u)) Q E s):
  OpR X f (rI C fun i j=> .int (g i j)):=by
 intro pins s σ H x y v u Q I rx ry h
 obtain ⟨i,j,rfl,rfl,hc,q⟩:=h
 obtain ⟨t,rfl⟩:=rx
 obtain ⟨t',rfl⟩:=ry
 exact rule i j t t' s _ _ hc ⟨.int (g i j),H,I.tok _,⟨_,rfl⟩,q⟩
theorem Vf {f:Value->Value->Sem Value} {g:Int->Int->Int}
  (rule:∀ (i j:Int) (t u:Tok) (s:Shared) (Q:Value->Shared->Prop) (E:Value->Shared->Prop),Q (.int (g i j) s.toks) { s with toks:=s.toks+1 }->wpAny (model X.prog X.w) X.A (f (.int i t) (.int j u)) Q E s):
  OpR X f (rI0 fun i j=> .int (g i j)):=by
 intro pins s σ H x y v u Q I rx ry h
 obtain ⟨i,j,rfl,rfl,q⟩:=h
 obtain ⟨t,rfl⟩:=rx
 obtain ⟨t',rfl⟩:=ry
 exact rule i j t t' s _ _ ⟨.int (g i j),H,I.tok _,⟨_,rfl⟩,q⟩
theorem QO {f:Value->Value->Sem Value} {g:Int->Int->Bool}
  (rule:∀ (i j:Int) (t u:Tok) (s:Shared) (Q:Value->Shared->Prop) (E:Value->Shared->Prop),Q (.bool (g i j)) s->wpAny (model X.prog X.w) X.A (f (.int i t) (.int j u)) Q E s):
  OpR X f (rI0 fun i j=> .bl (g i j)):=by
 intro pins s σ H x y v u Q I rx ry h
 obtain ⟨i,j,rfl,rfl,q⟩:=h
 obtain ⟨t,rfl⟩:=rx
 obtain ⟨t',rfl⟩:=ry
 exact rule i j t t' s _ _ ⟨.bl (g i j),H,I,rfl,q⟩
def xI (i j:Int):Prop:=0 < j/\j < 1073741824
def jU (i j:Int):Prop:=(-(2 ^ 64) < i/\i < 2 ^ 64)\/(-(2 ^ 64) < j/\j < 2 ^ 64)
theorem jU.ok {i j:Int} (h:jU i j):IntMulOk i j:=by
 rcases h with ⟨h1,h2⟩ | ⟨h1,h2⟩
 ·exact .of_left (intBits_le_64 h1 h2)
 ·exact .of_right (intBits_le_64 h1 h2)
theorem Yp:OpR X (binaryOp .Add) (rI0 fun i j=> .int (i+j)):=Vf fun _ _ _ _ _ _ _ q=>add_int q
theorem Yq:OpR X (binaryOp .Sub) (rI0 fun i j=> .int (i - j)):=Vf fun _ _ _ _ _ _ _ q=>sub_int q
theorem Yr:OpR X (binaryOp .Mult) (rI jU fun i j=> .int (i*j)):=opI fun _ _ _ _ _ _ _ hc q=>mul_int q hc.ok
theorem UC:OpR X (binaryOp .FloorDiv) (rI xI fun i j=> .int (i / j)):=opI fun i j _ _ _ _ _ hc q=>by
 have h1:(0:Int) < j:=hc.1
 have h2:j < 1073741824:=hc.2
 exact floordiv_int (by omega) (by rw [Int.fdiv_eq_ediv_of_nonneg i (by omega)]; exact q) (.inl (PyProof.noPylong_small (by omega)))
theorem Ys:OpR X (binaryOp .Mod) (rI (fun _ j=>0 < j) fun i j=> .int (i % j)):=opI fun i j _ _ _ _ _ hc q=>by
 have h1:(0:Int) < j:=hc
 exact mod_int' (by omega) (by rw [Int.fmod_eq_emod_of_nonneg i (by omega)]; exact q)
theorem unI {f:Value->Sem Value} {g:Int->Int}
  (rule:∀ (i:Int) (t:Tok) (s:Shared) (Q:Value->Shared->Prop) (E:Value->Shared->Prop),Q (.int (g i) s.toks) { s with toks:=s.toks+1 }->wpAny (model X.prog X.w) X.A (f (.int i t)) Q E s):
  UnR X f (rU fun i=> .int (g i)):=by
 intro pins s σ H x v Q I rx h
 obtain ⟨i,rfl,q⟩:=h
 obtain ⟨t,rfl⟩:=rx
 exact rule i t s _ _ ⟨.int (g i),H,I.tok _,⟨_,rfl⟩,q⟩
theorem Yt:UnR X (unaryOp .USub) (rU fun i=> .int (-i)):=unI fun _ _ _ _ _ q=>neg_int q
theorem Wa:OpR X (binaryOp .Add) (fun x y H Q=>∃ i k,x= .int i/\y= .bl k/\Q (.int (i+b2i k)) H):=by
 intro pins s σ H x y v u Q I rx ry h
 obtain ⟨i,k,rfl,rfl,q⟩:=h
 obtain ⟨t,rfl⟩:=rx
 cases ry
 exact add_int_bool ⟨.int (i+b2i k),H,I.tok _,⟨_,rfl⟩,q⟩
end
section
variable {X:Cx} {a b c:Expr} {ta tb tc:TE} {pos:Pos}
theorem QP:OpR X (compareOp .Lt) (rI0 fun i j=> .bl (decide (i < j))):=QO fun _ _ _ _ _ _ _ q=>lt_int q
theorem QQ:OpR X (compareOp .LtE) (rI0 fun i j=> .bl (decide (i<=j))):=QO fun _ _ _ _ _ _ _ q=>le_int q
theorem QR:OpR X (compareOp .Gt) (rI0 fun i j=> .bl (decide (j < i))):=QO fun _ _ _ _ _ _ _ q=>gt_int q
theorem jk (b:Expr) {op:CmpOp} (h:op ≠ .In:=by decide) (h2:op ≠ .NotIn:=by decide):behindInMarks op b=false:=by
 have e1:(op == CmpOp.In)=false:=by cases op <;> first | rfl | exact absurd rfl h
 have e2:(op == CmpOp.NotIn)=false:=by cases op <;> first | rfl | exact absurd rfl h2
 cases b <;> simp [behindInMarks,e1,e2]
theorem UD {op:CmpOp} {r:R2} (ho:OpR X (compareOp op) r) (ha:PE X a ta) (hb:PE X b tb) (hm:behindInMarks op b=false):PE X (.Compare a [op] [b] pos) (tOp r ta tb):=by
 intro pins s σ H Q I h
 exact wpAny_Compare1 (QL ha hb I h fun v u s2 x y H2 I2 rx ry q=>ho pins s2 σ H2 x y v u Q I2 rx ry q) hm
def Yu (t:TE):TT:=fun σ H Q=>t σ H fun x H' =>∃ k,x= .bl k/\Q k H'
theorem UE {op:CmpOp} {r:R2} (ho:OpR X (compareOp op) r) (ha:PE X a ta) (hb:PE X b tb) (hm:behindInMarks op b=false):PT X (.Compare a [op] [b] pos) (Yu (tOp r ta tb)):=by
 intro pins s σ H Q I h
 refine wpAny_isTrue_Compare1 (thn (ha pins s σ H _ I h) fun v s1 ⟨x,H1,I1,r1,q1⟩=>thn (hb pins s1 σ H1 _ I1 q1) fun u s2 ⟨y,H2,I2,r2,q2⟩=>
  thn (ho pins s2 σ H2 x y v u _ I2 r1 r2 q2) fun c s3 ⟨z,H3,I3,r3,k,e,q3⟩=> ?_) hm
 subst e
 cases r3
 exact wpAny_truthy_bool ⟨H3,I3,q3⟩
def U9 (r r' :R2) (ta tb tc:TE):TE:=fun σ H Q=>ta σ H fun x H1=>tb σ H1 fun y H2=>r x y H2 fun z H3=>∃ k,z= .bl k/\
 (if k=true then tc σ H3 fun w' H4=>r' y w' H4 Q else Q (.bl false) H3)
theorem um {op op' :CmpOp} {r r' :R2} (ho:OpR X (compareOp op) r) (ho' :OpR X (compareOp op') r') (ha:PE X a ta) (hb:PE X b tb) (hc:PE X c tc)
  (hm:lastMarks [op,op'] [b,c]=false:=by with_unfolding_all rfl):PE X (.Compare a [op,op'] [b,c] pos) (U9 r r' ta tb tc):=by
 intro pins s σ H Q I h
 refine Compare_chain (thn (ha pins s σ H _ I h) fun v s1 ⟨x,H1,I1,r1,q1⟩=>chain_link (thn (hb pins s1 σ H1 _ I1 q1) fun u s2 ⟨y,H2,I2,r2,q2⟩=>
  thn (ho pins s2 σ H2 x y v u _ I2 r1 r2 q2) fun d s3 ⟨z,H3,I3,r3,k,e,q3⟩=> ?_)) hm
 subst e
 cases r3
 refine wpAny_truthy_bool ?_
 cases k with
 | false=>exact ite_ff ⟨.bl false,H3,I3,rfl,q3⟩
 | true=>exact ite_tt (chain_last (thn (hc pins s3 σ H3 _ I3 q3) fun w' s4 ⟨z',H4,I4,r4,q4⟩=>ho' pins s4 σ H4 y z' u w' Q I4 r2 r4 q4))
theorem uo {op op' :CmpOp} {r r' :R2} (ho:OpR X (compareOp op) r) (ho' :OpR X (compareOp op') r') (ha:PE X a ta) (hb:PE X b tb) (hc:PE X c tc)
  (hm:lastMarks [op,op'] [b,c]=false:=by with_unfolding_all rfl):PT X (.Compare a [op,op'] [b,c] pos) (Yu (U9 r r' ta tb tc)):=by
 intro pins s σ H Q I h
 refine isTrue_chain (thn (ha pins s σ H _ I h) fun v s1 ⟨x,H1,I1,r1,q1⟩=>test_link (thn (hb pins s1 σ H1 _ I1 q1) fun u s2 ⟨y,H2,I2,r2,q2⟩=>
  thn (ho pins s2 σ H2 x y v u _ I2 r1 r2 q2) fun d s3 ⟨z,H3,I3,r3,k,e,q3⟩=> ?_)) hm
 subst e
 cases r3
 refine wpAny_truthy_bool ?_
 cases k with
 | false=>
  obtain ⟨k',e',q'⟩:=q3
  cases e'
  exact ite_ff ⟨H3,I3,q'⟩
 | true=>
  refine ite_tt (test_last (thn (hc pins s3 σ H3 _ I3 q3) fun w' s4 ⟨z',H4,I4,r4,q4⟩=>thn (ho' pins s4 σ H4 y z' u w' _ I4 r2 r4 q4) fun d' s5 ⟨z2,H5,I5,r5,k2,e2,q5⟩=> ?_))
  subst e2
  cases r5
  exact wpAny_truthy_bool ⟨H5,I5,q5⟩
def Vg (K:PySem.W.Frag) (x:V) (H:Hp) (k:Bool):Prop:=
 match x with
 | .non=>k=false
 | .bl b=>k=b
 | .int i=>k=(i != 0)
 | .str y=>y.length<=sizeLine/\k=((y.length:Int) != 0)
 | .byt y=>y.size<=sizeLine/\k=((y.size:Int) != 0)
 | .ref p=>(∃ xs,SqL K H p xs/\k= !xs.isEmpty)\/(∃ xs,SqT K H p xs/\k= !xs.isEmpty)\/∃ kvs,H p=some (.dK kvs)/\k= !kvs.isEmpty
 | _=>False
theorem wA {κ:Type} {kvs:List (κ×V)} {vs:List (κ×Value)} (r:KV kvs vs):(!vs.isEmpty)= !kvs.isEmpty:=by
 cases r <;> rfl
theorem jl {xs:List V} {its:List Value} (r:zE xs its):(!its.toArray.isEmpty)= !xs.isEmpty:=by
 cases r <;> simp
theorem jm:(sizeLine:Nat) < 2 ^ 63:=by rw [sizeLine_eq]; decide
theorem Yv:xH X (fun x H Q=>∃ k,Vg X.K x H k/\Q k H):=by
 intro pins s σ H x v Q I rx h
 obtain ⟨k,e,q⟩:=h
 have hl:=jm
 have hs:sizeLine=16777216:=sizeLine_eq
 cases x with
 | non=>
  cases rx
  have e' :k=false:=e
  subst e'
  exact truthy_none ⟨H,I,q⟩
 | bl b=>
  cases rx
  have e' :k=b:=e
  subst e'
  exact wpAny_truthy_bool ⟨H,I,q⟩
 | int i=>
  obtain ⟨t,rfl⟩:=rx
  have e' :k=(i != 0):=e
  subst e'
  exact PySem.P.truthy_int ⟨H,I,q⟩
 | str y=>
  obtain ⟨t,rfl⟩:=rx
  obtain ⟨hy,e'⟩:y.length<=sizeLine/\k=((y.length:Int) != 0):=e
  subst e'
  exact PySem.P.truthy_str (by omega) ⟨H,I.tok _,q⟩
 | byt y=>
  obtain ⟨t,rfl⟩:=rx
  obtain ⟨hy,e'⟩:y.size<=sizeLine/\k=((y.size:Int) != 0):=e
  subst e'
  exact PySem.W.truthy_bytes (by omega) ⟨H,I.tok _,q⟩
 | ref p=>
  cases rx
  have e' :(∃ xs,SqL X.K H p xs/\k= !xs.isEmpty)\/(∃ xs,SqT X.K H p xs/\k= !xs.isEmpty)\/∃ kvs,H p=some (.dK kvs)/\k= !kvs.isEmpty:=e
  rcases e' with ⟨xs,hx,e'⟩ | ⟨xs,hx,e'⟩ | ⟨kvs,hx,e'⟩
  ·subst e'
   obtain ⟨its,r,pl,hz⟩:=I.list hx
   have hlen:=r.length
   exact wpAny_truthy_list pl.isList (by simp only [List.size_toArray]; omega) ⟨H,I.tok _,by rw [jl r]; exact q⟩
  ·subst e'
   obtain ⟨its,r,pl,hz⟩:=I.tuple hx
   have hlen:=r.length
   exact truthy_tuple pl (by simp only [List.size_toArray]; omega) ⟨H,I.tok _,by rw [jl r]; exact q⟩
  ·subst e'
   obtain ⟨hz,hS,vs,r,m⟩:kvs.length<=sizeLine/\(p == sysModules)=false/\∃ vs,KV kvs vs/\s.heap.DictOf (Jv X.prog X.w) p vs:=I.hok p _ hx
   have hlen:kvs.length=vs.length:=Paired.length r
   exact wpAny_truthy_dict hS m (by omega) ⟨H,I.tok _,by rw [wA r]; exact q⟩
 | _=>exact (show False from e).elim
theorem uq (ha:PE X a ta) (he:∀ whole,isTrue a X.env whole=(do let v ← whole; standAt a.pos; holding [v] (truthy v))):
  PT X a (fun σ H Q=>ta σ H fun x H' =>∃ k,Vg X.K x H' k/\Q k H'):=by
 intro pins s σ H Q I h
 exact isTrue_plain (thn (ha pins s σ H _ I h) fun v s1 ⟨x,H1,I1,r1,q1⟩=>Yv pins s1 σ H1 x v Q I1 r1 q1) (he _)
theorem wB:OpR X (binaryOp .Add) (fun x y H Q=>∃ i j,x= .str i/\y= .str j/\i.length+j.length<=sizeLine/\Q (.str (i++j)) H):=by
 intro pins s σ H x y v u Q I rx ry h
 obtain ⟨i,j,rfl,rfl,hz,q⟩:=h
 obtain ⟨t,rfl⟩:=rx
 obtain ⟨t',rfl⟩:=ry
 exact add_str (fun t' tk=>⟨.str (i++j),H,I.tok _,⟨_,rfl⟩,q⟩) hz
theorem Zo {x:V} {us:List Value} (r:zE [x] us):∃ u,us=[u]/\zJ x u:=by
 cases r with
 | cons r1 r2=>cases r2; exact ⟨_,rfl,r1⟩
theorem wC {x y:V} {us:List Value} (r:zE [x,y] us):∃ u w',us=[u,w']/\zJ x u/\zJ y w' :=by
 cases r with
 | cons r1 r2=>
  cases r2 with
  | cons r3 r4=>cases r4; exact ⟨_,_,rfl,r1,r3⟩
theorem Wb (hc:X.calm=true):Z1 X (.builtin "max") (fun xs H Q=>∃ i j,xs=[.int i, .int j]/\Q (.int (if j > i then j else i)) H):=by
 intro pins s σ H xs us Q I r h
 obtain ⟨i,j,rfl,q⟩:=h
 obtain ⟨u,w',rfl,⟨t,rfl⟩,⟨t',rfl⟩⟩:=wC r
 refine max_two_ints (I.ok.hd hc) fun h' tk k=>⟨_,H,I.kept k, ?_,q⟩
 by_cases hj:j > i
 ·rw [if_pos hj,if_pos hj]; exact ⟨_,rfl⟩
 ·rw [if_neg hj,if_neg hj]; exact ⟨_,rfl⟩
theorem Wc (hc:X.calm=true):Z1 X (.builtin "min") (fun xs H Q=>∃ i j,xs=[.int i, .int j]/\Q (.int (if j < i then j else i)) H):=by
 intro pins s σ H xs us Q I r h
 obtain ⟨i,j,rfl,q⟩:=h
 obtain ⟨u,w',rfl,⟨t,rfl⟩,⟨t',rfl⟩⟩:=wC r
 refine min_two_ints (I.ok.hd hc) fun h' tk k=>⟨_,H,I.kept k, ?_,q⟩
 by_cases hj:j < i
 ·rw [if_pos hj,if_pos hj]; exact ⟨_,rfl⟩
 ·rw [if_neg hj,if_neg hj]; exact ⟨_,rfl⟩
end
end L2
namespace L2
open PySem PySem.Spec PyProof.Rows
structure QS (h:Heap) (x dx C:Addr) (mA:Str->Option Value):Prop where
 obj:h.get? x=some (PySem.W.instObj C dx)
 ns:h.Ns1 dx mA
 ne:dx ≠ x
theorem Wd {h:Heap} {dx:Addr} {mA:Str->Option Value} (n:h.Ns1 dx mA):∃ od,h.get? dx=some od/\∀ name,PySem.W.lookIn name od=some (mA name):=by
 obtain ⟨o,es,ep,ho,hd,hk,_,hm⟩:=n
 refine ⟨o,ho,fun name=> ?_⟩
 have e:=hm name
 unfold nsFind findBy at e
 rw [← Array.find?_toList] at e
 unfold PySem.W.lookIn
 rw [hd]
 dsimp only
 split
 ·rename_i y q
  rw [q] at e
  exact congrArg some e
 ·rename_i q
  rw [q] at e
  have a:es.toList.any (·.refKey)=false:=by
   rw [List.any_eq_false]
   intro y hy
   obtain ⟨z,t,hkey⟩:=hk y (Array.mem_toList_iff.mp hy)
   simp [DictEntry.refKey,hkey]
  have a' :¬ es.toList.any (·.refKey)=true:=by rw [a]; exact Bool.false_ne_true
  rw [if_neg a']
  exact congrArg some e
theorem QS.look {h:Heap} {x dx C:Addr} {mA:Str->Option Value} (I:QS h x dx C mA):∃ od,PySem.W.InstAt h x (PySem.W.instObj C dx) C (some od)/\∀ name,PySem.W.lookIn name od=some (mA name):=
 let ⟨od,ho,hl⟩:=Wd I.ns
 ⟨od,⟨I.obj,rfl,rfl,ho⟩,hl⟩
section
variable {prog:Program} {w:World} {A:Around} {E:Value->Shared->Prop} {s:Shared} {K:PySem.W.Frag} {x dx C f:Addr} {mA:Str->Option Value} {name:Str} {v:Value}
end
section
variable {P:Program} {w:World} {H H' :Hp} {h h' :Heap} {a C dx:Addr} {fs fs' :List (Str×V)}
theorem UF (hok:HOk P w H h) (e:H a=some (.ins C dx fs)):∃ mA,QS h a dx C mA/\(∀ f,Qz (fs.lookup f) (mA f))/\PySem.Within mA (fs.map (·.1))/\fs.length<=1000/\H dx=some (.own a):=by
 obtain ⟨d,z,ne,ob,mA,n,r,q⟩:=(show zF P w H h a (.ins C dx fs) from hok a _ e)
 exact ⟨mA,⟨ob,n,ne⟩,r,q,z,d⟩
end
structure Cls (K:PySem.W.Frag) (C:Addr):Prop where
 pg:PySem.W.plainGet K C Str.empty=true
 hd:PySem.W.hasDictIn K C=true
 po:PySem.W.plainOver K C=true
 sa:PySem.W.findIn K (.ref C) "__setattr__"=some (some (.builtin "object.__setattr__"))
theorem Cls.get {K:PySem.W.Frag} {C:Addr} (c:Cls K C) (f:Str):PySem.W.plainGet K C f=true:=c.pg
section
variable {X:Cx} {pins:List (Addr×Obj)} {σ:St} {H:Hp} {s:Shared} {a C dx:Addr} {fs:List (Str×V)} {f:Str} {v:V} {A:Around} {E:Value->Shared->Prop}
end
section
variable {X:Cx} {o e value:Expr} {f:Str} {pos pos' tpos:Pos} {ta tv:TE}
end
section
variable {X:Cx} {pins:List (Addr×Obj)} {σ:St} {H:Hp} {s:Shared} {A:Around} {E:Value->Shared->Prop} {Q:Value->Shared->Prop} {c:Value} {b:Bool}
inductive wD (K:PySem.W.Frag) (H:Hp):V->Value->Prop where
 | non:wD K H .non (.type "NoneType")
 | bl (x:Bool):wD K H (.bl x) (.type "bool")
 | int (i:Int):wD K H (.int i) (.type "int")
 | str (x:Str):wD K H (.str x) (.type "str")
 | flt (x:UInt64):wD K H (.flt x) (.type "float")
 | lst {a:Addr} {xs:List V} (e:H a=some (.lst xs)):wD K H (.ref a) (.type "list")
 | frz {a:Addr} {o:Obj} {xs:List V} (e:H a=some (.frz o (.lst xs))):wD K H (.ref a) (.type "list")
 | tup {a:Addr} {xs:List V} (e:H a=some (.tup xs)):wD K H (.ref a) (.type "tuple")
 | dK {a:Addr} {kvs:List (Key×V)} (e:H a=some (.dK kvs)):wD K H (.ref a) (.type "dict")
 | dT {a:Addr} {kvs:List (List Key×V)} (e:H a=some (.dT kvs)):wD K H (.ref a) (.type "dict")
 | ins {a C dx:Addr} {fs:List (Str×V)} (e:H a=some (.ins C dx fs)) (cl:Cls K C) (ha:PySem.W.findIn K (.ref C) "__class__"=some (some (.builtin "object.__class__")))
   (hn:PySem.W.specialIn K (.builtin "object.__class__") "__get__"=some (some (.builtin "getset_descriptor.__get__"))) (htk:PySem.W.takesIn K (.builtin "object.__class__")=some true)
   (hm:PySem.W.mroIn K C (.type "object")=some true):wD K H (.ref a) (.ref C)
theorem We {x:V} {u t:Value} (I:Inv X pins σ H s) (rx:zJ x u) (ty:wD X.K H x t) (e:PySem.W.kitOne X.K t c=some b) (h:∀ tk,Q (.bool b) { s with toks:=tk }):
  wpAny (model X.prog X.w) A (call (.builtin "isinstance") [u,c]) Q E s:=by
 cases ty with
 | non=>cases (show u=Value.none from rx); exact PySem.W.kia_one PySem.W.kitx_none I.kIn True.intro e (fun z=>nomatch z) h
 | bl y=>cases (show u=Value.bool y from rx); exact PySem.W.kia_one PySem.W.kitx_bool I.kIn True.intro e (fun z=>nomatch z) h
 | int i=>obtain ⟨t,q⟩:=(show ∃ t,u=Value.int i t from rx); cases q; exact PySem.W.kia_one PySem.W.kitx_int I.kIn True.intro e (fun z=>nomatch z) h
 | str y=>obtain ⟨t,q⟩:=(show ∃ t,u=Value.str y t from rx); cases q; exact PySem.W.kia_one PySem.W.kitx_str I.kIn True.intro e (fun z=>nomatch z) h
 | flt y=>obtain ⟨t,q⟩:=(show ∃ t,u=Value.float y t from rx); cases q; exact PySem.W.kia_one PySem.W.kitx_float I.kIn True.intro e (fun z=>nomatch z) h
 | @lst a xs ea=>
  cases (show u=Value.ref a from rx)
  obtain ⟨_,_,n,_,h1⟩:=(show zF X.prog X.w H s.heap a (.lst xs) from I.hok a _ ea)
  exact PySem.W.kia_one PySem.W.kitx_list I.kIn ⟨_,h1,rfl⟩ e (fun z=>nomatch z) h
 | @frz a ob xs ea=>
  cases (show u=Value.ref a from rx)
  obtain ⟨_,_,_,n,_,h1⟩:=(show zF X.prog X.w H s.heap a (.frz ob (.lst xs)) from I.hok a _ ea)
  exact PySem.W.kia_one PySem.W.kitx_list I.kIn ⟨_,h1,rfl⟩ e (fun z=>nomatch z) h
 | @tup a xs ea=>
  cases (show u=Value.ref a from rx)
  obtain ⟨_,_,_,p,_⟩:=(show zF X.prog X.w H s.heap a (.tup xs) from I.hok a _ ea)
  obtain ⟨o,h1,h2,_⟩:=p
  exact PySem.W.kia_one PySem.W.kitx_tuple I.kIn ⟨o,h1,h2⟩ e (fun z=>nomatch z) h
 | @dK a kvs ea=>
  cases (show u=Value.ref a from rx)
  obtain ⟨_,_,vs,_,p⟩:=(show zF X.prog X.w H s.heap a (.dK kvs) from I.hok a _ ea)
  obtain ⟨o,es,ep,h1,h2,_⟩:=p
  exact PySem.W.kia_one PySem.W.kitx_dict I.kIn ⟨o,h1,h2.1⟩ e (fun z=>nomatch z) h
 | @dT a kvs ea=>
  cases (show u=Value.ref a from rx)
  obtain ⟨_,_,xs,_,o,es,ep,h1,h2,_⟩:=(show zF X.prog X.w H s.heap a (.dT kvs) from I.hok a _ ea)
  exact PySem.W.kia_one PySem.W.kitx_dict I.kIn ⟨o,h1,h2.1⟩ e (fun z=>nomatch z) h
 | @ins a C dx fs ea cl ha hn htk hm=>
  cases (show u=Value.ref a from rx)
  obtain ⟨mA,O,_⟩:=UF I.hok ea
  obtain ⟨od,J,_⟩:=O.look
  exact PySem.W.kia_one (PySem.W.kitx_own (cl.get _) cl.hd ha hn htk hm) I.kIn J e (fun z=>nomatch z) h
end
end L2
namespace L2
open PySem PySem.Spec PyProof.Rows
structure Zk (k:Nat) (A:Around):Prop where
 hd:A.handled=none
 dp:A.depth+3*k+5 < recursionLimit
 un:A.units+16*k+200 < cLine
 gd:A.guards=some []
theorem Zk.mono {j k:Nat} {A:Around} (r:Zk k A) (h:j<=k):Zk j A:=⟨r.hd,by have:=r.dp; omega,by have:=r.un; omega,r.gd⟩
theorem Zk.deeper {k:Nat} {A:Around} (r:Zk (k+1) A) (env:Env):Zk k (A.deeper env):=
 ⟨r.hd,by have:=r.dp; show A.depth+1+3*k+5 < _; omega,by have:=r.un; show A.units+3+16*k+200 < _; omega,r.gd⟩
theorem Zk.depth {k:Nat} {A:Around} (r:Zk k A):A.depth < recursionLimit:=by have:=r.dp; omega
theorem Zk.units {k:Nat} {A:Around} (r:Zk k A):A.units+64 < cLine:=by have:=r.un; omega
def Qq:TA:=fun _ H Q=>Q [] H
def Yw (ta:TE) (tr:TA):TA:=fun σ H Q=>ta σ H fun x H1=>tr σ H1 fun xs H2=>Q (x :: xs) H2
section
variable {X:Cx} {e:Expr} {es:List Expr} {te:TE} {t:TA} {pos:Pos}
theorem zu:PA X [] Qq:=fun _ _ _ _ H Q I h=>Calls.spliced_nil ⟨[],H,I, .nil,h⟩
theorem zg (ha:PE X e te) (hr:PA X es t) (hs:starEach (e :: es) X.env=(false,eval e X.env) :: starEach es X.env:=by rfl):PA X (e :: es) (Yw te t):=by
 intro pos pins s σ H Q I h
 rw [hs]
 show wpAny _ _ (spliced ((false,eval e X.env) :: backTo pos (starEach es X.env))) _ _ s
 refine Calls.spliced_cons (thn (ha pins s σ H _ I h) fun u s1 ⟨x,H1,I1,r1,q1⟩=> ?_)
 exact thn (hr pos pins s1 σ H1 _ I1 q1) fun us s2 ⟨xs,H2,I2,r2,q2⟩=>⟨x :: xs,H2,I2, .cons r1 r2,q2⟩
def xJ (t:TA):TE:=fun σ H Q=>t σ H fun xs H1=>xs.length<=sizeLine/\∀ p,H1 p=none->Q (.ref p) (upd H1 p (.tup xs))
def xK (t:TA):TE:=fun σ H Q=>t σ H fun xs H1=>xs.length<=sizeLine/\∀ p,H1 p=none->Q (.ref p) (upd H1 p (.lst xs))
theorem Ua {x1} (h:PA X es t):PE X (.Tuple es x1 pos) (xJ t):=by
 intro pins s σ H Q I hq
 refine wpAny_Tuple_spliced (thn (h pos pins s σ H _ I hq) fun us s1 ⟨xs,H1,I1,r,z,q⟩=>⟨by rw [← r.length]; exact z, ?_⟩)
 have hf:H1 s1.heap.objs.size=none:=I1.hok.fresh (Nat.le_refl _)
 refine ⟨.ref s1.heap.objs.size,upd H1 s1.heap.objs.size (.tup xs),I1.laid (t' :=s1.toks) (fun b u e=>Heap.get?_push_of_some _ e) (Nat.le_refl _) ?_,rfl,q _ hf⟩
 exact ⟨z,us,r,⟨_,Heap.get?_push_size _ rfl,rfl,_,rfl⟩, .inr ⟨_,Heap.get?_push_size _ rfl,rfl⟩⟩
theorem Ub (h:PA X es t):PE X (.List es pos) (xK t):=by
 intro pins s σ H Q I hq
 refine wpAny_List_spliced (thn (h pos pins s σ H _ I hq) fun us s1 ⟨xs,H1,I1,r,z,q⟩=>⟨by rw [← r.length]; exact z, ?_⟩)
 have hf:H1 s1.heap.objs.size=none:=I1.hok.fresh (Nat.le_refl _)
 refine ⟨.ref s1.heap.objs.size,upd H1 s1.heap.objs.size (.lst xs),I1.laid (t' :=s1.toks) (fun b u e=>Heap.get?_push_of_some _ e) (Nat.le_refl _) ?_,rfl,q _ hf⟩
 exact ⟨z,us,0,r,Heap.get?_push_size _ rfl⟩
end
abbrev Sp:=List V->Hp->VK->XK->Prop
abbrev CXT:=List Env->Hp->Shared->XK->Value->Shared->Prop
structure Wf (P:Program) (w:World) (K:PySem.W.Frag) (mg:Str->Option Value) (base:Heap) (A:Around) (outer:List Env) (s:Shared) (H:Hp):Prop where
 frames:A.frames=some outer
 mod:Mod K mg base
 bs:∀ b o,base.get? b=some o->s.heap.get? b=some o/\H b=none
 bsz:base.objs.size<=s.heap.objs.size
 funs:s.heap.FunFrames base outer
 frf:∀ b∈frs outer,H b=none
 hok:HOk P w H s.heap
 bare:AllBare s.gens
def CE (outer:List Env) (P:Program) (w:World) (H:Hp) (s:Shared) (Q:VK) (u:Value) (s' :Shared):Prop:=
 ∃ v H',s'.os=s.os/\AllBare s'.gens/\Un (frs outer) [] H H' s.heap s'.heap/\HOk P w H' s'.heap/\zJ v u/\Q v H'
def CR (CX:CXT) (outer:List Env) (P:Program) (w:World) (H:Hp) (s:Shared) (Q:VK) (E:XK) (r:Result) (s' :Shared):Prop:=
 match r with
 | .ok (.ret u)=>CE outer P w H s Q u s'
 | .ok _=>False
 | .error e=>CX outer H s E e s'
structure zB (P:Program) (w:World) (K:PySem.W.Frag) (mg:Str->Option Value) (base:Heap) (CX:CXT) (k:Nat) (f:Addr) (fd:FuncData) (ps:List Str) (sp:Sp):Prop where
 len:∀ vs H Q E,sp vs H Q E->vs.length=ps.length
 run:∀ (A:Around) (outer:List Env) (s:Shared) (H:Hp) (args:Args) (us:List Value) (vs:List V) (Q:VK) (E:XK),Zk k A->Wf P w K mg base A outer s H->BindsTo s fd args (ps.zip us)->zE vs us->sp vs H Q E->
  codeAny (model P w) A (.call (.ref f) args) (CR CX outer P w H s Q E) s
section
variable {X:Cx} {pins:List (Addr×Obj)} {σ:St} {H:Hp} {s s' :Shared}
theorem Inv.env0 (I:Inv X pins σ H s):Wf X.prog X.w X.K X.mg X.base X.A X.stack s H:=
 ⟨I.ok.frames,I.ok.mod,I.bs,Nat.le_trans I.ok.bsz I.sz,I.stack,I.stkFree,I.hok,I.bare⟩
theorem Inv.after {Q:VK} {u:Value} (I:Inv X pins σ H s) (h:CE X.stack X.prog X.w H s Q u s'):EP X pins σ Q u s' :=by
 obtain ⟨v,H',os,bare,un,hok,r,q⟩:=h
 obtain ⟨hh,g,d,t,os'⟩:=s'
 obtain rfl:os' =s.os:=os
 exact ⟨v,H',I.call (h' :=hh) (g' :=g) (d' :=d) (t' :=t) (ch:=[]) un hok bare (fun b z=>absurd z (by simp)),r,q⟩
end
def QT (sp:Sp) (dvs:List V) (E:XK) (t:TA):TE:=fun σ H Q=>t σ H fun vs H1=>sp (vs++dvs) H1 Q E
def Binds (K:PySem.W.Frag) (fd:FuncData) (ps:List Str) (ds:List Value):Prop:=
 ∀ (s:Shared) (us:List Value),K.In s.heap->(us++ds).length=ps.length->BindsTo s fd ⟨us,[]⟩ (ps.zip (us++ds))
theorem Binds.all {K:PySem.W.Frag} {fd:FuncData} {ps:List Str} (h:∀ us:List Value,us.length=ps.length->bindArgs fd ⟨us,[]⟩=pure (ps.zip us)):Binds K fd ps []:=fun s us _ hl=>by
 rw [List.append_nil] at hl ⊢
 exact .of_eq (h us hl)
def zY (CX:CXT) (X:Cx) (E:XK):Prop:=∀ (pins:List (Addr×Obj)) (σ:St) (H:Hp) (s:Shared) (e:Value) (s' :Shared),Inv X pins σ H s->CX X.stack H s E e s' ->X.xe e s'
section
variable {X:Cx} {CX:CXT} {k:Nat} {f C:Addr} {fd:FuncData} {ps:List Str} {sp:Sp} {dvs:List V} {ds:List Value} {E:XK} {x m:Str} {p pos apos:Pos} {e o:Expr} {es:List Expr} {ta:TE} {t:TA}
theorem Yx {pins:List (Addr×Obj)} {σ:St} {H:Hp} {s:Shared} {Q:VK} {us:List Value} {vs:List V} (F:zB X.prog X.w X.K X.mg X.base CX k f fd ps sp) (hr:Zk k X.A) (hb:Binds X.K fd ps ds) (hd:zE dvs ds) (hx:zY CX X E)
  (I:Inv X pins σ H s) (r:zE vs us) (h:sp (vs++dvs) H Q E):wpAny (model X.prog X.w) X.A (call (.ref f) us) (EP X pins σ Q) X.xe s:=by
 have r2:zE (vs++dvs) (us++ds):=r.append hd
 have hl:(us++ds).length=ps.length:=by rw [← r2.length]; exact F.len _ _ _ _ h
 refine wpAny_call (codeAny_mono (F.run X.A X.stack s H ⟨us,[]⟩ (us++ds) (vs++dvs) Q E hr I.env0 (hb s us I.kIn hl) r2 h) fun r s' hq=> ?_)
 cases r with
 | error e=>exact hx pins σ H s e s' I hq
 | ok fl=>
  cases fl with
  | ret u=>exact I.after hq
  | next=>exact False.elim hq
  | brk=>exact False.elim hq
  | cont=>exact False.elim hq
theorem UG (F:zB X.prog X.w X.K X.mg X.base CX k f fd ps sp) (hr:Zk k X.A) (hg:Gl X x) (hm:X.mg x=some (.ref f)) (hk:PySem.W.keepIn X.K (.ref f)=true) (hb:Binds X.K fd ps ds) (hd:zE dvs ds) (hx:zY CX X E)
  (ha:PA X (e :: es) t) (hdb:(x == ("__debug__":Str))=false:=by decide) (he:starEach (e :: es) X.env=(false,eval e X.env) :: starEach es X.env:=by rfl) (hpl:(backTo pos (starEach es X.env)).any (·.1)=false:=by rfl):
  PE X (.Call (.Name x p) (e :: es) [] pos) (QT sp dvs E t):=by
 intro pins s σ H Q I h
 refine wpAny_Call_Name_kw (Zz I hg hm ?_ hdb)
 refine PySem.W.callWith_K (h₀:=X.base) I.ok.mod.kin hk (thn (ha pos pins s σ H _ I h) fun us s1 ⟨vs,H1,I1,r,q⟩=>⟨I1.kIn, ?_⟩) he hpl
 exact Yx F hr hb hd hx I1 r q
end
def PK (X:Cx) (kws:List Keyword) (t:TA):Prop:=
 ∀ (pos:Pos) (pins:List (Addr×Obj)) (s:Shared) (σ:St) (H:Hp) (Q:List V->Hp->Prop),Inv X pins σ H s->t σ H Q->wpAny (model X.prog X.w) X.A (evalAll ((backToKw pos (keywordEach kws X.env)).map (·.2))) (AP X pins σ Q) X.xe s
section
variable {X:Cx} {CX:CXT} {k:Nat} {f C:Addr} {fd:FuncData} {ps ks:List Str} {sp:Sp} {E:XK} {x m:Str} {p pos apos kpos:Pos} {e o:Expr} {es:List Expr} {kws:List Keyword} {te ta:TE} {t tk:TA} {nm:Option Str}
theorem Yy:PK X [] Qq:=fun _ _ _ _ H Q I h=>wpAny_evalAll_nil ⟨[],H,I, .nil,h⟩
theorem UH (ha:PE X e te) (hr:PK X kws t):PK X (⟨nm,e,kpos⟩ :: kws) (Yw te t):=by
 intro pos pins s σ H Q I h
 show wpAny _ _ (evalAll ((do let v ← eval e X.env; standAt pos; pure v) :: (backToKw pos (keywordEach kws X.env)).map (·.2))) _ _ s
 refine wpAny_evalAll_cons (wpAny_bind (thn (ha pins s σ H _ I h) fun u s1 ⟨x,H1,I1,r1,q1⟩=>wpAny_bind (wpAny_standAt (wpAny_pure ?_))))
 exact thn (hr pos pins s1 σ H1 _ I1 q1) fun us s2 ⟨xs,H2,I2,r2,q2⟩=>⟨x :: xs,H2,I2, .cons r1 r2,q2⟩
variable {g:List Value->List Value->List Value} {gV:List V->List V->List V}
end
structure zc (N P:List Str) (sc:Scope):Prop where
 kind:sc.kind= .function
 co:sc.isCoroutine=false
 gen:sc.isGenerator=false
 nd:N.Nodup
 pre:N.take P.length=P
 par:∀ x∈P,sc.names.lookup x=some .local\/sc.names.lookup x=some .cell
 nofree:∀ y∈sc.names,y.2 ≠ .free
theorem jY {kindOf:Str->Option NameKind} {x:Str}:∀ {binds:List (Str×Value)} {m:Str->Option Value},(∀ v,(x,v) ∉ binds)->bindL kindOf binds m x=m x
 | [],_,_=>rfl
 | (n,v) :: r,m,h=>by
  unfold bindL
  rw [jY fun w hw=>h w (List.mem_cons_of_mem _ hw)]
  split
  ·have:x ≠ n:=by rintro rfl; exact h v List.mem_cons_self
   simp [this]
  ·rfl
theorem jZ {kindOf:Str->Option NameKind} {x:Str}:∀ {binds:List (Str×Value)} {m:Str->Option Value},(∀ v,(x,v) ∉ binds)->bindC kindOf binds m x=m x
 | [],_,_=>rfl
 | (n,v) :: r,m,h=>by
  unfold bindC
  rw [jZ fun w hw=>h w (List.mem_cons_of_mem _ hw)]
  split
  ·rfl
  ·have:x ≠ n:=by rintro rfl; exact h v List.mem_cons_self
   simp [this]
theorem J0 {kindOf:Str->Option NameKind} {x:Str} {v:Value}:∀ {P:List Str} {vs:List Value} {i:Nat} {m:Str->Option Value},P.Nodup->P[i]? =some x->vs[i]? =some v->kindOf x=some .local->
  bindL kindOf (P.zip vs) m x=some v
 | [],_,_,_,_,h,_,_=>by simp at h
 | _ :: _,[],_,_,_,_,h,_=>by simp at h
 | p :: P,w :: vs,0,m,nd,h1,h2,hk=>by
  simp at h1 h2; subst h1; subst h2
  show bindL kindOf ((p,w) :: P.zip vs) m p=_
  unfold bindL
  rw [jY fun v hv=>(List.nodup_cons.mp nd).1 (List.of_mem_zip hv).1,if_pos hk]
  simp
 | p :: P,w :: vs,i+1,m,nd,h1,h2,hk=>by
  show bindL kindOf ((p,w) :: P.zip vs) m x=_
  unfold bindL
  exact J0 (i:=i) (List.nodup_cons.mp nd).2 (by simpa using h1) (by simpa using h2) hk
theorem J4 {kindOf:Str->Option NameKind} {x:Str} {v:Value}:∀ {P:List Str} {vs:List Value} {i:Nat} {m:Str->Option Value},P.Nodup->P[i]? =some x->vs[i]? =some v->kindOf x ≠ some .local->
  bindC kindOf (P.zip vs) m x=some v
 | [],_,_,_,_,h,_,_=>by simp at h
 | _ :: _,[],_,_,_,_,h,_=>by simp at h
 | p :: P,w :: vs,0,m,nd,h1,h2,hk=>by
  simp at h1 h2; subst h1; subst h2
  show bindC kindOf ((p,w) :: P.zip vs) m p=_
  unfold bindC
  rw [jZ fun v hv=>(List.nodup_cons.mp nd).1 (List.of_mem_zip hv).1,if_neg hk]
  simp
 | p :: P,w :: vs,i+1,m,nd,h1,h2,hk=>by
  show bindC kindOf ((p,w) :: P.zip vs) m x=_
  unfold bindC
  exact J4 (i:=i) (List.nodup_cons.mp nd).2 (by simpa using h1) (by simpa using h2) hk
def start (N:List Str) (vs:List V):St:=vs.map some++List.replicate (N.length - vs.length) none
def ZA (CX:CXT) (P:Program) (w:World) (K:PySem.W.Frag) (mg:Str->Option Value) (base:Heap) (N:List Str) (qual:Str) (scope:Scope) (f:Addr) (cd:Value) (A:Around) (outer:List Env) (s:Shared) (H:Hp) (E:XK):Cx where
 prog:=P
 w:=w
 K:=K
 mg:=mg
 base:=base
 A:=A.deeper (envOfC qual scope s.heap.objs.size f cd)
 N:=N
 s₀:=s
 H₀:=H
 env:=envOfC qual scope s.heap.objs.size f cd
 outer:=outer
 stack:=envOfC qual scope s.heap.objs.size f cd :: outer
 ex:=[]
 calm:=true
 fn:=fun _=>true
 pn:=[]
 xe:=fun e s' =>wpAny (model P w) (A.deeper (envOfC qual scope s.heap.objs.size f cd)) (leaving (envOfC qual scope s.heap.objs.size f cd) e) (fun _ s'' =>CX outer H s E e s'') (fun e' s'' =>CX outer H s E e' s'') s'
theorem JZ {sc:Scope} {n:Nat} {x:Str} (h:sc.names.lookup x=some .cell):∃ c,(cellsFrom n sc.names []).lookup x=some c:=by
 have q:=PySem.W.cellsFrom_some sc.names n [] (.inl h)
 exact Option.isSome_iff_exists.mp q
theorem J6 {CX:CXT} {P:Program} {w:World} {K:PySem.W.Frag} {mg:Str->Option Value} {base:Heap} {N ps:List Str} {qual:Str} {scope:Scope} {f:Addr} {cd:Value} {A:Around} {outer:List Env} {s s1:Shared} {H:Hp} {E:XK} {us:List Value} {vs:List V}
  (S:zc N ps scope) (hd:A.handled=none) (e0:Wf P w K mg base A outer s H) (hl:vs.length=ps.length) (r:zE vs us)
  (x:InCallC s s.heap.objs.size (bindL (envOfC qual scope s.heap.objs.size f cd).kindOf (ps.zip us) fun _=>none) (cellsFrom (s.heap.objs.size+1) scope.names []) (bindC (envOfC qual scope s.heap.objs.size f cd).kindOf (ps.zip us) fun _=>none) s1):
  Inv (ZA CX P w K mg base N qual scope f cd A outer s H E) [] (start N vs) H s1:=by
 have hpl:ps.length<=N.length:=by have:=congrArg List.length S.pre; rw [List.length_take] at this; omega
 obtain ⟨h1,tk,rfl,hk⟩:=x.done
 have noA:∀ b:Addr,b ∉ (ZA CX P w K mg base N qual scope f cd A outer s H E).ex:=fun b z=>absurd (show b∈([]:List Addr) from z) (by simp)
 refine ⟨⟨e0.mod,S.kind,rfl,rfl,Nat.le_refl _,fun y z c h1 h2=> ?_,fun y hy=> ?_,fun y c _ h=> ?_,fun _=>hd,Around.frames_deeper e0.frames, .inr ⟨rfl,rfl⟩,fun b z=>absurd z (noA b),e0.bs,e0.bsz,fun b _ _=>noA b,fun b z=>absurd z (noA b),e0.funs,e0.frf⟩,
  rfl,e0.bare,Un.kept hk,⟨_,x.toInCall.ns,fun i y v h1 h2 h3=> ?_⟩,fun y c h=>⟨_,x.cell y c h⟩,e0.hok.fresh (Nat.le_refl _),fun y c h=> ?_,fun p hp=>absurd (show p∈([]:List (Addr×Obj)) from hp) (by simp),e0.hok.kept hk, ?_⟩
 ·exact name_of_addr x.apart (PySem.mem_of_lookup h1) (PySem.mem_of_lookup h2)
 ·have hy:scope.names.lookup y=some .cell\/scope.names.lookup y=some .free:=hy
  rcases hy with hy | hy
  ·exact JZ hy
  ·exact absurd rfl (S.nofree _ (PySem.mem_of_lookup hy))
 ·exact Nat.le_of_lt (x.above y c (PySem.mem_of_lookup h))
 ·have hi:i < vs.length:=by
   unfold start at h2
   by_cases hi:i < vs.length
   ·exact hi
   ·rw [List.getElem?_append_right (by simpa using hi)] at h2
    rw [List.getElem?_replicate] at h2
    split at h2 <;> cases h2
  have ha:vs[i]? =some v:=by
   unfold start at h2
   rw [List.getElem?_append_left (by simpa using hi),List.getElem?_map] at h2
   cases e:vs[i]? with
   | none=>rw [e] at h2; cases h2
   | some a=>rw [e] at h2; cases h2; rfl
  obtain ⟨u,hu,rv⟩:=r.get ha
  have hp:ps[i]? =some y:=by
   rw [← S.pre,List.getElem?_take_of_lt (by omega)]; exact h1
  have ndP:ps.Nodup:=by rw [← S.pre]; exact S.nd.sublist (List.take_sublist _ _)
  refine ⟨u,rv, ?_⟩
  rcases S.par y (List.mem_of_getElem? hp) with k | k
  ·exact .inl ⟨k,J0 ndP hp hu k⟩
  ·obtain ⟨c,e⟩:=JZ (n:=s.heap.objs.size+1) k
   refine .inr ⟨.inl k,c,e, ?_⟩
   have q:=x.cell y c e
   rw [J4 ndP hp hu (by show scope.names.lookup y ≠ _; rw [k]; decide)] at q
   exact q
 ·exact e0.hok.fresh (Nat.le_of_lt (x.above y c (PySem.mem_of_lookup h)))
 ·unfold start
  show _=N.length
  rw [List.length_append,List.length_map,List.length_replicate]
  omega
theorem UI {CX:CXT} {P:Program} {w:World} {K:PySem.W.Frag} {mg:Str->Option Value} {base:Heap} {k:Nat} {f:Addr} {name qual:Str} {params:Arguments} {body:List Stmt} {scope:Scope} {dV kV doc pm cdv ct oc:Value} {an od:Option Addr}
  {osl:Array (Option Value)} {N ps:List Str} {sp:Sp} (lk:K.lookup f=some ⟨oc,od, .func (PySem.W.fnOf name qual params body scope dV kV doc pm an cdv ct),osl⟩) (hcd:PySem.W.codeIn K cdv qual=true) (S:zc N ps scope)
  (len:∀ vs H Q E,sp vs H Q E->vs.length=ps.length)
  (hbody:∀ (A:Around) (outer:List Env) (s:Shared) (H:Hp) (vs:List V) (Q:VK) (E:XK),Zk k (A.deeper (envOfC qual scope s.heap.objs.size f cdv))->sp vs H Q E->
   ∃ t,PSs (ZA CX P w K mg base N qual scope f cdv A outer s H E) body t/\t { nx:=fun _ H' =>Q .non H',rt:=Q } (start N vs) H):
  zB P w K mg base CX (k+1) f (PySem.W.fnOf name qual params body scope dV kV doc pm an cdv ct) ps sp:=by
 refine ⟨len,fun A outer s H args us vs Q E hr e0 hb r hsp=> ?_⟩
 have hl:=len _ _ _ _ hsp
 have KX:K.In s.heap:=e0.mod.kin.keeps fun b o e=>(e0.bs b o e).1
 have lim:s.heap.NoLimit:=e0.mod.nolimit.keeps fun b o e=>(e0.bs b o e).1
 have hkind:∀ y∈ps.zip us,scope.names.lookup y.1=some .local\/(scope.names.lookup y.1=some .cell/\((cellsFrom (s.heap.objs.size+1) scope.names []).lookup y.1).isSome=true):=fun ⟨n,v⟩ hy=>by
  rcases S.par n (List.of_mem_zip hy).1 with q | q
  ·exact .inl q
  ·exact .inr ⟨q,PySem.W.cellsFrom_some _ _ _ (.inl q)⟩
 refine codeAny_call_function hr.depth (KX _ _ lk) rfl S.co S.gen rfl (PySem.W.codeRec_of KX hcd) (hb _ _ _ _ ?_)
 refine wpAny_newFunctionEnv_cells S.kind hkind fun env he s1 x=> ?_
 subst he
 refine ⟨lim.keeps x.toInCall.keep,codeAny_func ?_⟩
 obtain ⟨t,ht,hq⟩:=hbody A outer s H vs Q E (hr.deeper _) hsp
 have I:Inv (ZA CX P w K mg base N qual scope f cdv A outer s H E) [] (start N vs) H s1:=J6 S hr.hd e0 hl r x
 refine wpAny_mono (ht [] s1 (start N vs) H _ I hq) (fun fl s' hs=> ?_) fun e s' hs=>hs
 have fin:∀ {σ' :St} {H' :Hp} {v:V} {u:Value},Inv (ZA CX P w K mg base N qual scope f cdv A outer s H E) [] σ' H' s' ->zJ v u->Q v H' ->CE outer P w H s Q u s' :=
  fun {σ' H' v u} J rv q=>⟨v,H',J.os,J.bare,J.base,J.hok,rv,q⟩
 cases fl with
 | ret u=>
  obtain ⟨v,σ',H',J,rv,q⟩:=hs
  exact fin J rv q
 | next=>
  obtain ⟨σ',H',J,q⟩:=hs
  exact fin (v:=V.non) (u:=Value.none) J rfl q
 | brk=>
  obtain ⟨_,_,_,q⟩:=hs
  exact False.elim q
 | cont=>
  obtain ⟨_,_,_,q⟩:=hs
  exact False.elim q
end L2
namespace L2
open PySem PySem.Spec PyProof.Rows
section
variable {X:Cx} {x:Str} {p pos:Pos} {e:Expr} {es:List Expr} {t:TA} {id T:String} {r:List V->Hp->VK->Prop}
def tCB (r:List V->Hp->VK->Prop) (t:TA):TE:=fun σ H Q=>t σ H fun vs H1=>r vs H1 Q
theorem zU (hc:Z1 X (.builtin id) r) (hg:Gl X x) (hm:X.mg x=none) (hv:bootBuiltins x=some (.builtin id)) (ha:PA X (e :: es) t) (hn:x ≠ "__name__":=by decide) (hdb:(x == ("__debug__":Str))=false:=by decide)
  (he:starEach (e :: es) X.env=(false,eval e X.env) :: starEach es X.env:=by rfl) (hpl:(backTo pos (starEach es X.env)).any (·.1)=false:=by rfl):PE X (.Call (.Name x p) (e :: es) [] pos) (tCB r t):=by
 intro pins s σ H Q I h
 refine wpAny_Call_Name_kw (Zb I hg hm hv ?_ hn hdb)
 exact PyProof.Rows.callWith_builtin1 (thn (ha pos pins s σ H _ I h) fun us s1 ⟨vs,H1,I1,r1,q1⟩=>hc pins s1 σ H1 vs us Q I1 r1 q1) he hpl
theorem ZX (hc:Z1 X (.type T) r) (hg:Gl X x) (hm:X.mg x=none) (hv:bootBuiltins x=some (.type T)) (ha:PA X (e :: es) t) (hn:x ≠ "__name__":=by decide) (hdb:(x == ("__debug__":Str))=false:=by decide)
  (he:starEach (e :: es) X.env=(false,eval e X.env) :: starEach es X.env:=by rfl) (hpl:(backTo pos (starEach es X.env)).any (·.1)=false:=by rfl):PE X (.Call (.Name x p) (e :: es) [] pos) (tCB r t):=by
 intro pins s σ H Q I h
 refine wpAny_Call_Name_kw (Zb I hg hm hv ?_ hn hdb)
 exact PyProof.Rows.callWith_type1 (thn (ha pos pins s σ H _ I h) fun us s1 ⟨vs,H1,I1,r1,q1⟩=>hc pins s1 σ H1 vs us Q I1 r1 q1) he hpl
end
end L2
namespace HT
open PySem PyProof.Rows
section
open PySem.SeqAt
open PySem.AutoSeq1 (wpAny_loadPart')
open PySem.MeetsSeq PySem.MeetsSeq2 PySem.MeetsSeq3
end
section
variable {prog:Program} {w:World} {A:Around} {E:Value->Shared->Prop} {s:Shared}
theorem cat_tup {t b:Addr} {vs ws:List Value} {Q:Value->Shared->Prop} (ht:IsTup s.heap t vs.toArray) (hb:IsTup s.heap b ws.toArray) (hv:vs ≠ [])
  (h1:ws=[]->Q (.ref t) s) (h2:ws ≠ []->Q (.ref s.heap.objs.size) { s with heap:=s.heap.push { cls:= .type "tuple",data:= .seq (vs++ws).toArray } })
  (hsz:vs.length+ws.length<=sizeLine):wpAny (model prog w) A (binaryOp .Add (.ref t) (.ref b)) Q E s:=by
 obtain ⟨⟨cls,dd,data,sl⟩,ho,hc,n,hd⟩:=id ht
 obtain ⟨⟨cls2,dd2,data2,sl2⟩,ho2,hc2,n2,hd2⟩:=id hb
 simp only at hc hd hc2 hd2
 subst hc hd hc2 hd2
 have e:vs.toArray++ws.toArray=(vs++ws).toArray:=by simp
 by_cases hw:ws=[]
 ·exact concat_meets ⟨_,ho,rfl⟩ ⟨_,ho2,rfl⟩ noFill_tuple_add seq_tuple_add PySem.F.slot_tuple_add PySem.F.entry_tuple_add (PySem.F.args_tuple_add_2 _ _)
   (tuple_addW1 t b vs.toArray ws.toArray n n2 dd dd2 sl sl2 (by simpa using hv) (by simp [hw])) ⟨ho,ho2,h1 hw⟩
 ·refine concat_meets ⟨_,ho,rfl⟩ ⟨_,ho2,rfl⟩ noFill_tuple_add seq_tuple_add PySem.F.slot_tuple_add PySem.F.entry_tuple_add (PySem.F.args_tuple_add_2 _ _)
   (tuple_addW2 t b vs.toArray ws.toArray n n2 dd dd2 sl sl2 (by simpa using hv) (by simpa using hw) (by rw [List.size_toArray,List.size_toArray]; exact hsz)) ⟨ho,ho2, ?_⟩
  rw [e]
  exact h2 hw
end
end HT
namespace L2
open PySem PySem.Spec PyProof.Rows
section
variable {X:Cx} {e:Expr} {te:TE} {lo hi:Option Expr} {tl th:TO} {pos p2:Pos}
def QU (K:PySem.W.Frag):R2:=fun x y H Q=>∃ a b xs ys,x= .ref a/\y= .ref b/\SqT K H a xs/\SqT K H b ys/\xs ≠ []/\xs.length+ys.length<=sizeLine/\
 (ys=[]->Q (.ref a) H)/\(ys ≠ []->∀ p,H p=none->Q (.ref p) (upd H p (.tup (xs++ys))))
theorem zE.nil_iff {xs:List V} {us:List Value} (r:zE xs us):us=[]↔xs=[]:=by
 cases r with
 | nil=>simp
 | cons _ _=>simp
theorem UJ:OpR X (binaryOp .Add) (QU X.K):=by
 intro pins s σ H x y v u Q I rx ry h
 obtain ⟨a,b,xs,ys,rfl,rfl,ha,hb,hx,hz,q1,q2⟩:=h
 cases rx
 cases ry
 obtain ⟨its,r1,p1,_⟩:=I.tuple ha
 obtain ⟨its2,r2,p2,_⟩:=I.tuple hb
 refine HT.cat_tup p1 p2 (fun z=>hx (r1.nil_iff.mp z)) (fun z=>⟨.ref a,H,I,rfl,q1 (r2.nil_iff.mp z)⟩) (fun z=> ?_) (by rw [← r1.length,← r2.length]; exact hz)
 refine ⟨.ref s.heap.objs.size,_,I.laid (t' :=s.toks) (o:= .tup (xs++ys)) (fun b ob q=>Heap.get?_push_of_some _ q) (Nat.le_refl _) ?_,rfl,q2 (fun w=>z (r2.nil_iff.mpr w)) _ (I.hok.fresh (Nat.le_refl _))⟩
 exact ⟨by rw [List.length_append]; exact hz,_,r1.append r2,ITN.new _ _⟩
end
end L2
namespace L2
open PySem PySem.Spec PyProof.Rows
def ixN (n:Nat) (i:Int):Option Nat:=if 0<=i then (if i < n then some i.toNat else none) else if -(n:Int)<=i then some (i+n).toNat else none
def atI {α:Type} (xs:List α) (i:Int):Option α:=(ixN xs.length i).bind fun j=>xs[j]?
theorem UK {n:Nat} {i:Int} {j:Nat} (h:ixN n i=some j):seqIndex? i n=some j/\j < n/\ -(n:Int)<=i/\i < n:=by
 unfold ixN at h
 by_cases h0:0<=i
 ·rw [if_pos h0] at h
  by_cases h1:i < n
  ·rw [if_pos h1] at h
   have e:i.toNat=j:=Option.some.inj h
   exact ⟨by rw [seqIndex_of h0 h1,e],by omega,by omega,h1⟩
  ·rw [if_neg h1] at h; cases h
 ·rw [if_neg h0] at h
  by_cases h1: -(n:Int)<=i
  ·rw [if_pos h1] at h
   have e:(i+n).toNat=j:=Option.some.inj h
   exact ⟨by rw [seqIndex_neg (by omega) h1,e],by omega,h1,by omega⟩
  ·rw [if_neg h1] at h; cases h
theorem Jx {α:Type} {xs:List α} {i:Int} {v:α} (h:atI xs i=some v):∃ j,seqIndex? i xs.length=some j/\xs[j]? =some v/\j < xs.length/\ -(xs.length:Int)<=i/\i < xs.length:=by
 unfold atI at h
 cases e:ixN xs.length i with
 | none=>rw [e] at h; cases h
 | some j=>
  rw [e] at h
  obtain ⟨h1,h2,h3,h4⟩:=UK e
  exact ⟨j,h1,h,h2,h3,h4⟩
theorem Jy {α:Type} {xs:List α} {j:Nat} {v:α} (h:xs[j]? =some v):atI xs (j:Int)=some v:=by
 have hj:j < xs.length:=(List.getElem?_eq_some_iff.mp h).1
 have e:ixN xs.length (j:Int)=some j:=by
  unfold ixN
  rw [if_pos (by omega),if_pos (by omega)]; simp
 unfold atI; rw [e]; exact h
def Jz (b:Expr):Prop:=∀ o i,subscripted b false o i=operate [o,i] (getItem o i)
def IxR (X:Cx) (r:R2):Prop:=
 ∀ (value slice:Expr) (pins:List (Addr×Obj)) (s:Shared) (σ:St) (H:Hp) (x y:V) (v u:Value) (Q:VK),Inv X pins σ H s->zJ x v->zJ y u->r x y H Q->
  subscripted slice false v u=operate [v,u] (getItem v u)->wpAny (model X.prog X.w) X.A (subscriptTail value slice v u) (EP X pins σ Q) X.xe s
def MtR (X:Cx) (id:String) (r:V->List V->Hp->VK->Prop):Prop:=
 ∀ (pins:List (Addr×Obj)) (s:Shared) (σ:St) (H:Hp) (x:V) (xs:List V) (v:Value) (us:List Value) (Q:VK),Inv X pins σ H s->zJ x v->zE xs us->r x xs H Q->
  wpAny (model X.prog X.w) X.A (call (.builtin id) (v :: us)) (EP X pins σ Q) X.xe s
section
variable {X:Cx} {a b:Expr} {ta tb:TE} {pos:Pos}
theorem IxR.or {r r' :R2} (h:IxR X r) (h' :IxR X r'):IxR X (fun x y H Q=>r x y H Q\/r' x y H Q):=by
 intro value slice pins s σ H x y v u Q I rx ry q hs
 rcases q with q | q
 ·exact h value slice pins s σ H x y v u Q I rx ry q hs
 ·exact h' value slice pins s σ H x y v u Q I rx ry q hs
theorem Yz {r:R2} (hr:IxR X r) (ha:PE X a ta) (hb:PE X b tb) (hs:Jz b):PE X (.Subscript a b pos) (tOp r ta tb):=by
 intro pins s σ H Q I h
 exact Subscript_ (QL ha hb I h fun v u s2 x y H2 I2 rx ry q=>hr a b pins s2 σ H2 x y v u Q I2 rx ry q (hs _ _))
def Vh (K:PySem.W.Frag):R2:=fun x y H Q=>∃ p xs i v,x= .ref p/\y= .int i/\SqL K H p xs/\atI xs i=some v/\Q v H
def Vi (K:PySem.W.Frag):R2:=fun x y H Q=>∃ p xs i v,x= .ref p/\y= .int i/\SqT K H p xs/\atI xs i=some v/\Q v H
def Vj:R2:=fun x y H Q=>∃ z i c,x= .str z/\y= .int i/\z.length<=sizeLine/\atI z.cps.toList i=some c/\Q (.str ⟨#[c]⟩) H
theorem UL:IxR X (Vh X.K):=by
 intro value slice pins s σ H x y v u Q I rx ry h hs
 obtain ⟨p,xs,i,z,rfl,rfl,hq,he,q⟩:=h
 cases rx
 obtain ⟨t,rfl⟩:=ry
 obtain ⟨its,r,pl,hz⟩:=I.list hq
 obtain ⟨j,h1,h2,h3,h4,h5⟩:=Jx he
 obtain ⟨w,ew,rw'⟩:=r.get h2
 have hl:=r.length
 have hn:=jm
 have fin:EP X pins σ Q w s:=⟨z,H,I,rw',q⟩
 by_cases h0:0<=i
 ·have hj:i.toNat=j:=by
   rw [seqIndex_of h0 h5] at h1
   exact Option.some.inj h1
  exact item_listR pl.isList h0 (by omega) (by rw [hj]; simpa using ew) fin hs
 ·have hj:(i+(its.toArray.size:Int)).toNat=j:=by
   rw [seqIndex_neg (by omega) h4] at h1
   rw [List.size_toArray,← hl]
   exact Option.some.inj h1
  exact subscriptTail_builtinR (x:=w) pl.isList.typeIs slot_list_getitem.lookup
   (wpAny_getItem_list_neg (Q:=fun r s' =>r=w/\EP X pins σ Q r s') pl.isList (by omega) (by rw [List.size_toArray] <;> omega) (by omega) (by rw [hj]; simpa using ew) ⟨rfl,fin⟩) hs
theorem YA:IxR X (Vi X.K):=by
 intro value slice pins s σ H x y v u Q I rx ry h hs
 obtain ⟨p,xs,i,z,rfl,rfl,hq,he,q⟩:=h
 cases rx
 obtain ⟨t,rfl⟩:=ry
 obtain ⟨its,r,pl,hz⟩:=I.tuple hq
 obtain ⟨j,h1,h2,h3,h4,h5⟩:=Jx he
 obtain ⟨w,ew,rw'⟩:=r.get h2
 have hl:=r.length
 have hn:=jm
 have fin:EP X pins σ Q w s:=⟨z,H,I,rw',q⟩
 exact subscriptTail_builtinR (x:=w) pl.typeIs slot_tuple_getitem.lookup
  (getItem_tuple (j:=j) (Q:=fun r s' =>r=w/\EP X pins σ Q r s') pl (by omega) (by omega) (by rw [List.size_toArray,← hl]; exact h1) (by simpa using ew) ⟨rfl,fin⟩) hs
theorem YB:IxR X Vj:=by
 intro value slice pins s σ H x y v u Q I rx ry h hs
 obtain ⟨z,i,c,rfl,rfl,hz,he,q⟩:=h
 obtain ⟨t,rfl⟩:=rx
 obtain ⟨t',rfl⟩:=ry
 obtain ⟨j,h1,h2,h3,h4,h5⟩:=Jx he
 have hl:z.cps.toList.length=z.length:=by simp [Str.length]
 rw [hl] at h1 h4 h5
 have hn:=jm
 exact tail_any (typeIs_str s z t) slot_str_getitem.lookup (getItem_str (c:=c) (by
  have e1:decide (i < -(2 ^ 63:Int))=false:=decide_eq_false (by omega)
  have e2:decide (i ≥ 2 ^ 63)=false:=decide_eq_false (by omega)
  rw [e1,e2,Bool.or_false]) (by rw [h1]; simpa using h2) ⟨.str ⟨#[c]⟩,H,I.tok _,⟨_,rfl⟩,q⟩) hs
def rIx (K:PySem.W.Frag):R2:=fun x y H Q=>Vh K x y H Q\/Vi K x y H Q\/Vj x y H Q
theorem Uc:IxR X (rIx X.K):=UL.or (YA.or YB)
theorem J7:Z1 X (.builtin "len") (fun xs H Q=>∃ p ys,xs=[.ref p]/\(SqL X.K H p ys\/SqT X.K H p ys)/\Q (.int ys.length) H):=by
 intro pins s σ H xs us Q I r h
 obtain ⟨p,ys,rfl,hq,q⟩:=h
 obtain ⟨u,rfl,rx⟩:=Zo r
 cases rx
 have hn:=jm
 rcases hq with hq | hq
 ·obtain ⟨its,r',pl,hz⟩:=I.list hq
  have hlen:=r'.length
  exact Calls.call_len_list pl.isList (by simp only [List.size_toArray] <;> omega) ⟨.int ys.length,H,I.tok _,⟨s.toks+1,by rw [List.size_toArray,hlen]⟩,q⟩
 ·obtain ⟨its,r',pl,hz⟩:=I.tuple hq
  have hlen:=r'.length
  exact len_tuple pl (by simp only [List.size_toArray] <;> omega) ⟨.int ys.length,H,I.tok _,⟨s.toks+1,by rw [List.size_toArray,hlen]⟩,q⟩
theorem J8:Z1 X (.builtin "len") (fun xs H Q=>∃ z,xs=[.str z]/\z.length<=sizeLine/\Q (.int z.length) H):=by
 intro pins s σ H xs us Q I r h
 obtain ⟨z,rfl,hz,q⟩:=h
 obtain ⟨u,rfl,t,rfl⟩:=Zo r
 have hn:=jm
 exact len_str (by omega) ⟨.int z.length,H,I.tok _,⟨_,rfl⟩,q⟩
theorem Z1.or {f:Value} {r r' :List V->Hp->VK->Prop} (h:Z1 X f r) (h' :Z1 X f r'):Z1 X f (fun xs H Q=>r xs H Q\/r' xs H Q):=by
 intro pins s σ H xs us Q I rs q
 rcases q with q | q
 ·exact h pins s σ H xs us Q I rs q
 ·exact h' pins s σ H xs us Q I rs q
def tyV (K:PySem.W.Frag) (T:String) (x:V) (H:Hp):Prop:=match x with
 | .str _=>T="str"
 | .int _=>T="int"
 | .ref p=>(T="list"/\∃ xs,SqL K H p xs)\/(T="tuple"/\∃ o,K.lookup p=some o/\o.cls= .type "tuple"/\o.dict=none)\/
   (T="dict"/\((∃ kvs,H p=some (.dK kvs))\/∃ kvs,H p=some (.dT kvs)))\/(T="set"/\∃ S n,H p=some (.set S n))
 | _=>False
theorem YC {pins:List (Addr×Obj)} {σ:St} {H:Hp} {s:Shared} {T:String} {x:V} {v:Value} (I:Inv X pins σ H s) (r:zJ x v) (ty:tyV X.K T x H):
  s.TypeIs v T/\∀ a,v= .ref a->∃ ob,s.heap.get? a=some ob/\ob.dict=none:=by
 cases x with
 | str z=>
  obtain ⟨t,rfl⟩:=r
  cases (show T="str" from ty)
  exact ⟨typeIs_str s z t,fun _ e=>nomatch e⟩
 | int i=>
  obtain ⟨t,rfl⟩:=r
  cases (show T="int" from ty)
  exact ⟨typeIs_int s i t,fun _ e=>nomatch e⟩
 | ref p=>
  cases r
  rcases ty with ⟨rfl,xs,hq⟩ | ⟨rfl,o,hk,hc,hd⟩ | ⟨rfl,hk⟩ | ⟨rfl,S,n,hk⟩
  ·obtain ⟨its,_,pl,_⟩:=I.list hq
   refine ⟨pl.isList.typeIs,fun a e=> ?_⟩
   cases e
   obtain ⟨o,n,e,c,hd,_⟩:=pl
   exact ⟨o,e,hd⟩
  ·refine ⟨⟨o,I.kIn p o hk,hc⟩,fun a e=> ?_⟩
   cases e
   exact ⟨o,I.kIn _ o hk,hd⟩
  ·have z:∃ o,s.heap.get? p=some o/\o.ExactDict:=by
    rcases hk with ⟨kvs,hk⟩ | ⟨kvs,hk⟩
    ·obtain ⟨_,_,_,_,o,_,_,e,ex,_⟩:=I.hok p _ hk
     exact ⟨o,e,ex⟩
    ·obtain ⟨_,_,_,_,o,_,_,e,ex,_⟩:=I.hok p _ hk
     exact ⟨o,e,ex⟩
   obtain ⟨o,e,ex⟩:=z
   refine ⟨⟨o,e,ex.1⟩,fun a e2=> ?_⟩
   cases e2
   exact ⟨o,e,ex.2.1⟩
  ·obtain ⟨o,_,_,_,e,ex,_⟩:=I.hok p _ hk
   refine ⟨⟨o,e,ex.1⟩,fun a e2=> ?_⟩
   cases e2
   exact ⟨o,e,ex.2.1⟩
 | _=>exact False.elim ty
def tBM (K:PySem.W.Frag) (T:String) (r:V->List V->Hp->VK->Prop) (to:TE) (t:TA):TE:=fun σ H Q=>to σ H fun x H1=>tyV K T x H1/\t σ H1 fun xs H2=>r x xs H2 Q
variable {o e:Expr} {es:List Expr} {to:TE} {t:TA} {name:Str} {apos cpos:Pos} {T id:String} {r:V->List V->Hp->VK->Prop}
theorem ur (pa:PlainAttrs T) (slot:Slot T name id) (hty:typeOf (.builtin id)=pure (.type "method_descriptor")) (hm:MtR X id r) (ho:PE X o to) (ha:PA X (e :: es) t)
  (hbase:attributeBase o name X.env (eval o X.env)=eval o X.env:=by rfl)
  (hfew:((backTo cpos (starEach (e :: es) X.env)).all (fun x=> !x.1) && (backToKw cpos (keywordEach [] X.env)).all (fun x=>x.1.isSome)
   && decide ((e :: es).length+([]:List Keyword).length+(if ([]:List Keyword).isEmpty then 0 else 1) < 30))=true:=by rfl)
  (hline:(apos.endLine == cpos.line)=true:=by rfl) (hs:starEach (e :: es) X.env=(false,eval e X.env) :: starEach es X.env:=by rfl) (hplain:(backTo cpos (starEach es X.env)).any (·.1)=false:=by rfl):
  PE X (.Call (.Attribute o name apos) (e :: es) [] cpos) (tBM X.K T r to t):=by
 intro pins s σ H Q I h
 refine wpAny_Call_method_late hbase hfew hline rfl (thn (ho pins s σ H _ I h) fun v s1 ⟨x,H1,I1,r1,ty,q1⟩=> ?_)
 obtain ⟨h1,h2⟩:=YC I1 r1 ty
 refine ⟨T,id,pa,slot,hty,h1,h2, ?_⟩
 have hA:=ha cpos pins s1 σ H1 _ I1 q1
 rw [hs] at hA ⊢
 refine Calls.callWith_builtin (by show (false || (backTo cpos (starEach es X.env)).any (·.1))=false; rw [hplain] <;> rfl) (Calls.evalArgs_plain ?_)
 exact thn hA fun us s2 ⟨vs,H2,I2,r2,q2⟩=>hm pins s2 σ H2 x vs v us Q I2 r1 r2 q2
end
end L2
namespace L2
open PySem PySem.Spec PyProof.Rows
def MtM (X:Cx) (id:String) (r:V->List V->Hp->VK->Prop):Prop:=
 ∀ (pins:List (Addr×Obj)) (s:Shared) (σ:St) (H:Hp) (x:V) (xs:List V) (v:Value) (us:List Value) (Q:VK),Inv X pins σ H s->zJ x v->zE xs us->r x xs H Q->
  wpAny (model X.prog X.w) X.A (call (.builtin id) (v :: us)) (EP X pins σ Q) X.xe s
theorem zE.one:∀ {x:V} {us:List Value},zE [x] us->∃ u,us=[u]/\zJ x u
 | _,_, .cons r .nil=>⟨_,rfl,r⟩
theorem zE.rep {xs:List V} {us:List Value} (h:zE xs us):∀ k:Nat,zE (List.replicate k xs).flatten (List.replicate k us).flatten
 | 0=> .nil
 | k+1=>by
  rw [List.replicate_succ,List.replicate_succ,List.flatten_cons,List.flatten_cons]
  exact zE.append h (zE.rep h k)
theorem Zu (its:List Value):∀ (k:Nat) (acc:List Value),
  List.foldl (fun x1 x2=>x1++x2) acc.toArray (List.replicate k its.toArray)=(acc++(List.replicate k its).flatten).toArray
 | 0,acc=>by simp
 | k+1,acc=>by
  have e:acc.toArray++its.toArray=(acc++its).toArray:=by simp
  have e2:(acc++its)++(List.replicate k its).flatten=acc++(List.replicate (k+1) its).flatten:=by
   rw [List.replicate_succ,List.flatten_cons,List.append_assoc]
  rw [← e2,← Zu its k (acc++its),← e,List.replicate_succ,List.foldl_cons]
section
variable {X:Cx} {pins:List (Addr×Obj)} {σ:St} {H:Hp} {s:Shared} {l b:Addr} {xs ys zs:List V}
theorem Inv.lset {its its' :List Value} {n:Nat} {f:Array Value->Array Value} {t' :Nat} (I:Inv X pins σ H s) (hH:H l=some (.lst xs))
  (e:s.heap.get? l=some { cls:= .type "list",data:= .seq its.toArray n }) (hf:f its.toArray=its'.toArray) (hv:zE ys its') (hz:ys.length<=sizeLine):
  Inv X pins σ (upd H l (.lst ys)) { s with heap:=s.heap.update l (Obj.mapSeq f),toks:=t' }:=by
 have q:=PySem.IsL.update e f
 rw [hf] at q
 refine I.write (x:=l) (e:=l) (by rw [hH]; exact trivial) (.inl rfl) (fun b' u hb hu=>(Heap.get?_update_other s.heap (Obj.mapSeq f) (Ne.symm hb)).trans hu) ⟨_,q⟩ ?_
 exact ⟨hz,its',_,hv,q⟩
theorem Inv.lnew {its:List Value} {t' :Nat} (I:Inv X pins σ H s) (hv:zE ys its) (hz:ys.length<=sizeLine):
  Inv X pins σ (upd H s.heap.objs.size (.lst ys)) { s with heap:=s.heap.push { cls:= .type "list",data:= .seq its.toArray },toks:=t' }:=
 I.laid (fun _ _ q=>Heap.get?_push_of_some _ q) (Nat.le_refl _) ⟨hz,its,0,hv,Heap.get?_push_size _ rfl⟩
theorem Inv.fresh (I:Inv X pins σ H s):H s.heap.objs.size=none:=I.hok.fresh (Nat.le_refl _)
theorem Inv.lstM (I:Inv X pins σ H s) (hH:H l=some (.lst xs)):xs.length<=sizeLine/\∃ (its:List Value) (n:Nat),zE xs its/\xs.length=its.length/\s.heap.get? l=some { cls:= .type "list",data:= .seq its.toArray n }:=by
 obtain ⟨z,its,n,r,e⟩:=I.hok l _ hH
 exact ⟨z,its,n,r,r.length,e⟩
theorem w4 {n:Nat} (h:n<=sizeLine):Builtin.List.listTooLong n=false:=by
 unfold Builtin.List.listTooLong
 exact decide_eq_false (by omega)
end
section
variable {X:Cx}
def UM:V->List V->Hp->VK->Prop:=fun x vs H Q=>∃ l xs y,x= .ref l/\vs=[y]/\H l=some (.lst xs)/\xs.length < sizeLine/\Q .non (upd H l (.lst (xs++[y])))
theorem J9:MtM X "list.append" UM:=by
 intro pins s σ H x vs v us Q I rx rv h
 obtain ⟨l,xs,y,rfl,rfl,hH,hz,q⟩:=h
 cases rx
 obtain ⟨u,rfl,ru⟩:=rv.one
 obtain ⟨z,its,n,r,hl,e⟩:=I.lstM hH
 refine call_meets F.slot_list_append ⟨_,e,rfl⟩ F.entry_list_append (F.args_list_append_2 _ _) (PySem.list_append l its.toArray n u (by rw [List.size_toArray]; omega)) ⟨e, ?_⟩
 refine ⟨.non,_,I.lset (its' :=its++[u]) hH e (by simp) (r.append (.cons ru .nil)) ?_,rfl,q⟩
 rw [List.length_append,List.length_singleton]
 omega
def UN:V->List V->Hp->VK->Prop:=fun x vs H Q=>∃ l b xs zs,x= .ref l/\vs=[.ref b]/\H l=some (.lst xs)/\H b=some (.lst zs)/\xs.length+zs.length<=sizeLine/\Q .non (upd H l (.lst (xs++zs)))
theorem Wg:MtM X "list.extend" UN:=by
 intro pins s σ H x vs v us Q I rx rv h
 obtain ⟨l,b,xs,zs,rfl,rfl,hH,hB,hz,q⟩:=h
 cases rx
 obtain ⟨u,rfl,ru⟩:=rv.one
 cases ru
 obtain ⟨z,its,n,r,hl,e⟩:=I.lstM hH
 obtain ⟨z2,its2,n2,r2,hl2,e2⟩:=I.lstM hB
 have hsz:its.toArray.size+its2.toArray.size<=sizeLine:=by rw [List.size_toArray,List.size_toArray]; omega
 have hlong:¬ (!its.toArray.isEmpty && Builtin.List.listTooLong (its.toArray.size+its2.toArray.size))=true:=by
  rw [w4 hsz,Bool.and_false]
  exact Bool.false_ne_true
 refine call_meets F.slot_list_extend ⟨_,e,rfl⟩ F.entry_list_extend (F.args_list_extend_2 _ _)
  (AutoSeq1.list_extend_list_list_0 l its.toArray n b its2.toArray n2 hlong (by rw [List.size_toArray]; omega) (by omega)) ⟨e,e2, ?_⟩
 refine ⟨.non,_,I.lset (its' :=its++its2) hH e (by simp) (r.append r2) ?_,rfl,q⟩
 rw [List.length_append]
 omega
def xL:R2:=fun x y H Q=>∃ l b xs zs,x= .ref l/\y= .ref b/\H l=some (.lst xs)/\H b=some (.lst zs)/\xs.length+zs.length<=sizeLine/\∀ p,H p=none->Q (.ref p) (upd H p (.lst (xs++zs)))
theorem YD:OpR X (binaryOp .Add) xL:=by
 intro pins s σ H x y v u Q I rx ry h
 obtain ⟨l,b,xs,zs,rfl,rfl,hH,hB,hz,q⟩:=h
 cases rx
 cases ry
 obtain ⟨z,its,n,r,hl,e⟩:=I.lstM hH
 obtain ⟨z2,its2,n2,r2,hl2,e2⟩:=I.lstM hB
 refine PySem.P.add_list e e2 ?_ (by rw [List.size_toArray,List.size_toArray]; omega)
 have ea:its.toArray++its2.toArray=(its++its2).toArray:=by simp
 rw [ea]
 exact ⟨.ref _,_,I.lnew (t' :=s.toks) (r.append r2) (by rw [List.length_append]; omega),rfl,q _ I.fresh⟩
def xM:R2:=fun x y H Q=>∃ l k xs,x= .ref l/\y= .int k/\H l=some (.lst xs)/\ -(2 ^ 63)<=k/\k < 2 ^ 63/\xs.length*k.toNat<=sizeLine/\
 ∀ p,H p=none->Q (.ref p) (upd H p (.lst (List.replicate k.toNat xs).flatten))
theorem JA {α:Type} (xs:List α) (k:Nat):(List.replicate k xs).flatten.length=k*xs.length:=by
 induction k with
 | zero=>simp
 | succ k ih=>rw [List.replicate_succ,List.flatten_cons,List.length_append,ih,Nat.succ_mul,Nat.add_comm]
theorem YE:OpR X (binaryOp .Mult) xM:=by
 intro pins s σ H x y v u Q I rx ry h
 obtain ⟨l,k,xs,rfl,rfl,hH,h1,h2,hz,q⟩:=h
 cases rx
 obtain ⟨t,rfl⟩:=ry
 obtain ⟨z,its,n,r,hl,e⟩:=I.lstM hH
 have hlen:its.toArray.size*k.toNat<=sizeLine:=by rw [List.size_toArray,← hl]; exact hz
 have hcap:¬ its.toArray.size*k.toNat > (2 ^ 63 - 1) / 8:=by
  have:(sizeLine:Nat)<=(2 ^ 63 - 1) / 8:=by decide
  omega
 have hfit:¬ (!Builtin.List.listFitsIndex k)=true:=by
  rw [fitsIndex_both h1 h2]
  exact Bool.false_ne_true
 have hlong:¬ Builtin.List.listTooLong (its.toArray.size*k.toNat)=true:=by
  rw [w4 hlen]
  exact Bool.false_ne_true
 have hnew:List.foldl (fun x1 x2=>x1++x2) #[] (List.replicate (if its.toArray.isEmpty=true then 0 else k.toNat) its.toArray)=(List.replicate k.toNat its).flatten.toArray:=by
  have f0:∀ m:Nat,List.foldl (fun x1 x2=>x1++x2) #[] (List.replicate m its.toArray)=(List.replicate m its).flatten.toArray:=fun m=>by
   have:=Zu its m []
   rw [List.nil_append] at this
   exact this
  rw [f0]
  cases its with
  | nil=>simp
  | cons a r' =>rw [if_neg (by simp)]
 refine wpAny_binaryOp_repeat_ref (T:="list") (U:="int") (by decide) ⟨_,e,rfl⟩ (fun s' =>typeIs_int s' k t) noFill_list_mul F.fills_int_mul F.slot_int_rmul repeat_list F.slot_int_index.lookup
  (call_meets F.slot_int_rmul (typeIs_int s k t) F.entry_int_rmul (F.args_int_rmul_2 _ _) (int___rmul___int_list k t l its.toArray n)
   ⟨e,rfl,⟨_,e,rfl⟩,call_meets F.slot_list_mul ⟨_,e,rfl⟩ F.entry_list_mul (F.args_list_mul_2 _ _) (AutoListH.list___mul___list_int_3 l its.toArray n k t hfit hcap hlong) ⟨e, ?_⟩⟩)
 rw [hnew]
 exact ⟨.ref _,_,I.lnew (t' :=s.toks) (r.rep k.toNat) (by rw [JA,Nat.mul_comm]; exact hz),rfl,q _ I.fresh⟩
end
section
variable {prog:Program} {w:World} {A:Around} {E:Value->Shared->Prop} {s:Shared}
end
section
variable {X:Cx}
end
end L2
namespace Att
open PySem PySem.W PySem.Calls PyProof.Rows
theorem ZY {P:Params} {h:Heap}:∀ (ns:List Int) (vs:List Value),WellAll P h vs (ns.map WData.int)->IntsAre vs ns:=by
 intro ns
 induction ns with
 | nil=>
  intro vs w
  rw [List.map_nil] at w
  cases w
  exact .nil
 | cons n ns ih=>
  intro vs w
  rw [List.map_cons] at w
  cases w with
  | cons a b=>
   cases a
   exact .cons _ _ (ih _ b)
theorem Wh {l:OpenLaw} {n:Nat} (hn:l.most=some n) {P:Params} {h:Heap} {args:List WData} {vals:List Value}
  (hpre:l.row.toRowW.claim.pre args=true) (hwl:WellAll P h vals args):
  ∃ a vs ns,vals=[Value.ref a]/\args=[WData.list (ns.map WData.int)]/\h.get? a=some { cls:= .type "list",data:= .seq vs.toArray }/\IntsAre vs ns/\ns.length<=n:=by
 have hsh:WShape.hasAll [] args [.list .int]=true:=(pre_splitW hpre).1
 have hc:l.pre.holds [] { args:=args }=true:=(pre_splitW hpre).2
 obtain ⟨d,r,rfl,h1,h2⟩:=hasAllW_cons hsh
 obtain rfl:=hasAllW_nil h2
 obtain ⟨xs,rfl,h3⟩:=hasW_list h1
 obtain ⟨ns,rfl⟩:=items_int h3
 have hlen:ns.length<=n:=by
  unfold OpenLaw.pre at hc
  have h4:(WTm.not (.lt (.lit (.int (n:Int))) (.len (.arg 0)))).holds [] { args:=[.list (ns.map .int)] }=true:=by
   have h4:=(holds_andW hc).1
   rw [hn] at h4
   exact h4
  have h5:=condW_of h4 (w_not (w_lt w_lit (w_len_list (w_arg rfl))))
  rw [List.length_map] at h5
  refine Nat.le_of_not_lt fun q=> ?_
  have q' :(n:Int) < ((ns.length:Nat):Int):=by omega
  first
   | (rw [decide_eq_true q'] at h5; exact absurd h5 (by decide))
   | (simp at h5; omega)
 cases hwl with
 | cons w1 w2=>
  cases w2
  cases w1 with
  | list ho hall=>exact ⟨_,_,ns,rfl,rfl,ho,ZY ns _ hall,hlen⟩
theorem Wi (l:OpenLaw) (args:List WData):l.row.toRowW.claim.post args (.bool true) args=true:=
 postW_of (r:=l.row.toRowW) (X:=(true == true))
  (show WShape.has [] (.bool true) .bool=true by first | rfl | decide | simp [WShape.has,WShape.arms,WShape.armsAll])
  (show (WTm.eq .res (.lit (.bool true))).value [] { args:=args,res:=some (.bool true),after:=args }=some (.bool (true == true)) from w_eq_bool (w_res rfl) w_lit) rfl
theorem attach_call {l:OpenLaw} {n:Nat} {q:Program} {loose:List Str} {XP:(Str->Option Value)->Heap->Prop} {YP:World->Heap->Prop} {d:DefRec}
  (hn:l.most=some n) (hdf:d.params.defaults=[])
  (call:∀ (w:World) (s₀ s₁:Shared) (mg mb:Str->Option Value) (fa:Addr) (o:Obj) (pm cd doc:Value) (a:Addr) (vs:List Value) (ns:List Int),
   Ground q loose [] XP w s₀ mg mb s₁.heap->YP w s₁.heap->
   s₁.heap.get? fa=some o->o.data= .func (docDef d.name d.params d.body d.scope pm cd doc)->s₁.heap.CodeRec cd d.name->mg d.name=some (.ref fa)->
   s₁.heap.get? a=some { cls:= .type "list",data:= .seq vs.toArray }->IntsAre vs ns->ns.length<=n->s₁.gens= #[]->
   codeAny (model l.prog w) callerA (.call (.ref fa) ⟨[.ref a],[]⟩) (fun r s' =>r= .ok (.ret (.bool true))/\OldK s₁.heap s'.heap/\s'.os=s₁.os/\AllBare s'.gens) s₁):
  WalkO q loose XP YP l.row.toRowW d [] (fun f vs=>PySem.call f vs):=by
 intro w s₀ s₁ mg mb G Y fa o pm cd doc dV kV ho hd hcd hD hmg hg args vals as hpre hlay hrd hwl hlo
 obtain rfl:dV= .none:=Dflts.none hD hdf
 obtain rfl:kV= .none:=Dflts.noKw hD
 obtain ⟨a,vs,ns,rfl,rfl,hobj,hints,hlen⟩:=Wh hn hpre hwl
 refine enter_call (codeAny_mono (call w s₀ s₁ mg mb fa o pm cd doc a vs ns G Y ho (fd_plain hd) hcd hmg hobj hints hlen hg) fun r s' hq=> ?_)
 obtain ⟨rfl,h2,h3,h4⟩:=hq
 exact ⟨.inl ⟨.bool true, .bool true,[],rfl,fun _=>rfl, .bool true,Wi l _,fun _=>⟨List.Pairwise.nil,fun _ hm=>(nomatch hm)⟩⟩,h2,h3,h4⟩
section
variable {prog:Program} {w:World} {A:Around} {E:Value->Shared->Prop} {s:Shared} {K:Frag}
end
end Att
namespace L2
open PySem PySem.Spec PyProof.Rows
theorem Ja:∀ {vs:List Value} {ns:List Int},IntsAre vs ns->zE (ns.map V.int) vs
 | _,_, .nil=> .nil
 | _,_, .cons n t h=> .cons ⟨t,rfl⟩ (Ja h)
end L2
namespace L2
open PySem PySem.Spec PyProof.Rows
end L2
namespace L2
open PySem PySem.Spec PyProof.Rows
def Zc (s:Stmt):Arguments:=match s with
 | .FunctionDef _ a _ _ _ _ _ _ _ _=>a
 | _=>{ posonlyargs:=[],args:=[],vararg:=none,kwonlyargs:=[],kw_defaults:=[],kwarg:=none,defaults:=[] }
def zG (s:Stmt):List Stmt:=match s with
 | .FunctionDef _ _ b _ _ _ _ _ _ _=>b
 | _=>[]
def z9 (s:Stmt):Scope:=match s with
 | .FunctionDef _ _ _ _ _ _ sc _ _ _=>sc
 | _=>{ kind:= .function,names:=[],isGenerator:=false,isCoroutine:=false }
abbrev CX0:CXT:=fun _ _ _ _ _ _=>False
structure Fun (K:PySem.W.Frag) (x qual:Str) (st:Stmt) (f:Addr) (fd:FuncData):Prop where
 ex:∃ (oc:Value) (od:Option Addr) (kV doc pm:Value) (an:Option Addr) (cdv ct:Value) (osl:Array (Option Value)),
  fd=PySem.W.fnOf x qual (Zc st) (zG st) (z9 st) .none kV doc pm an cdv ct/\K.lookup f=some ⟨oc,od, .func fd,osl⟩/\PySem.W.codeIn K cdv qual=true
 kp:PySem.W.keepIn K (.ref f)=true
section
variable {P:Program} {w:World} {K:PySem.W.Frag} {mg:Str->Option Value} {base:Heap}
theorem Fun.ok {x qual:Str} {st:Stmt} {f:Addr} {fd:FuncData} {N ps:List Str} {k:Nat} {sp:Sp} (F:Fun K x qual st f fd) (S:zc N ps (z9 st)) (len:∀ vs H Q E,sp vs H Q E->vs.length=ps.length)
  (hbody:∀ (cdv:Value) (A:Around) (outer:List Env) (s:Shared) (H:Hp) (vs:List V) (Q:VK) (E:XK),Zk k (A.deeper (envOfC qual (z9 st) s.heap.objs.size f cdv))->sp vs H Q E->
   ∃ t,PSs (ZA CX0 P w K mg base N qual (z9 st) f cdv A outer s H E).nox (zG st) t/\t { nx:=fun _ H' =>Q .non H',rt:=Q } (start N vs) H):zB P w K mg base CX0 (k+1) f fd ps sp:=by
 obtain ⟨oc,od,kV,doc,pm,an,cdv,ct,osl,rfl,lk,hcd⟩:=F.ex
 refine UI lk hcd S len fun A outer s H vs Q E hr hsp=> ?_
 obtain ⟨t,h,q⟩:=hbody cdv A outer s H vs Q E hr hsp
 exact ⟨t,h.nox,q⟩
theorem Fun.binds {x qual:Str} {st:Stmt} {f:Addr} {fd:FuncData} {ps:List Str} (F:Fun K x qual st f fd)
  (h:∀ (kV doc pm:Value) (an:Option Addr) (cdv ct:Value) (us:List Value),us.length=ps.length->bindArgs (PySem.W.fnOf x qual (Zc st) (zG st) (z9 st) .none kV doc pm an cdv ct) ⟨us,[]⟩=pure (ps.zip us)):Binds K fd ps []:=by
 obtain ⟨oc,od,kV,doc,pm,an,cdv,ct,osl,rfl,lk,hcd⟩:=F.ex
 exact .all (h kV doc pm an cdv ct)
theorem YF {x qual:Str} {st:Stmt} {f:Addr} {oc:Value} {od an:Option Addr} {osl:Array (Option Value)} {kV doc pm cdv ct:Value} (l:K.lookup f=some ⟨oc,od, .func (PySem.W.fnOf x qual (Zc st) (zG st) (z9 st) .none kV doc pm an cdv ct),osl⟩)
  (c:PySem.W.codeIn K cdv qual=true) (k:PySem.W.keepIn K (.ref f)=true):Fun K x qual st f (PySem.W.fnOf x qual (Zc st) (zG st) (z9 st) .none kV doc pm an cdv ct):=⟨⟨oc,od,kV,doc,pm,an,cdv,ct,osl,rfl,l,c⟩,k⟩
end
section
variable {X:Cx}
theorem pv (i:Nat) {x:Str} {pos:Pos} (hN:X.N[i]? =some x:=by rfl) (hv:Vis X.env.scope x:=by first | exact Or.inl rfl | exact Or.inr (Or.inl rfl) | exact Or.inr (Or.inr rfl)) (hd:(x == ("__debug__":Str))=false:=by decide)
  (hcd:(x == ("__classdict__":Str))=false:=by decide):PE X (.Name x pos) (uf i):=W1 hN hv hd hcd
end
def zi (H H' :Hp):Prop:=∀ b o,H b=some o->H' b=some o
theorem zi.refl (H:Hp):zi H H:=fun _ _ h=>h
theorem zi.trans {H H1 H2:Hp} (a:zi H H1) (b:zi H1 H2):zi H H2:=fun c o h=>b c o (a c o h)
theorem zi.free {H H' :Hp} (e:zi H H') {l:Addr} (h:H' l=Option.none):H l=Option.none:=by
 cases q:H l with
 | none=>rfl
 | some o=>
  rw [e l o q] at h
  cases h
end L2
namespace L2
open PySem PySem.Spec PyProof.Rows PySem.W
theorem w5 {env:Env} {outer:List Env} {L:Addr} (h:env.frame=some L):frs (env :: outer)=L :: frs outer:=by
 unfold frs; rw [List.filterMap_cons,h]
structure JB (P:Program) (w:World) (outer:List Env) (H:Hp) (s s' :Shared) (ea:Addr) (cls a0:Value) (B:Heap) (H' :Hp):Prop where
 os:s'.os=s.os
 bare:AllBare s'.gens
 fly:Heap.FlyingW B outer ea cls a0 s'.heap
 hok:HOk P w H' B
 un:Un (frs outer) [] H H' s.heap s'.heap
 inB:∀ b o,s.heap.get? b=some o->b ∉ frs outer->(H b=none->B.get? b=some o)/\∃ o',B.get? b=some o'
def CX1 (P:Program) (w:World):CXT:=fun outer H s E e s' =>∃ ea cls a0 B H',e= .ref ea/\JB P w outer H s s' ea cls a0 B H' /\E cls none H'
section
variable {X:Cx} {pins:List (Addr×Obj)} {σ:St} {H H' :Hp} {s s' :Shared} {ea:Addr} {cls a0:Value} {B:Heap} {h' h'' :Heap}
theorem Inv.frNf (I:Inv X pins σ H s):∀ b∈frs X.stack,H b=none/\∃ o,s.heap.get? b=some o/\∀ vs,o.data ≠ .fields vs:=fun b hb=>⟨I.stkFree b hb,(I.stack.mem hb).2⟩
theorem JB.on {P:Program} {w:World} {outer:List Env} (L:JB P w outer H s s' ea cls a0 B H') (ff:∀ b∈frs outer,H b=none/\∃ o,s.heap.get? b=some o/\∀ vs,o.data ≠ .fields vs)
  (fl:Heap.FlyingW B outer ea cls a0 h') (sl:s'.heap.UpToSlots h'):JB P w outer H s { s' with heap:=h' } ea cls a0 B H' where
 os:=L.os
 bare:=L.bare
 fly:=fl
 hok:=L.hok
 inB:=L.inB
 un:=by
  have slot:∀ b o,s.heap.get? b=some o->H b=none->b∈frs outer->∃ sl,h'.get? b=some { o with slots:=sl }:=fun b o e n hb=>by
   obtain ⟨sl1,e1⟩:=L.un.slot b o e n hb (by simp)
   obtain ⟨_,o2,e2,nf⟩:=ff b hb
   rw [e] at e2; cases e2
   obtain ⟨sl2,e3⟩:=sl b _ e1 nf
   exact ⟨sl2,e3⟩
  exact ⟨fun b o e n hb _=>fl.1 b o ((L.inB b o e hb).1 n),fun b o e n hb _=>slot b o e n hb,L.un.free,fun b o e _=>by
   by_cases hb:b∈frs outer
   ·obtain ⟨sl1,e1⟩:=slot b o e (ff b hb).1 hb
    exact ⟨_,e1⟩
   ·obtain ⟨o',e'⟩:=(L.inB b o e hb).2
    exact ⟨o',fl.1 b o' e'⟩,L.un.tups,L.un.frzs,L.un.tbls⟩
theorem Inv.old (I:Inv X pins σ H s) {b:Addr} {o:Obj} (hX:X.stack=X.env :: X.outer) (hf:X.env.frame=some X.env.locals) (e:X.s₀.heap.get? b=some o) (hb:b ∉ frs X.outer):b ∉ frs X.stack:=by
 rw [hX,w5 hf]
 intro z
 rcases List.mem_cons.mp z with z | z
 ·exact absurd (Nat.lt_of_lt_of_le (Heap.lt_size e) I.ok.above) (by rw [z]; exact Nat.lt_irrefl _)
 ·exact hb z
theorem JC {X:Cx} (hX:X.stack=X.env :: X.outer) (hf:X.env.frame=some X.env.locals) {b:Addr} (hb:b∈frs X.outer):b∈frs X.stack:=by
 rw [hX,w5 hf]; exact List.mem_cons_of_mem _ hb
theorem JB.out (I:Inv X pins σ H s) (hX:X.stack=X.env :: X.outer) (hf:X.env.frame=some X.env.locals) (hex:X.ex=[]) (L:JB X.prog X.w X.stack H s s' ea cls a0 B H')
  (fl:Heap.FlyingW B X.outer ea cls a0 h') (sl:s'.heap.UpToSlots h'):JB X.prog X.w X.outer X.H₀ X.s₀ { s' with heap:=h' } ea cls a0 B H' where
 os:=L.os.trans I.os
 bare:=L.bare
 fly:=fl
 hok:=L.hok
 inB:=fun b o e hb=>by
  have nx:b ∉ X.ex:=by rw [hex]; simp
  obtain ⟨o1,e1⟩:=I.base.there b o e nx
  have hb' :=I.old hX hf e hb
  exact ⟨fun n=>(L.inB b o (I.base.keep b o e n hb nx) hb').1 (I.base.free b o e n nx),(L.inB b o1 e1 hb').2⟩
 un:=by
  have nx:∀ b,b ∉ X.ex:=fun b=>by rw [hex]; simp
  have slot:∀ b o,X.s₀.heap.get? b=some o->X.H₀ b=none->b∈frs X.outer->∃ sl,h'.get? b=some { o with slots:=sl }:=fun b o e n hb=>by
   obtain ⟨sl1,e1⟩:=I.base.slot b o e n hb (nx b)
   have n1:=I.base.free b o e n (nx b)
   obtain ⟨sl2,e2⟩:=L.un.slot b _ e1 n1 (JC hX hf hb) (by simp)
   obtain ⟨_,o3,e3,nf⟩:=I.frNf b (JC hX hf hb)
   rw [e1] at e3; cases e3
   obtain ⟨sl4,e4⟩:=sl b _ e2 nf
   exact ⟨sl4,e4⟩
  refine ⟨fun b o e n hb _=> ?_,fun b o e n hb _=>slot b o e n hb,fun b o e n _=> ?_,fun b o e _=> ?_,fun b xs e=>L.un.tups b xs (I.base.tups b xs e),fun b o xs e=>L.un.frzs b o xs (I.base.frzs b o xs e),fun b ps q e=>L.un.tbls b ps q (I.base.tbls b ps q e)⟩
  ·exact fl.1 b o ((L.inB b o (I.base.keep b o e n hb (nx b)) (I.old hX hf e hb)).1 (I.base.free b o e n (nx b)))
  ·obtain ⟨o1,e1⟩:=I.base.there b o e (nx b)
   exact L.un.free b o1 e1 (I.base.free b o e n (nx b)) (by simp)
  ·by_cases hb:b∈frs X.outer
   ·obtain ⟨sl1,e1⟩:=slot b o e (I.ok.frf b hb) hb
    exact ⟨_,e1⟩
   ·obtain ⟨o1,e1⟩:=I.base.there b o e (nx b)
    obtain ⟨o',e'⟩:=(L.inB b o1 e1 (I.old hX hf e hb)).2
    exact ⟨o',fl.1 b o' e'⟩
theorem JB.made (I:Inv X pins σ H s) (hX:X.stack=X.env :: X.outer) (hf:X.env.frame=some X.env.locals) (hex:X.ex=[]) {vs:List Value} (hx:Heap.MadeExcOf s.heap h' ea cls vs)
  (fl:Heap.FlyingW (hideAll s.heap (frs X.stack)) X.outer ea cls a0 h'') (sl:h'.UpToSlots h''):JB X.prog X.w X.outer X.H₀ X.s₀ { s with heap:=h'' } ea cls a0 (hideAll s.heap (frs X.stack)) H where
 os:=I.os
 bare:=I.bare
 fly:=fl
 hok:=fun a o e=>(I.hok a o e).stay (fun b u hb q=>hideAll_get _ q fun z=>by
   have:=I.stkFree b z
   rcases hb with rfl | hb
   ·rw [e] at this; cases this
   ·rw [hb] at this; cases this) (fun _ q=>q) fun _ _ q=>q
 inB:=fun b o e hb=>by
  have nx:b ∉ X.ex:=by rw [hex]; simp
  obtain ⟨o1,e1⟩:=I.base.there b o e nx
  have hb' :=I.old hX hf e hb
  exact ⟨fun n=>hideAll_get _ (I.base.keep b o e n hb nx) hb',o1,hideAll_get _ e1 hb'⟩
 un:=by
  have nx:∀ b,b ∉ X.ex:=fun b=>by rw [hex]; simp
  have slot:∀ b o,X.s₀.heap.get? b=some o->X.H₀ b=none->b∈frs X.outer->∃ sl,h''.get? b=some { o with slots:=sl }:=fun b o e n hb=>by
   obtain ⟨sl1,e1⟩:=I.base.slot b o e n hb (nx b)
   obtain ⟨_,o3,e3,nf⟩:=I.frNf b (JC hX hf hb)
   rw [e1] at e3; cases e3
   obtain ⟨sl4,e4⟩:=sl b _ (hx.keeps b _ e1) nf
   exact ⟨sl4,e4⟩
  refine ⟨fun b o e n hb _=> ?_,fun b o e n hb _=>slot b o e n hb,fun b o e n _=>I.base.free b o e n (nx b),fun b o e _=> ?_,I.base.tups,I.base.frzs,I.base.tbls⟩
  ·exact fl.1 b o (hideAll_get _ (I.base.keep b o e n hb (nx b)) (I.old hX hf e hb))
  ·by_cases hb:b∈frs X.outer
   ·obtain ⟨sl1,e1⟩:=slot b o e (I.ok.frf b hb) hb
    exact ⟨_,e1⟩
   ·obtain ⟨o1,e1⟩:=I.base.there b o e (nx b)
    exact ⟨o1,fl.1 b o1 (hideAll_get _ e1 (I.old hX hf e hb))⟩
end
section
variable {P:Program} {w:World} {K:Frag} {mg:Str->Option Value} {base:Heap} {N:List Str} {qual:Str} {scope:Scope} {f:Addr} {cd:Value} {A:Around} {outer:List Env} {s:Shared} {H:Hp} {E:XK}
theorem je:zY (CX1 P w) (ZA (CX1 P w) P w K mg base N qual scope f cd A outer s H E) E:=by
 intro pins σ H1 s1 e s' I ⟨ea,cls,a0,B,H',he,L,hE⟩
 subst he
 exact wpAny_leaves_onW (base:=B) I.ok.frames rfl L.fly fun h' fl sl=>⟨ea,cls,a0,B,H',rfl,L.out I rfl rfl rfl fl sl,hE⟩
theorem Wj {x:Str} {C:Addr} {bm bmN:List Value} {Bn Bb newId nid initId inN:String} {np cpos pos:Pos} {e:Expr} {t:TA} (O:OwnCls x C bm newId mg base) (Fn:ExcBaseFacts Bn newId inN bmN) (hBn:bm.contains (.type Bn)=true) (FB:ExcBaseFacts Bb nid initId bm)
  (hg:Gl (ZA (CX1 P w) P w K mg base N qual scope f cd A outer s H E) x) (ha:PA (ZA (CX1 P w) P w K mg base N qual scope f cd A outer s H E) [e] t)
  (he:starEach [e] (envOfC qual scope s.heap.objs.size f cd)=[(false,eval e (envOfC qual scope s.heap.objs.size f cd))]) (hd:(x == ("__debug__":Str))=false:=by decide):
  PS (ZA (CX1 P w) P w K mg base N qual scope f cd A outer s H E) (.Raise (some (.Call (.Name x np) [e] [] cpos)) none pos) (fun _ σ H1=>t σ H1 fun vs H2=>vs.length<=sizeLine/\E (.ref C) none H2):=by
 intro pins s1 σ H1 D I hw
 obtain ⟨tl,N',nm,q,bs,hdct,sn,sub,ab,col,dd,k0,k1,k2,k3,k5,mN,hC,hN,hni,T⟩:=O.obj
 have hp:(backTo cpos (starEach [e] (envOfC qual scope s.heap.objs.size f cd))).any (·.1)=false:=by rw [he]; rfl
 refine wpAny_Raise_call_subU (C:=C) (nm:=nm) (q:=q) (N:=N') (bs:=bs) (bm:=tl) (hdct:=hdct) (sn:=sn) (sub:=sub) (ab:=ab) (col:=col) (dd:=dd) (k0:=k0) (k1:=k1) (k2:=k2) (k3:=k3) (k5:=k5)
  Fn hBn FB (mN:=mN) (T.hasType FB.hasBase) (I.ok.hd rfl) hp hni (Zz I hg O.bound ⟨rfl, ?_⟩ hd)
 have h2:=ha cpos pins s1 σ H1 _ I hw
 have he' :starEach [e] (ZA (CX1 P w) P w K mg base N qual scope f cd A outer s H E).env=[(false,eval e (ZA (CX1 P w) P w K mg base N qual scope f cd A outer s H E).env)]:=he
 rw [he'] at h2 ⊢
 refine Calls.evalArgs_plain (thn h2 fun us s2 ⟨vs,H2,I2,r,hl,hE⟩=>⟨rfl,by rw [← r.length]; exact hl,I2.bk _ _ hC,hN.keeps I2.bk,T.keeps I2.bk,fun h' ea hx=> ?_⟩)
 have hin:∀ env∈(ZA (CX1 P w) P w K mg base N qual scope f cd A outer s H E).stack,∀ b,env.frame=some b->b∈frs (ZA (CX1 P w) P w K mg base N qual scope f cd A outer s H E).stack:=fun env he b hb=>List.mem_filterMap.mpr ⟨env,he,hb⟩
 exact wpAny_leaves_madeW (base:=hideAll s2.heap (frs (ZA (CX1 P w) P w K mg base N qual scope f cd A outer s H E).stack)) (h:=s2.heap) I2.ok.frames rfl (fun b o q=>of_hideAll _ q) (funFrames_hide I2.stack hin) hx fun h'' t' fl _ _ sl=>
  ⟨ea, .ref C, .ref t',_,H2,rfl,JB.made I2 rfl rfl rfl hx fl sl,hE⟩
end
end L2
namespace L2
open PySem PySem.Spec PyProof.Rows PySem.W
theorem zF.there {P:Program} {w:World} {H:Hp} {h:Heap} {a:Addr} {o:HO} (x:zF P w H h a o):∃ ob,h.get? a=some ob:=by
 cases o with
 | lst xs=>obtain ⟨_,_,_,_,e⟩:=x; exact ⟨_,e⟩
 | tup xs=>obtain ⟨_,_,_,⟨_,e,_⟩,_⟩:=x; exact ⟨_,e⟩
 | dK kvs=>obtain ⟨_,_,_,_,o,_,_,e,_⟩:=x; exact ⟨_,e⟩
 | dT kvs=>obtain ⟨_,_,_,_,o,_,_,e,_⟩:=x; exact ⟨_,e⟩
 | set S n=>obtain ⟨o,_,_,_,e,_⟩:=x; exact ⟨_,e⟩
 | ins C dx fs=>obtain ⟨_,_,_,e,_⟩:=x; exact ⟨_,e⟩
 | own y=>obtain ⟨_,e⟩:=x; exact ⟨_,e⟩
 | xd fs=>obtain ⟨_,⟨_,_,_,e,_⟩,_⟩:=x; exact ⟨_,e⟩
 | rng lo hi=>obtain ⟨_,_,_,e⟩:=x; exact ⟨_,e⟩
 | frz ob u=>obtain ⟨e,_⟩:=x; exact ⟨_,e⟩
 | tbl ps q=>obtain ⟨_,e,_⟩:=x; exact ⟨_,e⟩
 | met f y=>exact ⟨_,(show h.get? a=some _ from x)⟩
 | ext φ=>obtain ⟨_,e,_⟩:=x; exact e
def w8 (cls:Value) (a:Addr) (h:Heap):Prop:=∃ o,h.get? a=some o/\o.cls=cls
theorem w8.ok {P:Program} {w:World} {H:Hp} {h:Heap} {a:Addr} {cls:Value} (x:w8 cls a h):zF P w H h a (.ext (w8 cls a)):=
 ⟨x,let ⟨o,e,_⟩:=x; ⟨o,e⟩,fun _ _ ⟨o,e,c⟩ k=>⟨o,k o e,c⟩⟩
abbrev Cx.try' (X:Cx) (pn:List (Addr×Obj)) (xe:Value->Shared->Prop):Cx:={ X with pn:=pn,xe:=xe }
abbrev Cx.mark' (X:Cx) (e:Value):Cx:={ X with A:=X.A.mark (some e),calm:=false,xe:=fun _ _=>False }
section
variable {X:Cx} {pins pins' :List (Addr×Obj)} {σ:St} {H H' :Hp} {s s' :Shared} {xe:Value->Shared->Prop}
theorem Cx.Ok.try' (ok:X.Ok) {pn:List (Addr×Obj)}:(X.try' pn xe).Ok:=
 ⟨ok.mod,ok.kind,ok.glob,ok.blt,ok.above,ok.inj,ok.has,ok.cab,ok.hd,ok.frames,ok.stk,ok.exf,ok.bs,ok.bsz,ok.noex,ok.exfs,ok.funs,ok.frf⟩
theorem Cx.Ok.untry {pn:List (Addr×Obj)} (ok:(X.try' pn xe).Ok):X.Ok:=
 ⟨ok.mod,ok.kind,ok.glob,ok.blt,ok.above,ok.inj,ok.has,ok.cab,ok.hd,ok.frames,ok.stk,ok.exf,ok.bs,ok.bsz,ok.noex,ok.exfs,ok.funs,ok.frf⟩
theorem Inv.try' (I:Inv X pins σ H s) (xe:Value->Shared->Prop):Inv (X.try' (X.pn++pins) xe) [] σ H s:=
 ⟨I.ok.try',I.os,I.bare,I.base,I.loc,I.cell,I.free,I.freeC,fun p hp=>I.pin p (by simpa using hp),I.hok,I.len⟩
theorem Inv.untry (I:Inv (X.try' (X.pn++pins) xe) pins' σ H s):Inv X pins σ H s:=
 ⟨I.ok.untry,I.os,I.bare,I.base,I.loc,I.cell,I.free,I.freeC,fun p hp=>I.pin p (List.mem_append_left _ hp),I.hok,I.len⟩
theorem Inv.mark' (I:Inv X pins σ H s) (e:Value):Inv (X.mark' e) pins σ H s:=
 ⟨⟨I.ok.mod,I.ok.kind,I.ok.glob,I.ok.blt,I.ok.above,I.ok.inj,I.ok.has,I.ok.cab,fun z=>(by cases z),I.ok.frames,I.ok.stk,I.ok.exf,I.ok.bs,I.ok.bsz,I.ok.noex,I.ok.exfs,I.ok.funs,I.ok.frf⟩,I.os,I.bare,I.base,I.loc,I.cell,I.free,I.freeC,I.pin,I.hok,I.len⟩
theorem Inv.unmark {e:Value} (I:Inv (X.mark' e) pins σ H s) (hd:X.calm=true->X.A.handled=none):Inv X pins σ H s:=
 ⟨⟨I.ok.mod,I.ok.kind,I.ok.glob,I.ok.blt,I.ok.above,I.ok.inj,I.ok.has,I.ok.cab,hd,I.ok.frames,I.ok.stk,I.ok.exf,I.ok.bs,I.ok.bsz,I.ok.noex,I.ok.exfs,I.ok.funs,I.ok.frf⟩,I.os,I.bare,I.base,I.loc,I.cell,I.free,I.freeC,I.pin,I.hok,I.len⟩
theorem SP.untry {D:uj} {f:Flow} {pins' :List (Addr×Obj)} (h:SP (X.try' (X.pn++pins) xe) pins' D f s'):SP X pins D f s' :=by
 cases f with
 | next=>obtain ⟨σ',H',I,q⟩:=h; exact ⟨σ',H',I.untry,q⟩
 | brk=>obtain ⟨σ',H',I,q⟩:=h; exact ⟨σ',H',I.untry,q⟩
 | cont=>obtain ⟨σ',H',I,q⟩:=h; exact ⟨σ',H',I.untry,q⟩
 | ret u=>obtain ⟨v,σ',H',I,r,q⟩:=h; exact ⟨v,σ',H',I.untry,r,q⟩
theorem UO {A:Around} {E:Value->Shared->Prop} {M:Model} {i:Nat} {n:Str} {pos:Pos} {Q:Unit->Shared->Prop} (I:Inv X pins σ H s) (hN:X.N.Nodup) (hi:X.N[i]? =some n) (hl:X.env.kindOf n=some .local) (h:∀ s',Inv X pins (σ.set i none) H s' ->Q () s'):
  wpAny M A (do bindName X.env n .none; unbindBehindTheSuite X.env n pos) Q E s:=by
 obtain ⟨m,hn,hlo⟩:=id I.loc
 have hcls:(X.env.scope.kind == .class || (X.env.scope.kind == .module && X.env.locals != X.env.globals))=false:=by rw [I.ok.kind]; rfl
 refine wpAny_nameGoes_keeps hl hn hcls fun h' v hn' hs=> ?_
 obtain ⟨oL,_,_,hoL,_⟩:=id hn
 refine h _ ⟨I.ok,I.os,I.bare,⟨fun b o e n hb hx=> ?_,fun b o e n hb hx=> ?_,I.base.free,fun b o e hx=> ?_,I.base.tups,I.base.frzs,I.base.tbls⟩,⟨_,hn',fun j y v' e1 e2 e3=> ?_⟩,fun y c e=> ?_,I.free,I.freeC,fun p hp=> ?_,fun b ob e=> ?_,by simpa using I.len⟩
 ·exact (hs.2 b (Nat.ne_of_lt (Nat.lt_of_lt_of_le (Heap.lt_size e) I.ok.above))).trans (I.base.keep b o e n hb hx)
 ·obtain ⟨sl,e1⟩:=I.base.slot b o e n hb hx
  exact ⟨sl,(hs.2 b (Nat.ne_of_lt (Nat.lt_of_lt_of_le (Heap.lt_size e) I.ok.above))).trans e1⟩
 ·obtain ⟨o',e1⟩:=I.base.there b o e hx
  exact ⟨o',(hs.2 b (Nat.ne_of_lt (Nat.lt_of_lt_of_le (Heap.lt_size e) I.ok.above))).trans e1⟩
 ·by_cases hj:j=i
  ·subst hj
   have hiσ:j < σ.length:=by rw [I.len]; exact (List.getElem?_eq_some_iff.mp hi).1
   rw [List.getElem?_set_self hiσ] at e2
   cases e2
  ·rw [List.getElem?_set_ne (Ne.symm hj)] at e2
   obtain ⟨u',r',q⟩:=hlo j y v' e1 e2 e3
   refine ⟨u',r', ?_⟩
   rcases q with ⟨k,e⟩ | ⟨k,c,e,z⟩
   ·refine .inl ⟨k, ?_⟩
    have:y ≠ n:=fun e=>hj (jC hN e1 (e ▸ hi))
    simp [this,e]
   ·exact .inr ⟨k,c,e,z.sameBut hs (I.cne y c e)⟩
 ·obtain ⟨w',z⟩:=I.cell y c e
  exact ⟨w',z.sameBut hs (I.cne y c e)⟩
 ·obtain ⟨e,n,ne,nf,d⟩:=I.pin p hp
  exact ⟨(hs.2 p.1 ne).trans e,n,ne,nf,d⟩
 ·refine (I.hok b ob e).stay (fun c w' hc q=>(hs.2 c ?_).trans q) (fun _ q=>q) fun _ _ q=>q
  rintro rfl
  rcases hc with rfl | hc
  ·rw [I.free] at e; cases e
  ·rw [I.free] at hc; cases hc
end
section
variable {prog:Program} {w:World} {A:Around} {E:Value->Shared->Prop} {s:Shared} {env:Env}
theorem wE {K:Frag} {e:Addr} {cls c:Value} {t:Expr} {n:Str} {b₀:Stmt} {suite:List Stmt} {pos:Pos} {rest:List ExceptHandler} {Q:Flow->Shared->Prop} (hx:exmOne K cls c=some true)
  (h:wpAny (model prog w) (A.mark (some (.ref e))) (eval t env) (fun v s₁=>v=c/\K.In s₁.heap/\(∃ oe,s₁.heap.get? e=some oe/\oe.cls=cls)/\
   wpAny (model prog w) (A.mark (some (.ref e))) (setFlight (.ref e) none) (fun _ s₂=>
     wpAny (model prog w) (A.mark (some (.ref e))) (storeName env n (.ref e)) (fun _ s₃=>
      wpAny (model prog w) (A.mark (some (.ref e))) (execs (b₀ :: suite) env)
       (fun f s₄=>wpAny (model prog w) A (do bindName env n .none; unbindBehindTheSuite env n pos) (fun _ s₅=>Q f s₅) E s₄)
       (fun _ _=>False) s₃) (fun _ _=>False) s₂) (fun _ _=>False) s₁) (fun _ _=>False) s):
  wpAny (model prog w) A (handleBy (.ref e) env (.ExceptHandler (some t) (some n) (b₀ :: suite) pos :: rest)) Q E s:=by
 refine wpAny_handleBy_cons (codeAny_handlers_test (wpAny_mono h (fun v s₁ h₁=> ?_) fun _ _ y=>y.elim)) (by intro q; cases q)
 obtain ⟨rfl,X,⟨oe,he,hcls⟩,hk⟩:=h₁
 have LT:Looks (model prog w) s₁.heap (typeOf (.ref e)) cls:=by
  rw [← hcls]
  exact (Looks.ld he).andThen .now
 refine (exm_one X LT hx) _ _ _ _ (fun b o q=>q) (codeAny_handlers_suite_as ?_)
 exact wpAny_mono hk (fun _ s₂ h₂=>wpAny_mono h₂ (fun _ s₃ h₃=>wpAny_mono h₃ (fun _ _ y=>y) fun _ _ y=>y.elim) fun _ _ y=>y.elim) fun _ _ y=>y.elim
end
end L2
namespace L2
open PySem PySem.Spec PyProof.Rows PySem.W
section
variable {X:Cx} {pins:List (Addr×Obj)} {σ:St} {H H' :Hp} {s s' :Shared} {ea:Addr} {cls a0:Value} {B:Heap} {h3:Heap}
theorem Inv.caught (I:Inv X pins σ H s) (L:JB X.prog X.w X.stack H s s' ea cls a0 B H') (fl:Heap.FlyingW B X.stack ea cls a0 h3) (sl:s'.heap.UpToSlots h3):Inv X pins σ H' { s' with heap:=h3 }:=
 have L3:=L.on I.frNf fl sl
 I.call' (ch:=[]) L3.os L3.un (L.hok.kept fl.1) L3.bare (fun b z=>absurd z (by simp))
theorem JB.fresh {P:Program} {w:World} {outer:List Env} (L:JB P w outer H s s' ea cls a0 B H'):H' ea=none:=by
 cases q:H' ea with
 | none=>rfl
 | some o=>
  obtain ⟨ob,e⟩:=(L.hok ea o q).there
  have:=L.fly.2.1
  rw [e] at this; cases this
theorem Inv.caughtX (I:Inv X pins σ H s) (L:JB X.prog X.w X.stack H s s' ea cls a0 B H') (fl:Heap.FlyingW B X.stack ea cls a0 h3) (sl:s'.heap.UpToSlots h3):Inv X pins σ (upd H' ea (.ext (w8 cls ea))) { s' with heap:=h3 }:=by
 have L3:=L.on I.frNf fl sl
 have hfree:=L.fresh
 obtain ⟨oe,vs,he,hc,hd,_⟩:=fl.first
 have hne:∀ b o,s.heap.get? b=some o->b ≠ ea:=fun b o e z=>by
  subst z
  by_cases hb:b∈frs X.stack
  ·obtain ⟨n,o2,e2,nf⟩:=I.frNf b hb
   obtain ⟨sl1,e3⟩:=L3.un.slot b o2 e2 n hb (by simp)
   have e3:h3.get? b=some { o2 with slots:=sl1 }:=e3
   rw [he] at e3; cases e3
   exact nf vs hd
  ·obtain ⟨o',e'⟩:=(L.inB b o e hb).2
   have:=L.fly.2.1
   rw [e'] at this; cases this
 have nt:∀ b u,H' b=some u->b ≠ ea:=fun b u e z=>by rw [z,hfree] at e; cases e
 refine I.call' (ch:=[]) L3.os ⟨L3.un.keep,L3.un.slot,fun b o e n hx=> ?_,L3.un.there,fun b xs e=> ?_,fun b o xs e=> ?_,fun b ps q e=> ?_⟩ ?_ L3.bare (fun b z=>absurd z (by simp))
 ·rw [zf (hne b o e)]; exact L3.un.free b o e n hx
 ·have:=L3.un.tups b xs e
  rw [zf (nt b _ this)]; exact this
 ·have:=L3.un.frzs b o xs e
  rw [zf (nt b _ this)]; exact this
 ·have:=L3.un.tbls b ps q e
  rw [zf (nt b _ this)]; exact this
 ·intro b u e
  by_cases hb:b=ea
  ·subst hb
   rw [zh] at e; cases e
   exact w8.ok ⟨oe,he,hc⟩
  ·rw [zf hb] at e
   exact ((L.hok.kept fl.1) b u e).stay (fun _ _ _ q=>q) (fun c q=>by rw [zf (nt c _ q)]; exact q) (fun c xs q=>by rw [zf (nt c _ q)]; exact q) fun c o u q=>by rw [zf (nt c _ q)]; exact q
end
end L2
namespace PySem
open PySem.W
section
variable {M:Model} {A:Around} {E:Value->Shared->Prop} {s:Shared}
end
end PySem
namespace L2
open PySem PySem.Spec PyProof.Rows PySem.W
section
variable {X:Cx} {pins:List (Addr×Obj)} {σ:St} {H H' :Hp} {s s' :Shared} {ea C:Addr} {cls a0:Value} {B:Heap} {h' :Heap}
def YG (X:Cx) (E:XK):Prop:=∀ (pins:List (Addr×Obj)) (σ:St) (H:Hp) (s:Shared) (e:Value) (s' :Shared) (C:Addr) (m:Str->Option Value) (E' :Value->Shared->Prop) (cenv:Env),Inv X pins σ H s->s.heap.Ns C m->H C=none->X.s₀.heap.objs.size<=C->C ∉ frs X.stack->cenv.frame=X.env.frame->CX1 X.prog X.w X.stack H s E e s' ->
 wpAny (model X.prog X.w) X.A (noteFrame e cenv) (fun _ s'' =>∃ m,s''.heap.Ns C m/\∀ h',Heap.SameBut C s''.heap h' ->∀ env:Env,env.locals=C->wpAny (model X.prog X.w) X.A (passOn "comprehension.variables-let-go" e env:Sem Value) (fun _ _=>False) X.xe { s'' with heap:=h' }) E' s'
theorem jn {E:XK} (h:E=fun _ _ _=>False):YG X E:=fun pins σ H s e s' C m E' cenv I _ _ _ _ _ ⟨_,_,_,_,_,_,_,z⟩=>by subst h; exact z.elim
end
end L2
namespace L2
open PySem PySem.Spec PyProof.Rows
theorem PE.imp {X:Cx} {e:Expr} {t t' :TE} (h:PE X e t) (i:∀ σ H Q,t' σ H Q->t σ H Q):PE X e t' :=fun pins s σ H Q I q=>h pins s σ H Q I (i σ H Q q)
theorem PT.imp {X:Cx} {e:Expr} {t t' :TT} (h:PT X e t) (i:∀ σ H Q,t' σ H Q->t σ H Q):PT X e t' :=fun pins s σ H Q I q=>h pins s σ H Q I (i σ H Q q)
theorem PA.imp {X:Cx} {e:List Expr} {t t' :TA} (h:PA X e t) (i:∀ σ H Q,t' σ H Q->t σ H Q):PA X e t' :=fun pos pins s σ H Q I q=>h pos pins s σ H Q I (i σ H Q q)
theorem PS.imp {X:Cx} {e:Stmt} {t t' :TS} (h:PS X e t) (i:∀ D σ H,t' D σ H->t D σ H):PS X e t' :=fun pins s σ H D I q=>h pins s σ H D I (i D σ H q)
theorem PSs.imp {X:Cx} {e:List Stmt} {t t' :TS} (h:PSs X e t) (i:∀ D σ H,t' D σ H->t D σ H):PSs X e t' :=fun pins s σ H D I q=>h pins s σ H D I (i D σ H q)
end L2
namespace PV
open PySem
def Jb:Expr->Bool
 | .Starred _ _=>false
 | _=>true
theorem zC {e:Expr} {rest:List Expr} {env:Env} (h:Jb e=true):starEach (e :: rest) env=(false,eval e env) :: starEach rest env:=by
 cases e <;> first | rfl | cases h
theorem st2 {a b:Expr} {env:Env} (h:Jb a=true) (h' :Jb b=true):starEach [a,b] env=[(false,eval a env),(false,eval b env)]:=by
 rw [zC h,zC h']; rfl
theorem st1 {a:Expr} {env:Env} (h:Jb a=true):starEach [a] env=[(false,eval a env)]:=by
 rw [zC h]; rfl
theorem zO {pos:Pos} {env:Env}:∀ {es:List Expr},es.all Jb=true->((backTo pos (starEach es env)).any fun x=>x.fst)=false
 | [],_=>rfl
 | e :: es,h=>by
  rw [List.all_cons,Bool.and_eq_true] at h
  rw [zC h.1]
  have:=zO (pos:=pos) (env:=env) h.2
  show (false || ((backTo pos (starEach es env)).any fun x=>x.fst))=false
  rw [this]; rfl
open PySem PySem.Spec PyProof.Rows L2
abbrev Sg:=L2.St
inductive T where
 | non | bl (b:Bool) | int (i:Int) | str (x:Str) | tup (xs:List T) | lst (xs:List T) | fz (xs:List T)
inductive R (α:Type) where
 | ok (a:α) | ex (c:Nat) | bad
def R.bind {α β:Type} (r:R α) (f:α->R β):R β:=match r with
 | .ok a=>f a
 | .ex c=> .ex c
 | .bad=> .bad
mutual
inductive Rep (H:Hp):V->T->Prop where
 | non:Rep H .non .non
 | bl (b:Bool):Rep H (.bl b) (.bl b)
 | int (i:Int):Rep H (.int i) (.int i)
 | str (x:Str):Rep H (.str x) (.str x)
 | tup {a:Addr} {xs:List V} {ts:List T}:H a=some (.tup xs)->zo H xs ts->Rep H (.ref a) (.tup ts)
 | lst {a:Addr} {xs:List V} {ts:List T}:H a=some (.lst xs)->zo H xs ts->Rep H (.ref a) (.lst ts)
 | fz {a:Addr} {o:Obj} {xs:List V} {ts:List T}:H a=some (.frz o (.lst xs))->zo H xs ts->Rep H (.ref a) (.fz ts)
inductive zo (H:Hp):List V->List T->Prop where
 | nil:zo H [] []
 | cons {v:V} {t:T} {vs:List V} {ts:List T}:Rep H v t->zo H vs ts->zo H (v :: vs) (t :: ts)
end
mutual
theorem Rep.mono {H H' :Hp} (s:zi H H'):∀ {v:V} {t:T},Rep H v t->Rep H' v t
 | _,_, .non=> .non
 | _,_, .bl b=> .bl b
 | _,_, .int i=> .int i
 | _,_, .str x=> .str x
 | _,_, .tup h r=> .tup (s _ _ h) (zo.mono s r)
 | _,_, .lst h r=> .lst (s _ _ h) (zo.mono s r)
 | _,_, .fz h r=> .fz (s _ _ h) (zo.mono s r)
theorem zo.mono {H H' :Hp} (s:zi H H'):∀ {v:List V} {t:List T},zo H v t->zo H' v t
 | _,_, .nil=> .nil
 | _,_, .cons h r=> .cons (Rep.mono s h) (zo.mono s r)
end
theorem zo.length {H:Hp}:∀ {vs:List V} {ts:List T},zo H vs ts->vs.length=ts.length
 | _,_, .nil=>rfl
 | _,_, .cons _ r=>congrArg (·+1) (zo.length r)
theorem zo.get {H:Hp}:∀ {vs:List V} {ts:List T} {i:Nat} {t:T},zo H vs ts->ts[i]? =some t->∃ v,vs[i]? =some v/\Rep H v t
 | _,_,_,_, .nil,e=>by simp at e
 | _,_,0,_, .cons r _,e=>by simp at e; subst e; exact ⟨_,rfl,r⟩
 | _,_,i+1,t, .cons _ q,e=>by
  obtain ⟨v,h1,h2⟩:=zo.get (i:=i) (t:=t) q (by simpa using e)
  exact ⟨v,by simpa using h1,h2⟩
theorem zo.getV {H:Hp}:∀ {vs:List V} {ts:List T} {i:Nat} {v:V},zo H vs ts->vs[i]? =some v->∃ t,ts[i]? =some t/\Rep H v t
 | _,_,_,_, .nil,e=>by simp at e
 | _,_,0,_, .cons r _,e=>by simp at e; subst e; exact ⟨_,rfl,r⟩
 | _,_,i+1,v, .cons _ q,e=>by
  obtain ⟨t,h1,h2⟩:=zo.getV (i:=i) (v:=v) q (by simpa using e)
  exact ⟨t,by simpa using h1,h2⟩
theorem zo.append {H:Hp}:∀ {vs ws:List V} {ts us:List T},zo H vs ts->zo H ws us->zo H (vs++ws) (ts++us)
 | _,_,_,_, .nil,q=>q
 | _,_,_,_, .cons r t,q=> .cons r (zo.append t q)
theorem zo.rep {H:Hp} {vs:List V} {ts:List T} (h:zo H vs ts):∀ n:Nat,zo H (List.replicate n vs).flatten (List.replicate n ts).flatten
 | 0=> .nil
 | n+1=>by
  rw [List.replicate_succ,List.replicate_succ,List.flatten_cons,List.flatten_cons]
  exact h.append (zo.rep h n)
theorem zo.nil_iff {H:Hp} {vs:List V} {ts:List T} (h:zo H vs ts):vs=[]↔ts=[]:=by
 cases h <;> simp
def zt (B H H' :Hp):Hp:=fun b=>match H b with
 | none=>H' b
 | some _=>B b
theorem zA {B H H' :Hp} {b:Addr} (h:H b=none):zt B H H' b=H' b:=by unfold zt; rw [h]
theorem zH {B H H' :Hp} {b:Addr} {o:HO} (h:H b=some o):zt B H H' b=B b:=by unfold zt; rw [h]
theorem zt.ge {B H H' :Hp} (s:zi B H) (s' :zi H H'):zi B (zt B H H'):=fun b o h=>by
 rw [zH (s b o h)]; exact h
theorem zt.le {B H H' :Hp} (s:zi B H) (s' :zi H H'):zi (zt B H H') H' :=fun b o h=>by
 cases q:H b with
 | none=>rw [zA q] at h; exact h
 | some u=>rw [zH q] at h; exact s' b o (s b o h)
theorem zt.self (B H:Hp) (s:zi B H):zt B H H=B:=by
 funext b
 cases q:H b with
 | none=>
  rw [zA q,q]
  cases z:B b with
  | none=>rfl
  | some o=>rw [s b o z] at q; cases q
 | some u=>rw [zH q]
theorem zt.trans {B H H1 H2:Hp} (s1:zi H H1) (s2:zi H1 H2):zt (zt B H H1) H1 H2=zt B H H2:=by
 funext b
 cases q:H b with
 | none=>
  rw [zA q]
  cases z:H1 b with
  | none=>rw [zA z]
  | some o=>rw [zH z,zA q,z,s2 b o z]
 | some u=>rw [zH q,zH (s1 b u q),zH q]
inductive Sl where
 | un | vl (t:T) | ow (ts:List T) | xc (c:Nat)
abbrev En:=List Sl
structure Fx where
 B0:Hp
 H0:Hp
 E:XK
 cl:Nat->Value
structure SI (Y:Fx) (B:Hp) (ρ:En) (σ:Sg) (H:Hp):Prop where
 s0:zi Y.B0 Y.H0
 sH:zi Y.H0 H
 sB:zi B H
 old:∀ b o,Y.H0 b=some o->B b=Y.B0 b
 len:ρ.length=σ.length
 vl:∀ (i:Nat) (t:T),ρ[i]? =some (Sl.vl t)->∃ v:V,σ[i]? =some (some v)/\Rep B v t
 ow:∀ (i:Nat) (ts:List T),ρ[i]? =some (Sl.ow ts)->∃ (a:Addr) (xs:List V),σ[i]? =some (some (V.ref a))/\B a=none/\Y.H0 a=none/\H a=some (.lst xs)/\zo B xs ts/\
  ∀ (j:Nat) (us:List T),j ≠ i->ρ[j]? =some (Sl.ow us)->σ[j]? ≠ some (some (V.ref a))
 xc:∀ (i:Nat) (c:Nat),ρ[i]? =some (Sl.xc c)->∃ a:Addr,σ[i]? =some (some (V.ref a))/\B a=some (.ext (w8 (Y.cl c) a))
theorem SI.grow {Y:Fx} {B:Hp} {ρ:En} {σ:Sg} {H H' :Hp} (I:SI Y B ρ σ H) (s:zi H H'):SI Y (zt B H H') ρ σ H' where
 s0:=I.s0
 sH:=I.sH.trans s
 sB:=zt.le I.sB s
 old:=fun b o h=>by rw [zH (I.sH b o h)]; exact I.old b o h
 len:=I.len
 vl:=fun i t h=>let ⟨v,e,r⟩:=I.vl i t h; ⟨v,e,r.mono (zt.ge I.sB s)⟩
 ow:=fun i ts h=>let ⟨a,xs,e,b,h0,hh,r,d⟩:=I.ow i ts h; ⟨a,xs,e,by rw [zH hh]; exact b,h0,s _ _ hh,r.mono (zt.ge I.sB s),d⟩
 xc:=fun i c h=>let ⟨a,e,r⟩:=I.xc i c h; ⟨a,e,zt.ge I.sB s a _ r⟩
def XP (Y:Fx) (B:Hp) (c:Nat):Prop:=∀ (d:Option Addr) (H' :Hp),zi Y.H0 H' ->zi B H' ->Y.E (Y.cl c) d H'
def Po {α β:Type} (Y:Fx) (rel:Hp->Hp->β->α->Prop) (B H:Hp) (r:R α) (Q:β->Hp->Prop):Prop:=match r with
 | .ok a=>∀ b H',zi H H' ->rel (zt B H H') H' b a->Q b H'
 | .ex c=>XP Y B c
 | .bad=>False
abbrev rC:Hp->Hp->V->T->Prop:=fun B _ v t=>Rep B v t
abbrev rB:Hp->Hp->V->T->Prop:=fun _ H v t=>Rep H v t
abbrev rCs:Hp->Hp->List V->List T->Prop:=fun B _ v t=>zo B v t
abbrev rE {α:Type}:Hp->Hp->α->α->Prop:=fun _ _ a b=>a=b
def tS {α β:Type} (Y:Fx) (rel:Hp->Hp->β->α->Prop) (f:En->R α) (ρ:En):Sg->Hp->(β->Hp->Prop)->Prop:=fun σ H Q=>∃ B,SI Y B ρ σ H/\Po Y rel B H (f ρ) Q
structure Snd (X:Cx) (Y:Fx) (e:Expr) (f:En->R T):Prop where
 mk ::
 go:∀ ρ,PE X e (tS Y rC f ρ)
instance {X:Cx} {Y:Fx} {e:Expr} {f:En->R T}:CoeFun (Snd X Y e f) fun _=>∀ ρ,PE X e (tS Y rC f ρ):=⟨Snd.go⟩
structure Zn (X:Cx) (Y:Fx) (e:Expr) (f:En->R T):Prop where
 mk ::
 go:∀ ρ,PE X e (tS Y rB f ρ)
instance {X:Cx} {Y:Fx} {e:Expr} {f:En->R T}:CoeFun (Zn X Y e f) fun _=>∀ ρ,PE X e (tS Y rB f ρ):=⟨Zn.go⟩
structure w9 (X:Cx) (Y:Fx) (e:Expr) (f:En->R Bool):Prop where
 mk ::
 go:∀ ρ,PT X e (tS Y rE f ρ)
instance {X:Cx} {Y:Fx} {e:Expr} {f:En->R Bool}:CoeFun (w9 X Y e f) fun _=>∀ ρ,PT X e (tS Y rE f ρ):=⟨w9.go⟩
structure JD (X:Cx) (Y:Fx) (es:List Expr) (f:En->R (List T)):Prop where
 mk ::
 go:∀ ρ,PA X es (tS Y rCs f ρ)
instance {X:Cx} {Y:Fx} {es:List Expr} {f:En->R (List T)}:CoeFun (JD X Y es f) fun _=>∀ ρ,PA X es (tS Y rCs f ρ):=⟨JD.go⟩
theorem step {α α' β β' :Type} {Y:Fx} {rel:Hp->Hp->β->α->Prop} {rel' :Hp->Hp->β' ->α' ->Prop} {f:En->R α} {k:α->R α'} {ρ:En} {B:Hp} {σ:Sg} {H:Hp} {Q:β' ->Hp->Prop} {K:β->Hp->Prop}
  (I:SI Y B ρ σ H) (h:Po Y rel' B H ((f ρ).bind k) Q)
  (n:∀ a b H1,f ρ= .ok a->zi H H1->rel (zt B H H1) H1 b a->SI Y (zt B H H1) ρ σ H1->Po Y rel' (zt B H H1) H1 (k a) Q->K b H1):tS Y rel f ρ σ H K:=by
 refine ⟨B,I, ?_⟩
 cases e:f ρ with
 | bad=>rw [e] at h; exact h
 | ex c=>rw [e] at h; exact h
 | ok a=>
  rw [e] at h
  intro b H1 s r
  refine n a b H1 e s r (I.grow s) ?_
  have h' :Po Y rel' B H (k a) Q:=h
  revert h'
  cases k a with
  | bad=>exact fun h' =>h'
  | ex c=>exact fun h' d H' s0 sB' =>h' d H' s0 ((zt.ge I.sB s).trans sB')
  | ok a' =>exact fun h' b' H2 s2 r2=>h' b' H2 (s.trans s2) (by rw [← zt.trans s s2]; exact r2)
theorem Z6 {α β:Type} {Y:Fx} {rel:Hp->Hp->β->α->Prop} {ρ:En} {B:Hp} {σ:Sg} {H:Hp} {a:α} {b:β} {Q:β->Hp->Prop} (I:SI Y B ρ σ H) (h:Po Y rel B H (.ok a) Q) (r:rel B H b a):Q b H:=h b H (zi.refl H) (by rw [zt.self B H I.sB]; exact r)
theorem Snd.b {X:Cx} {Y:Fx} {e:Expr} {f:En->R T} (h:Snd X Y e f):Zn X Y e f:= .mk fun ρ=>PE.imp (h ρ) fun σ H Q ⟨B,I,q⟩=>⟨B,I,by
 revert q
 cases f ρ with
 | bad=>exact fun q=>q
 | ex c=>exact fun q=>q
 | ok a=>exact fun q b H' s r=>q b H' s (r.mono (zt.le I.sB s))⟩
section
variable {X:Cx} {Y:Fx} {a b c:Expr} {fa fb fc:En->R T} {pos:Pos}
def vE (i:Nat):En->R T:=fun ρ=>match ρ[i]? with
 | some (.vl t)=> .ok t
 | _=> .bad
def vB (i:Nat):En->R T:=fun ρ=>match ρ[i]? with
 | some (.vl t)=> .ok t
 | some (.ow ts)=> .ok (.lst ts)
 | _=> .bad
def cE (t:T):En->R T:=fun _=> .ok t
theorem QV (i:Nat) {x:Str} (h:PE X (.Name x pos) (uf i)):Snd X Y (.Name x pos) (vE i):= .mk fun ρ=>PE.imp h fun σ H Q ⟨B,I,q⟩=>by
 unfold vE at q
 split at q
 ·rename_i t e
  obtain ⟨v,e1,r⟩:=I.vl i t e
  exact ⟨v,e1,Z6 I q r⟩
 ·exact q.elim
theorem YH (i:Nat) {x:Str} (h:PE X (.Name x pos) (uf i)):Zn X Y (.Name x pos) (vB i):= .mk fun ρ=>PE.imp h fun σ H Q ⟨B,I,q⟩=>by
 unfold vB at q
 split at q
 ·rename_i t e
  obtain ⟨v,e1,r⟩:=I.vl i t e
  exact ⟨v,e1,Z6 I q (r.mono I.sB)⟩
 ·rename_i ts e
  obtain ⟨a,xs,e1,_,_,hh,r,_⟩:=I.ow i ts e
  exact ⟨.ref a,e1,Z6 I q (.lst hh (r.mono I.sB))⟩
 ·exact q.elim
theorem QW {i j}:Snd X Y (.Constant (.int i) j pos) (cE (.int i)):= .mk fun ρ=>PE.imp Ye fun σ H Q ⟨B,I,q⟩=>Z6 I q (.int i)
theorem xN {i j}:Snd X Y (.Constant (.bool i) j pos) (cE (.bl i)):= .mk fun ρ=>PE.imp QA fun σ H Q ⟨B,I,q⟩=>Z6 I q (.bl i)
theorem QX {j}:Snd X Y (.Constant .none j pos) (cE .non):= .mk fun ρ=>PE.imp Yf fun σ H Q ⟨B,I,q⟩=>Z6 I q .non
theorem YI {i j}:Snd X Y (.Constant (.str i) j pos) (cE (.str i)):= .mk fun ρ=>PE.imp Yg fun σ H Q ⟨B,I,q⟩=>Z6 I q (.str i)
def zb:En->R (List T):=fun _=> .ok []
def z0 (f:En->R T) (g:En->R (List T)):En->R (List T):=fun ρ=>(f ρ).bind fun t=>(g ρ).bind fun ts=> .ok (t :: ts)
theorem YJ:JD X Y [] zb:= .mk fun ρ=>PA.imp zu fun σ H Q ⟨B,I,q⟩=>Z6 I q .nil
theorem Ud {es:List Expr} {g:En->R (List T)} (h:Snd X Y a fa) (hs:JD X Y es g) (hq:starEach (a :: es) X.env=(false,eval a X.env) :: starEach es X.env:=by exact zC rfl):JD X Y (a :: es) (z0 fa g):= .mk fun ρ=>
 PA.imp (zg (h ρ) (hs ρ) hq) fun σ H Q ⟨B,I,q⟩=>step I q fun t v H1 _ s1 r1 I1 q1=>step I1 q1 fun ts vs H2 _ s2 r2 I2 q2=>Z6 I2 q2 (.cons (r1.mono (zt.ge I1.sB s2)) r2)
theorem zi.new {H:Hp} {p:Addr} (h:H p=none) (o:HO):zi H (upd H p o):=fun b u q=>by rw [zf (zm q h)]; exact q
theorem ZB {B H:Hp} {p:Addr} (h:H p=none) (o:HO):zt B H (upd H p o) p=some o:=by rw [zA h,zh]
def bnd:Nat:=16777216
theorem zV {n:Nat} (h:n<=bnd):n<=sizeLine:=by rw [sizeLine_eq]; exact h
def zn (g:En->R (List T)):En->R T:=fun ρ=>(g ρ).bind fun ts=>if ts.length<=bnd then .ok (.tup ts) else .bad
def zD (g:En->R (List T)):En->R T:=fun ρ=>(g ρ).bind fun ts=>if ts.length<=bnd then .ok (.lst ts) else .bad
theorem UP {ρ:En} {σ:Sg} {B H:Hp} {xs:List V} {ts:List T} (I:SI Y B ρ σ H) (r:zo B xs ts) {p:Addr} (h:H p=none):Rep (zt B H (upd H p (.tup xs))) (.ref p) (.tup ts):=
 .tup (ZB h _) (r.mono (zt.ge I.sB (zi.new h _)))
theorem UQ {ρ:En} {σ:Sg} {B H:Hp} {xs:List V} {ts:List T} (I:SI Y B ρ σ H) (r:zo B xs ts) {p:Addr} (h:H p=none):Rep (zt B H (upd H p (.lst xs))) (.ref p) (.lst ts):=
 .lst (ZB h _) (r.mono (zt.ge I.sB (zi.new h _)))
theorem QY {es:List Expr} {g:En->R (List T)} {x1} (h:JD X Y es g):Snd X Y (.Tuple es x1 pos) (zn g):= .mk fun ρ=>PE.imp (Ua (h ρ)) fun σ H Q ⟨B,I,q⟩=>
 step I q fun ts vs H1 _ s1 r1 I1 q1=>by
  split at q1
  ·rename_i hb
   refine ⟨by rw [r1.length]; exact zV hb,fun p hp=>q1 _ _ (zi.new hp _) (UP I1 r1 hp)⟩
  ·exact q1.elim
theorem QZ {es:List Expr} {g:En->R (List T)} (h:JD X Y es g):Snd X Y (.List es pos) (zD g):= .mk fun ρ=>PE.imp (Ub (h ρ)) fun σ H Q ⟨B,I,q⟩=>
 step I q fun ts vs H1 _ s1 r1 I1 q1=>by
  split at q1
  ·rename_i hb
   refine ⟨by rw [r1.length]; exact zV hb,fun p hp=>q1 _ _ (zi.new hp _) (UQ I1 r1 hp)⟩
  ·exact q1.elim
end
end PV
namespace PV
open PySem PySem.Spec PyProof.Rows L2
def eqL (f:T->T->Option Bool):List T->List T->Option Bool
 | [],[]=>some true
 | [],_ :: _=>some false
 | _ :: _,[]=>some false
 | x :: xs,y :: ys=>match f x y with
  | none=>none
  | some b=>match eqL f xs ys with
   | none=>none
   | some c=>some (b && c)
def b2 (b:Bool):Int:=if b then 1 else 0
def eqF:Nat->T->T->Option Bool
 | _, .non, .non=>some true
 | _, .bl a, .bl b=>some (a == b)
 | _, .bl a, .int j=>some (b2 a == j)
 | _, .int i, .bl b=>some (i == b2 b)
 | _, .int i, .int j=>some (i == j)
 | _, .str x, .str y=>some (x == y)
 | n+1, .tup xs, .tup ys=>eqL (eqF n) xs ys
 | n+1, .lst xs, .lst ys=>eqL (eqF n) xs ys
 | n+1, .fz xs, .lst ys=>eqL (eqF n) xs ys
 | n+1, .lst xs, .fz ys=>eqL (eqF n) xs ys
 | n+1, .fz xs, .fz ys=>eqL (eqF n) xs ys
 | 0, .tup _, .tup _=>none
 | 0, .lst _, .lst _=>none
 | 0, .fz _, .lst _=>none
 | 0, .lst _, .fz _=>none
 | 0, .fz _, .fz _=>none
 | _, .non,_=>some false
 | _, .bl _,_=>some false
 | _, .int _,_=>some false
 | _, .str _,_=>some false
 | _, .tup _,_=>some false
 | _, .lst _,_=>some false
 | _, .fz _,_=>some false
mutual
theorem Rep.fn {H:Hp}:∀ {v:V} {t t' :T},Rep H v t->Rep H v t' ->t=t'
 | _,_,_, .non, .non=>rfl
 | _,_,_, .bl _, .bl _=>rfl
 | _,_,_, .int _, .int _=>rfl
 | _,_,_, .str _, .str _=>rfl
 | _,_,_, .tup h r, .tup h' r' =>by
  rw [h] at h'; cases h'; rw [zo.fn r r']
 | _,_,_, .tup h r, .lst h' r' =>by rw [h] at h'; cases h'
 | _,_,_, .tup h r, .fz h' r' =>by rw [h] at h'; cases h'
 | _,_,_, .lst h r, .tup h' r' =>by rw [h] at h'; cases h'
 | _,_,_, .lst h r, .lst h' r' =>by
  rw [h] at h'; cases h'; rw [zo.fn r r']
 | _,_,_, .lst h r, .fz h' r' =>by rw [h] at h'; cases h'
 | _,_,_, .fz h r, .tup h' r' =>by rw [h] at h'; cases h'
 | _,_,_, .fz h r, .lst h' r' =>by rw [h] at h'; cases h'
 | _,_,_, .fz h r, .fz h' r' =>by
  rw [h] at h'; cases h'; rw [zo.fn r r']
theorem zo.fn {H:Hp}:∀ {v:List V} {t t' :List T},zo H v t->zo H v t' ->t=t'
 | _,_,_, .nil, .nil=>rfl
 | _,_,_, .cons h r, .cons h' r' =>by rw [Rep.fn h h',zo.fn r r']
end
theorem Zi {f:T->T->Option Bool} (hf:∀ x b,f x x=some b->b=true):∀ (xs:List T) (b:Bool),eqL f xs xs=some b->b=true
 | [],b,h=>by
  have h' :some true=some b:=h
  cases h'; rfl
 | x :: xs,b,h=>by
  unfold eqL at h
  cases e:f x x with
  | none=>rw [e] at h; cases h
  | some c=>
   rw [e] at h
   cases e' :eqL f xs xs with
   | none=>rw [e'] at h; cases h
   | some d=>
    rw [e'] at h
    cases h
    rw [hf x c e,Zi hf xs d e']
    rfl
theorem zZ:∀ (n:Nat) (t:T) (b:Bool),eqF n t t=some b->b=true
 | n, .non,b,h=>by unfold eqF at h; cases h; rfl
 | n, .bl x,b,h=>by unfold eqF at h; cases h; simp
 | n, .int x,b,h=>by unfold eqF at h; cases h; simp
 | n, .str x,b,h=>by unfold eqF at h; cases h; simp
 | 0, .tup x,b,h=>by unfold eqF at h; cases h
 | 0, .lst x,b,h=>by unfold eqF at h; cases h
 | 0, .fz x,b,h=>by unfold eqF at h; cases h
 | n+1, .tup x,b,h=>by unfold eqF at h; exact Zi (zZ n) x b h
 | n+1, .lst x,b,h=>by unfold eqF at h; exact Zi (zZ n) x b h
 | n+1, .fz x,b,h=>by unfold eqF at h; exact Zi (zZ n) x b h
theorem Wk {f:T->T->Option Bool}:∀ {xs ys:List T} {b:Bool},eqL f xs ys=some b->
  ∃ e:Nat->Bool,(∀ j x y,xs[j]? =some x->ys[j]? =some y->f x y=some (e j))/\((List.range (min xs.length ys.length)).all e && xs.length == ys.length)=b
 | [],[],b,h=>by
  have h' :some true=some b:=h
  cases h'
  exact ⟨fun _=>true,fun j x y h=>by simp at h,by simp⟩
 | [],y :: ys,b,h=>by
  have h' :some false=some b:=h
  cases h'
  exact ⟨fun _=>true,fun j x y h=>by simp at h,by simp⟩
 | x :: xs,[],b,h=>by
  have h' :some false=some b:=h
  cases h'
  exact ⟨fun _=>true,fun j x y h h' =>by simp at h',by simp⟩
 | x :: xs,y :: ys,b,h=>by
  unfold eqL at h
  cases e:f x y with
  | none=>rw [e] at h; cases h
  | some c=>
   rw [e] at h
   cases e' :eqL f xs ys with
   | none=>rw [e'] at h; cases h
   | some d=>
    rw [e'] at h
    cases h
    obtain ⟨g,h1,h2⟩:=Wk e'
    refine ⟨fun j=>match j with | 0=>c | j+1=>g j,fun j u v hu hv=> ?_, ?_⟩
    ·cases j with
     | zero=>simp at hu hv; subst hu hv; exact e
     | succ j=>exact h1 j u v (by simpa using hu) (by simpa using hv)
    ·have z:min (x :: xs).length (y :: ys).length=min xs.length ys.length+1:=by simp only [List.length_cons]; omega
     rw [z,List.range_succ_eq_map,List.all_cons,List.all_map]
     have z2:((x :: xs).length == (y :: ys).length)=(xs.length == ys.length):=by simp
     rw [z2,← h2,Bool.and_assoc]
     rfl
section
variable {X:Cx} {pins:List (Addr×Obj)} {σ:Sg} {H:Hp} {s:Shared}
theorem Z2 {a:Addr} {xs:List V} {ts:List T} (I:L2.Inv X pins σ H s) (h:H a=some (.tup xs)) (r:zo H xs ts):∃ its:List Value,zE xs its/\s.heap.IsTuple a its.toArray/\ts.length=its.length/\xs.length<=sizeLine:=by
 obtain ⟨its,rv,p,z⟩:=I.tuple (SqT.of h)
 exact ⟨its,rv,p,by rw [← r.length]; exact rv.length,z⟩
theorem zv {a:Addr} {xs:List V} {ts:List T} (I:L2.Inv X pins σ H s) (h:Rd H a (.lst xs)) (r:zo H xs ts):∃ its:List Value,zE xs its/\s.heap.IsList a its.toArray/\ts.length=its.length/\xs.length<=sizeLine:=by
 obtain ⟨its,rv,p,z⟩:=I.list (.inl h)
 exact ⟨its,rv,p.isList,by rw [← r.length]; exact rv.length,z⟩
end
abbrev EqN (A:Around) (s:Shared) (u u' :Value) (b:Bool):Prop:=SeqAt.EqAt A s u u' b/\SeqAt.RcAt A s u u' b/\SeqAt.RcNeAt A s u u' (!b)
section
variable {X:Cx} {pins:List (Addr×Obj)} {σ:Sg} {H:Hp} {s:Shared}
theorem Wl {xs ys:List V} {ts us:List T} {its its' :List Value} {A:Around} {f:T->T->Option Bool} {e:Nat->Bool} (r:zo H xs ts) (r' :zo H ys us) (v:zE xs its) (v' :zE ys its')
  (he:∀ (j:Nat) (x y:T),ts[j]? =some x->us[j]? =some y->f x y=some (e j))
  (ih:∀ (x y:T) (b:Bool) (p q:V) (u w:Value),f x y=some b->Rep H p x->Rep H q y->zJ p u->zJ q w->EqN A s u w b) (j:Nat) (h1:j < its.toArray.size) (h2:j < its'.toArray.size):
  SeqAt.EqAt A s its.toArray[j] its'.toArray[j] (e j):=by
 have l1:=v.length
 have l2:=v'.length
 have m1:=r.length
 have m2:=r'.length
 have k1:j < xs.length:=by simp at h1; omega
 have k2:j < ys.length:=by simp at h2; omega
 obtain ⟨t,et,rt⟩:=r.getV (List.getElem?_eq_getElem k1)
 obtain ⟨t',et',rt'⟩:=r'.getV (List.getElem?_eq_getElem k2)
 obtain ⟨u,eu,ru⟩:=v.get (List.getElem?_eq_getElem k1)
 obtain ⟨u',eu',ru'⟩:=v'.get (List.getElem?_eq_getElem k2)
 have q1:its.toArray[j]=u:=by
  have:its[j]? =some its.toArray[j]:=by simp at h1 ⊢
  rw [eu] at this; exact (Option.some.inj this).symm
 have q2:its'.toArray[j]=u' :=by
  have:its'[j]? =some its'.toArray[j]:=by simp at h2 ⊢
  rw [eu'] at this; exact (Option.some.inj this).symm
 rw [q1,q2]
 exact (ih t t' (e j) _ _ u u' (he j t t' et et') rt rt' ru ru').1
theorem UR {A:Around} {a c:Addr} {xs ys:List V} {ts us:List T} {b:Bool} {f:T->T->Option Bool} (I:L2.Inv X pins σ H s) (hu:A.units < cLine) (ha:H a=some (.tup xs)) (hc:H c=some (.tup ys)) (r:zo H xs ts) (r' :zo H ys us)
  (hb:eqL f ts us=some b) (hr:∀ x b,f x x=some b->b=true)
  (ih:∀ (x y:T) (b:Bool) (p q:V) (u w:Value),f x y=some b->Rep H p x->Rep H q y->zJ p u->zJ q w->EqN A.in1 s u w b):EqN A s (.ref a) (.ref c) b:=by
 obtain ⟨its,v,p,l,_⟩:=Z2 I ha r
 obtain ⟨its',v',p',l',_⟩:=Z2 I hc r'
 obtain ⟨e,he,hb'⟩:=Wk hb
 have hp:=Wl (A:=A.in1) r r' v v' he ih
 have z:((List.range (min its.toArray.size its'.toArray.size)).all e && its.toArray.size == its'.toArray.size)=b:=by
  rw [← hb']; simp [l,l']
 have R:=SeqAt.RcAt.tuples p p' hu hp
 have N:=SeqAt.RcNeAt.tuples p p' hu hp
 rw [z] at R
 have N' :SeqAt.RcNeAt A s (.ref a) (.ref c) (!b):=by
  rw [← z]; exact N
 refine ⟨?_,R,N'⟩
 by_cases hac:a=c
 ·subst hac
  rw [ha] at hc; cases hc
  have:=r.fn r'; subst this
  rw [Zi hr ts b hb]
  exact SeqAt.EqAt.same _
 ·exact SeqAt.EqAt.of_refs hac R
theorem jH {A:Around} {a c:Addr} {xs ys:List V} {ts us:List T} {b:Bool} {f:T->T->Option Bool} (I:L2.Inv X pins σ H s) (hu:A.units < cLine) (ha:Rd H a (.lst xs)) (hc:Rd H c (.lst ys)) (r:zo H xs ts) (r' :zo H ys us)
  (hb:eqL f ts us=some b) (hr:∀ x b,f x x=some b->b=true)
  (ih:∀ (x y:T) (b:Bool) (p q:V) (u w:Value),f x y=some b->Rep H p x->Rep H q y->zJ p u->zJ q w->EqN A.in1 s u w b):EqN A s (.ref a) (.ref c) b:=by
 obtain ⟨its,v,p,l,_⟩:=zv I ha r
 obtain ⟨its',v',p',l',_⟩:=zv I hc r'
 obtain ⟨e,he,hb'⟩:=Wk hb
 have hp:=Wl (A:=A.in1) r r' v v' he ih
 have RN:SeqAt.RcAt A s (.ref a) (.ref c) b/\SeqAt.RcNeAt A s (.ref a) (.ref c) (!b):=by
  by_cases hl:its.toArray.size=its'.toArray.size
  ·have z:(List.range its.toArray.size).all e=b:=by
    rw [← hb']
    have:ts.length=us.length:=by simp at hl; omega
    rw [this]
    have k:its.toArray.size=us.length:=by simp; omega
    rw [k]; simp
   have R:=SeqAt.RcAt.lists p p' hl hu hp
   have N:=SeqAt.RcNeAt.lists p p' hl hu hp
   rw [z] at R
   refine ⟨R, ?_⟩
   rw [← z]; exact N
  ·have hl' :(its.toArray.size != its'.toArray.size)=true:=by simpa using hl
   have z:b=false:=by
    rw [← hb']
    have:¬ ts.length=us.length:=by simp at hl; omega
    simp [this]
   subst z
   exact ⟨SeqAt.RcAt.lists_lengths p p' hl' hu,SeqAt.RcNeAt.lists_lengths p p' hl' hu⟩
 refine ⟨?_,RN.1,RN.2⟩
 by_cases hac:a=c
 ·subst hac
  have hxy:xs=ys:=by
   rcases ha with ha | ⟨o,ha⟩ <;> rcases hc with hc | ⟨o',hc⟩ <;> (rw [ha] at hc; cases hc) <;> rfl
  subst hxy
  have:=r.fn r'; subst this
  rw [Zi hr ts b hb]
  exact SeqAt.EqAt.same _
 ·exact SeqAt.EqAt.of_refs hac RN.1
end
section
variable {X:Cx} {pins:List (Addr×Obj)} {σ:Sg} {H:Hp} {s:Shared}
theorem Zv {A:Around}:A.in1.units=A.units+1:=rfl
set_option maxHeartbeats 2000000 in
theorem Wm (I:L2.Inv X pins σ H s):∀ (A:Around),A.units < cLine->∀ (x y:T) (b:Bool) (p q:V) (u w:Value),eqF 0 x y=some b->Rep H p x->Rep H q y->zJ p u->zJ q w->EqN A s u w b:=by
 intro A hu x y b p q u w h rp rq ru rw'
 have hu' :=hu
 cases rp with
 | non=>
  obtain rfl:u=Value.none:=ru
  cases rq with
  | non=>obtain rfl:w=Value.none:=rw'; unfold eqF at h; cases h; exact ⟨.same _, .none_none, .none_none⟩
  | bl c=>obtain rfl:w=Value.bool c:=rw'; unfold eqF at h; cases h; exact ⟨.none_bool _, .none_bool _, .none_bool _⟩
  | int c=>obtain ⟨t,rfl⟩:=rw'; unfold eqF at h; cases h; exact ⟨.none_int _ _, .none_int _ _, .none_int _ _⟩
  | str c=>obtain ⟨t,rfl⟩:=rw'; unfold eqF at h; cases h; exact ⟨.none_str _ _, .none_str _ _, .none_str _ _⟩
  | tup h1 r1=>obtain rfl:w=Value.ref _:=rw'; unfold eqF at h; cases h; obtain ⟨i,_,p,_⟩:=Z2 I h1 r1; exact ⟨.none_tuple p hu', .none_tuple p hu', .none_tuple p hu'⟩
  | lst h1 r1=>obtain rfl:w=Value.ref _:=rw'; unfold eqF at h; cases h; obtain ⟨i,_,p,_⟩:=zv I (.inl h1) r1; exact ⟨.none_list p hu', .none_list p hu', .none_list p hu'⟩
  | fz h1 r1=>obtain rfl:w=Value.ref _:=rw'; unfold eqF at h; cases h; obtain ⟨i,_,p,_⟩:=zv I (.inr ⟨_,h1⟩) r1; exact ⟨.none_list p hu', .none_list p hu', .none_list p hu'⟩
 | bl d=>
  obtain rfl:u=Value.bool d:=ru
  cases rq with
  | non=>obtain rfl:w=Value.none:=rw'; unfold eqF at h; cases h; exact ⟨.bool_none _, .bool_none _, .bool_none _⟩
  | bl c=>obtain rfl:w=Value.bool c:=rw'; unfold eqF at h; cases h; exact ⟨.bool_bool _ _, .bool_bool _ _, .bool_bool _ _⟩
  | int c=>obtain ⟨t,rfl⟩:=rw'; unfold eqF at h; cases h; exact ⟨.bool_int _ _ _, .bool_int _ _ _, .bool_int _ _ _⟩
  | str c=>obtain ⟨t,rfl⟩:=rw'; unfold eqF at h; cases h; exact ⟨.bool_str _ _ _, .bool_str _ _ _, .bool_str _ _ _⟩
  | tup h1 r1=>obtain rfl:w=Value.ref _:=rw'; unfold eqF at h; cases h; obtain ⟨i,_,p,_⟩:=Z2 I h1 r1; exact ⟨.bool_tuple _ p hu', .bool_tuple _ p hu', .bool_tuple _ p hu'⟩
  | lst h1 r1=>obtain rfl:w=Value.ref _:=rw'; unfold eqF at h; cases h; obtain ⟨i,_,p,_⟩:=zv I (.inl h1) r1; exact ⟨.bool_list _ p hu', .bool_list _ p hu', .bool_list _ p hu'⟩
  | fz h1 r1=>obtain rfl:w=Value.ref _:=rw'; unfold eqF at h; cases h; obtain ⟨i,_,p,_⟩:=zv I (.inr ⟨_,h1⟩) r1; exact ⟨.bool_list _ p hu', .bool_list _ p hu', .bool_list _ p hu'⟩
 | int d=>
  obtain ⟨t0,rfl⟩:=ru
  cases rq with
  | non=>obtain rfl:w=Value.none:=rw'; unfold eqF at h; cases h; exact ⟨.int_none _ _, .int_none _ _, .int_none _ _⟩
  | bl c=>obtain rfl:w=Value.bool c:=rw'; unfold eqF at h; cases h; exact ⟨.int_bool _ _ _, .int_bool _ _ _, .int_bool _ _ _⟩
  | int c=>obtain ⟨t,rfl⟩:=rw'; unfold eqF at h; cases h; exact ⟨.int_int _ _ _ _, .int_int _ _ _ _, .int_int _ _ _ _⟩
  | str c=>obtain ⟨t,rfl⟩:=rw'; unfold eqF at h; cases h; exact ⟨.int_str _ _ _ _, .int_str _ _ _ _, .int_str _ _ _ _⟩
  | tup h1 r1=>obtain rfl:w=Value.ref _:=rw'; unfold eqF at h; cases h; obtain ⟨i,_,p,_⟩:=Z2 I h1 r1; exact ⟨.int_tuple _ _ p hu', .int_tuple _ _ p hu', .int_tuple _ _ p hu'⟩
  | lst h1 r1=>obtain rfl:w=Value.ref _:=rw'; unfold eqF at h; cases h; obtain ⟨i,_,p,_⟩:=zv I (.inl h1) r1; exact ⟨.int_list _ _ p hu', .int_list _ _ p hu', .int_list _ _ p hu'⟩
  | fz h1 r1=>obtain rfl:w=Value.ref _:=rw'; unfold eqF at h; cases h; obtain ⟨i,_,p,_⟩:=zv I (.inr ⟨_,h1⟩) r1; exact ⟨.int_list _ _ p hu', .int_list _ _ p hu', .int_list _ _ p hu'⟩
 | str d=>
  obtain ⟨t0,rfl⟩:=ru
  cases rq with
  | non=>obtain rfl:w=Value.none:=rw'; unfold eqF at h; cases h; exact ⟨.str_none _ _, .str_none _ _, .str_none _ _⟩
  | bl c=>obtain rfl:w=Value.bool c:=rw'; unfold eqF at h; cases h; exact ⟨.str_bool _ _ _, .str_bool _ _ _, .str_bool _ _ _⟩
  | int c=>obtain ⟨t,rfl⟩:=rw'; unfold eqF at h; cases h; exact ⟨.str_int _ _ _ _, .str_int _ _ _ _, .str_int _ _ _ _⟩
  | str c=>obtain ⟨t,rfl⟩:=rw'; unfold eqF at h; cases h; exact ⟨.str_str _ _ _ _, .str_str _ _ _ _, .str_str _ _ _ _⟩
  | tup h1 r1=>obtain rfl:w=Value.ref _:=rw'; unfold eqF at h; cases h; obtain ⟨i,_,p,_⟩:=Z2 I h1 r1; exact ⟨.str_tuple _ _ p hu', .str_tuple _ _ p hu', .str_tuple _ _ p hu'⟩
  | lst h1 r1=>obtain rfl:w=Value.ref _:=rw'; unfold eqF at h; cases h; obtain ⟨i,_,p,_⟩:=zv I (.inl h1) r1; exact ⟨.str_list _ _ p hu', .str_list _ _ p hu', .str_list _ _ p hu'⟩
  | fz h1 r1=>obtain rfl:w=Value.ref _:=rw'; unfold eqF at h; cases h; obtain ⟨i,_,p,_⟩:=zv I (.inr ⟨_,h1⟩) r1; exact ⟨.str_list _ _ p hu', .str_list _ _ p hu', .str_list _ _ p hu'⟩
 | tup h0 r0=>
  obtain rfl:u=Value.ref _:=ru
  obtain ⟨i0,_,p0,_⟩:=Z2 I h0 r0
  cases rq with
  | non=>obtain rfl:w=Value.none:=rw'; unfold eqF at h; cases h; exact ⟨.tuple_none p0 hu', .tuple_none p0 hu', .tuple_none p0 hu'⟩
  | bl c=>obtain rfl:w=Value.bool c:=rw'; unfold eqF at h; cases h; exact ⟨.tuple_bool _ p0 hu', .tuple_bool _ p0 hu', .tuple_bool _ p0 hu'⟩
  | int c=>obtain ⟨t,rfl⟩:=rw'; unfold eqF at h; cases h; exact ⟨.tuple_int _ _ p0 hu', .tuple_int _ _ p0 hu', .tuple_int _ _ p0 hu'⟩
  | str c=>obtain ⟨t,rfl⟩:=rw'; unfold eqF at h; cases h; exact ⟨.tuple_str _ _ p0 hu', .tuple_str _ _ p0 hu', .tuple_str _ _ p0 hu'⟩
  | tup h1 r1=>unfold eqF at h; cases h
  | lst h1 r1=>obtain rfl:w=Value.ref _:=rw'; unfold eqF at h; cases h; obtain ⟨i,_,p,_⟩:=zv I (.inl h1) r1; exact ⟨.tuple_list p0 p hu', .tuple_list p0 p hu', .tuple_list p0 p hu'⟩
  | fz h1 r1=>obtain rfl:w=Value.ref _:=rw'; unfold eqF at h; cases h; obtain ⟨i,_,p,_⟩:=zv I (.inr ⟨_,h1⟩) r1; exact ⟨.tuple_list p0 p hu', .tuple_list p0 p hu', .tuple_list p0 p hu'⟩
 | lst h0 r0=>
  obtain rfl:u=Value.ref _:=ru
  obtain ⟨i0,_,p0,_⟩:=zv I (.inl h0) r0
  cases rq with
  | non=>obtain rfl:w=Value.none:=rw'; unfold eqF at h; cases h; exact ⟨.list_none p0 hu', .list_none p0 hu', .list_none p0 hu'⟩
  | bl c=>obtain rfl:w=Value.bool c:=rw'; unfold eqF at h; cases h; exact ⟨.list_bool _ p0 hu', .list_bool _ p0 hu', .list_bool _ p0 hu'⟩
  | int c=>obtain ⟨t,rfl⟩:=rw'; unfold eqF at h; cases h; exact ⟨.list_int _ _ p0 hu', .list_int _ _ p0 hu', .list_int _ _ p0 hu'⟩
  | str c=>obtain ⟨t,rfl⟩:=rw'; unfold eqF at h; cases h; exact ⟨.list_str _ _ p0 hu', .list_str _ _ p0 hu', .list_str _ _ p0 hu'⟩
  | tup h1 r1=>obtain rfl:w=Value.ref _:=rw'; unfold eqF at h; cases h; obtain ⟨i,_,p,_⟩:=Z2 I h1 r1; exact ⟨.list_tuple p0 p hu', .list_tuple p0 p hu', .list_tuple p0 p hu'⟩
  | lst h1 r1=>unfold eqF at h; cases h
  | fz h1 r1=>unfold eqF at h; cases h
 | fz h0 r0=>
  obtain rfl:u=Value.ref _:=ru
  obtain ⟨i0,_,p0,_⟩:=zv I (.inr ⟨_,h0⟩) r0
  cases rq with
  | non=>obtain rfl:w=Value.none:=rw'; unfold eqF at h; cases h; exact ⟨.list_none p0 hu', .list_none p0 hu', .list_none p0 hu'⟩
  | bl c=>obtain rfl:w=Value.bool c:=rw'; unfold eqF at h; cases h; exact ⟨.list_bool _ p0 hu', .list_bool _ p0 hu', .list_bool _ p0 hu'⟩
  | int c=>obtain ⟨t,rfl⟩:=rw'; unfold eqF at h; cases h; exact ⟨.list_int _ _ p0 hu', .list_int _ _ p0 hu', .list_int _ _ p0 hu'⟩
  | str c=>obtain ⟨t,rfl⟩:=rw'; unfold eqF at h; cases h; exact ⟨.list_str _ _ p0 hu', .list_str _ _ p0 hu', .list_str _ _ p0 hu'⟩
  | tup h1 r1=>obtain rfl:w=Value.ref _:=rw'; unfold eqF at h; cases h; obtain ⟨i,_,p,_⟩:=Z2 I h1 r1; exact ⟨.list_tuple p0 p hu', .list_tuple p0 p hu', .list_tuple p0 p hu'⟩
  | lst h1 r1=>unfold eqF at h; cases h
  | fz h1 r1=>unfold eqF at h; cases h
set_option maxHeartbeats 2000000 in
theorem Wn (I:L2.Inv X pins σ H s):∀ (n:Nat) (A:Around),A.units+n < cLine->∀ (x y:T) (b:Bool) (p q:V) (u w:Value),eqF n x y=some b->Rep H p x->Rep H q y->zJ p u->zJ q w->EqN A s u w b:=by
 intro n
 induction n with
 | zero=>exact fun A hu x y b p q u w h=>Wm I A (by omega) x y b p q u w h
 | succ n ih=>
  intro A hu x y b p q u w h rp rq ru rw'
  have low:eqF 0 x y=some b->EqN A s u w b:=fun h=>Wm I A (by omega) x y b p q u w h rp rq ru rw'
  have hu' :A.units < cLine:=by omega
  have ih' :=ih A.in1 (by rw [Zv]; omega)
  cases rp with
  | tup h0 r0=>
   cases rq with
   | tup h1 r1=>
    obtain rfl:u=Value.ref _:=ru
    obtain rfl:w=Value.ref _:=rw'
    unfold eqF at h
    exact UR I hu' h0 h1 r0 r1 h (zZ n) ih'
   | _=>exact low (by unfold eqF at h ⊢; exact h)
  | lst h0 r0=>
   cases rq with
   | lst h1 r1=>
    obtain rfl:u=Value.ref _:=ru
    obtain rfl:w=Value.ref _:=rw'
    unfold eqF at h
    exact jH I hu' (.inl h0) (.inl h1) r0 r1 h (zZ n) ih'
   | fz h1 r1=>
    obtain rfl:u=Value.ref _:=ru
    obtain rfl:w=Value.ref _:=rw'
    unfold eqF at h
    exact jH I hu' (.inl h0) (.inr ⟨_,h1⟩) r0 r1 h (zZ n) ih'
   | _=>exact low (by unfold eqF at h ⊢; exact h)
  | fz h0 r0=>
   cases rq with
   | lst h1 r1=>
    obtain rfl:u=Value.ref _:=ru
    obtain rfl:w=Value.ref _:=rw'
    unfold eqF at h
    exact jH I hu' (.inr ⟨_,h0⟩) (.inl h1) r0 r1 h (zZ n) ih'
   | fz h1 r1=>
    obtain rfl:u=Value.ref _:=ru
    obtain rfl:w=Value.ref _:=rw'
    unfold eqF at h
    exact jH I hu' (.inr ⟨_,h0⟩) (.inr ⟨_,h1⟩) r0 r1 h (zZ n) ih'
   | _=>exact low (by unfold eqF at h ⊢; exact h)
  | _=>exact low (by cases rq <;> (unfold eqF at h ⊢; exact h))
end
section
variable {X:Cx} {Y:Fx} {a b c d:Expr} {fa fb fc fd:En->R T} {pos:Pos}
def rG (Y:Fx) (g:T->T->R T):R2:=fun x y H Q=>∃ B t t',zi B H/\Rep B x t/\Rep B y t' /\Po Y rC B H (g t t') Q
def zd (g:T->T->R T) (fa fb:En->R T):En->R T:=fun ρ=>(fa ρ).bind fun x=>(fb ρ).bind fun y=>g x y
theorem Wo {op:Operator} {g:T->T->R T} (ho:OpR X (binaryOp op) (rG Y g)) (ha:Snd X Y a fa) (hb:Snd X Y b fb):Snd X Y (.BinOp a op b pos) (zd g fa fb):= .mk fun ρ=>
 PE.imp (QM ho (ha ρ) (hb ρ)) fun σ H Q ⟨B,I,q⟩=>step I q fun t v H1 _ s1 r1 I1 q1=>step I1 q1 fun t' v' H2 _ s2 r2 I2 q2=>
  ⟨_,t,t',I2.sB,r1.mono (zt.ge I1.sB s2),r2,q2⟩
theorem po0 {g:R T} {B H:Hp} {Q:VK} {t:T} {v:V} (sB:zi B H) (q:Po Y rC B H g Q) (e:g= .ok t) (r:Rep B v t):Q v H:=by
 subst e
 exact q v H (zi.refl H) (by show Rep (zt B H H) v t; rw [zt.self B H sB]; exact r)
theorem v5 {g:R T} {B H:Hp} {Q:VK} {ts:List T} {xs:List V} {p:Addr} (sB:zi B H) (q:Po Y rC B H g Q) (e:g= .ok (.tup ts)) (r:zo B xs ts) (h:H p=none):Q (.ref p) (upd H p (.tup xs)):=by
 subst e
 exact q _ _ (zi.new h _) (.tup (ZB h _) (r.mono (zt.ge sB (zi.new h _))))
theorem Vk {g:R T} {B H:Hp} {Q:VK} {ts:List T} {xs:List V} {p:Addr} (sB:zi B H) (q:Po Y rC B H g Q) (e:g= .ok (.lst ts)) (r:zo B xs ts) (h:H p=none):Q (.ref p) (upd H p (.lst xs)):=by
 subst e
 exact q _ _ (zi.new h _) (.lst (ZB h _) (r.mono (zt.ge sB (zi.new h _))))
def Zl:T->T->R T
 | .int i, .int j=> .ok (.int (i+j))
 | .bl x, .int j=> .ok (.int (b2 x+j))
 | .int i, .bl y=> .ok (.int (i+b2 y))
 | .str x, .str y=>if x.length+y.length<=bnd then .ok (.str (x++y)) else .bad
 | .tup xs, .tup ys=>if xs.length+ys.length<=bnd then .ok (.tup (xs++ys)) else .bad
 | .lst xs, .lst ys=>if xs.length+ys.length<=bnd then .ok (.lst (xs++ys)) else .bad
 | _,_=> .bad
theorem ut {prog:Program} {w:World} {A:Around} {E:Value->Shared->Prop} {s:Shared} {t b:Addr} {vs ws:List Value} {Q:Value->Shared->Prop} (ht:IsTup s.heap t vs.toArray) (hb:IsTup s.heap b ws.toArray) (hv:vs=[])
  (h1:Q (.ref b) s):wpAny (model prog w) A (binaryOp .Add (.ref t) (.ref b)) Q E s:=by
 obtain ⟨⟨cls,dd,data,sl⟩,ho,hc,n,hd⟩:=id ht
 obtain ⟨⟨cls2,dd2,data2,sl2⟩,ho2,hc2,n2,hd2⟩:=id hb
 simp only at hc hd hc2 hd2
 subst hc hd hc2 hd2
 exact concat_meets ⟨_,ho,rfl⟩ ⟨_,ho2,rfl⟩ noFill_tuple_add seq_tuple_add PySem.F.slot_tuple_add PySem.F.entry_tuple_add (PySem.F.args_tuple_add_2 _ _)
   (tuple_addW0 t b vs.toArray ws.toArray n n2 dd dd2 sl sl2 (by simp [hv])) ⟨ho,ho2,h1⟩
theorem US:OpR X (binaryOp .Add) (rG Y Zl):=by
 intro pins s σ H x y v u Q I rx ry h
 obtain ⟨B,t,t',sB,r,r',q⟩:=h
 cases r with
 | int i=>
  cases r' with
  | int j=>exact Yp pins s σ H _ _ v u Q I rx ry ⟨i,j,rfl,rfl,po0 sB q rfl (.int _)⟩
  | bl y=>exact Wa pins s σ H _ _ v u Q I rx ry ⟨i,y,rfl,rfl,po0 sB q rfl (.int _)⟩
  | _=>exact q.elim
 | bl x=>
  cases r' with
  | int j=>
   obtain rfl:v=Value.bool x:=rx
   obtain ⟨tk,rfl⟩:=ry
   exact IntBool.add_bool_int (⟨.int _,H,I.tok _,⟨_,rfl⟩,po0 sB q rfl (.int _)⟩)
  | _=>exact q.elim
 | str x=>
  cases r' with
  | str y=>
   by_cases hb:x.length+y.length<=bnd
   ·exact wB pins s σ H _ _ v u Q I rx ry ⟨x,y,rfl,rfl,zV hb,po0 sB q (if_pos hb) (.str _)⟩
   ·rw [show Zl (.str x) (.str y)= .bad from if_neg hb] at q; exact q.elim
  | _=>exact q.elim
 | @tup a xs ts h1 r1=>
  cases r' with
  | @tup a' ys us h2 r2=>
   by_cases hb:ts.length+us.length<=bnd
   ·have eg:Zl (.tup ts) (.tup us)= .ok (.tup (ts++us)):=if_pos hb
    have hz:xs.length+ys.length<=sizeLine:=by rw [r1.length,r2.length]; exact zV hb
    by_cases hx:xs=[]
    ·obtain rfl:v=Value.ref a:=rx
     obtain rfl:u=Value.ref a' :=ry
     obtain ⟨its,rv,p,_⟩:=I.tuple (SqT.of (sB _ _ h1))
     obtain ⟨its',rv',p',_⟩:=I.tuple (SqT.of (sB _ _ h2))
     have et:ts=[]:=r1.nil_iff.mp hx
     refine ut p p' (rv.nil_iff.mpr hx) ⟨.ref a',H,I,rfl,po0 sB q eg ?_⟩
     rw [et]; exact .tup h2 r2
    ·refine UJ pins s σ H _ _ v u Q I rx ry ⟨a,a',xs,ys,rfl,rfl,SqT.of (sB _ _ h1),SqT.of (sB _ _ h2),hx,hz,fun hy=> ?_,fun hy p hp=> ?_⟩
     ·refine po0 sB q eg ?_
      rw [r2.nil_iff.mp hy,List.append_nil]
      exact .tup h1 r1
     ·exact v5 sB q eg (r1.append r2) hp
   ·rw [show Zl (.tup ts) (.tup us)= .bad from if_neg hb] at q; exact q.elim
  | _=>exact q.elim
 | @lst a xs ts h1 r1=>
  cases r' with
  | @lst a' ys us h2 r2=>
   by_cases hb:ts.length+us.length<=bnd
   ·have eg:Zl (.lst ts) (.lst us)= .ok (.lst (ts++us)):=if_pos hb
    have hz:xs.length+ys.length<=sizeLine:=by rw [r1.length,r2.length]; exact zV hb
    exact YD pins s σ H _ _ v u Q I rx ry ⟨a,a',xs,ys,rfl,rfl,sB _ _ h1,sB _ _ h2,hz,fun p hp=>Vk sB q eg (r1.append r2) hp⟩
   ·rw [show Zl (.lst ts) (.lst us)= .bad from if_neg hb] at q; exact q.elim
  | _=>exact q.elim
 | _=>cases r' <;> exact q.elim
theorem v6 (ha:Snd X Y a fa) (hb:Snd X Y b fb):Snd X Y (.BinOp a .Add b pos) (zd Zl fa fb):=Wo US ha hb
def uu:T->T->R T
 | .int i, .int j=> .ok (.int (i - j))
 | _,_=> .bad
def ZP:T->T->R T
 | .int i, .int j=>if 0 < j then .ok (.int (i % j)) else .bad
 | _,_=> .bad
def JE:T->T->R T
 | .int i, .int j=>if 0 < j/\j < 1073741824 then .ok (.int (i / j)) else .bad
 | _,_=> .bad
instance (i j:Int):Decidable (jU i j):=by unfold jU; infer_instance
def Z3:T->T->R T
 | .int i, .int j=>if jU i j then .ok (.int (i*j)) else .bad
 | .lst xs, .int k=>if 0<=k/\k < 1000000/\xs.length*k.toNat<=bnd then .ok (.lst (List.replicate k.toNat xs).flatten) else .bad
 | .tup xs, .int k=>if 2<=k/\k < 1000000/\xs ≠ []/\xs.length*k.toNat<=bnd then .ok (.tup (List.replicate k.toNat xs).flatten) else .bad
 | _,_=> .bad
theorem UT:OpR X (binaryOp .Sub) (rG Y uu):=by
 intro pins s σ H x y v u Q I rx ry h
 obtain ⟨B,t,t',sB,r,r',q⟩:=h
 cases r with
 | int i=>
  cases r' with
  | int j=>exact Yq pins s σ H _ _ v u Q I rx ry ⟨i,j,rfl,rfl,po0 sB q rfl (.int _)⟩
  | _=>exact q.elim
 | _=>cases r' <;> exact q.elim
theorem UU:OpR X (binaryOp .Mod) (rG Y ZP):=by
 intro pins s σ H x y v u Q I rx ry h
 obtain ⟨B,t,t',sB,r,r',q⟩:=h
 cases r with
 | int i=>
  cases r' with
  | int j=>
   by_cases hj:0 < j
   ·exact Ys pins s σ H _ _ v u Q I rx ry ⟨i,j,rfl,rfl,hj,po0 sB q (if_pos hj) (.int _)⟩
   ·rw [show ZP (.int i) (.int j)= .bad from if_neg hj] at q; exact q.elim
  | _=>exact q.elim
 | _=>cases r' <;> exact q.elim
theorem uv:OpR X (binaryOp .FloorDiv) (rG Y JE):=by
 intro pins s σ H x y v u Q I rx ry h
 obtain ⟨B,t,t',sB,r,r',q⟩:=h
 cases r with
 | int i=>
  cases r' with
  | int j=>
   by_cases hj:0 < j/\j < 1073741824
   ·exact UC pins s σ H _ _ v u Q I rx ry ⟨i,j,rfl,rfl,hj,po0 sB q (if_pos hj) (.int _)⟩
   ·rw [show JE (.int i) (.int j)= .bad from if_neg hj] at q; exact q.elim
  | _=>exact q.elim
 | _=>cases r' <;> exact q.elim
theorem wF (l:Addr) (items:Array Value) (n:Nat) (dd:Option Addr) (sl:Array (Option Value)) (x:Int) (u:Tok) (h1:2<=x) (h2:x < 1000000) (hne:items.isEmpty=false) (hsz:items.size*x.toNat<=sizeLine):
  Meets (Builtin.«tuple.__mul__» ⟨[.ref l, .int x u],[]⟩) (fun _ R s=>s.heap.get? l=some { cls:= .type "tuple",dict:=dd,data:= .seq items n,slots:=sl }/\
   R (.ok (.ret (Value.ref s.heap.objs.size))) { s with heap:=s.heap.push { cls:=Value.type "tuple",data:=Data.seq (List.foldl (fun x1 x2=>x1++x2) #[] (List.replicate x.toNat items)) },toks:=s.toks }):=
 .of_wp fun prog w A R s h=>by
  obtain ⟨hp,g,d,tk,os⟩:=s; obtain ⟨hl,h⟩:=h
  have f1:=AutoSeq1.idx_int
  have e0:(items.size:Int)*x=((items.size*x.toNat:Nat):Int):=by
   have:x=((x.toNat:Nat):Int):=by omega
   rw [Int.natCast_mul,← this]
  have sl1:(sizeLine:Nat)=16777216:=sizeLine_eq
  have c1:¬ (decide (x < -(2 ^ 63)) || decide (x ≥ 2 ^ 63))=true:=by simp; omega
  have c2:¬ (items.isEmpty || x == 1)=true:=by simp [hne]; omega
  have c3:¬ (decide (x<=0) || items.isEmpty)=true:=by simp [hne]; omega
  have c4:¬ ((items.size:Int)*x > (2 ^ 63 - 1) / 8):=by rw [e0]; omega
  have c5:¬ Builtin.Tuple.tupleTooMany ((items.size:Int)*x)=true:=by
   unfold Builtin.Tuple.tupleTooMany
   rw [e0]
   intro z
   have:=of_decide_eq_true z
   omega
  unfold Builtin.«tuple.__mul__»
  wp_walk using wpAny_loadPart' hl
  rw [if_neg c1]
  wp_walk using wpAny_loadPart' hl
  rw [if_neg c2]
  try dsimp only
  rw [if_neg c3]
  try dsimp only
  rw [if_neg c4]
  try dsimp only
  rw [if_neg c5]
  try dsimp only
  have hsz' :sizeOk (.seq (List.foldl (fun x1 x2=>x1++x2) #[] (List.replicate x.toNat items))):=by
   show (List.foldl (fun x1 x2=>x1++x2) #[] (List.replicate x.toNat items)).size<=sizeLine
   have:=Zu items.toList x.toNat []
   rw [List.nil_append] at this
   have q:List.foldl (fun x1 x2=>x1++x2) #[] (List.replicate x.toNat items)=(List.replicate x.toNat items.toList).flatten.toArray:=by
    simpa using this
   rw [q,List.size_toArray,JA,Array.length_toList,Nat.mul_comm]
   exact hsz
  exact wpAny_bind (m:=Builtin.Tuple.tupleExact _) (wpAny_newObj_type (wpAny_pure ⟨_,rfl,h⟩) hsz')
theorem Jc:seqRepeat? (.type "tuple")=pure (some (.builtin "tuple.__mul__")):=by
 unfold seqRepeat?
 rw [PySem.seqSlot_of (T:="tuple") (name:="__mul__") (id:="tuple.__mul__") F.slot_tuple_mul.lookup (by decide+kernel),PySem.seqSlot_of (T:="tuple") (name:="__rmul__") (id:="tuple.__rmul__") F.slot_tuple_rmul.lookup (by decide+kernel)]
 rfl
theorem ZQ:fillsNumberSlot (.type "tuple") "mul"=pure false:=
 PySem.fillsNumberSlot_seq (id:="tuple.__mul__") (r:=some (.builtin "tuple.__rmul__")) F.slot_tuple_mul.lookup (by decide+kernel) F.slot_tuple_rmul.lookup (by decide+kernel)
theorem jf (a:Int) (t:Tok) (l:Addr) (items:Array Value) (n:Nat) (dd:Option Addr) (sl:Array (Option Value)):
  Meets (Builtin.«int.__rmul__» ⟨[.int a t, .ref l],[]⟩) (fun _ R s=>s.heap.get? l=some { cls:= .type "tuple",dict:=dd,data:= .seq items n,slots:=sl }/\R (.ok (.ret Value.notImplemented)) s):=
 .of_wp fun prog w A R s h=>by obtain ⟨hp,g,d,tk,os⟩:=s; obtain ⟨hl,h⟩:=h; wp_walk; exact ⟨_,rfl,h⟩
theorem UV {prog:Program} {w:World} {A:Around} {E:Value->Shared->Prop} {s:Shared} {l:Addr} {its:List Value} {k:Int} {t:Tok} {Q:Value->Shared->Prop} (p:IsTup s.heap l its.toArray) (hne:its ≠ []) (h1:2<=k) (h2:k < 1000000)
  (hsz:its.length*k.toNat<=sizeLine) (q:Q (.ref s.heap.objs.size) { s with heap:=s.heap.push { cls:= .type "tuple",data:= .seq (List.replicate k.toNat its).flatten.toArray } }):
  wpAny (model prog w) A (binaryOp .Mult (.ref l) (.int k t)) Q E s:=by
 obtain ⟨⟨cls,dd,data,sl⟩,ho,hc,n,hd⟩:=id p
 simp only at hc hd
 subst hc hd
 refine wpAny_binaryOp_repeat_ref (T:="tuple") (U:="int") (by decide) ⟨_,ho,rfl⟩ (fun s' =>typeIs_int s' k t) ZQ F.fills_int_mul F.slot_int_rmul Jc F.slot_int_index.lookup
  (call_meets F.slot_int_rmul (typeIs_int s k t) F.entry_int_rmul (F.args_int_rmul_2 _ _) (jf k t l its.toArray n dd sl)
   ⟨ho,rfl,⟨_,ho,rfl⟩,call_meets F.slot_tuple_mul ⟨_,ho,rfl⟩ F.entry_tuple_mul (F.args_tuple_mul_2 _ _) (wF l its.toArray n dd sl k t h1 h2 (by simpa using hne) (by simpa using hsz)) ⟨ho, ?_⟩⟩)
 have:=Zu its k.toNat []
 rw [List.nil_append] at this
 rw [this]
 exact q
theorem UW:OpR X (binaryOp .Mult) (rG Y Z3):=by
 intro pins s σ H x y v u Q I rx ry h
 obtain ⟨B,t,t',sB,r,r',q⟩:=h
 cases r with
 | int i=>
  cases r' with
  | int j=>
   by_cases hj:jU i j
   ·exact Yr pins s σ H _ _ v u Q I rx ry ⟨i,j,rfl,rfl,hj,po0 sB q (if_pos hj) (.int _)⟩
   ·rw [show Z3 (.int i) (.int j)= .bad from if_neg hj] at q; exact q.elim
  | _=>exact q.elim
 | @lst l xs ts h1 r1=>
  cases r' with
  | int k=>
   by_cases hk:0<=k/\k < 1000000/\ts.length*k.toNat<=bnd
   ·have eg:Z3 (.lst ts) (.int k)= .ok (.lst (List.replicate k.toNat ts).flatten):=if_pos hk
    exact YE pins s σ H _ _ v u Q I rx ry ⟨l,k,xs,rfl,rfl,sB _ _ h1,by omega,by omega,by rw [r1.length]; exact zV hk.2.2,fun p hp=>Vk sB q eg (r1.rep _) hp⟩
   ·rw [show Z3 (.lst ts) (.int k)= .bad from if_neg hk] at q; exact q.elim
  | _=>exact q.elim
 | @tup l xs ts h1 r1=>
  cases r' with
  | int k=>
   by_cases hk:2<=k/\k < 1000000/\ts ≠ []/\ts.length*k.toNat<=bnd
   ·have eg:Z3 (.tup ts) (.int k)= .ok (.tup (List.replicate k.toNat ts).flatten):=if_pos hk
    obtain rfl:v=Value.ref l:=rx
    obtain ⟨tk,rfl⟩:=ry
    obtain ⟨its,rv,p,_⟩:=I.tuple (SqT.of (sB _ _ h1))
    have ln:ts.length=its.length:=r1.length.symm.trans rv.length
    have hne:its ≠ []:=fun z=>hk.2.2.1 (by rw [z] at ln; exact List.length_eq_zero_iff.mp ln)
    refine UV p hne hk.1 hk.2.1 (by rw [← ln]; exact zV hk.2.2.2) ⟨.ref s.heap.objs.size,upd H s.heap.objs.size (.tup (List.replicate k.toNat xs).flatten),I.laid (t' :=s.toks) (fun b u e=>Heap.get?_push_of_some _ e) (Nat.le_refl _) ?_,rfl, ?_⟩
    ·exact ⟨by rw [JA,r1.length,Nat.mul_comm]; exact zV hk.2.2.2,(List.replicate k.toNat its).flatten,rv.rep _,⟨_,Heap.get?_push_size _ rfl,rfl,_,rfl⟩, .inr ⟨_,Heap.get?_push_size _ rfl,rfl⟩⟩
    ·exact v5 sB q eg (r1.rep _) (I.hok.fresh (Nat.le_refl _))
   ·rw [show Z3 (.tup ts) (.int k)= .bad from if_neg hk] at q; exact q.elim
  | _=>exact q.elim
 | _=>cases r' <;> exact q.elim
theorem v7 (ha:Snd X Y a fa) (hb:Snd X Y b fb):Snd X Y (.BinOp a .Sub b pos) (zd uu fa fb):=Wo UT ha hb
theorem v8 (ha:Snd X Y a fa) (hb:Snd X Y b fb):Snd X Y (.BinOp a .Mod b pos) (zd ZP fa fb):=Wo UU ha hb
theorem YK (ha:Snd X Y a fa) (hb:Snd X Y b fb):Snd X Y (.BinOp a .FloorDiv b pos) (zd JE fa fb):=Wo uv ha hb
theorem v9 (ha:Snd X Y a fa) (hb:Snd X Y b fb):Snd X Y (.BinOp a .Mult b pos) (zd Z3 fa fb):=Wo UW ha hb
def UX (fa:En->R T):En->R T:=fun ρ=>(fa ρ).bind fun x=>match x with
 | .int i=> .ok (.int (-i))
 | _=> .bad
theorem va (ha:Snd X Y a fa):Snd X Y (.UnaryOp .USub a pos) (UX fa):= .mk fun ρ=>PE.imp (QN Yt (ha ρ)) fun σ H Q ⟨B,I,q⟩=>step I q fun t v H1 _ s1 r1 I1 q1=>by
 cases r1 with
 | int i=>exact ⟨i,rfl,po0 I1.sB q1 rfl (.int _)⟩
 | _=>exact q1.elim
def Jt (g:T->T->R Bool):R2:=fun x y H Q=>∃ t t' b,Rep H x t/\Rep H y t' /\g t t' = .ok b/\Q (.bl b) H
def jd (g:T->T->R Bool) (fa fb:En->R T):En->R T:=fun ρ=>(fa ρ).bind fun x=>(fb ρ).bind fun y=>(g x y).bind fun b=> .ok (.bl b)
def zX (g:T->T->R Bool) (fa fb:En->R T):En->R Bool:=fun ρ=>(fa ρ).bind fun x=>(fb ρ).bind fun y=>g x y
def Nx (g:T->T->R Bool):Prop:=∀ t t' c,g t t' ≠ .ex c
theorem YL {op:CmpOp} {g:T->T->R Bool} (nx:Nx g) (ho:OpR X (compareOp op) (Jt g)) (ha:Zn X Y a fa) (hb:Zn X Y b fb) (hm:behindInMarks op b=false):Snd X Y (.Compare a [op] [b] pos) (jd g fa fb):= .mk fun ρ=>
 PE.imp (UD ho (ha ρ) (hb ρ) hm) fun σ H Q ⟨B,I,q⟩=>step I q fun t v H1 _ s1 r1 I1 q1=>step I1 q1 fun t' v' H2 _ s2 r2 I2 q2=>by
  cases e:g t t' with
  | bad=>rw [e] at q2; exact q2.elim
  | ex c=>exact absurd e (nx _ _ _)
  | ok b=>rw [e] at q2; exact ⟨t,t',b,r1.mono s2,r2,e,Z6 I2 q2 (.bl b)⟩
theorem Wp {op:CmpOp} {g:T->T->R Bool} (nx:Nx g) (ho:OpR X (compareOp op) (Jt g)) (ha:Zn X Y a fa) (hb:Zn X Y b fb) (hm:behindInMarks op b=false):w9 X Y (.Compare a [op] [b] pos) (zX g fa fb):= .mk fun ρ=>
 PT.imp (UE ho (ha ρ) (hb ρ) hm) fun σ H Q ⟨B,I,q⟩=>step I q fun t v H1 _ s1 r1 I1 q1=>step I1 q1 fun t' v' H2 _ s2 r2 I2 q2=>by
  cases e:g t t' with
  | bad=>rw [e] at q2; exact q2.elim
  | ex c=>exact absurd e (nx _ _ _)
  | ok b=>rw [e] at q2; exact ⟨t,t',b,r1.mono s2,r2,e,b,rfl,Z6 I2 q2 rfl⟩
def eqC (t t' :T):R Bool:=match eqF 30 t t' with
 | some b=> .ok b
 | none=> .bad
def neC (t t' :T):R Bool:=match eqF 30 t t' with
 | some b=> .ok (!b)
 | none=> .bad
theorem YM:Nx eqC:=fun t t' c h=>by unfold eqC at h; split at h <;> cases h
theorem vb:Nx neC:=fun t t' c h=>by unfold neC at h; split at h <;> cases h
theorem Ue (hu:X.A.units+64 < cLine):OpR X (compareOp .Eq) (Jt eqC):=by
 intro pins s σ H x y v u Q I rx ry h
 obtain ⟨t,t',b,r,r',e,q⟩:=h
 unfold eqC at e
 split at e
 ·rename_i k ek
  have e' :k=b:=by injection e
  subst e'
  exact (Wn I 30 X.A (by omega) t t' k x y v u ek r r' rx ry).2.1 _ _ _ _ ⟨.bl k,H,I,rfl,q⟩
 ·cases e
theorem YN (hu:X.A.units+64 < cLine):OpR X (compareOp .NotEq) (Jt neC):=by
 intro pins s σ H x y v u Q I rx ry h
 obtain ⟨t,t',b,r,r',e,q⟩:=h
 unfold neC at e
 split at e
 ·rename_i k ek
  cases e
  exact (Wn I 30 X.A (by omega) t t' k x y v u ek r r' rx ry).2.2 _ _ _ _ ⟨.bl (!k),H,I,rfl,q⟩
 ·cases e
def ltC:T->T->R Bool
 | .int i, .int j=> .ok (decide (i < j))
 | _,_=> .bad
def leC:T->T->R Bool
 | .int i, .int j=> .ok (decide (i<=j))
 | .str x, .str y=> .ok (!decide (y.cps.toList < x.cps.toList))
 | _,_=> .bad
def gtC:T->T->R Bool
 | .int i, .int j=> .ok (decide (j < i))
 | _,_=> .bad
theorem vc:Nx ltC:=fun t t' c h=>by unfold ltC at h; split at h <;> cases h
theorem Jd:Nx leC:=fun t t' c h=>by unfold leC at h; split at h <;> cases h
theorem vd:Nx gtC:=fun t t' c h=>by unfold gtC at h; split at h <;> cases h
theorem YO:OpR X (compareOp .Lt) (Jt ltC):=by
 intro pins s σ H x y v u Q I rx ry h
 obtain ⟨t,t',b,r,r',e,q⟩:=h
 unfold ltC at e
 split at e
 ·rename_i i j; cases e; cases r; cases r'; exact QP pins s σ H _ _ v u Q I rx ry ⟨i,j,rfl,rfl,q⟩
 ·cases e
theorem YQ:OpR X (compareOp .Gt) (Jt gtC):=by
 intro pins s σ H x y v u Q I rx ry h
 obtain ⟨t,t',b,r,r',e,q⟩:=h
 unfold gtC at e
 split at e
 ·rename_i i j; cases e; cases r; cases r'; exact QR pins s σ H _ _ v u Q I rx ry ⟨i,j,rfl,rfl,q⟩
 ·cases e
theorem ZN:OpR X (compareOp .LtE) (Jt leC):=by
 intro pins s σ H x y v u Q I rx ry h
 obtain ⟨t,t',b,r,r',e,q⟩:=h
 unfold leC at e
 split at e
 ·rename_i i j; cases e; cases r; cases r'; exact QQ pins s σ H _ _ v u Q I rx ry ⟨i,j,rfl,rfl,q⟩
 ·rename_i i j; cases e; cases r; cases r'
  obtain ⟨t1,rfl⟩:=rx
  obtain ⟨t2,rfl⟩:=ry
  exact PySem.P.le_str ⟨.bl _,H,I,rfl,q⟩
 ·cases e
end
section
variable {X:Cx} {Y:Fx} {a b c d:Expr} {fa fb fc fd:En->R T} {pos:Pos}
def Y2 (f:T->Option Bool):List T->Option Bool
 | []=>some false
 | t :: r=>match f t with
  | none=>none
  | some b=>match Y2 f r with
   | none=>none
   | some c=>some (b || c)
def inC (t t' :T):R Bool:=match t' with
 | .tup ys=>match Y2 (fun y=>eqF 30 y t) ys with | some b=> .ok b | none=> .bad
 | .lst ys=>match Y2 (fun y=>eqF 30 y t) ys with | some b=> .ok b | none=> .bad
 | _=> .bad
def ve (t t' :T):R Bool:=(inC t t').bind fun b=> .ok (!b)
theorem YR:Nx inC:=fun t t' c h=>by
 unfold inC at h
 split at h
 ·split at h <;> cases h
 ·split at h <;> cases h
 ·cases h
open Classical in
theorem JF {H:Hp} (f:T->Option Bool):∃ e:Value->Bool,∀ (v:V) (t:T) (u:Value) (b:Bool),zJ v u->Rep H v t->f t=some b->e u=b:=by
 refine ⟨fun u=>decide (∃ v t,zJ v u/\Rep H v t/\f t=some true),fun v t u b rv r e=> ?_⟩
 cases b with
 | true=>exact decide_eq_true ⟨v,t,rv,r,e⟩
 | false=>
  refine decide_eq_false ?_
  rintro ⟨v',t',rv',r',e'⟩
  have:=rv.inj rv'; subst this
  have:=r.fn r'; subst this
  rw [e] at e'; cases e'
theorem Wq {H:Hp} {f:T->Option Bool} {e:Value->Bool} (he:∀ (v:V) (t:T) (u:Value) (b:Bool),zJ v u->Rep H v t->f t=some b->e u=b):∀ {xs:List V} {ts:List T} {its:List Value} {b:Bool},
  zE xs its->zo H xs ts->Y2 f ts=some b->its.any e=b/\∀ u∈its,∃ v t k,zJ v u/\Rep H v t/\f t=some k
 | _,_,_,b, .nil, .nil,h=>by
  have h' :some false=some b:=h
  cases h'
  exact ⟨rfl,fun u hu=>by simp at hu⟩
 | _,_,_,b, .cons rv vs, .cons r rs,h=>by
  rename_i v u vals us t ts
  unfold Y2 at h
  cases q:f t with
  | none=>rw [q] at h; cases h
  | some k=>
   rw [q] at h
   cases q' :Y2 f ts with
   | none=>rw [q'] at h; cases h
   | some k' =>
    rw [q'] at h
    cases h
    obtain ⟨h1,h2⟩:=Wq he vs rs q'
    refine ⟨by rw [List.any_cons,h1,he v t u k rv r q],fun w hw=> ?_⟩
    rcases List.mem_cons.mp hw with rfl | hw
    ·exact ⟨v,t,k,rv,r,q⟩
    ·exact h2 w hw
theorem UY (hu:X.A.units+64 < cLine) (neg:Bool):OpR X (compareOp (if neg then .NotIn else .In)) (Jt (if neg then ve else inC)):=by
 intro pins s σ H x y v u Q I rx ry h
 obtain ⟨t,t',b,r,r',e,q⟩:=h
 have hs:∃ k,inC t t' = .ok k/\b=(if neg then !k else k):=by
  cases neg with
  | false=>exact ⟨b,e,rfl⟩
  | true=>
   have e' :ve t t' = .ok b:=e
   unfold ve at e'
   cases z:inC t t' with
   | bad=>rw [z] at e'; cases e'
   | ex k=>exact absurd z (YR _ _ _)
   | ok k=>rw [z] at e'; cases e'; exact ⟨k,rfl,rfl⟩
 obtain ⟨k,ek,rfl⟩:=hs
 unfold inC at ek
 obtain ⟨f,hf⟩:=JF (H:=H) fun y=>eqF 30 y t
 have eqa:∀ w,(∃ v t' k,zJ v w/\Rep H v t' /\eqF 30 t' t=some k)->SeqAt.EqAt X.A.in1 s w v (f w):=fun w ⟨v',t',k,rv,rr,ee⟩=>by
  rw [hf v' t' w k rv rr ee]
  exact (Wn I 30 X.A.in1 (by rw [Zv]; omega) t' t k v' x w v ee rr r rv rx).1
 split at ek
 ·rename_i ys
  split at ek
  ·rename_i k' hk
   cases ek
   cases r' with
   | @tup l xs _ h1 r1=>
    obtain rfl:u=Value.ref l:=ry
    obtain ⟨its,rv,p,_⟩:=Z2 I h1 r1
    obtain ⟨h2,h3⟩:=Wq hf rv r1 hk
    have h4:its.toArray.any f=k:=by simpa using h2
    cases neg with
    | false=>exact SeqAt.in_tupleAt f p (fun w hw=>eqa w (h3 w (by simpa using hw))) (by rw [h4]; exact ⟨.bl k,H,I,rfl,q⟩)
    | true=>exact SeqAt.notIn_tupleAt f p (fun w hw=>eqa w (h3 w (by simpa using hw))) (by rw [h4]; exact ⟨.bl (!k),H,I,rfl,q⟩)
  ·cases ek
 ·rename_i ys
  split at ek
  ·rename_i k' hk
   cases ek
   cases r' with
   | @lst l xs _ h1 r1=>
    obtain rfl:u=Value.ref l:=ry
    obtain ⟨its,rv,p,_⟩:=zv I (.inl h1) r1
    obtain ⟨h2,h3⟩:=Wq hf rv r1 hk
    have h4:its.toArray.any f=k:=by simpa using h2
    cases neg with
    | false=>exact SeqAt.in_listAt f p (fun w hw=>eqa w (h3 w (by simpa using hw))) (by rw [h4]; exact ⟨.bl k,H,I,rfl,q⟩)
    | true=>exact SeqAt.notIn_listAt f p (fun w hw=>eqa w (h3 w (by simpa using hw))) (by rw [h4]; exact ⟨.bl (!k),H,I,rfl,q⟩)
  ·cases ek
 ·cases ek
theorem YS (hu:X.A.units+64 < cLine):OpR X (compareOp .In) (Jt inC):=UY hu false
def isNC (t t' :T):R Bool:=match t' with
 | .non=>match t with | .non=> .ok true | _=> .ok false
 | .bl k=>match t with | .bl j=> .ok (j == k) | _=> .ok false
 | _=> .bad
def chE (g g' :T->T->R Bool) (fa fb fc:En->R T):En->R T:=fun ρ=>(fa ρ).bind fun x=>(fb ρ).bind fun y=>(g x y).bind fun k=>if k=true then (fc ρ).bind fun z=>(g' y z).bind fun k' => .ok (.bl k') else .ok (.bl false)
def chT (g g' :T->T->R Bool) (fa fb fc:En->R T):En->R Bool:=fun ρ=>(fa ρ).bind fun x=>(fb ρ).bind fun y=>(g x y).bind fun k=>if k=true then (fc ρ).bind fun z=>g' y z else .ok false
theorem UZ {op op' :CmpOp} {g g' :T->T->R Bool} (nx:Nx g) (nx' :Nx g') (ho:OpR X (compareOp op) (Jt g)) (ho' :OpR X (compareOp op') (Jt g')) (ha:Zn X Y a fa) (hb:Zn X Y b fb) (hc:Zn X Y c fc)
  (hm:lastMarks [op,op'] [b,c]=false:=by with_unfolding_all rfl):Snd X Y (.Compare a [op,op'] [b,c] pos) (chE g g' fa fb fc):= .mk fun ρ=>
 PE.imp (um ho ho' (ha ρ) (hb ρ) (hc ρ) hm) fun σ H Q ⟨B,I,q⟩=>step I q fun t v H1 _ s1 r1 I1 q1=>step I1 q1 fun t' v' H2 _ s2 r2 I2 q2=>by
  cases e:g t t' with
  | bad=>rw [e] at q2; exact q2.elim
  | ex c=>exact absurd e (nx _ _ _)
  | ok k=>
   rw [e] at q2
   refine ⟨t,t',k,r1.mono s2,r2,e,k,rfl, ?_⟩
   cases k with
   | false=>exact Z6 I2 q2 (.bl false)
   | true=>
    refine step I2 q2 fun t3 v3 H3 _ s3 r3 I3 q3=> ?_
    ·cases e:g' t' t3 with
     | bad=>rw [e] at q3; exact q3.elim
     | ex c=>exact absurd e (nx' _ _ _)
     | ok k=>rw [e] at q3; exact ⟨t',t3,k,r2.mono s3,r3,e,Z6 I3 q3 (.bl k)⟩
theorem y4 {op op' :CmpOp} {g g' :T->T->R Bool} (nx:Nx g) (nx' :Nx g') (ho:OpR X (compareOp op) (Jt g)) (ho' :OpR X (compareOp op') (Jt g')) (ha:Zn X Y a fa) (hb:Zn X Y b fb) (hc:Zn X Y c fc)
  (hm:lastMarks [op,op'] [b,c]=false:=by with_unfolding_all rfl):w9 X Y (.Compare a [op,op'] [b,c] pos) (chT g g' fa fb fc):= .mk fun ρ=>
 PT.imp (uo ho ho' (ha ρ) (hb ρ) (hc ρ) hm) fun σ H Q ⟨B,I,q⟩=>step I q fun t v H1 _ s1 r1 I1 q1=>step I1 q1 fun t' v' H2 _ s2 r2 I2 q2=>by
  cases e:g t t' with
  | bad=>rw [e] at q2; exact q2.elim
  | ex c=>exact absurd e (nx _ _ _)
  | ok k=>
   rw [e] at q2
   refine ⟨t,t',k,r1.mono s2,r2,e,k,rfl, ?_⟩
   cases k with
   | false=>exact ⟨false,rfl,Z6 I2 q2 rfl⟩
   | true=>
    refine step I2 q2 fun t3 v3 H3 _ s3 r3 I3 q3=> ?_
    ·cases e:g' t' t3 with
     | bad=>rw [e] at q3; exact q3.elim
     | ex c=>exact absurd e (nx' _ _ _)
     | ok k=>rw [e] at q3; exact ⟨t',t3,k,r2.mono s3,r3,e,k,rfl,Z6 I3 q3 rfl⟩
def y6 (r r' r'' :R2) (ta tb tc td:TE):TE:=fun σ H Q=>ta σ H fun x H1=>tb σ H1 fun y H2=>r x y H2 fun z H3=>∃ k,z= .bl k/\
 (if k=true then tc σ H3 fun w' H4=>r' y w' H4 fun z' H5=>∃ k',z' = .bl k' /\(if k' =true then td σ H5 fun w2 H6=>r'' w' w2 H6 Q else Q (.bl false) H5) else Q (.bl false) H3)
theorem Wr {op op' op'' :CmpOp} {r r' r'' :R2} {ta tb tc td:TE} (ho:OpR X (compareOp op) r) (ho' :OpR X (compareOp op') r') (ho'' :OpR X (compareOp op'') r'') (ha:PE X a ta) (hb:PE X b tb) (hc:PE X c tc) (hd:PE X d td)
  (hm:lastMarks [op,op',op''] [b,c,d]=false:=by with_unfolding_all rfl):PE X (.Compare a [op,op',op''] [b,c,d] pos) (y6 r r' r'' ta tb tc td):=by
 intro pins s σ H Q I h
 refine Compare_chain (thn (ha pins s σ H _ I h) fun v s1 ⟨x,H1,I1,r1,q1⟩=>chain_link (thn (hb pins s1 σ H1 _ I1 q1) fun u s2 ⟨y,H2,I2,r2,q2⟩=>
  thn (ho pins s2 σ H2 x y v u _ I2 r1 r2 q2) fun d' s3 ⟨z,H3,I3,r3,k,e,q3⟩=> ?_)) hm
 subst e
 cases r3
 refine wpAny_truthy_bool ?_
 cases k with
 | false=>exact ite_ff ⟨.bl false,H3,I3,rfl,q3⟩
 | true=>
  refine ite_tt (chain_link (thn (hc pins s3 σ H3 _ I3 q3) fun w' s4 ⟨z',H4,I4,r4,q4⟩=>thn (ho' pins s4 σ H4 y z' u w' _ I4 r2 r4 q4) fun d2 s5 ⟨z5,H5,I5,r5,k5,e5,q5⟩=> ?_))
  subst e5
  cases r5
  refine wpAny_truthy_bool ?_
  cases k5 with
  | false=>exact ite_ff ⟨.bl false,H5,I5,rfl,q5⟩
  | true=>exact ite_tt (chain_last (thn (hd pins s5 σ H5 _ I5 q5) fun w6 s6 ⟨z6,H6,I6,r6,q6⟩=>ho'' pins s6 σ H6 z' z6 w' w6 Q I6 r4 r6 q6))
def Vl (g g' g'' :T->T->R Bool) (fa fb fc fd:En->R T):En->R T:=fun ρ=>(fa ρ).bind fun x=>(fb ρ).bind fun y=>(g x y).bind fun k=>if k=true then (fc ρ).bind fun z=>(g' y z).bind fun k' =>
 if k' =true then (fd ρ).bind fun w=>(g'' z w).bind fun k'' => .ok (.bl k'') else .ok (.bl false) else .ok (.bl false)
theorem uw {op op' op'' :CmpOp} {g g' g'' :T->T->R Bool} (nx:Nx g) (nx' :Nx g') (nx'' :Nx g'') (ho:OpR X (compareOp op) (Jt g)) (ho' :OpR X (compareOp op') (Jt g')) (ho'' :OpR X (compareOp op'') (Jt g''))
  (ha:Zn X Y a fa) (hb:Zn X Y b fb) (hc:Zn X Y c fc) (hd:Zn X Y d fd)
  (hm:lastMarks [op,op',op''] [b,c,d]=false:=by with_unfolding_all rfl):Snd X Y (.Compare a [op,op',op''] [b,c,d] pos) (Vl g g' g'' fa fb fc fd):= .mk fun ρ=>
 PE.imp (Wr ho ho' ho'' (ha ρ) (hb ρ) (hc ρ) (hd ρ) hm) fun σ H Q ⟨B,I,q⟩=>step I q fun t v H1 _ s1 r1 I1 q1=>step I1 q1 fun t' v' H2 _ s2 r2 I2 q2=>by
  cases e:g t t' with
  | bad=>rw [e] at q2; exact q2.elim
  | ex c=>exact absurd e (nx _ _ _)
  | ok k=>
   rw [e] at q2
   refine ⟨t,t',k,r1.mono s2,r2,e,k,rfl, ?_⟩
   cases k with
   | false=>exact Z6 I2 q2 (.bl false)
   | true=>
    refine step I2 q2 fun t3 v3 H3 _ s3 r3 I3 q3=> ?_
    ·cases e:g' t' t3 with
     | bad=>rw [e] at q3; exact q3.elim
     | ex c=>exact absurd e (nx' _ _ _)
     | ok k=>
      rw [e] at q3
      refine ⟨t',t3,k,r2.mono s3,r3,e,k,rfl, ?_⟩
      cases k with
      | false=>exact Z6 I3 q3 (.bl false)
      | true=>
       refine step I3 q3 fun t4 v4 H4 _ s4 r4 I4 q4=> ?_
       ·cases e:g'' t3 t4 with
        | bad=>rw [e] at q4; exact q4.elim
        | ex c=>exact absurd e (nx'' _ _ _)
        | ok k=>rw [e] at q4; exact ⟨t3,t4,k,r3.mono s4,r4,e,Z6 I4 q4 (.bl k)⟩
variable {rest:List Expr} {ga gb:En->R Bool}
def Zt (fa fb:En->R T):En->R T:=fun ρ=>(fa ρ).bind fun x=>match x with
 | .bl true=>fb ρ
 | .bl false=> .ok (.bl false)
 | _=> .bad
def Vm (fa:En->R T):En->R T:=fun ρ=>(fa ρ).bind fun x=>match x with
 | .bl k=> .ok (.bl (!k))
 | _=> .bad
theorem vf {op} (h:Snd X Y a fa):Snd X Y (.BoolOp op [a] pos) fa:= .mk fun ρ=>Yj (h ρ)
theorem vg (ha:Snd X Y a fa) (hb:Snd X Y (.BoolOp .And (b :: rest) pos) fb):Snd X Y (.BoolOp .And (a :: b :: rest) pos) (Zt fa fb):= .mk fun ρ=>
 PE.imp (Yk (ha ρ) (hb ρ)) fun σ H Q ⟨B,I,q⟩=>step I q fun t v H1 _ s1 r1 I1 q1=>by
  cases r1 with
  | bl k=>
   refine ⟨k,rfl, ?_⟩
   cases k with
   | true=>exact ⟨_,I1,q1⟩
   | false=>exact Z6 I1 q1 (.bl false)
  | _=>exact q1.elim
theorem vh (ha:Snd X Y a fa):Snd X Y (.UnaryOp .Not a pos) (Vm fa):= .mk fun ρ=>
 PE.imp (Yl (ha ρ)) fun σ H Q ⟨B,I,q⟩=>step I q fun t v H1 _ s1 r1 I1 q1=>by
  cases r1 with
  | bl k=>exact ⟨k,rfl,Z6 I1 q1 (.bl (!k))⟩
  | _=>exact q1.elim
structure ux (X:Cx) (Y:Fx) (e:Expr) (f:En->R Bool):Prop where
 mk ::
 go:∀ ρ,PW X e (tS Y rE f ρ)
instance {X:Cx} {Y:Fx} {e:Expr} {f:En->R Bool}:CoeFun (ux X Y e f) fun _=>∀ ρ,PW X e (tS Y rE f ρ):=⟨ux.go⟩
theorem ux.t {e:Expr} {f:En->R Bool} (h:ux X Y e f):w9 X Y e f:= .mk fun ρ=>(h ρ).pt
theorem PW.imp {e:Expr} {t t' :TT} (h:PW X e t) (i:∀ σ H Q,t' σ H Q->t σ H Q):PW X e t' :=fun wh pins s σ H Q I q=>h wh pins s σ H Q I (i σ H Q q)
def orT (fa fb:En->R Bool):En->R Bool:=fun ρ=>(fa ρ).bind fun x=>if x=true then .ok true else fb ρ
def wW (fa:En->R Bool):En->R Bool:=fun ρ=>(fa ρ).bind fun x=> .ok (!x)
theorem vi (h:w9 X Y a ga):ux X Y (.BoolOp .Or [a] pos) ga:= .mk fun ρ=>Yh (h ρ)
theorem xO (ha:w9 X Y a ga) (hb:ux X Y (.BoolOp .Or (b :: rest) pos) gb):ux X Y (.BoolOp .Or (a :: b :: rest) pos) (orT ga gb):= .mk fun ρ=>
 PW.imp (QB (ha ρ) (hb ρ)) fun σ H Q ⟨B,I,q⟩=>step I q fun t v H1 _ s1 r1 I1 q1=>by
  have r1' :v=t:=r1
  subst r1'
  cases v with
  | false=>exact ⟨_,I1,q1⟩
  | true=>exact Z6 I1 q1 rfl
theorem vj (ha:w9 X Y a ga):w9 X Y (.UnaryOp .Not a pos) (wW ga):= .mk fun ρ=>
 PT.imp (Yi (ha ρ)) fun σ H Q ⟨B,I,q⟩=>step I q fun t v H1 _ s1 r1 I1 q1=>by
  have r1' :v=t:=r1
  subst r1'
  exact Z6 I1 q1 rfl
def tru:T->R Bool
 | .bl k=> .ok k
 | .non=> .ok false
 | .int i=> .ok (i != 0)
 | .tup xs=> .ok (!xs.isEmpty)
 | .lst xs=> .ok (!xs.isEmpty)
 | _=> .bad
def wX (fa:En->R T):En->R Bool:=fun ρ=>(fa ρ).bind tru
theorem isE {H:Hp} {xs:List V} {ts:List T} (r:zo H xs ts):(!xs.isEmpty)= !ts.isEmpty:=by cases r <;> rfl
theorem vk (ha:Zn X Y a fa) (he:∀ whole,isTrue a X.env whole=(do let v ← whole; standAt a.pos; holding [v] (truthy v)):=by intro _; rfl):w9 X Y a (wX fa):= .mk fun ρ=>
 PT.imp (uq (ha ρ) he) fun σ H Q ⟨B,I,q⟩=>step I q fun t v H1 _ s1 r1 I1 q1=>by
  cases r1 with
  | bl k=>exact ⟨k,rfl,Z6 I1 q1 rfl⟩
  | non=>exact ⟨false,rfl,Z6 I1 q1 rfl⟩
  | int i=>exact ⟨_,rfl,Z6 I1 q1 rfl⟩
  | tup h r=>exact ⟨_, .inr (.inl ⟨_,SqT.of h,rfl⟩),Z6 I1 q1 (isE r)⟩
  | lst h r=>exact ⟨_, .inl ⟨_,SqL.of h,rfl⟩,Z6 I1 q1 (isE r)⟩
  | _=>exact q1.elim
end
end PV
namespace PV
open PySem PySem.Spec PyProof.Rows L2
section
variable {X:Cx} {Y:Fx} {a b c d:Expr} {fa fb fc fd:En->R T} {pos p:Pos}
def ap1 (g:T->R T) (fa:En->R T):En->R T:=fun ρ=>(fa ρ).bind g
abbrev St1 (X:Cx) (a:Expr):Prop:=starEach [a] X.env=[(false,eval a X.env)]
theorem Ws {id:String} {x:Str} {r:List V->Hp->VK->Prop} {g:T->R T} (hc:Z1 X (.builtin id) r) (hr:∀ v t B H Q,Rep H v t->zi B H->Po Y rC B H (g t) Q->r [v] H Q)
  (gl:Gl X x) (mg:X.mg x=none) (bt:bootBuiltins x=some (.builtin id)) (ha:Zn X Y a fa) (hs:St1 X a:=by exact st1 rfl) (hn:x ≠ "__name__":=by decide) (hd:(x == ("__debug__":Str))=false:=by decide):Snd X Y (.Call (.Name x p) [a] [] pos) (ap1 g fa):= .mk fun ρ=>
 PE.imp (zU hc gl mg bt (zg (ha ρ) zu hs) hn hd hs rfl) fun σ H Q ⟨B,I,q⟩=>step I q fun t v H1 _ s1 r1 I1 q1=>hr v t _ H1 Q r1 I1.sB q1
def ZS:T->R T
 | .tup xs=> .ok (.int xs.length)
 | .lst xs=> .ok (.int xs.length)
 | .fz xs=> .ok (.int xs.length)
 | .str x=>if x.length<=bnd then .ok (.int x.length) else .bad
 | _=> .bad
theorem vm (v:V) (t:T) (B H:Hp) (Q:VK) (r:Rep H v t) (sB:zi B H) (q:Po Y rC B H (ZS t) Q):
  (∃ p ys,[v]=[V.ref p]/\(SqL X.K H p ys\/SqT X.K H p ys)/\Q (V.int ys.length) H)\/(∃ z,[v]=[V.str z]/\z.length<=sizeLine/\Q (V.int z.length) H):=by
 cases r with
 | tup h r=>exact .inl ⟨_,_,rfl, .inr (SqT.of h),po0 sB q rfl (by rw [r.length]; exact .int _)⟩
 | lst h r=>exact .inl ⟨_,_,rfl, .inl (SqL.of h),po0 sB q rfl (by rw [r.length]; exact .int _)⟩
 | fz h r=>exact .inl ⟨_,_,rfl, .inl (.inl (.inr ⟨_,h⟩)),po0 sB q rfl (by rw [r.length]; exact .int _)⟩
 | str x=>
  by_cases hb:x.length<=bnd
  ·exact .inr ⟨x,rfl,zV hb,po0 sB q (if_pos hb) (.int _)⟩
  ·rw [show ZS (.str x)= .bad from if_neg hb] at q; exact q.elim
 | _=>exact q.elim
theorem vn (gl:Gl X "len") (mg:X.mg "len"=none) (ha:Zn X Y a fa) (hs:St1 X a:=by exact st1 rfl):Snd X Y (.Call (.Name "len" p) [a] [] pos) (ap1 ZS fa):=
 Ws (J7.or J8) vm gl mg PySem.boot_len ha hs
def tyN:T->String
 | .non=>"NoneType"
 | .bl _=>"bool"
 | .int _=>"int"
 | .str _=>"str"
 | .tup _=>"tuple"
 | .lst _=>"list"
 | .fz _=>"list"
def isT (n:String) (t:T):Bool:=tyN t == n || (n == "int" && tyN t == "bool")
theorem vo {H:Hp} {v:V} {t:T} (K:PySem.W.Frag) (r:Rep H v t):wD K H v (.type (tyN t)):=by
 cases r with
 | non=>exact .non
 | bl b=>exact .bl b
 | int b=>exact .int b
 | str b=>exact .str b
 | tup h _=>exact .tup h
 | lst h _=>exact .lst h
 | fz h _=>exact .frz h
theorem uy:Z1 X (.builtin "isinstance") (fun xs H Q=>∃ v n t,xs=[v, .ty n]/\Rep H v t/\PySem.W.kitOne X.K (.type (tyN t)) (.type n)=some (isT n t)/\Q (.bl (isT n t)) H):=by
 intro pins s σ H xs us Q I rv h
 obtain ⟨v,n,t,rfl,r,hk,q⟩:=h
 obtain ⟨u,w,rfl,ru,rw'⟩:=wC rv
 obtain rfl:w=Value.type n:=rw'
 exact We I ru (vo X.K r) hk fun tk=>⟨.bl _,H,I.tok tk,rfl,q⟩
def y7 (n:String) (t:T):R T:= .ok (.bl (isT n t))
theorem y8 (K:PySem.W.Frag) (t:T):PySem.W.kitOne K (.type (tyN t)) (.type "int")=some (isT "int" t):=by cases t <;> rfl
theorem uz (K:PySem.W.Frag) (t:T):PySem.W.kitOne K (.type (tyN t)) (.type "bool")=some (isT "bool" t):=by cases t <;> rfl
theorem y9 (K:PySem.W.Frag) (t:T):PySem.W.kitOne K (.type (tyN t)) (.type "str")=some (isT "str" t):=by cases t <;> rfl
theorem Je (K:PySem.W.Frag) (t:T):PySem.W.kitOne K (.type (tyN t)) (.type "tuple")=some (isT "tuple" t):=by cases t <;> rfl
theorem uA (K:PySem.W.Frag) (t:T):PySem.W.kitOne K (.type (tyN t)) (.type "list")=some (isT "list" t):=by cases t <;> rfl
theorem uB {n:String} {p' :Pos} (hk:∀ t,PySem.W.kitOne X.K (.type (tyN t)) (.type n)=some (isT n t)) (gl:Gl X "isinstance") (mg:X.mg "isinstance"=none) (gl' :Gl X (Str.ofString n)) (mg' :X.mg (Str.ofString n)=none) (bt:bootBuiltins (Str.ofString n)=some (.type n)) (ha:Zn X Y a fa)
  (hs:starEach [a, .Name (Str.ofString n) p'] X.env=[(false,eval a X.env),(false,eval (.Name (Str.ofString n) p') X.env)]:=by exact st2 rfl rfl) (hs2:starEach [.Name (Str.ofString n) p'] X.env=[(false,eval (.Name (Str.ofString n) p') X.env)]:=by exact st1 rfl)
  (hn:Str.ofString n ≠ "__name__":=by decide) (hd:(Str.ofString n == ("__debug__":Str))=false:=by decide) (hz:((backTo pos (starEach [.Name (Str.ofString n) p'] X.env)).any fun x=>x.fst)=false:=by exact zO rfl):
  Snd X Y (.Call (.Name "isinstance" p) [a, .Name (Str.ofString n) p'] [] pos) (ap1 (y7 n) fa):= .mk fun ρ=>
 PE.imp (zU uy gl mg PyProof.Rows.Boot.«isinstance» (zg (ha ρ) (zg (jE (v:= .ty n) gl' mg' bt rfl hn hd) zu hs2) (by rw [hs,hs2])) (by decide) (by decide) (by rw [hs,hs2]) hz) fun σ H Q ⟨B,I,q⟩=>
  step I q fun t v H1 _ s1 r1 I1 q1=>⟨v,n,t,rfl,r1,hk t,po0 I1.sB q1 rfl (.bl _)⟩
def atT (xs:List T) (i:Int):R T:=match atI xs i with
 | some t=> .ok t
 | none=> .bad
def ixT:T->T->R T
 | .tup xs, .int i=>atT xs i
 | .lst xs, .int i=>atT xs i
 | .fz xs, .int i=>atT xs i
 | .str z, .int i=>if z.length<=bnd then match atI z.cps.toList i with | some c=> .ok (.str ⟨#[c]⟩) | none=> .bad else .bad
 | _,_=> .bad
theorem wa {H:Hp} {xs:List V} {ts:List T} {i:Int} {t:T} (r:zo H xs ts) (h:atI ts i=some t):∃ v,atI xs i=some v/\Rep H v t:=by
 unfold atI at h ⊢
 rw [r.length]
 cases e:ixN ts.length i with
 | none=>rw [e] at h; cases h
 | some j=>
  rw [e] at h
  obtain ⟨v,h1,h2⟩:=r.get (show ts[j]? =some t from h)
  exact ⟨v,h1,h2⟩
theorem xP (ha:Snd X Y a fa) (hb:Snd X Y b fb) (hs:Jz b:=by exact fun _ _=>rfl):Snd X Y (.Subscript a b pos) (zd ixT fa fb):= .mk fun ρ=>
 PE.imp (Yz Uc (ha ρ) (hb ρ) hs) fun σ H Q ⟨B,I,q⟩=>step I q fun t v H1 _ s1 r1 I1 q1=>step I1 q1 fun t' v' H2 _ s2 r2 I2 q2=>by
  have r1:=r1.mono (zt.ge I1.sB s2)
  cases r2 with
  | int i=>
   cases r1 with
   | @tup _ xs ts h r=>
    have q2:Po Y rC _ H2 (atT ts i) Q:=q2
    unfold atT at q2
    split at q2
    ·rename_i t' e
     obtain ⟨w,e1,e2⟩:=wa r e
     exact .inr (.inl ⟨_,xs,i,w,rfl,rfl,SqT.of (I2.sB _ _ h),e1,po0 I2.sB q2 rfl e2⟩)
    ·exact q2.elim
   | @lst _ xs ts h r=>
    have q2:Po Y rC _ H2 (atT ts i) Q:=q2
    unfold atT at q2
    split at q2
    ·rename_i t' e
     obtain ⟨w,e1,e2⟩:=wa r e
     exact .inl ⟨_,xs,i,w,rfl,rfl,SqL.of (I2.sB _ _ h),e1,po0 I2.sB q2 rfl e2⟩
    ·exact q2.elim
   | @fz _ _ xs ts h r=>
    have q2:Po Y rC _ H2 (atT ts i) Q:=q2
    unfold atT at q2
    split at q2
    ·rename_i t' e
     obtain ⟨w,e1,e2⟩:=wa r e
     exact .inl ⟨_,xs,i,w,rfl,rfl, .inl (.inr ⟨_,I2.sB _ _ h⟩),e1,po0 I2.sB q2 rfl e2⟩
    ·exact q2.elim
   | str z=>
    have q2:Po Y rC _ H2 (if z.length<=bnd then match atI z.cps.toList i with | some c=> .ok (.str ⟨#[c]⟩) | none=> .bad else .bad) Q:=q2
    split at q2
    ·rename_i hb
     split at q2
     ·rename_i c e
      exact .inr (.inr ⟨z,i,c,rfl,rfl,zV hb,e,po0 I2.sB q2 rfl (.str _)⟩)
     ·exact q2.elim
    ·exact q2.elim
   | _=>exact q2.elim
  | _=>cases r1 <;> exact q2.elim
def YT (t t' :T):R T:=match t,t' with
 | .int i, .int j=> .ok (.int (if j < i then j else i))
 | _,_=> .bad
theorem YU (hc:X.calm=true) (gl:Gl X "min") (mg:X.mg "min"=none) (ha:Snd X Y a fa) (hb:Snd X Y b fb)
  (hs:starEach [a,b] X.env=[(false,eval a X.env),(false,eval b X.env)]:=by exact st2 rfl rfl) (hs2:starEach [b] X.env=[(false,eval b X.env)]:=by exact st1 rfl):
  Snd X Y (.Call (.Name "min" p) [a,b] [] pos) (zd YT fa fb):= .mk fun ρ=>
 PE.imp (zU (Wc hc) gl mg PyProof.Rows.Boot.«min» (zg (ha ρ) (zg (hb ρ) zu hs2) (by rw [hs,hs2])) (by decide) (by decide) (by rw [hs,hs2]) (by rw [hs2]; rfl)) fun σ H Q ⟨B,I,q⟩=>
  step I q fun t v H1 _ s1 r1 I1 q1=>step I1 q1 fun t' v' H2 _ s2 r2 I2 q2=>by
   cases r1 with
   | int i=>
    cases r2 with
    | int j=>exact ⟨i,j,rfl,po0 I2.sB q2 rfl (.int _)⟩
    | _=>exact q2.elim
   | _=>cases r2 <;> exact q2.elim
def Y3:List T->Option Bool
 | []=>some true
 | .bl k :: r=>match Y3 r with | some j=>some (k && j) | none=>none
 | _ :: _=>none
def Y4:T->R T
 | .lst ts=>match Y3 ts with | some k=> .ok (.bl k) | none=> .bad
 | _=> .bad
theorem Wt:∀ {H:Hp} {xs:List V} {ts:List T} {its:List Value} {k:Bool},zo H xs ts->zE xs its->Y3 ts=some k->∃ tr:Nat->Bool,(∀ i v,its[i]? =some v->v=Value.bool (tr i))/\(List.range its.length).all tr=k
 | _,_,_,_,k, .nil, .nil,h=>by
  have h' :some true=some k:=h
  cases h'
  exact ⟨fun _=>true,fun i v e=>by simp at e,rfl⟩
 | H,_,_,_,k, .cons (v:=x) (t:=t) r rs, .cons (b:=u) rv vs,h=>by
  cases r with
  | bl b=>
   unfold Y3 at h
   split at h
   ·rename_i j e
    cases h
    obtain ⟨tr,h1,h2⟩:=Wt rs vs e
    obtain rfl:u=Value.bool b:=rv
    refine ⟨fun i=>match i with | 0=>b | i+1=>tr i,fun i v e=> ?_, ?_⟩
    ·cases i with
     | zero=>simp at e; exact e.symm
     | succ i=>exact h1 i v (by simpa using e)
    ·rw [List.length_cons,List.range_succ_eq_map,List.all_cons,List.all_map,← h2]
     rfl
   ·cases h
  | _=>cases h
theorem Wu (hh:X.A.handled=none):Z1 X (.builtin "all") (fun vs H Q=>∃ l xs ts k,vs=[.ref l]/\H l=some (.lst xs)/\zo H xs ts/\Y3 ts=some k/\Q (.bl k) H):=by
 intro pins s σ H vs us Q I rv h
 obtain ⟨l,xs,ts,k,rfl,hl,r,hk,q⟩:=h
 obtain ⟨u,rfl,ru⟩:=Zo rv
 obtain rfl:u=Value.ref l:=ru
 obtain ⟨its,rv,p,_⟩:=zv I (.inl hl) r
 obtain ⟨tr,h1,h2⟩:=Wt r rv hk
 refine call_all_walk (wpAny_pyIter_list p ?_)
 have hlt:l < s.heap.objs.size:=I.hok.lt hl
 have old:∀ b o,s.heap.get? b=some o->(s.heap.push { cls:= .type "list_iterator",data:= .fields #[.ref l, .int 0 0] }).get? b=some o:=fun b o e=>Heap.get?_push_of_some _ e
 refine ⟨s.heap.objs.size,_,_,_,_,_,tr,rfl,Walks.list (A:=X.A.in1) hh s.heap.objs.size l (Nat.ne_of_lt hlt) its.toArray, ?_, ?_,fun h' tk hk' => ?_⟩
 ·refine ⟨?_,p.at fun o e=>old _ o e⟩
  exact ⟨_,Heap.get?_push_size _ rfl,rfl,rfl⟩
 ·intro i v s' Q' E' hi hq
  rw [h1 i v (by simpa using hi)]
  exact wpAny_truthy_bool hq
 ·rw [List.size_toArray,h2]
  refine ⟨.bl k,H,I.kept (t' :=tk) (fun b o e=>hk' b o ?_ (old b o e)),rfl,q⟩
  simp
  exact Nat.ne_of_lt (Heap.lt_size e)
theorem vp (hh:X.A.handled=none) (gl:Gl X "all") (mg:X.mg "all"=none) (ha:Zn X Y a fa) (hs:St1 X a:=by exact st1 rfl):Snd X Y (.Call (.Name "all" p) [a] [] pos) (ap1 Y4 fa):=
 Ws (Wu hh) (fun v t B H Q r sB q=>by
  cases r with
  | @lst l xs ts h r=>
   have q:Po Y rC B H (match Y3 ts with | some k=> .ok (.bl k) | none=> .bad) Q:=q
   split at q
   ·rename_i k e
    exact ⟨l,xs,ts,k,rfl,h,r,e,po0 sB q rfl (.bl k)⟩
   ·exact q.elim
  | _=>exact q.elim) gl mg PyProof.Rows.Boot.«all» ha hs
end
inductive RS where
 | nx (ρ:En) | rt (t:T) | bk (ρ:En) | ct (ρ:En) | ex (c:Nat) | bad | rf (ts:List T)
def R.s {α:Type} (r:R α) (k:α->RS):RS:=match r with
 | .ok a=>k a
 | .ex c=> .ex c
 | .bad=> .bad
def PoS (Y:Fx) (B:Hp) (r:RS) (D:uj):Prop:=match r with
 | .nx ρ' =>∀ σ' H' B',zi B B' ->SI Y B' ρ' σ' H' ->D.nx σ' H'
 | .rt t=>∀ v H',zi Y.H0 H' ->Rep (zt Y.B0 Y.H0 H') v t->D.rt v H'
 | .bk ρ' =>∀ σ' H' B',zi B B' ->SI Y B' ρ' σ' H' ->D.bk σ' H'
 | .ct ρ' =>∀ σ' H' B',zi B B' ->SI Y B' ρ' σ' H' ->D.ct σ' H'
 | .ex c=>XP Y B c
 | .bad=>False
 | .rf ts=>∀ a xs H' B',zi Y.H0 H' ->Y.H0 a=none->H' a=some (.lst xs)->zo B' xs ts->B' a=none->zi B' (zt Y.B0 Y.H0 H')->D.rt (.ref a) H'
theorem PoS.up {Y:Fx} {B B' :Hp} {r:RS} {D:uj} (s:zi B B') (h:PoS Y B r D):PoS Y B' r D:=by
 cases r with
 | nx ρ=>exact fun σ' H' B2 s2 I=>h σ' H' B2 (s.trans s2) I
 | bk ρ=>exact fun σ' H' B2 s2 I=>h σ' H' B2 (s.trans s2) I
 | ct ρ=>exact fun σ' H' B2 s2 I=>h σ' H' B2 (s.trans s2) I
 | rt t=>exact h
 | rf t=>exact h
 | ex c=>exact fun d H' s0 sB=>h d H' s0 (s.trans sB)
 | bad=>exact h
def tSS (Y:Fx) (f:En->RS) (ρ:En):TS:=fun D σ H=>∃ B,SI Y B ρ σ H/\PoS Y B (f ρ) D
structure jI (X:Cx) (Y:Fx) (e:Stmt) (f:En->RS):Prop where
 mk ::
 go:∀ ρ,PS X e (tSS Y f ρ)
instance {X:Cx} {Y:Fx} {e:Stmt} {f:En->RS}:CoeFun (jI X Y e f) fun _=>∀ ρ,PS X e (tSS Y f ρ):=⟨jI.go⟩
structure JG (X:Cx) (Y:Fx) (e:List Stmt) (f:En->RS):Prop where
 mk ::
 go:∀ ρ,PSs X e (tSS Y f ρ)
instance {X:Cx} {Y:Fx} {e:List Stmt} {f:En->RS}:CoeFun (JG X Y e f) fun _=>∀ ρ,PSs X e (tSS Y f ρ):=⟨JG.go⟩
theorem jg {α β:Type} {Y:Fx} {rel:Hp->Hp->β->α->Prop} {f:En->R α} {k:α->RS} {ρ:En} {B:Hp} {σ:Sg} {H:Hp} {D:uj} {K:β->Hp->Prop}
  (I:SI Y B ρ σ H) (h:PoS Y B ((f ρ).s k) D)
  (n:∀ a b H1,f ρ= .ok a->zi H H1->rel (zt B H H1) H1 b a->SI Y (zt B H H1) ρ σ H1->PoS Y (zt B H H1) (k a) D->K b H1):tS Y rel f ρ σ H K:=by
 refine ⟨B,I, ?_⟩
 cases e:f ρ with
 | bad=>rw [e] at h; exact h
 | ex c=>rw [e] at h; exact h
 | ok a=>
  rw [e] at h
  exact fun b H1 s r=>n a b H1 e s r (I.grow s) (PoS.up (zt.ge I.sB s) h)
theorem zy {α:Type} {xs:List α} {i j:Nat} {x y:α} (h:(xs.set i x)[j]? =some y):(j=i/\y=x)\/(j ≠ i/\xs[j]? =some y):=by
 by_cases e:j=i
 ·subst e
  by_cases hl:j < xs.length
  ·rw [List.getElem?_set_self hl] at h; exact .inl ⟨rfl,(Option.some.inj h).symm⟩
  ·rw [List.getElem?_eq_none (by rw [List.length_set]; omega)] at h; cases h
 ·rw [List.getElem?_set_ne (Ne.symm e)] at h; exact .inr ⟨e,h⟩
theorem Wv {α:Type} {xs:List α} {i:Nat} {x y:α} (h:(xs.set i x)[i]? =some y):i < xs.length:=by
 by_cases hl:i < xs.length
 ·exact hl
 ·rw [List.getElem?_eq_none (by rw [List.length_set]; omega)] at h; cases h
theorem SI.setV {Y:Fx} {B:Hp} {ρ:En} {σ:Sg} {H:Hp} (I:SI Y B ρ σ H) (i:Nat) {v:V} {t:T} (r:Rep B v t):SI Y B (ρ.set i (.vl t)) (σ.set i (some v)) H where
 s0:=I.s0
 sH:=I.sH
 sB:=I.sB
 old:=I.old
 len:=by rw [List.length_set,List.length_set]; exact I.len
 vl:=fun j u h=>by
  rcases zy h with ⟨rfl,e⟩ | ⟨hj,h'⟩
  ·cases e
   exact ⟨v,List.getElem?_set_self (by rw [← I.len]; exact Wv h),r⟩
  ·obtain ⟨w,e,rr⟩:=I.vl j u h'
   exact ⟨w,by rw [List.getElem?_set_ne (Ne.symm hj)]; exact e,rr⟩
 ow:=fun j us h=>by
  rcases zy h with ⟨rfl,e⟩ | ⟨hj,h'⟩
  ·cases e
  ·obtain ⟨a,xs,e,b0,h0,hh,rr,d⟩:=I.ow j us h'
   refine ⟨a,xs,by rw [List.getElem?_set_ne (Ne.symm hj)]; exact e,b0,h0,hh,rr,fun k ws hk hw=> ?_⟩
   rcases zy hw with ⟨rfl,e'⟩ | ⟨hk',hw'⟩
   ·cases e'
   ·rw [List.getElem?_set_ne (Ne.symm hk')]; exact d k ws hk hw'
 xc:=fun j c h=>by
  rcases zy h with ⟨rfl,e⟩ | ⟨hj,h'⟩
  ·cases e
  ·obtain ⟨a,e,r⟩:=I.xc j c h'
   exact ⟨a,by rw [List.getElem?_set_ne (Ne.symm hj)]; exact e,r⟩
theorem SI.newO {Y:Fx} {B:Hp} {ρ:En} {σ:Sg} {H:Hp} (I:SI Y B ρ σ H) (i:Nat) {p:Addr} {xs:List V} {ts:List T} (hp:H p=none) (r:zo B xs ts):SI Y B (ρ.set i (.ow ts)) (σ.set i (some (.ref p))) (upd H p (.lst xs)) where
 s0:=I.s0
 sH:=I.sH.trans (zi.new hp _)
 sB:=I.sB.trans (zi.new hp _)
 old:=I.old
 len:=by rw [List.length_set,List.length_set]; exact I.len
 vl:=fun j u h=>by
  rcases zy h with ⟨rfl,e⟩ | ⟨hj,h'⟩
  ·cases e
  ·obtain ⟨w,e,rr⟩:=I.vl j u h'
   exact ⟨w,by rw [List.getElem?_set_ne (Ne.symm hj)]; exact e,rr⟩
 ow:=fun j us h=>by
  have op:∀ k ws a,ρ[k]? =some (Sl.ow ws)->σ[k]? =some (some (V.ref a))->a ≠ p:=fun k ws a h1 h2=>by
   obtain ⟨a',xs',e,_,_,hh,_⟩:=I.ow k ws h1
   rw [e] at h2; cases h2
   exact zm hh hp
  rcases zy h with ⟨rfl,e⟩ | ⟨hj,h'⟩
  ·cases e
   refine ⟨p,xs,List.getElem?_set_self (by rw [← I.len]; exact Wv h),I.sB.free hp,I.sH.free hp,zh,r,fun k ws hk hw=> ?_⟩
   rcases zy hw with ⟨rfl,e'⟩ | ⟨hk',hw'⟩
   ·exact absurd rfl hk
   ·rw [List.getElem?_set_ne (Ne.symm hk')]
    exact fun z=>op k ws p hw' z rfl
  ·obtain ⟨a,xs',e,b0,h0,hh,rr,d⟩:=I.ow j us h'
   refine ⟨a,xs',by rw [List.getElem?_set_ne (Ne.symm hj)]; exact e,b0,h0,by rw [zf (op j us a h' e)]; exact hh,rr,fun k ws hk hw=> ?_⟩
   rcases zy hw with ⟨rfl,e'⟩ | ⟨hk',hw'⟩
   ·rw [List.getElem?_set_self (by rw [← I.len]; exact Wv hw)]
    intro z
    exact op j us a h' e (by injection z with z; injection z with z; injection z with z; exact z.symm)
   ·rw [List.getElem?_set_ne (Ne.symm hk')]; exact d k ws hk hw'
 xc:=fun j c h=>by
  rcases zy h with ⟨rfl,e⟩ | ⟨hj,h'⟩
  ·cases e
  ·obtain ⟨a,e,r⟩:=I.xc j c h'
   exact ⟨a,by rw [List.getElem?_set_ne (Ne.symm hj)]; exact e,r⟩
theorem SI.chg {Y:Fx} {B:Hp} {ρ:En} {σ:Sg} {H:Hp} (I:SI Y B ρ σ H) (i:Nat) {p:Addr} {ts us:List T} {ys:List V} (hi:ρ[i]? =some (.ow ts)) (he:σ[i]? =some (some (.ref p))) (r:zo B ys us):SI Y B (ρ.set i (.ow us)) σ (upd H p (.lst ys)):=by
 obtain ⟨p',xs,e,b0,h0,hh,rr,d⟩:=I.ow i ts hi
 rw [he] at e
 cases e
 have nb:∀ b o,B b=some o->b ≠ p:=fun b o h z=>by subst z; rw [b0] at h; cases h
 have n0:∀ b o,Y.H0 b=some o->b ≠ p:=fun b o h z=>by subst z; rw [h0] at h; cases h
 refine ⟨I.s0,fun b o h=>by rw [zf (n0 b o h)]; exact I.sH b o h,fun b o h=>by rw [zf (nb b o h)]; exact I.sB b o h,I.old,by rw [List.length_set]; exact I.len,fun j u h=> ?_,fun j ws h=> ?_,fun j c h=> ?_⟩
 rotate_right
 ·rcases zy h with ⟨rfl,z⟩ | ⟨hj,h'⟩
  ·cases z
  ·exact I.xc j c h'
 ·rcases zy h with ⟨rfl,z⟩ | ⟨hj,h'⟩
  ·cases z
  ·exact I.vl j u h'
 ·rcases zy h with ⟨rfl,z⟩ | ⟨hj,h'⟩
  ·cases z
   refine ⟨p,ys,he,b0,h0,zh,r,fun k vs hk hw=> ?_⟩
   rcases zy hw with ⟨rfl,e'⟩ | ⟨hk',hw'⟩
   ·exact absurd rfl hk
   ·exact d k vs hk hw'
  ·obtain ⟨a,xs',e,c0,g0,gg,ss,d'⟩:=I.ow j ws h'
   have hne:a ≠ p:=fun z=>by subst z; exact d j ws hj h' e
   refine ⟨a,xs',e,c0,g0,by rw [zf hne]; exact gg,ss,fun k vs hk hw=> ?_⟩
   rcases zy hw with ⟨rfl,e'⟩ | ⟨hk',hw'⟩
   ·rw [he]; intro z; injection z with z; injection z with z; injection z with z; exact hne z.symm
   ·exact d' k vs hk hw'
def xQ:Sl->Sl
 | .ow ts=> .vl (.lst ts)
 | x=>x
def frz (ρ:En):En:=ρ.map xQ
theorem SI.up {Y:Fx} {B:Hp} {ρ:En} {σ:Sg} {H:Hp} (I:SI Y B ρ σ H):zi B (zt B Y.H0 H):=fun b o h=>by
 cases q:Y.H0 b with
 | none=>rw [zA q]; exact I.sB b o h
 | some u=>rw [zH q]; exact h
theorem SI.frz {Y:Fx} {B:Hp} {ρ:En} {σ:Sg} {H:Hp} (I:SI Y B ρ σ H):SI Y (zt B Y.H0 H) (PV.frz ρ) σ H:=by
 have up:zi B (zt B Y.H0 H):=fun b o h=>by
  cases q:Y.H0 b with
  | none=>rw [zA q]; exact I.sB b o h
  | some u=>rw [zH q]; exact h
 refine ⟨I.s0,I.sH,fun b o h=> ?_,fun b o h=>by rw [zH h]; exact I.old b o h,by unfold PV.frz; rw [List.length_map]; exact I.len,fun j t h=> ?_,fun j ts h=> ?_,fun j c h=> ?_⟩
 rotate_right
 ·unfold PV.frz at h
  rw [List.getElem?_map] at h
  cases e:ρ[j]? with
  | none=>rw [e] at h; cases h
  | some x=>
   rw [e] at h
   cases x with
   | xc d=>
    cases h
    obtain ⟨a,e1,r⟩:=I.xc j _ e
    exact ⟨a,e1,up a _ r⟩
   | un=>cases h
   | vl _=>cases h
   | ow _=>cases h
 ·cases q:Y.H0 b with
  | none=>rw [zA q] at h; exact h
  | some u=>rw [zH q] at h; exact I.sB b o h
 ·unfold PV.frz at h
  rw [List.getElem?_map] at h
  cases e:ρ[j]? with
  | none=>rw [e] at h; cases h
  | some x=>
   rw [e] at h
   cases x with
   | un=>cases h
   | vl u=>
    cases h
    obtain ⟨v,e1,r⟩:=I.vl j _ e
    exact ⟨v,e1,r.mono up⟩
   | ow us=>
    cases h
    obtain ⟨a,xs,e1,b0,h0,hh,rr,_⟩:=I.ow j us e
    exact ⟨.ref a,e1, .lst (by rw [zA h0]; exact hh) (rr.mono up)⟩
   | xc _=>cases h
 ·unfold PV.frz at h
  rw [List.getElem?_map] at h
  cases e:ρ[j]? with
  | none=>rw [e] at h; cases h
  | some x=>
   rw [e] at h
   cases x with
   | un=>cases h
   | vl u=>cases h
   | ow us=>cases h
   | xc _=>cases h
theorem YV {Y:Fx} {B H H' :Hp} (s0:zi Y.H0 H) (old:∀ b o,Y.H0 b=some o->B b=Y.B0 b) (s:zi H H') (sB:zi B H):zi (zt B H H') (zt Y.B0 Y.H0 H'):=fun b o h=>by
 cases q:H b with
 | none=>
  rw [zA q] at h
  rw [zA (s0.free q)]; exact h
 | some u=>
  rw [zH q] at h
  cases z:Y.H0 b with
  | none=>rw [zA z]; exact s b o (sB b o h)
  | some w=>rw [zH z,← old b w z]; exact h
section
variable {X:Cx} {Y:Fx} {a b c d:Expr} {fa fb fc fd:En->R T} {pos p:Pos} {st:Stmt} {sts sts' :List Stmt} {f g:En->RS}
def nxS:En->RS:=fun ρ=> .nx ρ
def zk (f g:En->RS):En->RS:=fun ρ=>match f ρ with
 | .nx ρ' =>g ρ'
 | r=>r
theorem vq:JG X Y [] nxS:= .mk fun ρ=>PSs.imp UB fun D σ H ⟨B,I,q⟩=>q σ H B (zi.refl B) I
theorem vt (h:jI X Y st f):JG X Y [st] f:= .mk fun ρ=>jF (h ρ)
theorem YW (h1:jI X Y st f) (h2:JG X Y sts g):JG X Y (st :: sts) (zk f g):= .mk fun ρ=>by
 refine PSs.imp (uk (u:=fun D σ H=>∃ ρ',tSS Y g ρ' D σ H) (h1 ρ) ?_) ?_
 ·intro pins s σ H D I ⟨ρ',q⟩
  exact h2 ρ' pins s σ H D I q
 ·intro D σ H ⟨B,I,q⟩
  refine ⟨B,I, ?_⟩
  unfold zk at q
  cases e:f ρ with
  | nx ρ' =>
   rw [e] at q
   intro σ' H' B' s' I'
   exact ⟨ρ',B',I',PoS.up s' q⟩
  | rt t=>rw [e] at q; exact q
  | rf t=>rw [e] at q; exact q
  | bk ρ' =>rw [e] at q; exact q
  | ct ρ' =>rw [e] at q; exact q
  | ex c=>rw [e] at q; exact q
  | bad=>rw [e] at q; exact q
def Zy (i:Nat) (fa:En->R T):En->RS:=fun ρ=>(fa ρ).s fun t=> .nx (ρ.set i (.vl t))
theorem YX {i:Nat} {x:Str} {p' :Pos} (hN:X.N.Nodup) (hi:X.N[i]? =some x) (hx:L2.Loc X.env.scope x) (ha:Snd X Y a fa) (hs:swapsWith a (some (.Name x p')) pos.line X.env=pure false:=by rfl)
  (hf:X.fn x=true\/X.env.scope.names.lookup x=some .local:=by first | exact .inl rfl | exact .inr rfl | assumption):jI X Y (.Assign [.Name x p'] a pos) (Zy i fa):= .mk fun ρ=>
 PS.imp (W4 hN hi hx (ha ρ) hs hf) fun D σ H ⟨B,I,q⟩=>jg I q fun t v H1 _ s1 r1 I1 q1=>q1 _ _ _ (zi.refl _) (I1.setV i r1)
def Ju (i:Nat) (ga:En->R (List T)):En->RS:=fun ρ=>(ga ρ).s fun ts=>if ts.length<=bnd then .nx (ρ.set i (.ow ts)) else .bad
theorem YY {i:Nat} {x:Str} {p' :Pos} {es:List Expr} {ga:En->R (List T)} (hN:X.N.Nodup) (hi:X.N[i]? =some x) (hx:L2.Loc X.env.scope x) (ha:JD X Y es ga) (hs:swapsWith (.List es p) (some (.Name x p')) pos.line X.env=pure false:=by rfl)
  (hf:X.fn x=true\/X.env.scope.names.lookup x=some .local:=by first | exact .inl rfl | exact .inr rfl | assumption):jI X Y (.Assign [.Name x p'] (.List es p) pos) (Ju i ga):= .mk fun ρ=>
 PS.imp (W4 hN hi hx (Ub (ha ρ)) hs hf) fun D σ H ⟨B,I,q⟩=>jg I q fun ts vs H1 _ s1 r1 I1 q1=>by
  split at q1
  ·rename_i hb
   exact ⟨by rw [r1.length]; exact zV hb,fun p hp=>q1 _ _ _ (zi.refl _) (I1.newO i hp r1)⟩
  ·exact q1.elim
def zw (fa:En->R T):En->RS:=fun ρ=>(fa (frz ρ)).s fun t=> .rt t
theorem vu (ha:Snd X Y a fa):jI X Y (.Return (some a) pos) (zw fa):= .mk fun ρ=>
 PS.imp (W3 (ha (frz ρ))) fun D σ H ⟨B,I,q⟩=>by
  refine ⟨_,I.frz, ?_⟩
  unfold zw at q
  cases e:fa (frz ρ) with
  | bad=>rw [e] at q; exact q
  | ex c=>
   rw [e] at q
   exact fun d H' s0 sG=>q d H' s0 (I.up.trans sG)
  | ok t=>
   rw [e] at q
   intro v H' s r
   have J:=I.frz
   exact q v H' (I.sH.trans s) (r.mono (YV J.sH J.old s J.sB))
def ifS (g:En->R Bool) (f1 f2:En->RS):En->RS:=fun ρ=>(g ρ).s fun k=>if k=true then f1 ρ else f2 ρ
theorem vv {ga:En->R Bool} (hc:w9 X Y c ga) (h1:JG X Y sts f) (h2:JG X Y sts' g):jI X Y (.If c sts sts' pos) (ifS ga f g):= .mk fun ρ=>
 PS.imp (QG (hc ρ) (h1 ρ) (h2 ρ)) fun D σ H ⟨B,I,q⟩=>jg I q fun t v H1 _ s1 r1 I1 q1=>by
  have r1' :v=t:=r1
  subst r1'
  cases v with
  | true=>exact ⟨_,I1,q1⟩
  | false=>exact ⟨_,I1,q1⟩
def Zp (fa:En->R T):En->RS:=fun ρ=>(fa ρ).s fun _=> .nx ρ
theorem YZ (ha:Snd X Y a fa) (hs:swapsWith a none pos.line X.env=pure false:=by rfl):jI X Y (.Expr a pos) (Zp fa):= .mk fun ρ=>
 PS.imp (Jw (ha ρ) hs) fun D σ H ⟨B,I,q⟩=>jg I q fun t v H1 _ s1 r1 I1 q1=>q1 _ _ _ (zi.refl _) I1
def zT (i:Nat) (fa:En->R T):En->RS:=fun ρ=>match ρ[i]? with
 | some (.ow ts)=>(fa ρ).s fun t=>if ts.length < bnd then .nx (ρ.set i (.ow (ts++[t]))) else .bad
 | _=> .bad
def Y5 (i:Nat) (fa:En->R T):En->RS:=fun ρ=>match ρ[i]? with
 | some (.ow ts)=>(fa ρ).s fun t=>match t with
  | .lst us=>if ts.length+us.length<=bnd then .nx (ρ.set i (.ow (ts++us))) else .bad
  | _=> .bad
 | _=> .bad
theorem qa {n:Nat} (h:n < bnd):n < sizeLine:=by rw [sizeLine_eq]; exact h
theorem vw {i:Nat} {x:Str} {px pa:Pos} (hv:PE X (.Name x px) (uf i)) (ha:Snd X Y a fa) (hb:attributeBase (.Name x px) "append" X.env (eval (.Name x px) X.env)=eval (.Name x px) X.env:=by rfl) (hs:St1 X a:=by exact st1 rfl)
  (hz:(pa.endLine == p.line)=true:=by rfl) (hw:swapsWith (.Call (.Attribute (.Name x px) "append" pa) [a] [] p) none pos.line X.env=pure false:=by rfl):jI X Y (.Expr (.Call (.Attribute (.Name x px) "append" pa) [a] [] p) pos) (zT i fa):= .mk fun ρ=>by
 have e1:(((((backTo p (starEach [a] X.env)).all fun x=> !x.fst) && (backToKw p (keywordEach [] X.env)).all fun x=>x.fst.isSome) && decide (([a].length+([]:List Keyword).length+if ([]:List Keyword).isEmpty=true then 0 else 1) < 30))=true):=by rw [hs]; rfl
 refine PS.imp (Jw (ur PySem.F.plainAttrs_list PySem.F.slot_list_append PySem.F.type_list_append J9 hv (zg (ha ρ) zu hs) hb e1 hz hs rfl) hw) fun D σ H ⟨B,I,q⟩=> ?_
 unfold zT at q
 split at q
 ·rename_i ts e
  obtain ⟨l,xs,e1,b0,h0,hh,rr,d⟩:=I.ow i ts e
  refine ⟨.ref l,e1, .inl ⟨rfl,_,SqL.of hh⟩, ?_⟩
  refine jg I q fun t v H1 _ s1 r1 I1 q1=> ?_
  split at q1
  ·rename_i hb
   refine ⟨l,xs,v,rfl,rfl,s1 _ _ hh,by rw [rr.length]; exact qa hb, ?_⟩
   exact q1 _ _ _ (zi.refl _) (I1.chg i e e1 ((rr.mono (zt.ge I.sB s1)).append (.cons r1 .nil)))
  ·exact q1.elim
 ·exact q.elim
theorem vx {i:Nat} {x:Str} {px pa:Pos} (hv:PE X (.Name x px) (uf i)) (ha:Snd X Y a fa) (hb:attributeBase (.Name x px) "extend" X.env (eval (.Name x px) X.env)=eval (.Name x px) X.env:=by rfl) (hs:St1 X a:=by exact st1 rfl)
  (hz:(pa.endLine == p.line)=true:=by rfl) (hw:swapsWith (.Call (.Attribute (.Name x px) "extend" pa) [a] [] p) none pos.line X.env=pure false:=by rfl):jI X Y (.Expr (.Call (.Attribute (.Name x px) "extend" pa) [a] [] p) pos) (Y5 i fa):= .mk fun ρ=>by
 have e1:(((((backTo p (starEach [a] X.env)).all fun x=> !x.fst) && (backToKw p (keywordEach [] X.env)).all fun x=>x.fst.isSome) && decide (([a].length+([]:List Keyword).length+if ([]:List Keyword).isEmpty=true then 0 else 1) < 30))=true):=by rw [hs]; rfl
 refine PS.imp (Jw (ur PySem.F.plainAttrs_list PySem.F.slot_list_extend PySem.F.type_list_extend Wg hv (zg (ha ρ) zu hs) hb e1 hz hs rfl) hw) fun D σ H ⟨B,I,q⟩=> ?_
 unfold Y5 at q
 split at q
 ·rename_i ts e
  obtain ⟨l,xs,e1,b0,h0,hh,rr,d⟩:=I.ow i ts e
  refine ⟨.ref l,e1, .inl ⟨rfl,_,SqL.of hh⟩, ?_⟩
  refine jg I q fun t v H1 _ s1 r1 I1 q1=> ?_
  cases r1 with
  | @lst b zs us hb r=>
   have q1:PoS Y _ (if ts.length+us.length<=bnd then .nx (ρ.set i (.ow (ts++us))) else .bad) D:=q1
   split at q1
   ·rename_i hl
    refine ⟨l,b,xs,zs,rfl,rfl,s1 _ _ hh,I1.sB _ _ hb,by rw [rr.length,r.length]; exact zV hl, ?_⟩
    exact q1 _ _ _ (zi.refl _) (I1.chg i e e1 ((rr.mono (zt.ge I.sB s1)).append r))
   ·exact q1.elim
  | _=>exact q1.elim
 ·exact q.elim
end
def spP (cl:Nat->Value) (n:Nat) (g:List T->R T):Sp:=fun vs H Q E=>∃ B ts,ts.length=n/\zi B H/\zo B vs ts/\Po ⟨B,H,E,cl⟩ rC B H (g ts) Q
theorem spP.len {cl:Nat->Value} {n:Nat} {g:List T->R T} (vs:List V) (H:Hp) (Q:VK) (E:XK) (h:spP cl n g vs H Q E):vs.length=n:=by
 obtain ⟨B,ts,hl,_,r,_⟩:=h
 rw [r.length,hl]
def za (n:Nat) (g:List T->R T) (ga:En->R (List T)):En->R T:=fun ρ=>(ga ρ).bind fun ts=>if ts.length=n then g ts else .bad
section
variable {X:Cx} {Y:Fx} {a b c d:Expr} {fa fb fc fd:En->R T} {pos p:Pos}
theorem Uf {CX:CXT} {k n:Nat} {f:Addr} {fd:FuncData} {ps:List Str} {g:List T->R T} {x:Str} {es:List Expr} {ga:En->R (List T)} (F:zB X.prog X.w X.K X.mg X.base CX k f fd ps (spP Y.cl n g)) (hr:Zk k X.A) (gl:Gl X x) (mg:X.mg x=some (.ref f))
  (kp:PySem.W.keepIn X.K (.ref f)=true) (bd:L2.Binds X.K fd ps []) (hx:zY CX X Y.E) (ha:JD X Y (a :: es) ga) (hd:(x == ("__debug__":Str))=false:=by decide)
  (hs:starEach (a :: es) X.env=(false,eval a X.env) :: starEach es X.env:=by exact zC rfl) (hz:((backTo pos (starEach es X.env)).any fun x=>x.fst)=false:=by exact zO rfl):Snd X Y (.Call (.Name x p) (a :: es) [] pos) (za n g ga):= .mk fun ρ=>
 PE.imp (UG F hr gl mg kp bd .nil hx (ha ρ) hd hs hz) fun σ H Q ⟨B,I,q⟩=>step I q fun ts vs H1 _ s1 r1 I1 q1=>by
  split at q1
  ·rename_i hn
   rw [List.append_nil]
   refine ⟨_,ts,hn,I1.sB,r1, ?_⟩
   revert q1
   cases g ts with
   | bad=>exact fun q1=>q1
   | ex c=>exact fun q1 d H' s sB=>q1 d H' (I1.sH.trans s) sB
   | ok t=>exact fun q1=>q1
  ·exact q1.elim
end
def zl:RS->R T
 | .rt t=> .ok t
 | .rf ts=> .ok (.lst ts)
 | .nx _=> .ok .non
 | .ex c=> .ex c
 | _=> .bad
def en0 (n:Nat) (ts:List T):En:=ts.map Sl.vl++List.replicate (n - ts.length) Sl.un
theorem zo.vl {H:Hp}:∀ {vs:List V} {ts:List T} {i:Nat} {t:T} {n m:Nat},zo H vs ts->(ts.map Sl.vl++List.replicate n Sl.un)[i]? =some (Sl.vl t)->∃ v:V,(vs.map some++List.replicate m none)[i]? =some (some v)/\Rep H v t
 | _,_,i,t,n,m, .nil,h=>by
  exfalso
  simp only [List.map_nil,List.nil_append] at h
  rw [List.getElem?_replicate] at h
  split at h
  ·cases h
  ·cases h
 | _,_,0,t,n,m, .cons r _,h=>by
  simp at h; subst h; exact ⟨_,rfl,r⟩
 | _,_,i+1,t,n,m, .cons _ q,h=>by
  obtain ⟨v,h1,h2⟩:=zo.vl (i:=i) (t:=t) (n:=n) (m:=m) q (by simpa using h)
  exact ⟨v,by simpa using h1,h2⟩
theorem Ug {n:Nat}:∀ {ts:List T} {i:Nat} {us:List T},(ts.map Sl.vl++List.replicate n Sl.un)[i]? =some (Sl.ow us)->False
 | [],i,us,h=>by
  simp only [List.map_nil,List.nil_append] at h
  rw [List.getElem?_replicate] at h
  split at h
  ·cases h
  ·cases h
 | t :: ts,0,us,h=>by simp at h
 | t :: ts,i+1,us,h=>Ug (ts:=ts) (i:=i) (us:=us) (n:=n) (by simpa using h)
theorem Uh {n:Nat}:∀ {ts:List T} {i:Nat} {c:Nat},(ts.map Sl.vl++List.replicate n Sl.un)[i]? =some (Sl.xc c)->False
 | [],i,us,h=>by
  simp only [List.map_nil,List.nil_append] at h
  rw [List.getElem?_replicate] at h
  split at h
  ·cases h
  ·cases h
 | t :: ts,0,us,h=>by simp at h
 | t :: ts,i+1,us,h=>Uh (ts:=ts) (i:=i) (c:=us) (n:=n) (by simpa using h)
theorem SI.start {Y:Fx} {N:List Str} {vs:List V} {ts:List T} (s:zi Y.B0 Y.H0) (r:zo Y.B0 vs ts):SI Y Y.B0 (en0 N.length ts) (L2.start N vs) Y.H0 where
 s0:=s
 sH:=zi.refl _
 sB:=s
 old:=fun _ _ _=>rfl
 len:=by unfold en0 L2.start; simp [r.length]
 vl:=fun i t h=>r.vl h
 ow:=fun i ts h=>(Ug h).elim
 xc:=fun i c h=>(Uh h).elim
section
variable {P:Program} {w:World} {K:PySem.W.Frag} {mg:Str->Option Value} {base:Heap}
theorem zR {cl:Nat->Value} {x qual:Str} {st:Stmt} {f:Addr} {fd:FuncData} {N ps:List Str} {k n:Nat} {fb:En->RS} {g:List T->R T} (F:Fun K x qual st f fd) (S:zc N ps (z9 st)) (hn:n=ps.length)
  (hb:∀ (cdv:Value) (A:Around) (outer:List Env) (s:Shared) (H:Hp) (E:XK) (Y:Fx),Y.cl=cl->Zk k (A.deeper (envOfC qual (z9 st) s.heap.objs.size f cdv))->
   JG (ZA CX0 P w K mg base N qual (z9 st) f cdv A outer s H E).nox Y (zG st) fb)
  (hg:∀ ts,ts.length=n->g ts=zl (fb (en0 N.length ts))):zB P w K mg base CX0 (k+1) f fd ps (spP cl n g):=by
 subst hn
 refine F.ok S spP.len fun cdv A outer s H vs Q E hr ⟨B,ts,hl,sB,r,q⟩=> ?_
 refine ⟨_,hb cdv A outer s H E ⟨B,H,E,cl⟩ rfl hr (en0 N.length ts),B,SI.start (Y:=⟨B,H,E,cl⟩) sB r, ?_⟩
 rw [hg ts hl] at q
 revert q
 cases fb (en0 N.length ts) with
 | rt t=>exact fun q v H' s r=>q v H' s r
 | rf t=>exact fun q a xs H' B' s0 n e r _ l=>q (.ref a) H' s0 (.lst (by rw [zA n]; exact e) (r.mono l))
 | nx ρ=>exact fun q σ' H' B' _ I=>q .non H' I.sH .non
 | ex c=>exact fun q=>q
 | bk ρ=>exact fun q=>q.elim
 | ct ρ=>exact fun q=>q.elim
 | bad=>exact fun q=>q
end
abbrev rI:Hp->Hp->It->List T->Prop:=fun B1 _ J ts=>∀ B2 H2,zi B1 B2->zi B2 H2->(∀ i,i < ts.length->J.go i H2)/\(∀ (i:Nat) t x H3,ts[i]? =some t->J.yld i H2 x H3->zi H2 H3/\Rep (zt B2 H2 H3) x t)/\(∀ i,ts.length<=i->J.stop i H2)
structure wG (X:Cx) (Y:Fx) (tg iter:Expr) (f:En->R (List T)):Prop where
 mk ::
 go:∀ ρ,PI X tg iter (tS Y rI f ρ)
instance {X:Cx} {Y:Fx} {tg iter:Expr} {f:En->R (List T)}:CoeFun (wG X Y tg iter f) fun _=>∀ ρ,PI X tg iter (tS Y rI f ρ):=⟨wG.go⟩
section
variable {X:Cx} {Y:Fx} {a b c d tg:Expr} {fa fb fc fd:En->R T} {pos p:Pos}
theorem PI.imp {e:Expr} {t t' :TI} (h:PI X tg e t) (i:∀ σ H Q,t' σ H Q->t σ H Q):PI X tg e t' :=fun pins s σ H Q I q=>h pins s σ H Q I (i σ H Q q)
theorem qb {K:PySem.W.Frag} {B1 H1:Hp} {a:Addr} {xs:List V} {ts:List T} (h:B1 a=some (.tup xs)) (r:zo B1 xs ts):rI B1 H1 (Itt K a) ts:=fun B2 H2 s1 s2=>by
 have h2:=s2 _ _ (s1 _ _ h)
 refine ⟨fun i hi=> ?_,fun i t x H3 e y=> ?_,fun i hi=>⟨xs,SqT.of h2,by rw [r.length]; exact hi⟩⟩
 ·obtain ⟨v,e,_⟩:=r.get (List.getElem?_eq_getElem hi)
  exact ⟨xs,v,SqT.of h2,e⟩
 ·obtain ⟨rfl,y⟩:=y
  obtain ⟨v,e1,r1⟩:=r.get e
  have:=y xs (SqT.of h2)
  rw [e1] at this; cases this
  refine ⟨zi.refl _, ?_⟩
  rw [zt.self B2 _ s2]
  exact r1.mono s1
theorem qc {K:PySem.W.Frag} {B1 H1:Hp} {a:Addr} {xs:List V} {ts:List T} (h:B1 a=some (.lst xs)) (r:zo B1 xs ts):rI B1 H1 (Itl K a) ts:=fun B2 H2 s1 s2=>by
 have h2:=s2 _ _ (s1 _ _ h)
 refine ⟨fun i hi=> ?_,fun i t x H3 e y=> ?_,fun i hi=>⟨xs,SqL.of h2,by rw [r.length]; exact hi⟩⟩
 ·obtain ⟨v,e,_⟩:=r.get (List.getElem?_eq_getElem hi)
  exact ⟨xs,v,SqL.of h2,e⟩
 ·obtain ⟨rfl,y⟩:=y
  obtain ⟨v,e1,r1⟩:=r.get e
  have:=y xs (SqL.of h2)
  rw [e1] at this; cases this
  refine ⟨zi.refl _, ?_⟩
  rw [zt.self B2 _ s2]
  exact r1.mono s1
def rng (lo:Int) (n:Nat):List T:=(List.range n).map fun (i:Nat)=>T.int (lo+(i:Int))
theorem Ui {B1 H1:Hp} {lo:Int} {n:Nat}:rI B1 H1 (Itr lo n) (rng lo n):=fun B2 H2 s1 s2=>by
 have hl:(rng lo n).length=n:=by unfold rng; simp
 refine ⟨fun i hi=>by rw [hl] at hi; exact hi,fun i t x H3 e y=> ?_,fun i hi=>by rw [hl] at hi; exact hi⟩
 obtain ⟨rfl,rfl⟩:=y
 refine ⟨zi.refl _, ?_⟩
 unfold rng at e
 rw [List.getElem?_map] at e
 by_cases hi:i < n
 ·rw [List.getElem?_range hi] at e
  cases e
  exact .int _
 ·rw [List.getElem?_eq_none (by simp; omega)] at e; cases e
def uC (fa:En->R T):En->R (List T):=fun ρ=>(fa ρ).bind fun t=>match t with
 | .int j=>if -1000000 < j/\j < 1000000 then .ok (rng 0 j.toNat) else .bad
 | _=> .bad
def qd (fa fb:En->R T):En->R (List T):=fun ρ=>(fa ρ).bind fun t=>(fb ρ).bind fun t' =>match t,t' with
 | .int i, .int j=>if -1000000 < i/\i < 1000000/\ -1000000 < j/\j < 1000000 then .ok (rng i (j - i).toNat) else .bad
 | _,_=> .bad
theorem qe (gl:Gl X "range") (mg:X.mg "range"=none) (ha:Snd X Y a fa) (hs:St1 X a:=by exact st1 rfl):wG X Y tg (.Call (.Name "range" p) [a] [] pos) (uC fa):= .mk fun ρ=>PI.imp (W7 gl mg (zg (ha ρ) zu hs) hs) fun σ H R ⟨B,I,q⟩=>step I q fun t v H1 _ s1 r1 I1 q1=>by
 cases r1 with
 | int j=>
  have q1:Po Y rI _ H1 (if -1000000 < j/\j < 1000000 then .ok (rng 0 j.toNat) else .bad) R:=q1
  split at q1
  ·rename_i hj
   exact ⟨j,rfl,by omega,by omega,Z6 I1 q1 Ui⟩
  ·exact q1.elim
 | _=>exact q1.elim
theorem qf (gl:Gl X "range") (mg:X.mg "range"=none) (ha:Snd X Y a fa) (hb:Snd X Y b fb) (hs:starEach [a,b] X.env=[(false,eval a X.env),(false,eval b X.env)]:=by exact st2 rfl rfl) (hs2:St1 X b:=by exact st1 rfl):wG X Y tg (.Call (.Name "range" p) [a,b] [] pos) (qd fa fb):= .mk fun ρ=>
 PI.imp (W8 gl mg (zg (ha ρ) (zg (hb ρ) zu hs2) (by rw [hs,hs2])) hs hs2) fun σ H R ⟨B,I,q⟩=>step I q fun t v H1 _ s1 r1 I1 q1=>step I1 q1 fun t' v' H2 _ s2 r2 I2 q2=>by
  cases r1 with
  | int i=>
   cases r2 with
   | int j=>
    have q2:Po Y rI _ H2 (if -1000000 < i/\i < 1000000/\ -1000000 < j/\j < 1000000 then .ok (rng i (j - i).toNat) else .bad) R:=q2
    split at q2
    ·rename_i hj
     exact ⟨i,j,rfl,⟨by omega,by omega,by omega,by omega⟩,Z6 I2 q2 Ui⟩
    ·exact q2.elim
   | _=>exact q2.elim
  | _=>cases r2 <;> exact q2.elim
def qg (X:Cx) (Y:Fx) (tg:Expr) (g:T->En->R En):Prop:=∃ t:TG,PG X tg t/\∀ B ρ σ H v x Q,SI Y B ρ σ H->Rep B v x->(match g x ρ with | .ok ρ' =>∀ σ',SI Y B ρ' σ' H->Q σ' H | _=>False)->t v σ H Q
def jo (i:Nat):T->En->R En:=fun t ρ=> .ok (ρ.set i (.vl t))
theorem Uj {i:Nat} {x:Str} (hN:X.N.Nodup) (hi:X.N[i]? =some x) (hx:L2.Loc X.env.scope x) (hf:X.fn x=true\/X.env.scope.names.lookup x=some .local:=by first | exact .inl rfl | exact .inr rfl | assumption):qg X Y (.Name x pos) (jo i):=
 ⟨jG i,zp hN hi hx hf,fun B ρ σ H v x Q I r q=>q _ (I.setV i r)⟩
def Jf (i j:Nat):T->En->R En:=fun t ρ=>match t with
 | .tup [x,y]=> .ok ((ρ.set i (.vl x)).set j (.vl y))
 | _=> .bad
def ug (g:T->En->R En) (fb:En->RS):List T->En->RS
 | [],ρ=> .nx ρ
 | t :: ts,ρ=>match g t ρ with
  | .ok ρ1=>match fb ρ1 with
   | .nx ρ2=>ug g fb ts ρ2
   | .ct ρ2=>ug g fb ts ρ2
   | .bk ρ2=> .nx ρ2
   | r=>r
  | .ex c=> .bad
  | .bad=> .bad
def ya (fi:En->R (List T)) (g:T->En->R En) (fb:En->RS):En->RS:=fun ρ=>(fi ρ).s fun ts=>ug g fb ts ρ
theorem qh {iter:Expr} {sts:List Stmt} {fi:En->R (List T)} {g:T->En->R En} {fb:En->RS} (hp:PassesOwn (model X.prog X.w) X.A X.env X.xe) (hc:X.calm=true) (hi:wG X Y tg iter fi) (hg:qg X Y tg g) (hb:JG X Y sts fb)
  (hs:∀ x,foldedSetIterable iter X.env x=pure x:=by intro _; rfl):jI X Y (.For tg iter sts [] pos) (ya fi g fb):= .mk fun ρ=>by
 obtain ⟨tG,hG,hG'⟩:=hg
 refine PS.imp (Yo (tb:=fun D σ H=>∃ ρ',tSS Y fb ρ' D σ H) hp hc (hi ρ) hG (fun pins s σ H D I ⟨ρ',q⟩=>hb ρ' pins s σ H D I q) hs) fun D σ H ⟨B,I,q⟩=> ?_
 refine jg I q fun ts J H1 _ s1 r1 I1 q1=> ?_
 refine ⟨fun i m σ' H' =>m=ts.length - i/\i<=ts.length/\∃ ρ' B',SI Y B' ρ' σ' H' /\zi (zt B H H1) B' /\PoS Y B' (ug g fb (ts.drop i) ρ') D,⟨ts.length,by simp,Nat.zero_le _,ρ,_,I1,zi.refl _,q1⟩, ?_⟩
 rintro i m σ' H' ⟨rfl,hi,ρ',B',I',sB',q'⟩
 obtain ⟨hgo,hyld,hstop⟩:=r1 B' H' sB' I'.sB
 by_cases hlt:i < ts.length
 ·refine .inr ⟨hgo i hlt,fun σ2 H2=>∃ ρ2 B2,SI Y B2 ρ2 σ2 H2/\zi (zt B H H1) B2/\PoS Y B2 (ug g fb (ts.drop (i+1)) ρ2) D,fun σ2 H2 ⟨ρ2,B2,I2,s2,q2⟩=>⟨ts.length - (i+1),by omega,rfl,hlt,ρ2,B2,I2,s2,q2⟩,fun x H2 y=> ?_⟩
  obtain ⟨s2,r2⟩:=hyld i _ x H2 (List.getElem?_eq_getElem hlt) y
  rw [List.drop_eq_getElem_cons hlt] at q'
  unfold ug at q'
  refine hG' _ ρ' σ' H2 x _ _ (I'.grow s2) r2 ?_
  cases eg:g ts[i] ρ' with
  | bad=>rw [eg] at q'; exact q'
  | ex c=>rw [eg] at q'; exact q'
  | ok ρ1=>
   rw [eg] at q'
   intro σ1 J1
   refine ⟨ρ1,_,J1, ?_⟩
   have q2:=PoS.up (zt.ge I'.sB s2) q'
   dsimp only at q2
   have s3:zi (zt B H H1) (zt B' H' H2):=sB'.trans (zt.ge I'.sB s2)
   revert q2
   cases fb ρ1 with
   | nx ρ2=>exact fun q2 σ3 H3 B3 s4 I3=>⟨ρ2,B3,I3,s3.trans s4,PoS.up s4 q2⟩
   | ct ρ2=>exact fun q2 σ3 H3 B3 s4 I3=>⟨ρ2,B3,I3,s3.trans s4,PoS.up s4 q2⟩
   | bk ρ2=>exact fun q2=>q2
   | rt t=>exact fun q2=>q2
   | rf t=>exact fun q2=>q2
   | ex c=>exact fun q2=>q2
   | bad=>exact fun q2=>q2
 ·have e:i=ts.length:=by omega
  subst e
  rw [List.drop_length] at q'
  exact .inl ⟨hstop _ (Nat.le_refl _),q' σ' H' B' (zi.refl _) I'⟩
def Zw (g:En->R Bool) (fb:En->RS):Nat->En->RS
 | 0,_=> .bad
 | n+1,ρ=>(g ρ).s fun k=>if k=true then match fb ρ with
   | .nx ρ2=>Zw g fb n ρ2
   | .ct ρ2=>Zw g fb n ρ2
   | .bk ρ2=> .nx ρ2
   | r=>r
  else .nx ρ
theorem yb {n:Nat} {sts:List Stmt} {ga:En->R Bool} {fb:En->RS} (hp:PassesOwn (model X.prog X.w) X.A X.env X.xe) (hc:w9 X Y c ga) (hb:JG X Y sts fb):jI X Y (.While c sts [] pos) (Zw ga fb n):= .mk fun ρ=>by
 refine PS.imp (ul (tc:=fun σ H Q=>∃ ρ',tS Y rE ga ρ' σ H Q) (tb:=fun D σ H=>∃ ρ',tSS Y fb ρ' D σ H) hp (fun pins s σ H D I ⟨ρ',q⟩=>hc ρ' pins s σ H D I q) (fun pins s σ H D I ⟨ρ',q⟩=>hb ρ' pins s σ H D I q)) fun D σ H ⟨B,I,q⟩=> ?_
 refine ⟨fun m σ' H' =>∃ ρ' B',SI Y B' ρ' σ' H' /\PoS Y B' (Zw ga fb m ρ') D,⟨n,ρ,B,I,q⟩, ?_⟩
 rintro m σ' H' ⟨ρ',B',I',q'⟩
 cases m with
 | zero=>exact q'.elim
 | succ m=>
  unfold Zw at q'
  refine ⟨ρ',jg I' q' fun t v H1 _ s1 r1 I1 q1=> ?_⟩
  have r1' :v=t:=r1
  subst r1'
  cases v with
  | false=>exact q1 _ _ _ (zi.refl _) I1
  | true=>
   refine ⟨fun σ2 H2=>∃ ρ2 B2,SI Y B2 ρ2 σ2 H2/\PoS Y B2 (Zw ga fb m ρ2) D,fun σ2 H2 h=>⟨m,Nat.lt_succ_self m,h⟩,ρ',_,I1, ?_⟩
   have q1:PoS Y _ (match fb ρ' with
    | .nx ρ2=>Zw ga fb m ρ2
    | .ct ρ2=>Zw ga fb m ρ2
    | .bk ρ2=> .nx ρ2
    | r=>r) D:=q1
   revert q1
   cases fb ρ' with
   | nx ρ2=>exact fun q2 σ3 H3 B3 s4 I3=>⟨ρ2,B3,I3,PoS.up s4 q2⟩
   | ct ρ2=>exact fun q2 σ3 H3 B3 s4 I3=>⟨ρ2,B3,I3,PoS.up s4 q2⟩
   | bk ρ2=>exact fun q2=>q2
   | rt t=>exact fun q2=>q2
   | rf t=>exact fun q2=>q2
   | ex c=>exact fun q2=>q2
   | bad=>exact fun q2=>q2
end
theorem ZZ {env:Env}:∀ (ns:List (Str×NameKind)) (acc:List (Str×Addr)),(∀ x∈ns,x.2=NameKind.free->∃ c,env.cells.lookup x.1=some c)->(∀ x c,acc.lookup x=some c->env.cells.lookup x=some c)->
  ∃ cl,(forIn ns acc (fun (x:Str×NameKind) (r:List (Str×Addr))=>if (x.2 == NameKind.free)=true then (do let c ← cellOf env x.1; pure (ForInStep.yield ((x.1,c) :: r))) else pure (ForInStep.yield r)):Sem _)=pure cl/\
   (∀ x c,cl.lookup x=some c->env.cells.lookup x=some c)/\(∀ x c,acc.lookup x=some c->∃ c',cl.lookup x=some c')/\(∀ x∈ns,x.2=NameKind.free->∃ c,cl.lookup x.1=some c)
 | [],acc,_,h=>⟨acc,rfl,h,fun x c e=>⟨c,e⟩,fun x hx=>by simp at hx⟩
 | (n,k) :: ns,acc,hf,h=>by
  by_cases hk:k=NameKind.free
  ·obtain ⟨c,hc⟩:=hf (n,k) List.mem_cons_self hk
   have h' :∀ x d,((n,c) :: acc).lookup x=some d->env.cells.lookup x=some d:=fun x d e=>by
    by_cases hx:x=n
    ·subst hx
     have e' :some c=some d:=by simpa [List.lookup_cons] using e
     cases e'; exact hc
    ·have e' :acc.lookup x=some d:=by
      rw [List.lookup_cons,(beq_eq_false_iff_ne.mpr hx)] at e; exact e
     exact h x d e'
   obtain ⟨cl,e,h1,h2,h3⟩:=ZZ ns ((n,c) :: acc) (fun x hx=>hf x (List.mem_cons_of_mem _ hx)) h'
   refine ⟨cl, ?_,h1,fun x d ed=> ?_,fun x hx hxf=> ?_⟩
   ·rw [List.forIn_cons]
    subst hk
    have q:cellOf env n=pure c:=by unfold cellOf; rw [hc]
    simp only [beq_self_eq_true,if_true,q]
    exact e
   ·by_cases hx:x=n
    ·subst hx; exact h2 x c (by simp [List.lookup_cons])
    ·exact h2 x d (by rw [List.lookup_cons,(beq_eq_false_iff_ne.mpr hx)]; exact ed)
   ·rcases List.mem_cons.mp hx with rfl | hx
    ·exact h2 n c (by simp [List.lookup_cons])
    ·exact h3 x hx hxf
  ·obtain ⟨cl,e,h1,h2,h3⟩:=ZZ ns acc (fun x hx=>hf x (List.mem_cons_of_mem _ hx)) h
   refine ⟨cl, ?_,h1,h2,fun x hx hxf=> ?_⟩
   ·rw [List.forIn_cons]
    have q:(k == NameKind.free)=false:=by simpa using hk
    simp only [q,Bool.false_eq_true,if_false]
    exact e
   ·rcases List.mem_cons.mp hx with rfl | hx
    ·exact absurd hxf hk
    ·exact h3 x hx hxf
theorem JH {scope:Scope} {env:Env} (hf:∀ x∈scope.names,x.2=NameKind.free->∃ c,env.cells.lookup x.1=some c):
  ∃ cl,closureFor scope env=pure cl/\(∀ x c,cl.lookup x=some c->env.cells.lookup x=some c)/\(∀ x∈scope.names,x.2=NameKind.free->∃ c,cl.lookup x.1=some c):=by
 obtain ⟨cl,e,h1,_,h3⟩:=ZZ scope.names [] hf (fun x c e=>by simp at e)
 refine ⟨cl, ?_,h1,h3⟩
 unfold closureFor
 show (do let cs ← _; pure cs)=_
 exact (by simpa using e)
def cxC (X:Cx) (scope:Scope) (N' :List Str) (cl:List (Str×Addr)) (C:Addr) (s3:Shared) (H3:Hp) (fp:List Addr) (pins:List (Addr×Obj)):Cx:=
 { X with N:=N',s₀:=s3,H₀:=H3,env:=compEnvC scope cl C X.env,outer:=X.stack,stack:=X.stack,ex:=fp,fn:=fun _=>false,pn:=X.pn++pins,xe:=fun _ _=>False }
structure CSc (X:Cx) (scope:Scope):Prop where
 kind:scope.kind= .function
 nocell:∀ x∈scope.names,x.2 ≠ .cell
 loc:∀ x∈scope.names,x.2= .local->scope.names.lookup x.1=some .local
 fre:∀ x∈scope.names,x.2= .free->X.env.kindOf x.1=some .cell\/X.env.kindOf x.1=some .free
theorem Zx {scope:Scope} {env:Env} {x:Str} {k:NameKind} (h:(relabel scope env).names.lookup x=some k) (hk:k= .cell\/k= .free) (hn:∀ x∈scope.names,x.2 ≠ NameKind.cell):∃ y∈scope.names,y.1=x/\y.2= .free:=by
 have go:∀ ns:List (Str×NameKind),(∀ x∈ns,x.2 ≠ NameKind.cell)->(ns.map fun (n,k)=>if (k == NameKind.free && env.scope.kind == .function && env.kindOf n == some .cell) then (n,NameKind.cell) else (n,k)).lookup x=some k->∃ y∈ns,y.1=x/\y.2= .free:=by
  intro ns
  induction ns with
  | nil=>intro _ h; simp at h
  | cons y ns ih=>
   intro hn h
   obtain ⟨n,k'⟩:=y
   by_cases hx:x=n
   ·subst hx
    refine ⟨(x,k'),List.mem_cons_self,rfl, ?_⟩
    rw [List.map_cons] at h
    by_cases hc:(k' == NameKind.free && env.scope.kind == .function && env.kindOf x == some .cell)=true
    ·rw [Bool.and_eq_true,Bool.and_eq_true] at hc
     exact eq_of_beq hc.1.1
    ·simp only [if_neg hc,List.lookup_cons,beq_self_eq_true] at h
     cases h
     rcases hk with rfl | rfl
     ·exact absurd rfl (hn _ List.mem_cons_self)
     ·rfl
   ·obtain ⟨z,hz,h1,h2⟩:=ih (fun z hz=>hn z (List.mem_cons_of_mem _ hz)) (by
     rw [List.map_cons] at h
     by_cases hc:(k' == NameKind.free && env.scope.kind == .function && env.kindOf n == some .cell)=true
     ·simp only [if_pos hc,List.lookup_cons,(beq_eq_false_iff_ne.mpr hx)] at h; exact h
     ·simp only [if_neg hc,List.lookup_cons,(beq_eq_false_iff_ne.mpr hx)] at h; exact h)
    exact ⟨z,List.mem_cons_of_mem _ hz,h1,h2⟩
 exact go scope.names hn h
section
variable {X:Cx} {pins:List (Addr×Obj)} {σ:Sg} {H:Hp} {s:Shared}
theorem Ww {scope:Scope} {N' :List Str} {cl:List (Str×Addr)} {fp:List Addr} {h' :Heap} {tk:Nat} {σ' :Sg} (I:L2.Inv X pins σ H s) (S:CSc X scope) (hc:X.calm=true)
  (hcl:∀ x c,cl.lookup x=some c->X.env.cells.lookup x=some c) (hcf:∀ x∈scope.names,x.2=NameKind.free->∃ c,cl.lookup x.1=some c)
  (hfp:∀ b∈fp,jT X pins H b) (hfo:∀ b∈fp,∃ o,s.heap.get? b=some o)
  (hns:h'.Ns s.heap.objs.size (fun _=>none)) (hk:∀ b o,s.heap.get? b=some o->h'.get? b=some o)
  (hl:σ'.length=N'.length) (hσ:∀ (i:Nat) (x:Str) (v:V),N'[i]? =some x->σ'[i]? =some (some v)->∃ j:Nat,X.N[j]? =some x/\σ[j]? =some (some v)/\Vis X.env.scope x/\(scope.names.lookup x=some .free)/\(X.env.kindOf x=some .cell\/X.env.kindOf x=some .free)):
  L2.Inv (cxC X scope N' cl s.heap.objs.size s H fp pins) [] σ' H { s with heap:=h',toks:=tk }:=by
 have stk:=I.stkSub
 have hlt:∀ b∈fp,b < s.heap.objs.size:=fun b hb=>let ⟨o,e⟩:=hfo b hb; Heap.lt_size e
 have fresh:H s.heap.objs.size=none:=I.hok.fresh (Nat.le_refl _)
 refine ⟨⟨I.ok.mod,S.kind,I.ok.glob,I.ok.blt,Nat.le_refl _,fun x y c h1 h2=>I.ok.inj x y c (hcl _ _ h1) (hcl _ _ h2),fun x hx=> ?_,fun x c h _=>(Bool.false_ne_true h).elim,fun _=>I.ok.hd hc,I.ok.frames, .inl rfl,fun b hb=> ?_,I.bs,
   Nat.le_trans I.ok.bsz I.sz,fun b o e hb=> ?_,fun b hb hb' => ?_,I.stack,I.stkFree⟩,rfl,I.bare,Un.kept hk,⟨_,hns,fun i x v h1 h2 h3=> ?_⟩,fun x c e=> ?_,fresh,fun x c e=>I.freeC x c (hcl _ _ e),fun p hp=> ?_,I.hok.kept hk,hl⟩
 ·have hx' :(relabel scope X.env).names.lookup x=some .cell\/(relabel scope X.env).names.lookup x=some .free:=hx
  obtain ⟨y,hy,rfl,hyf⟩:∃ y∈scope.names,y.1=x/\y.2= .free:=by
   rcases hx' with h | h
   ·exact Zx h (.inl rfl) S.nocell
   ·exact Zx h (.inr rfl) S.nocell
  exact hcf y hy hyf
 ·refine ⟨Nat.ne_of_lt (hlt b hb),fun x c e=>(hfp b hb).2.2.2.2.1 x c (hcl _ _ e)⟩
 ·rcases (hfp b hb).2.2.2.1 with h | h
  ·exact I.ok.noex b o e h
  ·exact absurd (Nat.lt_of_lt_of_le (Heap.lt_size e) (Nat.le_trans I.ok.bsz h)) (Nat.lt_irrefl _)
 ·have q:=hfp b hb
  rcases List.mem_cons.mp (stk b hb') with z | z
  ·exact q.2.1 z
  ·exact q.2.2.1 z
 ·obtain ⟨j,e1,e2,e3,e4,e5⟩:=hσ i x v h1 h2
  obtain ⟨m,hn,hloc⟩:=I.loc
  obtain ⟨u,ru,lk⟩:=hloc j x v e1 e2 e3
  refine ⟨u,ru, .inr ⟨?_, ?_⟩⟩
  ·have h3:Vis (relabel scope X.env) x:=h3
   rcases h3 with h | h | h
   ·exfalso
    have:∀ ns:List (Str×NameKind),ns.lookup x=some .free->(ns.map fun (n,k)=>if (k == NameKind.free && X.env.scope.kind == .function && X.env.kindOf n == some .cell) then (n,NameKind.cell) else (n,k)).lookup x ≠ some .local:=by
     intro ns
     induction ns with
     | nil=>intro z; simp at z
     | cons y ns ih=>
      obtain ⟨n,k⟩:=y
      intro z w
      rw [List.map_cons] at w
      by_cases hx:x=n
      ·subst hx
       have hkf:some k=some NameKind.free:=by simpa [List.lookup_cons] using z
       by_cases hcn:(k == NameKind.free && X.env.scope.kind == .function && X.env.kindOf x == some .cell)=true
       ·simp only [if_pos hcn,List.lookup_cons,beq_self_eq_true] at w; cases w
       ·simp only [if_neg hcn,List.lookup_cons,beq_self_eq_true] at w
        rw [hkf] at w; cases w
      ·have z' :ns.lookup x=some .free:=by rw [List.lookup_cons,(beq_eq_false_iff_ne.mpr hx)] at z; exact z
       refine ih z' ?_
       by_cases hcn:(k == NameKind.free && X.env.scope.kind == .function && X.env.kindOf n == some .cell)=true
       ·simp only [if_pos hcn,List.lookup_cons,(beq_eq_false_iff_ne.mpr hx)] at w; exact w
       ·simp only [if_neg hcn,List.lookup_cons,(beq_eq_false_iff_ne.mpr hx)] at w; exact w
    exact this _ e4 h
   ·exact .inl h
   ·exact .inr h
  ·rcases lk with ⟨hk',_⟩ | ⟨_,c,hc',hcell⟩
   ·rcases e5 with z | z <;> (rw [z] at hk'; cases hk')
   ·obtain ⟨c',hc2⟩:=hcf (x, .free) (PySem.mem_of_lookup e4) rfl
    have:=hcl x c' hc2
    rw [hc'] at this; cases this
    obtain ⟨o,eo,ed⟩:=hcell
    exact ⟨c,hc2,o,hk _ _ eo,ed⟩
 ·obtain ⟨v,o,eo,ed⟩:=I.cell x c (hcl _ _ e)
  exact ⟨v,o,hk _ _ eo,ed⟩
 ·have hp' :p∈X.pn++pins:=by
   have:p∈(X.pn++pins)++[]:=hp
   rwa [List.append_nil] at this
  obtain ⟨e,n,ne,nf,dc⟩:=I.pin p hp'
  refine ⟨hk _ _ e,n,Nat.ne_of_lt (Heap.lt_size e),fun hb=> ?_,dc⟩
  rcases List.mem_cons.mp (stk _ hb) with z | z
  ·exact ne z
  ·exact nf z
end
def PIf (X:Cx) (ifs:List Expr) (t:TT):Prop:=
 ∀ (pins:List (Addr×Obj)) (s:Shared) (σ:Sg) (H:Hp) (Q:Bool->Hp->Prop),L2.Inv X pins σ H s->t σ H Q->
  wpAny (model X.prog X.w) X.A (forIn ifs true fun c r=>if r=true then do let ok ← isTrue c X.env (eval c X.env); pure (ForInStep.yield ok) else pure (ForInStep.yield r)) (TP X pins σ Q) X.xe s
theorem yc {X:Cx}:PIf X [] (fun _ H Q=>Q true H):=fun _ _ σ H _ I h=>wpAny_tests_nil ⟨H,I,h⟩
theorem yd {X:Cx} {c:Expr} {t:TT} (h:PT X c t):PIf X [c] t:=fun pins s σ H Q I q=>wpAny_tests_one (h pins s σ H Q I q)
abbrev XE (X:Cx) (xe:Value->Shared->Prop):Cx:={ X with xe:=xe }
theorem wb {X:Cx} {pins:List (Addr×Obj)} {σ:Sg} {H:Hp} {s:Shared} {xe:Value->Shared->Prop} (I:L2.Inv X pins σ H s):L2.Inv (XE X xe) pins σ H s:=
 ⟨⟨I.ok.mod,I.ok.kind,I.ok.glob,I.ok.blt,I.ok.above,I.ok.inj,I.ok.has,I.ok.cab,I.ok.hd,I.ok.frames,I.ok.stk,I.ok.exf,I.ok.bs,I.ok.bsz,I.ok.noex,I.ok.exfs,I.ok.funs,I.ok.frf⟩,I.os,I.bare,I.base,I.loc,I.cell,I.free,I.freeC,I.pin,I.hok,I.len⟩
theorem Wx {X:Cx} {pins:List (Addr×Obj)} {σ:Sg} {H:Hp} {s:Shared} {xe:Value->Shared->Prop} (I:L2.Inv (XE X xe) pins σ H s):L2.Inv X pins σ H s:=(wb I:L2.Inv (XE (XE X xe) X.xe) pins σ H s)
theorem vy {X:Cx} {e:Expr} {t:TG} {xe:Value->Shared->Prop} (hx:X.xe=fun _ _=>False) (h:PG X e t):PG (XE X xe) e t:=fun pins s σ H v u Q I r q=>wpAny_mono (h pins s σ H v u Q (Wx I) r q) (fun _ s' ⟨σ',H',I',q'⟩=>⟨σ',H',wb I',q'⟩) fun e s' z=>by rw [hx] at z; exact z.elim
theorem qi {X:Cx} {e:List Expr} {t:TT} {xe:Value->Shared->Prop} (hx:X.xe=fun _ _=>False) (h:PIf X e t):PIf (XE X xe) e t:=fun pins s σ H Q I q=>wpAny_mono (h pins s σ H Q (Wx I) q) (fun _ s' ⟨H',I',q'⟩=>⟨H',wb I',q'⟩) fun e s' z=>by rw [hx] at z; exact z.elim
theorem wc {α:Type} {M:Model} {A:Around} {m:Sem α} {Q:α->Shared->Prop} {E E' :Value->Shared->Prop} {s:Shared} (hE:∀ e s',E' e s' ->E e s') (h:wpAny M A m Q E' s):wpAny M A m Q E s:=wpAny_mono h (fun _ _ q=>q) hE
def uD (J:It) (D:Addr) (g:TG) (tt:TT) (te:TE) (fin:Sg->Hp->Prop) (W:Nat->Nat->List V->Sg->Hp->Prop):Prop:=
 ∀ i m ys σ H,W i m ys σ H->H D=some (.lst ys)/\((J.stop i H/\fin σ H)\/(J.go i H/\∀ x H2,J.yld i H x H2->g x σ H2 fun σ3 H3=>tt σ3 H3 fun k H4=>
  if k=true then te σ3 H4 fun v H5=>H5 D=some (.lst ys)/\ys.length < sizeLine/\∃ m',m' < m/\W (i+1) m' (ys++[v]) σ3 (upd H5 D (.lst (ys++[v]))) else ∃ m',m' < m/\W (i+1) m' ys σ3 H4))
theorem Wy {X:Cx} {R:Result->Shared->Prop} (hx:∀ e s',X.xe e s' ->notedBy (model X.prog X.w) X.A X.env (fun e s' =>R (.error e) s') e s') (hc:X.calm=true) {tg iter elt:Expr} {ifs:List Expr} {scope:Scope} {pos:Pos} {J:It} {fp:List Addr} {it:Addr} {tn:Nat->Heap->Prop} (TJ:W5 X.prog X.w X.K tg J fp it tn)
  {g:TG} {tt:TT} {te:TE} (hg:PG X tg g) (ht:PIf X ifs tt) (he:PE X elt te) {D:Addr} {fin:Sg->Hp->Prop} (W:Nat->Nat->List V->Sg->Hp->Prop) (turn:uD J D g tt te fin W)
  (hR:∀ s σ H,L2.Inv X [] σ H s->fin σ H->R (.ok .next) s) {m0:Nat} {σ0:Sg} {H0:Hp} {s0:Shared} (w0:W 0 m0 [] σ0 H0) (I0:L2.Inv X [] σ0 H0 s0) (t0:tn 0 s0.heap) (f0:∀ b∈fp,jT X [] H0 b):
  codeAny (model X.prog X.w) X.A (.compLoop (.ListComp elt [⟨tg,iter,ifs,0⟩] scope pos) 0 (.ref it) (.ref D) X.env) R s0:=by
 have stat:∀ {H' :Hp},(∀ b∈fp,H' b=none)->∀ b∈fp,jT X [] H' b:=fun hn b hb=>⟨hn b hb,(f0 b hb).2⟩
 refine codeAny_loop rfl (fun n s' =>∃ i ys σ' H',L2.Inv X [] σ' H' s' /\tn i s'.heap/\(∀ b∈fp,H' b=none)/\W i n ys σ' H') (fun n s3 h3=> ?_) m0 ⟨0,[],σ0,H0,I0,t0,fun b hb=>(f0 b hb).1,w0⟩
 obtain ⟨i,ys,σ3,H3,I3,st3,fr3,w3⟩:=h3
 show wpAny _ X.A ((compTurn (.ListComp elt [⟨tg,iter,ifs,0⟩] scope pos) 0 (.ref it) (.ref D) X.env).onRaise (fun x=>do noteFrame x X.env; theTreesLotGoes x)) _ _ s3
 refine wpAny_noted ?_
 rw [compTurn_list]
 obtain ⟨hD,h⟩:=turn i n ys σ3 H3 w3
 rcases h with ⟨stop,qn⟩ | ⟨go,next⟩
 ·refine wpAny_bind (wpAny_standAt (wpAny_bind (thn (TJ.done X rfl rfl rfl hc i [] s3 σ3 H3 _ I3 (stat fr3) st3 stop) fun r s4 ⟨hr,I4⟩=> ?_)))
  subst hr
  exact wpAny_pure (hR s4 σ3 H3 I4 qn)
 ·refine wpAny_bind (wpAny_standAt (wpAny_bind (thn (TJ.item X rfl rfl rfl hc i [] s3 σ3 H3 _ I3 (stat fr3) st3 go) fun r s4 ⟨u,hr,h4⟩=> ?_)))
  subst hr
  refine wpAny_bind (thn h4 fun _ s5 ⟨x,H5,I5,r5,y5,st5,fr5⟩=> ?_)
  have I5' :=I5.pinned (stat fr5) (TJ.obj _ _ st5)
  refine wpAny_bind (wc hx (thn (hg _ s5 σ3 H5 x u _ I5' r5 (next x H5 y5)) fun _ s6 ⟨σ6,H6,I6,q6⟩=> ?_))
  have again:∀ {σ7:Sg} {H7:Hp} {s7:Shared} {ys' :List V},L2.Inv X ([]++jX fp s5.heap) σ7 H7 s7->(∃ m',m' < n/\W (i+1) m' ys' σ7 H7)->∃ m,m < n/\∃ i ys σ' H',L2.Inv X [] σ' H' s7/\tn i s7.heap/\(∀ b∈fp,H' b=none)/\W i m ys σ' H' :=fun {σ7 H7 s7 ys'} I7 ⟨m',hm,w7⟩=>by
   refine ⟨m',hm,i+1,ys',σ7,H7,I7.unpinned,TJ.keep _ _ _ st5 fun b hb o e=>(I7.pin (b,o) (List.mem_append_right _ (List.mem_append_right _ (Zh hb e)))).1,fun b hb=> ?_,w7⟩
   obtain ⟨o,e,d⟩:=TJ.obj _ _ st5 b hb
   exact (I7.pin (b,o) (List.mem_append_right _ (List.mem_append_right _ (Zh hb e)))).2.1
  refine wpAny_bind (wc hx (thn (ht _ s6 σ6 H6 _ I6 q6) fun k s7 ⟨H7,I7,q7⟩=> ?_))
  cases k with
  | false=>exact wpAny_pure ⟨rfl,again I7 q7⟩
  | true=>
   refine wpAny_bind (wpAny_bind (wc hx (thn (he _ s7 σ6 H7 _ I7 q7) fun v s8 ⟨y,H8,I8,r8,hD8,hlen,q8⟩=> ?_)))
   refine wpAny_bind (wc hx (thn (J9 _ s8 σ6 H8 (.ref D) [y] (.ref D) [v] (fun _ H9=>∃ m',m' < n/\W (i+1) m' (ys++[y]) σ6 H9) I8 rfl (.cons r8 .nil) ⟨D,ys,y,rfl,rfl,hD8,hlen,q8⟩) fun w s9 ⟨_,H9,I9,_,q9⟩=> ?_))
   exact wpAny_pure (wpAny_pure ⟨rfl,again I9 q9⟩)
def wd (k:Nat) (js:List Nat) (σ:Sg):Sg:=List.replicate k none++js.map fun j=>(σ[j]?).getD none
section
variable {X:Cx}
abbrev Y6 (X:Cx) (scope:Scope) (N' :List Str) (P:Cx->Prop):Prop:=∀ cl C s3 H3 fp pins,P (cxC X scope N' cl C s3 H3 fp pins)
abbrev vz (X:Cx) (scope:Scope) (N' :List Str) (E:XK) (P:Cx->Prop):Prop:=∀ cl C s3 H3 fp pins xe,zY (CX1 X.prog X.w) (XE (cxC X scope N' cl C s3 H3 fp pins) xe) E->P (XE (cxC X scope N' cl C s3 H3 fp pins) xe)
structure qj (X:Cx) (scope:Scope) (N' :List Str) (k:Nat) (js:List Nat):Prop where
 len:N'.length=k+js.length
 cap:∀ (i j:Nat),js[i]? =some j->∃ x,N'[k+i]? =some x/\X.N[j]? =some x/\Vis X.env.scope x/\scope.names.lookup x=some .free/\(X.env.kindOf x=some .cell\/X.env.kindOf x=some .free)
theorem we {E:XK} (hp:YG X E) {tg iter elt:Expr} {ifs:List Expr} {scope:Scope} {pos pos' :Pos} {N' :List Str} {k:Nat} {js:List Nat} {wi:TI} {g:TG} {tt:TT} {te:TE} {use:Option (Value->Sem Unit)} (S:CSc X scope) (CP:qj X scope N' k js) (hc:X.calm=true)
  (hi:PI X tg iter wi) (hg:Y6 X scope N' fun XC=>PG XC tg g) (ht:Y6 X scope N' fun XC=>PIf XC ifs tt) (he:vz X scope N' E fun XC=>PE XC elt te) {pins:List (Addr×Obj)} {σ:Sg} {H:Hp} {s:Shared} {Q:Value->Shared->Prop} {F:Addr->Hp->Prop} (I:L2.Inv X pins σ H s)
  (h:wi σ H fun J H1=>∀ D,H1 D=none->∃ W,(∃ m,W 0 m [] (wd k js σ) (upd H1 D (.lst [])))/\uD J D g tt te (fun _ H' =>F D H') W)
  (hQ:∀ D C H' s',L2.Inv X pins σ H' s' ->F D H' ->H' C=none->(X.s₀.heap.objs.size<=C)->C ≠ X.env.locals->(∀ x c,X.env.cells.lookup x=some c->c ≠ C)->(∀ p∈X.pn++pins,p.1 ≠ C)->(∃ m,s'.heap.Ns C m)->compPost (model X.prog X.w) X.A X.xe use Q (.ref D) C (.ok .next) s')
  (hs:∀ x,foldedSetIterable iter X.env x=pure x:=by intro _; rfl):
  wpAny (model X.prog X.w) X.A (comprehension (.ListComp elt [⟨tg,iter,ifs,0⟩] scope pos) scope X.env pos' (newList []) false (eval iter X.env) use) Q X.xe s:=by
 obtain ⟨cl,ecl,hcl,hcf⟩:=JH (scope:=scope) (env:=X.env) fun x hx hf=>I.ok.has x.1 (S.fre x hx hf)
 refine wpAny_comprehension_free rfl hs ecl S.kind S.loc ?_
 refine thn (hi pins s σ H _ I h) fun v s1 h1=>thn h1 fun itv s2 h2=> ?_
 obtain ⟨it,fp,tn,J,H2,e,I2,TJ,st2,f2,q2⟩:=h2
 subst e
 refine wpAny_newObj_type ?_
 have hD:H2 s2.heap.objs.size=none:=I2.hok.fresh (Nat.le_refl _)
 have I3:L2.Inv X pins σ (upd H2 s2.heap.objs.size (.lst [])) { s2 with heap:=s2.heap.push { cls:= .type "list",data:= .seq ([]:List Value).toArray } }:=
  I2.laid (t' :=s2.toks) (fun b u e=>Heap.get?_push_of_some _ e) (Nat.le_refl _) ⟨Nat.zero_le _,[],_, .nil,Heap.get?_push_size _ rfl⟩
 obtain ⟨W,⟨m0,w0⟩,turn⟩:=q2 s2.heap.objs.size hD
 have f3:∀ b∈fp,jT X pins (upd H2 s2.heap.objs.size (.lst [])) b:=fun b hb=>by
  obtain ⟨o,eo,_⟩:=TJ.obj _ _ st2 b hb
  exact ⟨by rw [zf (Nat.ne_of_lt (Heap.lt_size eo))]; exact (f2 b hb).1,(f2 b hb).2⟩
 have o3:∀ b∈fp,∃ o,(s2.heap.push { cls:= .type "list",data:= .seq ([]:List Value).toArray }).get? b=some o:=fun b hb=>by
  obtain ⟨o,eo,_⟩:=TJ.obj _ _ st2 b hb
  exact ⟨o,Heap.get?_push_of_some _ eo⟩
 refine wpAny_newFunctionEnv S.nocell (by intro y hy; simp at hy) (fun h4 hns4 hsb4=> ?_) S.kind
 generalize hG:s2.heap.push { cls:= .type "list",data:= .seq ([]:List Value).toArray }=G3 at I3 o3 hns4 hsb4 ⊢
 dsimp only at hns4 hsb4 ⊢
 have s3e:∃ s3:Shared,s3={ s2 with heap:=G3 }:=⟨_,rfl⟩
 obtain ⟨s3,es3⟩:=s3e
 have hh3:s3.heap=s2.heap.push { cls:= .type "list",data:= .seq ([]:List Value).toArray }:=by rw [es3,hG]
 have hg3:G3=s3.heap:=by rw [es3]
 rw [← es3] at I3
 have ht3:s2.toks=s3.toks:=by rw [es3]
 rw [hg3] at hns4 hsb4 o3
 have k4:∀ b o,s3.heap.get? b=some o->h4.get? b=some o:=fun b o e=>hsb4.extBut b o (Nat.ne_of_lt (Heap.lt_size e)) (Heap.get?_push_of_some _ e)
 have IC:=Ww (N' :=N') (cl:=cl) (fp:=fp) (σ' :=wd k js σ) (tk:=s3.toks+([]:List (Str×Value)).length) I3 S hc hcl hcf f3 o3 hns4 k4 (by unfold wd; simp [CP.len]) (fun i x v h1 h2=>by
  unfold wd at h2
  by_cases hik:i < k
  ·rw [List.getElem?_append_left (by simpa using hik),List.getElem?_replicate,if_pos hik] at h2
   cases h2
  ·have hk' :k<=i:=by omega
   rw [List.getElem?_append_right (by simpa using hk'),List.length_replicate,List.getElem?_map] at h2
   cases ej:js[i - k]? with
   | none=>rw [ej] at h2; cases h2
   | some j=>
    rw [ej] at h2
    obtain ⟨y,e1,e2,e3,e4,e5⟩:=CP.cap (i - k) j ej
    have:k+(i - k)=i:=by omega
    rw [this,h1] at e1
    cases e1
    refine ⟨j,e2, ?_,e3,e4,e5⟩
    have h2' :some ((σ[j]?).getD none)=some (some v):=h2
    cases ez:σ[j]? with
    | none=>rw [ez] at h2'; cases h2'
    | some z=>rw [ez] at h2'; exact congrArg some (Option.some.inj h2'))
 have TC:W5 (cxC X scope N' cl s3.heap.objs.size s3 (upd H2 s2.heap.objs.size (.lst [])) fp pins).prog (cxC X scope N' cl s3.heap.objs.size s3 (upd H2 s2.heap.objs.size (.lst [])) fp pins).w (cxC X scope N' cl s3.heap.objs.size s3 (upd H2 s2.heap.objs.size (.lst [])) fp pins).K tg J fp it tn:=TJ
 have t4:tn 0 h4:=TJ.keep _ _ _ st2 fun b hb o e=>k4 b o (by rw [hh3]; exact Heap.get?_push_of_some _ e)
 have fC:∀ b∈fp,jT (cxC X scope N' cl s3.heap.objs.size s3 (upd H2 s2.heap.objs.size (.lst [])) fp pins) [] (upd H2 s2.heap.objs.size (.lst [])) b:=fun b hb=>by
  obtain ⟨q0,q1,q2,q3,q4,q5⟩:=f3 b hb
  obtain ⟨o,eo⟩:=o3 b hb
  refine ⟨q0,Nat.ne_of_lt (Heap.lt_size eo),fun hb' => ?_, .inl hb,fun x c e=>q4 x c (hcl _ _ e),fun p hp=> ?_⟩
  ·rcases List.mem_cons.mp (I3.stkSub b hb') with z | z
   ·exact q1 z
   ·exact q2 z
  ·exact q5 p (by
    have:p∈(X.pn++pins)++[]:=hp
    rwa [List.append_nil] at this)
 have fin:∀ (s5:Shared) (σ5:Sg) (H5:Hp),L2.Inv (cxC X scope N' cl s3.heap.objs.size s3 (upd H2 s2.heap.objs.size (.lst [])) fp pins) [] σ5 H5 s5->F s2.heap.objs.size H5->compPost (model X.prog X.w) X.A X.xe use Q (.ref s2.heap.objs.size) s3.heap.objs.size (.ok .next) s5:=fun s5 σ5 H5 I5 q5=>by
  have J5:L2.Inv X pins σ H5 s5:=I3.call' (ch:=fp) I5.os I5.base I5.hok I5.bare fun b hb=>by
   obtain ⟨q0,q1,q2,q3,q4,q5⟩:=f3 b hb
   exact ⟨q3,q1,q4,q5⟩
  refine hQ _ _ H5 s5 J5 q5 I5.free I3.sz (Nat.ne_of_gt I3.lt) (fun x c e z=> ?_) (fun p hp z=> ?_) (let ⟨m,hm,_⟩:=I5.loc; ⟨m,hm⟩)
  ·obtain ⟨v',o,eo,_⟩:=I3.cell x c e
   exact absurd (Heap.lt_size eo) (by rw [z]; exact Nat.lt_irrefl _)
  ·exact absurd (Heap.lt_size (I3.pin p hp).1) (by rw [z]; exact Nat.lt_irrefl _)
 have pass:zY (CX1 X.prog X.w) (XE (cxC X scope N' cl s3.heap.objs.size s3 (upd H2 s2.heap.objs.size (.lst [])) fp pins) (notedBy (model X.prog X.w) X.A (compEnvC scope cl s3.heap.objs.size X.env) fun e s' =>compPost (model X.prog X.w) X.A X.xe use Q (.ref s2.heap.objs.size) s3.heap.objs.size (.error e) s')) E:=by
  intro pins1 σ1 H1 s1 e s' I1 c1
  have J1:L2.Inv X pins σ H1 s1:=I3.call' (ch:=fp) I1.os I1.base I1.hok I1.bare fun b hb=>by
   obtain ⟨q0,q1,q2,q3,q4,q5⟩:=f3 b hb
   exact ⟨q3,q1,q4,q5⟩
  obtain ⟨m1,hm1,_⟩:=I1.loc
  refine thn (hp pins σ H1 s1 e s' s3.heap.objs.size m1 _ (compEnvC scope cl s3.heap.objs.size X.env) J1 hm1 I1.free I3.sz (fun z=> ?_) rfl c1) fun _ s'' q=> ?_
  ·obtain ⟨_,o,eo,_⟩:=I3.stack.mem z
   exact absurd (Heap.lt_size eo) (Nat.lt_irrefl _)
  ·cases use <;> exact q
 have loop:=Wy (X:=XE (cxC X scope N' cl s3.heap.objs.size s3 (upd H2 s2.heap.objs.size (.lst [])) fp pins) (notedBy (model X.prog X.w) X.A (compEnvC scope cl s3.heap.objs.size X.env) fun e s' =>compPost (model X.prog X.w) X.A X.xe use Q (.ref s2.heap.objs.size) s3.heap.objs.size (.error e) s')) (iter:=iter) (scope:=scope) (pos:=pos) (R:=compPost (model X.prog X.w) X.A X.xe use Q (.ref s2.heap.objs.size) s3.heap.objs.size) (fun _ _ z=>z) hc TC (vy rfl (hg _ _ _ _ _ _)) (qi rfl (ht _ _ _ _ _ _)) (he _ _ _ _ _ _ _ pass) W turn (fun s5 σ5 H5 I5=>fin s5 σ5 H5 (Wx I5)) w0 (wb IC) t4 fC
 rw [es3] at loop
 exact codeAny_compStart_list loop (TJ.self _ _ _ _ _ t4 loop)
end
def Zd (g:T->En->R En) (ft:En->R Bool) (fe:En->R T):List T->En->R (List T)
 | [],_=> .ok []
 | t :: ts,ρ=>(g t ρ).bind fun ρ1=>(ft ρ1).bind fun k=>if k=true then (fe ρ1).bind fun v=>(Zd g ft fe ts ρ1).bind fun vs=> .ok (v :: vs) else Zd g ft fe ts ρ1
def uE:Option Sl->Sl
 | some (.vl t)=> .vl t
 | _=> .un
def jJ (k:Nat) (js:List Nat) (ρ:En):En:=List.replicate k .un++js.map fun j=>uE ρ[j]?
def quiet {α:Type}:R α->R α
 | .ok a=> .ok a
 | _=> .bad
def JI (g:T->En->R En) (ft:En->R Bool) (fe:En->R T) (k:Nat) (js:List Nat) (ρ:En) (ts:List T):R (List T):=if ts.length<=bnd then quiet (Zd g ft fe ts (jJ k js ρ)) else .bad
def Ze (fi:En->R (List T)) (g:T->En->R En) (ft:En->R Bool) (fe:En->R T) (k:Nat) (js:List Nat):En->R T:=fun ρ=>(fi ρ).bind fun ts=>(JI g ft fe k js ρ ts).bind fun vs=> .ok (.lst vs)
def GOk (tG:TG) (g:T->En->R En):Prop:=∀ Y B ρ σ H v x Q,SI Y B ρ σ H->Rep B v x->(match g x ρ with | .ok ρ' =>∀ σ',SI Y B ρ' σ' H->Q σ' H | _=>False)->tG v σ H Q
theorem zP (i:Nat):GOk (jG i) (jo i):=fun Y B ρ σ H v x Q I r q=>q _ (I.setV i r)
theorem ZT (K:PySem.W.Frag) (i j:Nat):GOk (QI K 2 (ww (jG i) (ww (jG j) QH))) (Jf i j):=fun Y B ρ σ H v t Q I r q=>by
 cases r with
 | @tup l xs ts h r=>
  cases r with
  | nil=>exact q.elim
  | cons r1 rr=>
   cases rr with
   | nil=>exact q.elim
   | cons r2 rr=>
    cases rr with
    | cons _ _=>exact q.elim
    | nil=>exact ⟨l,_,rfl,SqT.of (I.sB _ _ h),rfl,_,_,rfl,_,_,rfl,rfl,q _ ((I.setV i r1).setV j r2)⟩
 | _=>exact q.elim
theorem SI.blockS {Y:Fx} {B:Hp} {ρ:En} {σ:Sg} {H H' :Hp} (I:SI Y B ρ σ H) (k:Nat) (js:List Nat) (E:XK) (s:zi H H'):SI ⟨B,H,E,Y.cl⟩ B (jJ k js ρ) (wd k js σ) H' where
 s0:=I.sB
 sH:=s
 sB:=I.sB.trans s
 old:=fun _ _ _=>rfl
 len:=by unfold jJ wd; simp
 vl:=fun i t h=>by
  unfold jJ at h
  unfold wd
  by_cases hik:i < k
  ·rw [List.getElem?_append_left (by simpa using hik),List.getElem?_replicate,if_pos hik] at h; cases h
  ·have hk' :k<=i:=by omega
   rw [List.getElem?_append_right (by simpa using hk'),List.length_replicate,List.getElem?_map] at h ⊢
   cases ej:js[i - k]? with
   | none=>rw [ej] at h; cases h
   | some j=>
    rw [ej] at h
    have h' :uE ρ[j]? = .vl t:=Option.some.inj h
    unfold uE at h'
    split at h'
    ·rename_i u e
     cases h'
     obtain ⟨v,e1,r⟩:=I.vl j _ e
     exact ⟨v,by show some ((σ[j]?).getD none)=_; rw [e1]; rfl,r⟩
    ·cases h'
 ow:=fun i ts h=>by
  exfalso
  unfold jJ at h
  by_cases hik:i < k
  ·rw [List.getElem?_append_left (by simpa using hik),List.getElem?_replicate,if_pos hik] at h; cases h
  ·have hk' :k<=i:=by omega
   rw [List.getElem?_append_right (by simpa using hk'),List.length_replicate,List.getElem?_map] at h
   cases ej:js[i - k]? with
   | none=>rw [ej] at h; cases h
   | some j=>
    rw [ej] at h
    have h' :uE ρ[j]? = .ow ts:=Option.some.inj h
    unfold uE at h'
    split at h' <;> cases h'
 xc:=fun i c h=>by
  exfalso
  unfold jJ at h
  by_cases hik:i < k
  ·rw [List.getElem?_append_left (by simpa using hik),List.getElem?_replicate,if_pos hik] at h; cases h
  ·have hk' :k<=i:=by omega
   rw [List.getElem?_append_right (by simpa using hk'),List.length_replicate,List.getElem?_map] at h
   cases ej:js[i - k]? with
   | none=>rw [ej] at h; cases h
   | some j=>
    rw [ej] at h
    have h' :uE ρ[j]? = .xc c:=Option.some.inj h
    unfold uE at h'
    split at h' <;> cases h'
theorem SI.block {Y:Fx} {B:Hp} {ρ:En} {σ:Sg} {H H3:Hp} {D:Addr} (I:SI Y B ρ σ H) (k:Nat) (js:List Nat) (E:XK) (hD:H D=none) (o:HO):SI ⟨B,H,E,Y.cl⟩ B (jJ k js ρ) (wd k js σ) (upd H D o):=I.blockS k js E (zi.new hD _)
theorem SI.acc {Y:Fx} {B:Hp} {ρ:En} {σ:Sg} {H:Hp} {D:Addr} (I:SI Y B ρ σ H) (hb:B D=none) (h0:Y.H0 D=none) (ho:∀ (i:Nat) (ts:List T),ρ[i]? =some (Sl.ow ts)->σ[i]? ≠ some (some (V.ref D))) (o:HO):SI Y B ρ σ (upd H D o) where
 s0:=I.s0
 sH:=fun b u h=>by
  rw [zf (fun z=>by subst z; rw [h0] at h; cases h)]; exact I.sH b u h
 sB:=fun b u h=>by
  rw [zf (fun z=>by subst z; rw [hb] at h; cases h)]; exact I.sB b u h
 old:=I.old
 len:=I.len
 vl:=I.vl
 ow:=fun i ts h=>by
  obtain ⟨a,xs,e,b0,h0',hh,r,d⟩:=I.ow i ts h
  refine ⟨a,xs,e,b0,h0', ?_,r,d⟩
  rw [zf (fun z=>ho i ts h (by rw [e,z]))]; exact hh
 xc:=I.xc
def ye (ρ:En):Prop:=∀ (i:Nat) (ts:List T),ρ[i]? ≠ some (Sl.ow ts)
theorem uF (k:Nat) (js:List Nat) (ρ:En):ye (jJ k js ρ):=fun i ts h=>by
 unfold jJ at h
 by_cases hik:i < k
 ·rw [List.getElem?_append_left (by simpa using hik),List.getElem?_replicate,if_pos hik] at h; cases h
 ·have hk' :k<=i:=by omega
  rw [List.getElem?_append_right (by simpa using hk'),List.length_replicate,List.getElem?_map] at h
  cases ej:js[i - k]? with
  | none=>rw [ej] at h; cases h
  | some j=>
   rw [ej] at h
   have h' :uE ρ[j]? = .ow ts:=Option.some.inj h
   unfold uE at h'
   split at h' <;> cases h'
theorem jK {ρ:En} {i:Nat} {t:T} (h:ye ρ):ye (ρ.set i (.vl t)):=fun j ts e=>by
 rcases zy e with ⟨_,z⟩ | ⟨_,z⟩
 ·cases z
 ·exact h j ts z
def GNo (g:T->En->R En):Prop:=(∀ t ρ ρ',ye ρ->g t ρ= .ok ρ' ->ye ρ')/\∀ t ρ c,g t ρ ≠ .ex c
theorem zQ (i:Nat):GNo (jo i):=⟨fun t ρ ρ' h e=>by
 cases e; exact jK h,fun t ρ c e=>by cases e⟩
theorem ZU (i j:Nat):GNo (Jf i j):=⟨fun t ρ ρ' h e=>(by
 unfold Jf at e
 split at e
 ·cases e; exact jK (jK h)
 ·cases e),fun t ρ c e=>by unfold Jf at e; split at e <;> cases e⟩
section
variable {X:Cx} {Y:Fx} {tg iter elt:Expr} {ifs:List Expr} {scope:Scope} {pos pos' :Pos} {N' :List Str} {k:Nat} {js:List Nat} {fi:En->R (List T)} {tG:TG} {g:T->En->R En} {ft:En->R Bool} {fe:En->R T}
structure JJ (X:Cx) (Y:Fx) (ifs:List Expr) (f:En->R Bool):Prop where
 mk ::
 go:∀ ρ,PIf X ifs (tS Y rE f ρ)
instance {X:Cx} {Y:Fx} {ifs:List Expr} {f:En->R Bool}:CoeFun (JJ X Y ifs f) fun _=>∀ ρ,PIf X ifs (tS Y rE f ρ):=⟨JJ.go⟩
theorem PIf.imp {X:Cx} {e:List Expr} {t t' :TT} (h:PIf X e t) (i:∀ σ H Q,t' σ H Q->t σ H Q):PIf X e t' :=fun pins s σ H Q I q=>h pins s σ H Q I (i σ H Q q)
def wH:En->R Bool:=fun _=> .ok true
theorem qk {X:Cx}:JJ X Y [] wH:= .mk fun ρ=>PIf.imp yc fun σ H Q ⟨B,I,q⟩=>Z6 I q rfl
theorem qm {X:Cx} {c:Expr} (h:w9 X Y c ft):JJ X Y [c] ft:= .mk fun ρ=>yd (h ρ)
def xR (r:R (List T)) (P:List T->Prop) (Z:Nat->Prop):Prop:=match r with
 | .ok vs=>P vs
 | .ex c=>Z c
 | .bad=>False
theorem wI {B1 H1:Hp} {σ:Sg} {ρ:En} {J:It} {ts:List T} {r:R (List T)} {D:Addr} {E0:XK} (hG:GOk tG g) (hN:GNo g) (I:SI Y B1 ρ σ H1) (rI' :rI B1 H1 J ts) (hl:ts.length<=bnd) (ev:Zd g ft fe ts (jJ k js ρ)=r) (hD:H1 D=none) {F:Hp->Prop}
  (hF:xR r (fun vs=>∀ H' xs B',zi H1 H' ->H' D=some (.lst xs)->zo B' xs vs->zi B' (zt B1 H1 H')->B' D=none->zi B1 B' ->F H') fun c=>∀ d H',zi H1 H' ->zi B1 H' ->E0 (Y.cl c) d H'):
  ∃ W,(∃ m,W 0 m [] (wd k js σ) (upd H1 D (.lst [])))/\uD J D tG (fun σ H Q=>∃ Y' ρ',Y'.cl=Y.cl/\tS Y' rE ft ρ' σ H Q) (fun σ H Q=>∃ Y' ρ',Y'.cl=Y.cl/\Y'.E=E0/\tS Y' rC fe ρ' σ H Q) (fun _ H' =>F H') W:=by
 refine ⟨fun i m ys σ' H' =>m=ts.length - i/\i<=ts.length/\ys.length<=i/\H' D=some (.lst ys)/\∃ ρ' B' us,SI ⟨B1,H1,E0,Y.cl⟩ B' ρ' σ' H' /\ye ρ' /\zi B1 B' /\B' D=none/\zo B' ys us/\((Zd g ft fe (ts.drop i) ρ').bind fun ws=> .ok (us++ws))=r,
  ⟨ts.length,by simp,Nat.zero_le _,Nat.zero_le _,zh,_,B1,[],I.block (H3:=H1) k js _ hD _,uF k js ρ,zi.refl _,I.sB.free hD, .nil,by rw [List.drop_zero,ev]; cases r <;> rfl⟩, ?_⟩
 rintro i m ys σ' H' ⟨rfl,hi,hyl,hDl,ρ',B',us,I',no',s1',bD,r',ew⟩
 refine ⟨hDl, ?_⟩
 obtain ⟨hgo,hyld,hstop⟩:=rI' B' H' s1' I'.sB
 have tD:∀ H2,zi H' H2->zt B' H' H2 D=none:=fun H2 s=>by rw [zH hDl]; exact bD
 by_cases hlt:i < ts.length
 ·refine .inr ⟨hgo i hlt,fun x H2 y=> ?_⟩
  obtain ⟨s2,r2⟩:=hyld i _ x H2 (List.getElem?_eq_getElem hlt) y
  rw [List.drop_eq_getElem_cons hlt] at ew
  unfold Zd at ew
  have I2:=I'.grow s2
  refine hG _ _ ρ' σ' H2 x _ _ I2 r2 ?_
  cases eg:g ts[i] ρ' with
  | bad=>rw [eg] at ew; subst ew; exact hF
  | ex c=>exact (hN.2 _ _ _ eg).elim
  | ok ρ1=>
   rw [eg] at ew
   have no1:ye ρ1:=hN.1 _ _ _ no' eg
   intro σ1 J1
   refine ⟨⟨B1,H1,E0,Y.cl⟩,ρ1,rfl,_,J1, ?_⟩
   have ew1:((ft ρ1).bind (fun k=>if k=true then (fe ρ1).bind fun v=>(Zd g ft fe (ts.drop (i+1)) ρ1).bind fun vs=> .ok (v :: vs) else Zd g ft fe (ts.drop (i+1)) ρ1)).bind (fun ws=> .ok (us++ws))=r:=ew
   cases ef:ft ρ1 with
   | bad=>rw [ef] at ew1; subst ew1; exact hF
   | ex c=>
    rw [ef] at ew1; subst ew1
    exact fun d H' a b=>hF d H' a ((s1'.trans (zt.ge I'.sB s2)).trans b)
   | ok kk=>
    rw [ef] at ew1
    intro b H3 s3 eb
    have eb' :b=kk:=eb
    subst eb'
    have ew2:(if b=true then (fe ρ1).bind fun v=>(Zd g ft fe (ts.drop (i+1)) ρ1).bind fun vs=> .ok (v :: vs) else Zd g ft fe (ts.drop (i+1)) ρ1).bind (fun ws=> .ok (us++ws))=r:=ew1
    have J2:=J1.grow s3
    have hD3:H3 D=some (.lst ys):=s3 _ _ (s2 _ _ hDl)
    have bD3:zt (zt B' H' H2) H2 H3 D=none:=by rw [zH (s2 _ _ hDl)]; exact tD H2 s2
    have sB3:zi B' (zt (zt B' H' H2) H2 H3):=(zt.ge I'.sB s2).trans (zt.ge I2.sB s3)
    cases b with
    | false=>exact ⟨ts.length - (i+1),by omega,rfl,hlt,by omega,hD3,ρ1,_,us,J2,no1,s1'.trans sB3,bD3,r'.mono sB3,ew2⟩
    | true=>
     refine ⟨⟨B1,H1,E0,Y.cl⟩,ρ1,rfl,rfl,_,J2, ?_⟩
     have ew3:((fe ρ1).bind (fun v=>(Zd g ft fe (ts.drop (i+1)) ρ1).bind fun vs=> .ok (v :: vs))).bind (fun ws=> .ok (us++ws))=r:=ew2
     cases ee:fe ρ1 with
     | bad=>rw [ee] at ew3; subst ew3; exact hF
     | ex c=>
      rw [ee] at ew3; subst ew3
      exact fun d H' a b=>hF d H' a ((s1'.trans sB3).trans b)
     | ok v=>
      rw [ee] at ew3
      have ew4:((Zd g ft fe (ts.drop (i+1)) ρ1).bind (fun vs=> .ok (v :: vs))).bind (fun ws=> .ok (us++ws))=r:=ew3
      have ew5:(Zd g ft fe (ts.drop (i+1)) ρ1).bind (fun ws=> .ok ((us++[v])++ws))=r:=by
       rw [← ew4]
       cases Zd g ft fe (ts.drop (i+1)) ρ1 with
       | ok ws=>show R.ok _=R.ok _; rw [List.append_assoc]; rfl
       | _=>rfl
      intro w H4 s4 rw4
      have hD4:H4 D=some (.lst ys):=s4 _ _ hD3
      have J3:=J2.grow s4
      have bD4:zt (zt (zt B' H' H2) H2 H3) H3 H4 D=none:=by rw [zH hD3]; exact bD3
      have sB4:=sB3.trans (zt.ge J2.sB s4)
      refine ⟨hD4,Nat.lt_of_lt_of_le (Nat.lt_of_le_of_lt hyl hlt) (zV hl),ts.length - (i+1),by omega,rfl,hlt,by rw [List.length_append,List.length_singleton]; omega,zh,ρ1,_,us++[v], ?_,no1,s1'.trans sB4,bD4,(r'.mono sB4).append (.cons rw4 .nil),ew5⟩
      exact J3.acc bD4 hD (fun j ts' e=>(no1 j ts' e).elim) _
 ·have e:i=ts.length:=by omega
  subst e
  refine .inl ⟨hstop _ (Nat.le_refl _), ?_⟩
  rw [List.drop_length] at ew
  have ew' :R.ok (us++[])=r:=ew
  rw [List.append_nil] at ew'
  subst ew'
  refine hF H' ys B' I'.sH hDl r' (fun b o h=> ?_) bD s1'
  cases q:H1 b with
  | none=>rw [zA q]; exact I'.sB b o h
  | some u=>
   rw [zH q]
   have z:B' b=B1 b:=I'.old b u q
   rw [← z]; exact h
theorem Jg {B1 H1:Hp} {σ:Sg} {ρ:En} {J:It} {ts vs:List T} {D:Addr} (hG:GOk tG g) (hN:GNo g) (I:SI Y B1 ρ σ H1) (rI' :rI B1 H1 J ts) (hl:ts.length<=bnd) (ev:Zd g ft fe ts (jJ k js ρ)= .ok vs) (hD:H1 D=none) {F:Hp->Prop}
  (hF:∀ H' xs B',zi H1 H' ->H' D=some (.lst xs)->zo B' xs vs->zi B' (zt B1 H1 H')->B' D=none->zi B1 B' ->F H'):
  ∃ W,(∃ m,W 0 m [] (wd k js σ) (upd H1 D (.lst [])))/\uD J D tG (fun σ H Q=>∃ Y' ρ',Y'.cl=Y.cl/\tS Y' rE ft ρ' σ H Q) (fun σ H Q=>∃ Y' ρ',Y'.cl=Y.cl/\(Y'.E=fun _ _ _=>False)/\tS Y' rC fe ρ' σ H Q) (fun _ H' =>F H') W:=wI hG hN I rI' hl ev hD hF
structure Wz (X:Cx) (Y:Fx) (tg iter elt:Expr) (ifs:List Expr) (scope:Scope) (N' :List Str) (k:Nat) (js:List Nat) (fi:En->R (List T)) (tG:TG) (g:T->En->R En) (ft:En->R Bool) (fe:En->R T):Prop where
 sc:CSc X scope
 cp:qj X scope N' k js
 cm:X.calm=true
 it:wG X Y tg iter fi
 gt:Y6 X scope N' fun XC=>PG XC tg tG
 gk:GOk tG g
 gn:GNo g
 tt:∀ Y',Y'.cl=Y.cl->Y6 X scope N' fun XC=>JJ XC Y' ifs ft
 el:∀ Y',Y'.cl=Y.cl->vz X scope N' Y'.E fun XC=>Snd XC Y' elt fe
 hs:∀ x,foldedSetIterable iter X.env x=pure x
theorem Z9 (C:Wz X Y tg iter elt ifs scope N' k js fi tG g ft fe):Snd X Y (.ListComp elt [⟨tg,iter,ifs,0⟩] scope pos) (Ze fi g ft fe k js):= .mk fun ρ=>by
 intro pins s σ H Q I ⟨B,J,q⟩
 rw [eval_ListComp]
 refine we (jn rfl) (use:=none) (Q:=EP X pins σ Q) (F:=fun D H' =>Q (.ref D) H') (te:=fun σ H Q=>∃ Y' ρ',Y'.cl=Y.cl/\(Y'.E=fun _ _ _=>False)/\tS Y' rC fe ρ' σ H Q) (tt:=fun σ H Q=>∃ Y' ρ',Y'.cl=Y.cl/\tS Y' rE ft ρ' σ H Q) C.sc C.cp C.cm (C.it ρ) C.gt
  (fun cl Cx' s3 H3 fp pins pins' s σ H Q I ⟨Y',ρ',ey,q⟩=>C.tt Y' ey cl Cx' s3 H3 fp pins ρ' pins' s σ H Q I q) (fun cl Cx' s3 H3 fp pins xe hp pins' s σ H Q I ⟨Y',ρ',ey,eE,q⟩=>C.el Y' ey cl Cx' s3 H3 fp pins xe (eE ▸ hp) ρ' pins' s σ H Q I q) I ?_ ?_ C.hs
 ·refine step J q fun ts it' H1 _ s1 r1 J1 q1=> ?_
  intro D hD
  unfold JI at q1
  split at q1
  ·rename_i hl
   cases ev:Zd g ft fe ts (jJ k js ρ) with
   | bad=>rw [ev] at q1; exact q1.elim
   | ex c=>rw [ev] at q1; exact q1.elim
   | ok vs=>
    rw [ev] at q1
    refine Jg C.gk C.gn J1 r1 hl ev hD fun H' xs B' s' e' r' l' b' sb' => ?_
    refine (show Po Y rC _ H1 (.ok (.lst vs)) Q from q1) (.ref D) H' s' ?_
    exact .lst (by rw [zA hD]; exact e') (r'.mono l')
  ·exact q1.elim
 ·intro D Cc H' s' I' q' hC h0 hL hcell hpin hns
  obtain ⟨m,hm⟩:=hns
  refine ⟨m,hm,fun h' hsb=>⟨.ref D,H', ?_,rfl,q'⟩⟩
  exact I'.turned (t' :=s'.toks) (fun b o hb e=>hsb.extBut b o hb e) hC (Ne.symm hL).symm (.inr h0) hcell hpin
end
section
variable {X:Cx} {Y:Fx} {tg iter elt:Expr} {ifs:List Expr} {scope:Scope} {pos pos' :Pos} {N' :List Str} {k:Nat} {js:List Nat} {fi:En->R (List T)} {tG:TG} {g:T->En->R En} {ft:En->R Bool} {fe:En->R T}
theorem Uk {i:Nat} {x:Str} {pc p' :Pos} (C:Wz X Y tg iter elt ifs scope N' k js fi tG g ft fe) (hN:X.N.Nodup) (hi:X.N[i]? =some x) (hx:L2.Loc X.env.scope x)
  (hsw:swapsWith (.ListComp elt [⟨tg,iter,ifs,0⟩] scope pc) (some (.Name x p')) pos.line X.env=pure true) (hf:X.fn x=true\/X.env.scope.names.lookup x=some .local:=by first | exact .inl rfl | exact .inr rfl | assumption):
  jI X Y (.Assign [.Name x p'] (.ListComp elt [⟨tg,iter,ifs,0⟩] scope pc) pos) (Zy i (Ze fi g ft fe k js)):= .mk fun ρ=>by
 intro pins s σ H D I ⟨B,J,q⟩
 rw [exec_Assign_Name_used _ _ _ _ hsw]
 refine wpAny_bind (wpAny_standAt (wpAny_bind ?_))
 show wpAny _ X.A (do let _ ← comprehension (.ListComp elt [⟨tg,iter,ifs,0⟩] scope pc) scope X.env _ (newList []) false (eval iter X.env) (some (assign (.Name x p') X.env))) _ _ s
 refine wpAny_bind (thn (we (jn rfl) (use:=some (assign (.Name x p') X.env)) (Q:=fun _ s' =>SP X pins D .next s') (F:=fun D' H' =>D.nx (σ.set i (some (.ref D'))) H') (te:=fun σ H Q=>∃ Y' ρ',Y'.cl=Y.cl/\(Y'.E=fun _ _ _=>False)/\tS Y' rC fe ρ' σ H Q) (tt:=fun σ H Q=>∃ Y' ρ',Y'.cl=Y.cl/\tS Y' rE ft ρ' σ H Q) C.sc C.cp C.cm (C.it ρ) C.gt
  (fun cl Cx' s3 H3 fp pins pins' s σ H Q I ⟨Y',ρ',ey,q⟩=>C.tt Y' ey cl Cx' s3 H3 fp pins ρ' pins' s σ H Q I q) (fun cl Cx' s3 H3 fp pins xe hp pins' s σ H Q I ⟨Y',ρ',ey,eE,q⟩=>C.el Y' ey cl Cx' s3 H3 fp pins xe (eE ▸ hp) ρ' pins' s σ H Q I q) I ?_ ?_ C.hs) fun _ s' hq=>wpAny_pure (wpAny_pure hq))
 ·have q' :PoS Y B (((fi ρ).s fun ts=>(JI g ft fe k js ρ ts).s fun vs=> .nx (ρ.set i (.vl (.lst vs))))) D:=by
   unfold Zy Ze at q
   revert q
   cases fi ρ with
   | bad=>exact fun q=>q
   | ex c=>exact fun q=>q
   | ok ts=>
    intro q
    have q2:PoS Y B (((JI g ft fe k js ρ ts).bind fun vs=>R.ok (T.lst vs)).s fun t=>RS.nx (List.set ρ i (Sl.vl t))) D:=q
    show PoS Y B ((JI g ft fe k js ρ ts).s fun vs=>RS.nx (List.set ρ i (Sl.vl (T.lst vs)))) D
    revert q2
    cases JI g ft fe k js ρ ts with
    | bad=>exact fun q=>q
    | ex c=>exact fun q=>q
    | ok vs=>exact fun q=>q
  refine jg J q' fun ts it' H1 _ s1 r1 J1 q1=> ?_
  intro D' hD
  unfold JI at q1
  split at q1
  ·rename_i hl
   cases ev:Zd g ft fe ts (jJ k js ρ) with
   | bad=>rw [ev] at q1; exact q1.elim
   | ex c=>rw [ev] at q1; exact q1.elim
   | ok vs=>
    rw [ev] at q1
    refine Jg C.gk C.gn J1 r1 hl ev hD fun H' xs B' s' e' r' l' b' sb' => ?_
    have rr:Rep (zt (zt B H H1) H1 H') (.ref D') (.lst vs):= .lst (by rw [zA hD]; exact e') (r'.mono l')
    exact q1 _ _ _ (zt.ge J1.sB s') ((J1.grow s').setV i rr)
  ·exact q1.elim
 ·intro D' Cc H' s' I' q' hC h0 hL hcell hpin hns
  obtain ⟨m,hm⟩:=hns
  show wpAny _ X.A (assign (.Name x p') X.env (.ref D')) _ _ s'
  refine wpAny_assign_Name (jV (v:= .ref D') I' hN hi hx rfl (fun s'' I'' ⟨a,hsb,ha⟩=> ?_) hf)
  have hne:Cc ≠ a:=by
   rcases ha with rfl | ha
   ·exact hL
   ·exact (hcell x a ha).symm
  refine ⟨m,hm.sameBut hsb hne,fun h' hsb' =>⟨_,H', ?_,q'⟩⟩
  exact I''.turned (t' :=s''.toks) (fun b o hb e=>hsb'.extBut b o hb e) hC hL (.inr h0) hcell hpin
end
def Itc (x:Str):It:=⟨fun i _=>i < x.cps.size,fun i H v H' =>H' =H/\∃ c,x.cps[i]? =some c/\v= .str ⟨#[c]⟩,fun i _=>x.cps.size<=i⟩
theorem jp {P:Program} {w:World} {K:PySem.W.Frag} {tg:Expr} {x:Str} {t:Tok} {ty:String} (it:Addr) (hty:ty="str_ascii_iterator"\/ty="str_iterator"):W5 P w K tg (Itc x) [it] it (fun i h=>h.IsStrIter it ty x t i):=by
 have W:∀ A:Around,A.handled=none->Walks P w A it [it] [it] x.cps.size (SignAt x) (fun i h=>h.IsStrIter it ty x t i):=fun A hA=>by
  rcases hty with rfl | rfl
  ·exact Walks.strAscii hA it x t
  ·exact Walks.strWide hA it x t
 have hn:["enumerate","zip","dict_itemiterator","dict_reverseitemiterator","odict_iterator","itertools.zip_longest","itertools.pairwise"].contains ty=false:=by rcases hty with rfl | rfl <;> decide
 refine ⟨by simp,fun i h st b hb=> ?_,fun i h h' st k=> ?_, ?_, ?_,fun A i s Q E st h=> ?_⟩
 ·have e:b=it:=by simpa using hb
  subst e
  obtain ⟨o,e,c,d⟩:=st
  exact ⟨o,e,fun v z=>by rw [d] at z; cases z⟩
 ·obtain ⟨o,e,r⟩:=st
  exact ⟨o,k it (by simp) o e,r⟩
 ·intro X hP hw hK hc i pins s σ H E I hf st hg
  subst hP hw hK
  obtain ⟨f0,f1,f2,f3,f4,f5⟩:=hf it (by simp)
  refine (W X.A (I.ok.hd hc)).item i s _ _ hg st fun v h' tk hv st' kk=> ?_
  obtain ⟨c,u,hc',rfl⟩:=hv
  have I1:L2.Inv X pins σ H { s with heap:=h',toks:=tk }:=I.turned (fun b o hb e=>kk b o (by simpa using hb) e) f0 f1 f3 f4 f5
  obtain ⟨o,e,cl,d⟩:=id st'
  exact ⟨_,rfl,wx (s:={ s with heap:=h',toks:=tk }) e cl d hn ⟨.str ⟨#[c]⟩,H,I1,⟨u,rfl⟩,⟨rfl,c,hc',rfl⟩,st',fun b hb=>(hf b hb).1⟩⟩
 ·intro X hP hw hK hc i pins s σ H E I hf st hg
  subst hP hw hK
  obtain ⟨f0,f1,f2,f3,f4,f5⟩:=hf it (by simp)
  have hx:x.cps[i]? =none:=Array.getElem?_eq_none hg
  rcases hty with rfl | rfl
  ·exact wpAny_pyNext_ascii_end (I.ok.hd hc) st hx fun h' eb=>⟨rfl,I.turned (t' :=s.toks) (fun b o hb e=>eb b o hb e) f0 f1 f3 f4 f5⟩
  ·exact wpAny_pyNext_wide_end (I.ok.hd hc) st hx fun h' eb=>⟨rfl,I.turned (t' :=s.toks) (fun b o hb e=>eb b o hb e) f0 f1 f3 f4 f5⟩
 ·rcases hty with rfl | rfl
  ·exact wpAny_pyIter_striter_ascii st h
  ·exact wpAny_pyIter_striter_wide st h
def wJ (x:Str):List T:=x.cps.toList.map fun c=>T.str ⟨#[c]⟩
theorem uG {B1 H1:Hp} {x:Str}:rI B1 H1 (Itc x) (wJ x):=fun B2 H2 s1 s2=>by
 have hl:(wJ x).length=x.cps.size:=by unfold wJ; simp
 refine ⟨fun i hi=>by rw [hl] at hi; exact hi,fun i t v H3 e y=> ?_,fun i hi=>by rw [hl] at hi; exact hi⟩
 obtain ⟨rfl,c,hc,rfl⟩:=y
 refine ⟨zi.refl _, ?_⟩
 unfold wJ at e
 rw [List.getElem?_map] at e
 have hc' :x.cps.toList[i]? =some c:=by simpa using hc
 rw [hc'] at e
 cases e
 exact .str _
section
variable {X:Cx} {Y:Fx} {a b c d tg:Expr} {fa fb fc fd:En->R T} {pos p:Pos}
theorem qo {l:Expr} {tl:TE} (hl:PE X l tl):PI X tg l (fun σ H R=>tl σ H fun x H1=>(∃ a,x= .ref a/\(((∃ xs,SqL X.K H1 a xs)/\R (Itl X.K a) H1)\/((∃ xs,SqT X.K H1 a xs)/\R (Itt X.K a) H1)))\/(∃ z,x= .str z/\R (Itc z) H1)):=by
 intro pins s σ H R I h
 refine thn (hl pins s σ H _ I h) fun v s1 ⟨x,H1,I1,r1,q1⟩=> ?_
 have ok:∀ b∈[s1.heap.objs.size],jT X pins H1 b:=fun b hb=>by
  have e:b=s1.heap.objs.size:=by simpa using hb
  subst e
  exact I1.fpOk (Nat.le_refl _) (I1.hok.fresh (Nat.le_refl _))
 rcases q1 with ⟨a,e,q⟩ | ⟨z,e,q⟩
 ·subst e
  obtain rfl:v=Value.ref a:=r1
  rcases q with ⟨⟨xs,hq⟩,q⟩ | ⟨⟨xs,hq⟩,q⟩
  ·obtain ⟨its,rv,p,hz⟩:=I1.list hq
   exact wpAny_pyIter_list p.isList ⟨s1.heap.objs.size,[s1.heap.objs.size],_,_,H1,rfl,I1.kept (t' :=s1.toks) fun b o e=>Heap.get?_push_of_some _ e,W6 a _,⟨_,Heap.get?_push_size _ rfl,rfl,rfl⟩,ok,q⟩
  ·obtain ⟨its,rv,p,hz⟩:=I1.tuple hq
   exact wpAny_pyIter_tuple (show s1.heap.IsTuple a its.toArray from p) ⟨s1.heap.objs.size,[s1.heap.objs.size],_,_,H1,rfl,I1.kept (t' :=s1.toks) fun b o e=>Heap.get?_push_of_some _ e,wy a _,⟨_,Heap.get?_push_size _ rfl,rfl,rfl⟩,ok,q⟩
 ·subst e
  obtain ⟨t,rfl⟩:=r1
  cases ha:z.cps.all (· < 128)
  ·exact wpAny_pyIter_wide ha ⟨s1.heap.objs.size,[s1.heap.objs.size],_,_,H1,rfl,I1.kept (t' :=s1.toks) fun b o e=>Heap.get?_push_of_some _ e,jp _ (.inr rfl),⟨_,Heap.get?_push_size _ rfl,rfl,rfl⟩,ok,q⟩
  ·exact wpAny_pyIter_ascii ha ⟨s1.heap.objs.size,[s1.heap.objs.size],_,_,H1,rfl,I1.kept (t' :=s1.toks) fun b o e=>Heap.get?_push_of_some _ e,jp _ (.inl rfl),⟨_,Heap.get?_push_size _ rfl,rfl,rfl⟩,ok,q⟩
def qp:T->R (List T)
 | .lst xs=> .ok xs
 | .tup xs=> .ok xs
 | .str x=> .ok (wJ x)
 | _=> .bad
def JK (fa:En->R T):En->R (List T):=fun ρ=>(fa ρ).bind qp
theorem vA (ha:Snd X Y a fa):wG X Y tg a (JK fa):= .mk fun ρ=>PI.imp (qo (ha ρ)) fun σ H R ⟨B,I,q⟩=>step I q fun t v H1 _ s1 r1 I1 q1=>by
 cases r1 with
 | @tup l xs ts h r=>
  exact .inl ⟨l,rfl, .inr ⟨⟨xs,SqT.of (I1.sB _ _ h)⟩,Z6 I1 (show Po Y rI _ H1 (.ok ts) R from q1) (qb h r)⟩⟩
 | @lst l xs ts h r=>
  exact .inl ⟨l,rfl, .inl ⟨⟨xs,SqL.of (I1.sB _ _ h)⟩,Z6 I1 (show Po Y rI _ H1 (.ok ts) R from q1) (qc h r)⟩⟩
 | str z=>exact .inr ⟨z,rfl,Z6 I1 (show Po Y rI _ H1 (.ok (wJ z)) R from q1) uG⟩
 | _=>exact q1.elim
end
theorem Inv.laidT {X:Cx} {pins:List (Addr×Obj)} {σ:Sg} {H:Hp} {s:Shared} {h' :Heap} {tk:Nat} {ch:List Addr} {a:Addr} {xs:List V} (I:L2.Inv X pins σ H s) (hf:∀ b∈ch,jT X pins H b) (k:∀ b o,b ∉ ch->s.heap.get? b=some o->h'.get? b=some o)
  (th:∀ b o,b∈ch->s.heap.get? b=some o->∃ o',h'.get? b=some o') (ha:s.heap.objs.size<=a) (new:zF X.prog X.w (upd H a (.tup xs)) h' a (.tup xs)):L2.Inv X pins σ (upd H a (.tup xs)) { s with heap:=h',toks:=tk }:=by
 have hn:H a=none:=I.hok.fresh ha
 have nch:∀ b u,H b=some u->b ∉ ch:=fun b u e hb=>by rw [(hf b hb).1] at e; cases e
 refine I.call' (s' :={ s with heap:=h',toks:=tk }) (ch:=ch) rfl ⟨fun b o e n _ hc=>k b o hc e,fun b o e n _ hc=>⟨o.slots,k b o hc e⟩,fun b o e n _=>by rw [zf (Nat.ne_of_lt (Nat.lt_of_lt_of_le (Heap.lt_size e) ha))]; exact n,fun b o e hc=>⟨o,k b o hc e⟩,
  fun b ys e=>by rw [zf (zm e hn)]; exact e,fun b o u e=>by rw [zf (zm e hn)]; exact e,fun b ps q e=>by rw [zf (zm e hn)]; exact e⟩ (fun b u e=> ?_) I.bare fun b hb=> ?_
 ·by_cases hb:b=a
  ·subst hb; rw [zh] at e; cases e; exact new
  ·rw [zf hb] at e
   refine (I.hok b u e).stay (fun c v hc q=> ?_) (fun c q=>by rw [zf (zm q hn)]; exact q) (fun c ys q=>by rw [zf (zm q hn)]; exact q) fun c o u q=>by rw [zf (zm q hn)]; exact q
   rcases hc with rfl | hc
   ·exact k c v (nch c u e) q
   ·exact k c v (nch c _ hc) q
 ·obtain ⟨f0,f1,f2,f3,f4,f5⟩:=hf b hb
  exact ⟨f3,f1,f4,f5⟩
def Ite (K:PySem.W.Frag) (l:Addr):It:=
 ⟨fun i H=>∃ xs x,SqL K H l xs/\xs[i]? =some x,fun i H v H' =>∃ p x,H p=none/\v= .ref p/\(∀ xs,SqL K H l xs->xs[i]? =some x)/\H' =upd H p (.tup [.int i,x]),fun i H=>∃ xs,SqL K H l xs/\xs.length<=i⟩
theorem WA {P:Program} {w:World} {K:PySem.W.Frag} {elts:List Expr} {kk:Nat} {pt:Pos} (e it l:Addr) (hei:e ≠ it) (hle:l ≠ e) (hli:l ≠ it):
  W5 P w K (.Tuple elts kk pt) (Ite K l) [e,it] e (fun i h=>(∃ old,IsEnum h e it i old)/\h.IsListIter it l i) where
 mem:=by simp
 obj:=fun i h st b hb=>by
  obtain ⟨⟨old,he⟩,o,e1,c,d⟩:=st
  rcases List.mem_cons.mp hb with rfl | hb
  ·exact ⟨_,he,fun v z=>nomatch z⟩
  ·have z:b=it:=by simpa using hb
   subst z
   exact ⟨o,e1,fun v z=>by rw [d] at z; cases z⟩
 keep:=fun i h h' st k=>by
  obtain ⟨⟨old,he⟩,hit⟩:=st
  exact ⟨⟨old,k e (by simp) _ he⟩,hit.at fun o x=>k it (by simp) o x⟩
 item:=by
  intro X hP hw hK hc i pins s σ H E I hf st hg
  subst hP hw hK
  obtain ⟨xs,x,hq,hx⟩:=hg
  obtain ⟨its,rv,p,hz⟩:=I.list hq
  obtain ⟨u,hu,ru⟩:=rv.get hx
  obtain ⟨⟨old,he⟩,hit⟩:=st
  have hi:i < its.toArray.size:=by
   have:=(List.getElem?_eq_some_iff.mp hu).1
   simpa using this
  refine (WalksT.enumerate (prog:=X.prog) (w:=X.w) (I.ok.hd hc) e it l hei hle hli its.toArray).item i s _ _ hi ⟨⟨old,he⟩,hit,p.isList⟩ fun T vals h' tk hP hT hTup hM hk=> ?_
  obtain ⟨t,y,hy,rfl⟩:=hP
  have hyu:y=u:=by
   have:its[i]? =some y:=by simpa using hy
   rw [hu] at this; exact (Option.some.inj this).symm
  subst hyu
  refine ⟨.ref T,rfl, ?_⟩
  refine (WalksT.enumerate (prog:=X.prog) (w:=X.w) (I.ok.hd hc) e it l hei hle hli its.toArray).go elts kk pt i T _ _ _ hM fun h2 hst2 hk2=> ?_
  have hTn:H T=none:=I.hok.fresh hT
  have hTne:∀ b∈[e,it],b ≠ T:=fun b hb z=>by
   obtain ⟨_,_,_,h3,h4⟩:=hM
   rcases List.mem_cons.mp hb with rfl | hb
   ·exact h3 z.symm
   ·have:b=it:=by simpa using hb
    subst this; exact h4 z.symm
  have tup2:IsTup h2 T #[.int i t,y]:=by
   obtain ⟨o,eo,r⟩:=hTup
   exact ⟨o,hk2 T o (fun hb=>hTne T hb rfl) eo,r⟩
  refine ⟨.ref T,upd H T (.tup [.int i,x]),Inv.laidT (s:=s) (h' :=h2) (ch:=[e,it]) (tk:=tk) I hf (fun b o hb e=>hk2 b o hb (hk b o hb e)) (fun b o hb _=> ?_) hT ⟨by rw [sizeLine_eq]; show 2<=16777216; decide,[.int i t,y], .cons ⟨t,rfl⟩ (.cons ru .nil),tup2, .inl ⟨_,_,rfl⟩⟩,rfl,⟨T,x,hTn,rfl,fun ys hy=>by rw [I.list_inj hy hq]; exact hx,rfl⟩,⟨hst2.1,hst2.2.1⟩,fun b hb=> ?_⟩
  ·obtain ⟨⟨old2,he2⟩,⟨o2,eo2,_⟩,_⟩:=hst2
   rcases List.mem_cons.mp hb with rfl | hb
   ·exact ⟨_,he2⟩
   ·have:b=it:=by simpa using hb
    subst this; exact ⟨o2,eo2⟩
  ·rw [zf (hTne b hb)]; exact (hf b hb).1
 done:=by
  intro X hP hw hK hc i pins s σ H E I hf st hg
  subst hP hw hK
  obtain ⟨xs,hq,hx⟩:=hg
  obtain ⟨its,rv,p,hz⟩:=I.list hq
  obtain ⟨⟨old,he⟩,hit⟩:=st
  have hl:=rv.length
  refine wpAny_pyNext_enum_end (I.ok.hd hc) he hit p.isList (Array.getElem?_eq_none (by simp; omega)) fun h' hk=>⟨rfl, ?_⟩
  obtain ⟨f0,f1,f2,f3,f4,f5⟩:=hf it (by simp)
  exact I.turned (t' :=s.toks) (fun b o hb e=>hk b o hb e) f0 f1 f3 f4 f5
 self:=fun _ _ _ _ _ st h=>let ⟨⟨_,he⟩,_⟩:=st; wpAny_pyIter_enum he h
def JL (xs:List T):List T:=(xs.zipIdx).map fun p=>T.tup [.int (p.2:Nat),p.1]
theorem WB {xs:List T} {i:Nat} {t:T} (h:(JL xs)[i]? =some t):∃ x,xs[i]? =some x/\t= .tup [.int (i:Nat),x]:=by
 unfold JL at h
 rw [List.getElem?_map,List.getElem?_zipIdx] at h
 cases e:xs[i]? with
 | none=>rw [e] at h; cases h
 | some x=>rw [e] at h; cases h; exact ⟨x,rfl,by simp⟩
theorem Jh (xs:List T):(JL xs).length=xs.length:=by unfold JL; simp
theorem yf {K:PySem.W.Frag} {B1 H1:Hp} {a:Addr} {xs:List V} {ts:List T} (h:B1 a=some (.lst xs)) (r:zo B1 xs ts):rI B1 H1 (Ite K a) (JL ts):=fun B2 H2 s1 s2=>by
 have h2:=s2 _ _ (s1 _ _ h)
 rw [Jh]
 refine ⟨fun i hi=> ?_,fun i t x H3 e y=> ?_,fun i hi=>⟨xs,SqL.of h2,by rw [r.length]; exact hi⟩⟩
 ·obtain ⟨v,e,_⟩:=r.get (List.getElem?_eq_getElem hi)
  exact ⟨xs,v,SqL.of h2,e⟩
 ·obtain ⟨p,v,hp,rfl,y,rfl⟩:=y
  obtain ⟨t',et,rfl⟩:=WB e
  obtain ⟨v',e1,r1⟩:=r.get et
  have:=y xs (SqL.of h2)
  rw [e1] at this; cases this
  refine ⟨zi.new hp _, .tup (ZB hp _) (.cons (.int _) (.cons ?_ .nil))⟩
  exact (r1.mono s1).mono (zt.ge s2 (zi.new hp _))
section
variable {X:Cx} {Y:Fx} {a:Expr} {fa:En->R T} {pos p pt:Pos} {elts:List Expr} {kk:Nat}
theorem yg {ta:TA} (hg:Gl X "enumerate") (hm:X.mg "enumerate"=none) (ha:PA X [a] ta) (hs:St1 X a:=by exact st1 rfl):
  PI X (.Tuple elts kk pt) (.Call (.Name "enumerate" p) [a] [] pos) (fun σ H R=>ta σ H fun vs H1=>∃ l xs,vs=[.ref l]/\H1 l=some (.lst xs)/\R (Ite X.K l) H1):=by
 intro pins s σ H R I h
 refine Call_ (Zb I hg hm PyProof.Rows.Boot.«enumerate» (PyProof.Rows.callWith_type1 (thn (ha pos pins s σ H _ I h) fun us s1 ⟨vs,H1,I1,r1,q1⟩=> ?_) hs rfl))
 obtain ⟨l,xs,e,hl,q⟩:=q1
 subst e
 obtain ⟨u,rfl,ru⟩:=Zo r1
 obtain rfl:u=Value.ref l:=ru
 obtain ⟨_,its,n,rv,eo⟩:=(show zF X.prog X.w H1 s1.heap l (.lst xs) from I1.hok l _ hl)
 have hlt:l < s1.heap.objs.size:=Heap.lt_size eo
 refine call_enumerate_1 eo fun h' he hit hsz hk=>wpAny_pyIter_enum he ?_
 have f:∀ b∈[s1.heap.objs.size+1,s1.heap.objs.size],jT X pins H1 b:=fun b hb=>by
  rcases List.mem_cons.mp hb with rfl | hb
  ·exact I1.fpOk (Nat.le_succ _) (I1.hok.fresh (Nat.le_succ _))
  ·have z:b=s1.heap.objs.size:=by simpa using hb
   subst z
   exact I1.fpOk (Nat.le_refl _) (I1.hok.fresh (Nat.le_refl _))
 exact ⟨s1.heap.objs.size+1,[s1.heap.objs.size+1,s1.heap.objs.size],_,_,H1,rfl,I1.kept (t' :=s1.toks) hk,WA _ _ l (Nat.succ_ne_self _) (Nat.ne_of_lt (Nat.lt_succ_of_lt hlt)) (Nat.ne_of_lt hlt),⟨⟨_,he⟩,hit⟩,f,q⟩
def qr (fa:En->R T):En->R (List T):=fun ρ=>(fa ρ).bind fun t=>match t with
 | .lst xs=> .ok (JL xs)
 | _=> .bad
theorem qt (hg:Gl X "enumerate") (hm:X.mg "enumerate"=none) (ha:Snd X Y a fa) (hs:St1 X a:=by exact st1 rfl):wG X Y (.Tuple elts kk pt) (.Call (.Name "enumerate" p) [a] [] pos) (qr fa):= .mk fun ρ=>
 PI.imp (yg hg hm (zg (ha ρ) zu hs) hs) fun σ H R ⟨B,I,q⟩=>step I q fun t v H1 _ s1 r1 I1 q1=>by
  cases r1 with
  | @lst l xs ts h r=>exact ⟨l,xs,rfl,I1.sB _ _ h,Z6 I1 (show Po Y rI _ H1 (.ok (JL ts)) R from q1) (yf h r)⟩
  | _=>exact q1.elim
def WC:List T->Option (List Str)
 | []=>some []
 | .str x :: r=>match WC r with | some ys=>some (x :: ys) | none=>none
 | _ :: _=>none
theorem jL {H:Hp}:∀ {xs:List V} {ts:List T} {its:List Value} {ys:List Str},zo H xs ts->zE xs its->WC ts=some ys->StrsAre its ys
 | _,_,_,ys, .nil, .nil,h=>by
  have h' :some []=some ys:=h
  cases h'; exact .nil
 | _,_,_,ys, .cons (t:=t) r rs, .cons (b:=u) rv vs,h=>by
  cases r with
  | str x=>
   unfold WC at h
   split at h
   ·rename_i zs e
    cases h
    obtain ⟨tk,rfl⟩:=rv
    exact .cons x tk (jL rs vs e)
   ·cases h
  | _=>cases h
end
def dd:List Str->List Str->List Str
 | acc,[]=>acc
 | acc,x :: r=>dd (if x∈acc then acc else acc++[x]) r
section
variable {prog:Program} {w:World} {A:Around} {R:Result->Shared->Prop} {I:Addr} {fp wr:List Addr} {n:Nat} {P:Nat->Value->Prop} {St:Nat->Heap->Prop}
theorem Zj {h h' :Heap} {S:Addr} {f g:Str->Bool} {m k:Nat} (x:h.SetOf (strKind prog w) S f m) (e:∀ o,h.get? S=some o->h'.get? S=some o) (ef:f=g) (em:m=k):h'.SetOf (strKind prog w) S g k:=by
 subst ef em
 obtain ⟨o,es,ep,t,ho,r⟩:=x
 exact ⟨o,es,ep,t,e o ho,r⟩
theorem uH (W:Walks prog w A.in1 I fp wr n P St) (S:Addr) (hSf:S ∉ fp) (val:Nat->Str) (hval:∀ i v,P i v->∃ t,v=Value.str (val i) t) (hb:n+1 < scanBound):
  ∀ (k i:Nat) (acc:List Str) (s:Shared),n - i=k->i<=n->acc.length<=i->St i s.heap->s.heap.SetOf (strKind prog w) S (fun x=>decide (x∈acc)) acc.length->
   (∀ h' tk,(∀ b o,b ∉ S :: wr->s.heap.get? b=some o->h'.get? b=some o)->h'.SetOf (strKind prog w) S (fun x=>decide (x∈dd acc ((List.range' i k).map val))) (dd acc ((List.range' i k).map val)).length->
    R (.ok (.ret .none)) { s with heap:=h',toks:=tk })->codeAny (model prog w) A (.builtin "set.update.loop" ⟨[.ref S, .ref I],[]⟩) R s:=by
 intro k
 induction k with
 | zero=>
  intro i acc s hk hi hal hst hS hR
  obtain rfl:i=n:=by omega
  refine codeAny_builtin F.entry_set_update_loop ?_
  rw [Around.under_plainId F.plain_set_update_loop _]
  refine wpAny_bind (m:=pyNext (.ref I)) (W.done s _ _ hst fun h' tk hk' =>wpAny_pure ?_)
  exact hR h' tk (fun b o hb e=>hk' b o (fun z=>hb (List.mem_cons_of_mem _ z)) e) (Zj hS (fun o e=>hk' S o (fun z=>hSf (W.sub _ z)) e) rfl rfl)
 | succ k ih=>
  intro i acc s hk hi hal hst hS hR
  refine codeAny_builtin F.entry_set_update_loop ?_
  rw [Around.under_plainId F.plain_set_update_loop _]
  refine wpAny_bind (m:=pyNext (.ref I)) (W.item i s _ _ (by omega) hst fun v h1 tk1 hP hst1 hk1=> ?_)
  obtain ⟨t,rfl⟩:=hval i v hP
  have hS1:=Zj hS (fun o e=>hk1 S o (fun z=>hSf (W.sub _ z)) e) rfl rfl
  refine wpAny_bind (m:=holding [Value.str (val i) t] (setAdd S (.str (val i) t))) (wpAny_holding ?_)
  unfold setAdd
  have isk:(strKind prog w).is (val i) (.str (val i) t)=true:=strKind_is _ _ _ _
  refine wpAny_holding (wpAny_bind ((strKind prog w).pyHash isk ?_))
  refine wpAny_setAddHashed_of (knd:=strKind prog w) (s:={ s with heap:=h1,toks:=tk1+1 }) isk rfl hS1 (by omega) fun h2 hsb hS2=> ?_
  have e2:(if decide (val i∈acc)=true then acc.length else acc.length+1)=(if val i∈acc then acc else acc++[val i]).length:=by
   by_cases hm:val i∈acc
   ·simp [hm]
   ·simp [hm]
  have e1:(fun x=>decide (x∈acc) || decide (x=val i))=(fun x=>decide (x∈(if val i∈acc then acc else acc++[val i]))):=by
   funext x
   by_cases hm:val i∈acc
   ·simp only [if_pos hm]
    by_cases hx:x=val i
    ·subst hx; simp [hm]
    ·simp [hx]
   ·simp [hm,Bool.decide_or]
  have hS3:=Zj (h' :=h2) hS2 (fun o e=>e) e1 e2
  refine wpAny_pure ⟨plainId_quiet F.plain_set_update_loop _,ih (i+1) _ _ (by omega) (by omega) ?_ (W.frame _ h1 _ hst1 fun b hb o e=> ?_) hS3 fun h3 tk3 hk3 hS4=> ?_⟩
  ·split
   ·omega
   ·rw [List.length_append,List.length_singleton]; omega
  ·exact (hsb.2 b (fun z:b=S=>hSf (z ▸ hb))).trans e
  ·rw [List.range'_succ,List.map_cons] at hR
   refine hR h3 tk3 (fun b o hb e=>hk3 b o hb ?_) hS4
   exact (hsb.2 b (fun z:b=S=>hb (z ▸ List.mem_cons_self))).trans (hk1 b o (fun z=>hb (List.mem_cons_of_mem _ z)) e)
end
section
variable {prog:Program} {w:World} {A:Around} {E:Value->Shared->Prop} {s:Shared}
set_option maxRecDepth 100000 in
set_option maxHeartbeats 3200000 in
theorem WD {l:Addr} {its:List Value} {ys:List Str} {Q:Value->Shared->Prop} (hh:A.handled=none) (hl:s.heap.IsList l its.toArray) (hi:StrsAre its ys) (hb:its.length+1 < scanBound)
  (h:∀ (h' :Heap) (tk:Nat),h'.SetOf (strKind prog w) s.heap.objs.size (fun x=>decide (x∈dd [] ys)) (dd [] ys).length->(∀ b o,b < s.heap.objs.size->s.heap.get? b=some o->h'.get? b=some o)->
   Q (.ref s.heap.objs.size) { s with heap:=h',toks:=tk }):wpAny (model prog w) A (call (.type "set") [.ref l]) Q E s:=by
 have getv:∀ {its:List Value} {ys:List Str},StrsAre its ys->its.length=ys.length/\∀ (i:Nat) (v:Value),its[i]? =some v->∃ t,v=Value.str (ys.getD i ⟨#[]⟩) t:=fun {its ys} hi=>by
  induction hi with
  | nil=>exact ⟨rfl,fun i v e=>by simp at e⟩
  | cons y t _ ih=>
   refine ⟨by simp [ih.1],fun i v e=> ?_⟩
   cases i with
   | zero=>exact ⟨t,by simpa using e.symm⟩
   | succ i=>exact ih.2 i v (by simpa using e)
 obtain ⟨hlen,hget⟩:=getv hi
 have hys:(List.range' 0 its.length).map (fun i=>ys.getD i ⟨#[]⟩)=ys:=by
  rw [hlen]
  refine List.ext_getElem? fun i=> ?_
  rw [List.getElem?_map]
  by_cases hi' :i < ys.length
  ·rw [List.getElem?_range' hi',List.getElem?_eq_getElem hi']
   simp [List.getElem?_eq_getElem hi']
  ·rw [List.getElem?_eq_none (by simp; omega),List.getElem?_eq_none (by omega)]
   rfl
 obtain ⟨c,tl,hmro⟩:=F.called_set.mro
 have hmade:=F.called_set.made
 have hsub:=F.called_set.sub
 have h1:=F.called_set.notType
 have h2:=F.called_set.canCreate
 have hct:=F.typeCall_set_1 (.ref l)
 refine wpAny_call (codeAny_of_tree (show wpAny _ _ (callAny (.type "set") _) _ _ _ from ?_))
 refine wpAny_pure ⟨Code.quiet_builtin _ (by decide+kernel),codeAny_builtin F.entry_type_call ?_⟩
 rw [Around.under_plain (weight_type_call_type "set" [.ref l] []) rfl]
 repeat any_goals (first | assumption | wp_step)
 refine codeAny_mono (code_set_new_1 (.ref l) (E:=E) (Q₁:=fun obj s₁=>∃ led:Bool,obj= .ref s.heap.objs.size/\s₁={ s with heap:=s.heap.push { cls:= .type "set",dict:=none,data:= .set #[] 0 (.fresh 0 0 led) } }) fun led=>⟨led,rfl,rfl⟩) fun r s₁ hr=> ?_
 cases r with
 | error e=>exact hr
 | ok fl=>
  cases fl with
  | ret obj=>
   obtain ⟨led,rfl,rfl⟩:=hr
   generalize hG:s.heap.push { cls:= .type "set",dict:=none,data:= .set #[] 0 (.fresh 0 0 led) }=G
   have hS:G.get? s.heap.objs.size=some { cls:= .type "set",dict:=none,data:= .set #[] 0 (.fresh 0 0 led) }:=by rw [← hG]; exact Heap.get?_push_size _ rfl
   have hGs:G.objs.size=s.heap.objs.size+1:=by rw [← hG,Heap.size_push]
   have hGk:∀ b o,s.heap.get? b=some o->G.get? b=some o:=fun b o e=>by rw [← hG]; exact Heap.get?_push_of_some _ e
   have hT:Shared.TypeIs { s with heap:=G } (.ref s.heap.objs.size) "set":=⟨_,hS,rfl⟩
   have hli:=F.called_set.init.lookup
   have hbi:=F.called_set.init.bind (.ref s.heap.objs.size)
   repeat any_goals (first | assumption | wp_step)
   refine codeAny_mono (codeAny_call_builtin (R:=wants (fun r s₂=>r= .none/\∃ h' tk,s₂={ s with heap:=h',toks:=tk }/\h'.SetOf (strKind prog w) s.heap.objs.size (fun x=>decide (x∈dd [] ys)) (dd [] ys).length/\
     (∀ b o,b < s.heap.objs.size->s.heap.get? b=some o->h'.get? b=some o)) E) F.called_set.init.plain F.entry_set_init (check_set_init_1 hT ?_)) fun r₂ s₂ hr₂=> ?_
   ·obtain ⟨⟨ocls,odict,odata,oslots⟩,hol,hcl,nl,hdl⟩:=hl
    simp only at hcl hdl
    subst hcl; subst hdl
    have hol' :=hGk _ _ hol
    have hsls:=F.sub_list_set
    have hslf:=F.sub_list_frozenset
    have hne:(Value.type "list" == Value.type "dict")=false:=by decide
    have hl1:G.IsList l its.toArray:=⟨_,hol',rfl,nl,rfl⟩
    have hlS:l < s.heap.objs.size:=Heap.lt_size hol
    unfold Builtin.«set.__init__» noKeywords Builtin.Frozenset.updateFrom
    generalize hPI:pyIter=PI
    wp_walk
    subst hPI
    refine wpAny_pyIter_list hl1 (wpAny_bind (wpAny_runValue ?_))
    have hSf:s.heap.objs.size ∉ [G.objs.size,l]:=by
     rw [hGs]
     intro z
     rcases List.mem_cons.mp z with z | z
     ·exact absurd z (Nat.ne_of_lt (Nat.lt_succ_self _))
     ·exact absurd (List.mem_singleton.mp z) (Nat.ne_of_gt hlS)
    refine uH (Walks.list (A:=A.in1.in1.in1) (by simp [hh]) G.objs.size l (by rw [hGs]; exact Nat.ne_of_lt (Nat.lt_succ_of_lt hlS)) its.toArray) s.heap.objs.size hSf (fun i=>ys.getD i ⟨#[]⟩) (fun i v e=>hget i v (by simpa using e)) (by simpa using hb) its.length 0 [] _ (by simp) (Nat.zero_le _) (Nat.le_refl _)
     ⟨⟨_,Heap.get?_push_size _ rfl,rfl,rfl⟩,hl1.push _⟩ ?_ ?_
    ·have hget' :(G.push { cls:= .type "list_iterator",data:= .fields #[.ref l, .int 0 0] }).get? s.heap.objs.size=some { cls:= .type "set",dict:=none,data:= .set #[] 0 (.fresh 0 0 led) }:=Heap.get?_push_of_some _ hS
     exact Zj ((PyProof.Rows.setObjOf_fresh (knd:=strKind prog w) led).setOf hget' (by unfold scanBound; omega)) (fun o e=>e) (by funext x; simp) rfl
    ·intro h' tk' hm hS'
     rw [hys] at hS'
     refine wpAny_pure (show wpAny _ _ (ret Value.none) _ _ _ from wpAny_pure ⟨rfl,h',tk',rfl,hS',fun b o hb e=> ?_⟩)
     refine hm b o (fun z=> ?_) (Heap.get?_push_of_some _ (hGk b o e))
     rcases List.mem_cons.mp z with z | z
     ·exact absurd z (Nat.ne_of_lt hb)
     ·have z' :b=G.objs.size:=List.mem_singleton.mp z
      rw [hGs] at z'
      exact absurd z' (Nat.ne_of_lt (Nat.lt_succ_of_lt hb))
   ·cases r₂ with
    | error e=>exact hr₂
    | ok fl₂=>
     cases fl₂ with
     | ret r=>
      obtain ⟨rfl,h',tk,rfl,hS',hk'⟩:=hr₂
      repeat any_goals (first | assumption | wp_step)
      exact h _ _ hS' hk'
     | _=>exact hr₂.elim
  | _=>exact hr.elim
end
section
variable {X:Cx} {Y:Fx} {a b:Expr} {fa fb:En->R T} {pos pos' p p' :Pos}
theorem WE (hh:X.A.handled=none):Z1 X (.type "set") (fun vs H Q=>∃ l xs ts ys,vs=[.ref l]/\H l=some (.lst xs)/\zo H xs ts/\WC ts=some ys/\ts.length+1 < 4096/\
  ∀ q,H q=none->Q (.ref q) (upd H q (.ext fun h=>h.SetOf (strKind X.prog X.w) q (fun x=>decide (x∈dd [] ys)) (dd [] ys).length))):=by
 intro pins s σ H vs us Q I rv h
 obtain ⟨l,xs,ts,ys,rfl,hl,r,ey,hb,q⟩:=h
 obtain ⟨u,rfl,ru⟩:=Zo rv
 obtain rfl:u=Value.ref l:=ru
 obtain ⟨its,rv,pl,hln,_⟩:=zv I (.inl hl) r
 refine WD hh pl (jL r rv ey) (by unfold scanBound; omega) fun h' tk hS hk=> ?_
 refine ⟨.ref s.heap.objs.size,_,I.laid (t' :=tk) (fun b u e=>hk b u (Heap.lt_size e) e) (Nat.le_refl _) ?_,rfl,q _ (I.hok.fresh (Nat.le_refl _))⟩
 obtain ⟨o,es,ep,t,ho,rr⟩:=id hS
 exact ⟨hS,⟨o,ho⟩,fun h1 h2 ⟨o1,es1,ep1,t1,ho1,rr1⟩ e=>⟨o1,es1,ep1,t1,e _ ho1,rr1⟩⟩
theorem WF:Z1 X (.builtin "len") (fun vs H Q=>∃ q φ f n,vs=[.ref q]/\H q=some (.ext φ)/\(∀ h:Heap,φ h->h.SetOf (strKind X.prog X.w) q f n)/\Q (.int n) H):=by
 intro pins s σ H vs us Q I rv h
 obtain ⟨l,φ,f,n,rfl,hl,hφ,q⟩:=h
 obtain ⟨u,rfl,ru⟩:=Zo rv
 obtain rfl:u=Value.ref l:=ru
 obtain ⟨h1,_,_⟩:=(show zF X.prog X.w H s.heap l (.ext φ) from I.hok l _ hl)
 obtain ⟨o,es,ep,t,ho,hex,hd,_,_,hb,hf,hn⟩:=hφ _ h1
 refine call_len_set ho hex hd hf ?_ ⟨.int es.size,H,I.tok _,⟨_,rfl⟩,by rw [hn]; exact q⟩
 have:es.size < 4096:=hb
 omega
def qu:T->R T
 | .lst ts=>match WC ts with
  | some ys=>if ts.length+1 < 4096 then .ok (.int (dd [] ys).length) else .bad
  | none=> .bad
 | _=> .bad
theorem qw (hh:X.A.handled=none) (gl:Gl X "len") (mg:X.mg "len"=none) (gl' :Gl X "set") (mg' :X.mg "set"=none) (ha:Zn X Y a fa) (hs:St1 X a:=by exact st1 rfl) (hs' :St1 X (.Call (.Name "set" p') [a] [] pos'):=by exact st1 rfl):
  Snd X Y (.Call (.Name "len" p) [.Call (.Name "set" p') [a] [] pos'] [] pos) (ap1 qu fa):= .mk fun ρ=>
 PE.imp (zU WF gl mg PySem.boot_len (zg (ZX (WE hh) gl' mg' PyProof.Rows.Boot.«set» (zg (ha ρ) zu hs) (by decide) (by decide) hs rfl) zu hs') (by decide) (by decide) hs' rfl) fun σ H Q ⟨B,I,q⟩=>
  step I q fun t v H1 _ s1 r1 I1 q1=>by
   cases r1 with
   | @lst l xs ts h r=>
    have q1:Po Y rC _ H1 (match WC ts with | some ys=>if ts.length+1 < 4096 then .ok (.int (dd [] ys).length) else .bad | none=> .bad) Q:=q1
    split at q1
    ·rename_i ys e
     split at q1
     ·rename_i hl
      refine ⟨l,xs,ts,ys,rfl,h,r,e,hl,fun z hz=>⟨z,_,_,_,rfl,zh,fun h hh=>hh, ?_⟩⟩
      exact q1 _ _ (zi.new hz _) (.int _)
     ·exact q1.elim
    ·exact q1.elim
   | _=>exact q1.elim
end
theorem qx {X:Cx} {E:XK}:zY CX0 X E:=fun _ _ _ _ _ _ _ h=>h.elim
section
variable {X:Cx} {Y:Fx} {a b:Expr} {fa fb:En->R T} {pos pos' p p' :Pos}
theorem yh {cl:Nat->Value} {k j n:Nat} {f:Addr} {fd:FuncData} {ps:List Str} {g:List T->R T} {x:Str} {es:List Expr} {ga:En->R (List T)} (hy:Y.cl=cl) (F:zB X.prog X.w X.K X.mg X.base CX0 j f fd ps (spP cl n g)) (hr:Zk k X.A) (hj:j<=k) (gl:Gl X x)
  (mg:X.mg x=some (.ref f)) (kp:PySem.W.keepIn X.K (.ref f)=true) (bd:L2.Binds X.K fd ps []) (ha:JD X Y (a :: es) ga) (hd:(x == ("__debug__":Str))=false:=by decide)
  (hs:starEach (a :: es) X.env=(false,eval a X.env) :: starEach es X.env:=by exact zC rfl) (hz:((backTo pos (starEach es X.env)).any fun x=>x.fst)=false:=by exact zO rfl):Snd X Y (.Call (.Name x p) (a :: es) [] pos) (za n g ga):=by
 subst hy
 exact Uf F (hr.mono hj) gl mg kp bd qx ha hd hs hz
theorem jM {x:Str} {i:Int} {u:Value} (gl:Gl X x) (mg:X.mg x=some u) (hu:∃ t,u=Value.int i t) (hd:(x == ("__debug__":Str))=false:=by decide):Snd X Y (.Name x pos) (cE (.int i)):= .mk fun ρ=>
 PE.imp (W2 (v:= .int i) gl mg hu hd) fun σ H Q ⟨B,I,q⟩=>Z6 I q (.int i)
end
def Qr (scope sc0:Scope):Bool:=(scope.kind == .function) && scope.names.all (fun x=>x.2 != .cell) && scope.names.all (fun x=>x.2 != .local || scope.names.lookup x.1 == some .local) &&
 scope.names.all (fun x=>x.2 != .free || sc0.names.lookup x.1 == some .cell || sc0.names.lookup x.1 == some .free)
theorem Ul {X:Cx} {scope:Scope} (sc0:Scope) (h0:X.env.scope=sc0) (h:Qr scope sc0=true):CSc X scope:=by
 unfold Qr at h
 simp only [Bool.and_eq_true,List.all_eq_true] at h
 obtain ⟨⟨⟨h1,h2⟩,h3⟩,h4⟩:=h
 refine ⟨eq_of_beq h1,fun x hx=>by simpa using h2 x hx,fun x hx hl=> ?_,fun x hx hf=> ?_⟩
 ·have:=h3 x hx
  rw [hl] at this
  simpa using this
 ·have:=h4 x hx
  rw [hf] at this
  show X.env.scope.names.lookup x.1=_\/X.env.scope.names.lookup x.1=_
  rw [h0]
  simpa using this
def Qs (N N' :List Str) (scope sc0:Scope) (k:Nat) (js:List Nat):Bool:=(N'.length == k+js.length) && (List.range js.length).all fun i=>match js[i]? with
 | none=>true
 | some j=>match N'[k+i]?,N[j]? with
  | some x,some y=>(x == y) && (sc0.names.lookup x == some .cell || sc0.names.lookup x == some .free) && (scope.names.lookup x == some .free)
  | _,_=>false
theorem WG {X:Cx} {scope:Scope} {N' :List Str} {k:Nat} {js:List Nat} (N:List Str) (sc0:Scope) (hN:X.N=N) (h0:X.env.scope=sc0) (h:Qs N N' scope sc0 k js=true):qj X scope N' k js:=by
 unfold Qs at h
 simp only [Bool.and_eq_true,List.all_eq_true] at h
 obtain ⟨h1,h2⟩:=h
 refine ⟨eq_of_beq h1,fun i j e=> ?_⟩
 have hi:i < js.length:=(List.getElem?_eq_some_iff.mp e).1
 have q:=h2 i (List.mem_range.mpr hi)
 rw [e] at q
 dsimp only at q
 split at q
 ·rename_i x y e1 e2
  simp only [Bool.and_eq_true,Bool.or_eq_true,beq_iff_eq] at q
  obtain ⟨⟨rfl,q2⟩,q3⟩:=q
  refine ⟨x,e1,by rw [hN]; exact e2, ?_,q3, ?_⟩
  ·unfold Vis
   rw [h0]
   exact .inr q2
  ·show X.env.scope.names.lookup x=_\/X.env.scope.names.lookup x=_
   rw [h0]
   exact q2
 ·cases q
theorem Z0 {X:Cx} {Y:Fx} {tg iter elt:Expr} {ifs:List Expr} {scope:Scope} {k:Nat} {js:List Nat} {fi:En->R (List T)} {tG:TG} {g:T->En->R En} {ft:En->R Bool} {fe:En->R T} (N' :List Str) (N:List Str) (sc0:Scope) (hN:X.N=N) (h0:X.env.scope=sc0)
  (h:(Qr scope sc0 && Qs N N' scope sc0 k js)=true) (cm:X.calm=true) (it:wG X Y tg iter fi) (gt:Y6 X scope N' fun XC=>PG XC tg tG) (gk:GOk tG g) (gn:GNo g) (tt:∀ Y',Y'.cl=Y.cl->Y6 X scope N' fun XC=>JJ XC Y' ifs ft)
  (el:∀ Y',Y'.cl=Y.cl->vz X scope N' Y'.E fun XC=>Snd XC Y' elt fe) (hs:∀ x,foldedSetIterable iter X.env x=pure x:=by intro _; rfl):Wz X Y tg iter elt ifs scope N' k js fi tG g ft fe:=by
 rw [Bool.and_eq_true] at h
 exact ⟨Ul sc0 h0 h.1,WG N sc0 hN h0 h.2,cm,it,gt,gk,gn,tt,el,hs⟩
end PV
namespace PV
open PySem PySem.Spec PyProof.Rows L2 PySem.W
section
variable {X:Cx} {Y:Fx} {a b:Expr} {fa fb:En->R T} {pos pos' p p' :Pos}
theorem yi {cl:Nat->Value} {k j n:Nat} {f:Addr} {fd:FuncData} {ps:List Str} {g:List T->R T} {x:Str} {es:List Expr} {ga:En->R (List T)} (hy:Y.cl=cl) (hp:zY (CX1 X.prog X.w) X Y.E) (F:zB X.prog X.w X.K X.mg X.base (CX1 X.prog X.w) j f fd ps (spP cl n g)) (hr:Zk k X.A) (hj:j<=k) (gl:Gl X x)
  (mg:X.mg x=some (.ref f)) (kp:PySem.W.keepIn X.K (.ref f)=true) (bd:L2.Binds X.K fd ps []) (ha:JD X Y (a :: es) ga) (hd:(x == ("__debug__":Str))=false:=by decide)
  (hs:starEach (a :: es) X.env=(false,eval a X.env) :: starEach es X.env:=by exact zC rfl) (hz:((backTo pos (starEach es X.env)).any fun x=>x.fst)=false:=by exact zO rfl):Snd X Y (.Call (.Name x p) (a :: es) [] pos) (za n g ga):=by
 subst hy
 exact Uf F (hr.mono hj) gl mg kp bd hp ha hd hs hz
end
def jq (c:Nat):En->RS:=fun _=> .ex c
section
variable {P:Program} {w:World} {K:PySem.W.Frag} {mg:Str->Option Value} {base:Heap} {N:List Str} {qual:Str} {scope:Scope} {f:Addr} {cd:Value} {A:Around} {outer:List Env} {s:Shared} {H:Hp} {E:XK} {Y:Fx}
theorem jN {x m:Str} {C:Addr} {bm bmN:List Value} {Bn Bb newId nid initId inN:String} {np cpos pos ap:Pos} {j c:Nat} (O:OwnCls x C bm newId mg base) (Fn:ExcBaseFacts Bn newId inN bmN) (hBn:bm.contains (.type Bn)=true) (FB:ExcBaseFacts Bb nid initId bm)
  (hY:Y.E=E) (hc:Y.cl c= .ref C) (hg:Gl (ZA (CX1 P w) P w K mg base N qual scope f cd A outer s H E) x) (hd:(x == ("__debug__":Str))=false:=by decide):
  jI (ZA (CX1 P w) P w K mg base N qual scope f cd A outer s H E) Y (.Raise (some (.Call (.Name x np) [.Constant (.str m) j ap] [] cpos)) none pos) (jq c):= .mk fun ρ=>by
 subst hY
 refine PS.imp (Wj O Fn hBn FB hg ((Ud YI YJ:JD (ZA (CX1 P w) P w K mg base N qual scope f cd A outer s H Y.E) Y [.Constant (.str m) j ap] _) ρ) (zC rfl) hd) fun D σ H1 ⟨B,I,q⟩=>⟨B,I,fun vs H2 s2 r2=> ?_⟩
 have q:XP Y B c:=q
 refine ⟨?_, ?_⟩
 ·rw [r2.length]; exact (by decide:1<=sizeLine)
 ·have:=q none H2 (I.sH.trans s2) (I.sB.trans s2)
  rw [hc] at this
  exact this
theorem Fun.okX {x qual:Str} {st:Stmt} {f:Addr} {fd:FuncData} {N ps:List Str} {k:Nat} {sp:Sp} (F:Fun K x qual st f fd) (S:zc N ps (z9 st)) (len:∀ vs H Q E,sp vs H Q E->vs.length=ps.length)
  (hbody:∀ (cdv:Value) (A:Around) (outer:List Env) (s:Shared) (H:Hp) (vs:List V) (Q:VK) (E:XK),Zk k (A.deeper (envOfC qual (z9 st) s.heap.objs.size f cdv))->sp vs H Q E->
   ∃ t,PSs (ZA (CX1 P w) P w K mg base N qual (z9 st) f cdv A outer s H E) (zG st) t/\t { nx:=fun _ H' =>Q .non H',rt:=Q } (start N vs) H):zB P w K mg base (CX1 P w) (k+1) f fd ps sp:=by
 obtain ⟨oc,od,kV,doc,pm,an,cdv,ct,osl,rfl,lk,hcd⟩:=F.ex
 exact UI lk hcd S len fun A outer s H vs Q E hr hsp=>hbody cdv A outer s H vs Q E hr hsp
theorem zN {cl:Nat->Value} {x qual:Str} {st:Stmt} {f:Addr} {fd:FuncData} {N ps:List Str} {k n:Nat} {fb:En->RS} {g:List T->R T} (F:Fun K x qual st f fd) (S:zc N ps (z9 st)) (hn:n=ps.length)
  (hb:∀ (cdv:Value) (A:Around) (outer:List Env) (s:Shared) (H:Hp) (E:XK) (Y:Fx),Y.cl=cl->Y.E=E->Zk k (A.deeper (envOfC qual (z9 st) s.heap.objs.size f cdv))->
   JG (ZA (CX1 P w) P w K mg base N qual (z9 st) f cdv A outer s H E) Y (zG st) fb)
  (hg:∀ ts,ts.length=n->g ts=zl (fb (en0 N.length ts))):zB P w K mg base (CX1 P w) (k+1) f fd ps (spP cl n g):=by
 subst hn
 refine Fun.okX F S spP.len fun cdv A outer s H vs Q E hr ⟨B,ts,hl,sB,r,q⟩=> ?_
 refine ⟨_,hb cdv A outer s H E ⟨B,H,E,cl⟩ rfl rfl hr (en0 N.length ts),B,SI.start (Y:=⟨B,H,E,cl⟩) sB r, ?_⟩
 rw [hg ts hl] at q
 revert q
 cases fb (en0 N.length ts) with
 | rt t=>exact fun q v H' s r=>q v H' s r
 | rf t=>exact fun q a xs H' B' s0 n e r _ l=>q (.ref a) H' s0 (.lst (by rw [zA n]; exact e) (r.mono l))
 | nx ρ=>exact fun q σ' H' B' s' I' =>q _ H' I'.sH .non
 | bk ρ=>exact fun q=>q.elim
 | ct ρ=>exact fun q=>q.elim
 | ex c=>exact fun q=>q
 | bad=>exact fun q=>q
end
end PV
namespace PySem.W
open PySem PySem.Calls PyProof.Rows PySem.Spec Builtin Builtin.ObjectAttr Builtin.Getset_descriptor
section
variable {prog:Program} {w:World} {A:Around} {E:Value->Shared->Prop} {s:Shared} {K:Frag} {x C:Addr}
theorem Ji {tp:Value} {R:Result->Shared->Prop} (X:K.In s.heap) (L0:Looks (model prog w) s.heap (typeOf (.ref x)) (.ref C)) (hm:mroIn K C (.type "object")=some true)
  (h:R (.ok (.ret (.ref C))) s):codeAny (model prog w) A (.call (.builtin "getset_descriptor.__get__") ⟨[.builtin "object.__class__", .ref x,tp],[]⟩) R s:=by
 obtain ⟨hh,g,dr,t,os⟩:=s
 have L1:=looks_mroIn (M:=model prog w) X hm
 refine codeAny_call_builtin KF.slot_gs.plain KF.entry_gs (KF.slot_gs.check _ _ _ _ _ _ _ _ KF.type_class (KF.args_gs _ _ _) ?_)
 unfold Builtin.«getset_descriptor.__get__» descrGet
 rw [dga_obj]
 refine wpAny_bind (wpAny_pure ?_)
 unfold descrGetter descrCheckInstance descrNameAndClass isInstance
 simp only [KF.owner_class]
 repeat lk
 refine ⟨Code.quiet_builtin _ (by decide+kernel),codeAny_builtin KF.entry_class ?_⟩
 unfold Builtin.«object.__class__» shownTypeOf
 repeat lk
 exact h
theorem yj {M:Model} {h:Heap} (X:K.In h) (ha:findIn K (.ref C) "__class__"=some (some (.builtin "object.__class__"))) (hn:specialIn K (.builtin "object.__class__") "__get__"=some (some (.builtin "getset_descriptor.__get__")))
  (htk:takesIn K (.builtin "object.__class__")=some true):Looks M h (find (.ref x) (.ref C) "__class__") (.bind (.builtin "getset_descriptor.__get__") (.builtin "object.__class__")):=by
 have L1:=looks_findIn (M:=M) X ha
 have L2:Looks M h (getOf (some (.builtin "object.__class__"))) (some (.builtin "getset_descriptor.__get__")):=looks_specialIn X hn
 have L3:=looks_takesIn (M:=M) X htk
 refine L1.andThen (L2.andThen ?_)
 exact (show Looks M h (dataDescriptor? (some (.builtin "object.__class__")) (some (.builtin "getset_descriptor.__get__"))) (some (.builtin "getset_descriptor.__get__", .builtin "object.__class__")) from L3.andThen .now).andThen (Looks.tag .now)
theorem uI {M:Model} {nameV:Value} {Q:Unit->Shared->Prop} (L0:Looks M s.heap (typeOf (.ref x)) (.ref C)) (L1:Looks M s.heap (isSubtype (.ref C) (.type "BaseException")) true) (hq:Q () s):wpAny M A (checkBuiltinCall "BaseException.__getattribute__" ⟨[.ref x,nameV],[]⟩) Q E s:=by
 have hk:builtinKind "BaseException.__getattribute__"=some .slot:=by decide+kernel
 have hsplit:splitId "BaseException.__getattribute__"=some ("BaseException","__getattribute__"):=by decide+kernel
 have ha:=PySem.F.args_bexc_ga (.ref x) nameV
 obtain ⟨hh,g,d,t,os⟩:=s
 simp only [checkBuiltinCall,hk,hsplit]
 refine wpAny_bind ?_
 unfold isInstance
 repeat (first | lk | wp_step)
 exact hq
end
end PySem.W
namespace PySem.W
open PySem PySem.Calls PyProof.Rows PySem.Spec Builtin Builtin.ObjectAttr Builtin.Getset_descriptor
section
variable {prog:Program} {w:World} {A:Around} {E:Value->Shared->Prop} {s:Shared} {K:Frag} {x C:Addr}
structure XCls (K:Frag) (C:Addr):Prop where
 ga:findIn K (.ref C) "__getattribute__"=some (some (.builtin "BaseException.__getattribute__"))
 gt:findIn K (.ref C) "__getattr__"=some none
 ca:findIn K (.ref C) "__class__"=some (some (.builtin "object.__class__"))
 sp:specialIn K (.builtin "object.__class__") "__get__"=some (some (.builtin "getset_descriptor.__get__"))
 tk:takesIn K (.builtin "object.__class__")=some true
 ob:mroIn K C (.type "object")=some true
 be:mroIn K C (.type "BaseException")=some true
 cl:(clsIn K C).isSome=true
theorem uJ {tk:Tok} {Q:Fin->Shared->Prop} (X:K.In s.heap) (c:XCls K C) (L0:Looks (model prog w) s.heap (typeOf (.ref x)) (.ref C)) (hq:Q (.done (.ret (.ref C))) s):
  wpAny (model prog w) A (Builtin.«object.__getattribute__» ⟨[.ref x, .str "__class__" tk],[]⟩) Q E s:=by
 obtain ⟨hh,g,d,t,os⟩:=s
 have L1:=yj (M:=model prog w) (x:=x) X c.ca c.sp c.tk
 refine wpAny_bind (wpAny_pure (wpAny_bind (wpAny_pure (wpAny_bind (L0.at (wpAny_bind (L1.at ?_)))))))
 show wpAny _ _ (bindTo _ _ _ _) _ _ _
 unfold bindTo
 refine wpAny_bind (wpAny_call (Ji X L0 c.ob ?_))
 exact wpAny_pure hq
end
end PySem.W
namespace PySem.W
open PySem PySem.Calls PyProof.Rows PySem.Spec Builtin Builtin.ObjectAttr Builtin.Getset_descriptor
section
variable {prog:Program} {w:World} {A:Around} {E:Value->Shared->Prop} {s:Shared} {K:Frag} {x C:Addr}
theorem uK {Q:Option Value->Shared->Prop} (X:K.In s.heap) (c:XCls K C) (L0:Looks (model prog w) s.heap (typeOf (.ref x)) (.ref C)) (h:Q (some (.ref C)) { s with toks:=s.toks+1 }):wpAny (model prog w) A (getAttr? (.ref x) "__class__") Q E s:=by
 obtain ⟨hh,g,d,t,os⟩:=s
 have L1:=looks_findIn (M:=model prog w) X c.ga
 have L2:=looks_findIn (M:=model prog w) X c.gt
 have L3:=looks_mroIn (M:=model prog w) X c.be
 have fb:=PySem.F.attr_ValueError.ga.bind (.ref x)
 unfold getAttr? getAttrBy? getAttrBy
 refine wpAny_bind (wpAny_mkText (wpAny_bind (wpAny_attempt (wpAny_holding (wpAny_bind (L0.at (wpAny_bind (L1.at ?_))))))))
 dsimp only
 have hx2:(Value.builtin "BaseException.__getattribute__" == Value.builtin "object.__getattribute__")=false:=by decide+kernel
 rw [if_neg (by rw [hx2]; simp)]
 unfold getAttrByItsOwn hookBefore
 refine wpAny_bind ?_
 rw [if_pos (by rfl)]
 refine L2.at ?_
 refine wpAny_bind (wpAny_attempt (wpAny_holding ?_))
 unfold callGetattribute
 rw [if_neg (by simp)]
 unfold boundAndCalled
 rw [fb]
 refine wpAny_bind (wpAny_pure ?_)
 refine wpAny_call (codeAny_call_builtin PySem.F.attr_ValueError.ga.plain PySem.F.entry_bexc_ga (uI (s:=⟨hh,g,d,t+1,os⟩) L0 L3 (uJ (s:=⟨hh,g,d,t+1,os⟩) X c L0 ?_)))
 exact handed_on rfl (wpAny_pure h)
theorem yk (c:XCls K C):KitX K (.ref x) (.ref C) (fun h=>∃ o,h.get? x=some o/\o.cls= .ref C) where
 ty:=fun M h _ ⟨o,h1,h2⟩=>h2 ▸ (Looks.ld h1).andThen .now
 it:=fun _ _ X _=>by
  obtain ⟨cdD,hcD⟩:=Option.isSome_iff_exists.mp c.cl
  unfold clsIn at hcD
  split at hcD
  ·rename_i c' d' cd' sl' ho
   intro A' Q' E' s' k q
   unfold isType loadHead
   exact wpAny_bind (wpAny_loadPart (k _ _ (X _ _ ho)) (wpAny_pure q))
  ·cases hcD
 ne:=fun h tp dd its n sl X htp=>by
  obtain ⟨cdD,hcD⟩:=Option.isSome_iff_exists.mp c.cl
  refine Bool.eq_false_iff.mpr fun q=> ?_
  have e:C=tp:=Value.ref.inj (beq_iff_eq.mp q)
  subst e
  unfold clsIn at hcD
  split at hcD
  ·rename_i c' d' cd' sl' ho
   have z:=(X _ _ ho).symm.trans htp
   cases z
  ·cases hcD
 ca:=fun {prog w A E Q s} X ⟨o,h1,h2⟩ k=>uK X c (h2 ▸ (Looks.ld h1).andThen .now) k
end
end PySem.W
namespace PV
open PySem PySem.Spec PyProof.Rows L2 PySem.W
section
variable {X:Cx} {Y:Fx} {a b:Expr} {fa fb:En->R T} {pos pos' p p' :Pos}
def ZR (i:Nat) (ok tab:Nat->Bool):En->R T:=fun ρ=>match ρ[i]? with
 | some (.xc c)=>if ok c=true then .ok (.bl (tab c)) else .bad
 | _=> .bad
theorem Jj:Z1 X (.builtin "isinstance") (fun xs H Q=>∃ a C v b,xs=[.ref a,v]/\H a=some (.ext (w8 (.ref C) a))/\XCls X.K C/\(∀ u,zJ v u->kitOne X.K (.ref C) u=some b)/\Q (.bl b) H):=by
 intro pins s σ H xs us Q I rv h
 obtain ⟨a,C,v,b,rfl,e,c,hk,q⟩:=h
 obtain ⟨u,w,rfl,ru,rw'⟩:=wC rv
 obtain rfl:u=Value.ref a:=ru
 obtain ⟨hx,_,_⟩:=(show zF X.prog X.w H s.heap a (.ext (w8 (.ref C) a)) from I.hok a _ e)
 exact kia_one (yk c) I.kIn hx (hk w rw') (fun z=>nomatch z) fun tk=>⟨.bl _,H,I.tok tk,rfl,q⟩
structure XK1 (K:Frag) (cl:Nat->Value) (ok:Nat->Bool):Prop where
 at_:∀ c,ok c=true->∃ C,cl c= .ref C/\XCls K C
theorem Zq {i:Nat} {ok tab:Nat->Bool} {y cn:Str} {C:Addr} {yp cp:Pos} (hK:XK1 X.K Y.cl ok) (ht:∀ c,ok c=true->kitOne X.K (Y.cl c) (.ref C)=some (tab c)) (gl:Gl X "isinstance") (mg:X.mg "isinstance"=none) (hv:PE X (.Name y yp) (uf i)) (gl' :Gl X cn) (mg' :X.mg cn=some (.ref C))
  (hd:(cn == ("__debug__":Str))=false:=by decide):Snd X Y (.Call (.Name "isinstance" p) [.Name y yp, .Name cn cp] [] pos) (ZR i ok tab):= .mk fun ρ=>
 PE.imp (zU Jj gl mg PyProof.Rows.Boot.«isinstance» (zg hv (zg (W2 (v:= .ref C) gl' mg' rfl hd) zu (st1 rfl)) (st2 rfl rfl)) (by decide) (by decide) (by rw [st2 rfl rfl,st1 rfl]) (zO rfl)) fun σ H Q ⟨B,I,q⟩=>by
  unfold ZR at q
  split at q
  ·rename_i c e
   split at q
   ·rename_i hc
    obtain ⟨a,e1,r⟩:=I.xc i c e
    obtain ⟨Cc,e2,xc⟩:=hK.at_ c hc
    have ht' :=ht c hc
    rw [e2] at r ht'
    exact ⟨_,e1,a,Cc,_,_,rfl,I.sB a _ r,xc,fun u ru=>by obtain rfl:u=Value.ref C:=ru; exact ht',Z6 I q (.bl _)⟩
   ·exact q.elim
  ·exact q.elim
theorem yl {i:Nat} {ok tab:Nat->Bool} {y:Str} {n:String} {yp cp:Pos} (hK:XK1 X.K Y.cl ok) (ht:∀ c,ok c=true->kitOne X.K (Y.cl c) (.type n)=some (tab c)) (gl:Gl X "isinstance") (mg:X.mg "isinstance"=none) (hv:PE X (.Name y yp) (uf i)) (gl' :Gl X (Str.ofString n)) (mg' :X.mg (Str.ofString n)=none)
  (bt:bootBuiltins (Str.ofString n)=some (.type n)) (hn:Str.ofString n ≠ "__name__":=by decide) (hd:(Str.ofString n == ("__debug__":Str))=false:=by decide):Snd X Y (.Call (.Name "isinstance" p) [.Name y yp, .Name (Str.ofString n) cp] [] pos) (ZR i ok tab):= .mk fun ρ=>
 PE.imp (zU Jj gl mg PyProof.Rows.Boot.«isinstance» (zg hv (zg (jE (v:= .ty n) gl' mg' bt rfl hn hd) zu (st1 rfl)) (st2 rfl rfl)) (by decide) (by decide) (by rw [st2 rfl rfl,st1 rfl]) (zO rfl)) fun σ H Q ⟨B,I,q⟩=>by
  unfold ZR at q
  split at q
  ·rename_i c e
   split at q
   ·rename_i hc
    obtain ⟨a,e1,r⟩:=I.xc i c e
    obtain ⟨Cc,e2,xc⟩:=hK.at_ c hc
    have ht' :=ht c hc
    rw [e2] at r ht'
    exact ⟨_,e1,a,Cc,_,_,rfl,I.sB a _ r,xc,fun u ru=>by obtain rfl:u=Value.type n:=ru; exact ht',Z6 I q (.bl _)⟩
   ·exact q.elim
  ·exact q.elim
def spC (cl:Nat->Value) (gx:Nat->R T):Sp:=fun vs H Q E=>∃ B a c,vs=[V.ref a]/\zi B H/\B a=some (.ext (w8 (cl c) a))/\Po ⟨B,H,E,cl⟩ rC B H (gx c) Q
end
section
variable {P:Program} {w:World} {K:PySem.W.Frag} {mg:Str->Option Value} {base:Heap}
def enC (n c:Nat):En:= .xc c :: List.replicate (n - 1) .un
theorem SI.startC {Y:Fx} {N:List Str} {a:Addr} {c:Nat} (s:zi Y.B0 Y.H0) (hN:1<=N.length) (r:Y.B0 a=some (.ext (w8 (Y.cl c) a))):SI Y Y.B0 (enC N.length c) (L2.start N [V.ref a]) Y.H0 where
 s0:=s
 sH:=zi.refl _
 sB:=s
 old:=fun _ _ _=>rfl
 len:=by unfold enC L2.start; simp
 vl:=fun i t h=>by
  unfold enC at h
  cases i with
  | zero=>cases h
  | succ i=>rw [List.getElem?_cons_succ,List.getElem?_replicate] at h; split at h <;> cases h
 ow:=fun i t h=>by
  unfold enC at h
  cases i with
  | zero=>cases h
  | succ i=>rw [List.getElem?_cons_succ,List.getElem?_replicate] at h; split at h <;> cases h
 xc:=fun i d h=>by
  unfold enC at h
  cases i with
  | zero=>
   cases h
   exact ⟨a,by unfold L2.start; rfl,r⟩
  | succ i=>rw [List.getElem?_cons_succ,List.getElem?_replicate] at h; split at h <;> cases h
end
end PV
namespace PySem.ZG
open PySem PySem.Spec PySem.Builtin.SmallTypes
structure JM (i:Addr) (fp:List Addr) (v:Nat->Option Value) (St:Nat->Heap->Prop):Prop where
 mem:i∈fp
 item:∀ {prog:Program} {w:World} {A:Around} {E:Value->Shared->Prop} {s:Shared} {Q:Value->Shared->Prop} {k:Nat} {x:Value},St k s.heap->v k=some x->(∀ h',St (k+1) h' ->Heap.SameBut i s.heap h' ->Q x { s with heap:=h' })->wpAny (model prog w) A (nextOf (.ref i)) Q E s
 stop:∀ {prog:Program} {w:World} {A:Around} {E:Value->Shared->Prop} {s:Shared} {Q:Value->Shared->Prop} {k:Nat},A.handled=none->St k s.heap->v k=none->(∀ h' e,Heap.ExtBut i s.heap h' ->(∃ o,h'.get? e=some o/\o.cls= .type "StopIteration")->E (.ref e) { s with heap:=h' })->wpAny (model prog w) A (nextOf (.ref i)) Q E s
 keep:∀ {k:Nat} {h h' :Heap},St k h->(∀ b∈fp,∀ o,h.get? b=some o->h'.get? b=some o)->St k h'
 there:∀ {k:Nat} {h:Heap},St k h->∀ b∈fp,∃ o,h.get? b=some o
theorem JM.but {i:Addr} {fp:List Addr} {v:Nat->Option Value} {St:Nat->Heap->Prop} (N:JM i fp v St) {k:Nat} {h h' :Heap} {b:Addr} (x:St k h) (e:Heap.ExtBut b h h') (n:b ∉ fp):St k h' :=
 N.keep x fun c hc o q=>e c o (fun z=>n (z ▸ hc)) q
theorem ym {i l:Addr} (hil:l ≠ i) (xs:Array Value):JM i [i,l] (fun k=>xs[k]?) (fun k h=>h.IsListIter i l k/\h.IsList l xs) where
 mem:= .head _
 item:=fun st hx h=>wpAny_nextOf_list_item st.1 st.2 hx fun h' a b=>h h' ⟨a,st.2.extBut b.extBut hil⟩ b
 stop:=fun hh st hx h=>wpAny_nextOf_list_end hh st.1 st.2 hx h
 keep:=fun st k=>⟨st.1.at fun o e=>k i (.head _) o e,st.2.at fun o e=>k l (.tail _ (.head _)) o e⟩
 there:=fun st b hb=>by
  obtain ⟨⟨o,e,_⟩,o2,e2,_⟩:=st
  rcases List.mem_cons.mp hb with z | hb
  ·exact ⟨o,z ▸ e⟩
  ·exact ⟨o2,(List.mem_singleton.mp hb) ▸ e2⟩
end PySem.ZG
namespace PySem.ZG
open PySem PySem.Spec PySem.Builtin.SmallTypes
section
variable {prog:Program} {w:World} {A:Around} {E:Value->Shared->Prop} {s:Shared} {it l:Addr} {k:Nat} {xs:Array Value} {Q:Value->Shared->Prop}
theorem wf (hit:s.heap.IsTupleIter it l k) (h:wpAny (model prog w) A.in1 (Builtin.«tuple_iterator.__next__» ⟨[.ref it],[]⟩) (fun fin s' =>∃ v,fin= .done (.ret v)/\Q v s') E s):wpAny (model prog w) A (nextOf (.ref it)) Q E s:=by
 unfold nextOf
 exact wpAny_bind (wpAny_callSpecial?_slot (name:=Str.ofString "__next__") hit.typeIs PySem.F.slot_tuple_iterator_next (wpAny_call_entry PySem.F.slot_tuple_iterator_next hit.typeIs PySem.F.entry_tuple_iterator_next
  (wpAny_mono h (fun fin s' ⟨v,e,q⟩=>⟨v,e,wpAny_pure q⟩) fun _ _ z=>z) (PySem.F.args_tuple_iterator_next_1 _)))
theorem uL (hit:s.heap.IsTupleIter it l k) (ht:s.heap.IsTuple l xs) {x:Value} (hx:xs[k]? =some x) (h:∀ h',h'.IsTupleIter it l (k+1)->Heap.SameBut it s.heap h' ->Q x { s with heap:=h' }):wpAny (model prog w) A (nextOf (.ref it)) Q E s:=by
 refine wf hit ?_
 obtain ⟨o,ho,hc,hd⟩:=id hit
 obtain ⟨ol,hol,_,nl,hdl⟩:=ht
 refine wpAny_bind (m:=field (.ref it) 0) (wpAny_field ho hd (x:= .ref l) rfl ?_)
 rw [if_neg (show ¬((Value.ref l == Value.none)=true) by exact Bool.false_ne_true)]
 refine wpAny_bind (m:=field (.ref it) 1) (wpAny_field ho hd (x:= .int k 0) rfl (wpAny_bind (m:=seqItems? (.ref l)) (wpAny_seqItems hol hdl ?_)))
 simp only [Int.toNat_natCast,hx]
 have g:=Heap.get?_update_self (Obj.mapFields (·.setIfInBounds 1 (rawInt (k+1:Nat)))) ho (Obj.isFreed_of_fields (Obj.data_mapFields hd _))
 refine wpAny_bind (wpAny_setField ho hd (by simp) (wpAny_pure ⟨x,rfl,h _ ⟨_,g,(Obj.cls_mapFields ..).trans hc, ?_⟩ (Heap.SameBut.update ..)⟩))
 rw [Obj.data_mapFields hd]; simp [rawInt]
theorem uM (hh:A.handled=none) (hit:s.heap.IsTupleIter it l k) (ht:s.heap.IsTuple l xs) (hx:xs[k]? =none)
  (h:∀ h' e,Heap.ExtBut it s.heap h' ->(∃ o,h'.get? e=some o/\o.cls= .type "StopIteration")->E (.ref e) { s with heap:=h' }):wpAny (model prog w) A (nextOf (.ref it)) Q E s:=by
 refine wf hit ?_
 obtain ⟨o,ho,hc,hd⟩:=id hit
 obtain ⟨ol,hol,_,nl,hdl⟩:=ht
 refine wpAny_bind (m:=field (.ref it) 0) (wpAny_field ho hd (x:= .ref l) rfl ?_)
 rw [if_neg (show ¬((Value.ref l == Value.none)=true) by exact Bool.false_ne_true)]
 refine wpAny_bind (m:=field (.ref it) 1) (wpAny_field ho hd (x:= .int k 0) rfl (wpAny_bind (m:=seqItems? (.ref l)) (wpAny_seqItems hol hdl ?_)))
 simp only [Int.toNat_natCast,hx]
 refine wpAny_bind (wpAny_rule (wpAny_bind (wpAny_setField ho hd (by simp) (wpAny_bind (m:=newExc (.type "StopIteration") []) ?_))))
 simp only [newExc,newTuple]
 refine wpAny_bind (wpAny_newObj_type (wpAny_bind (m:=firstArgMember _ _) (wpAny_of_eq (a:=Value.none) (by first | rfl | (simp only [firstArgMember]; rfl)) (wpAny_newObj_type ?_ (by size_fits)))) (by size_fits))
 simp only [raiseNew]
 refine wpAny_bind (wpAny_handled ?_)
 rw [show A.in1.handled=none from hh]
 exact wpAny_bind (wpAny_pure (wpAny_throw (h _ _ (((Heap.SameBut.update ..).extBut.push _).push _) ⟨_,Heap.get?_push_size _ rfl,rfl⟩)))
end
theorem qy {i l:Addr} (hil:l ≠ i) (xs:Array Value):JM i [i,l] (fun k=>xs[k]?) (fun k h=>h.IsTupleIter i l k/\h.IsTuple l xs) where
 mem:= .head _
 item:=fun st hx h=>uL st.1 st.2 hx fun h' a b=>h h' ⟨a,st.2.extBut b.extBut hil⟩ b
 stop:=fun hh st hx h=>uM hh st.1 st.2 hx h
 keep:=fun st k=>by
  obtain ⟨⟨o,e,r⟩,o2,e2,r2⟩:=st
  exact ⟨⟨o,k i (.head _) o e,r⟩,o2,k l (.tail _ (.head _)) o2 e2,r2⟩
 there:=fun st b hb=>by
  obtain ⟨⟨o,e,_⟩,o2,e2,_⟩:=st
  rcases List.mem_cons.mp hb with z | hb
  ·exact ⟨o,z ▸ e⟩
  ·exact ⟨o2,(List.mem_singleton.mp hb) ▸ e2⟩
end PySem.ZG
namespace PySem.ZG
open PySem PySem.Spec PySem.Builtin.SmallTypes
structure Ap (z TI TO i1 i2:Addr) (fp1 fp2:List Addr):Prop where
 Iz:TI ≠ z
 Oz:TO ≠ z
 IO:TI ≠ TO
 I1:TI ≠ i1
 I2:TI ≠ i2
 z1:z ∉ fp1
 z2:z ∉ fp2
 O1:TO ∉ fp1
 O2:TO ∉ fp2
 a:i1 ∉ fp2
 b:i2 ∉ fp1
section
variable {prog:Program} {w:World} {A:Around} {E:Value->Shared->Prop} {s:Shared} {z TI TO i1 i2:Addr} {fp1 fp2:List Addr} {v1 v2:Nat->Option Value} {S1 S2:Nat->Heap->Prop} {k:Nat} {x y a b:Value}
theorem Ap.ne1 (D:Ap z TI TO i1 i2 fp1 fp2) (N1:JM i1 fp1 v1 S1):i1 ≠ z/\i1 ≠ TO:=⟨fun e=>D.z1 (e ▸ N1.mem),fun e=>D.O1 (e ▸ N1.mem)⟩
theorem Ap.ne2 (D:Ap z TI TO i1 i2 fp1 fp2) (N2:JM i2 fp2 v2 S2):i2 ≠ z/\i2 ≠ TO:=⟨fun e=>D.z2 (e ▸ N2.mem),fun e=>D.O2 (e ▸ N2.mem)⟩
theorem yn {Q:Value->Shared->Prop} (N1:JM i1 fp1 v1 S1) (N2:JM i2 fp2 v2 S2) (D:Ap z TI TO i1 i2 fp1 fp2) (hz:IsZip s.heap z TI TO .none) (hTI:IsPair s.heap TI (.ref i1) (.ref i2)) (hTO:IsPair s.heap TO a b) (p1:S1 k s.heap) (p2:S2 k s.heap) (hx:v1 k=some x) (hy:v2 k=some y)
  (hQ:∀ h',IsZip h' z TI TO (rawInt s.heap.objs.size)->IsPair h' TO x y->S1 (k+1) h' ->S2 (k+1) h' ->IsPair h' s.heap.objs.size x y->
   (∀ c o,c ≠ z->c ≠ TO->c ≠ i1->c ≠ i2->s.heap.get? c=some o->h'.get? c=some o)->Q (.ref s.heap.objs.size) { s with heap:=h' }):
  wpAny (model prog w) A (Builtin.«zip.__next__» ⟨[.ref z],[]⟩) (fun fin s' =>∃ v,fin= .done (.ret v)/\Q v s') E s:=by
 refine wpAny_bind (m:=field (.ref z) 2) (wpAny_field hz rfl (x:= .bool false) rfl (wpAny_bind (m:=field (.ref z) 3) (wpAny_field hz rfl (x:= .ref TI) rfl (wpAny_bind (wpAny_seqItems hTI rfl ?_)))))
 refine wpAny_bind (m:=ownedTupleIsFree (.ref z)) ?_
 unfold ownedTupleIsFree
 refine wpAny_bind (wpAny_field hz rfl (x:= .none) rfl (wpAny_pure ?_))
 simp only [if_true]
 refine wpAny_bind (wpAny_rule (wpAny_bind (wpAny_field hz rfl (x:= .ref TO) rfl (wpAny_bind (wpAny_setField_rec hz (by simp) fun g1 z1 e1=> ?_)))))
 replace z1:IsZip g1 z TI TO .ellipsis:=z1
 refine wpAny_bind ?_
 simp only [List.zipIdx_cons,List.zipIdx_nil,List.forIn_cons,List.forIn_nil]
 refine wpAny_bind (wpAny_bind (wpAny_onRaise (wpAny_bind (m:=nextOf (.ref i1)) (N1.item (N1.but p1 e1.extBut D.z1) hx fun g2 q1 e2=>wpAny_pure ?_))))
 have t2:IsPair g2 TO a b:=e2.extBut _ _ (D.ne1 N1).2.symm (e1.extBut _ _ D.Oz hTO)
 refine wpAny_bind (wpAny_seqItems t2 rfl (wpAny_bind (wpAny_updateSeq_pair t2 fun g3 t3 e3=> ?_)))
 replace t3:IsPair g3 TO x b:=t3
 refine wpAny_bind (wpAny_letGo (wpAny_pure ?_))
 refine wpAny_bind (wpAny_bind (wpAny_onRaise (wpAny_bind (m:=nextOf (.ref i2)) (N2.item (N2.but (N2.but (N2.but p2 e1.extBut D.z2) e2.extBut D.a) e3.extBut D.O2) hy fun g4 q2 e4=>wpAny_pure ?_))))
 have t4:IsPair g4 TO x b:=e4.extBut _ _ (D.ne2 N2).2.symm t3
 refine wpAny_bind (wpAny_seqItems t4 rfl (wpAny_bind (wpAny_updateSeq_pair t4 fun g5 t5 e5=> ?_)))
 replace t5:IsPair g5 TO x y:=t5
 refine wpAny_bind (wpAny_letGo (wpAny_pure (wpAny_pure ?_)))
 refine wpAny_bind (wpAny_seqItems t5 rfl (wpAny_bind (wpAny_newTuple ?_)))
 have sz:g5.objs.size=s.heap.objs.size:=by rw [e5.1,e4.1,e3.1,e2.1,e1.1]
 have z5:IsZip g5 z TI TO .ellipsis:=e5.extBut _ _ D.Oz.symm (e4.extBut _ _ (D.ne2 N2).1.symm (e3.extBut _ _ D.Oz.symm (e2.extBut _ _ (D.ne1 N1).1.symm z1)))
 have k5:∀ c o,c ≠ z->c ≠ TO->c ≠ i1->c ≠ i2->s.heap.get? c=some o->g5.get? c=some o:=fun c o c1 c2 c3 c4 e=>
  e5.extBut _ _ c2 (e4.extBut _ _ c4 (e3.extBut _ _ c2 (e2.extBut _ _ c3 (e1.extBut _ _ c1 e))))
 have r1:S1 (k+1) g5:=N1.but (N1.but (N1.but q1 e3.extBut D.O1) e4.extBut D.b) e5.extBut D.O1
 have r2:S2 (k+1) g5:=N2.but q2 e5.extBut D.O2
 refine wpAny_bind (m:=ownedTupleHandOut (.ref z) (.ref g5.objs.size)) ?_
 unfold ownedTupleHandOut
 have z6:IsZip (g5.push { cls:= .type "tuple",data:= .seq #[x,y] }) z TI TO .ellipsis:=Heap.get?_push_of_some _ z5
 refine wpAny_bind (wpAny_setField_rec z6 (by simp) fun g7 z7 e7=> ?_)
 replace z7:IsZip g7 z TI TO (rawInt g5.objs.size):=z7
 refine wpAny_setField_rec z7 (by simp) fun g8 z8 e8=> ?_
 replace z8:IsZip g8 z TI TO (rawInt g5.objs.size):=z8
 have up:∀ c o,c ≠ z->g5.get? c=some o->g8.get? c=some o:=fun c o c1 e=>e8.extBut _ _ c1 (e7.extBut _ _ c1 (Heap.get?_push_of_some _ e))
 have hn:g5.objs.size ≠ z:=Nat.ne_of_gt (Heap.lt_size z5)
 have t8:IsPair g8 g5.objs.size x y:=e8.extBut _ _ hn (e7.extBut _ _ hn (Heap.get?_push_size _ rfl))
 rw [sz] at z8 t8
 refine wpAny_pure ⟨_,rfl, ?_⟩
 show Q (.ref g5.objs.size) _
 rw [sz]
 exact hQ g8 z8 (up _ _ D.Oz t5) (N1.keep r1 fun c hc o e=>up c o (fun q=>D.z1 (q ▸ hc)) e) (N2.keep r2 fun c hc o e=>up c o (fun q=>D.z2 (q ▸ hc)) e) t8 fun c o c1 c2 c3 c4 e=>up c o c1 (k5 c o c1 c2 c3 c4 e)
theorem yo {Q:Fin->Shared->Prop} (hh:A.handled=none) (N1:JM i1 fp1 v1 S1) (N2:JM i2 fp2 v2 S2) (D:Ap z TI TO i1 i2 fp1 fp2) (hz:IsZip s.heap z TI TO .none) (hTI:IsPair s.heap TI (.ref i1) (.ref i2)) (hTO:IsPair s.heap TO a b) (p1:S1 k s.heap) (p2:S2 k s.heap) (hend:v1 k=none\/v2 k=none)
  (hE:∀ h' e,(∀ c o,c ≠ z->c ≠ TO->c ≠ i1->c ≠ i2->s.heap.get? c=some o->h'.get? c=some o)->(∃ o,h'.get? e=some o/\o.cls= .type "StopIteration")->E (.ref e) { s with heap:=h' }):
  wpAny (model prog w) A (Builtin.«zip.__next__» ⟨[.ref z],[]⟩) Q E s:=by
 refine wpAny_bind (m:=field (.ref z) 2) (wpAny_field hz rfl (x:= .bool false) rfl (wpAny_bind (m:=field (.ref z) 3) (wpAny_field hz rfl (x:= .ref TI) rfl (wpAny_bind (wpAny_seqItems hTI rfl ?_)))))
 refine wpAny_bind (m:=ownedTupleIsFree (.ref z)) ?_
 unfold ownedTupleIsFree
 refine wpAny_bind (wpAny_field hz rfl (x:= .none) rfl (wpAny_pure ?_))
 simp only [if_true]
 refine wpAny_bind (wpAny_rule (wpAny_bind (wpAny_field hz rfl (x:= .ref TO) rfl (wpAny_bind (wpAny_setField_rec hz (by simp) fun g1 z1 e1=> ?_)))))
 replace z1:IsZip g1 z TI TO .ellipsis:=z1
 refine wpAny_bind ?_
 simp only [List.zipIdx_cons,List.zipIdx_nil,List.forIn_cons,List.forIn_nil]
 have off:∀ {g:Heap} {e:Addr} {oe:Obj},IsZip g z TI TO .ellipsis->g.get? e=some oe->oe.cls= .type "StopIteration"->e ≠ z:=fun hg he hc q=>by
  subst q; rw [hg] at he; cases he; simp at hc
 cases hx:v1 k with
 | none=>
  refine wpAny_bind (wpAny_bind (wpAny_onRaise (wpAny_bind (m:=nextOf (.ref i1)) (N1.stop hh (N1.but p1 e1.extBut D.z1) hx fun g2 e e2 he=> ?_))))
  obtain ⟨oe,ho,hc⟩:=he
  have z2:IsZip g2 z TI TO .ellipsis:=e2 _ _ (D.ne1 N1).1.symm z1
  exact wpAny_setField_rec z2 (by simp) fun g3 _ e3=>hE g3 e (fun c o c1 _ c3 _ q=>e3.extBut _ _ c1 (e2 _ _ c3 (e1.extBut _ _ c1 q))) ⟨oe,e3.extBut _ _ (off z2 ho hc) ho,hc⟩
 | some x=>
  have hy:v2 k=none:=by
   rcases hend with q | q
   ·rw [hx] at q; cases q
   ·exact q
  refine wpAny_bind (wpAny_bind (wpAny_onRaise (wpAny_bind (m:=nextOf (.ref i1)) (N1.item (N1.but p1 e1.extBut D.z1) hx fun g2 q1 e2=>wpAny_pure ?_))))
  have t2:IsPair g2 TO a b:=e2.extBut _ _ (D.ne1 N1).2.symm (e1.extBut _ _ D.Oz hTO)
  refine wpAny_bind (wpAny_seqItems t2 rfl (wpAny_bind (wpAny_updateSeq_pair t2 fun g3 t3 e3=>wpAny_bind (wpAny_letGo (wpAny_pure ?_)))))
  refine wpAny_bind (wpAny_bind (wpAny_onRaise (wpAny_bind (m:=nextOf (.ref i2)) (N2.stop hh (N2.but (N2.but (N2.but p2 e1.extBut D.z2) e2.extBut D.a) e3.extBut D.O2) hy fun g4 e e4 he=> ?_))))
  obtain ⟨oe,ho,hc⟩:=he
  have z4:IsZip g4 z TI TO .ellipsis:=e4 _ _ (D.ne2 N2).1.symm (e3.extBut _ _ D.Oz.symm (e2.extBut _ _ (D.ne1 N1).1.symm z1))
  exact wpAny_setField_rec z4 (by simp) fun g5 _ e5=>hE g5 e (fun c o c1 c2 c3 c4 q=>e5.extBut _ _ c1 (e4 _ _ c4 (e3.extBut _ _ c2 (e2.extBut _ _ c3 (e1.extBut _ _ c1 q))))) ⟨oe,e5.extBut _ _ (off z4 ho hc) ho,hc⟩
theorem yq {Q:Option Value->Shared->Prop} (N1:JM i1 fp1 v1 S1) (N2:JM i2 fp2 v2 S2) (D:Ap z TI TO i1 i2 fp1 fp2) (hz:IsZip s.heap z TI TO .none) (hTI:IsPair s.heap TI (.ref i1) (.ref i2)) (hTO:IsPair s.heap TO a b) (p1:S1 k s.heap) (p2:S2 k s.heap) (hx:v1 k=some x) (hy:v2 k=some y)
  (hQ:∀ h',IsZip h' z TI TO (rawInt s.heap.objs.size)->IsPair h' TO x y->S1 (k+1) h' ->S2 (k+1) h' ->IsPair h' s.heap.objs.size x y->
   (∀ c o,c ≠ z->c ≠ TO->c ≠ i1->c ≠ i2->s.heap.get? c=some o->h'.get? c=some o)->Q (some (.ref s.heap.objs.size)) { s with heap:=h' }):wpAny (model prog w) A (pyNext (.ref z)) Q E s:=by
 have ty:s.TypeIs (.ref z) "zip":=⟨_,hz,rfl⟩
 unfold pyNext
 exact wpAny_bind (wpAny_attempt (wpAny_callSpecial?_slot (name:=Str.ofString "__next__") ty PySem.F.slot_zip_next (wpAny_call_entry PySem.F.slot_zip_next ty PySem.F.entry_zip_next
  (yn N1 N2 D hz hTI hTO p1 p2 hx hy fun h' a1 a2 a3 a4 a5 a6=>wpAny_pure (hQ h' a1 a2 a3 a4 a5 a6)) (PySem.F.args_zip_next_1 _))))
theorem yr {Q:Option Value->Shared->Prop} (hh:A.handled=none) (N1:JM i1 fp1 v1 S1) (N2:JM i2 fp2 v2 S2) (D:Ap z TI TO i1 i2 fp1 fp2) (hz:IsZip s.heap z TI TO .none) (hTI:IsPair s.heap TI (.ref i1) (.ref i2)) (hTO:IsPair s.heap TO a b) (p1:S1 k s.heap) (p2:S2 k s.heap) (hend:v1 k=none\/v2 k=none)
  (hQ:∀ h',(∀ c o,c ≠ z->c ≠ TO->c ≠ i1->c ≠ i2->s.heap.get? c=some o->h'.get? c=some o)->Q none { s with heap:=h' }):wpAny (model prog w) A (pyNext (.ref z)) Q E s:=by
 have ty:s.TypeIs (.ref z) "zip":=⟨_,hz,rfl⟩
 unfold pyNext
 refine wpAny_bind (wpAny_attempt (wpAny_callSpecial?_slot (name:=Str.ofString "__next__") ty PySem.F.slot_zip_next (wpAny_call_entry PySem.F.slot_zip_next ty PySem.F.entry_zip_next
  (yo hh N1 N2 D hz hTI hTO p1 p2 hend fun h' e kp he=> ?_) (PySem.F.args_zip_next_1 _))))
 obtain ⟨o,ho,hc⟩:=he
 exact wpAny_bind (wpAny_isInstance (T:="StopIteration") (b:=true) ⟨o,ho,hc⟩ isSubtype_stop (wpAny_pure (hQ _ kp)))
end
end PySem.ZG
namespace PySem.ZG
open PySem PySem.Spec PySem.Builtin.SmallTypes
structure yt (l:Addr) (o:Obj) (P:Heap->Prop):Prop where
 go:∀ {prog:Program} {w:World} {A:Around} {E:Value->Shared->Prop} {s:Shared} {Q:Value->Shared->Prop},P s.heap->Q (.ref s.heap.objs.size) { s with heap:=s.heap.push o }->wpAny (model prog w) A (pyIter (.ref l)) Q E s
 push:∀ {h:Heap} (o' :Obj),P h->P (h.push o')
 fresh:o.isFreed=false
abbrev oL (l:Addr):Obj:={ cls:= .type "list_iterator",data:= .fields #[.ref l, .int 0 0] }
abbrev oT (l:Addr):Obj:={ cls:= .type "tuple_iterator",data:= .fields #[.ref l, .int 0 0] }
theorem yu (l:Addr) (xs:Array Value):yt l (oL l) (fun h=>h.IsList l xs):=⟨fun p q=>wpAny_pyIter_list p q,fun o p=>Heap.IsList.push p o,rfl⟩
theorem qz (l:Addr) (xs:Array Value):yt l (oT l) (fun h=>h.IsTuple l xs):=⟨fun p q=>wpAny_pyIter_tuple p q,fun o p=>Heap.IsTuple.push p o,rfl⟩
abbrev zh2 (h:Heap) (o1 o2:Obj):Heap:=(h.push o1).push o2
abbrev zh3 (h:Heap) (o1 o2:Obj):Heap:=(zh2 h o1 o2).push { cls:= .type "tuple",data:= .seq #[.ref h.objs.size, .ref (h.push o1).objs.size] }
abbrev zh4 (h:Heap) (o1 o2:Obj):Heap:=(zh3 h o1 o2).push { cls:= .type "tuple",data:= .seq #[.none, .none] }
abbrev zh5 (h:Heap) (o1 o2:Obj):Heap:=(zh4 h o1 o2).push { cls:= .type "zip",data:= .fields #[.none, .bool false, .bool false, .ref (zh2 h o1 o2).objs.size, .ref (zh3 h o1 o2).objs.size] }
theorem qA {l1 l2:Addr} {o1 o2:Obj} {P1 P2:Heap->Prop} (J1:yt l1 o1 P1) (J2:yt l2 o2 P2):
  Meets (Builtin.«zip.__new__» ⟨[.type "zip", .ref l1, .ref l2],[]⟩) (fun _ R s=>P1 s.heap/\P2 s.heap/\R (.ok (.ret (.ref (zh4 s.heap o1 o2).objs.size))) { s with heap:=zh5 s.heap o1 o2 }):=
 .of_wp fun prog w A R s h=>by
  obtain ⟨hp,g,d,tk,os⟩:=s
  obtain ⟨q1,q2,h⟩:=h
  have hsub:=sub_zip
  have c1:P1 (Shared.heap ⟨hp,g,d,tk,os⟩):=q1
  have c2:P2 (Shared.heap ⟨hp.push o1,g,d,tk,os⟩):=J2.push o1 q2
  wp_walk using J1.go c1,J2.go c2
  exact ⟨_,rfl,h⟩
end PySem.ZG
namespace PySem.ZG
open PySem PySem.Spec PySem.Builtin.SmallTypes
theorem yv {prog:Program} {w:World} {A:Around} {E:Value->Shared->Prop} {s:Shared} {l1 l2:Addr} {o1 o2:Obj} {P1 P2:Heap->Prop} {Q:Value->Shared->Prop} (J1:yt l1 o1 P1) (J2:yt l2 o2 P2) (q1:P1 s.heap) (q2:P2 s.heap)
  (h:∀ h' n,n=s.heap.objs.size->IsZip h' (n+4) (n+2) (n+3) .none->IsPair h' (n+2) (.ref n) (.ref (n+1))->IsPair h' (n+3) .none .none->h'.get? n=some o1->h'.get? (n+1)=some o2->
   (∀ c o,s.heap.get? c=some o->h'.get? c=some o)->Q (.ref (n+4)) { s with heap:=h' }):wpAny (model prog w) A (call (.type "zip") [.ref l1, .ref l2]) Q E s:=by
 refine callType_new PySem.F.called_zip (by decide) (PySem.F.typeCall_zip_2 _ _) (PySem.F.newCall_zip_2 _ _) (fun obj=>PySem.F.args_object_init_3 obj _ _) PySem.F.entry_zip_new (qA J1 J2) ⟨q1,q2, ?_⟩
 have n1:(s.heap.push o1).objs.size=s.heap.objs.size+1:=Heap.size_push ..
 have n2:(zh2 s.heap o1 o2).objs.size=s.heap.objs.size+2:=by rw [Heap.size_push,n1]
 have n3:(zh3 s.heap o1 o2).objs.size=s.heap.objs.size+3:=by rw [Heap.size_push,n2]
 have n4:(zh4 s.heap o1 o2).objs.size=s.heap.objs.size+4:=by rw [Heap.size_push,n3]
 have up:∀ {h:Heap} {c:Addr} {o:Obj} (o' :Obj),h.get? c=some o->(h.push o').get? c=some o:=fun o' e=>Heap.get?_push_of_some o' e
 have e5:(zh5 s.heap o1 o2).get? (zh4 s.heap o1 o2).objs.size=some _:=Heap.get?_push_size _ rfl
 have e4:(zh5 s.heap o1 o2).get? (zh3 s.heap o1 o2).objs.size=some _:=up _ (Heap.get?_push_size _ rfl)
 have e3:(zh5 s.heap o1 o2).get? (zh2 s.heap o1 o2).objs.size=some _:=up _ (up _ (Heap.get?_push_size _ rfl))
 have e2:(zh5 s.heap o1 o2).get? (s.heap.push o1).objs.size=some _:=up _ (up _ (up _ (Heap.get?_push_size _ J2.fresh)))
 have e1:(zh5 s.heap o1 o2).get? s.heap.objs.size=some _:=up _ (up _ (up _ (up _ (Heap.get?_push_size _ J1.fresh))))
 show _/\_
 rw [n2,n3,n4] at e5
 rw [n1,n2] at e3
 rw [n3] at e4
 rw [n1] at e2
 rw [n4]
 exact ⟨⟨_,e5,rfl⟩,h _ _ rfl e5 e3 e4 e1 e2 fun c o q=>up _ (up _ (up _ (up _ (up _ q))))⟩
end PySem.ZG
namespace PV
open PySem PySem.Spec PyProof.Rows L2 PySem.ZG
inductive SK where
 | l | t
def SK.it:SK->Heap->Addr->Addr->Nat->Prop
 | .l=>fun h i l k=>h.IsListIter i l k
 | .t=>fun h i l k=>h.IsTupleIter i l k
def SK.has:SK->Heap->Addr->Array Value->Prop
 | .l=>fun h l xs=>h.IsList l xs
 | .t=>fun h l xs=>h.IsTuple l xs
def SK.sq (K:PySem.W.Frag):SK->Hp->Addr->List V->Prop
 | .l=>fun H a xs=>SqL K H a xs
 | .t=>fun H a xs=>SqT K H a xs
def SK.tr:SK->List V->HO
 | .l=> .lst
 | .t=> .tup
def SK.ob:SK->Addr->Obj
 | .l=>oL
 | .t=>oT
theorem SK.nx (k:SK) {i l:Addr} (h:l ≠ i) (xs:Array Value):JM i [i,l] (fun n=>xs[n]?) (fun n hp=>k.it hp i l n/\k.has hp l xs):=by
 cases k with
 | l=>exact ym h xs
 | t=>exact qy h xs
theorem SK.of (k:SK) (l:Addr) (xs:Array Value):yt l (k.ob l) (fun h=>k.has h l xs):=by
 cases k with
 | l=>exact yu l xs
 | t=>exact qz l xs
theorem SK.start (k:SK) {h:Heap} {i l:Addr} (e:h.get? i=some (k.ob l)):k.it h i l 0:=by
 cases k with
 | l=>exact ⟨_,e,rfl,rfl⟩
 | t=>exact ⟨_,e,rfl,rfl⟩
theorem SK.obj {k:SK} {h:Heap} {i l:Addr} {n:Nat} (x:k.it h i l n):∃ o,h.get? i=some o/\∀ v,o.data ≠ .cell v:=by
 cases k with
 | l=>obtain ⟨o,e,_,d⟩:=x; exact ⟨o,e,fun v z=>by rw [d] at z; cases z⟩
 | t=>obtain ⟨o,e,_,d⟩:=x; exact ⟨o,e,fun v z=>by rw [d] at z; cases z⟩
theorem SK.at_ {k:SK} {h h' :Heap} {i l:Addr} {n:Nat} (x:k.it h i l n) (q:∀ o,h.get? i=some o->h'.get? i=some o):k.it h' i l n:=by
 cases k with
 | l=>obtain ⟨o,e,r⟩:=x; exact ⟨o,q o e,r⟩
 | t=>obtain ⟨o,e,r⟩:=x; exact ⟨o,q o e,r⟩
theorem SK.sqOf {K:PySem.W.Frag} (k:SK) {H:Hp} {a:Addr} {xs:List V} (e:H a=some (k.tr xs)):k.sq K H a xs:=by
 cases k with
 | l=>exact SqL.of e
 | t=>exact SqT.of e
theorem Inv.seq {X:Cx} {pins:List (Addr×Obj)} {σ:Sg} {H:Hp} {s:Shared} (I:L2.Inv X pins σ H s) (k:SK) {a:Addr} {xs:List V} (h:k.sq X.K H a xs):∃ its:List Value,zE xs its/\k.has s.heap a its.toArray/\∃ o,s.heap.get? a=some o:=by
 cases k with
 | l=>
  obtain ⟨its,r,p,_⟩:=I.list h
  obtain ⟨o,_,e,_⟩:=id p
  exact ⟨its,r,p.isList,o,e⟩
 | t=>
  obtain ⟨its,r,p,_⟩:=I.tuple h
  obtain ⟨o,e,_⟩:=id p
  exact ⟨its,r,p,o,e⟩
def Itz (K:PySem.W.Frag) (k1 k2:SK) (l1 l2:Addr):It:=
 ⟨fun i H=>∃ xs ys x y,k1.sq K H l1 xs/\k2.sq K H l2 ys/\xs[i]? =some x/\ys[i]? =some y,fun i H v H' =>∃ p x y,H p=none/\v= .ref p/\(∀ xs,k1.sq K H l1 xs->xs[i]? =some x)/\(∀ ys,k2.sq K H l2 ys->ys[i]? =some y)/\H' =upd H p (.tup [x,y]),
  fun i H=>∃ xs ys,k1.sq K H l1 xs/\k2.sq K H l2 ys/\(xs.length<=i\/ys.length<=i)⟩
theorem Inv.seq_inj {X:Cx} {pins:List (Addr×Obj)} {σ:Sg} {H:Hp} {s:Shared} (I:L2.Inv X pins σ H s) (k:SK) {a:Addr} {xs ys:List V} (h:k.sq X.K H a xs) (h' :k.sq X.K H a ys):xs=ys:=by
 cases k with
 | l=>exact I.list_inj h h'
 | t=>exact I.tuple_inj h h'
theorem nN {a b:Nat} (h:a ≠ b): @Ne Addr a b:=h
theorem nM {a b c:Nat} (h:a ≠ b) (h' :a ≠ c):¬ @Membership.mem Addr (List Addr) _ [b,c] a:=fun q=>by
 rcases List.mem_cons.mp q with z | z
 ·exact h z
 ·exact h' (List.mem_singleton.mp z)
theorem uN {P:Program} {w:World} {K:PySem.W.Frag} {elts:List Expr} {kk:Nat} {pt:Pos} (k1 k2:SK) {n l1 l2:Nat} (h1:l1 < n) (h2:l2 < n):
  W5 P w K (.Tuple elts kk pt) (Itz K k1 k2 l1 l2) [n+4,n+2,n+3,n,n+1] (n+4)
   (fun i h=>IsZip h (n+4) (n+2) (n+3) .none/\IsPair h (n+2) (.ref n) (.ref (n+1))/\(∃ a b,IsPair h (n+3) a b)/\k1.it h n l1 i/\k2.it h (n+1) l2 i):=by
 have D:Ap (n+4) (n+2) (n+3) n (n+1) [n,l1] [n+1,l2]:=by
  refine ⟨nN (by omega),nN (by omega),nN (by omega),nN (by omega),nN (by omega),nM (by omega) (by omega),nM (by omega) (by omega),nM (by omega) (by omega),nM (by omega) (by omega),nM (by omega) (by omega),nM (by omega) (by omega)⟩
 refine ⟨by simp,fun i h st b hb=> ?_,fun i h h' st k=> ?_, ?_, ?_, ?_⟩
 ·obtain ⟨hz,hI,⟨a,c,hO⟩,p1,p2⟩:=st
  simp only [List.mem_cons,List.not_mem_nil,or_false] at hb
  rcases hb with rfl | rfl | rfl | rfl | rfl
  ·exact ⟨_,hz,fun v z=>nomatch z⟩
  ·exact ⟨_,hI,fun v z=>nomatch z⟩
  ·exact ⟨_,hO,fun v z=>nomatch z⟩
  ·exact SK.obj p1
  ·exact SK.obj p2
 ·obtain ⟨hz,hI,⟨a,c,hO⟩,p1,p2⟩:=st
  exact ⟨k _ (by simp) _ hz,k _ (by simp) _ hI,⟨a,c,k _ (by simp) _ hO⟩,SK.at_ p1 fun o e=>k n (by simp) o e,SK.at_ p2 fun o e=>k (n+1) (by simp) o e⟩
 ·intro X hP hw hK hc i pins s σ H E I hf st hg
  subst hP hw hK
  obtain ⟨xs,ys,x,y,s1,s2,hx,hy⟩:=hg
  obtain ⟨hz,hI,⟨a,c,hO⟩,p1,p2⟩:=st
  obtain ⟨its1,r1,b1,_⟩:=Inv.seq I k1 s1
  obtain ⟨its2,r2,b2,_⟩:=Inv.seq I k2 s2
  obtain ⟨u,hu,ru⟩:=r1.get hx
  obtain ⟨v,hv,rv⟩:=r2.get hy
  refine yq (k1.nx (Nat.ne_of_lt h1) its1.toArray) (k2.nx (i:=n+1) (nN (by omega)) its2.toArray) D hz hI hO ⟨p1,b1⟩ ⟨p2,b2⟩ (x:=u) (y:=v) (by simpa using hu) (by simpa using hv) fun g a1 a2 a3 a4 a5 kp=>⟨_,rfl, ?_⟩
  refine wpAny_letOwnedTupleGo_zip a1 fun g2 z2 e2=> ?_
  have hlt:n+4 < s.heap.objs.size:=Heap.lt_size hz
  have ne:∀ b:Nat,b<=n+4->s.heap.objs.size ≠ b:=fun b hb=>by
   have hlt:n+4 < s.heap.objs.size:=hlt
   omega
  have kp2:∀ b o,b ∉ [n+4,n+2,n+3,n,n+1]->s.heap.get? b=some o->g2.get? b=some o:=fun b o hb e=>by
   simp only [List.mem_cons,List.not_mem_nil,or_false,not_or] at hb
   exact e2.extBut _ _ hb.1 (kp b o hb.1 hb.2.2.1 hb.2.2.2.1 hb.2.2.2.2 e)
  have g2P:IsPair g2 s.heap.objs.size u v:=e2.extBut _ _ (ne _ (Nat.le_refl _)) a5
  have g2I:IsPair g2 (n+2) (.ref n) (.ref (n+1)):=e2.extBut _ _ D.Iz (kp _ _ D.Iz D.IO D.I1 D.I2 hI)
  have g2O:IsPair g2 (n+3) u v:=e2.extBut _ _ D.Oz a2
  have q1:k1.it g2 n l1 (i+1):=SK.at_ a3.1 fun o e=>e2.extBut _ _ (nN (by omega)) e
  have q2:k2.it g2 (n+1) l2 (i+1):=SK.at_ a4.1 fun o e=>e2.extBut _ _ (nN (by omega)) e
  have hfr:H s.heap.objs.size=none:=I.hok.fresh (Nat.le_refl _)
  refine ⟨.ref s.heap.objs.size,upd H s.heap.objs.size (.tup [x,y]),Inv.laidT (s:=s) (h' :=g2) (ch:=[n+4,n+2,n+3,n,n+1]) (tk:=s.toks) I hf kp2 (fun b o hb _=> ?_) (Nat.le_refl _)
   ⟨by rw [sizeLine_eq]; show 2<=16777216; decide,[u,v], .cons ru (.cons rv .nil),⟨_,g2P,rfl,_,rfl⟩, .inr ⟨_,g2P,rfl⟩⟩,rfl,⟨_,x,y,hfr,rfl,fun zs hq=>by rw [← Inv.seq_inj I k1 s1 hq]; exact hx,fun zs hq=>by rw [← Inv.seq_inj I k2 s2 hq]; exact hy,rfl⟩,⟨z2,g2I,⟨u,v,g2O⟩,q1,q2⟩,fun b hb=> ?_⟩
  ·simp only [List.mem_cons,List.not_mem_nil,or_false] at hb
   rcases hb with rfl | rfl | rfl | rfl | rfl
   ·exact ⟨_,z2⟩
   ·exact ⟨_,g2I⟩
   ·exact ⟨_,g2O⟩
   ·obtain ⟨o',e',_⟩:=SK.obj q1; exact ⟨o',e'⟩
   ·obtain ⟨o',e',_⟩:=SK.obj q2; exact ⟨o',e'⟩
  ·have hb2:(b:Nat)<=n+4:=by
    have hb:b=n+4\/b=n+2\/b=n+3\/b=n\/b=n+1:=by simpa using hb
    rcases hb with rfl | rfl | rfl | rfl | rfl
    ·exact Nat.le_refl _
    ·exact Nat.add_le_add_left (by decide) n
    ·exact Nat.add_le_add_left (by decide) n
    ·exact Nat.le_add_right _ _
    ·exact Nat.add_le_add_left (by decide) n
   rw [zf fun z=>ne b hb2 z.symm]
   exact (hf b hb).1
 ·intro X hP hw hK hc i pins s σ H E I hf st hg
  subst hP hw hK
  obtain ⟨xs,ys,s1,s2,hend⟩:=hg
  obtain ⟨hz,hI,⟨a,c,hO⟩,p1,p2⟩:=st
  obtain ⟨its1,r1,b1,_⟩:=Inv.seq I k1 s1
  obtain ⟨its2,r2,b2,_⟩:=Inv.seq I k2 s2
  have l1' :=r1.length
  have l2' :=r2.length
  refine yr (I.ok.hd hc) (k1.nx (Nat.ne_of_lt h1) its1.toArray) (k2.nx (i:=n+1) (nN (by omega)) its2.toArray) D hz hI hO ⟨p1,b1⟩ ⟨p2,b2⟩ (k:=i) ?_ fun g kp=>⟨rfl, ?_⟩
  ·rcases hend with q | q
   ·exact .inl (Array.getElem?_eq_none (by rw [List.size_toArray,← l1']; exact q))
   ·exact .inr (Array.getElem?_eq_none (by rw [List.size_toArray,← l2']; exact q))
  ·have kp2:∀ b o,b ∉ [n+4,n+3,n,n+1]->s.heap.get? b=some o->g.get? b=some o:=fun b o hb e=>by
    simp only [List.mem_cons,List.not_mem_nil,or_false,not_or] at hb
    exact kp b o hb.1 hb.2.1 hb.2.2.1 hb.2.2.2 e
   have nch:∀ b u,H b=some u->b ∉ [n+4,n+3,n,n+1]:=fun b u e hb=>by
    have hb' :b∈[n+4,n+2,n+3,n,n+1]:=by
     simp only [List.mem_cons,List.not_mem_nil,or_false] at hb ⊢
     rcases hb with q | q | q | q
     ·exact .inl q
     ·exact .inr (.inr (.inl q))
     ·exact .inr (.inr (.inr (.inl q)))
     ·exact .inr (.inr (.inr (.inr q)))
    rw [(hf b hb').1] at e; cases e
   refine I.call' (s' :={ s with heap:=g }) (ch:=[n+4,n+3,n,n+1]) rfl ⟨fun b o e _ _ hc=>kp2 b o hc e,fun b o e _ _ hc=>⟨o.slots,kp2 b o hc e⟩,fun b o e q _=>q,fun b o e hc=>⟨o,kp2 b o hc e⟩,fun b ys e=>e,fun b o u e=>e,fun _ _ _ e=>e⟩ (fun b u e=> ?_) I.bare fun b hb=> ?_
   ·refine (I.hok b u e).stay (fun c v hc q=>kp2 c v ?_ q) (fun _ q=>q) fun _ _ q=>q
    rcases hc with rfl | hc
    ·exact nch c u e
    ·exact nch c _ hc
   ·have hb' :b∈[n+4,n+2,n+3,n,n+1]:=by
     simp only [List.mem_cons,List.not_mem_nil,or_false] at hb ⊢
     rcases hb with q | q | q | q
     ·exact .inl q
     ·exact .inr (.inr (.inl q))
     ·exact .inr (.inr (.inr (.inl q)))
     ·exact .inr (.inr (.inr (.inr q)))
    obtain ⟨f0,f1,f2,f3,f4,f5⟩:=hf b hb'
    exact ⟨f3,f1,f4,f5⟩
 ·intro A i s Q E st h
  exact wpAny_pyIter_zip st.1 h
def yw (xs ys:List T):List T:=(xs.zip ys).map fun p=>T.tup [p.1,p.2]
theorem uO {xs ys:List T} {i:Nat} {t:T} (h:(yw xs ys)[i]? =some t):∃ x y,xs[i]? =some x/\ys[i]? =some y/\t= .tup [x,y]:=by
 unfold yw at h
 rw [List.getElem?_map] at h
 cases e:(xs.zip ys)[i]? with
 | none=>rw [e] at h; cases h
 | some p=>
  rw [e] at h
  cases h
  have:=List.getElem?_zip_eq_some.mp e
  exact ⟨p.1,p.2,this.1,this.2,rfl⟩
theorem JN (xs ys:List T):(yw xs ys).length=min xs.length ys.length:=by unfold yw; simp
theorem qB {K:PySem.W.Frag} {B1 H1:Hp} {k1 k2:SK} {a b:Addr} {xs ys:List V} {ts us:List T} (ha:B1 a=some (k1.tr xs)) (hb:B1 b=some (k2.tr ys)) (ra:zo B1 xs ts) (rb:zo B1 ys us):rI B1 H1 (Itz K k1 k2 a b) (yw ts us):=fun B2 H2 s1 s2=>by
 have a2:=k1.sqOf (K:=K) (s2 _ _ (s1 _ _ ha))
 have b2:=k2.sqOf (K:=K) (s2 _ _ (s1 _ _ hb))
 rw [JN]
 refine ⟨fun i hi=> ?_,fun i t x H3 e y=> ?_,fun i hi=>⟨xs,ys,a2,b2, ?_⟩⟩
 ·obtain ⟨v,e1,_⟩:=ra.get (List.getElem?_eq_getElem (show i < ts.length by omega))
  obtain ⟨u,e2,_⟩:=rb.get (List.getElem?_eq_getElem (show i < us.length by omega))
  exact ⟨xs,ys,v,u,a2,b2,e1,e2⟩
 ·obtain ⟨p,v,u,hp,rfl,y1,y2,rfl⟩:=y
  obtain ⟨t1,t2,et,eu,rfl⟩:=uO e
  obtain ⟨v',e1,r1⟩:=ra.get et
  obtain ⟨u',e2,r2⟩:=rb.get eu
  have q1:=y1 xs a2
  have q2:=y2 ys b2
  rw [e1] at q1; cases q1
  rw [e2] at q2; cases q2
  have up:=zt.ge s2 (zi.new hp (.tup [v,u]))
  exact ⟨zi.new hp _, .tup (ZB hp _) (.cons ((r1.mono s1).mono up) (.cons ((r2.mono s1).mono up) .nil))⟩
 ·rw [ra.length,rb.length]; omega
section
variable {X:Cx} {Y:Fx} {a b:Expr} {fa fb:En->R T} {pos p pt:Pos} {elts:List Expr} {kk:Nat}
theorem qC {ta:TA} (hg:Gl X "zip") (hm:X.mg "zip"=none) (ha:PA X [a,b] ta) (hs:starEach [a,b] X.env=[(false,eval a X.env),(false,eval b X.env)]) (hs2:starEach [b] X.env=[(false,eval b X.env)]):
  PI X (.Tuple elts kk pt) (.Call (.Name "zip" p) [a,b] [] pos) (fun σ H R=>ta σ H fun vs H1=>∃ k1 k2 l1 l2 xs ys,vs=[.ref l1, .ref l2]/\H1 l1=some (SK.tr k1 xs)/\H1 l2=some (SK.tr k2 ys)/\R (Itz X.K k1 k2 l1 l2) H1):=by
 intro pins s σ H R I h
 refine Call_ (Zb I hg hm PyProof.Rows.Boot.«zip» (PyProof.Rows.callWith_type1 (thn (ha pos pins s σ H _ I h) fun us s1 ⟨vs,H1,I1,r1,q1⟩=> ?_) (by rw [hs,hs2]) (by rw [hs2]; rfl)))
 obtain ⟨k1,k2,l1,l2,xs,ys,e,h1,h2,q⟩:=q1
 subst e
 obtain ⟨u,v,rfl,ru,rv⟩:=wC r1
 obtain rfl:u=Value.ref l1:=ru
 obtain rfl:v=Value.ref l2:=rv
 obtain ⟨its1,_,b1,o1,e1⟩:=Inv.seq I1 k1 (k1.sqOf h1)
 obtain ⟨its2,_,b2,o2,e2⟩:=Inv.seq I1 k2 (k2.sqOf h2)
 refine yv (k1.of l1 its1.toArray) (k2.of l2 its2.toArray) b1 b2 fun g n hn z1 z2 z3 z4 z5 kp=>wpAny_pyIter_zip z1 ?_
 subst hn
 have f:∀ b∈[s1.heap.objs.size+4,s1.heap.objs.size+2,s1.heap.objs.size+3,s1.heap.objs.size,s1.heap.objs.size+1],jT X pins H1 b:=fun b hb=>by
  have hb' :s1.heap.objs.size<=b:=by
   simp only [List.mem_cons,List.not_mem_nil,or_false] at hb
   rcases hb with rfl | rfl | rfl | rfl | rfl
   ·exact Nat.le_add_right _ _
   ·exact Nat.le_add_right _ _
   ·exact Nat.le_add_right _ _
   ·exact Nat.le_refl _
   ·exact Nat.le_add_right _ _
  exact I1.fpOk hb' (I1.hok.fresh hb')
 exact ⟨s1.heap.objs.size+4,_,_,_,H1,rfl,I1.kept (t' :=s1.toks) kp,uN k1 k2 (Heap.lt_size e1) (Heap.lt_size e2),⟨z1,z2,⟨_,_,z3⟩,SK.start k1 z4,SK.start k2 z5⟩,f,q⟩
def JO:T->R (List T)
 | .lst xs=> .ok xs
 | .tup xs=> .ok xs
 | _=> .bad
def Vn (fa fb:En->R T):En->R (List T):=fun ρ=>(fa ρ).bind fun t=>(fb ρ).bind fun u=>(JO t).bind fun xs=>(JO u).bind fun ys=> .ok (yw xs ys)
theorem WH {B:Hp} {v:V} {t:T} {xs:List T} (r:Rep B v t) (e:JO t= .ok xs):∃ (k:SK) (a:Addr) (vs:List V),v= .ref a/\B a=some (k.tr vs)/\zo B vs xs:=by
 cases r with
 | lst h r=>cases e; exact ⟨.l,_,_,rfl,h,r⟩
 | tup h r=>cases e; exact ⟨.t,_,_,rfl,h,r⟩
 | _=>cases e
theorem wg (t:T) (c:Nat):JO t ≠ .ex c:=by cases t <;> exact fun z=>nomatch z
theorem vC (hg:Gl X "zip") (hm:X.mg "zip"=none) (ha:Snd X Y a fa) (hb:Snd X Y b fb) (hs:starEach [a,b] X.env=[(false,eval a X.env),(false,eval b X.env)]:=by exact st2 rfl rfl) (hs2:starEach [b] X.env=[(false,eval b X.env)]:=by exact st1 rfl):
  wG X Y (.Tuple elts kk pt) (.Call (.Name "zip" p) [a,b] [] pos) (Vn fa fb):= .mk fun ρ=>
 PI.imp (qC hg hm (zg (ha ρ) (zg (hb ρ) zu hs2) (by rw [hs,hs2])) hs hs2) fun σ H R ⟨B,I,q⟩=>step I q fun t v H1 _ s1 r1 I1 q1=>step I1 q1 fun u v' H2 _ s2 r2 I2 q2=>by
  cases e1:JO t with
  | bad=>rw [e1] at q2; exact q2.elim
  | ex c=>exact absurd e1 (wg _ _)
  | ok xs=>
   rw [e1] at q2
   cases e2:JO u with
   | bad=>rw [e2] at q2; exact q2.elim
   | ex c=>exact absurd e2 (wg _ _)
   | ok ys=>
    rw [e2] at q2
    obtain ⟨k1,a1,vs1,rfl,h1,w1⟩:=WH (r1.mono (zt.ge I1.sB s2)) e1
    obtain ⟨k2,a2,vs2,rfl,h2,w2⟩:=WH r2 e2
    exact ⟨k1,k2,a1,a2,vs1,vs2,rfl,I2.sB _ _ h1,I2.sB _ _ h2,Z6 I2 (show Po Y rI _ H2 (.ok (yw xs ys)) R from q2) (qB h1 h2 w1 w2)⟩
end
end PV
namespace PV
open PySem PySem.Spec PyProof.Rows L2
section
variable {X:Cx} {Y:Fx} {a b:Expr} {fa fb:En->R T} {pos p p' pos' :Pos}
end
def eqs (y:T):List T->Option (List Bool)
 | []=>some []
 | t :: ts=>match eqF 30 t y with
  | none=>none
  | some b=>match eqs y ts with
   | none=>none
   | some bs=>some (b :: bs)
def vD (y:T) (ts:List T):R T:=match eqs y ts with
 | some bs=> .ok (.int (bs.count true))
 | none=> .bad
def vF (y:T) (ts:List T):R T:=match eqs y ts with
 | some bs=>if true∈bs then .ok (.int (bs.idxOf true)) else .bad
 | none=> .bad
def Qt (g:T->List T->R T) (fa fb:En->R T):En->R T:=fun ρ=>(fa ρ).bind fun t=>match t with
 | .lst ts=>(fb ρ).bind fun u=>g u ts
 | _=> .bad
theorem WI {H:Hp} {y:T} {e:Value->Bool} (he:∀ (v:V) (t:T) (u:Value) (b:Bool),zJ v u->Rep H v t->eqF 30 t y=some b->e u=b):∀ {xs:List V} {ts:List T} {its:List Value} {bs:List Bool},
  zE xs its->zo H xs ts->eqs y ts=some bs->its.map e=bs/\∀ u∈its,∃ v t k,zJ v u/\Rep H v t/\eqF 30 t y=some k
 | _,_,_,_, .nil, .nil,h=>by
  cases h
  exact ⟨rfl,fun u hu=>by simp at hu⟩
 | _,_,_,_, .cons rv vs, .cons r rs,h=>by
  rename_i v u vals us t ts
  unfold eqs at h
  cases q:eqF 30 t y with
  | none=>rw [q] at h; cases h
  | some k=>
   rw [q] at h
   cases q' :eqs y ts with
   | none=>rw [q'] at h; cases h
   | some k' =>
    rw [q'] at h
    cases h
    obtain ⟨h1,h2⟩:=WI he vs rs q'
    refine ⟨by rw [List.map_cons,h1,he v t u k rv r q],fun w hw=> ?_⟩
    rcases List.mem_cons.mp hw with z | hw
    ·exact ⟨v,t,k,z ▸ rv,r,q⟩
    ·exact h2 w hw
section
variable {X:Cx} {Y:Fx} {a b:Expr} {fa fb:En->R T} {pos p p' pos' :Pos}
theorem WJ {e:Value->Bool}:∀ its:List Value,List.countP e its=(its.map e).count true
 | []=>rfl
 | u :: us=>by
  rw [List.countP_cons,List.map_cons,List.count_cons,WJ us]
  cases e u <;> rfl
theorem uP (hu:X.A.units+64 < cLine):MtR X "list.count" (fun x xs H Q=>∃ l ys ts v t bs,x= .ref l/\xs=[v]/\H l=some (.lst ys)/\zo H ys ts/\Rep H v t/\eqs t ts=some bs/\Q (.int (bs.count true)) H):=by
 intro pins s σ H x xs v0 us Q I rx rv h
 obtain ⟨l,ys,ts,v,t,bs,rfl,rfl,hl,r,rt,e,q⟩:=h
 obtain rfl:v0=Value.ref l:=rx
 obtain ⟨u,rfl,ru⟩:=Zo rv
 obtain ⟨hz,its,n,ri,eo⟩:=(show zF X.prog X.w H s.heap l (.lst ys) from I.hok l _ hl)
 obtain ⟨f,hf⟩:=JF (H:=H) fun z=>eqF 30 z t
 obtain ⟨h2,h3⟩:=WI hf ri r e
 refine call_meets PySem.F.slot_list_count ⟨_,eo,rfl⟩ PySem.F.entry_list_count (PySem.F.args_list_count_2 _ _) (SeqAt.list_countAt l its.toArray n none #[] u f) ⟨eo,fun w hw=> ?_, ?_⟩
 ·obtain ⟨v',t',k,rv',rr,ee⟩:=h3 w (by simpa using hw)
  rw [hf v' t' w k rv' rr ee]
  exact (Wn I 30 X.A.in1 (by rw [Zv]; omega) t' t k v' v w u ee rr rt rv' ru).1
 ·rw [show its.toArray.toList=its from rfl,WJ,h2]
  exact ⟨.int _,H,I.tok _,⟨_,rfl⟩,q⟩
theorem uQ (hu:X.A.units+64 < cLine):MtR X "list.index" (fun x xs H Q=>∃ l ys ts v t bs,x= .ref l/\xs=[v]/\H l=some (.lst ys)/\zo H ys ts/\Rep H v t/\eqs t ts=some bs/\true∈bs/\Q (.int (bs.idxOf true)) H):=by
 intro pins s σ H x xs v0 us Q I rx rv h
 obtain ⟨l,ys,ts,v,t,bs,rfl,rfl,hl,r,rt,e,hm,q⟩:=h
 obtain rfl:v0=Value.ref l:=rx
 obtain ⟨u,rfl,ru⟩:=Zo rv
 obtain ⟨hz,its,n,ri,eo⟩:=(show zF X.prog X.w H s.heap l (.lst ys) from I.hok l _ hl)
 obtain ⟨f,hf⟩:=JF (H:=H) fun z=>eqF 30 z t
 obtain ⟨h2,h3⟩:=WI hf ri r e
 have hj:bs.idxOf true < bs.length:=List.idxOf_lt_length_iff.mpr hm
 have hlen:bs.length=its.length:=by rw [← h2,List.length_map]
 have hri:=ri.length
 rw [sizeLine_eq] at hz
 have hat:∀ m (hm:m < its.length),f its[m]=bs[m]'(by rw [hlen]; exact hm):=fun m hm=>by
  have:(its.map f)[m]'(by rw [List.length_map]; exact hm)=bs[m]'(by rw [hlen]; exact hm):=by simp only [h2]
  rw [← this,List.getElem_map]
 refine call_meets PySem.F.slot_list_index ⟨_,eo,rfl⟩ PySem.F.entry_list_index (PySem.F.args_list_index_2 _ _) (SeqAt.list_indexAt l its.toArray n none #[] u f (bs.idxOf true) (by rw [List.size_toArray,← hlen]; exact hj) (by omega) ?_ ?_) ⟨eo,fun w hw=> ?_, ?_⟩
 ·rw [List.getElem_toArray,hat]
  exact List.getElem_idxOf hj
 ·intro m hm hlt
  rw [List.getElem_toArray,hat m (by simpa using hm)]
  have:=List.not_of_lt_findIdx (p:=(· == true)) (xs:=bs) (i:=m) hlt
  simpa using this
 ·obtain ⟨v',t',k,rv',rr,ee⟩:=h3 w (by simpa using hw)
  rw [hf v' t' w k rv' rr ee]
  exact (Wn I 30 X.A.in1 (by rw [Zv]; omega) t' t k v' v w u ee rr rt rv' ru).1
 ·exact ⟨.int _,H,I.tok _,⟨_,rfl⟩,q⟩
theorem yx {pa:Pos} (hu:X.A.units+64 < cLine) (ha:Zn X Y a fa) (hb:Zn X Y b fb) (hb1:attributeBase a "count" X.env (eval a X.env)=eval a X.env:=by rfl) (hs:St1 X b:=by exact st1 rfl) (hz:(pa.endLine == p.line)=true:=by rfl):
  Snd X Y (.Call (.Attribute a "count" pa) [b] [] p) (Qt vD fa fb):= .mk fun ρ=>by
 have e1:(((((backTo p (starEach [b] X.env)).all fun x=> !x.fst) && (backToKw p (keywordEach [] X.env)).all fun x=>x.fst.isSome) && decide (([b].length+([]:List Keyword).length+if ([]:List Keyword).isEmpty=true then 0 else 1) < 30))=true):=by rw [hs]; rfl
 refine PE.imp (ur PySem.F.plainAttrs_list PySem.F.slot_list_count PySem.F.type_list_count (uP hu) (ha ρ) (zg (hb ρ) zu hs) hb1 e1 hz hs rfl) fun σ H Q ⟨B,I,q⟩=>step I q fun t v H1 _ s1 r1 I1 q1=> ?_
 cases t with
 | lst ts=>
  cases r1 with
  | @lst l xs _ h r=>
   refine ⟨.inl ⟨rfl,_,SqL.of h⟩,step I1 q1 fun u v' H2 _ s2 r2 I2 q2=> ?_⟩
   unfold vD at q2
   split at q2
   ·rename_i bs e
    exact ⟨l,xs,ts,v',u,bs,rfl,rfl,s2 _ _ h,r.mono s2,r2,e,Z6 I2 q2 (.int _)⟩
   ·exact q2.elim
 | _=>exact q1.elim
theorem yy {pa:Pos} (hu:X.A.units+64 < cLine) (ha:Zn X Y a fa) (hb:Zn X Y b fb) (hb1:attributeBase a "index" X.env (eval a X.env)=eval a X.env:=by rfl) (hs:St1 X b:=by exact st1 rfl) (hz:(pa.endLine == p.line)=true:=by rfl):
  Snd X Y (.Call (.Attribute a "index" pa) [b] [] p) (Qt vF fa fb):= .mk fun ρ=>by
 have e1:(((((backTo p (starEach [b] X.env)).all fun x=> !x.fst) && (backToKw p (keywordEach [] X.env)).all fun x=>x.fst.isSome) && decide (([b].length+([]:List Keyword).length+if ([]:List Keyword).isEmpty=true then 0 else 1) < 30))=true):=by rw [hs]; rfl
 refine PE.imp (ur PySem.F.plainAttrs_list PySem.F.slot_list_index PySem.F.type_list_index (uQ hu) (ha ρ) (zg (hb ρ) zu hs) hb1 e1 hz hs rfl) fun σ H Q ⟨B,I,q⟩=>step I q fun t v H1 _ s1 r1 I1 q1=> ?_
 cases t with
 | lst ts=>
  cases r1 with
  | @lst l xs _ h r=>
   refine ⟨.inl ⟨rfl,_,SqL.of h⟩,step I1 q1 fun u v' H2 _ s2 r2 I2 q2=> ?_⟩
   unfold vF at q2
   split at q2
   ·rename_i bs e
    split at q2
    ·rename_i hm
     exact ⟨l,xs,ts,v',u,bs,rfl,rfl,s2 _ _ h,r.mono s2,r2,e,hm,Z6 I2 q2 (.int _)⟩
    ·exact q2.elim
   ·exact q2.elim
 | _=>exact q1.elim
end
def Zf:List T->Option (List Int)
 | []=>some []
 | .int i :: r=>match Zf r with | some l=>some (i :: l) | none=>none
 | _ :: _=>none
def Qu:T->R T
 | .lst ts=>match Zf ts with | some l=> .ok (.int l.sum) | none=> .bad
 | _=> .bad
def vG:En->RS:=fun _=> .bad
theorem vH {X:Cx} {Y:Fx} {st:Stmt}:jI X Y st vG:= .mk fun ρ=>fun pins s σ H D I ⟨B,J,q⟩=>q.elim
theorem JP:∀ {H:Hp} {xs:List V} {ts:List T} {its:List Value} {is:List Int},zo H xs ts->zE xs its->Zf ts=some is->∃ ps:List (Int×Tok),its=ps.map (fun p=>Value.int p.1 p.2)/\ps.map (·.1)=is
 | _,_,_,_,is, .nil, .nil,h=>by
  have h' :some []=some is:=h
  cases h'
  exact ⟨[],rfl,rfl⟩
 | H,_,_,_,is, .cons (v:=x) (t:=t) r rs, .cons (b:=u) rv vs,h=>by
  cases r with
  | int i=>
   unfold Zf at h
   split at h
   ·rename_i l e
    cases h
    obtain ⟨ps,h1,h2⟩:=JP rs vs e
    obtain ⟨tk,rfl⟩:=rv
    exact ⟨(i,tk) :: ps,by rw [h1]; rfl,by rw [List.map_cons,h2]⟩
   ·cases h
  | _=>cases h
section
variable {X:Cx} {Y:Fx} {a b:Expr} {fa fb:En->R T} {pos p p' pos' :Pos}
theorem WK (hh:X.A.handled=none):Z1 X (.builtin "sum") (fun vs H Q=>∃ l xs ts is,vs=[.ref l]/\H l=some (.lst xs)/\zo H xs ts/\Zf ts=some is/\Q (.int is.sum) H):=by
 intro pins s σ H vs us Q I rv h
 obtain ⟨l,xs,ts,is,rfl,hl,r,hk,q⟩:=h
 obtain ⟨u,rfl,ru⟩:=Zo rv
 obtain rfl:u=Value.ref l:=ru
 obtain ⟨its,rv,p,_⟩:=zv I (.inl hl) r
 obtain ⟨ps,h1,h2⟩:=JP r rv hk
 have e:its.toArray=intItems ps.toArray:=by rw [h1]; simp [intItems]
 rw [e] at p
 refine sum_intListG hh p fun h' tk t' kp=> ?_
 have e2:preSum (numAt ps.toArray) ps.toArray.size=is.sum:=by
  rw [preSum_eq,List.take_of_length_le (by simp),← h2]
 rw [e2]
 exact ⟨.int is.sum,H,I.kept (t' :=tk) kp,⟨t',rfl⟩,q⟩
theorem vI (hh:X.A.handled=none) (gl:Gl X "sum") (mg:X.mg "sum"=none) (ha:Zn X Y a fa) (hs:St1 X a:=by exact st1 rfl):Snd X Y (.Call (.Name "sum" p) [a] [] pos) (ap1 Qu fa):=
 Ws (WK hh) (fun v t B H Q r sB q=>by
  cases r with
  | @lst l xs ts h r=>
   have q:Po Y rC B H (match Zf ts with | some k=> .ok (.int k.sum) | none=> .bad) Q:=q
   split at q
   ·rename_i k e
    exact ⟨l,xs,ts,k,rfl,h,r,e,po0 sB q rfl (.int _)⟩
   ·exact q.elim
  | _=>exact q.elim) gl mg boot_sum ha hs
end
section
variable {X:Cx} {Y:Fx} {a b:Expr} {fa fb:En->R T} {pos p p' pos' :Pos}
end
section
variable {X:Cx} {Y:Fx} {tg iter elt:Expr} {ifs:List Expr} {scope:Scope} {pos pos' :Pos} {N' :List Str} {k:Nat} {js:List Nat} {fi:En->R (List T)} {tG:TG} {g:T->En->R En} {ft:En->R Bool} {fe:En->R T}
end
section
variable {P:Program} {w:World} {K:PySem.W.Frag} {mg:Str->Option Value} {base:Heap}
end
end PV
namespace PySem.RV
open PySem PySem.Spec PyProof.Rows PySem.Builtin.SmallTypes
theorem wj:Manifest.owners.lookup (String.ofList "desrever".toList.reverse)=some Manifest.sig_reversed:=by kernel_rfl
theorem Zg:Slot "reversed" "__next__" "reversed.__next__":=
 .of (owner:="reversed") (n:="__next__") (by rw [typeLookup_type,builtinLookup_eq_fast]; kernel_rfl) (by decide+kernel) (by decide+kernel) (by decide+kernel)
  (by first | exact .inl (by decide+kernel) | exact .inr (by decide+kernel)) (by rw [isSubtype_type]; kernel_rfl)
theorem jr:entryFor table "reversed.__next__"=some Builtin.«reversed.__next__»:=entryFor_of_tree (by kernel_rfl)
theorem Jk (a:Value):argsOk "reversed.__next__" ⟨[a],[]⟩:=by
 unfold argsOk; rw [signature?_of (id:="reversed.__next__") (n:="__txen__".toList) (o:="desrever".toList) (by kernel_rfl) wj]; kernel_rfl
theorem Jl:Slot "reversed" "__iter__" "reversed.__iter__":=
 .of (owner:="reversed") (n:="__iter__") (by rw [typeLookup_type,builtinLookup_eq_fast]; kernel_rfl) (by decide+kernel) (by decide+kernel) (by decide+kernel)
  (by first | exact .inl (by decide+kernel) | exact .inr (by decide+kernel)) (by rw [isSubtype_type]; kernel_rfl)
theorem WL (a:Value):argsOk "reversed.__iter__" ⟨[a],[]⟩:=by
 unfold argsOk; rw [signature?_of (id:="reversed.__iter__") (n:="__reti__".toList) (o:="desrever".toList) (by kernel_rfl) wj]; kernel_rfl
theorem wK:entryFor table "reversed.__iter__"=some Builtin.«dict_keyiterator.__iter__»:=
 entryFor_alias (id' :="dict_keyiterator.__iter__") (by kernel_rfl) (by first | rfl | decide+kernel | (unfold String.splitOn; simp+decide [String.splitOnAux])) (by decide+kernel) (by kernel_rfl)
theorem qD:typeLookup (.type "tuple") "__reversed__"=pure none:=by rw [typeLookup_type,builtinLookup_eq_fast]; kernel_rfl
theorem qE:isSubtype (.type "tuple") (.type "dict")=pure false:=by rw [isSubtype_type]; kernel_rfl
abbrev IsRv (h:Heap) (it:Addr) (v:Value) (i:Int):Prop:=h.get? it=some { cls:= .type "reversed",data:= .fields #[v,rawInt i] }
section
variable {prog:Program} {w:World} {A:Around} {E:Value->Shared->Prop} {s:Shared} {it l:Addr} {xs:Array Value}
theorem JQ {v:Value} {i:Int} (x:IsRv s.heap it v i):s.TypeIs (.ref it) "reversed":=⟨_,x,rfl⟩
theorem next_item {i:Nat} {x:Value} {Q:Option Value->Shared->Prop} (hit:IsRv s.heap it (.ref l) (i:Int)) (ht:IsTup s.heap l xs) (hf:(xs.size:Int) < 2 ^ 63) (hx:xs[i]? =some x)
  (hQ:∀ h' tk,IsRv h' it (.ref l) ((i:Int) - 1)->Heap.SameBut it s.heap h' ->Q (some x) { s with heap:=h',toks:=tk }):wpAny (model prog w) A (pyNext (.ref it)) Q E s:=by
 unfold pyNext
 refine wpAny_bind (wpAny_attempt (wpAny_callSpecial?_slot (name:=Str.ofString "__next__") (JQ hit) Zg (wpAny_call_entry Zg (JQ hit) jr ?_ (Jk _))))
 unfold Builtin.«reversed.__next__»
 refine wpAny_bind (wpAny_of_eq (a:=(Value.ref it,[])) rfl ?_)
 dsimp only
 refine wpAny_bind (wpAny_field hit rfl (x:= .ref l) rfl ?_)
 refine wpAny_bind (wpAny_field hit rfl (x:=rawInt (i:Int)) rfl ?_)
 show wpAny _ _ (if (i:Int) < 0 then _ else _) _ _ s
 rw [if_neg (by omega)]
 have hi:i < xs.size:=(Array.getElem?_eq_some_iff.mp hx).1
 have hT:=ht.typeIs (s:=s)
 refine wpAny_bind (wpAny_specialOf hT slot_tuple_getitem.lookup ?_)
 show wpAny _ _ (if (some _:Option Value).isNone=true then _ else _) _ _ s
 rw [if_neg (by simp)]
 refine wpAny_bind (wpAny_mkInt ?_)
 refine wpAny_bind (wpAny_attempt (getItem_tuple (s:={ s with toks:=s.toks+1 }) ht (by omega) (by omega) (seqIndex_of (by omega) (by omega)) (by simpa using hx) ?_))
 dsimp only
 refine wpAny_bind (wpAny_field (s:={ s with toks:=s.toks+1 }) hit rfl (x:=rawInt (i:Int)) rfl ?_)
 show wpAny _ _ (setField (.ref it) 1 (rawInt ((i:Int) - 1)) >>= _) _ _ _
 refine wpAny_bind (wpAny_setField_rec (s:={ s with toks:=s.toks+1 }) hit (by simp) fun g1 z1 e1=> ?_)
 exact wpAny_pure ⟨x,rfl,wpAny_pure (hQ g1 _ z1 e1)⟩
theorem next_end {Q:Option Value->Shared->Prop} (hh:A.handled=none) (hit:IsRv s.heap it (.ref l) (-1))
  (hQ:∀ h',Heap.ExtBut it s.heap h' ->Q none { s with heap:=h' }):wpAny (model prog w) A (pyNext (.ref it)) Q E s:=by
 unfold pyNext
 refine wpAny_bind (wpAny_attempt (wpAny_callSpecial?_slot (name:=Str.ofString "__next__") (JQ hit) Zg (wpAny_call_entry Zg (JQ hit) jr ?_ (Jk _))))
 unfold Builtin.«reversed.__next__»
 refine wpAny_bind (wpAny_of_eq (a:=(Value.ref it,[])) rfl ?_)
 dsimp only
 refine wpAny_bind (wpAny_field hit rfl (x:= .ref l) rfl ?_)
 refine wpAny_bind (wpAny_field hit rfl (x:=rawInt (-1)) rfl ?_)
 show wpAny _ _ (if (-1:Int) < 0 then _ else _) _ _ s
 rw [if_pos (by decide)]
 refine wpAny_bind (wpAny_rule ?_)
 refine wpAny_bind (show wpAny _ _ (do setField (.ref it) 1 (rawInt (-1)); setField (.ref it) 0 .none) _ _ _ from ?_)
 refine wpAny_bind (wpAny_setField_rec hit (by simp) fun g1 z1 e1=> ?_)
 refine wpAny_setField_rec (s:={ s with heap:=g1 }) z1 (by simp) fun g2 z2 e2=> ?_
 refine wpAny_bind (show wpAny _ _ (newExc (.type "StopIteration") [] >>= fun e=>raiseNew e) _ _ _ from ?_)
 refine wpAny_bind ?_
 simp only [newExc,newTuple]
 refine wpAny_bind (wpAny_newObj_type (wpAny_bind (m:=firstArgMember _ _) (wpAny_of_eq (a:=Value.none) (by first | rfl | (simp only [firstArgMember]; rfl)) (wpAny_newObj_type ?_ (by size_fits)))) (by size_fits))
 simp only [raiseNew]
 refine wpAny_bind (wpAny_handled ?_)
 rw [show A.in1.handled=none from hh]
 refine wpAny_bind (wpAny_pure (wpAny_throw ?_))
 refine wpAny_bind (wpAny_isInstance (T:="StopIteration") (b:=true) ⟨_,Heap.get?_push_size _ rfl,rfl⟩ isSubtype_stop ?_)
 exact wpAny_pure (hQ _ (((e1.extBut.trans e2.extBut).push _).push _))
theorem iter_rv {v:Value} {i:Int} {Q:Value->Shared->Prop} (hit:IsRv s.heap it v i) (h:Q (.ref it) s):wpAny (model prog w) A (pyIter (.ref it)) Q E s:=by
 refine wpAny_pyIter_slot (JQ hit) Jl (wpAny_call_entry Jl (JQ hit) wK ?_ (WL _))
 show wpAny _ _ (ret (.ref it)) _ _ s
 exact wpAny_pure ⟨_,rfl,"reversed",_,JQ hit,Zg.lookup,h⟩
theorem Um:mroOf (.type "reversed")=pure [.type "reversed", .type "object"]:=by rw [mroOf_type]; kernel_rfl
theorem qF:typeLookup (.type "reversed") "__new__"=pure (some (.builtin "reversed.__new__")):=by rw [typeLookup_type,builtinLookup_eq_fast]; kernel_rfl
theorem yz:Bind.madeBy (.type "reversed")=pure (some "reversed.__new__"):=madeBy_type Um qF (by decide+kernel)
theorem qG:isSubtype (.type "reversed") (.type "reversed")=pure true:=by rw [isSubtype_type]; kernel_rfl
theorem qH (a:Value):newClass "reversed" ⟨[.type "reversed",a],[]⟩=pure (.type "reversed",[a]):=by
 unfold newClass
 simp only [isType,qG,pure_bind,Bool.not_true,Bool.false_eq_true,if_false]
theorem WM:entryFor table "reversed.__new__"=some Builtin.«reversed.__new__»:=entryFor_of_tree (by kernel_rfl)
theorem uR {Q:Fin->Shared->Prop} (ht:IsTup s.heap l xs) (hf:(xs.size:Int) < 2 ^ 63)
  (h:∀ tk,Q (.done (.ret (.ref s.heap.objs.size))) { s with heap:=s.heap.push { cls:= .type "reversed",data:= .fields #[.ref l,rawInt ((xs.size:Int) - 1)] },toks:=tk }):
  wpAny (model prog w) A (Builtin.«reversed.__new__» ⟨[.type "reversed", .ref l],[]⟩) Q E s:=by
 have hT:=ht.typeIs (s:=s)
 unfold Builtin.«reversed.__new__»
 refine wpAny_bind (wpAny_of_eq (qH _) ?_)
 try dsimp only
 refine wpAny_bind (wpAny_of_eq (a:=()) (by first | rfl | kernel_rfl) ?_)
 refine wpAny_bind (wpAny_of_eq (a:=()) (by first | rfl | kernel_rfl) ?_)
 try dsimp only
 refine wpAny_bind (wpAny_specialOf hT qD ?_)
 try dsimp only
 refine wpAny_bind (m:=(do
   if ← isInstance (.ref l) (.type "dict") then return false
   match ← specialOf (.ref l) "__getitem__" with
   | none=>return false
   | some (.builtin id)=>
    if ["tuple.__getitem__","str.__getitem__","bytes.__getitem__","bytearray.__getitem__","memoryview.__getitem__","numpy.ndarray.__getitem__","sqlite3.Row.__getitem__"].contains id then return true
    if id == "sqlite3.Blob.__getitem__" then return false
    unsupported "reversed.__new__:is-it-a-sequence"
   | some _=>return true)) ?_
 refine wpAny_bind (wpAny_isInstance hT qE ?_); rw [if_neg (by simp)]
 refine wpAny_bind (wpAny_specialOf hT slot_tuple_getitem.lookup ?_)
 dsimp only
 rw [if_pos (by decide)]
 refine wpAny_pure ?_
 rw [if_neg (by simp)]
 refine wpAny_bind (len_tuple ht hf ?_)
 refine wpAny_bind (wpAny_of_eq (a:=some (xs.size:Int)) rfl ?_)
 dsimp only
 refine wpAny_bind (show wpAny _ _ (newObj (.type "reversed") (.fields #[.ref l,rawInt ((xs.size:Int) - 1)])) _ _ _ from ?_)
 exact wpAny_newObj_type (wpAny_pure (h _)) (by size_fits)
theorem WN:Slot "reversed" "__init__" "object.__init__":=
 .of (owner:="object") (n:="__init__") (by rw [typeLookup_type,builtinLookup_eq_fast]; kernel_rfl) (by decide+kernel) (by decide+kernel) (by decide+kernel)
  (by first | exact .inl (by decide+kernel) | exact .inr (by decide+kernel)) (by rw [isSubtype_type]; kernel_rfl)
theorem WO:TypeCalled "reversed" "reversed.__new__" "object.__init__":=
 ⟨by decide+kernel,by decide+kernel,⟨_,_,Um⟩,yz,by decide+kernel,by rw [isSubtype_type]; kernel_rfl,WN⟩
theorem uS (a:Value):checkTypeCall "reversed" ⟨[a],[]⟩=pure ():=by kernel_rfl
theorem uT (a:Value):checkBuiltinCall "reversed.__new__" ⟨[.type "reversed",a],[]⟩=pure ():=by kernel_rfl
theorem call_rvT {Q:Value->Shared->Prop} (ht:IsTup s.heap l xs) (hf:(xs.size:Int) < 2 ^ 63)
  (h:∀ tk,Q (.ref s.heap.objs.size) { s with heap:=s.heap.push { cls:= .type "reversed",data:= .fields #[.ref l,rawInt ((xs.size:Int) - 1)] },toks:=tk }):wpAny (model prog w) A (call (.type "reversed") [.ref l]) Q E s:=by
 refine callType_new (S:=fun _ R s=>(∃ xs,IsTup s.heap l xs/\(xs.size:Int) < 2 ^ 63/\∀ tk,R (.ok (.ret (.ref s.heap.objs.size))) { s with heap:=s.heap.push { cls:= .type "reversed",data:= .fields #[.ref l,rawInt ((xs.size:Int) - 1)] },toks:=tk })) WO (by decide) (uS _) (uT _) (fun obj=>PySem.F.args_object_init_2 obj _) WM (.of_wp fun prog w A R s h=> ?_) ⟨xs,ht,hf,fun tk=> ?_⟩
 ·obtain ⟨xs,h1,h2,h3⟩:=h
  exact uR h1 h2 fun tk=>⟨_,rfl,h3 tk⟩
 ·exact ⟨⟨_,Heap.get?_push_size _ rfl,rfl⟩,h tk⟩
end
end PySem.RV
namespace PySem.RV
open PySem PySem.Spec PyProof.Rows
theorem uU:typeLookup (.type "list_reverseiterator") "__len__"=pure none:=by rw [typeLookup_type,builtinLookup_eq_fast]; kernel_rfl
theorem yA:typeLookup (.type "list_reverseiterator") "__length_hint__"=pure (some (.builtin "list_reverseiterator.__length_hint__")):=by rw [typeLookup_type,builtinLookup_eq_fast]; kernel_rfl
section
variable {prog:Program} {w:World} {A:Around} {E:Value->Shared->Prop} {s:Shared} {I:Addr} {fp wr:List Addr} {G:Array GenState->Array GenState->Prop} {n:Nat} {P:Nat->Value->Prop} {St:Nat->Shared->Prop}
theorem wL {Q:List Value->Shared->Prop} (W:WalksS prog w A.in1 I fp wr G n P St) (hT:∀ i s,St i s->s.TypeIs (.ref I) "list_reverseiterator") (hst:St 0 s) (hfp:∀ b∈fp,b < s.heap.objs.size) (hI:I∈fp)
  (hQ:∀ s' acc,Moved wr G s s' ->ItemsOf P acc n->Q acc.toList s') (hn:n<=sizeLine):wpAny (model prog w) A (collect (.ref I)) Q E s:=by
 have nf:s.heap.objs.size ∉ fp:=fun z=>Nat.lt_irrefl _ (hfp _ z)
 have nI:s.heap.objs.size ≠ I:=fun z=>nf (z ▸ hI)
 unfold collect
 refine wpAny_bind (wpAny_runValue (codeAny_builtin F.entry_proto_collect ?_))
 rw [Around.under_plainId F.plain_proto_collect _]
 refine (show wpAny _ A.in1 (newList [] >>= fun l=>again (.builtin "list.__iadd__" ⟨[l, .ref I],[]⟩)) _ _ s from ?_)
 refine wpAny_bind (wpAny_newObj_type (wpAny_pure ⟨plainId_quiet F.plain_list_iadd _,codeAny_builtin F.entry_list_iadd ?_⟩))
 rw [Around.under_plainId F.plain_list_iadd _]
 have g0:=W.frame 0 s (s.heap.push { cls:= .type "list",data:= .seq ([]:List Value).toArray }) s.toks hst (Nat.le_refl _) fun b _ o e=>Heap.get?_push_of_some _ e
 have g1:(s.heap.push { cls:= .type "list",data:= .seq ([]:List Value).toArray }).get? s.heap.objs.size=some { cls:= .type "list",data:= .seq ([]:List Value).toArray }:=Heap.get?_push_size _ rfl
 have g2:Builtin.List.listSameRef (.ref s.heap.objs.size) (.ref I)=false:=by simp [Builtin.List.listSameRef,nI]
 refine (show wpAny _ A.in1 (Builtin.List.listExtendWith (.ref s.heap.objs.size) (.ref I) (.ref s.heap.objs.size)) _ _ _ from ?_)
 unfold Builtin.List.listExtendWith
 refine wpAny_bind (wpAny_typeOf (hT 0 _ g0) ?_)
 rw [if_neg (by rw [g2]; decide)]
 refine wpAny_bind (W.self 0 _ _ _ g0 (wpAny_bind (wpAny_holding ?_)))
 unfold Builtin.List.listLengthHint
 refine wpAny_bind (wpAny_specialOf (hT 0 _ g0) uU ?_)
 refine (show wpAny _ A.in1 (specialOf (Value.ref I) (Str.ofString "__length_hint__") >>= _) _ _ _ from ?_)
 refine wpAny_bind (wpAny_specialOf (hT 0 _ g0) yA ?_)
 generalize hid:("list_reverseiterator.__length_hint__":String)=id0
 wp_delta
 rw [show splitId id0=some ("list_reverseiterator","__length_hint__") from by subst hid; decide+kernel]
 subst hid
 refine wpAny_bind (wpAny_isInstance (b:=true) (hT 0 _ g0) (by rw [isSubtype_type]; kernel_rfl) ?_)
 refine wpAny_pure ?_
 rw [if_neg (by decide)]
 refine wpAny_pure ⟨plainId_quiet F.plain_extend_loop _,codeAny_extend_loopS W hn _ nf _ n 0 _ _ _ rfl (Nat.zero_le _) g0 g1 (ItemsOf.nil P) fun s' acc' c' hm hS' hacc=> ?_⟩
 refine (show wpAny _ A (load s.heap.objs.size >>= _) _ _ s' from ?_)
 exact wpAny_bind (wpAny_load hS' (wpAny_pure (hQ s' acc' (Moved.drop_new (o:={ cls:= .type "list",data:= .seq ([]:List Value).toArray }) (tk:=s.toks) hm (Nat.le_refl _)) hacc)))
theorem qI {Q₁:Value->Shared->Prop} (W:WalksS prog w A.in1.in1 I fp wr G n P St) (hT:∀ i s,St i s->s.TypeIs (.ref I) "list_reverseiterator") (hst:St 0 s) (hfp:∀ b∈fp,b < s.heap.objs.size) (hI:I∈fp)
  (h:∀ s' acc,Moved wr G s s' ->ItemsOf P acc n->Q₁ (.ref s'.heap.objs.size) { s' with heap:=s'.heap.push { cls:= .type "tuple",data:= .seq acc } }) (hsz:n<=sizeLine):
  codeAny (model prog w) A (.call (.builtin "tuple.__new__") ⟨[.type "tuple", .ref I],[]⟩) (wants Q₁ E) s:=by
 refine codeAny_of_tree ?_
 refine (show wpAny _ A.in1 (do checkBuiltinCall "tuple.__new__" ⟨[.type "tuple", .ref I],[]⟩; again (.builtin "tuple.__new__" ⟨[.type "tuple", .ref I],[]⟩)) _ _ s from ?_)
 refine wpAny_bind (wpAny_of_eq (F.newCall_tuple_1 _) (wpAny_pure ⟨plainId_quiet F.plain_tuple_new _,codeAny_builtin F.entry_tuple_new ?_⟩))
 rw [Around.under_plainId F.plain_tuple_new _]
 have hsub:=sub_tuple_self
 have hinit:=init_tuple_lookup
 have hmh:=madeHere_tuple
 have ty:=hT 0 s hst
 wp_walk using wpAny_typeOf ty,wL (hn:=hsz) W hT hst hfp hI
 intro s' acc hm hacc
 have e:acc.toList.toArray=acc:=by simp
 refine (show wpAny _ _ (Builtin.Tuple.tupleExact acc.toList.toArray >>= fun v=>ret v) _ _ _ from ?_)
 unfold Builtin.Tuple.tupleExact
 refine wpAny_bind (wpAny_newObj_type (wpAny_pure ?_) (by rw [e]; show acc.size<=sizeLine; rw [hacc.1]; exact hsz))
 rw [e]
 exact h s' acc hm hacc
theorem tuple_lr {Q:Value->Shared->Prop} (W:WalksS prog w A.in1.in1.in1 I fp wr G n P St) (hT:∀ i s,St i s->s.TypeIs (.ref I) "list_reverseiterator") (hst:St 0 s) (hfp:∀ b∈fp,b < s.heap.objs.size) (hI:I∈fp)
  (hQ:∀ s' acc,Moved wr G s s' ->ItemsOf P acc n->Q (.ref s'.heap.objs.size) { s' with heap:=s'.heap.push { cls:= .type "tuple",data:= .seq acc } }) (hsz:n<=sizeLine):
  wpAny (model prog w) A (call (.type "tuple") [.ref I]) Q E s:=
 callType_codes (Q₁:=fun obj s₁=>s₁.TypeIs obj "tuple"/\Q obj s₁) F.called_tuple (F.typeCall_tuple_1 _) F.entry_object_init
  (qI (hsz:=hsz) W hT hst hfp hI fun s' acc hm hacc=>⟨⟨_,Heap.get?_push_size _ rfl,rfl⟩,hQ s' acc hm hacc⟩) fun obj s₁ h₁=>
   ⟨h₁.1,F.args_object_init_2 obj _,object_init_meets F.called_tuple.init.lookup F.called_tuple.made (by decide) prog w A.in1 _ s₁ ⟨h₁.1,rfl,h₁.2⟩⟩
end
end PySem.RV
namespace PV
open PySem PySem.Spec PyProof.Rows L2
def vJ (K:PySem.W.Frag) (a:Addr) (n:Nat):It:=
 ⟨fun i H=>∃ xs x,SqT K H a xs/\xs.length=n/\xs.reverse[i]? =some x,fun i H x H' =>H' =H/\∀ xs,SqT K H a xs->xs.reverse[i]? =some x,fun i H=>∃ xs,SqT K H a xs/\xs.length=n/\n<=i⟩
def vK (K:PySem.W.Frag) (a:Addr) (n:Nat):It:=
 ⟨fun i H=>∃ xs x,SqL K H a xs/\xs.length=n/\xs.reverse[i]? =some x,fun i H x H' =>H' =H/\∀ xs,SqL K H a xs->xs.reverse[i]? =some x,fun i H=>∃ xs,SqL K H a xs/\xs.length=n/\n<=i⟩
theorem Uo {α:Type} {xs:List α} {i:Nat} {x:α} (h:xs.reverse[i]? =some x):i < xs.length/\xs[xs.length - 1 - i]? =some x:=by
 have hi:=(List.getElem?_eq_some_iff.mp h).1
 rw [List.length_reverse] at hi
 rw [List.getElem?_reverse hi] at h
 exact ⟨hi,h⟩
theorem uV {P:Program} {w:World} {K:PySem.W.Frag} {tg:Expr} (a it:Addr) (n:Nat):W5 P w K tg (vJ K a n) [it] it (fun i h=>i<=n/\RV.IsRv h it (.ref a) ((n:Int) - 1 - (i:Int))) where
 mem:=by simp
 obj:=fun i h st b hb=>by
  have e:b=it:=by simpa using hb
  subst e
  exact ⟨_,st.2,fun v z=>nomatch z⟩
 keep:=fun i h h' st k=>⟨st.1,k it (by simp) _ st.2⟩
 item:=by
  intro X hP hw hK hc i pins s σ H E I hf st hg
  subst hP hw hK
  obtain ⟨xs,x,hq,hn,hx⟩:=hg
  obtain ⟨its,rv,p,hz⟩:=I.tuple hq
  obtain ⟨hi,hx'⟩:=Uo hx
  obtain ⟨u,hu,ru⟩:=rv.get hx'
  obtain ⟨f0,f1,f2,f3,f4,f5⟩:=hf it (by simp)
  have hl:=rv.length
  have e:(n:Int) - 1 - (i:Int)=((xs.length - 1 - i:Nat):Int):=by omega
  have hit:=st.2
  rw [e] at hit
  have hb:(its.toArray.size:Int) < 2 ^ 63:=by
   rw [sizeLine_eq] at hz
   simp; omega
  refine RV.next_item hit p hb (x:=u) (by simpa using hu) fun h' tk st' sb=> ?_
  have I1:Inv X pins σ H { s with heap:=h',toks:=tk }:=I.turned (t' :=tk) (fun b o hb e=>(sb.2 b hb).trans e) f0 f1 f3 f4 f5
  have e2:((xs.length - 1 - i:Nat):Int) - 1=(n:Int) - 1 - ((i+1:Nat):Int):=by omega
  rw [e2] at st'
  exact ⟨u,rfl,wx (s:={ s with heap:=h',toks:=tk }) st' rfl rfl (by decide) ⟨x,H,I1,ru,⟨rfl,fun ys hy=>by rw [I.tuple_inj hy hq]; exact hx⟩,⟨by omega,st'⟩,fun b hb=>(hf b hb).1⟩⟩
 done:=by
  intro X hP hw hK hc i pins s σ H E I hf st hg
  subst hP hw hK
  obtain ⟨xs,hq,hn,hx⟩:=hg
  obtain ⟨f0,f1,f2,f3,f4,f5⟩:=hf it (by simp)
  have hit:=st.2
  have h1:=st.1
  rw [show (n:Int) - 1 - (i:Int)= -1 by omega] at hit
  exact RV.next_end (I.ok.hd hc) hit fun h' eb=>⟨rfl,I.turned (t' :=s.toks) (fun b o hb e=>eb b o hb e) f0 f1 f3 f4 f5⟩
 self:=fun _ _ _ _ _ st h=>RV.iter_rv st.2 h
theorem uW {P:Program} {w:World} {K:PySem.W.Frag} {tg:Expr} (a it:Addr) (n:Nat):W5 P w K tg (vK K a n) [it] it (fun i h=>i<=n/\h.IsRevIter it a ((n:Int) - 1 - (i:Int))) where
 mem:=by simp
 obj:=fun i h st b hb=>by
  have e:b=it:=by simpa using hb
  subst e
  obtain ⟨o,e,c,d⟩:=st.2
  exact ⟨o,e,fun v z=>by rw [d] at z; cases z⟩
 keep:=fun i h h' st k=>⟨st.1,st.2.at fun o e=>k it (by simp) o e⟩
 item:=by
  intro X hP hw hK hc i pins s σ H E I hf st hg
  subst hP hw hK
  obtain ⟨xs,x,hq,hn,hx⟩:=hg
  obtain ⟨its,rv,p,hz⟩:=I.list hq
  obtain ⟨hi,hx'⟩:=Uo hx
  obtain ⟨u,hu,ru⟩:=rv.get hx'
  obtain ⟨f0,f1,f2,f3,f4,f5⟩:=hf it (by simp)
  have e:(n:Int) - 1 - (i:Int)=((xs.length - 1 - i:Nat):Int):=by omega
  have hit:=st.2
  rw [e] at hit
  refine wpAny_pyNext_rev_item hit p.isList (x:=u) (by simpa using hu) fun h' st' sb=> ?_
  have I1:Inv X pins σ H { s with heap:=h' }:=I.turned (t' :=s.toks) (fun b o hb e=>(sb.2 b hb).trans e) f0 f1 f3 f4 f5
  have e2:((xs.length - 1 - i:Nat):Int) - 1=(n:Int) - 1 - ((i+1:Nat):Int):=by omega
  rw [e2] at st'
  obtain ⟨o,e,c,d⟩:=id st'
  exact ⟨u,rfl,wx (s:={ s with heap:=h' }) e c d (by decide) ⟨x,H,I1,ru,⟨rfl,fun ys hy=>by rw [I.list_inj hy hq]; exact hx⟩,⟨by omega,st'⟩,fun b hb=>(hf b hb).1⟩⟩
 done:=by
  intro X hP hw hK hc i pins s σ H E I hf st hg
  subst hP hw hK
  obtain ⟨xs,hq,hn,hx⟩:=hg
  obtain ⟨f0,f1,f2,f3,f4,f5⟩:=hf it (by simp)
  have hit:=st.2
  have h1:=st.1
  rw [show (n:Int) - 1 - (i:Int)= -1 by omega] at hit
  exact wpAny_pyNext_rev_end (I.ok.hd hc) hit fun h' eb=>⟨rfl,I.turned (t' :=s.toks) (fun b o hb e=>eb b o hb e) f0 f1 f3 f4 f5⟩
 self:=fun _ _ _ _ _ st h=>wpAny_pyIter_revIter st.2 h
theorem zo.rev {H:Hp}:∀ {vs:List V} {ts:List T},zo H vs ts->zo H vs.reverse ts.reverse
 | _,_, .nil=> .nil
 | _,_, .cons r t=>by rw [List.reverse_cons,List.reverse_cons]; exact (zo.rev t).append (.cons r .nil)
theorem qJ {K:PySem.W.Frag} {B1 H1:Hp} {a:Addr} {xs:List V} {ts:List T} (h:B1 a=some (.tup xs)) (r:zo B1 xs ts):rI B1 H1 (vJ K a xs.length) ts.reverse:=fun B2 H2 s1 s2=>by
 have h2:=s2 _ _ (s1 _ _ h)
 have hr:=r.rev
 refine ⟨fun i hi=> ?_,fun i t x H3 e y=> ?_,fun i hi=>⟨xs,SqT.of h2,rfl,by rw [List.length_reverse] at hi; rw [r.length]; exact hi⟩⟩
 ·obtain ⟨v,e,_⟩:=hr.get (List.getElem?_eq_getElem hi)
  exact ⟨xs,v,SqT.of h2,rfl,e⟩
 ·obtain ⟨rfl,y⟩:=y
  obtain ⟨v,e1,r1⟩:=hr.get e
  have:=y xs (SqT.of h2)
  rw [e1] at this; cases this
  refine ⟨zi.refl _, ?_⟩
  rw [zt.self B2 _ s2]
  exact r1.mono s1
theorem qK {K:PySem.W.Frag} {B1 H1:Hp} {a:Addr} {xs:List V} {ts:List T} (h:B1 a=some (.lst xs)) (r:zo B1 xs ts):rI B1 H1 (vK K a xs.length) ts.reverse:=fun B2 H2 s1 s2=>by
 have h2:=s2 _ _ (s1 _ _ h)
 have hr:=r.rev
 refine ⟨fun i hi=> ?_,fun i t x H3 e y=> ?_,fun i hi=>⟨xs,SqL.of h2,rfl,by rw [List.length_reverse] at hi; rw [r.length]; exact hi⟩⟩
 ·obtain ⟨v,e,_⟩:=hr.get (List.getElem?_eq_getElem hi)
  exact ⟨xs,v,SqL.of h2,rfl,e⟩
 ·obtain ⟨rfl,y⟩:=y
  obtain ⟨v,e1,r1⟩:=hr.get e
  have:=y xs (SqL.of h2)
  rw [e1] at this; cases this
  refine ⟨zi.refl _, ?_⟩
  rw [zt.self B2 _ s2]
  exact r1.mono s1
def Vo (fa:En->R T):En->R (List T):=fun ρ=>(fa ρ).bind fun t=>(JO t).bind fun xs=> .ok xs.reverse
def qM:T->R T
 | .lst xs=>if xs.length<=bnd then .ok (.tup xs.reverse) else .bad
 | _=> .bad
section
variable {X:Cx} {Y:Fx} {a b tg:Expr} {fa fb:En->R T} {pos p p' pos' :Pos}
theorem qN {ta:TA} (hg:Gl X "reversed") (hm:X.mg "reversed"=none) (ha:PA X [a] ta) (hs:St1 X a:=by exact st1 rfl):
  PI X tg (.Call (.Name "reversed" p) [a] [] pos) (fun σ H R=>ta σ H fun vs H1=>∃ l xs,vs=[.ref l]/\((H1 l=some (.lst xs)/\R (vK X.K l xs.length) H1)\/(H1 l=some (.tup xs)/\R (vJ X.K l xs.length) H1))):=by
 intro pins s σ H R I h
 refine Call_ (Zb I hg hm boot_reversed (PyProof.Rows.callWith_type1 (thn (ha pos pins s σ H _ I h) fun us s1 ⟨vs,H1,I1,r1,q1⟩=> ?_) hs rfl))
 obtain ⟨l,xs,e,q⟩:=q1
 subst e
 obtain ⟨u,rfl,ru⟩:=Zo r1
 obtain rfl:u=Value.ref l:=ru
 have ok:∀ b∈[s1.heap.objs.size],jT X pins H1 b:=fun b hb=>by
  have e:b=s1.heap.objs.size:=by simpa using hb
  subst e
  exact I1.fpOk (Nat.le_refl _) (I1.hok.fresh (Nat.le_refl _))
 rcases q with ⟨hl,q⟩ | ⟨hl,q⟩
 ·obtain ⟨its,rv,p,hz⟩:=I1.list (SqL.of hl)
  have e:((its.toArray.size:Nat):Int) - 1=(xs.length:Int) - 1 - ((0:Nat):Int):=by have:=rv.length; simp; omega
  refine call_reversed_list p.isList ?_
  rw [e]
  have st:(s1.heap.push (revObj l ((xs.length:Int) - 1 - ((0:Nat):Int)))).IsRevIter s1.heap.objs.size l ((xs.length:Int) - 1 - ((0:Nat):Int)):=⟨_,Heap.get?_push_size _ rfl,rfl,rfl⟩
  refine wpAny_pyIter_revIter (s:={ s1 with heap:=s1.heap.push (revObj l ((xs.length:Int) - 1 - ((0:Nat):Int))) }) st ?_
  exact ⟨s1.heap.objs.size,[s1.heap.objs.size],_,_,H1,rfl,I1.kept (t' :=s1.toks) (fun b o e=>Heap.get?_push_of_some _ e),uW l _ xs.length,⟨Nat.zero_le _,st⟩,ok,q⟩
 ·obtain ⟨its,rv,p,hz⟩:=I1.tuple (SqT.of hl)
  have hlen:=rv.length
  have e:((its.toArray.size:Nat):Int) - 1=(xs.length:Int) - 1 - ((0:Nat):Int):=by simp; omega
  refine RV.call_rvT p (by rw [sizeLine_eq] at hz; simp; omega) fun tk=> ?_
  rw [e]
  refine RV.iter_rv (s:={ s1 with heap:=_,toks:=tk }) (Heap.get?_push_size _ rfl) ?_
  exact ⟨s1.heap.objs.size,[s1.heap.objs.size],_,_,H1,rfl,I1.kept (t' :=tk) (fun b o e=>Heap.get?_push_of_some _ e),uV l _ xs.length,⟨Nat.zero_le _,Heap.get?_push_size _ rfl⟩,ok,q⟩
theorem vL (hg:Gl X "reversed") (hm:X.mg "reversed"=none) (ha:Snd X Y a fa) (hs:St1 X a:=by exact st1 rfl):wG X Y tg (.Call (.Name "reversed" p) [a] [] pos) (Vo fa):= .mk fun ρ=>
 PI.imp (qN hg hm (zg (ha ρ) zu hs) hs) fun σ H R ⟨B,I,q⟩=>step I q fun t v H1 _ s1 r1 I1 q1=>by
  cases r1 with
  | @tup l xs ts h r=>exact ⟨l,xs,rfl, .inr ⟨I1.sB _ _ h,Z6 I1 (show Po Y rI _ H1 (.ok ts.reverse) R from q1) (qJ h r)⟩⟩
  | @lst l xs ts h r=>exact ⟨l,xs,rfl, .inl ⟨I1.sB _ _ h,Z6 I1 (show Po Y rI _ H1 (.ok ts.reverse) R from q1) (qK h r)⟩⟩
  | _=>exact q1.elim
theorem wk:∀ {xs ys:List V} {us ws:List Value},zE xs us->zE ys ws->zE (xs++ys) (us++ws)
 | _,_,_,_, .nil,q=>q
 | _,_,_,_, .cons r t,q=> .cons r (wk t q)
theorem wl:∀ {xs:List V} {us:List Value},zE xs us->zE xs.reverse us.reverse
 | _,_, .nil=> .nil
 | _,_, .cons r t=>by rw [List.reverse_cons,List.reverse_cons]; exact wk (wl t) (.cons r .nil)
theorem yB {its:List Value} {acc:Array Value} (h:ItemsOf (fun i v=>its.toArray[its.toArray.size - 1 - i]? =some v) acc its.toArray.size):acc.toList=its.reverse:=by
 have h1:acc.size=its.length:=by
  have:=h.1
  simpa using this
 have h2:=h.2
 refine List.ext_getElem? fun i=> ?_
 by_cases hi:i < its.length
 ·have hlt:i < acc.toList.length:=by simp; omega
  have e:=List.getElem?_eq_getElem hlt
  have:=h2 i _ (by rw [← Array.getElem?_toList]; exact e)
  rw [List.getElem?_reverse hi,e,← this]
  simp
 ·rw [List.getElem?_eq_none (by simp; omega),List.getElem?_eq_none (by simp; omega)]
theorem qO (hh:X.A.handled=none) (gl:Gl X "tuple") (mg:X.mg "tuple"=none) (gl' :Gl X "reversed") (mg' :X.mg "reversed"=none) (ha:Snd X Y a fa) (hs:St1 X a:=by exact st1 rfl) (hs' :St1 X (.Call (.Name "reversed" p') [a] [] pos'):=by exact st1 rfl):
  Snd X Y (.Call (.Name "tuple" p) [.Call (.Name "reversed" p') [a] [] pos'] [] pos) (ap1 qM fa):= .mk fun ρ=>by
 intro pins s σ H Q I ⟨B,J,q⟩
 have hq:tS Y rC fa ρ σ H (fun v H1=>∃ l xs,v= .ref l/\H1 l=some (.lst xs)/\xs.length<=sizeLine/\∀ t,H1 t=none->Q (.ref t) (upd H1 t (.tup xs.reverse))):=by
  refine step J q fun t v H1 _ s1 r1 I1 q1=> ?_
  cases r1 with
  | @lst l xs ts h r=>
   have q1:Po Y rC _ H1 (if ts.length<=bnd then .ok (.tup ts.reverse) else .bad) Q:=q1
   split at q1
   ·rename_i hb
    exact ⟨l,xs,rfl,I1.sB _ _ h,by rw [r.length]; exact zV hb,fun t ht=>v5 I1.sB q1 rfl r.rev ht⟩
   ·exact q1.elim
  | _=>exact q1.elim
 refine wpAny_Call_Name_kw (Zb I gl mg PyProof.Rows.Boot.«tuple» (PyProof.Rows.callWith_type1 (e:= .Call (.Name "reversed" p') [a] [] pos') (rest:=[]) ?_ hs' rfl))
 rw [hs']
 show wpAny _ _ (spliced [(false,eval (.Call (.Name "reversed" p') [a] [] pos') X.env)]) _ _ s
 refine Calls.spliced_cons (wpAny_Call_Name_kw (Zb I gl' mg' boot_reversed (PyProof.Rows.callWith_type1 (e:=a) (rest:=[]) ?_ hs rfl)))
 refine thn ((zg (ha ρ) zu hs) pos' pins s σ H (fun vs H1=>∃ l xs,vs=[.ref l]/\H1 l=some (.lst xs)/\xs.length<=sizeLine/\∀ t,H1 t=none->Q (.ref t) (upd H1 t (.tup xs.reverse))) I ?_) fun us s1 ⟨vs,H1,I1,r1,l,xs,e,hl,hz,q1⟩=> ?_
 ·obtain ⟨B',J',q'⟩:=hq
  refine ⟨B',J', ?_⟩
  revert q'
  cases fa ρ with
  | bad=>exact fun q' =>q'
  | ex c=>exact fun q' =>q'
  | ok t=>
   intro q' v H1 s1 r1
   obtain ⟨l,xs,rfl,h⟩:=q' v H1 s1 r1
   exact ⟨l,xs,rfl,h⟩
 subst e
 obtain ⟨u,rfl,ru⟩:=Zo r1
 obtain rfl:u=Value.ref l:=ru
 obtain ⟨its,rv,pl,_⟩:=I1.list (SqL.of hl)
 have hlt:l < s1.heap.objs.size:=I1.hok.lt hl
 refine call_reversed_list pl.isList (Calls.spliced_nil ?_)
 have e0:((its.toArray.size:Nat):Int) - 1 - ((0:Nat):Int)=((its.toArray.size:Nat):Int) - 1:=by omega
 refine RV.tuple_lr (s:={ s1 with heap:=s1.heap.push (revObj l ((its.toArray.size:Int) - 1)) }) (Walks.listRev (A:=X.A.in1.in1.in1) hh s1.heap.objs.size l (Nat.ne_of_lt hlt) its.toArray).toS (fun i s st=>st.2.1.typeIs) ⟨Nat.zero_le _,⟨_,Heap.get?_push_size _ rfl,rfl,by rw [e0]; rfl⟩,pl.isList.push _⟩ (fun b hb=> ?_) (by simp) (fun s' acc hm hacc=> ?_) (by rw [List.size_toArray,← rv.length]; exact hz)
 ·have hb:b=s1.heap.objs.size\/b=l:=by simpa using hb
  rcases hb with rfl | rfl
  ·rw [Heap.size_push]; exact Nat.lt_succ_self _
  ·rw [Heap.size_push]; exact Nat.lt_succ_of_lt hlt
 obtain ⟨h',g',d',tk',os'⟩:=s'
 have e1:g' =s1.gens:=hm.gens
 have e2:d' =s1.drawn:=hm.drawn
 have e3:os' =s1.os:=hm.os
 subst e1 e2 e3
 have kp:∀ b o,s1.heap.get? b=some o->h'.get? b=some o:=fun b o e=>hm.heap b o (fun z=>by
  have z:b=s1.heap.objs.size:=by simpa using z
  have:=Heap.lt_size e
  rw [z] at this
  exact Nat.lt_irrefl _ this) (Heap.get?_push_of_some _ e)
 have I2:Inv X pins σ H1 { s1 with heap:=h',toks:=tk' }:=I1.kept (t' :=tk') kp
 have ea:acc=its.reverse.toArray:=by rw [← yB hacc]
 rw [ea]
 refine ⟨.ref h'.objs.size,upd H1 h'.objs.size (.tup xs.reverse),I2.laid (t' :=tk') (fun b u e=>Heap.get?_push_of_some _ e) (Nat.le_refl _) ⟨by rw [List.length_reverse]; exact hz,its.reverse,wl rv,⟨_,Heap.get?_push_size _ rfl,rfl,_,rfl⟩, .inr ⟨_,Heap.get?_push_size _ rfl,rfl⟩⟩,rfl,q1 _ (I2.hok.fresh (Nat.le_refl _))⟩
end
section
variable {X:Cx} {Y:Fx} {a b:Expr} {fa fb:En->R T} {pos p p' pos' pt:Pos} {elts:List Expr} {kk:Nat}
end
section
variable {X:Cx} {Y:Fx} {a b:Expr} {fa fb:En->R T} {pos p p' pos' pt:Pos} {elts:List Expr} {kk:Nat}
end
end PV
namespace PySem.RV
open PySem PySem.Spec PyProof.Rows PySem.Builtin.SmallTypes
end PySem.RV
namespace PV
open PySem PySem.Spec PyProof.Rows L2
section
variable {X:Cx} {Y:Fx} {a:Expr} {fa:En->R T} {pos p pt:Pos} {elts:List Expr} {kk:Nat}
end
end PV
namespace PySem.RW37
open PySem PySem.Spec PyProof.Rows L2
section
variable {X:Cx} {pos:Pos}
end
end PySem.RW37
namespace PV
open PySem PySem.Spec PyProof.Rows L2 PySem.RW37
section
variable {X:Cx} {Y:Fx} {pos:Pos} {a b c:Expr}
theorem wM {pins:List (Addr×Obj)} {σ:L2.St} {H:Hp} {s:Shared} {A:Around} {E:Value->Shared->Prop} {Q:Value->Shared->Prop} {b:Bool} {v:V} {u:Value} {t:T} {tp:Addr} {xs:List V} {its:List Value} (I:Inv X pins σ H s) (rx:zJ v u) (r:Rep H v t) (hp:H tp=some (.tup xs)) (hv:zE xs its)
  (hu:∀ its',zE xs its' ->its' =its) (e:PySem.W.kitAny X.K (.type (tyN t)) its=some b) (h:∀ tk,Q (.bool b) { s with toks:=tk }):
  wpAny (model X.prog X.w) A (call (.builtin "isinstance") [u, .ref tp]) Q E s:=by
 obtain ⟨_,its',hv',⟨o,ho,hc,n,hd⟩,_⟩:=(show zF X.prog X.w H s.heap tp (.tup xs) from I.hok tp _ hp)
 obtain rfl:=hu _ hv'
 obtain ⟨c,dd,da,sl⟩:=o
 dsimp only at hc hd
 subst hc hd
 cases r with
 | non=>cases (show u=Value.none from rx); exact PySem.W.kia_tup PySem.W.kitx_none I.kIn True.intro ho e (fun z=>nomatch z) h
 | bl y=>cases (show u=Value.bool y from rx); exact PySem.W.kia_tup PySem.W.kitx_bool I.kIn True.intro ho e (fun z=>nomatch z) h
 | int i=>obtain ⟨t,q⟩:=(show ∃ t,u=Value.int i t from rx); cases q; exact PySem.W.kia_tup PySem.W.kitx_int I.kIn True.intro ho e (fun z=>nomatch z) h
 | str y=>obtain ⟨t,q⟩:=(show ∃ t,u=Value.str y t from rx); cases q; exact PySem.W.kia_tup PySem.W.kitx_str I.kIn True.intro ho e (fun z=>nomatch z) h
 | @tup a xs _ ea=>
  cases (show u=Value.ref a from rx)
  obtain ⟨_,_,_,p,_⟩:=(show zF X.prog X.w H s.heap a (.tup xs) from I.hok a _ ea)
  obtain ⟨o,h1,h2,_⟩:=p
  exact PySem.W.kia_tup PySem.W.kitx_tuple I.kIn ⟨o,h1,h2⟩ ho e (fun z=>nomatch z) h
 | @lst a xs _ ea=>
  cases (show u=Value.ref a from rx)
  obtain ⟨_,_,n,_,h1⟩:=(show zF X.prog X.w H s.heap a (.lst xs) from I.hok a _ ea)
  exact PySem.W.kia_tup PySem.W.kitx_list I.kIn ⟨_,h1,rfl⟩ ho e (fun z=>nomatch z) h
 | @fz a ob xs _ ea=>
  cases (show u=Value.ref a from rx)
  obtain ⟨_,_,_,n,_,h1⟩:=(show zF X.prog X.w H s.heap a (.frz ob (.lst xs)) from I.hok a _ ea)
  exact PySem.W.kia_tup PySem.W.kitx_list I.kIn ⟨_,h1,rfl⟩ ho e (fun z=>nomatch z) h
theorem uX {n m:String}:∀ its',zE [.ty n, .ty m] its' ->its' =[.type n, .type m]:=fun its' h=>by
 cases h with
 | cons p q=>
  cases q with
  | cons p' q' =>
   cases q'
   rw [show _=Value.type n from p,show _=Value.type m from p']
theorem WP:Z1 X (.builtin "isinstance") (fun xs H Q=>∃ v tp n m t b,xs=[v, .ref tp]/\H tp=some (.tup [.ty n, .ty m])/\Rep H v t/\PySem.W.kitAny X.K (.type (tyN t)) [.type n, .type m]=some b/\Q (.bl b) H):=by
 intro pins s σ H xs us Q I rv h
 obtain ⟨v,tp,n,m,t,b,rfl,hp,r,hk,q⟩:=h
 obtain ⟨u,w,rfl,ru,rw'⟩:=wC rv
 obtain rfl:w=Value.ref tp:=rw'
 exact wM I ru r hp (.cons rfl (.cons rfl .nil)) uX hk fun tk=>⟨.bl _,H,I.tok tk,rfl,q⟩
def qP (n m:String) (t:T):R T:= .ok (.bl (isT n t || isT m t))
theorem yC {K:PySem.W.Frag} {t:T} {n m:String} (h1:PySem.W.kitOne K (.type (tyN t)) (.type n)=some (isT n t)) (h2:PySem.W.kitOne K (.type (tyN t)) (.type m)=some (isT m t)):
  PySem.W.kitAny K (.type (tyN t)) [.type n, .type m]=some (isT n t || isT m t):=by
 unfold PySem.W.kitAny
 rw [h1]
 cases isT n t with
 | true=>rfl
 | false=>
  show PySem.W.kitAny K (.type (tyN t)) [.type m]=_
  unfold PySem.W.kitAny
  rw [h2]
  cases isT m t <;> rfl
theorem qQ {fa:En->R T} {p p1 p2 pt:Pos} {n m:String} {kt:Nat} (hk:∀ t,PySem.W.kitOne X.K (.type (tyN t)) (.type n)=some (isT n t)) (hk' :∀ t,PySem.W.kitOne X.K (.type (tyN t)) (.type m)=some (isT m t))
  (gl:Gl X "isinstance") (mg:X.mg "isinstance"=none) (gl1:Gl X (Str.ofString n)) (mg1:X.mg (Str.ofString n)=none) (bt1:bootBuiltins (Str.ofString n)=some (.type n)) (gl2:Gl X (Str.ofString m)) (mg2:X.mg (Str.ofString m)=none) (bt2:bootBuiltins (Str.ofString m)=some (.type m)) (ha:Snd X Y a fa)
  (hs:starEach [a, .Tuple [.Name (Str.ofString n) p1, .Name (Str.ofString m) p2] kt pt] X.env=[(false,eval a X.env),(false,eval (.Tuple [.Name (Str.ofString n) p1, .Name (Str.ofString m) p2] kt pt) X.env)]:=by exact st2 rfl rfl)
  (hs2:starEach [.Tuple [.Name (Str.ofString n) p1, .Name (Str.ofString m) p2] kt pt] X.env=[(false,eval (.Tuple [.Name (Str.ofString n) p1, .Name (Str.ofString m) p2] kt pt) X.env)]:=by exact st1 rfl)
  (hs3:starEach [.Name (Str.ofString n) p1, .Name (Str.ofString m) p2] X.env=[(false,eval (.Name (Str.ofString n) p1) X.env),(false,eval (.Name (Str.ofString m) p2) X.env)]:=by exact st2 rfl rfl)
  (hs4:starEach [.Name (Str.ofString m) p2] X.env=[(false,eval (.Name (Str.ofString m) p2) X.env)]:=by exact st1 rfl)
  (hn1:Str.ofString n ≠ "__name__":=by decide) (hd1:(Str.ofString n == ("__debug__":Str))=false:=by decide) (hn2:Str.ofString m ≠ "__name__":=by decide) (hd2:(Str.ofString m == ("__debug__":Str))=false:=by decide)
  (hz:((backTo pos (starEach [.Tuple [.Name (Str.ofString n) p1, .Name (Str.ofString m) p2] kt pt] X.env)).any fun x=>x.fst)=false:=by exact zO rfl):
  Snd X Y (.Call (.Name "isinstance" p) [a, .Tuple [.Name (Str.ofString n) p1, .Name (Str.ofString m) p2] kt pt] [] pos) (ap1 (qP n m) fa):= .mk fun ρ=>
 PE.imp (zU WP gl mg PyProof.Rows.Boot.«isinstance» (zg (ha ρ) (zg (Ua (zg (jE (v:= .ty n) gl1 mg1 bt1 rfl hn1 hd1) (zg (jE (v:= .ty m) gl2 mg2 bt2 rfl hn2 hd2) zu hs4) (by rw [hs3,hs4]))) zu hs2) (by rw [hs,hs2])) (by decide) (by decide) (by rw [hs,hs2]) hz) fun σ H Q ⟨B,I,q⟩=>
  step I q fun t v H1 _ s1 r1 I1 q1=>⟨zV (by show 2<=bnd; decide),fun p hp=>⟨v,p,n,m,t,_,rfl,zh,(r1.mono I1.sB).mono (zi.new hp _),yC (hk t) (hk' t),q1 _ _ (zi.new hp _) (.bl _)⟩⟩
def vM (fa:En->R T) (g:T->En->R En):En->RS:=fun ρ=>(fa ρ).s fun t=>match g t ρ with
 | .ok ρ' => .nx ρ'
 | _=> .bad
theorem qR {tg:Expr} {fa:En->R T} {g:T->En->R En} (ha:Snd X Y a fa) (hg:qg X Y tg g) (hs:swapsWithSole [tg] a pos.line X.env=pure false:=by rfl) (hw:swappedStores [tg] a X.env=pure none:=by rfl)
  (h1:(assignEach [tg] X.env).map (·.2)=[assign tg X.env]:=by rfl):jI X Y (.Assign [tg] a pos) (vM fa g):= .mk fun ρ=>by
 obtain ⟨tt,hp,hr⟩:=hg
 refine PS.imp (Ym (ha ρ) hp hs hw h1) fun D σ H ⟨B,I,q⟩=>jg I q fun t v H1 _ s1 r1 I1 q1=>hr _ _ _ _ _ _ _ I1 r1 ?_
 cases h:g t ρ with
 | ok ρ' =>
  rw [h] at q1
  exact fun σ' I' =>q1 _ _ _ (zi.refl _) I'
 | ex c=>rw [h] at q1; exact q1.elim
 | bad=>rw [h] at q1; exact q1.elim
end
end PV
namespace PV
open PySem PySem.Spec PyProof.Rows L2
def qS (t t' :T):R T:=match t,t' with
 | .int i, .int j=> .ok (.int (if j > i then j else i))
 | _,_=> .bad
def ZC (f:Int->Int->Bool):Int->List Int->Int
 | i,[]=>i
 | i,j :: r=>ZC f (if f j i then j else i) r
theorem wm:∀ (l:List Int) (i:Int),ZC (fun a b=>decide (b < a)) i l∈i :: l/\∀ x∈i :: l,x<=ZC (fun a b=>decide (b < a)) i l
 | [],i=>⟨List.mem_cons_self,fun x h=>by simp at h; subst h; exact Int.le_refl _⟩
 | j :: r,i=>by
  unfold ZC
  by_cases hj:i < j
  ·simp only [hj,decide_true,if_true]
   obtain ⟨h1,h2⟩:=wm r j
   refine ⟨List.mem_cons_of_mem _ h1,fun x hx=> ?_⟩
   rcases List.mem_cons.mp hx with rfl | hx
   ·exact Int.le_trans (Int.le_of_lt hj) (h2 j List.mem_cons_self)
   ·exact h2 x hx
  ·simp only [hj,decide_false,Bool.false_eq_true,if_false]
   obtain ⟨h1,h2⟩:=wm r i
   refine ⟨?_,fun x hx=> ?_⟩
   ·rcases List.mem_cons.mp h1 with h | h
    ·rw [h]; exact List.mem_cons_self
    ·exact List.mem_cons_of_mem _ (List.mem_cons_of_mem _ h)
   ·rcases List.mem_cons.mp hx with rfl | hx
    ·exact h2 x List.mem_cons_self
    ·rcases List.mem_cons.mp hx with rfl | hx
     ·exact Int.le_trans (Int.not_lt.mp hj) (h2 i List.mem_cons_self)
     ·exact h2 x (List.mem_cons_of_mem _ hx)
theorem jO:∀ (l:List Int) (i:Int),ZC (fun a b=>decide (a < b)) i l∈i :: l/\∀ x∈i :: l,ZC (fun a b=>decide (a < b)) i l<=x
 | [],i=>⟨List.mem_cons_self,fun x h=>by simp at h; subst h; exact Int.le_refl _⟩
 | j :: r,i=>by
  unfold ZC
  by_cases hj:j < i
  ·simp only [hj,decide_true,if_true]
   obtain ⟨h1,h2⟩:=jO r j
   refine ⟨List.mem_cons_of_mem _ h1,fun x hx=> ?_⟩
   rcases List.mem_cons.mp hx with rfl | hx
   ·exact Int.le_trans (h2 j List.mem_cons_self) (Int.le_of_lt hj)
   ·exact h2 x hx
  ·simp only [hj,decide_false,Bool.false_eq_true,if_false]
   obtain ⟨h1,h2⟩:=jO r i
   refine ⟨?_,fun x hx=> ?_⟩
   ·rcases List.mem_cons.mp h1 with h | h
    ·rw [h]; exact List.mem_cons_self
    ·exact List.mem_cons_of_mem _ (List.mem_cons_of_mem _ h)
   ·rcases List.mem_cons.mp hx with rfl | hx
    ·exact h2 x List.mem_cons_self
    ·rcases List.mem_cons.mp hx with rfl | hx
     ·exact Int.le_trans (h2 i List.mem_cons_self) (Int.not_lt.mp hj)
     ·exact h2 x (List.mem_cons_of_mem _ hx)
theorem Jm (ps:List (Int×Tok)) (i:Nat) (h:i < ps.length):numAt ps.toArray i=(ps.map (·.1))[i]'(by simpa using h):=by
 unfold numAt
 simp [h]
section
variable {X:Cx} {Y:Fx} {a b:Expr} {fa fb:En->R T} {pos p p' pos' pt:Pos} {elts:List Expr} {kk:Nat}
theorem qT (hc:X.calm=true) (gl:Gl X "max") (mg:X.mg "max"=none) (ha:Snd X Y a fa) (hb:Snd X Y b fb)
  (hs:starEach [a,b] X.env=[(false,eval a X.env),(false,eval b X.env)]:=by exact st2 rfl rfl) (hs2:starEach [b] X.env=[(false,eval b X.env)]:=by exact st1 rfl):
  Snd X Y (.Call (.Name "max" p) [a,b] [] pos) (zd qS fa fb):= .mk fun ρ=>
 PE.imp (zU (Wb hc) gl mg PyProof.Rows.Boot.«max» (zg (ha ρ) (zg (hb ρ) zu hs2) (by rw [hs,hs2])) (by decide) (by decide) (by rw [hs,hs2]) (by rw [hs2]; rfl)) fun σ H Q ⟨B,I,q⟩=>
  step I q fun t v H1 _ s1 r1 I1 q1=>step I1 q1 fun t' v' H2 _ s2 r2 I2 q2=>by
   cases r1 with
   | int i=>
    cases r2 with
    | int j=>exact ⟨i,j,rfl,po0 I2.sB q2 rfl (.int _)⟩
    | _=>exact q2.elim
   | _=>cases r2 <;> exact q2.elim
end
section
variable {X:Cx} {Y:Fx} {tg iter elt:Expr} {ifs:List Expr} {scope:Scope} {pos pos' :Pos} {N' :List Str} {k:Nat} {js:List Nat} {fi:En->R (List T)} {tG:TG} {g:T->En->R En} {ft:En->R Bool} {fe:En->R T}
end
def ltS (a b:Str):Bool:=decide (a.cps.toList < b.cps.toList)
def yD (x:Str):List Str->List Str
 | []=>[x]
 | y :: r=>if ltS y x then y :: yD x r else x :: y :: r
def wY:List Str->List Str
 | []=>[]
 | x :: r=>yD x (wY r)
def qU:T->R T
 | .lst ts=>match WC ts with
  | some ys=>if ts.length < 64 then .ok (.lst ((wY (dd [] ys)).map T.str)) else .bad
  | none=> .bad
 | _=> .bad
section
variable {prog:Program} {w:World} {A:Around} {R:Result->Shared->Prop} {I:Addr} {fp wr:List Addr} {n:Nat} {P:Nat->Value->Prop} {St:Nat->Heap->Prop}
end
section
variable {prog:Program} {w:World} {A:Around} {E:Value->Shared->Prop} {s:Shared} {l:Addr} {xs:Array (Int×Tok)}
end
section
variable {X:Cx} {Y:Fx} {a b:Expr} {fa fb:En->R T} {pos p p' pos' pt kp:Pos} {elts:List Expr} {kk:Nat}
end
theorem yE (t:SetTable) (es:Array (Int×Value)) (h:Int) (x:Value):(layNew t es h x).2.1.led=t.led:=by
 unfold layNew
 split
 ·rename_i slot _ _
  have e:∀ (u:SetTable) (n:Nat),(u.orStandIn n).led=u.led:=fun u n=>by
   unfold SetTable.orStandIn
   by_cases hz:u.fits n=true
   ·rw [if_pos hz]
   ·rw [if_neg hz]; rfl
  exact e _ _
 ·rfl
theorem WQ (t:SetTable) (es:Array (Int×Value)) (n:Nat):(relayAll t es n).2.1.led=t.led/\(t.plain=false->(relayAll t es n).2.1.plain=false):=by
 unfold relayAll
 split
 ·rename_i t' order e
  have h2:t'.led=t.led/\t'.plain=t.plain:=by
   unfold SetTable.relaid SetTable.laid at e
   simp only [Option.bind_eq_bind,Option.bind_eq_some_iff,Option.pure_def,Option.some.injEq,Prod.mk.injEq] at e
   obtain ⟨_,_,e,_⟩:=e
   rw [← e]
   exact ⟨rfl,rfl⟩
  dsimp only
  split
  ·exact ⟨h2.1,fun z=>h2.2.trans z⟩
  ·exact ⟨rfl,fun _=>rfl⟩
 ·exact ⟨rfl,fun _=>rfl⟩
section
variable {prog:Program} {w:World} {K:Type} [DecidableEq K] {knd:KeyKind prog w K} {A:Around} {E:Value->Shared->Prop} {s:Shared}
theorem WR {b:Bool} {u:Shared} {F:Unit->Shared->Prop} (h:F () u):wpAny (model prog w) A (match b with | true=>rule "set.scan.the-table-gave-way" | false=>pure ()) F E u:=by
 cases b
 ·exact wpAny_pure h
 ·exact wpAny_rule h
theorem WS {h:Heap} {a:Addr} {o:Obj} {es es' :Array (Int×Value)} {ep:Nat} {t t' :SetTable} (ho:h.get? a=some o) (hd:o.data= .set es ep t):
  (h.update a (Obj.putSet es' t')).get? a=some { o with data:= .set es' (ep+1) t' }:=by
 rw [← putSet_of es' t' hd]
 exact Heap.get?_update_self (Obj.putSet es' t') ho (by rw [putSet_of es' t' hd]; rfl)
theorem yF {a:Addr} {o:Obj} {es:Array (Int×Value)} {ep:Nat} {t:SetTable} {k:K} {x:Value} {Q:Bool->Shared->Prop} (isk:knd.is k x=true) (sc:x.scannable=true) (np:plainKind x=false)
  (ho:s.heap.get? a=some o) (hd:o.data= .set es ep t) (hf:t.fits es.size=true) (el:ElemsOf knd es.toList) (room:es.size+1 < scanBound)
  (h0:(∃ e∈es.toList,knd.is k e.2=true)->Q false s)
  (h1:(∀ e∈es.toList,knd.is k e.2=false)->∀ es' ep' t' h',es'.toList.Perm (es.toList++[(knd.hash k,x)])->t'.fits es'.size=true->t'.led=t.led->t'.plain=false->
   h'.get? a=some { o with data:= .set es' ep' t' }->Heap.SameBut a s.heap h' ->Q true { s with heap:=h' }):
  wpAny (model prog w) A (setAddHashed a x (knd.hash k)) Q E s:=by
 have hb:es.size < scanBound:=by omega
 unfold setAddHashed setAddHashedIn
 refine wpAny_holding (wpAny_bind (wpAny_setState_of ho hd hf ?_))
 dsimp only
 rw [byScan_of sc hb el]
 simp only [if_true]
 unfold setAddByScan
 refine wpAny_bind (wpAny_bind (wpAny_rule (wpAny_bind (wpAny_setScan_of isk ho hd hf el ?_))))
 cases hr:es.toList.findIdx? (fun e=>knd.is k e.2) with
 | some j=>
  obtain ⟨hj,hp,_⟩:=List.findIdx?_eq_some_iff_getElem.mp hr
  exact wpAny_pure (wpAny_pure (h0 ⟨_,List.getElem_mem hj,hp⟩))
 | none=>
  dsimp only
  have h1' :=h1 (fun e he=>List.findIdx?_eq_none_iff.mp hr e he)
  have p1:=layNew_perm t es (knd.hash k) x
  have f1:=layNew_fits t es (knd.hash k) x
  have l1:=yE t es (knd.hash k) x
  generalize layNew t es (knd.hash k) x=L at p1 f1 l1 ⊢
  obtain ⟨es1,t1,dm,gv⟩:=L
  dsimp only at p1 f1 l1 ⊢
  rw [Array.toList_push] at p1
  have n1:es1.size=es.size+1:=by rw [← Array.length_toList,p1.length_eq]; simp
  refine wpAny_bind (WR ?_)
  have main:∀ t2:SetTable,t2.fits es1.size=true->t2.led=t.led->t2.plain=false->wpAny (model prog w) A (do
    storeSet a es1 t2
    if (!dm && t2.tooFull)=true then do
      (match (relayAll t2 es1 (SetTable.grown es1.size)).2.2 with | true=>rule "set.scan.the-table-gave-way" | false=>pure ())
      storeSet a (relayAll t2 es1 (SetTable.grown es1.size)).1 (relayAll t2 es1 (SetTable.grown es1.size)).2.1
      pure (some true)
     else pure (some true)) (fun r s' =>wpAny (model prog w) A (match r with | some added=>pure added | none=>setAddHashedIn a x (knd.hash k) 99999) Q E s') E s:=by
   intro t2 f2 l2 pl2
   refine wpAny_bind (wpAny_storeSet_of ho hd ?_ (fits_of_scanBound (by omega)))
   have g1:=WS (es' :=es1) (t' :=t2) ho hd
   have sb:=Heap.SameBut.update s.heap a (Obj.putSet es1 t2)
   split
   ·have p2:=relayAll_perm t2 es1 (SetTable.grown es1.size)
    have f3:=relayAll_fits t2 es1 (SetTable.grown es1.size)
    have l3:=WQ t2 es1 (SetTable.grown es1.size)
    generalize relayAll t2 es1 (SetTable.grown es1.size)=M at p2 f3 l3 ⊢
    obtain ⟨es2,t3,gw⟩:=M
    dsimp only at p2 f3 l3 ⊢
    have n2:es2.size=es1.size:=by rw [← Array.length_toList,p2.length_eq,Array.length_toList]
    refine wpAny_bind (WR (wpAny_bind (wpAny_storeSet_of g1 rfl ?_ (fits_of_scanBound (by omega)))))
    have g2:=WS (es' :=es2) (t' :=t3) g1 rfl
    exact wpAny_pure (wpAny_pure (h1' es2 _ t3 _ (p2.trans p1) f3 (l3.1.trans l2) (l3.2 pl2) g2 (sb.trans (Heap.SameBut.update _ a _))))
   ·exact wpAny_pure (wpAny_pure (h1' es1 _ t2 _ p1 f2 l2 pl2 g1 sb))
  split
  ·refine wpAny_bind ?_
   rw [hashByValue_scannable 8 sc,np]
   exact wpAny_pure (main _ (SetTable.fits_plain_off f1) l1 rfl)
  ·rename_i hp
   refine wpAny_bind (wpAny_pure ?_)
   exact main t1 f1 l1 (by simpa using hp)
end
theorem zS:Slot "set_iterator" "__next__" "set_iterator.__next__":=
 .of (owner:="set_iterator") (n:="__next__") (by rw [typeLookup_type,builtinLookup_eq_fast]; kernel_rfl) (by decide+kernel) (by decide+kernel) (by decide+kernel) (.inl (by decide+kernel)) (by rw [isSubtype_type]; kernel_rfl)
theorem ZO:Slot "set_iterator" "__iter__" "set_iterator.__iter__":=
 .of (owner:="set_iterator") (n:="__iter__") (by rw [typeLookup_type,builtinLookup_eq_fast]; kernel_rfl) (by decide+kernel) (by decide+kernel) (by decide+kernel) (.inl (by decide+kernel)) (by rw [isSubtype_type]; kernel_rfl)
theorem jP:entryFor table "set_iterator.__next__"=some Builtin.«set_iterator.__next__»:=entryFor_of_tree (by kernel_rfl)
theorem jQ:entryFor table "set_iterator.__iter__"=some Builtin.«dict_keyiterator.__iter__»:=
 entryFor_alias (id' :="dict_keyiterator.__iter__") (by kernel_rfl) rfl (by decide+kernel) (by kernel_rfl)
theorem jh:entryFor table "set.__iter__"=some Builtin.«frozenset.__iter__»:=
 entryFor_alias (id' :="frozenset.__iter__") (by kernel_rfl) rfl (by decide+kernel) (by kernel_rfl)
theorem Jn (a:Value):argsOk "set_iterator.__next__" ⟨[a],[]⟩:=by unfold argsOk; kernel_rfl
theorem Jo (a:Value):argsOk "set_iterator.__iter__" ⟨[a],[]⟩:=by unfold argsOk; kernel_rfl
theorem WT {M:Model} {A:Around} {E:Value->Shared->Prop} {s:Shared} {src:Source} {n:Nat} {Q:Nat->Shared->Prop} (hn:n ≠ 0) (h:∀ i,i < n->Q i { s with drawn:=s.drawn.bump src }):wpAny M A (choose src n) Q E s:=fun Γ p hΓ=>by
 unfold choose
 rw [Sem.wp_choose]
 refine ⟨hn, ?_⟩
 have:=h _ (Nat.mod_lt (M.w.draws src (s.drawn.get src)) (Nat.pos_of_ne_zero hn))
 simpa using this
theorem ZD {α:Type}:∀ (l:List α) (i:Nat) (x:α),l[i]? =some x->(x :: l.eraseIdx i).Perm l
 | [],i,x,h=>by simp at h
 | y :: l,0,x,h=>by simp at h; subst h; simp
 | y :: l,i+1,x,h=>by
  have:=ZD l i x (by simpa using h)
  rw [List.eraseIdx_cons_succ]
  exact (List.Perm.swap y x _).trans (this.cons y)
theorem WU {M:Model} {A:Around} {E:Value->Shared->Prop} {α:Type}:∀ (n:Nat) (xs:List α) (s:Shared) (Q:List α->Shared->Prop),xs.length=n->
  (∀ ys d,ys.Perm xs->Q ys { s with drawn:=d })->wpAny M A (drawOrder n xs) Q E s
 | 0,xs,s,Q,hn,h=>by
  have:xs=[]:=List.length_eq_zero_iff.mp hn
  subst this
  unfold drawOrder
  exact wpAny_pure (h [] s.drawn (.refl _))
 | n+1,[],s,Q,hn,h=>by simp at hn
 | n+1,x :: xs,s,Q,hn,h=>by
  unfold drawOrder
  refine wpAny_bind (WT (by simp) fun i hi=> ?_)
  have e:(x :: xs)[i]? =some (x :: xs)[i]:=List.getElem?_eq_getElem hi
  rw [e]
  dsimp only
  refine wpAny_bind (WU n _ _ _ (by rw [List.length_eraseIdx_of_lt hi]; simpa using hn) fun ys d hp=> ?_)
  exact wpAny_pure (h _ d ((hp.cons _).trans (ZD _ _ _ e)))
theorem WV {α:Type} (f:Nat->Nat):∀ (n k:Nat) (l:List α) (out:Array α),l.length=n->(pickOrder.go f n k l out).toList.Perm (out.toList++l)
 | 0,k,l,out,h=>by
  have:l=[]:=List.length_eq_zero_iff.mp h
  subst this
  unfold pickOrder.go
  simp
 | n+1,k,l,out,h=>by
  unfold pickOrder.go
  have hi:f k % l.length < l.length:=Nat.mod_lt _ (by omega)
  have e:l[f k % l.length]? =some l[f k % l.length]:=List.getElem?_eq_getElem hi
  rw [e]
  dsimp only
  refine (WV f n (k+1) _ _ (by rw [List.length_eraseIdx_of_lt hi]; omega)).trans ?_
  rw [Array.toList_push,List.append_assoc]
  exact (List.perm_append_left_iff _).mpr (ZD _ _ _ e)
theorem j0 {α:Type} (f:Nat->Nat) (xs:Array α):(pickOrder f xs).toList.Perm xs.toList:=by
 unfold pickOrder
 simpa using WV f xs.size 0 xs.toList #[] (by simp)
abbrev siO (first:Value) (i:Nat) (S:Value) (n ep:Nat):Obj:={ cls:= .type "set_iterator",dict:=none,data:= .fields #[first, .int i 0,S, .int n 0, .int ep 0],slots:= #[] }
section
variable {prog:Program} {w:World} {A:Around} {E:Value->Shared->Prop} {s:Shared} {I S:Addr} {i ep j:Nat} {o:Obj} {es:Array (Int×Value)} {t:SetTable}
theorem JR {first Sv:Value} {n:Nat} {Q:Value->Shared->Prop} (hi:s.heap.get? I=some (siO first i Sv n ep)) (h:Q (.ref I) s):wpAny (model prog w) A (pyIter (.ref I)) Q E s:=by
 have hT:s.TypeIs (.ref I) "set_iterator":=⟨_,hi,rfl⟩
 refine wpAny_pyIter_slot hT ZO (wpAny_call_entry ZO hT jQ ?_ (Jo _))
 show wpAny _ _ (ret (.ref I)) _ _ s
 exact wpAny_pure ⟨_,rfl,"set_iterator",_,hT,zS.lookup,h⟩
theorem WW {Q:Option Value->Shared->Prop} {h:Heap} (hh:A.handled=none) (hQ:∀ h',(∀ b o,h.get? b=some o->h'.get? b=some o)->Q none { s with heap:=h' }):
  wpAny (model prog w) A.in1 (newExc (.type "StopIteration") [] >>= fun e=>(raiseNew e:Sem PySem.Fin)) (fun fin s' =>∃ v,fin= .done (.ret v)/\Q (some v) s')
   (fun e s' =>wpAny (model prog w) A (isInstance e (.type "StopIteration")) (fun b s'' =>b=true/\Q none s'') E s') { s with heap:=h }:=by
 refine wpAny_bind ?_
 simp only [newExc,newTuple]
 refine wpAny_bind (wpAny_newObj_type ?_ (by size_fits))
 refine wpAny_bind (m:=firstArgMember _ _) (wpAny_of_eq (a:=Value.none) (by first | rfl | (simp only [firstArgMember]; rfl)) ?_)
 refine wpAny_newObj_type ?_ (by size_fits)
 simp only [raiseNew]
 refine wpAny_bind (wpAny_handled ?_)
 rw [show A.in1.handled=none from hh]
 refine wpAny_bind (wpAny_pure (wpAny_throw ?_))
 refine wpAny_isInstance (T:="StopIteration") (b:=true) ⟨_,Heap.get?_push_size _ rfl,rfl⟩ isSubtype_stop ⟨rfl,hQ _ fun b o e=> ?_⟩
 exact Heap.get?_push_of_some _ (Heap.get?_push_of_some _ e)
theorem WX {Q:Option Value->Shared->Prop} {first Sv:Value} {n:Nat} (hi:s.heap.get? I=some (siO first i Sv n ep))
  (h:wpAny (model prog w) A.in1 (Builtin.«set_iterator.__next__» ⟨[.ref I],[]⟩) (fun fin s' =>∃ v,fin= .done (.ret v)/\Q (some v) s')
   (fun e s' =>wpAny (model prog w) A (isInstance e (.type "StopIteration")) (fun b s'' =>b=true/\Q none s'') E s') s):wpAny (model prog w) A (pyNext (.ref I)) Q E s:=by
 have hT:s.TypeIs (.ref I) "set_iterator":=⟨_,hi,rfl⟩
 unfold pyNext
 refine wpAny_bind (wpAny_attempt (wpAny_callSpecial?_slot (name:=Str.ofString "__next__") hT zS (wpAny_call_entry zS hT jP (wpAny_mono h (fun fin s' x=> ?_) fun e s' x=> ?_) (Jn _))))
 ·obtain ⟨v,e,q⟩:=x
  exact ⟨v,e,wpAny_pure q⟩
 ·refine wpAny_bind (wpAny_mono x (fun b s'' y=> ?_) fun _ _ z=>z)
  obtain ⟨rfl,q⟩:=y
  exact wpAny_pure q
theorem wn {Q:Option Value->Shared->Prop} {sl:Nat} (hh:A.handled=none) (hi:s.heap.get? I=some (siO (.int sl 0) i (.ref S) es.size ep)) (ho:s.heap.get? S=some o) (hd:o.data= .set es ep t) (hf:t.fits es.size=true)
  (h:wpAny (model prog w) A.in1 (setNext S sl i ep) (fun r s' =>s' =s/\match r with
   | some (x,nx)=>∀ h',h'.get? I=some (siO (.int nx 0) (i+1) (.ref S) es.size ep)->Heap.SameBut I s.heap h' ->Q (some x) { s with heap:=h' }
   | none=>∀ h',(∀ b o,b ≠ I->s.heap.get? b=some o->h'.get? b=some o)->Q none { s with heap:=h' }) (fun _ _=>False) s):wpAny (model prog w) A (pyNext (.ref I)) Q E s:=by
 refine WX hi ?_
 unfold Builtin.«set_iterator.__next__»
 refine wpAny_bind (m:=slotArgs _ _ _) (wpAny_of_eq (a:=(Value.ref I,[])) rfl ?_)
 dsimp only
 refine wpAny_bind (wpAny_fieldsOf hi rfl ?_)
 dsimp only
 refine wpAny_bind (m:=setEntries S) (wpAny_bind (wpAny_setState_of ho hd hf (wpAny_pure ?_)))
 dsimp only
 rw [if_neg (by simp)]
 simp only [Int.toNat_natCast]
 refine wpAny_bind (wpAny_mono h (fun r s' x=> ?_) fun _ _ x=>False.elim x)
 obtain ⟨rfl,x⟩:=x
 cases r with
 | some p=>
  obtain ⟨x0,nx⟩:=p
  dsimp only at x ⊢
  refine wpAny_bind (wpAny_setField_rec hi (by simp) fun h1 g1 b1=>wpAny_bind (wpAny_setField_rec g1 (by simp) fun h2 g2 b2=>wpAny_pure ⟨_,rfl,x h2 ?_ (b1.trans b2)⟩))
  simpa [rawInt,siO] using g2
 | none=>
  dsimp only at x ⊢
  refine wpAny_bind (wpAny_setField_rec hi (by simp) fun h1 g1 b1=>WW hh fun h2 k2=>x h2 fun b o hb e=>k2 b o ((b1.2 b hb).trans e))
theorem Up {Q:Option Value->Shared->Prop} {P:Addr} {pl:List Nat} {on:Nat} {od:Option Addr} {osl:Array (Option Value)} (hh:A.handled=none) (hi:s.heap.get? I=some (siO (.ref P) i (.ref S) es.size ep)) (ho:s.heap.get? S=some o) (hd:o.data= .set es ep t) (hf:t.fits es.size=true)
  (hp:s.heap.get? P=some { cls:= .type "tuple",dict:=od,data:= .seq (pl.map fun (k:Nat)=>rawInt k).toArray on,slots:=osl })
  (h:match pl[i]? with
   | some k=>∃ e,es[k]? =some e/\∀ h',h'.get? I=some (siO (.ref P) (i+1) (.ref S) es.size ep)->Heap.SameBut I s.heap h' ->Q (some e.2) { s with heap:=h' }
   | none=>∀ h',(∀ b o,b ≠ I->s.heap.get? b=some o->h'.get? b=some o)->Q none { s with heap:=h' }):wpAny (model prog w) A (pyNext (.ref I)) Q E s:=by
 refine WX hi ?_
 unfold Builtin.«set_iterator.__next__»
 refine wpAny_bind (m:=slotArgs _ _ _) (wpAny_of_eq (a:=(Value.ref I,[])) rfl ?_)
 dsimp only
 refine wpAny_bind (wpAny_fieldsOf hi rfl ?_)
 dsimp only
 refine wpAny_bind (m:=setEntries S) (wpAny_bind (wpAny_setState_of ho hd hf (wpAny_pure ?_)))
 dsimp only
 rw [if_neg (by simp)]
 refine wpAny_bind (wpAny_seqItems hp rfl ?_)
 dsimp only
 have e0:(pl.map fun (k:Nat)=>rawInt k).toArray[(i:Int).toNat]? =(pl[i]?).map fun (k:Nat)=>rawInt k:=by simp
 rw [e0]
 cases hk:pl[i]? with
 | some k=>
  rw [hk] at h
  obtain ⟨e,he,x⟩:=h
  simp only [Option.map_some,rawInt]
  refine wpAny_bind (m:=setNextDrawn S _ _) (wpAny_bind (wpAny_setState_of ho hd hf ?_))
  simp only [Int.toNat_natCast,bne_self_eq_false,Bool.false_eq_true,if_false,he]
  refine wpAny_pure (wpAny_bind (wpAny_setField_rec hi (by simp) fun h1 g1 b1=>wpAny_pure ⟨_,rfl,x h1 ?_ b1⟩))
  simpa [rawInt,siO] using g1
 | none=>
  rw [hk] at h
  simp only [Option.map_none]
  refine wpAny_bind (wpAny_setField_rec hi (by simp) fun h1 g1 b1=>wpAny_bind (wpAny_setField_rec g1 (by simp) fun h2 g2 b2=>WW hh fun h3 k3=>h h3 fun b o hb e=>k3 b o ((b2.2 b hb).trans ((b1.2 b hb).trans e))))
end
structure WY (w:World) (h:Heap) (S:Addr) (es:Array (Int×Value)) (ep:Nat) (t:SetTable):Prop where
 at_:h.get? S=some { cls:= .type "set",dict:=none,data:= .set es ep t,slots:= #[] }
 fits:t.fits es.size=true
 led:w.params.followText "set-order"=true\/t.led=true
 plain:t.plain=false\/es.size=0
theorem WY.keep {w:World} {h h' :Heap} {S:Addr} {es:Array (Int×Value)} {ep:Nat} {t:SetTable} (x:WY w h S es ep t) (e:∀ o,h.get? S=some o->h'.get? S=some o):WY w h' S es ep t:=⟨e _ x.at_,x.fits,x.led,x.plain⟩
theorem Jp (j k:Nat):SetTable.below #[j] k=if j < k then 1 else 0:=by
 show SetTable.below.go #[j] k 1 0 1=_
 unfold SetTable.below.go
 simp only [Nat.lt_add_one,Nat.zero_lt_one,if_true]
 have e:(#[j]:Array Nat).getD ((0+1) / 2) k=j:=rfl
 rw [e]
 split <;> rfl
section
variable {prog:Program} {w:World} {A:Around} {E:Value->Shared->Prop} {s:Shared} {I S P:Addr} {i ep j:Nat} {es:Array (Int×Value)} {t:SetTable}
theorem zW {M:Model} {Q:Bool->Shared->Prop} (h:Q (M.w.params.followText "set-order") s):wpAny M A setsByText Q E s:=by
 unfold setsByText
 exact wpAny_bind (wpAny_askSetting (wpAny_pure h))
theorem wN (hh:A.handled=none) (ht:w.params.followText "set-order"=true) (hne:S ≠ I):
  Walks prog w A I [I,S] [I] es.size (fun i v=>∃ e,(pickOrder (w.params.setOrder S ep) es)[i]? =some e/\v=e.2) (fun i h=>h.get? I=some (siO (.int 0 0) i (.ref S) es.size ep)/\WY w h S es ep t) where
 sub:=fun b hb=>by simp at hb; simp [hb]
 frame:=fun _ _ _ st hk=>⟨hk I (by simp) _ st.1,st.2.keep fun o e=>hk S (by simp) o e⟩
 item:=fun i s Q E hi st hQ=>by
  have hz:i < (pickOrder (w.params.setOrder S ep) es).size:=by rw [← Array.length_toList,(j0 _ es).length_eq,Array.length_toList]; exact hi
  have he:(pickOrder (w.params.setOrder S ep) es)[i]? =some (pickOrder (w.params.setOrder S ep) es)[i]:=Array.getElem?_eq_getElem hz
  refine wn (sl:=0) hh st.1 st.2.at_ rfl st.2.fits ?_
  unfold setNext
  refine wpAny_bind (wpAny_setState_of st.2.at_ rfl st.2.fits (wpAny_bind (zW ?_)))
  have e0:(model prog w).w.params.followText "set-order"=true:=ht
  simp only [e0,if_true,bne_self_eq_false,Bool.false_eq_true,if_false]
  refine wpAny_bind (m:=setWalk S) ?_
  unfold setWalk
  refine wpAny_bind (wpAny_setState_of st.2.at_ rfl st.2.fits (wpAny_bind (zW ?_)))
  simp only [e0,if_true]
  refine wpAny_bind (wpAny_askSetting (wpAny_pure (wpAny_pure ⟨rfl, ?_⟩)))
  have e1:∀ f:Int×Value->Value×Nat,Option.map f (pickOrder ((model prog w).w.params.setOrder S ep) es)[i]? =some (f (pickOrder (w.params.setOrder S ep) es)[i]):=fun f=>congrArg (Option.map f) he
  rw [e1]
  intro h' g b
  exact hQ _ h' s.toks ⟨_,he,rfl⟩ ⟨g,st.2.keep fun o e=>(b.2 S hne).trans e⟩ fun b' o hb e=>(b.2 b' (fun z=>hb (by simp [z]))).trans e
 done:=fun s Q E st hQ=>by
  have he:(pickOrder (w.params.setOrder S ep) es)[es.size]? =none:=Array.getElem?_eq_none (by rw [← Array.length_toList,(j0 _ es).length_eq,Array.length_toList]; exact Nat.le_refl _)
  refine wn (sl:=0) hh st.1 st.2.at_ rfl st.2.fits ?_
  unfold setNext
  refine wpAny_bind (wpAny_setState_of st.2.at_ rfl st.2.fits (wpAny_bind (zW ?_)))
  have e0:(model prog w).w.params.followText "set-order"=true:=ht
  simp only [e0,if_true,bne_self_eq_false,Bool.false_eq_true,if_false]
  refine wpAny_bind (m:=setWalk S) ?_
  unfold setWalk
  refine wpAny_bind (wpAny_setState_of st.2.at_ rfl st.2.fits (wpAny_bind (zW ?_)))
  simp only [e0,if_true]
  refine wpAny_bind (wpAny_askSetting (wpAny_pure (wpAny_pure ⟨rfl, ?_⟩)))
  have e1:∀ f:Int×Value->Value×Nat,Option.map f (pickOrder ((model prog w).w.params.setOrder S ep) es)[es.size]? =none:=fun f=>congrArg (Option.map f) he
  rw [e1]
  intro h' k
  exact hQ h' s.toks fun b o hb e=>k b o (fun z=>hb (by simp [z])) e
 self:=fun _ _ _ _ st hQ=>JR st.1 hQ
theorem WZ (hh:A.handled=none) (ht:w.params.followText "set-order"=false) (hz:es.size<=1) (hne:S ≠ I):
  Walks prog w A I [I,S] [I] es.size (fun i v=>∃ e,es[i]? =some e/\v=e.2) (fun i h=>h.get? I=some (siO (.int (if i=0 then 0 else t.place.getD 0 0+1:Nat) 0) i (.ref S) es.size ep)/\WY w h S es ep t) where
 sub:=fun b hb=>by simp at hb; simp [hb]
 frame:=fun _ _ _ st hk=>⟨hk I (by simp) _ st.1,st.2.keep fun o e=>hk S (by simp) o e⟩
 item:=fun i s Q E hi st hQ=>by
  obtain rfl:i=0:=by omega
  have h1:es.size=1:=by omega
  have he:es[0]? =some es[0]:=Array.getElem?_eq_getElem hi
  have hp:t.place.size=1:=by have:=st.2.fits; simp only [SetTable.fits,Bool.and_eq_true,beq_iff_eq] at this; omega
  obtain ⟨j,hj⟩:∃ j,t.place= #[j]:=⟨t.place[0],by
   apply Array.ext
   ·simp [hp]
   ·intro i h1 h2; simp at h2; subst h2; rfl⟩
  have hl:t.led=true:=st.2.led.resolve_left (by rw [ht]; simp)
  refine wn (sl:=0) hh st.1 st.2.at_ rfl st.2.fits ?_
  unfold setNext
  refine wpAny_bind (wpAny_setState_of st.2.at_ rfl st.2.fits (wpAny_bind (zW ?_)))
  have e0:(model prog w).w.params.followText "set-order"=false:=ht
  simp only [e0,Bool.false_eq_true,if_false]
  refine wpAny_ite_split (fun h=>absurd h ?_) (fun _=> ?_)
  ·show ¬ ((!t.plain && decide (es.size > 1))=true)
   simp [show ¬ (es.size > 1) by omega]
  refine wpAny_bind (wpAny_of_eq (a:=()) ?_ (wpAny_pure ⟨rfl, ?_⟩))
  ·show (if (!t.led && !es.isEmpty)=true then unsupported "set:maker-not-led" else pure ())=pure ()
   rw [hl]; rfl
  have e1:SetTable.below t.place 0=0:=by rw [hj,Jp]; rfl
  have e2:t.place[0]? =some j:=by rw [hj]; rfl
  rw [e1,he,e2]
  intro h' g b
  have e3:t.place.getD 0 0=j:=by rw [hj]; rfl
  refine hQ _ h' s.toks ⟨_,he,rfl⟩ ⟨?_,st.2.keep fun o e=>(b.2 S hne).trans e⟩ fun b' o hb e=>(b.2 b' (fun z=>hb (by simp [z]))).trans e
  rw [e3]; exact g
 done:=fun s Q E st hQ=>by
  refine wn hh st.1 st.2.at_ rfl st.2.fits ?_
  unfold setNext
  refine wpAny_bind (wpAny_setState_of st.2.at_ rfl st.2.fits (wpAny_bind (zW ?_)))
  have e0:(model prog w).w.params.followText "set-order"=false:=ht
  have hl:t.led=true:=st.2.led.resolve_left (by rw [ht]; simp)
  simp only [e0,Bool.false_eq_true,if_false]
  refine wpAny_ite_split (fun h=>absurd h ?_) (fun _=> ?_)
  ·show ¬ ((!t.plain && decide (es.size > 1))=true)
   simp [show ¬ (es.size > 1) by omega]
  refine wpAny_bind (wpAny_of_eq (a:=()) ?_ (wpAny_pure ⟨rfl, ?_⟩))
  ·show (if (!t.led && !es.isEmpty)=true then unsupported "set:maker-not-led" else pure ())=pure ()
   rw [hl]; rfl
  have hp:t.place.size=es.size:=by have:=st.2.fits; simp only [SetTable.fits,Bool.and_eq_true,beq_iff_eq] at this; exact this.1
  have e1:es[SetTable.below t.place (if es.size=0 then 0 else t.place.getD 0 0+1)]? =none:=by
   rcases Nat.eq_zero_or_pos es.size with h0 | h0
   ·exact Array.getElem?_eq_none (by omega)
   ·have h1:t.place.size=1:=by omega
    obtain ⟨j,hj⟩:∃ j,t.place= #[j]:=⟨t.place[0],by
     apply Array.ext
     ·simp [h1]
     ·intro i h1 h2; simp at h2; subst h2; rfl⟩
    have e3:t.place.getD 0 0=j:=by rw [hj]; rfl
    rw [if_neg (by omega),e3,hj,Jp,if_pos (by omega)]
    exact Array.getElem?_eq_none (by omega)
  rw [e1]
  intro h' k
  exact hQ h' s.toks fun b o hb e=>k b o (fun z=>hb (by simp [z])) e
 self:=fun _ _ _ _ st hQ=>JR st.1 hQ
theorem JS (hh:A.handled=none) (pl:List Nat) (hpl:pl.Perm (List.range es.size)) (hne:S ≠ I) (hP:P ≠ I):
  Walks prog w A I [I,S,P] [I] es.size (fun i v=>∃ k e,pl[i]? =some k/\es[k]? =some e/\v=e.2) (fun i h=>h.get? I=some (siO (.ref P) i (.ref S) es.size ep)/\WY w h S es ep t/\h.get? P=some { cls:= .type "tuple",dict:=none,data:= .seq (pl.map fun (k:Nat)=>rawInt k).toArray 0,slots:= #[] }) where
 sub:=fun b hb=>by simp at hb; simp [hb]
 frame:=fun _ _ _ st hk=>⟨hk I (by simp) _ st.1,st.2.1.keep fun o e=>hk S (by simp) o e,hk P (by simp) _ st.2.2⟩
 item:=fun i s Q E hi st hQ=>by
  have hl:pl.length=es.size:=by rw [hpl.length_eq,List.length_range]
  have hi' :i < pl.length:=by omega
  have e1:pl[i]? =some pl[i]:=List.getElem?_eq_getElem hi'
  have hk:pl[i] < es.size:=List.mem_range.mp (hpl.mem_iff.mp (List.getElem_mem hi'))
  have e2:es[pl[i]]? =some es[pl[i]]:=Array.getElem?_eq_getElem hk
  refine Up hh st.1 st.2.1.at_ rfl st.2.1.fits st.2.2 ?_
  rw [e1]
  refine ⟨_,e2,fun h' g b=> ?_⟩
  exact hQ _ h' s.toks ⟨_,_,e1,e2,rfl⟩ ⟨g,st.2.1.keep fun o e=>(b.2 S hne).trans e,(b.2 P hP).trans st.2.2⟩ fun b' o hb e=>(b.2 b' (fun z=>hb (by simp [z]))).trans e
 done:=fun s Q E st hQ=>by
  have hl:pl.length=es.size:=by rw [hpl.length_eq,List.length_range]
  refine Up hh st.1 st.2.1.at_ rfl st.2.1.fits st.2.2 ?_
  rw [show pl[es.size]? =none from List.getElem?_eq_none (by omega)]
  intro h' k
  exact hQ h' s.toks fun b o hb e=>k b o (fun z=>hb (by simp [z])) e
 self:=fun _ _ _ _ st hQ=>JR st.1 hQ
end
section
variable {prog:Program} {w:World} {A:Around} {E:Value->Shared->Prop} {s:Shared} {S:Addr} {ep:Nat} {es:Array (Int×Value)} {t:SetTable}
def qV (es:Array (Int×Value)) (P:Nat->Value->Prop):Prop:=∃ ord:List (Int×Value),ord.Perm es.toList/\∀ i v,P i v->∃ e,ord[i]? =some e/\v=e.2
theorem yG {Q:Value->Shared->Prop} (hh:A.handled=none) (hS:WY w s.heap S es ep t) (hb:es.size<=100)
  (h:∀ (I:Addr) (fp:List Addr) (P:Nat->Value->Prop) (St:Nat->Heap->Prop) (h' :Heap) (d:Drawn),Walks prog w A I fp [I] es.size P St->St 0 h' ->qV es P->s.heap.objs.size<=I->(∀ b∈fp,b=S\/s.heap.objs.size<=b)->
   (∀ b o,s.heap.get? b=some o->h'.get? b=some o)->Q (.ref I) { s with heap:=h',drawn:=d }):wpAny (model prog w) A (pyIter (.ref S)) Q E s:=by
 have hT:s.TypeIs (.ref S) "set":=⟨_,hS.at_,rfl⟩
 have hlt:S < s.heap.objs.size:=Heap.lt_size hS.at_
 refine wpAny_pyIter_slot hT F.slot_set_iter (wpAny_call_entry F.slot_set_iter hT jh ?_ (F.args_set_iter_1 _))
 unfold Builtin.«frozenset.__iter__»
 refine wpAny_bind (m:=Builtin.Frozenset.slot0 _ _) (wpAny_of_eq (a:=S) rfl ?_)
 refine wpAny_bind (m:=Builtin.Frozenset.sizeOf S) (wpAny_bind (m:=setEntries S) (wpAny_bind (wpAny_setState_of hS.at_ rfl hS.fits (wpAny_pure (wpAny_pure ?_)))))
 refine wpAny_bind (m:=setDrawn S) ?_
 unfold setDrawn
 refine wpAny_bind (wpAny_setState_of hS.at_ rfl hS.fits (wpAny_bind (zW (wpAny_pure ?_))))
 refine wpAny_ite_split (fun hd=> ?_) (fun hd=> ?_)
 ·have hd:(!w.params.followText "set-order" && (!t.plain && decide (es.size > 1)))=true:=hd
  refine wpAny_bind (WU es.size _ _ _ (by simp) fun pl d hp=>wpAny_bind (wpAny_newTuple ?_ (by rw [List.length_map,hp.length_eq,List.length_range,sizeLine_eq]; show es.size<=16777216; omega)))
  have g1:WY w (s.heap.push { cls:= .type "tuple",data:= .seq (pl.map fun (i:Nat)=>rawInt i).toArray }) S es ep t:=hS.keep fun o e=>Heap.get?_push_of_some _ e
  refine wpAny_bind (wpAny_setEpoch_of g1.at_ rfl g1.fits ?_)
  refine wpAny_bind (wpAny_newObj_type (wpAny_pure ⟨_,rfl,"set_iterator",_,⟨_,Heap.get?_push_size _ rfl,rfl⟩,zS.lookup, ?_⟩))
  refine h _ _ _ _ _ _ (JS (ep:=ep) (t:=t) hh pl hp (P:=s.heap.objs.size) ?_ ?_) ⟨Heap.get?_push_size _ rfl,g1.keep fun o e=>Heap.get?_push_of_some _ e, ?_⟩ ?_ ?_ ?_ ?_
  ·have e:(s.heap.push { cls:= .type "tuple",data:= .seq (pl.map fun (i:Nat)=>rawInt i).toArray }).objs.size=s.heap.objs.size+1:=Heap.size_push ..
   exact Nat.ne_of_lt (by rw [e]; exact Nat.lt_succ_of_lt hlt)
  ·have e:(s.heap.push { cls:= .type "tuple",data:= .seq (pl.map fun (i:Nat)=>rawInt i).toArray }).objs.size=s.heap.objs.size+1:=Heap.size_push ..
   exact Nat.ne_of_lt (by rw [e]; exact Nat.lt_succ_self _)
  ·exact Heap.get?_push_of_some _ (Heap.get?_push_size _ rfl)
  ·refine ⟨pl.map fun k=>es.getD k (0, .none), ?_,fun i v ⟨k,e,a1,a2,a3⟩=>⟨e, ?_,a3⟩⟩
   ·have e1:=hp.map fun k=>es.getD k (0,Value.none)
    refine e1.trans (.of_eq ?_)
    refine List.ext_getElem? fun i=> ?_
    rw [List.getElem?_map]
    by_cases hi:i < es.size
    ·rw [List.getElem?_range hi]
     simp [Array.getD,hi]
    ·rw [List.getElem?_eq_none (by simp; omega)]
     simp; omega
   ·rw [List.getElem?_map,a1,Option.map_some,Array.getD_eq_getD_getElem?,a2]; rfl
  ·have e:(s.heap.push { cls:= .type "tuple",data:= .seq (pl.map fun (i:Nat)=>rawInt i).toArray }).objs.size=s.heap.objs.size+1:=Heap.size_push ..
   show s.heap.objs.size<=(s.heap.push { cls:= .type "tuple",data:= .seq (pl.map fun (i:Nat)=>rawInt i).toArray }).objs.size
   rw [e]; exact Nat.le_succ _
  ·intro b hb
   have e:(s.heap.push { cls:= .type "tuple",data:= .seq (pl.map fun (i:Nat)=>rawInt i).toArray }).objs.size=s.heap.objs.size+1:=Heap.size_push ..
   rcases List.mem_cons.mp hb with z | hb
   ·right; rw [z]
    show s.heap.objs.size<=(s.heap.push { cls:= .type "tuple",data:= .seq (pl.map fun (i:Nat)=>rawInt i).toArray }).objs.size
    rw [e]; exact Nat.le_succ _
   ·rcases List.mem_cons.mp hb with z | hb
    ·exact .inl z
    ·right; rw [List.mem_singleton.mp hb]; exact Nat.le_refl _
  ·intro b o e
   exact Heap.get?_push_of_some _ (Heap.get?_push_of_some _ e)
 ·have hd:¬ ((!w.params.followText "set-order" && (!t.plain && decide (es.size > 1)))=true):=hd
  refine wpAny_bind (wpAny_pure (wpAny_bind (wpAny_setEpoch_of hS.at_ rfl hS.fits ?_)))
  refine wpAny_bind (wpAny_newObj_type (wpAny_pure ⟨_,rfl,"set_iterator",_,⟨_,Heap.get?_push_size _ rfl,rfl⟩,zS.lookup, ?_⟩))
  have hSp:WY w (s.heap.push (siO (.int 0 0) 0 (.ref S) es.size ep)) S es ep t:=hS.keep fun o e=>Heap.get?_push_of_some _ e
  have fin:∀ (P:Nat->Value->Prop) (St:Nat->Heap->Prop),Walks prog w A s.heap.objs.size [s.heap.objs.size,S] [s.heap.objs.size] es.size P St->St 0 (s.heap.push (siO (.int 0 0) 0 (.ref S) es.size ep))->qV es P->
    Q (.ref s.heap.objs.size) { s with heap:=s.heap.push (siO (.int 0 0) 0 (.ref S) es.size ep) }:=fun P St W st od=>
   h _ _ _ _ _ s.drawn W st od (Nat.le_refl _) (fun b hb=>by
    rcases List.mem_cons.mp hb with z | hb
    ·right; rw [z]; exact Nat.le_refl _
    ·exact .inl (List.mem_singleton.mp hb)) fun b o e=>Heap.get?_push_of_some _ e
  cases ht:w.params.followText "set-order" with
  | true=>
   refine fin _ _ (wN (t:=t) hh ht (Nat.ne_of_lt hlt)) ⟨Heap.get?_push_size _ rfl,hSp⟩ ⟨(pickOrder (w.params.setOrder S ep) es).toList,j0 _ es,fun i v ⟨e,a1,a2⟩=>⟨e,by simpa using a1,a2⟩⟩
  | false=>
   have hz:es.size<=1:=by
    rcases hS.plain with p | p
    ·rw [ht,p] at hd
     simp at hd
     exact hd
    ·omega
   exact fin _ _ (WZ (t:=t) hh ht hz (Nat.ne_of_lt hlt)) ⟨Heap.get?_push_size _ rfl,hSp⟩ ⟨es.toList, .refl _,fun i v ⟨e,a1,a2⟩=>⟨e,by simpa using a1,a2⟩⟩
theorem yH {Q:Bool->Shared->Prop} (hT:s.TypeIs (.ref S) "set") (h:Q false s):wpAny (model prog w) A (Builtin.List.listLengthHint (.ref S)) Q E s:=by
 unfold Builtin.List.listLengthHint
 refine wpAny_bind (wpAny_specialOf hT F.slot_set_len.lookup ?_)
 generalize hq:("set.__len__":String)=q
 wp_delta
 rw [show splitId q=some ("set","__len__") by subst hq; decide+kernel]
 subst hq
 refine wpAny_bind (wpAny_isInstance (T:="set") (b:=true) hT (by rw [isSubtype_type]; kernel_rfl) (wpAny_ite_split (fun z=>absurd z (by decide)) fun _=> ?_))
 refine wpAny_ite_split (fun _=>wpAny_bind (wpAny_typeOf hT (wpAny_pure h))) (fun z=>absurd (by decide+kernel) z)
theorem wO {R:List Value->Shared->Prop} (hh:A.handled=none) (hS:WY w s.heap S es ep t) (hb:es.size<=100)
  (h:∀ (h' :Heap) (tk:Nat) (d:Drawn) (vs:List Value),(∀ b o,s.heap.get? b=some o->h'.get? b=some o)->s.heap.objs.size<=h'.objs.size->vs.Perm (es.toList.map (·.2))->R vs { s with heap:=h',drawn:=d,toks:=tk }):
  wpAny (model prog w) A (collect (.ref S)) R E s:=by
 have hlt:S < s.heap.objs.size:=Heap.lt_size hS.at_
 have hnl:es.size<=sizeLine:=by rw [sizeLine_eq]; omega
 unfold collect
 refine wpAny_bind (wpAny_runValue (codeAny_builtin entry_proto_collect' ?_))
 rw [Around.under_plainId PySem.F.plain_proto_collect _]
 refine wpAny_bind (m:=newList []) (wpAny_newObj_type (wpAny_pure ⟨plainId_quiet PySem.F.plain_list_iadd _,codeAny_builtin entry_list_iadd' ?_⟩))
 rw [Around.under_plainId PySem.F.plain_list_iadd _]
 generalize hG:s.heap.push { cls:= .type "list",data:= .seq ([]:List Value).toArray }=G
 have gL:G.get? s.heap.objs.size=some { cls:= .type "list",data:= .seq #[] }:=by rw [← hG]; exact Heap.get?_push_size _ rfl
 have gk:∀ b o,s.heap.get? b=some o->G.get? b=some o:=fun b o e=>by rw [← hG]; exact Heap.get?_push_of_some _ e
 have gz:G.objs.size=s.heap.objs.size+1:=by rw [← hG]; exact Heap.size_push ..
 have gS:=hS.keep (h' :=G) (gk S)
 have hT:Shared.TypeIs { s with heap:=G } (.ref S) "set":=⟨_,gS.at_,rfl⟩
 have hne:s.heap.objs.size ≠ S:=Nat.ne_of_gt hlt
 show wpAny _ A.in1 (Builtin.List.listExtendWith (.ref s.heap.objs.size) (.ref S) (.ref s.heap.objs.size)) _ _ _
 unfold Builtin.List.listExtendWith
 refine wpAny_bind (wpAny_typeOf hT ?_)
 have c1:Builtin.List.listSameRef (.ref s.heap.objs.size) (.ref S)=false:=by simp [Builtin.List.listSameRef,hne]
 have c2:(Value.type "set" == Value.type "list")=false:=by decide
 have c3:(Value.type "set" == Value.type "tuple")=false:=by decide
 simp only [c1,c2,c3,Bool.or_false,Bool.false_eq_true,if_false]
 refine wpAny_bind (yG (A:=A.in1) (s:={ s with heap:=G }) hh gS hb fun I fp P St h1 d W st od hI hfp k1=> ?_)
 refine wpAny_bind (wpAny_holding (yH ⟨_,k1 S _ gS.at_,rfl⟩ ?_))
 have hLf:s.heap.objs.size ∉ fp:=fun z=>by
  rcases hfp _ z with z | z
  ·exact hne z
  ·rw [gz] at z; exact absurd z (Nat.not_succ_le_self _)
 have loop:∀ (h2:Heap) (c tk:Nat),St 0 h2->(∀ b o,b ≠ s.heap.objs.size->h1.get? b=some o->h2.get? b=some o)->h2.get? s.heap.objs.size=some { cls:= .type "list",data:= .seq #[] c }->
   codeAny (model prog w) A (.builtin "list.extend.loop" ⟨[.ref s.heap.objs.size, .ref I, .ref s.heap.objs.size],[]⟩)
    (fun q s' =>∃ vs:List Value,vs.Perm (es.toList.map (·.2))/\∃ (h' :Heap) (tk:Nat) (c' :Nat),q= .ok (.ret (.ref s.heap.objs.size))/\s' ={ s with heap:=h',drawn:=d,toks:=tk }/\(∀ b o,s.heap.get? b=some o->h'.get? b=some o)/\
     h'.get? s.heap.objs.size=some { cls:= .type "list",dict:=none,data:= .seq vs.toArray c',slots:= #[] }) { s with heap:=h2,drawn:=d,toks:=tk }:=by
  intro h2 c tk st2 k2 g2
  refine codeAny_extend_loopS W.toS hnl s.heap.objs.size hLf _ es.size 0 _ #[] c rfl (Nat.zero_le _) st2 g2 (ItemsOf.nil _) fun s' acc c' hm g3 ha=> ?_
  obtain ⟨ord,hp,ho⟩:=od
  have ea:acc.toList=ord.map (·.2):=by
   refine List.ext_getElem? fun i=> ?_
   rw [List.getElem?_map]
   by_cases hi:i < acc.size
   ·obtain ⟨e,e1,e2⟩:=ho i acc[i] (ha.2 i acc[i] (Array.getElem?_eq_getElem hi))
    rw [e1]; simp [hi,e2]
   ·have l2:ord.length=acc.size:=by rw [hp.length_eq,Array.length_toList,ha.1]
    rw [List.getElem?_eq_none (by simpa using hi),List.getElem?_eq_none (by omega)]; rfl
  refine ⟨acc.toList,by rw [ea]; exact hp.map _,s'.heap,s'.toks,c',rfl, ?_,fun b o e=> ?_,by simpa using g3⟩
  ·rw [Moved.eq_with hm]
  ·have hbs:b ≠ s.heap.objs.size:=Nat.ne_of_lt (Heap.lt_size e)
   refine hm.heap b o (fun z=> ?_) (k2 b o hbs (k1 b o (gk b o e)))
   rcases List.mem_cons.mp z with z | z
   ·exact hbs z
   ·have zz:s.heap.objs.size+1<=b:=by rw [List.mem_singleton.mp z,← gz]; exact hI
    exact absurd (Heap.lt_size e) (Nat.not_lt.mpr (Nat.le_of_succ_le zz))
 have done:∀ (q:Result) (s' :Shared),(∃ vs:List Value,vs.Perm (es.toList.map (·.2))/\∃ (h' :Heap) (tk:Nat) (c' :Nat),q= .ok (.ret (.ref s.heap.objs.size))/\s' ={ s with heap:=h',drawn:=d,toks:=tk }/\(∀ b o,s.heap.get? b=some o->h'.get? b=some o)/\
     h'.get? s.heap.objs.size=some { cls:= .type "list",dict:=none,data:= .seq vs.toArray c',slots:= #[] })->q= .ok (.ret (.ref s.heap.objs.size))/\wpAny (model prog w) A (do
   let o ← load s.heap.objs.size
   match o.data with
   | .seq xs _=>pure xs.toList
   | _=>unsupported "internal:collect") R E s' :=by
  rintro q s' ⟨vs,hp,h',tk,c',rfl,rfl,k,g⟩
  refine ⟨rfl,wpAny_bind (wpAny_load g (wpAny_pure ?_))⟩
  exact h h' tk d vs k (Nat.le_of_lt (Heap.lt_size g)) hp
 have gL1:=k1 _ _ gL
 refine wpAny_ite_split (fun _=> ?_) (fun _=> ?_)
 ·refine wpAny_bind (wpAny_rule (wpAny_bind ?_))
  show wpAny _ _ (updateSeq s.heap.objs.size (·.push .none) >>= fun _=>updateSeq s.heap.objs.size (·.pop)) _ _ _
  have gL2:=Heap.get?_update_self (Obj.mapSeq (·.push Value.none)) gL1 rfl
  refine wpAny_bind (wpAny_updateSeq gL1 rfl (wpAny_updateSeq (hz:=by seq_fits) gL2 rfl ?_))
  have gL3:=Heap.get?_update_self (Obj.mapSeq (·.pop)) gL2 rfl
  refine wpAny_pure ⟨plainId_quiet PySem.F.plain_extend_loop _,codeAny_mono (loop _ _ _ (W.frame 0 _ _ st fun b hb o e=> ?_) (fun b o hb e=> ?_) gL3) fun q s' x=> ?_⟩
  ·have hbs:b ≠ s.heap.objs.size:=fun z=>hLf (z ▸ hb)
   exact (Heap.get?_update_other _ _ (Ne.symm hbs)).trans ((Heap.get?_update_other _ _ (Ne.symm hbs)).trans e)
  ·exact (Heap.get?_update_other _ _ (Ne.symm hb)).trans ((Heap.get?_update_other _ _ (Ne.symm hb)).trans e)
  ·obtain ⟨rfl,y⟩:=done q s' x
   exact y
 ·refine wpAny_pure ⟨plainId_quiet PySem.F.plain_extend_loop _,codeAny_mono (loop _ _ _ st (fun b o _ e=>e) gL1) fun q s' x=> ?_⟩
  obtain ⟨rfl,y⟩:=done q s' x
  exact y
end
def wZ (prog:Program) (w:World) (h:Heap) (S:Addr) (acc:List Str):Prop:=∃ es ep t ps,WY w h S es ep t/\ElemsOf (strKind prog w) es.toList/\StrsAre (es.toList.map (·.2)) ps/\ps.Perm acc
theorem wZ.keep {prog:Program} {w:World} {h h' :Heap} {S:Addr} {acc:List Str} (x:wZ prog w h S acc) (e:∀ o,h.get? S=some o->h'.get? S=some o):wZ prog w h' S acc:=
 let ⟨es,ep,t,ps,a,r⟩:=x; ⟨es,ep,t,ps,a.keep e,r⟩
theorem Jq:∀ {vs us:List Value},vs.Perm us->∀ {ps:List Str},StrsAre us ps->∃ qs,StrsAre vs qs/\qs.Perm ps:=by
 intro vs us hp ps h
 refine ⟨vs.map strOf,strsAre_map vs fun v hv=>h.all v (hp.mem_iff.mp hv), ?_⟩
 have:=hp.map strOf
 rw [h.strs] at this
 exact this
theorem u0:∀ {vs:List Value} {ps:List Str} (x:Str) (t:Tok),StrsAre vs ps->StrsAre (vs++[.str x t]) (ps++[x]):=by
 intro vs ps x t h
 induction h with
 | nil=>exact .cons x t .nil
 | cons y u _ ih=>exact .cons y u ih
theorem jR:∀ {vs:List Value} {ps:List Str},StrsAre vs ps->vs.length=ps.length:=by
 intro vs ps h
 induction h with
 | nil=>rfl
 | cons y u _ ih=>simp [ih]
theorem uY:∀ {vs:List Value} {ps:List Str} {x:Str},StrsAre vs ps->(x∈ps↔∃ t,Value.str x t∈vs):=by
 intro vs ps x h
 induction h with
 | nil=>simp
 | cons y u _ ih=>
  rw [List.mem_cons,ih]
  constructor
  ·rintro (rfl | ⟨t,e⟩)
   ·exact ⟨u,by simp⟩
   ·exact ⟨t,by simp [e]⟩
  ·rintro ⟨t,e⟩
   rcases List.mem_cons.mp e with e | e
   ·cases e; exact .inl rfl
   ·exact .inr ⟨t,e⟩
section
variable {prog:Program} {w:World} {A:Around} {E:Value->Shared->Prop} {s:Shared} {S:Addr}
theorem uZ {acc:List Str} {x:Str} {tk:Tok} {Q:Bool->Shared->Prop} (hS:wZ prog w s.heap S acc) (hb:acc.length+1 < scanBound)
  (h:∀ b h',Heap.SameBut S s.heap h' ->wZ prog w h' S (if x∈acc then acc else acc++[x])->Q b { s with heap:=h' }):
  wpAny (model prog w) A (setAddHashed S (.str x tk) ((strKind prog w).hash x)) Q E s:=by
 obtain ⟨es,ep,t,ps,hw,el,hs,hp⟩:=hS
 have hz:es.size=acc.length:=by
  have h1:=jR hs
  rw [List.length_map,Array.length_toList] at h1
  rw [h1,hp.length_eq]
 have isk:(strKind prog w).is x (.str x tk)=true:=strKind_is _ _ _ _
 have key:x∈acc↔∃ e∈es.toList,(strKind prog w).is x e.2=true:=by
  rw [← hp.mem_iff,uY hs]
  constructor
  ·rintro ⟨t',e⟩
   obtain ⟨e,he,e2⟩:=List.mem_map.mp e
   exact ⟨e,he,by rw [e2]; exact strKind_is _ _ _ _⟩
  ·rintro ⟨e,he,e2⟩
   obtain ⟨t',e3⟩:=Value.isStrOf_shape (x:=x) (v:=e.2) e2
   exact ⟨t',List.mem_map.mpr ⟨e,he,e3⟩⟩
 refine yF (knd:=strKind prog w) isk rfl rfl hw.at_ rfl hw.fits el (by omega) (fun hm=> ?_) fun hm es' ep' t' h' p' f' l' pl' g' sb=> ?_
 ·have:=h false s.heap (Heap.SameBut.refl _ _) (by rw [if_pos (key.mpr hm)]; exact ⟨es,ep,t,ps,hw,el,hs,hp⟩)
  exact this
 ·have hx:x ∉ acc:=fun z=>by
   obtain ⟨e,he,e2⟩:=key.mp z
   rw [hm e he] at e2; cases e2
  refine h true h' sb ?_
  rw [if_neg hx]
  have hs2:StrsAre ((es.toList++[((strKind prog w).hash x,Value.str x tk)]).map (·.2)) (ps++[x]):=by
   rw [List.map_append]; exact u0 x tk hs
  obtain ⟨qs,h1,h2⟩:=Jq (p'.map (·.2)) hs2
  exact ⟨es',ep',t',qs,⟨g',f',hw.led.imp id fun z=>l'.trans z, .inl pl'⟩,(el.push isk rfl).perm p',h1,h2.trans (hp.append_right [x])⟩
end
section
variable {prog:Program} {w:World} {A:Around} {R:Result->Shared->Prop} {I:Addr} {fp wr:List Addr} {n:Nat} {P:Nat->Value->Prop} {St:Nat->Heap->Prop}
theorem u1 (W:Walks prog w A.in1 I fp wr n P St) (S:Addr) (hSf:S ∉ fp) (val:Nat->Str) (hval:∀ i v,P i v->∃ t,v=Value.str (val i) t) (hb:n+1 < scanBound):
  ∀ (k i:Nat) (acc:List Str) (s:Shared),n - i=k->i<=n->acc.length<=i->St i s.heap->wZ prog w s.heap S acc->
   (∀ h' tk,(∀ b o,b ∉ S :: wr->s.heap.get? b=some o->h'.get? b=some o)->wZ prog w h' S (dd acc ((List.range' i k).map val))->
    R (.ok (.ret .none)) { s with heap:=h',toks:=tk })->codeAny (model prog w) A (.builtin "set.update.loop" ⟨[.ref S, .ref I],[]⟩) R s:=by
 intro k
 induction k with
 | zero=>
  intro i acc s hk hi hal hst hS hR
  obtain rfl:i=n:=by omega
  refine codeAny_builtin F.entry_set_update_loop ?_
  rw [Around.under_plainId F.plain_set_update_loop _]
  refine wpAny_bind (m:=pyNext (.ref I)) (W.done s _ _ hst fun h' tk hk' =>wpAny_pure ?_)
  exact hR h' tk (fun b o hb e=>hk' b o (fun z=>hb (List.mem_cons_of_mem _ z)) e) (hS.keep (fun o e=>hk' S o (fun z=>hSf (W.sub _ z)) e))
 | succ k ih=>
  intro i acc s hk hi hal hst hS hR
  refine codeAny_builtin F.entry_set_update_loop ?_
  rw [Around.under_plainId F.plain_set_update_loop _]
  refine wpAny_bind (m:=pyNext (.ref I)) (W.item i s _ _ (by omega) hst fun v h1 tk1 hP hst1 hk1=> ?_)
  obtain ⟨t,rfl⟩:=hval i v hP
  have hS1:=hS.keep (fun o e=>hk1 S o (fun z=>hSf (W.sub _ z)) e)
  refine wpAny_bind (m:=holding [Value.str (val i) t] (setAdd S (.str (val i) t))) (wpAny_holding ?_)
  unfold setAdd
  have isk:(strKind prog w).is (val i) (.str (val i) t)=true:=strKind_is _ _ _ _
  refine wpAny_holding (wpAny_bind ((strKind prog w).pyHash isk ?_))
  refine uZ (s:={ s with heap:=h1,toks:=tk1+1 }) hS1 (by omega) fun b h2 hsb hS2=> ?_
  refine wpAny_pure ⟨plainId_quiet F.plain_set_update_loop _,ih (i+1) _ _ (by omega) (by omega) ?_ (W.frame _ h1 _ hst1 fun b hb o e=> ?_) hS2 fun h3 tk3 hk3 hS4=> ?_⟩
  ·split
   ·omega
   ·rw [List.length_append,List.length_singleton]; omega
  ·exact (hsb.2 b (fun z:b=S=>hSf (z ▸ hb))).trans e
  ·rw [List.range'_succ,List.map_cons] at hR
   refine hR h3 tk3 (fun b o hb e=>hk3 b o hb ?_) hS4
   exact (hsb.2 b (fun z:b=S=>hb (z ▸ List.mem_cons_self))).trans (hk1 b o (fun z=>hb (List.mem_cons_of_mem _ z)) e)
end
theorem jS {prog:Program} {w:World} {A:Around} {E:Value->Shared->Prop} {s:Shared} (a:Value) {Q:Value->Shared->Prop}
  (h:Q (.ref s.heap.objs.size) { s with heap:=s.heap.push { cls:= .type "set",dict:=none,data:= .set #[] 0 (.fresh 0 0 (!w.params.followText "set-order")) } }):
  codeAny (model prog w) A (.call (.builtin "set.__new__") ⟨[.type "set",a],[]⟩) (wants Q E) s:=by
 refine codeAny_of_tree ?_
 refine wpAny_bind (m:=checkBuiltinCall "set.__new__" ⟨[.type "set",a],[]⟩) (wpAny_of_eq (F.newCall_set_1 a) (wpAny_pure ⟨plainId_quiet F.plain_set_new _,codeAny_builtin F.entry_set_new ?_⟩))
 rw [Around.under_plainId F.plain_set_new _]
 unfold Builtin.«set.__new__» Builtin.Frozenset.newClass
 have hq:=sub_set_self
 obtain ⟨hp,g,d,tk,os⟩:=s
 dsimp only
 wp_walk
 refine wpAny_askSetting (wpAny_pure ?_)
 dsimp only
 simp only [newObj]
 exact wpAny_bind (wpAny_alloc (wpAny_pure (wpAny_pure h)))
section
variable {prog:Program} {w:World} {A:Around} {E:Value->Shared->Prop} {s:Shared}
set_option maxRecDepth 100000 in
set_option maxHeartbeats 3200000 in
theorem wP {l:Addr} {its:List Value} {ys:List Str} {Q:Value->Shared->Prop} (hh:A.handled=none) (hl:s.heap.IsList l its.toArray) (hi:StrsAre its ys) (hb:its.length+1 < scanBound)
  (h:∀ (h' :Heap) (tk:Nat),wZ prog w h' s.heap.objs.size (dd [] ys)->(∀ b o,b < s.heap.objs.size->s.heap.get? b=some o->h'.get? b=some o)->
   Q (.ref s.heap.objs.size) { s with heap:=h',toks:=tk }):wpAny (model prog w) A (call (.type "set") [.ref l]) Q E s:=by
 have getv:∀ {its:List Value} {ys:List Str},StrsAre its ys->its.length=ys.length/\∀ (i:Nat) (v:Value),its[i]? =some v->∃ t,v=Value.str (ys.getD i ⟨#[]⟩) t:=fun {its ys} hi=>by
  induction hi with
  | nil=>exact ⟨rfl,fun i v e=>by simp at e⟩
  | cons y t _ ih=>
   refine ⟨by simp [ih.1],fun i v e=> ?_⟩
   cases i with
   | zero=>exact ⟨t,by simpa using e.symm⟩
   | succ i=>exact ih.2 i v (by simpa using e)
 obtain ⟨hlen,hget⟩:=getv hi
 have hys:(List.range' 0 its.length).map (fun i=>ys.getD i ⟨#[]⟩)=ys:=by
  rw [hlen]
  refine List.ext_getElem? fun i=> ?_
  rw [List.getElem?_map]
  by_cases hi' :i < ys.length
  ·rw [List.getElem?_range' hi',List.getElem?_eq_getElem hi']
   simp [List.getElem?_eq_getElem hi']
  ·rw [List.getElem?_eq_none (by simp; omega),List.getElem?_eq_none (by omega)]
   rfl
 obtain ⟨c,tl,hmro⟩:=F.called_set.mro
 have hmade:=F.called_set.made
 have hsub:=F.called_set.sub
 have h1:=F.called_set.notType
 have h2:=F.called_set.canCreate
 have hct:=F.typeCall_set_1 (.ref l)
 refine wpAny_call (codeAny_of_tree (show wpAny _ _ (callAny (.type "set") _) _ _ _ from ?_))
 refine wpAny_pure ⟨Code.quiet_builtin _ (by decide+kernel),codeAny_builtin F.entry_type_call ?_⟩
 rw [Around.under_plain (weight_type_call_type "set" [.ref l] []) rfl]
 repeat any_goals (first | assumption | wp_step)
 refine codeAny_mono (jS (.ref l) (E:=E) (Q:=fun obj s₁=>∃ led:Bool,led= !w.params.followText "set-order"/\obj= .ref s.heap.objs.size/\s₁={ s with heap:=s.heap.push { cls:= .type "set",dict:=none,data:= .set #[] 0 (.fresh 0 0 led) } }) ⟨_,rfl,rfl,rfl⟩) fun r s₁ hr=> ?_
 cases r with
 | error e=>exact hr
 | ok fl=>
  cases fl with
  | ret obj=>
   obtain ⟨led,hled,rfl,rfl⟩:=hr
   generalize hG:s.heap.push { cls:= .type "set",dict:=none,data:= .set #[] 0 (.fresh 0 0 led) }=G
   have hS:G.get? s.heap.objs.size=some { cls:= .type "set",dict:=none,data:= .set #[] 0 (.fresh 0 0 led) }:=by rw [← hG]; exact Heap.get?_push_size _ rfl
   have hGs:G.objs.size=s.heap.objs.size+1:=by rw [← hG,Heap.size_push]
   have hGk:∀ b o,s.heap.get? b=some o->G.get? b=some o:=fun b o e=>by rw [← hG]; exact Heap.get?_push_of_some _ e
   have hT:Shared.TypeIs { s with heap:=G } (.ref s.heap.objs.size) "set":=⟨_,hS,rfl⟩
   have hli:=F.called_set.init.lookup
   have hbi:=F.called_set.init.bind (.ref s.heap.objs.size)
   repeat any_goals (first | assumption | wp_step)
   refine codeAny_mono (codeAny_call_builtin (R:=wants (fun r s₂=>r= .none/\∃ h' tk,s₂={ s with heap:=h',toks:=tk }/\wZ prog w h' s.heap.objs.size (dd [] ys)/\
     (∀ b o,b < s.heap.objs.size->s.heap.get? b=some o->h'.get? b=some o)) E) F.called_set.init.plain F.entry_set_init (check_set_init_1 hT ?_)) fun r₂ s₂ hr₂=> ?_
   ·obtain ⟨⟨ocls,odict,odata,oslots⟩,hol,hcl,nl,hdl⟩:=hl
    simp only at hcl hdl
    subst hcl; subst hdl
    have hol' :=hGk _ _ hol
    have hsls:=F.sub_list_set
    have hslf:=F.sub_list_frozenset
    have hne:(Value.type "list" == Value.type "dict")=false:=by decide
    have hl1:G.IsList l its.toArray:=⟨_,hol',rfl,nl,rfl⟩
    have hlS:l < s.heap.objs.size:=Heap.lt_size hol
    unfold Builtin.«set.__init__» noKeywords Builtin.Frozenset.updateFrom
    generalize hPI:pyIter=PI
    wp_walk
    subst hPI
    refine wpAny_pyIter_list hl1 (wpAny_bind (wpAny_runValue ?_))
    have hSf:s.heap.objs.size ∉ [G.objs.size,l]:=by
     rw [hGs]
     intro z
     rcases List.mem_cons.mp z with z | z
     ·exact absurd z (Nat.ne_of_lt (Nat.lt_succ_self _))
     ·exact absurd (List.mem_singleton.mp z) (Nat.ne_of_gt hlS)
    refine u1 (Walks.list (A:=A.in1.in1.in1) (by simp [hh]) G.objs.size l (by rw [hGs]; exact Nat.ne_of_lt (Nat.lt_succ_of_lt hlS)) its.toArray) s.heap.objs.size hSf (fun i=>ys.getD i ⟨#[]⟩) (fun i v e=>hget i v (by simpa using e)) (by simpa using hb) its.length 0 [] _ (by simp) (Nat.zero_le _) (Nat.le_refl _)
     ⟨⟨_,Heap.get?_push_size _ rfl,rfl,rfl⟩,hl1.push _⟩ ?_ ?_
    ·have hget' :(G.push { cls:= .type "list_iterator",data:= .fields #[.ref l, .int 0 0] }).get? s.heap.objs.size=some { cls:= .type "set",dict:=none,data:= .set #[] 0 (.fresh 0 0 led) }:=Heap.get?_push_of_some _ hS
     exact ⟨#[],0,_,[],⟨hget',rfl,by cases hw:w.params.followText "set-order" with | true=>exact .inl rfl | false=>exact .inr (by rw [hled,hw]; rfl), .inr rfl⟩,(fun e he=>by simp at he), .nil, .refl _⟩
    ·intro h' tk' hm hS'
     rw [hys] at hS'
     refine wpAny_pure (show wpAny _ _ (ret Value.none) _ _ _ from wpAny_pure ⟨rfl,h',tk',rfl,hS',fun b o hb e=> ?_⟩)
     refine hm b o (fun z=> ?_) (Heap.get?_push_of_some _ (hGk b o e))
     rcases List.mem_cons.mp z with z | z
     ·exact absurd z (Nat.ne_of_lt hb)
     ·have z' :b=G.objs.size:=List.mem_singleton.mp z
      rw [hGs] at z'
      exact absurd z' (Nat.ne_of_lt (Nat.lt_succ_of_lt hb))
   ·cases r₂ with
    | error e=>exact hr₂
    | ok fl₂=>
     cases fl₂ with
     | ret r=>
      obtain ⟨rfl,h',tk,rfl,hS',hk'⟩:=hr₂
      repeat any_goals (first | assumption | wp_step)
      exact h _ _ hS' hk'
     | _=>exact hr₂.elim
  | _=>exact hr.elim
end
theorem Uq:∀ (ys acc:List Str),(dd acc ys).length<=acc.length+ys.length
 | [],acc=>Nat.le_refl _
 | y :: r,acc=>by
  unfold dd
  refine Nat.le_trans (Uq r _) ?_
  split
  ·simp only [List.length_cons]; omega
  ·simp only [List.length_cons,List.length_append,List.length_nil]; omega
theorem JT (a:Str):ltS a a=false:=by unfold ltS; simp
theorem Ur {a b c:Str} (h:ltS a b=true) (k:ltS b c=true):ltS a c=true:=by
 unfold ltS at*
 simp only [decide_eq_true_eq] at*
 exact List.lt_trans h k
theorem u2 {a b:Str} (h:ltS a b=false) (k:ltS b a=false):a=b:=by
 unfold ltS at*
 simp only [decide_eq_false_iff_not] at*
 have e:=List.le_antisymm (List.not_lt.mp k) (List.not_lt.mp h)
 obtain ⟨⟨x⟩⟩:=a
 obtain ⟨⟨y⟩⟩:=b
 simp at e
 rw [e]
theorem j1 (x:Str):∀ ys:List Str,(yD x ys).Perm (x :: ys)
 | []=> .refl _
 | y :: ys=>by
  unfold yD
  split
  ·exact ((j1 x ys).cons y).trans (.swap x y ys)
  ·exact .refl _
theorem j2:∀ xs:List Str,(wY xs).Perm xs
 | []=> .refl _
 | x :: xs=>(j1 x (wY xs)).trans ((j2 xs).cons x)
def nlt (a b:Str):Prop:=ltS b a=false
theorem Us {a b c:Str} (h:nlt a b) (k:nlt b c):nlt a c:=by
 unfold nlt at*
 cases e:ltS c a with
 | false=>rfl
 | true=>
  cases e2:ltS a b with
  | true=>rw [Ur e e2] at k; cases k
  | false=>rw [u2 e2 h] at e; rw [e] at k; cases k
theorem j3 (x:Str):∀ ys:List Str,ys.Pairwise nlt->(yD x ys).Pairwise nlt
 | [],_=>by unfold yD; simp
 | y :: ys,h=>by
  unfold yD
  rw [List.pairwise_cons] at h
  split
  ·rename_i hx
   refine List.pairwise_cons.mpr ⟨fun z hz=> ?_,j3 x ys h.2⟩
   rcases List.mem_cons.mp ((j1 x ys).mem_iff.mp hz) with rfl | hz
   ·show ltS z y=false
    cases e:ltS z y with
    | false=>rfl
    | true=>have:=Ur hx e; rw [JT] at this; cases this
   ·exact h.1 z hz
  ·rename_i hx
   have hx:nlt x y:=by show ltS y x=false; simpa using hx
   refine List.pairwise_cons.mpr ⟨fun z hz=> ?_,List.pairwise_cons.mpr h⟩
   rcases List.mem_cons.mp hz with rfl | hz
   ·exact hx
   ·exact Us hx (h.1 z hz)
theorem j4:∀ xs:List Str,(wY xs).Pairwise nlt
 | []=> .nil
 | x :: xs=>j3 x _ (j4 xs)
theorem jt:∀ (xs ys:List Str),xs.Perm ys->xs.Pairwise nlt->ys.Pairwise nlt->xs=ys
 | [],ys,p,_,_=>(List.nil_perm.mp p).symm
 | x :: xs,[],p,_,_=>by cases List.perm_nil.mp p
 | x :: xs,y :: ys,p,h1,h2=>by
  rw [List.pairwise_cons] at h1 h2
  have e:x=y:=by
   have a1:nlt x y:=by
    rcases List.mem_cons.mp (p.mem_iff.mpr (List.mem_cons_self (a:=y) (l:=ys))) with z | z
    ·rw [z]; exact JT x
    ·exact h1.1 y z
   have a2:nlt y x:=by
    rcases List.mem_cons.mp (p.mem_iff.mp (List.mem_cons_self (a:=x) (l:=xs))) with z | z
    ·rw [z]; exact JT y
    ·exact h2.1 x z
   exact u2 a2 a1
  subst e
  rw [jt xs ys (List.Perm.cons_inv p) h1.2 h2.2]
theorem j5:∀ (l:List Str) (p:Str),risingS p l=true->(p :: l).Pairwise nlt
 | [],p,_=>by simp
 | x :: r,p,h=>by
  have h:(!ltCps x.cps.toList p.cps.toList && risingS x r)=true:=h
  rw [Bool.and_eq_true] at h
  have h2:=j5 r x h.2
  have h1:nlt p x:=by
   have:=h.1
   rw [ltCps_eq] at this
   show decide (x.cps.toList < p.cps.toList)=false
   simpa using this
  refine List.pairwise_cons.mpr ⟨fun z hz=> ?_,h2⟩
  rcases List.mem_cons.mp hz with rfl | hz
  ·exact h1
  ·exact Us h1 ((List.pairwise_cons.mp h2).1 z hz)
theorem JU:∀ (l:List Str),sortedS l=true->l.Pairwise nlt
 | [],_=> .nil
 | x :: r,h=>j5 r x h
theorem u3:∀ {its:List Value} {ns:List Str},StrsAre its ns->zE (ns.map V.str) its:=by
 intro its ns h
 induction h with
 | nil=>exact .nil
 | cons n t _ ih=>exact .cons ⟨_,rfl⟩ ih
theorem U0:∀ {ts:List T} {ys:List Str},WC ts=some ys->ys.length=ts.length:=by
 intro ts
 induction ts with
 | nil=>intro ys h; cases h; rfl
 | cons t ts ih=>
  intro ys h
  cases t with
  | str x=>
   unfold WC at h
   split at h
   ·rename_i l e
    cases h
    simp [ih e]
   ·cases h
  | _=>cases h
theorem Jr {H:Hp}:∀ ns:List Str,zo H (ns.map V.str) (ns.map T.str)
 | []=> .nil
 | n :: ns=> .cons (.str n) (Jr ns)
section
variable {prog:Program} {w:World} {A:Around} {E:Value->Shared->Prop} {s:Shared} {S:Addr}
theorem wQ {acc:List Str} {Q:Value->Shared->Prop} (hh:A.handled=none) (hS:wZ prog w s.heap S acc) (hb:acc.length < 64)
  (h:∀ (h' :Heap) (tk:Nat) (d:Drawn) (r:Addr) (vs:List Value) (n:Nat),(∀ b o,s.heap.get? b=some o->h'.get? b=some o)->s.heap.objs.size<=r->StrsAre vs (wY acc)->h'.get? r=some (seqObj "list" vs.toArray n)->Q (.ref r) { s with heap:=h',drawn:=d,toks:=tk }):
  wpAny (model prog w) A (call (.builtin "sorted") [.ref S]) Q E s:=by
 obtain ⟨es,ep,t,ps,hw,el,hs,hp⟩:=hS
 have hz:es.size=acc.length:=by
  have h1:=jR hs
  rw [List.length_map,Array.length_toList] at h1
  rw [h1,hp.length_eq]
 refine Calls.call_function_entry kind_sorted plain_sorted entry_sorted (args_sorted1 _) ?_
 unfold Builtin.«sorted»
 refine wpAny_bind (m:=checkCount "sorted" 1 1 _) (wpAny_pure ?_)
 refine wpAny_bind (wO (A:=A.in1) hh hw (by omega) fun h1 tk d vs k1 z1 pv=> ?_)
 obtain ⟨qs,q1,q2⟩:=Jq pv hs
 have hl:vs.length=acc.length:=by rw [jR q1,q2.length_eq,hp.length_eq]
 refine wpAny_bind (wpAny_newList ?_ (by rw [hl,sizeLine_eq]; show acc.length<=16777216; omega))
 have g1:(h1.push { cls:= .type "list",data:= .seq vs.toArray }).get? h1.objs.size=some (seqObj "list" vs.toArray 0):=Heap.get?_push_size _ rfl
 refine wpAny_bind (wpAny_holding (wpAny_call_entry slot_list_sort ⟨_,g1,rfl⟩ entry_list_sort (list_sort_treeK strKind_oneLt g1 q1.keysOf (fun v₁ v₂ rest e=>keyKind_strs (by rw [← e]; exact q1)) (by omega) fun st' a1 a2=>⟨_,rfl, ?_⟩) (args_list_sort _)))
 obtain ⟨ss',b1,b2,b3⟩:=sorted_out_str q1 a1 a2
 have e:ss' =wY acc:=jt _ _ (b2.trans (q2.trans (hp.trans (j2 acc).symm))) (JU _ b3) (j4 acc)
 rw [e] at b1
 obtain ⟨n,g2⟩:=sortedHeap_at (out:=(arrOf st').map (·.2)) g1
 refine wpAny_pure ⟨_,rfl,h _ tk d h1.objs.size ((arrOf st').map (·.2)).toList n (fun b o e=> ?_) ?_ b1 ?_⟩
 ·have e1:=k1 b o e
  have lt1:=Heap.lt_size e1
  exact (sortedHeap_old (Nat.ne_of_lt lt1) (by rw [size_push']; exact Nat.lt_succ_of_lt lt1)).trans (Heap.get?_push_of_some _ e1)
 ·exact z1
 ·rw [Array.toArray_toList]; exact g2
end
section
variable {X:Cx} {Y:Fx} {a b:Expr} {fa fb:En->R T} {pos pos' p p' :Pos}
theorem u4 (hh:X.A.handled=none):Z1 X (.type "set") (fun vs H Q=>∃ l xs ts ys,vs=[.ref l]/\H l=some (.lst xs)/\zo H xs ts/\WC ts=some ys/\ts.length < 64/\
  ∀ q,H q=none->Q (.ref q) (upd H q (.ext fun h=>wZ X.prog X.w h q (dd [] ys)))):=by
 intro pins s σ H vs us Q I rv h
 obtain ⟨l,xs,ts,ys,rfl,hl,r,ey,hb,q⟩:=h
 obtain ⟨u,rfl,ru⟩:=Zo rv
 obtain rfl:u=Value.ref l:=ru
 obtain ⟨its,rv,pl,hln,_⟩:=zv I (.inl hl) r
 refine wP hh pl (jL r rv ey) (by unfold scanBound; omega) fun h' tk hS hk=> ?_
 refine ⟨.ref s.heap.objs.size,_,I.laid (t' :=tk) (fun b u e=>hk b u (Heap.lt_size e) e) (Nat.le_refl _) ?_,rfl,q _ (I.hok.fresh (Nat.le_refl _))⟩
 obtain ⟨es,ep,t,ps,hw,_⟩:=id hS
 exact ⟨hS,⟨_,hw.at_⟩,fun h1 h2 x e=>x.keep e⟩
theorem wR (hh:X.A.handled=none):Z1 X (.builtin "sorted") (fun vs H Q=>∃ q φ acc,vs=[.ref q]/\H q=some (.ext φ)/\(∀ h:Heap,φ h->wZ X.prog X.w h q acc)/\acc.length < 64/\∀ r,H r=none->Q (.ref r) (upd H r (.lst ((wY acc).map V.str)))):=by
 intro pins s σ H vs us Q I rv h
 obtain ⟨l,φ,acc,rfl,hl,hφ,hn,q⟩:=h
 obtain ⟨u,rfl,ru⟩:=Zo rv
 obtain rfl:u=Value.ref l:=ru
 obtain ⟨h1,_,_⟩:=(show zF X.prog X.w H s.heap l (.ext φ) from I.hok l _ hl)
 refine wQ hh (hφ _ h1) hn fun h' tk d r vs n k z1 hv g=> ?_
 have I2:Inv X pins σ H { s with drawn:=d }:=⟨I.ok,I.os,I.bare,I.base,I.loc,I.cell,I.free,I.freeC,I.pin,I.hok,I.len⟩
 refine ⟨.ref r,upd H r (.lst ((wY acc).map V.str)),Inv.laid (s:={ s with drawn:=d }) (t' :=tk) I2 k z1 ?_,rfl,q _ (I.hok.fresh z1)⟩
 have hl2:(wY acc).length=acc.length:=(j2 acc).length_eq
 exact ⟨by rw [List.length_map,sizeLine_eq]; show (wY acc).length<=16777216; omega,vs,n,u3 hv,g⟩
theorem qW (hh:X.A.handled=none) (gl:Gl X "sorted") (mg:X.mg "sorted"=none) (gl' :Gl X "set") (mg' :X.mg "set"=none) (ha:Zn X Y a fa) (hs:St1 X a:=by exact st1 rfl) (hs' :St1 X (.Call (.Name "set" p') [a] [] pos'):=by exact st1 rfl):
  Snd X Y (.Call (.Name "sorted" p) [.Call (.Name "set" p') [a] [] pos'] [] pos) (ap1 qU fa):= .mk fun ρ=>
 PE.imp (zU (wR hh) gl mg PyProof.Rows.Boot.«sorted» (zg (ZX (u4 hh) gl' mg' PyProof.Rows.Boot.«set» (zg (ha ρ) zu hs) (by decide) (by decide) hs rfl) zu hs') (by decide) (by decide) hs' rfl) fun σ H Q ⟨B,I,q⟩=>
  step I q fun t v H1 _ s1 r1 I1 q1=>by
   cases r1 with
   | @lst l xs ts h r=>
    have q1:Po Y rC _ H1 (match WC ts with | some ys=>if ts.length < 64 then .ok (.lst ((wY (dd [] ys)).map T.str)) else .bad | none=> .bad) Q:=q1
    split at q1
    ·rename_i ys e
     split at q1
     ·rename_i hl
      have hn:(dd [] ys).length < 64:=by
       have h1:=Uq ys []
       have h2:=U0 e
       simp only [List.length_nil] at h1
       omega
      refine ⟨l,xs,ts,ys,rfl,h,r,e,hl,fun z hz=>⟨z,_,_,rfl,zh,fun h hh=>hh,hn,fun r hr=> ?_⟩⟩
      have hrz:r ≠ z:=fun e=>by rw [e,zh] at hr; cases hr
      have hr1:H1 r=none:=by rw [zf hrz] at hr; exact hr
      exact q1 _ _ (fun b o hb=>by
       have n1:b ≠ z:=fun e=>by rw [e,hz] at hb; cases hb
       have n2:b ≠ r:=fun e=>by rw [e,hr1] at hb; cases hb
       rw [zf n2,zf n1]; exact hb) (.lst (by rw [zA hr1,zh]) (Jr _))
     ·exact q1.elim
    ·exact q1.elim
   | _=>exact q1.elim
end
section
variable {X:Cx} {Y:Fx} {a b:Expr} {fa fb:En->R T} {pos:Pos}
end
section
variable {X:Cx} {Y:Fx} {a b:Expr} {fa fb:En->R T} {pos:Pos}
end
section
variable {prog:Program} {w:World} {A:Around} {E:Value->Shared->Prop} {s:Shared}
end
section
variable {prog:Program} {w:World} {A:Around} {E:Value->Shared->Prop} {s:Shared}
end
section
variable {prog:Program} {w:World} {A:Around} {R:Result->Shared->Prop} {I:Addr} {fp wr:List Addr} {n:Nat} {P:Nat->Value->Prop} {St:Nat->Heap->Prop}
end
section
variable {prog:Program} {w:World} {A:Around} {E:Value->Shared->Prop} {s:Shared}
end
section
variable {X:Cx} {Y:Fx} {a b:Expr} {fa fb:En->R T} {pos pos' p p' :Pos}
end
section
variable {X:Cx} {Y:Fx} {a:Expr} {fa:En->R T} {pos pos' p p' :Pos}
end
section
variable {X:Cx} {Y:Fx} {a b:Expr} {fa fb:En->R T} {pos:Pos}
end
section
variable {X:Cx} {Y:Fx} {a:Expr} {fa:En->R T} {pos p2 p3 p4:Pos} {kc:Nat}
end
end PV
namespace PySem.RV
open PySem PySem.Spec PyProof.Rows PySem.Builtin.SmallTypes
section
variable {prog:Program} {w:World} {A:Around} {E:Value->Shared->Prop} {s:Shared} {I l:Addr} {xs:Array Value}
end
end PySem.RV
namespace PV
open PySem PySem.Spec PyProof.Rows L2
section
variable {X:Cx} {Y:Fx} {a:Expr} {fa:En->R T} {pos p p' pos' :Pos}
end
section
variable {X:Cx} {Y:Fx} {a b c:Expr} {fa fb fc:En->R T} {pos p:Pos}
section
variable {pa:Pos}
end
end
section
variable {X:Cx} {Y:Fx} {a b c:Expr} {fa fb fc:En->R T} {pos p p1 p2 p3:Pos} {kc:Nat}
end
section
variable {X:Cx} {Y:Fx} {a:Expr} {fa:En->R T} {pos p pt:Pos} {elts:List Expr} {kk:Nat}
end
end PV
namespace PV
open PySem PySem.W PyProof.Rows
section
variable {α β:Type}
end
section
variable {O:KeyOrd} {n:Nat} {key:Nat->O.α}
variable (hk:∀ i j,i < n->j < n->key i=key j->i=j)
include hk
omit hk in
omit hk in
omit hk in
omit hk in
end
end PV
namespace PV
open PySem PySem.Spec PyProof.Rows L2
section
variable {P:Program} {w:World} {H:Hp} {h:Heap}
end
section
variable {X:Cx} {Y:Fx} {a:Expr} {fa:En->R T} {p pos:Pos}
end
section
open PySem.W PySem.Calls
variable {O:KeyOrd} {n:Nat} {key:Nat->O.α}
end
section
variable {prog:Program} {w:World} {A:Around} {E:Value->Shared->Prop} {s:Shared}
open PySem.W PySem.Calls
end
section
variable {X:Cx} {Y:Fx} {a:Expr} {fa:En->R T} {p pos:Pos}
end
end PV
namespace PV
open PySem PySem.Spec PyProof.Rows L2
section
variable {X:Cx} {Y:Fx} {a b:Expr} {fa:En->R T} {pos p p1 p2 p3 lp sp' :Pos}
end
section
variable {prog:Program} {w:World} {A:Around} {E:Value->Shared->Prop} {s:Shared}
open HT in
open HT in
end
section
variable {X:Cx} {Y:Fx} {a:Expr} {fa:En->R T} {pos p2 p3 p4:Pos} {kc:Nat}
end
end PV
namespace PV
open PySem PySem.Spec PyProof.Rows L2
end PV
namespace L2
open PySem PySem.Spec PyProof.Rows PySem.W
structure Lm (X:Cx) (c P:Addr) (q:Str):Prop where
 code:X.env.code= .ref c
 hd:codeHdIn X.K c P=true
 bt:X.base.BuiltinsAt X.mg P
 ql:X.env.qual++"<lambda>"=q
def ji (H:Hp) (q:Str) (c:Addr):Prop:=∃ oc vs t,H c=some (.frz oc (.own c))/\oc.data= .fields vs/\vs[1]? =some (.str q t)
theorem ji.mono {H H' :Hp} {q:Str} {c:Addr} (s:zi H H') (h:ji H q c):ji H' q c:=let ⟨oc,vs,t,e,r⟩:=h; ⟨oc,vs,t,s _ _ e,r⟩
theorem ji.rec {P:Program} {w:World} {H:Hp} {q:Str} {c:Addr} {h:Heap} (x:ji H q c) (ok:HOk P w H h):h.CodeRec (.ref c) q:=by
 obtain ⟨oc,vs,t,e,d,v⟩:=x
 exact ⟨c,oc,vs,t,rfl,(ok c _ e).1,d,v⟩
theorem ju {p p' :Pos} {c cv:Value}:∀ (l:List Value),TriplesOk l->codeAmong p (l++[rawInt p'.line,rawInt p'.col,c])=some cv->codeAmong p l=some cv\/cv=c
 | [],_,h=>by
  right
  simp only [List.nil_append,rawInt,codeAmong] at h
  split at h
  ·exact (Option.some.inj h).symm
  ·cases h
 | .int a t :: .int b u :: x :: r,ok,h=>by
  simp only [List.cons_append,codeAmong] at h ⊢
  split at h
  ·rename_i z; rw [if_pos z]; exact .inl h
  ·rename_i z
   rw [if_neg z]
   exact ju r (by simpa only [TriplesOk] using ok) h
abbrev wS (q:Str) (params:Arguments) (body:Expr) (scope:Scope) (clos:List (Str×Addr)) (pm ctv:Value) (c:Addr):Obj:=kla_obj "<lambda>" q params body scope clos pm c ctv
theorem qX {X:Cx} {c P:Addr} {q:Str} {params:Arguments} {body:Expr} {scope:Scope} {pos:Pos} {clos:List (Str×Addr)} (L:Lm X c P q) (hdef:defaultsOf params X.env=([],[])) (hcl:closureFor scope X.env=pure clos):
  PE X (.Lambda params body scope pos) (fun σ H Q=>H P=some (.tbl #[] q)/\∀ f c' pm ctv H',zi H H' ->H' f=some (.frz (wS q params body scope clos pm ctv c') (.own f))->ji H' q c' ->Q (.ref f) H'):=by
 intro pins s σ H Q I ⟨hP,h⟩
 obtain ⟨more,eP,tr,al⟩:=I.hok P _ hP
 have C:CodeHd s.heap c P:=codeHd_of_K I.kIn L.hd
 have hg:s.heap.Ns mainGlobals X.mg:=I.ok.mod.glob.keeps I.bk
 have hB:s.heap.BuiltinsAt X.mg P:=by
  obtain ⟨bm,o,b1,b2,b3,b4,b5,b6⟩:=L.bt
  exact ⟨bm,o,b1,b2,b3,b4,I.bk _ _ b5,b6⟩
 have hgP:mainGlobals ≠ P:=fun z=>by
  obtain ⟨o,es,ep,e,hd,_⟩:=hg
  rw [z,eP] at e; cases e; cases hd
 have fobj:∀ {H2:Hp} {f:Addr} {o:Obj} {h2:Heap},h2.get? f=some o->zF X.prog X.w H2 h2 f (.frz o (.own f)):=fun e=>⟨e,_,e⟩
 refine kla_eval hdef ?_
 rw [L.ql]
 cases hf:codeAmong pos (#[]++more).toList with
 | some cv=>
  obtain ⟨c',oc,vs,t,rfl,e2,e3,e4⟩:=al pos cv hf
  refine kla_makeFunctionHit hcl I.ok.glob hg L.code C eP tr hf hB fun ctv h' tk hk hsz=> ?_
  have hfr:H h'.objs.size=none:=I.hok.fresh hsz
  have e5:(h'.push (wS q params body scope clos ((X.mg "__name__").getD .none) ctv c')).get? h'.objs.size=some (wS q params body scope clos ((X.mg "__name__").getD .none) ctv c'):=Heap.get?_push_size _ rfl
  refine ⟨.ref h'.objs.size,_,I.laid (a:=h'.objs.size) (o:= .frz (wS q params body scope clos ((X.mg "__name__").getD .none) ctv c') (.own h'.objs.size)) (fun b u e=>Heap.get?_push_of_some _ (hk b u e)) hsz (fobj e5),rfl, ?_⟩
  exact h _ c' _ ctv _ (PV.zi.new hfr _) zh (ji.mono (PV.zi.new hfr _) ⟨oc,vs,t,e2,e3,e4⟩)
 | none=>
  refine kla_makeFunction hcl I.ok.glob hg L.code C eP tr hf hgP hB fun c' ctv h' tk hx hge hlt hrec htb=> ?_
  obtain ⟨c₂,oc,vs,t,e2,hoc,hd,hv⟩:=hrec
  cases e2
  have hc0:H c' =none:=I.hok.fresh hge
  have hPlt:P < s.heap.objs.size:=Heap.lt_size eP
  have hcP:c' ≠ P:=fun z=>by rw [z] at hge; exact absurd hPlt (Nat.not_lt.mpr hge)
  have neP:∀ b,H b=none->b ≠ P:=fun b n z=>by rw [z,hP] at n; cases n
  have neC:∀ b o,s.heap.get? b=some o->b ≠ c' :=fun b o e=>Nat.ne_of_lt (Nat.lt_of_lt_of_le (Heap.lt_size e) hge)
  have sm:zi H (upd H c' (.frz oc (.own c'))):=PV.zi.new hc0 _
  have hl:(#[]++more++ #[rawInt pos.line,rawInt pos.col,Value.ref c']).toList=(#[]++more).toList++[rawInt pos.line,rawInt pos.col,Value.ref c']:=by simp
  have hok:HOk X.prog X.w (upd H c' (.frz oc (.own c'))) h' :=fun b u e=>by
   by_cases hb:b=c'
   ·subst hb
    rw [zh] at e; cases e
    exact fobj hoc
   ·rw [zf hb] at e
    by_cases hbP:b=P
    ·subst hbP
     rw [hP] at e; cases e
     refine ⟨more++ #[rawInt pos.line,rawInt pos.col,Value.ref c'],by rw [← Array.append_assoc]; exact htb,by rw [← Array.append_assoc,hl]; exact TriplesOk_snoc _ _ _ _ tr,fun p cv z=> ?_⟩
     rw [← Array.append_assoc,hl] at z
     rcases ju _ tr z with z | rfl
     ·obtain ⟨c2,oc2,vs2,t2,a1,a2,a3⟩:=al p cv z
      exact ⟨c2,oc2,vs2,t2,a1,sm _ _ a2,a3⟩
     ·exact ⟨c',oc,vs,t,rfl,zh,hd,hv⟩
    ·refine (I.hok b u e).stay (fun a v ha q' =>hx a v (fun z=> ?_) q') (fun _ q' =>sm _ _ q') (fun _ _ q' =>sm _ _ q') fun _ _ _ q' =>sm _ _ q'
     subst z
     rcases ha with z | z
     ·exact hbP z.symm
     ·rw [hP] at z; cases z
  have I1:Inv X pins σ (upd H c' (.frz oc (.own c'))) { s with heap:=h',toks:=s.toks }:=by
   refine I.step (g' :=s.gens) (d' :=s.drawn) (t' :=s.toks) (ch:=[]) (fun _ z=>nomatch z) (fun b o _ _ _ e n=>hx b o (neP b n) e) (fun b o _ _ _ e n=>⟨o.slots,hx b o (neP b n) e⟩) (fun b o _ e n=>by rw [zf (neC b o e)]; exact n) (fun b o _ e=> ?_) (fun _ _ e=>sm _ _ e) (fun _ _ _ e=>sm _ _ e) (fun _ _ _ e=>sm _ _ e) (fun m hm=>hm.extBut hx (neP _ I.free)) hok I.bare
   by_cases hb:b=P
   ·exact ⟨_,hb ▸ htb⟩
   ·exact ⟨o,hx b o hb e⟩
  have hfr:upd H c' (.frz oc (.own c')) h'.objs.size=none:=by rw [zf (Nat.ne_of_gt hlt)]; exact I1.hok.fresh (Nat.le_refl _) |> fun z=>by rw [zf (Nat.ne_of_gt hlt)] at z; exact z
  have e5:(h'.push (wS q params body scope clos ((X.mg "__name__").getD .none) ctv c')).get? h'.objs.size=some (wS q params body scope clos ((X.mg "__name__").getD .none) ctv c'):=Heap.get?_push_size _ rfl
  refine ⟨.ref h'.objs.size,_,I1.laid (a:=h'.objs.size) (o:= .frz (wS q params body scope clos ((X.mg "__name__").getD .none) ctv c') (.own h'.objs.size)) (fun b u e=>Heap.get?_push_of_some _ e) (Nat.le_refl _) (fobj e5),rfl, ?_⟩
  have s2:zi (upd H c' (.frz oc (.own c'))) (upd (upd H c' (.frz oc (.own c'))) h'.objs.size (.frz (wS q params body scope clos ((X.mg "__name__").getD .none) ctv c') (.own h'.objs.size))):=PV.zi.new hfr _
  exact h _ c' _ ctv _ (sm.trans s2) zh (ji.mono s2 ⟨oc,vs,t,zh,hd,hv⟩)
end L2
namespace L2
open PySem PySem.Spec PyProof.Rows PySem.W
def Ut (s:Shared) (H:Hp) (fr:List Addr):Heap:=hideAll s.heap (trk s.heap H++fr)
theorem wo {s:Shared} {H:Hp} {fr:List Addr} {b:Addr} {o:Obj} (e:s.heap.get? b=some o) (n:H b=none) (hb:b ∉ fr):(Ut s H fr).get? b=some o:=
 hideAll_get _ e fun hm=>by
  rcases List.mem_append.mp hm with z | z
  ·have q:(H b).isSome=true:=(List.mem_filter.mp z).2
   rw [n] at q; cases q
  ·exact hb z
theorem yI {s:Shared} {H:Hp} {fr:List Addr} {b:Addr} {o:Obj} (e:(Ut s H fr).get? b=some o):s.heap.get? b=some o/\H b=none:=by
 have e' :s.heap.get? b=some o:=of_hideAll _ e
 refine ⟨e', ?_⟩
 cases q:H b with
 | none=>rfl
 | some x=>
  have hm:b∈trk s.heap H++fr:=List.mem_append_left _ (List.mem_filter.mpr ⟨List.mem_range.mpr (Heap.lt_size e'),by simp [q]⟩)
  have z:(Ut s H fr).get? b=none:=hideAll_none _ hm
  rw [z] at e; cases e
theorem Mod.keeps {K:Frag} {mg:Str->Option Value} {b b' :Heap} (m:Mod K mg b) (k:∀ a o,b.get? a=some o->b'.get? a=some o):Mod K mg b' :=
 ⟨m.kin.keeps k,m.glob.keeps k,let ⟨mb,h1,h2⟩:=m.blt; ⟨mb,h1.keeps k,h2⟩,m.nolimit.keeps k⟩
section
variable {X:Cx} {pins:List (Addr×Obj)} {σ:St} {H:Hp} {s:Shared}
theorem Inv.big_of (I:Inv X pins σ H s):∀ b o,X.base.get? b=some o->(Ut s H (frs X.stack)).get? b=some o:=fun b o e=>by
 refine wo (I.bs b o e).1 (I.bs b o e).2 fun hb=> ?_
 have:=(I.stack.mem hb).1
 rw [e] at this; cases this
theorem Inv.big (I:Inv X pins σ H s):Wf X.prog X.w X.K X.mg (Ut s H (frs X.stack)) X.A X.stack s H:=
 ⟨I.ok.frames,I.ok.mod.keeps I.big_of,fun b o e=>yI e,Nat.le_of_eq (hideAll_size _ _),funFrames_hide I.stack fun env he a ha=>List.mem_append_right _ (List.mem_filterMap.mpr ⟨env,he,ha⟩),I.stkFree,I.hok,I.bare⟩
theorem yJ {CX:CXT} {k:Nat} {f:Addr} {fd:FuncData} {ps:List Str} {sp:Sp} {E:XK} {Q:VK} {us:List Value} {vs:List V} (I:Inv X pins σ H s) (F:zB X.prog X.w X.K X.mg (Ut s H (frs X.stack)) CX k f fd ps sp) (hr:Zk k X.A) (hb:Binds X.K fd ps []) (hx:zY CX X E)
  (r:zE vs us) (h:sp vs H Q E):wpAny (model X.prog X.w) X.A (call (.ref f) us) (EP X pins σ Q) X.xe s:=by
 have hl:us.length=ps.length:=by rw [← r.length]; exact F.len _ _ _ _ h
 have hb' :=hb s us I.kIn (by rw [List.append_nil]; exact hl)
 rw [List.append_nil] at hb'
 refine wpAny_call (codeAny_mono (F.run X.A X.stack s H ⟨us,[]⟩ us vs Q E hr I.big hb' r h) fun r s' hq=> ?_)
 cases r with
 | error e=>exact hx pins σ H s e s' I hq
 | ok fl=>
  cases fl with
  | ret u=>exact I.after hq
  | next=>exact False.elim hq
  | brk=>exact False.elim hq
  | cont=>exact False.elim hq
end
def cxL (P:Program) (w:World) (K:Frag) (mg:Str->Option Value) (base:Heap) (N:List Str) (q:Str) (scope:Scope) (f:Addr) (cd:Value) (clos:List (Str×Addr)) (A:Around) (outer:List Env) (s:Shared) (H:Hp) (E:XK):Cx where
 prog:=P
 w:=w
 K:=K
 mg:=mg
 base:=base
 A:=A.deeper (envX q scope s.heap.objs.size f cd clos)
 N:=N
 s₀:=s
 H₀:=H
 env:=envX q scope s.heap.objs.size f cd clos
 outer:=outer
 stack:=envX q scope s.heap.objs.size f cd clos :: outer
 ex:=[]
 calm:=true
 fn:=fun _=>false
 pn:=[]
 xe:=fun e s' =>wpAny (model P w) (A.deeper (envX q scope s.heap.objs.size f cd clos)) (leaving (envX q scope s.heap.objs.size f cd clos) e) (fun _ s'' =>CX1 P w outer H s E e s'') (fun e' s'' =>CX1 P w outer H s E e' s'') s'
section
variable {P:Program} {w:World} {K:Frag} {mg:Str->Option Value} {base:Heap} {N:List Str} {q:Str} {scope:Scope} {f:Addr} {cd:Value} {clos:List (Str×Addr)} {A:Around} {outer:List Env} {s:Shared} {H:Hp} {E:XK}
theorem jj:zY (CX1 P w) (cxL P w K mg base N q scope f cd clos A outer s H E) E:=by
 intro pins σ H1 s1 e s' I ⟨ea,cls,a0,B,H',he,L,hE⟩
 subst he
 exact wpAny_leaves_onW (base:=B) I.ok.frames rfl L.fly fun h' fl sl=>⟨ea,cls,a0,B,H',rfl,L.out I rfl rfl rfl fl sl,hE⟩
structure LSc (scope:Scope):Prop where
 kind:scope.kind= .function
 co:scope.isCoroutine=false
 gen:scope.isGenerator=false
 nocell:∀ x∈scope.names,x.2 ≠ .cell
structure u5 (base:Heap) (H:Hp) (scope:Scope) (clos:List (Str×Addr)) (N:List Str) (σ:St):Prop where
 inj:∀ x y c,clos.lookup x=some c->clos.lookup y=some c->x=y
 has:∀ x∈scope.names,x.2= .free->∃ c,clos.lookup x.1=some c
 cell:∀ x c,clos.lookup x=some c->(∃ v,base.IsCell c v)/\H c=none
 loc:∀ (i:Nat) (x:Str) (v:V),N[i]? =some x->σ[i]? =some (some v)->∃ u c,zJ v u/\clos.lookup x=some c/\base.IsCell c (some u)/\scope.names.lookup x=some .free
 len:σ.length=N.length
theorem jv {h h' :Heap} {c:Addr} {v:Option Value} (k:∀ a o,h.get? a=some o->h'.get? a=some o) (x:h.IsCell c v):h'.IsCell c v:=let ⟨o,e,d⟩:=x; ⟨o,k _ _ e,d⟩
theorem yK {σ:St} {h1:Heap} {tk:Nat} (S:LSc scope) (hd:A.handled=none) (e0:Wf P w K mg base A outer s H) (C:u5 base H scope clos N σ) (ns:h1.Ns s.heap.objs.size (fun _=>none)) (hk:∀ b o,s.heap.get? b=some o->h1.get? b=some o):
  Inv (cxL P w K mg base N q scope f cd clos A outer s H E) [] σ H { s with heap:=h1,toks:=tk }:=by
 have bk:∀ b o,base.get? b=some o->h1.get? b=some o:=fun b o e=>hk b o (e0.bs b o e).1
 have noA:∀ b:Addr,b ∉ (cxL P w K mg base N q scope f cd clos A outer s H E).ex:=fun b z=>absurd (show b∈([]:List Addr) from z) (by simp)
 refine ⟨⟨e0.mod,S.kind,rfl,rfl,Nat.le_refl _,C.inj,fun y hy=> ?_,fun y c h _=>(Bool.false_ne_true h).elim,fun _=>hd,Around.frames_deeper e0.frames, .inr ⟨rfl,rfl⟩,fun b z=>absurd z (noA b),e0.bs,e0.bsz,fun b _ _=>noA b,fun b z=>absurd z (noA b),e0.funs,e0.frf⟩,
  rfl,e0.bare,Un.kept hk,⟨_,ns,fun i y v h1 h2 h3=> ?_⟩,fun y c h=> ?_,e0.hok.fresh (Nat.le_refl _),fun y c h=>(C.cell y c h).2,fun p hp=>absurd (show p∈([]:List (Addr×Obj)) from hp) (by simp),e0.hok.kept hk,C.len⟩
 ·have hy:scope.names.lookup y=some .cell\/scope.names.lookup y=some .free:=hy
  rcases hy with hy | hy
  ·exact absurd rfl (S.nocell _ (PySem.mem_of_lookup hy))
  ·exact C.has _ (PySem.mem_of_lookup hy) rfl
 ·obtain ⟨u,c,r,e,ic,k⟩:=C.loc i y v h1 h2
  exact ⟨u,r, .inr ⟨.inr k,c,e,jv bk ic⟩⟩
 ·obtain ⟨v,ic⟩:=(C.cell y c h).1
  exact ⟨v,jv bk ic⟩
theorem yL {k:Nat} {params:Arguments} {body:Expr} {pm ctv:Value} {c' :Addr} {σ:St} {Q:VK} {te:TE} (S:LSc scope) (hr:Zk (k+1) A) (e0:Wf P w K mg base A outer s H) (C:u5 base H scope clos N σ)
  (hf:H f=some (.frz (wS q params body scope clos pm ctv c') (.own f))) (hc:ji H q c') (hp:bindArgs (kla_fn "<lambda>" q params body scope clos pm (.ref c') ctv) ⟨[],[]⟩=pure [])
  (hb:PE (cxL P w K mg base N q scope f (.ref c') clos A outer s H E) body te) (ht:te σ H Q):
  codeAny (model P w) A (.call (.ref f) ⟨[],[]⟩) (CR (CX1 P w) outer P w H s Q E) s:=by
 have lim:s.heap.NoLimit:=e0.mod.nolimit.keeps fun b o e=>(e0.bs b o e).1
 refine kla_callFunE hr.depth (e0.hok f _ hf).1 rfl S.co S.gen rfl (hc.rec e0.hok) ?_
 rw [hp]
 refine wpAny_pure (wpAny_newFunctionEnv S.nocell (fun y hy=>by simp at hy) (fun h1 hns hsb=> ?_) S.kind)
 have hk:∀ b o,s.heap.get? b=some o->h1.get? b=some o:=fun b o e=>hsb.extBut b o (Nat.ne_of_lt (Heap.lt_size e)) (Heap.get?_push_of_some _ e)
 refine ⟨lim.keeps hk, ?_⟩
 show codeAny _ _ (.expr body (envX q scope s.heap.objs.size f (.ref c') clos)) _ _
 have I:=yK (q:=q) (f:=f) (cd:= .ref c') (E:=E) (tk:=s.toks+([]:List (Str×Value)).length) S hr.hd e0 C hns hk
 exact kla_codeExpr (wpAny_mono (hb [] _ σ H Q I ht) (fun v s' ⟨x,H',J,r,q⟩=>⟨x,H',J.os,J.bare,J.base,J.hok,r,q⟩) fun _ _ z=>z)
end
end L2
namespace L2
open PySem PySem.Spec PyProof.Rows PySem.W
structure Za (k:Nat) (A:Around):Prop where
 dp:A.depth+3*k+5 < recursionLimit
 un:A.units+16*k+200 < cLine
 gd:A.guards=some []
theorem Zk.m {k:Nat} {A:Around} (r:Zk k A):Za k A:=⟨r.dp,r.un,r.gd⟩
theorem Za.mono {j k:Nat} {A:Around} (r:Za k A) (h:j<=k):Za j A:=⟨by have:=r.dp; omega,by have:=r.un; omega,r.gd⟩
theorem Za.deeper {k:Nat} {A:Around} (r:Za (k+1) A) (env:Env):Za k (A.deeper env):=
 ⟨by have:=r.dp; show A.depth+1+3*k+5 < _; omega,by have:=r.un; show A.units+3+16*k+200 < _; omega,r.gd⟩
theorem Za.mark {k:Nat} {A:Around} (r:Za k A) (e:Value):Za k (A.mark (some e)):=⟨r.dp,r.un,r.gd⟩
theorem Za.depth {k:Nat} {A:Around} (r:Za k A):A.depth < recursionLimit:=by have:=r.dp; omega
theorem Za.units {k:Nat} {A:Around} (r:Za k A):A.units+64 < cLine:=by have:=r.un; omega
structure FnM (P:Program) (w:World) (K:Frag) (mg:Str->Option Value) (base:Heap) (k:Nat) (f:Addr) (fd:FuncData) (ps:List Str) (sp:Sp):Prop where
 len:∀ vs H Q E,sp vs H Q E->vs.length=ps.length
 run:∀ (A:Around) (outer:List Env) (s:Shared) (H:Hp) (args:Args) (us:List Value) (vs:List V) (Q:VK),Za k A->Wf P w K mg base A outer s H->BindsTo s fd args (ps.zip us)->zE vs us->sp vs H Q (fun _ _ _=>False)->
  codeAny (model P w) A (.call (.ref f) args) (fun r s' =>∃ u,r= .ok (.ret u)/\CE outer P w H s Q u s') s
abbrev cxM (P:Program) (w:World) (K:Frag) (mg:Str->Option Value) (base:Heap) (N:List Str) (qual:Str) (scope:Scope) (f:Addr) (cd:Value) (A:Around) (outer:List Env) (s:Shared) (H:Hp):Cx:=
 { (ZA CX0 P w K mg base N qual scope f cd A outer s H (fun _ _ _=>False)).nox with calm:=false }
section
variable {P:Program} {w:World} {K:Frag} {mg:Str->Option Value} {base:Heap}
theorem qY {k:Nat} {x qual:Str} {st:Stmt} {f:Addr} {fd:FuncData} {N ps:List Str} {sp:Sp} (F:Fun K x qual st f fd) (S:zc N ps (z9 st)) (len:∀ vs H Q E,sp vs H Q E->vs.length=ps.length)
  (hbody:∀ (cdv:Value) (A:Around) (outer:List Env) (s:Shared) (H:Hp) (vs:List V) (Q:VK),Za k (A.deeper (envOfC qual (z9 st) s.heap.objs.size f cdv))->sp vs H Q (fun _ _ _=>False)->
   ∃ t,PSs (cxM P w K mg base N qual (z9 st) f cdv A outer s H) (zG st) t/\t { nx:=fun _ H' =>Q .non H',rt:=Q } (start N vs) H):FnM P w K mg base (k+1) f fd ps sp:=by
 obtain ⟨oc,od,kV,doc,pm,an,cdv,ct,osl,rfl,lk,hcd⟩:=F.ex
 refine ⟨len,fun A outer s H args us vs Q hr e0 hb r hsp=> ?_⟩
 have hl:=len _ _ _ _ hsp
 have KX:K.In s.heap:=e0.mod.kin.keeps fun b o e=>(e0.bs b o e).1
 have lim:s.heap.NoLimit:=e0.mod.nolimit.keeps fun b o e=>(e0.bs b o e).1
 have hkind:∀ y∈ps.zip us,(z9 st).names.lookup y.1=some .local\/((z9 st).names.lookup y.1=some .cell/\((cellsFrom (s.heap.objs.size+1) (z9 st).names []).lookup y.1).isSome=true):=fun ⟨n,v⟩ hy=>by
  rcases S.par n (List.of_mem_zip hy).1 with q | q
  ·exact .inl q
  ·exact .inr ⟨q,cellsFrom_some _ _ _ (.inl q)⟩
 refine codeAny_call_function hr.depth (KX _ _ lk) rfl S.co S.gen rfl (codeRec_of KX hcd) (hb _ _ _ _ ?_)
 refine wpAny_newFunctionEnv_cells S.kind hkind fun env he s1 x=> ?_
 subst he
 refine ⟨lim.keeps x.toInCall.keep,codeAny_func ?_⟩
 obtain ⟨t,ht,hq⟩:=hbody cdv A outer s H vs Q (hr.deeper _) hsp
 have e1:Wf P w K mg base { A with handled:=none } outer s H:=⟨e0.frames,e0.mod,e0.bs,e0.bsz,e0.funs,e0.frf,e0.hok,e0.bare⟩
 have J:Inv (ZA CX0 P w K mg base N qual (z9 st) f cdv { A with handled:=none } outer s H (fun _ _ _=>False)) [] (start N vs) H s1:=J6 S rfl e1 hl r x
 have I:Inv (cxM P w K mg base N qual (z9 st) f cdv A outer s H) [] (start N vs) H s1:=
  ⟨⟨J.ok.mod,J.ok.kind,J.ok.glob,J.ok.blt,J.ok.above,J.ok.inj,J.ok.has,J.ok.cab,fun z=>(by cases z),Around.frames_deeper e0.frames,J.ok.stk,J.ok.exf,J.ok.bs,J.ok.bsz,J.ok.noex,J.ok.exfs,J.ok.funs,J.ok.frf⟩,J.os,J.bare,J.base,J.loc,J.cell,J.free,J.freeC,J.pin,J.hok,J.len⟩
 refine wpAny_mono (ht [] s1 (start N vs) H _ I hq) (fun fl s' hs=> ?_) fun e s' hs=>hs.elim
 have fin:∀ {σ' :St} {H' :Hp} {v:V} {u:Value},Inv (cxM P w K mg base N qual (z9 st) f cdv A outer s H) [] σ' H' s' ->zJ v u->Q v H' ->∃ u',(Except.ok (Flow.ret u):Result)= .ok (.ret u')/\CE outer P w H s Q u' s' :=
  fun {σ' H' v u} J rv q=>⟨u,rfl,v,H',J.os,J.bare,J.base,J.hok,rv,q⟩
 cases fl with
 | ret u=>
  obtain ⟨v,σ',H',J,rv,q⟩:=hs
  exact fin J rv q
 | next=>
  obtain ⟨σ',H',J,q⟩:=hs
  exact fin (v:=V.non) (u:=Value.none) J rfl q
 | brk=>obtain ⟨_,_,_,q⟩:=hs; exact False.elim q
 | cont=>obtain ⟨_,_,_,q⟩:=hs; exact False.elim q
theorem U1 {X:Cx} {k:Nat} {f:Addr} {fd:FuncData} {ps:List Str} {sp:Sp} {x:Str} {p pos:Pos} {e:Expr} {t:TA} (F:FnM X.prog X.w X.K X.mg X.base k f fd ps sp) (hr:Za k X.A) (hg:Gl X x) (hm:X.mg x=some (.ref f)) (hk:keepIn X.K (.ref f)=true) (hb:Binds X.K fd ps [])
  (ha:PA X [e] t) (hdb:(x == ("__debug__":Str))=false:=by decide) (he:starEach [e] X.env=[(false,eval e X.env)]:=by rfl):
  PE X (.Call (.Name x p) [e] [] pos) (fun σ H Q=>t σ H fun vs H1=>sp vs H1 Q fun _ _ _=>False):=by
 intro pins s σ H Q I h
 refine wpAny_Call_Name_kw (Zz I hg hm ?_ hdb)
 refine callWith_K (h₀:=X.base) I.ok.mod.kin hk (thn (ha pos pins s σ H _ I h) fun us s1 ⟨vs,H1,I1,r,q⟩=>⟨I1.kIn, ?_⟩) he rfl
 have hl:us.length=ps.length:=by rw [← r.length]; exact F.len _ _ _ _ q
 have hb' :=hb s1 us I1.kIn (by rw [List.append_nil]; exact hl)
 rw [List.append_nil] at hb'
 refine wpAny_call (codeAny_mono (F.run X.A X.stack s1 H1 ⟨us,[]⟩ us vs Q hr I1.env0 hb' r q) fun r s' ⟨u,e1,hq⟩=> ?_)
 subst e1
 exact I1.after hq
end
def qZ (X:Cx) (E:XK) (i:Nat) (f:Addr) (o:Obj):TE:=fun σ H Q=>σ[i]? =some (some (.ref f))/\H f=some (.frz o (.own f))/\
 ∀ s,Wf X.prog X.w X.K X.mg X.base X.A X.stack s H->codeAny (model X.prog X.w) X.A (.call (.ref f) ⟨[],[]⟩) (CR (CX1 X.prog X.w) X.stack X.prog X.w H s Q E) s
theorem yM {X:Cx} {E:XK} {i:Nat} {x:Str} {p pos:Pos} {f c' :Addr} {q:Str} {params:Arguments} {body:Expr} {scope:Scope} {clos:List (Str×Addr)} {pm ctv:Value} (hv:PE X (.Name x p) (uf i)) (hx:zY (CX1 X.prog X.w) X E):
  PE X (.Call (.Name x p) [] [] pos) (qZ X E i f (wS q params body scope clos pm ctv c')):=by
 intro pins s σ H Q I ⟨hσ,hf,run⟩
 refine wpAny_Call_Name_kw (thn (hv pins s σ H (fun v H' =>v= .ref f/\H' =H) I ⟨_,hσ,rfl,rfl⟩) fun u s1 ⟨v,H1,I1,r,e1,e2⟩=> ?_)
 subst e1 e2
 obtain rfl:u=Value.ref f:=r
 refine callWith_F0 ⟨_,_,_,_,(I1.hok f _ hf).1⟩ ?_
 refine wpAny_call (codeAny_mono (run s1 I1.env0) fun r s' hq=> ?_)
 cases r with
 | error e=>exact hx pins σ H1 s1 e s' I1 hq
 | ok fl=>
  cases fl with
  | ret u=>exact I1.after hq
  | next=>exact False.elim hq
  | brk=>exact False.elim hq
  | cont=>exact False.elim hq
theorem yN {X:Cx} {tb:XK->TS} {th:TE} {body:List Stmt} {c n:Str} {C:Addr} {cp hp rp pos:Pos} {i:Nat} {e2:Expr}
  (hX:X.stack=X.env :: X.outer) (hf:X.env.frame=some X.env.locals) (hN:X.N.Nodup) (hi:X.N[i]? =some n) (hl:X.env.scope.names.lookup n=some .local) (hg:Gl X c) (hm:X.mg c=some (.ref C))
  (hb:∀ (E' :XK) (pn:List (Addr×Obj)) (xe:Value->Shared->Prop),zY (CX1 X.prog X.w) (X.try' pn xe) E' ->PSs (X.try' pn xe) body (tb E'))
  (he:∀ ea,PE (X.mark' (.ref ea)) e2 th) (hdc:(c == ("__debug__":Str))=false:=by decide):
  PS X (.Try body [.ExceptHandler (some (.Name c cp)) (some n) [.Return (some e2) rp] hp] [] [] pos)
   (fun D σ H=>∃ E' :XK,(∀ (cls:Value) (d:Option Addr) (H' :Hp) (ea:Addr) (σ' :St),E' cls d H' ->exmOne X.K cls (.ref C)=some true/\(H' ea=none->σ'.length=σ.length->σ.length=X.N.length->th (σ'.set i (some (.ref ea))) (upd H' ea (.ext (w8 cls ea))) D.rt))/\tb E' D σ H):=by
 intro pins s σ H D I ⟨E',hE,hw⟩
 have pass:zY (CX1 X.prog X.w) (X.try' (X.pn++pins) fun e s1=>wpAny (model X.prog X.w) X.A (noteFrame e X.env) (fun _ s2=>wpAny (model X.prog X.w) X.A (setFlight e none) (fun _ s3=>wpAny (model X.prog X.w) X.A (handleBy e X.env [.ExceptHandler (some (.Name c cp)) (some n) [.Return (some e2) rp] hp]) (SP X pins D) X.xe s3) X.xe s2) X.xe s1) E' :=by
  intro pins' σ' H1 s1 e s' I1 ⟨ea,cls,a0,B,H',he',L,hw'⟩
  subst he'
  have I0:Inv X pins σ' H1 s1:=I1.untry
  have L:JB X.prog X.w X.stack H1 s1 s' ea cls a0 B H' :=L
  have fr:X.A.frames=some (X.env :: X.outer):=by rw [← hX]; exact I0.ok.frames
  show wpAny (model X.prog X.w) X.A (noteFrame (.ref ea) X.env) _ _ s'
  refine wpAny_looks_onW (base:=B) fr hf (hX ▸ L.fly) fun h1 held sl1=> ?_
  refine wpAny_landsW held fun h2 fl2 sl2=> ?_
  rw [← hX] at fl2
  have sl12:s'.heap.UpToSlots h2:=sl1.trans sl2
  have I2:=I0.caught L fl2 sl12
  obtain ⟨hm1,hD⟩:=hE cls none H' ea σ' hw'
  refine wE hm1 ?_
  refine Zz (X:=X.mark' (.ref ea)) (I2.mark' (.ref ea)) hg hm ⟨rfl,I2.kIn,fl2.there, ?_⟩ hdc
  refine lands_againW fl2 fun h3 fl3 sl3=> ?_
  have I3:=I0.caughtX L fl3 (sl12.trans sl3)
  have hlen:σ'.length=X.N.length:=I0.len
  refine jD (X:=X.mark' (.ref ea)) (I3.mark' _) hN hi (.inl hl) (v:= .ref ea) rfl (fun s4 I4=> ?_) (.inr hl)
  have hs1:=jF (W3 (X:=X.mark' (.ref ea)) (pos:=rp) (he ea))
  have hr:=hs1 pins s4 _ _ { nx:=fun _ _=>False,rt:=D.rt } I4 (hD L.fresh (hlen.trans I.len.symm) I.len)
  refine wpAny_mono hr (fun f s5 h5=> ?_) fun _ _ z=>z
  cases f with
  | next=>obtain ⟨_,_,_,z⟩:=h5; exact z.elim
  | brk=>obtain ⟨_,_,_,z⟩:=h5; exact z.elim
  | cont=>obtain ⟨_,_,_,z⟩:=h5; exact z.elim
  | ret u=>
   obtain ⟨v,σ5,H5,I5,r5,q5⟩:=h5
   refine UO (X:=X) (I5.unmark I.ok.hd) hN hi hl fun s6 I6=> ?_
   exact ⟨v,_,_,I6,r5,q5⟩
 have hr:=hb E' (X.pn++pins) _ pass [] s σ H D (I.try' _) hw
 refine wpAny_Try_except (wpAny_mono hr (fun f s1 h1=> ?_) fun _ _ z=>z)
 have h1:=h1.untry
 cases f with
 | next=>exact wpAny_execs_nil h1
 | brk=>exact h1
 | cont=>exact h1
 | ret u=>exact h1
end L2
namespace PV
open PySem PySem.Spec PyProof.Rows L2 PySem.W
def nx1 (r:R T):R T:=match r with
 | .ok t=> .ok t
 | _=> .bad
def zq (ok:Nat->Bool) (gx:Nat->R T) (r:R T):R T:=match r with
 | .ok t=> .ok t
 | .ex c=>if ok c=true then nx1 (gx c) else .bad
 | .bad=> .bad
def zj (js:List Nat) (ok:Nat->Bool) (gx:Nat->R T) (fe:En->R T):En->R T:=fun ρ=>zq ok gx (fe (jJ 0 js ρ))
def spT (P:Program) (w:World) (K:Frag) (mg:Str->Option Value) (base:Heap) (cl:Nat->Value) (ok:Nat->Bool) (gx:Nat->R T) (k:Nat) (f:Addr) (o:Obj) (B:Hp) (r:R T):Sp:=fun vs H Q E=>vs=[V.ref f]/\H f=some (.frz o (.own f))/\zi B H/\Po ⟨B,H,E,cl⟩ rC B H (zq ok gx r) Q/\
 ∀ (A:Around) (outer:List Env) (s:Shared) (E' :XK) (Q' :VK),Zk (k+1) A->Wf P w K mg base A outer s H->Po ⟨B,H,E',cl⟩ rC B H r Q' ->codeAny (model P w) A (.call (.ref f) ⟨[],[]⟩) (CR (CX1 P w) outer P w H s Q' E') s
def u7 (P:Program) (w:World) (K:Frag) (mg:Str->Option Value) (cl:Nat->Value) (ok:Nat->Bool) (gx:Nat->R T) (k:Nat) (ft:Addr) (fdt:FuncData) (d:Str):Prop:=
 ∀ (base:Heap) (f c' :Addr) (q:Str) (params:Arguments) (body:Expr) (scope:Scope) (clos:List (Str×Addr)) (pm ctv:Value) (B:Hp) (r:R T),K.In base->zB P w K mg base CX0 (k+2) ft fdt [d] (spT P w K mg base cl ok gx k f (wS q params body scope clos pm ctv c') B r)
section
variable {P:Program} {w:World} {K:Frag} {mg:Str->Option Value}
theorem yO {cl:Nat->Value} {ok:Nat->Bool} {gx:Nat->R T} {k j i:Nat} {x qual d n cn lc y:Str} {st:Stmt} {ft C fl:Addr} {fdt fdl:FuncData} {N:List Str} {dp cp rp np hp lp ep lcp rp2 tp:Pos} (F:Fun K x qual st ft fdt) (S:zc N [d] (z9 st))
  (hst:zG st=[.Try [.Return (some (.Call (.Name d dp) [] [] cp)) rp] [.ExceptHandler (some (.Name cn np)) (some n) [.Return (some (.Call (.Name lc lp) [.Name n ep] [] lcp)) rp2] hp] [] [] tp])
  (h0:N[0]? =some d) (hd:(z9 st).names.lookup d=some .local) (hi:N[i]? =some n) (hl:(z9 st).names.lookup n=some .local) (hi0:i ≠ 0)
  (hgc:(z9 st).names.lookup cn=some .globalImplicit) (hmc:mg cn=some (.ref C)) (hok:∀ c,ok c=true->exmOne K (cl c) (.ref C)=some true)
  (hgl:(z9 st).names.lookup lc=some .globalImplicit) (hml:mg lc=some (.ref fl)) (kp:keepIn K (.ref fl)=true) (bd:L2.Binds K fdl [y] []) (FL:∀ base,K.In base->FnM P w K mg base j fl fdl [y] (spC cl gx)) (hj:j<=k+1)
  (h1:(d == ("__debug__":Str))=false:=by decide) (h2:(d == ("__classdict__":Str))=false:=by decide) (h3:(n == ("__debug__":Str))=false:=by decide) (h4:(n == ("__classdict__":Str))=false:=by decide) (h5:(lc == ("__debug__":Str))=false:=by decide) (h6:(cn == ("__debug__":Str))=false:=by decide):
  u7 P w K mg cl ok gx k ft fdt d:=by
 intro base f c' q params body scope clos pm ctv B r KB
 refine F.ok S (fun vs H Q E ⟨e,_⟩=>by rw [e]; rfl) fun cdv A outer s H vs Q E hr ⟨e,hf,sB,po,run⟩=> ?_
 subst e
 rw [hst]
 have he:∀ ea,PE ((ZA CX0 P w K mg base N qual (z9 st) ft cdv A outer s H E).nox.mark' (.ref ea)) (.Call (.Name lc lp) [.Name n ep] [] lcp) (fun σ H Q=>∃ v,σ[i]? =some (some v)/\spC cl gx [v] H Q fun _ _ _=>False):=fun ea=>
  PE.imp (U1 (FL base KB) ((hr.m.mono hj).mark _) hgl hml kp bd (zg (W1 hi (.inl hl) h3 h4) zu (st1 rfl)) h5 (st1 rfl)) fun σ H Q ⟨v,e,z⟩=>⟨v,e,z⟩
 refine ⟨_,jF (yN (X:=(ZA CX0 P w K mg base N qual (z9 st) ft cdv A outer s H E).nox) (tb:=fun E' =>Vd (qZ (ZA CX0 P w K mg base N qual (z9 st) ft cdv A outer s H E) E' 0 f (wS q params body scope clos pm ctv c'))) (i:=i) (C:=C) rfl rfl S.nd hi hl hgc hmc (fun E' pn xe hp=>jF (W3 (yM (f:=f) (c' :=c') (q:=q) (params:=params) (body:=body) (scope:=scope) (clos:=clos) (pm:=pm) (ctv:=ctv) (W1 h0 (.inl hd) h1 h2) hp))) he h6), ?_⟩
 refine ⟨fun cls _ H' =>∃ c,cls=cl c/\ok c=true/\zi H H' /\zi B H' /\Po ⟨B,H,E,cl⟩ rC B H (nx1 (gx c)) Q,fun cls d H' ea σ' ⟨c,e1,e2,s1,s2,q1⟩=> ?_,by unfold L2.start; rfl,hf,fun s2 e0=>run _ _ s2 _ _ hr e0 ?_⟩
 ·subst e1
  refine ⟨hok c e2,fun hea hl' hX' =>⟨.ref ea,List.getElem?_set_self (by rw [hl',hX']; exact (List.getElem?_eq_some_iff.mp hi).1),upd B ea (.ext (w8 (cl c) ea)),ea,c,rfl, ?_,zh, ?_⟩⟩
  ·intro b o hb
   by_cases z:b=ea
   ·subst z; rw [zh] at hb ⊢; exact hb
   ·rw [zf z] at hb ⊢; exact s2 b o hb
  ·have s3:zi H (upd H' ea (.ext (w8 (cl c) ea))):=s1.trans (zi.new hea _)
   have hHe:H ea=none:=s1.free hea
   revert q1
   cases gx c with
   | bad=>exact fun z=>z
   | ex c2=>exact fun z=>z.elim
   | ok t=>
    intro z b H3 s4 rb
    refine z b H3 (s3.trans s4) (rb.mono fun a o ha=> ?_)
    cases hH:upd H' ea (.ext (w8 (cl c) ea)) a with
    | none=>
     rw [zA hH] at ha
     cases hHa:H a with
     | none=>rw [zA hHa]; exact ha
     | some u=>have:=s3 a u hHa; rw [hH] at this; cases this
    | some u=>
     rw [zH hH] at ha
     by_cases ze:a=ea
     ·subst ze
      rw [zA hHe]
      rw [zh] at ha hH
      rw [← ha,s4 _ _ zh]
     ·rw [zf ze] at ha
      rw [zH (sB a o ha)]; exact ha
 ·revert po
  unfold zq
  cases r with
  | ok t=>exact fun po=>po
  | bad=>exact fun po=>po
  | ex c=>
   intro po
   dsimp only at po
   split at po
   ·rename_i hc
    exact fun d H' a b=>⟨c,rfl,hc,a,b,po⟩
   ·exact po.elim
end
section
variable {X:Cx} {Y:Fx}
theorem Q0 {pins:List (Addr×Obj)} {σ:Sg} {H:Hp} {s:Shared} {scope:Scope} {clos:List (Str×Addr)} {N' :List Str} {js:List Nat} (I:L2.Inv X pins σ H s) (hfn:∀ x,X.fn x=true) (hcl:∀ x c,clos.lookup x=some c->X.env.cells.lookup x=some c)
  (hcf:∀ x∈scope.names,x.2=NameKind.free->∃ c,clos.lookup x.1=some c) (CP:qj X scope N' 0 js):u5 (Ut s H (frs X.stack)) H scope clos N' (wd 0 js σ):=by
 have up:∀ x c,X.env.cells.lookup x=some c->∀ v,s.heap.IsCell c v->(Ut s H (frs X.stack)).IsCell c v:=fun x c e v ⟨o,ho,hd⟩=>⟨o,wo ho (I.freeC x c e) fun hb=>by
  rcases List.mem_cons.mp (I.stkSub c hb) with z | z
  ·exact I.cne x c e z
  ·obtain ⟨_,o2,e2,_⟩:=I.ok.funs.mem z
   exact absurd (Heap.lt_size e2) (Nat.not_lt.mpr (I.ok.cab x c (hfn x) e)),hd⟩
 refine ⟨fun x y c h1 h2=>I.ok.inj x y c (hcl _ _ h1) (hcl _ _ h2),hcf,fun x c e=>⟨?_,I.freeC x c (hcl x c e)⟩,fun i x v h1 h2=> ?_,by unfold wd; simp [CP.len]⟩
 ·obtain ⟨v,ic⟩:=I.cell x c (hcl x c e)
  exact ⟨v,up x c (hcl x c e) v ic⟩
 ·unfold wd at h2
  rw [List.replicate_zero,List.nil_append,List.getElem?_map] at h2
  cases ej:js[i]? with
  | none=>rw [ej] at h2; cases h2
  | some j=>
   rw [ej] at h2
   have h2' :(σ[j]?).getD none=some v:=Option.some.inj h2
   have hσ:σ[j]? =some (some v):=by
    cases ez:σ[j]? with
    | none=>rw [ez] at h2'; cases h2'
    | some z=>rw [ez] at h2'; exact congrArg some h2'
   obtain ⟨y,e1,e2,e3,e4,e5⟩:=CP.cap i j ej
   rw [Nat.zero_add,h1] at e1
   cases e1
   obtain ⟨m,hn,hlo⟩:=I.loc
   obtain ⟨u,ru,lk⟩:=hlo j x v e2 hσ e3
   obtain ⟨c,ec⟩:=hcf (x, .free) (PySem.mem_of_lookup e4) rfl
   rcases lk with ⟨k,_⟩ | ⟨_,c2,e6,ic⟩
   ·rcases e5 with z | z <;> (rw [k] at z; cases z)
   ·have:=hcl x c ec
    rw [e6] at this; cases this
    exact ⟨u,c,ru,ec,up x c e6 _ ic,e4⟩
theorem zK {cl:Nat->Value} {ok:Nat->Bool} {gx:Nat->R T} {kE k:Nat} {x d q:Str} {c P ft:Addr} {fdt:FuncData} {params:Arguments} {body:Expr} {scope:Scope} {lp p pos:Pos} {js:List Nat} {fe:En->R T} (hy:Y.cl=cl) (L:Lm X c P q) (hT:Y.H0 P=some (.tbl #[] q)) (hfn:∀ x,X.fn x=true)
  (O:u7 X.prog X.w X.K X.mg cl ok gx kE ft fdt d) (hr:Zk k X.A) (hj:kE+2<=k) (gl:Gl X x) (mg:X.mg x=some (.ref ft)) (kp:keepIn X.K (.ref ft)=true) (bd:L2.Binds X.K fdt [d] [])
  (N' N:List Str) (sc0:Scope) (hN:X.N=N) (h0:X.env.scope=sc0) (hck:(Qr scope sc0 && Qs N N' scope sc0 0 js)=true) (hco:scope.isCoroutine=false) (hge:scope.isGenerator=false)
  (hb:∀ (base:Heap) (A:Around) (outer:List Env) (s:Shared) (H:Hp) (E:XK) (f c' :Addr) (clos:List (Str×Addr)) (Y' :Fx),X.K.In base->Y'.cl=cl->Y'.E=E->Zk kE (A.deeper (envX q scope s.heap.objs.size f (.ref c') clos))->Snd (cxL X.prog X.w X.K X.mg base N' q scope f (.ref c') clos A outer s H E) Y' body fe)
  (hp:∀ (clos:List (Str×Addr)) (pm cd ctv:Value),bindArgs (kla_fn "<lambda>" q params body scope clos pm cd ctv) ⟨[],[]⟩=pure []:=by intros; rfl) (hdef:defaultsOf params X.env=([],[]):=by rfl) (hd:(x == ("__debug__":Str))=false:=by decide):
  Snd X Y (.Call (.Name x p) [.Lambda params body scope lp] [] pos) (zj js ok gx fe):= .mk fun ρ=>by
 intro pins s σ H Q I ⟨B,J,po⟩
 subst hy
 rw [Bool.and_eq_true] at hck
 have CS:=Ul (X:=X) sc0 h0 hck.1
 have CP:qj X scope N' 0 js:=WG N sc0 hN h0 hck.2
 have S:LSc scope:=⟨CS.kind,hco,hge,CS.nocell⟩
 obtain ⟨clos,ecl,hcl,hcf⟩:=JH (scope:=scope) (env:=X.env) fun x hx hf=>I.ok.has x.1 (CS.fre x hx hf)
 refine wpAny_Call_Name_kw (Zz I gl mg ?_ hd)
 have hP:H P=some (.tbl #[] q):=J.sH _ _ hT
 have hpa:=zg (qX (params:=params) (body:=body) (pos:=lp) L hdef ecl) zu (st1 rfl) pos pins s σ H (fun vs H1=>∃ f c' pm ctv,vs=[V.ref f]/\zi H H1/\H1 f=some (.frz (wS q params body scope clos pm ctv c') (.own f))/\ji H1 q c') I ⟨hP,fun f c' pm ctv H' s1 hf hc=>⟨f,c',pm,ctv,rfl,s1,hf,hc⟩⟩
 refine callWith_K (h₀:=X.base) I.ok.mod.kin kp (thn hpa fun us s1 ⟨vs,H1,I1,r,f,c',pm,ctv,e,sm,hf,hc⟩=>⟨I1.kIn, ?_⟩) (st1 rfl) rfl
 subst e
 have J1:=J.grow sm
 refine yJ (E:=Y.E) I1 (O _ f c' q params body scope clos pm ctv (zt B H H1) (fe (jJ 0 js ρ)) I1.big.mod.kin) (hr.mono hj) bd qx r ⟨rfl,hf,J1.sB, ?_,fun A outer s2 E' Q' hrm e0 q' => ?_⟩
 ·have po:Po Y rC B H (zq ok gx (fe (jJ 0 js ρ))) Q:=po
  revert po
  cases zq ok gx (fe (jJ 0 js ρ)) with
  | bad=>exact fun z=>z
  | ex c2=>exact fun z d H' a b=>z d H' ((J.sH.trans sm).trans a) ((zt.ge J.sB sm).trans b)
  | ok t=>exact fun z b H2 s2 rb=>z b H2 (sm.trans s2) (by rw [← zt.trans sm s2]; exact rb)
 ·refine yL (N:=N') (σ:=wd 0 js σ) (te:=tS ⟨zt B H H1,H1,E',Y.cl⟩ rC fe (jJ 0 js ρ)) S hrm e0 (Q0 I1 hfn hcl hcf CP) hf hc (hp clos pm _ ctv) ?_ ⟨_,J1.blockS 0 js E' (zi.refl _),q'⟩
  exact (hb _ A outer s2 H1 E' f c' clos ⟨zt B H H1,H1,E',Y.cl⟩ e0.mod.kin rfl rfl (hrm.deeper _)) (jJ 0 js ρ)
end
section
variable {P:Program} {w:World} {K:PySem.W.Frag} {mg:Str->Option Value} {base:Heap}
theorem yP {cl:Nat->Value} {x qual q:Str} {st:Stmt} {f:Addr} {fd:FuncData} {N:List Str} {k:Nat} {fb:En->RS} {gx:Nat->R T} (F:Fun K x qual st f fd) (S:zc N [q] (z9 st)) (hN:1<=N.length)
  (hb:∀ (cdv:Value) (A:Around) (outer:List Env) (s:Shared) (H:Hp) (Y:Fx),Y.cl=cl->Za k (A.deeper (envOfC qual (z9 st) s.heap.objs.size f cdv))->
   JG (cxM P w K mg base N qual (z9 st) f cdv A outer s H) Y (zG st) fb)
  (hg:∀ c,gx c=zl (fb (enC N.length c))):FnM P w K mg base (k+1) f fd [q] (spC cl gx):=by
 refine qY F S (fun vs H Q E ⟨_,_,_,e,_⟩=>by rw [e]; rfl) fun cdv A outer s H vs Q hr ⟨B,a,c,e,sB,r,q⟩=> ?_
 subst e
 refine ⟨_,hb cdv A outer s H ⟨B,H,fun _ _ _=>False,cl⟩ rfl hr (enC N.length c),B,SI.startC (Y:=⟨B,H,fun _ _ _=>False,cl⟩) sB hN r, ?_⟩
 rw [hg c] at q
 revert q
 cases fb (enC N.length c) with
 | rt t=>exact fun q v H' s r=>q v H' s r
 | rf t=>exact fun q a xs H' B' s0 n e r _ l=>q (.ref a) H' s0 (.lst (by rw [zA n]; exact e) (r.mono l))
 | nx ρ=>exact fun q σ' H' B' _ I=>q .non H' I.sH .non
 | ex c=>exact fun q=>q
 | bk ρ=>exact fun q=>q.elim
 | ct ρ=>exact fun q=>q.elim
 | bad=>exact fun q=>q
def Y7 (cl:Nat->Value) (n:Nat) (g:List T->R T) (Pt:Addr) (q:Str):Sp:=fun vs H Q E=>H Pt=some (.tbl #[] q)/\spP cl n g vs H Q E
theorem Q1 {cl:Nat->Value} {x qual q:Str} {st:Stmt} {f c Pt:Addr} {fd:FuncData} {N ps:List Str} {k n:Nat} {fb:En->RS} {g:List T->R T} (F:Fun K x qual st f fd) (hc:fd.code= .ref c) (S:zc N ps (z9 st)) (hn:n=ps.length)
  (hb:∀ (A:Around) (outer:List Env) (s:Shared) (H:Hp) (E:XK) (Y:Fx),Y.cl=cl->Y.E=E->Y.H0 Pt=some (.tbl #[] q)->Zk k (A.deeper (envOfC qual (z9 st) s.heap.objs.size f (.ref c)))->
   JG (ZA (CX1 P w) P w K mg base N qual (z9 st) f (.ref c) A outer s H E) Y (zG st) fb)
  (hg:∀ ts,ts.length=n->g ts=zl (fb (en0 N.length ts))):zB P w K mg base (CX1 P w) (k+1) f fd ps (Y7 cl n g Pt q):=by
 subst hn
 obtain ⟨oc,od,kV,doc,pm,an,cdv,ct,osl,rfl,lk,hcd⟩:=F.ex
 obtain rfl:cdv= .ref c:=hc
 refine UI lk hcd S (fun vs H Q E z=>spP.len vs H Q E z.2) fun A outer s H vs Q E hr ⟨hT,B,ts,hl,sB,r,q⟩=> ?_
 refine ⟨_,hb A outer s H E ⟨B,H,E,cl⟩ rfl rfl hT hr (en0 N.length ts),B,SI.start (Y:=⟨B,H,E,cl⟩) sB r, ?_⟩
 rw [hg ts hl] at q
 revert q
 cases fb (en0 N.length ts) with
 | rt t=>exact fun q v H' s r=>q v H' s r
 | rf t=>exact fun q a xs H' B' s0 n e r _ l=>q (.ref a) H' s0 (.lst (by rw [zA n]; exact e) (r.mono l))
 | nx ρ=>exact fun q σ' H' B' _ I=>q .non H' I.sH .non
 | ex c=>exact fun q=>q
 | bk ρ=>exact fun q=>q.elim
 | ct ρ=>exact fun q=>q.elim
 | bad=>exact fun q=>q
end
end PV
namespace L2
open PySem PySem.Spec PyProof.Rows PySem.W
theorem u8 {P:Program} {w:World} {K:Frag} {mg mb:Str->Option Value} {CX:CXT} {k:Nat} {fa a c Pt:Addr} {fd:FuncData} {x q:Str} {sp:Sp} {s₁:Shared} {vs:List Value} {ns:List Int}
  (KX:K.In s₁.heap) (hns:s₁.heap.Ns mainGlobals mg) (hb:s₁.heap.Ns builtinsNs mb) (hbb:∀ x:Str,x ≠ "__name__"->mb x=bootBuiltins x) (hlim:s₁.heap.NoLimit) (hg:s₁.gens= #[])
  (ha:s₁.heap.get? a=some { cls:= .type "list",data:= .seq vs.toArray }) (hi:IntsAre vs ns) (hl:ns.length<=sizeLine) (hr:Zk k callerA)
  (hbt:s₁.heap.BuiltinsAt mg Pt) (hPt:s₁.heap.get? Pt=some (tabObj #[])) (hKP:K.lookup Pt=none) (hC:codeHdIn K c Pt=true) (hKa:K.lookup a=none)
  (F:∀ base:Heap,K.In base->base.BuiltinsAt mg Pt->zB P w K mg base CX k fa fd [x] sp) (hbind:∀ (s:Shared) (u:Value),BindsTo s fd ⟨[u],[]⟩ [(x,u)])
  (hsp:∀ (H:Hp) (o:Obj),H a=some (.frz o (.lst (ns.map V.int)))->H Pt=some (.tbl #[] q)->sp [.ref a] H (fun v _=>v= .bl true) fun _ _ _=>False)
  (hCX:∀ H e s',CX [] H s₁ (fun _ _ _=>False) e s' ->False):
  codeAny (model P w) callerA (.call (.ref fa) ⟨[.ref a],[]⟩) (fun r s' =>r= .ok (.ret (.bool true))/\OldK s₁.heap s'.heap/\s'.os=s₁.os/\AllBare s'.gens) s₁:=by
 have rv:=Ja hi
 have hne:Pt ≠ a:=fun z=>by rw [z,ha] at hPt; cases hPt
 obtain ⟨H,hH⟩:∃ H:Hp,H=upd (upd (fun _=>none) Pt (.tbl #[] q)) a (.frz { cls:= .type "list",data:= .seq vs.toArray } (.lst (ns.map V.int))):=⟨_,rfl⟩
 have h1:H a=some (.frz { cls:= .type "list",data:= .seq vs.toArray } (.lst (ns.map V.int))):=by rw [hH,zh]
 have h2:H Pt=some (.tbl #[] q):=by rw [hH,zf hne,zh]
 have h3:∀ b,b ≠ a->b ≠ Pt->H b=none:=fun b n1 n2=>by rw [hH,zf n1,zf n2]
 have hok:HOk P w H s₁.heap:=fun b o e=>by
  by_cases b1:b=a
  ·subst b1; rw [h1] at e; cases e
   exact ⟨ha,by rw [List.length_map]; exact hl,vs,_,rv,ha⟩
  ·by_cases b2:b=Pt
   ·subst b2; rw [h2] at e; cases e
    exact ⟨#[],hPt,trivial,fun p cv z=>by cases z⟩
   ·rw [h3 b b1 b2] at e; cases e
 have free:∀ {b:Addr} {o:Obj},s₁.heap.get? b=some o->o.cls ≠ .type "list"->o.cls ≠ .none->H b=none:=fun {b o} e n1 n2=>h3 b (fun z=>by rw [z,ha] at e; cases e; exact n1 rfl) fun z=>by rw [z,hPt] at e; cases e; exact n2 rfl
 have noD:∀ {b:Addr} {o:Obj} {es:Array DictEntry} {ep:Nat},s₁.heap.get? b=some o->o.data= .dict es ep->H b=none:=fun {b o es ep} e d=>h3 b (fun z=>by rw [z,ha] at e; cases e; cases d) fun z=>by rw [z,hPt] at e; cases e; cases d
 have nsK:∀ {b:Addr} {m:Str->Option Value},s₁.heap.Ns b m->(ui s₁.heap H).Ns b m:=fun {b m} ⟨o,es,ep,e,d,r⟩=>⟨o,es,ep,jB e (noD e d),d,r⟩
 have hKb:K.In (ui s₁.heap H):=fun b o e=>jB (KX b o e) (h3 b (fun z=>by rw [z,hKa] at e; cases e) fun z=>by rw [z,hKP] at e; cases e)
 have hM:Mod K mg (ui s₁.heap H):=⟨hKb,nsK hns,⟨mb,nsK hb,hbb⟩,let ⟨mc,h1,h2⟩:=hlim; ⟨mc,nsK h1,h2⟩⟩
 have hBT:(ui s₁.heap H).BuiltinsAt mg Pt:=by
  obtain ⟨bm,o,b1,b2,b3,b4,b5,b6,b7,b8⟩:=hbt
  exact ⟨bm,o,b1,b2,b3,b4,jB b5 (h3 bm (fun z=>by rw [z,ha] at b5; cases b5; cases b8) b4),b6,b7,b8⟩
 have e0:Wf P w K mg (ui s₁.heap H) callerA [] s₁ H:=⟨rfl,hM,fun b o e=>UA e,Nat.le_of_eq (W0 _ _),trivial,fun b hb=>absurd (show b∈([]:List Addr) from hb) (by simp),hok, .of_eq hg⟩
 refine codeAny_mono ((F _ hKb hBT).run callerA [] s₁ H ⟨[.ref a],[]⟩ [.ref a] [.ref a] _ _ hr e0 (hbind s₁ (.ref a)) (.cons rfl .nil) (hsp H _ h1 h2)) fun r s' h=> ?_
 cases r with
 | error e=>exact (hCX H e s' h).elim
 | ok fl=>
  cases fl with
  | next=>exact False.elim h
  | brk=>exact False.elim h
  | cont=>exact False.elim h
  | ret u=>
   obtain ⟨v,H',os,bare,un,hok',r',qv⟩:=h
   have q' :v= .bl true:=qv
   subst q'
   obtain rfl:u=Value.bool true:=r'
   refine ⟨rfl,⟨fun b o e=> ?_,fun b o e=>un.there b o e (by simp)⟩,os,bare⟩
   by_cases b1:b=a
   ·subst b1
    have z2:=un.frzs b _ _ h1
    obtain ⟨e2,_⟩:=hok' b _ z2
    rw [ha] at e; cases e
    exact .inl e2
   ·by_cases b2:b=Pt
    ·subst b2
     obtain ⟨more,e2,_⟩:=hok' b _ (un.tbls b _ _ h2)
     rw [hPt] at e; cases e
     exact .inr (.inl ⟨((codeHd_of_K KX hC).tab hPt).isCodeTable,rfl, #[],more,rfl,e2⟩)
    ·exact .inl (un.keep b o e (h3 b b1 b2) (by intro z; exact absurd (show b∈([]:List Addr) from z) (by simp)) (by simp))
theorem walk_ofT {l:OpenLaw} {n k:Nat} {q:Program} {loose:List Str} {XP:(Str->Option Value)->Heap->Prop} {YP:World->Heap->Prop} {d:DefRec} {K:Params->Frag} {ts:List Addr} {CX:World->CXT} {sp:World->Addr->Sp} {x nm:Str}
  (hn:l.most=some n) (hn2:n<=sizeLine) (hdf:d.params.defaults=[]) (hr:Zk k callerA)
  (hY:∀ (w:World) (h:Heap),YP w h->(K w.params).In h/\∀ P∈ts,h.get? P=some (tabObj #[])) (hKa:∀ (w:World) (a:Addr) (o:Obj),(K w.params).lookup a=some o->o.cls ≠ .type "list")
  (F:∀ (w:World) (mg:Str->Option Value) (fa:Addr) (h:Heap),(K w.params).In h->h.Ns mainGlobals mg->mg d.name=some (.ref fa)->(∀ P∈ts,h.get? P=some (tabObj #[]))->
   ∃ (fd:FuncData) (c Pt:Addr),(∀ (s:Shared) (u:Value),BindsTo s fd ⟨[u],[]⟩ [(x,u)])/\h.get? Pt=some (tabObj #[])/\(K w.params).lookup Pt=none/\codeHdIn (K w.params) c Pt=true/\
    ∀ base:Heap,(K w.params).In base->base.BuiltinsAt mg Pt->zB l.prog w (K w.params) mg base (CX w) k fa fd [x] (sp w Pt))
  (hsp:∀ (w:World) (H:Hp) (a Pt:Addr) (o:Obj) (ns:List Int),ns.length<=n->H a=some (.frz o (.lst (ns.map V.int)))->H Pt=some (.tbl #[] nm)->sp w Pt [.ref a] H (fun v _=>v= .bl true) fun _ _ _=>False)
  (hCX:∀ (w:World) (H:Hp) (s:Shared) (e:Value) (s' :Shared),CX w [] H s (fun _ _ _=>False) e s' ->False):
  WalkO q loose XP YP l.row.toRowW d [] (fun f vs=>PySem.call f vs):=by
 refine Att.attach_call hn hdf fun w s₀ s₁ mg mb fa o pm cd doc a vs ns G Y ho hd hcd hmg hobj hints hlen hg=> ?_
 obtain ⟨KX,hT⟩:=hY w _ Y
 obtain ⟨fd,c,Pt,hb,hPt,hKP,hC,hF⟩:=F w mg fa _ KX G.T.g hmg hT
 obtain ⟨bm,ob,b1,b2,b3,b4,b5,b6⟩:=G.T.bmain
 have hbP:bm ≠ Pt:=fun z=>by rw [z,hPt] at b3; cases b3; cases b4
 have hbG:bm ≠ mainGlobals:=fun z=>by
  obtain ⟨o,es,ep,e,hd,_⟩:=G.T.g
  rw [z,e] at b3; cases b3; rw [hd] at b6; cases b6
 refine u8 (q:=nm) KX G.T.g G.T.b G.T.builtins G.T.nolimit hg hobj hints (Nat.le_trans hlen hn2) hr ⟨bm,ob,b1,b2,hbG,hbP,b3,b4,b5,b6⟩ hPt hKP hC ?_ hF hb (fun H o h1 h2=>hsp w H a Pt o ns hlen h1 h2) fun H e s' =>hCX w H s₁ e s'
 cases hk:(K w.params).lookup a with
 | none=>rfl
 | some o2=>
  have e:=KX a o2 hk
  rw [hobj] at e; cases e
  exact (hKa w a _ hk rfl).elim
end L2
namespace PV
open PySem PySem.Spec PyProof.Rows L2
def Q2 (fa fb:En->R T):En->R T:=fun ρ=>(fa ρ).bind fun t=>(fb ρ).bind fun u=>match t with
 | .lst []=> .ok u
 | .lst ts=>match Zf ts with | some (i :: l)=> .ok (.int (ZC (fun a b=>decide (a < b)) i l)) | _=> .bad
 | _=> .bad
section
variable {prog:Program} {w:World} {A:Around} {R:Result->Shared->Prop} {I:Addr} {fp wr:List Addr} {n:Nat} {P:Nat->Value->Prop} {St:Nat->Heap->Prop}
theorem ZV:(toString "min"++toString ".loop":String)="min.loop":=by decide
theorem U2 (W:Walks prog w A.in1 I fp wr n P St) (bt:Nat->Nat->Bool) (hc:CmpOf prog w A.in1 .Lt P bt) (D:Addr) (hD:D ∉ fp) (kw:List (Str×Value)):
  ∀ (q j:Nat) (s:Shared) (b0:Value) (e0:Nat),n - (j+1)=q->j+1<=n->St (j+1) s.heap->P (argBest bt j) b0->
  s.heap.get? D=some { cls:= .type "list",dict:=none,data:= .seq #[b0,b0] e0,slots:= #[] }->
  (∀ v h' tk,P (argBest bt (n - 1)) v->(∀ b o,b ∉ wr->b ≠ D->s.heap.get? b=some o->h'.get? b=some o)->R (.ok (.ret v)) { s with heap:=h',toks:=tk })->
  codeAny (model prog w) A (.builtin "min.loop" ⟨[.ref I, .none, .ref D],kw⟩) R s:=by
 have hDw:D ∉ wr:=fun z=>hD (W.sub _ z)
 intro q
 induction q with
 | zero=>
  intro j s b0 e0 hq hj hst hb hg hR
  have hjn:j+1=n:=by omega
  refine codeAny_builtin F.entry_min_loop ?_
  rw [Around.under_plainId F.plain_min_loop _]
  show wpAny (model prog w) A.in1 (seqItems? (.ref D) >>= _) _ _ s
  refine wpAny_bind (wpAny_seqItems hg rfl ?_)
  show wpAny (model prog w) A.in1 (tryCatch (pyNext (.ref I)) _ >>= _) _ _ s
  refine wpAny_bind (wpAny_tryCatch (W.done s _ _ (hjn ▸ hst) fun h1 t1 k1=> ?_))
  have hg1:=k1 D _ hDw hg
  show wpAny (model prog w) A.in1 (updateSeq D (fun _=> #[]) >>= _) _ _ _
  refine wpAny_bind (wpAny_updateSeq hg1 rfl (wpAny_bind (wpAny_letGo (wpAny_pure ?_))))
  exact hR b0 _ t1 (by rw [← hjn]; exact hb) fun b o x y z=>(Heap.get?_update_other _ _ (Ne.symm y)).trans (k1 b o x z)
 | succ q ih=>
  intro j s b0 e0 hq hj hst hb hg hR
  have hlt:j+1 < n:=by omega
  refine codeAny_builtin F.entry_min_loop ?_
  rw [Around.under_plainId F.plain_min_loop _]
  show wpAny (model prog w) A.in1 (seqItems? (.ref D) >>= _) _ _ s
  refine wpAny_bind (wpAny_seqItems hg rfl ?_)
  show wpAny (model prog w) A.in1 (tryCatch (pyNext (.ref I)) _ >>= _) _ _ s
  refine wpAny_bind (wpAny_tryCatch (W.item (j+1) s _ _ hlt hst fun v h1 t1 hv hst1 k1=> ?_))
  have hg1:=k1 D _ hDw hg
  show wpAny (model prog w) A.in1 (tryCatch (holding [v,v] (richCompare .Lt v b0 >>= _)) _ >>= _) _ _ _
  refine wpAny_bind (wpAny_tryCatch (wpAny_holding (wpAny_bind (hc (j+1) (argBest bt j) v b0 _ _ _ hv hb ?_))))
  refine wpAny_bind (wpAny_holding (wpAny_truthy_bool (wpAny_bind (wpAny_letGo (wpAny_pure ?_)))))
  cases hbt:bt (j+1) (argBest bt j) with
  | true=>
   simp only [if_true]
   refine wpAny_bind (wpAny_updateSeq hg1 rfl (wpAny_bind (wpAny_letGo ?_)))
   rw [ZV]
   refine wpAny_pure ⟨plainId_quiet F.plain_min_loop _,ih (j+1) _ v _ (by omega) hlt (W.frame _ _ _ hst1 fun b x o z=> ?_) (by simp only [argBest,hbt,if_true]; exact hv) (Heap.get?_update_self _ hg1 rfl) fun v2 h2 t2 hv2 k2=> ?_⟩
   ·exact (Heap.get?_update_other _ _ (fun y:D=b=>hD (by rw [y]; exact x))).trans z
   ·exact hR v2 h2 t2 hv2 fun b o x y z=>k2 b o x y ((Heap.get?_update_other _ _ (Ne.symm y)).trans (k1 b o x z))
  | false=>
   simp only [Bool.false_eq_true,if_false]
   refine wpAny_bind (wpAny_letGo ?_)
   rw [ZV]
   refine wpAny_pure ⟨plainId_quiet F.plain_min_loop _,ih (j+1) _ b0 e0 (by omega) hlt hst1 (by simp only [argBest,hbt,Bool.false_eq_true,if_false]; exact hb) hg1 fun v2 h2 t2 hv2 k2=> ?_⟩
   exact hR v2 h2 t2 hv2 fun b o x y z=>k2 b o x y (k1 b o x z)
theorem u9 (W:Walks prog w A.in1 I fp wr n P St) (bt:Nat->Nat->Bool) (hc:CmpOf prog w A.in1 .Lt P bt) (D:Addr) (hD:D ∉ fp) (dn:Str) (dv:Value) {s:Shared} {e0:Nat} (hst:St 0 s.heap)
  (hg:s.heap.get? D=some { cls:= .type "list",dict:=none,data:= .seq #[] e0,slots:= #[] })
  (h0:n=0->∀ h' tk,(∀ b o,b ∉ wr->b ≠ D->s.heap.get? b=some o->h'.get? b=some o)->R (.ok (.ret dv)) { s with heap:=h',toks:=tk })
  (hR:0 < n->∀ v h' tk,P (argBest bt (n - 1)) v->(∀ b o,b ∉ wr->b ≠ D->s.heap.get? b=some o->h'.get? b=some o)->R (.ok (.ret v)) { s with heap:=h',toks:=tk }):
  codeAny (model prog w) A (.builtin "min.loop" ⟨[.ref I, .none, .ref D],[(dn,dv)]⟩) R s:=by
 have hDw:D ∉ wr:=fun z=>hD (W.sub _ z)
 refine codeAny_builtin F.entry_min_loop ?_
 rw [Around.under_plainId F.plain_min_loop _]
 show wpAny (model prog w) A.in1 (seqItems? (.ref D) >>= _) _ _ s
 refine wpAny_bind (wpAny_seqItems hg rfl ?_)
 show wpAny (model prog w) A.in1 (tryCatch (pyNext (.ref I)) _ >>= _) _ _ s
 rcases Nat.eq_zero_or_pos n with hz | hp
 ·refine wpAny_bind (wpAny_tryCatch (W.done s _ _ (hz ▸ hst) fun h1 t1 k1=> ?_))
  show wpAny (model prog w) A.in1 (rule _ >>= _) _ _ _
  exact wpAny_bind (wpAny_rule (wpAny_pure (h0 hz h1 t1 fun b o x y z=>k1 b o x z)))
 ·refine wpAny_bind (wpAny_tryCatch (W.item 0 s _ _ hp hst fun v h1 t1 hv hst1 k1=> ?_))
  have hg1:=k1 D _ hDw hg
  show wpAny (model prog w) A.in1 (updateSeq D (fun _=> #[v,v]) >>= _) _ _ _
  refine wpAny_bind (wpAny_updateSeq hg1 rfl ?_)
  rw [ZV]
  refine wpAny_pure ⟨plainId_quiet F.plain_min_loop _,U2 W bt hc D hD _ _ 0 _ v _ rfl hp (W.frame _ _ _ hst1 fun b x o z=> ?_) hv (Heap.get?_update_self _ hg1 rfl) fun v2 h2 t2 hv2 k2=> ?_⟩
  ·exact (Heap.get?_update_other _ _ (fun y:D=b=>hD (by rw [y]; exact x))).trans z
  ·exact hR hp v2 h2 t2 hv2 fun b o x y z=>k2 b o x y ((Heap.get?_update_other _ _ (Ne.symm y)).trans (k1 b o x z))
end
theorem U3 (a v:Value):argsOk "min" ⟨[a],[(Str.ofString "default",v)]⟩:=by unfold argsOk; kernel_rfl
section
variable {prog:Program} {w:World} {A:Around} {E:Value->Shared->Prop} {s:Shared} {l:Addr} {xs:Array (Int×Tok)}
theorem wp {Q:Value->Shared->Prop} {dv:Value} (hh:A.handled=none) (hl:s.heap.IsList l (intItems xs))
  (h0:xs.size=0->∀ h' tk,(∀ b o,s.heap.get? b=some o->h'.get? b=some o)->Q dv { s with heap:=h',toks:=tk })
  (h1:0 < xs.size->∀ v h' tk,(intItems xs)[argBest (fun i j=>decide (numAt xs i < numAt xs j)) (xs.size - 1)]? =some v->(∀ b o,s.heap.get? b=some o->h'.get? b=some o)->Q v { s with heap:=h',toks:=tk }):
  wpAny (model prog w) A (call (.builtin "min") [.ref l] [(Str.ofString "default",dv)]) Q E s:=by
 have hsz:(intItems xs).size=xs.size:=by simp [intItems]
 refine kmb_tree PySem.F.kind_min PySem.F.plain_min PySem.F.entry_min (U3 _ _) ?_
 show wpAny (model prog w) A.in1 (Builtin.Builtins.bindParams "min" ["key","default"] 0 ⟨[],[(Str.ofString "default",dv)]⟩ >>= _) _ _ s
 refine wpAny_bind (wpAny_of_eq (show Builtin.Builtins.bindParams "min" ["key","default"] 0 ⟨[],[(Str.ofString "default",dv)]⟩=pure [none,some dv] from rfl) (wpAny_bind (wpAny_pure ?_)))
 refine wpAny_bind (iter_intList hl fun s2 e2 st hfp hlI=> ?_)
 subst e2
 refine wpAny_bind (wpAny_newObj_type ?_)
 have hlt:l < s.heap.objs.size:=by obtain ⟨_,z,_⟩:=hl; exact Heap.lt_size z
 have W:=Walks.list (prog:=prog) (w:=w) (A:=A.in1) hh s.heap.objs.size l hlI (intItems xs)
 generalize hG:s.heap.push { cls:= .type "list_iterator",data:= .fields #[.ref l, .int 0 0] }=G at st hfp ⊢
 have hDf:G.objs.size ∉ [s.heap.objs.size,l]:=fun z=>Nat.lt_irrefl _ (hfp _ z)
 have kp:∀ h' :Heap,(∀ b o,b ∉ [s.heap.objs.size]->b ≠ G.objs.size->(G.push { cls:= .type "list",data:= .seq ([]:List Value).toArray }).get? b=some o->h'.get? b=some o)->∀ b o,s.heap.get? b=some o->h'.get? b=some o:=fun h' k b o z=>by
  have hb:=Heap.lt_size z
  have hg:G.get? b=some o:=by rw [← hG]; exact Heap.get?_push_of_some _ z
  refine k b o (fun y=> ?_) (fun y=> ?_) (Heap.get?_push_of_some _ hg)
  ·rw [List.mem_singleton.mp y] at hb; exact Nat.lt_irrefl _ hb
  ·have:=Heap.lt_size hg; rw [y] at this; exact Nat.lt_irrefl _ this
 rw [ZV]
 refine wpAny_pure ⟨plainId_quiet F.plain_min_loop _,u9 W _ (CmpOf.ints_lt (numAt xs) (fun _ _=>intItems_at)) G.objs.size hDf _ dv (W.frame _ _ _ st fun b _ o z=>Heap.get?_push_of_some _ z) (Heap.get?_push_size _ rfl) (fun hz h' tk k=> ?_) fun hp v h' tk hv k=> ?_⟩
 ·exact h0 (by omega) h' tk (kp h' k)
 ·exact h1 (by omega) v h' tk (by rw [hsz] at hv; exact hv) (kp h' k)
end
section
variable {X:Cx} {Y:Fx} {a b:Expr} {fa fb:En->R T} {pos p p' pos' pt kp:Pos} {elts:List Expr} {kk:Nat}
theorem yQ {ta tb:TE} (hh:X.A.handled=none) (gl:Gl X "min") (mg:X.mg "min"=none) (ha:PE X a ta) (hb:PE X b tb) (hs:St1 X a):
  PE X (.Call (.Name "min" p) [a] [⟨some "default",b,kp⟩] pos) (fun σ H Q=>ta σ H fun v H1=>tb σ H1 fun u H2=>∃ l xs ts,([v].length=1/\[u].length=1)/\v= .ref l/\H2 l=some (.lst xs)/\zo H2 xs ts/\
   ((ts=[]/\Q u H2)\/∃ i is,Zf ts=some (i :: is)/\Q (.int (ZC (fun a b=>decide (a < b)) i is)) H2)):=by
 intro pins s σ H Q I h
 refine wpAny_Call_Name_kw (Zb I gl mg PyProof.Rows.Boot.«min» ?_ (by decide) (by decide))
 refine callWith_kw (thn (zg (t:=Qq) ha zu hs pos pins s σ H (fun vs H1=>tb σ H1 fun u H2=>∃ l xs ts,(vs.length=1/\[u].length=1)/\vs.headD .non= .ref l/\H2 l=some (.lst xs)/\zo H2 xs ts/\
   ((ts=[]/\Q u H2)\/∃ i is,Zf ts=some (i :: is)/\Q (.int (ZC (fun a b=>decide (a < b)) i is)) H2)) I h) fun us s1 ⟨vs,H1,I1,r1,q1⟩=> ?_) (by rw [hs]; rfl) (by rw [hs]; rfl) rfl rfl
 refine thn (UH (nm:=some "default") (kpos:=kp) (t:=Qq) hb Yy pos pins s1 σ H1 (fun zs H2=>∃ l xs ts,(vs.length=1/\zs.length=1)/\vs.headD .non= .ref l/\H2 l=some (.lst xs)/\zo H2 xs ts/\
   ((ts=[]/\Q (zs.headD .non) H2)\/∃ i is,Zf ts=some (i :: is)/\Q (.int (ZC (fun a b=>decide (a < b)) i is)) H2)) I1 q1) fun ws s2 ⟨zs,H2,I2,rz,l,xs,ts,⟨l1,l2⟩,ev,hl,r,q2⟩=> ?_
 have hu:∃ u,us=[u]/\zJ (.ref l) u:=by
  match vs,r1,l1,ev with
  | [v],r1,_,ev=>obtain rfl:v= .ref l:=ev; exact Zo r1
 have hw:∃ z u,zs=[z]/\ws=[u]/\zJ z u:=by
  match zs,rz,l2 with
  | [z],rz,_=>obtain ⟨u,e,r⟩:=Zo rz; exact ⟨z,u,rfl,e,r⟩
 obtain ⟨u,rfl,ru⟩:=hu
 obtain ⟨z,d,rfl,rfl,rd⟩:=hw
 obtain rfl:u=Value.ref l:=ru
 obtain ⟨its,rv,pl,_⟩:=zv I2 (.inl hl) r
 show wpAny _ _ (call (.builtin "min") [.ref l] [(Str.ofString "default",d)]) _ _ _
 rcases q2 with ⟨rfl,q2⟩ | ⟨i,is,hk,q2⟩
 ·have hn:its=[]:=by
   cases r with
   | nil=>cases rv; rfl
  have e:its.toArray=intItems (#[]:Array (Int×Tok)):=by rw [hn]; simp [intItems]
  rw [e] at pl
  exact wp hh pl (fun _ h' tk k=>⟨z,H2,I2.kept (t' :=tk) k,rd,q2⟩) (fun z=>absurd z (by simp))
 ·obtain ⟨ps,h1,h2⟩:=JP r rv hk
  have e:its.toArray=intItems ps.toArray:=by rw [h1]; simp [intItems]
  rw [e] at pl
  have hlen:ps.length=is.length+1:=by have:=congrArg List.length h2; simpa using this
  refine wp hh pl (fun z=>absurd z (by simp [hlen])) fun _ v h' tk hv k=> ?_
  obtain ⟨t,rfl⟩:=intItems_at hv
  obtain ⟨b1,b2⟩:=argBest_lt (numAt ps.toArray) (ps.toArray.size - 1)
  have hsz:ps.toArray.size=ps.length:=by simp
  rw [hsz] at b1 b2 ⊢
  obtain ⟨m1,m2⟩:=jO is i
  have e2:numAt ps.toArray (argBest (fun i j=>decide (numAt ps.toArray i < numAt ps.toArray j)) (ps.length - 1))=ZC (fun a b=>decide (a < b)) i is:=by
   refine Int.le_antisymm ?_ (m2 _ ?_)
   ·rw [← h2] at m1
    obtain ⟨j,hj,ej⟩:=List.mem_iff_getElem.mp m1
    rw [← ej]
    have hj' :j < ps.length:=by simpa using hj
    rw [← Jm ps j hj']
    exact b2 j (by omega)
   ·rw [Jm ps _ (by omega),← h2]
    exact List.getElem_mem _
  rw [e2]
  exact ⟨.int _,H2,I2.kept (t' :=tk) k,⟨t,rfl⟩,q2⟩
theorem Q3 (hh:X.A.handled=none) (gl:Gl X "min") (mg:X.mg "min"=none) (ha:Zn X Y a fa) (hb:Snd X Y b fb) (hs:St1 X a:=by exact st1 rfl):Snd X Y (.Call (.Name "min" p) [a] [⟨some "default",b,kp⟩] pos) (Q2 fa fb):= .mk fun ρ=>
 PE.imp (yQ hh gl mg (ha ρ) (hb ρ) hs) fun σ H Q ⟨B,I,q⟩=>step I q fun t v H1 _ s1 r1 I1 q1=>step I1 q1 fun t' v' H2 _ s2 r2 I2 q2=>by
  have r1:=r1.mono s2
  cases r1 with
  | @lst l xs ts h r=>
   cases ts with
   | nil=>exact ⟨l,xs,[],⟨rfl,rfl⟩,rfl,h,r, .inl ⟨rfl,po0 I2.sB q2 rfl r2⟩⟩
   | cons t0 ts=>
    have q2:Po Y rC _ H2 (match Zf (t0 :: ts) with | some (i :: l)=> .ok (.int (ZC (fun a b=>decide (a < b)) i l)) | _=> .bad) Q:=q2
    split at q2
    ·rename_i i k e
     exact ⟨l,xs,t0 :: ts,⟨rfl,rfl⟩,rfl,h,r, .inr ⟨i,k,e,po0 I2.sB q2 rfl (.int _)⟩⟩
    ·exact q2.elim
  | _=>exact q2.elim
end
end PV
namespace PV
open PySem PySem.Spec PyProof.Rows L2 PySem.W
section
variable {X:Cx} {Y:Fx} {a b:Expr} {fa fb:En->R T} {pos p p' :Pos}
def ixO (i:Nat) (fb:En->R T):En->R T:=fun ρ=>match ρ[i]? with
 | some (.ow ts)=>(fb ρ).bind fun t=>match t with
  | .int j=>atT ts j
  | _=> .bad
 | _=> .bad
theorem vN {i:Nat} {x:Str} (hv:PE X (.Name x p) (uf i)) (hb:Snd X Y b fb) (hs:Jz b:=by exact fun _ _=>rfl):Snd X Y (.Subscript (.Name x p) b pos) (ixO i fb):= .mk fun ρ=>
 PE.imp (Yz Uc hv (hb ρ) hs) fun σ H Q ⟨B,I,q⟩=>by
  unfold ixO at q
  split at q
  ·rename_i ts e
   obtain ⟨a,xs,e1,_⟩:=I.ow i ts e
   refine ⟨.ref a,e1,step I q fun t' v' H2 _ s2 r2 I2 q2=> ?_⟩
   obtain ⟨a2,xs2,e2,_,_,hh,rr,_⟩:=I2.ow i ts e
   rw [e1] at e2; cases e2
   cases r2 with
   | int j=>
    have q2:Po Y rC _ H2 (atT ts j) Q:=q2
    unfold atT at q2
    split at q2
    ·rename_i t e3
     obtain ⟨w,e4,e5⟩:=wa rr e3
     exact .inl ⟨_,xs2,j,w,rfl,rfl,SqL.of hh,e4,po0 I2.sB q2 rfl e5⟩
    ·exact q2.elim
   | _=>exact q2.elim
  ·exact q.elim
def unS (i:Nat):En->RS:=fun ρ=> .nx (ρ.set i .un)
theorem SI.forget {B:Hp} {ρ:En} {σ:Sg} {H:Hp} (I:SI Y B ρ σ H) (i:Nat) (v:Option V):SI Y B (ρ.set i .un) (σ.set i v) H where
 s0:=I.s0
 sH:=I.sH
 sB:=I.sB
 old:=I.old
 len:=by rw [List.length_set,List.length_set]; exact I.len
 vl:=fun j t h=>by
  rcases zy h with ⟨_,z⟩ | ⟨n,z⟩
  ·cases z
  ·obtain ⟨v',e,r⟩:=I.vl j t z
   exact ⟨v',by rw [List.getElem?_set_ne (Ne.symm n)]; exact e,r⟩
 ow:=fun j ts h=>by
  rcases zy h with ⟨_,z⟩ | ⟨n,z⟩
  ·cases z
  ·obtain ⟨a,xs,e,b0,h0,hh,r,d⟩:=I.ow j ts z
   refine ⟨a,xs,by rw [List.getElem?_set_ne (Ne.symm n)]; exact e,b0,h0,hh,r,fun j' us n' h' => ?_⟩
   rcases zy h' with ⟨_,z'⟩ | ⟨n2,z'⟩
   ·cases z'
   ·rw [List.getElem?_set_ne (Ne.symm n2)]; exact d j' us n' z'
 xc:=fun j c h=>by
  rcases zy h with ⟨_,z⟩ | ⟨n,z⟩
  ·cases z
  ·obtain ⟨a,e,r⟩:=I.xc j c z
   exact ⟨a,by rw [List.getElem?_set_ne (Ne.symm n)]; exact e,r⟩
theorem yR {i:Nat} {x:Str} {dp:Pos} (hN:X.N.Nodup) (hi:X.N[i]? =some x) (hx:L2.Loc X.env.scope x) (hs:swapsWith (.Dict [] [] dp) (some (.Name x p')) pos.line X.env=pure false:=by rfl) (hf:X.fn x=true\/X.env.scope.names.lookup x=some .local:=by first | exact .inl rfl | exact .inr rfl | assumption):
  jI X Y (.Assign [.Name x p'] (.Dict [] [] dp) pos) (unS i):= .mk fun ρ=>by
 have hd:PE X (.Dict [] [] dp) (fun σ H Q=>∀ a,Q (.ref a) H):=fun pins s σ H Q I q=>wpAny_Dict_empty ⟨.ref s.heap.objs.size,H,I.kept (t' :=s.toks) fun b u e=>Heap.get?_push_of_some _ e,rfl,q _⟩
 refine PS.imp (W4 hN hi hx hd hs hf) fun D σ H ⟨B,I,q⟩ a=> ?_
 exact q _ _ B (zi.refl _) (I.forget i _)
def exE (f:En->R T):En->R T:=fun ρ=>match f ρ with
 | .ex c=> .ex c
 | _=> .bad
theorem Q4 {m:Str} {ap cp:Pos} {pl:Sem Bool} (ha:Snd X Y a fa) (gl:Gl X "list") (mg:X.mg "list"=none)
  (ht:eval (.Call (.Attribute a m ap) [] [] cp) X.env=(do
   let ov ← eval a X.env
   standAt ap.atName
   let (f,first) ← holding [ov] (getMethod ov m pl)
   callWith cp f first (backTo cp (starEach [] X.env)) (backToKw cp (keywordEach [] X.env))):=by rfl):
  Snd X Y (.Call (.Name "list" p) [.Call (.Attribute a m ap) [] [] cp] [] pos) (exE fa):= .mk fun ρ=>by
 have h1:PE X (.Call (.Attribute a m ap) [] [] cp) (fun σ H _=>tS Y rC fa ρ σ H fun _ _=>False):=fun pins s σ H Q I q=>
  methodCall_KW (pl:=pl) (thn ((ha ρ) pins s σ H (fun _ _=>False) I q) fun u s1 ⟨x,H1,I1,rx,z⟩=>z.elim) ht
 have h2:Z1 X (.type "list") (fun _ _ _=>False):=fun _ _ _ _ _ _ _ _ _ z=>z.elim
 refine PE.imp (ZX h2 gl mg (PyProof.Rows.Boot.«list») (zg h1 zu (st1 rfl)) (by decide) (by decide) (st1 rfl) rfl) fun σ H Q ⟨B,I,q⟩=>⟨B,I, ?_⟩
 unfold exE at q
 revert q
 cases fa ρ with
 | ok t=>exact fun q=>q.elim
 | bad=>exact fun q=>q
 | ex c=>exact fun q=>q
def yS (i j l:Nat):T->En->R En:=fun t ρ=>match t with
 | .tup [x,y,z]=> .ok (((ρ.set i (.vl x)).set j (.vl y)).set l (.vl z))
 | _=> .bad
theorem Q5 {i j l:Nat} {x y z:Str} {q1 q2 q3 q4:Pos} {k:Nat} (hc:X.calm=true) (hN:X.N.Nodup) (hi:X.N[i]? =some x) (hj:X.N[j]? =some y) (hl:X.N[l]? =some z) (hx:L2.Loc X.env.scope x) (hy:L2.Loc X.env.scope y) (hz:L2.Loc X.env.scope z)
  (hf:X.fn x=true\/X.env.scope.names.lookup x=some .local:=by first | exact .inl rfl | exact .inr rfl | assumption) (hf' :X.fn y=true\/X.env.scope.names.lookup y=some .local:=by first | exact .inl rfl | exact .inr rfl | assumption) (hf2:X.fn z=true\/X.env.scope.names.lookup z=some .local:=by first | exact .inl rfl | exact .inr rfl | assumption):
  qg X Y (.Tuple [.Name x q1, .Name y q2, .Name z q3] k q4) (yS i j l):=by
 refine ⟨QI X.K 3 (ww (jG i) (ww (jG j) (ww (jG l) QH))),jW hc (zM (zp hN hi hx hf) (zM (zp hN hj hy hf') (zM (zp hN hl hz hf2) ZW))),fun B ρ σ H v t Q I r q=> ?_⟩
 cases r with
 | @tup a xs ts h r=>
  cases r with
  | nil=>exact q.elim
  | cons r1 rr=>
   cases rr with
   | nil=>exact q.elim
   | cons r2 rr=>
    cases rr with
    | nil=>exact q.elim
    | cons r3 rr=>
     cases rr with
     | cons _ _=>exact q.elim
     | nil=>
      exact ⟨a,_,rfl,SqT.of (I.sB _ _ h),rfl,_,_,rfl,_,_,rfl,_,_,rfl,rfl,q _ (((I.setV i r1).setV j r2).setV l r3)⟩
 | _=>exact q.elim
end
end PV
namespace PV
open PySem PySem.Spec PyProof.Rows L2
def Vp (fi:En->R (List T)):En->R T:=fun ρ=>(fi ρ).bind fun ts=>match ts with
 | []=> .ok (.lst [])
 | _=> .bad
structure CSn (X:Cx) (scope:Scope):Prop where
 kind:scope.kind= .function
 loc:∀ x∈scope.names,x.2= .local->scope.names.lookup x.1=some .local
 fre:∀ x∈scope.names,x.2= .free->X.env.kindOf x.1=some .cell\/X.env.kindOf x.1=some .free
def Vq (scope sc0:Scope):Bool:=(scope.kind == .function) && scope.names.all (fun x=>x.2 != .local || scope.names.lookup x.1 == some .local) &&
 scope.names.all (fun x=>x.2 != .free || sc0.names.lookup x.1 == some .cell || sc0.names.lookup x.1 == some .free)
theorem Q6 {X:Cx} {scope:Scope} (sc0:Scope) (h0:X.env.scope=sc0) (h:Vq scope sc0=true):CSn X scope:=by
 unfold Vq at h
 simp only [Bool.and_eq_true,List.all_eq_true] at h
 obtain ⟨⟨h1,h3⟩,h4⟩:=h
 refine ⟨eq_of_beq h1,fun x hx hl=> ?_,fun x hx hf=> ?_⟩
 ·have:=h3 x hx
  rw [hl] at this
  simpa using this
 ·have:=h4 x hx
  rw [hf] at this
  show X.env.scope.names.lookup x.1=_\/X.env.scope.names.lookup x.1=_
  rw [h0]
  simpa using this
theorem yT {M:Model} {A:Around} {E:Value->Shared->Prop} {s:Shared} {scope:Scope} {globals:Addr} {closure:List (Str×Addr)} {qual:Str} {outer:Env} {Q:Env->Shared->Prop}
  (hQ:∀ env h',env.locals=s.heap.objs.size->h'.Ns s.heap.objs.size (fun _=>none)->(∀ b o,s.heap.get? b=some o->h'.get? b=some o)->Q env { s with heap:=h' }):
  wpAny M A (newFunctionEnv scope globals closure [] qual none .none (some outer)) Q E s:=by
 simp only [newFunctionEnv,Option.isSome_some,if_true]
 refine wpAny_bind (wpAny_alloc ?_)
 refine wpAny_bind (wpAny_layCells _ (fun name kind cells=>by cases hkc:kind == NameKind.cell <;> simp [hkc]) _ _ _ _ ?_)
 rw [List.forIn_nil]
 refine wpAny_bind (wpAny_pure (wpAny_pure ?_))
 exact hQ _ _ rfl ((Heap.Ns.new s.heap (.type "dict")).keeps (pushCells_keeps _ _)) fun b o e=>pushCells_keeps _ _ b o (Heap.get?_push_of_some _ e)
section
variable {X:Cx} {Y:Fx} {tg iter elt:Expr} {ifs:List Expr} {scope:Scope} {pos:Pos} {fi:En->R (List T)}
theorem yU (S:CSn X scope) (hc:X.calm=true) (hi:wG X Y tg iter fi) (hs:∀ x,foldedSetIterable iter X.env x=pure x:=by intro _; rfl):Snd X Y (.ListComp elt [⟨tg,iter,ifs,0⟩] scope pos) (Vp fi):= .mk fun ρ=>by
 intro pins s σ H Q I ⟨B,J,q⟩
 rw [eval_ListComp]
 obtain ⟨cl,ecl,hcl,hcf⟩:=JH (scope:=scope) (env:=X.env) fun x hx hf=>I.ok.has x.1 (S.fre x hx hf)
 refine wpAny_comprehension_free rfl hs ecl S.kind S.loc ?_
 refine thn (hi ρ pins s σ H (fun J H1=>∀ D,H1 D=none->J.stop 0 (upd H1 D (.lst []))/\Q (.ref D) (upd H1 D (.lst []))) I (step J q fun ts it' H1 _ s1 r1 J1 q1=> ?_)) fun v s1 h1=>thn h1 fun itv s2 h2=> ?_
 ·intro D hD
  cases ts with
  | cons _ _=>exact q1.elim
  | nil=>
   obtain ⟨_,_,hstop⟩:=r1 _ (upd H1 D (.lst [])) (zi.refl _) (J1.sB.trans (zi.new hD _))
   refine ⟨hstop 0 (Nat.le_refl _), ?_⟩
   refine (show Po Y rC _ H1 (.ok (.lst [])) Q from q1) (.ref D) _ (zi.new hD _) ?_
   exact .lst (by rw [zA hD]; exact zh) .nil
 ·obtain ⟨it,fp,tn,J',H2,e,I2,TJ,st2,f2,q2⟩:=h2
  subst e
  refine wpAny_newObj_type ?_
  have hD:H2 s2.heap.objs.size=none:=I2.hok.fresh (Nat.le_refl _)
  obtain ⟨stop,qq⟩:=q2 _ hD
  have I3:L2.Inv X pins σ (upd H2 s2.heap.objs.size (.lst [])) { s2 with heap:=s2.heap.push { cls:= .type "list",data:= .seq ([]:List Value).toArray } }:=
   I2.laid (t' :=s2.toks) (fun b u e=>Heap.get?_push_of_some _ e) (Nat.le_refl _) ⟨Nat.zero_le _,[],_, .nil,Heap.get?_push_size _ rfl⟩
  have f3:∀ b∈fp,jT X pins (upd H2 s2.heap.objs.size (.lst [])) b:=fun b hb=>by
   obtain ⟨o,eo,_⟩:=TJ.obj _ _ st2 b hb
   exact ⟨by rw [zf (Nat.ne_of_lt (Heap.lt_size eo))]; exact (f2 b hb).1,(f2 b hb).2⟩
  have o3:∀ b∈fp,∃ o,(s2.heap.push { cls:= .type "list",data:= .seq ([]:List Value).toArray }).get? b=some o:=fun b hb=>by
   obtain ⟨o,eo,_⟩:=TJ.obj _ _ st2 b hb
   exact ⟨o,Heap.get?_push_of_some _ eo⟩
  have t3:tn 0 (s2.heap.push { cls:= .type "list",data:= .seq ([]:List Value).toArray }):=TJ.keep _ _ _ st2 fun b hb o e=>Heap.get?_push_of_some _ e
  generalize hD' :s2.heap.objs.size=D at*
  generalize hH:upd H2 D (.lst [])=H3 at*
  generalize hG:({ s2 with heap:=s2.heap.push { cls:= .type "list",data:= .seq ([]:List Value).toArray } }:Shared)=s3 at*
  have hg3:s2.heap.push { cls:= .type "list",data:= .seq ([]:List Value).toArray }=s3.heap:=by rw [← hG]
  rw [hg3] at o3 t3
  refine yT fun env h4 el hns k4=> ?_
  have I4:L2.Inv X pins σ H3 { s3 with heap:=h4 }:=I3.kept (t' :=s3.toks) k4
  have fresh:H3 s3.heap.objs.size=none:=I3.hok.fresh (Nat.le_refl _)
  have ho:∃ o,h4.get? s3.heap.objs.size=some o/\∀ v,o.data ≠ .cell v:=by
   obtain ⟨o,es,ep,ho,r,_⟩:=id hns
   refine ⟨o,ho,fun v z=> ?_⟩
   rw [z] at r; cases r
  obtain ⟨o,eo,dc⟩:=ho
  have nf:s3.heap.objs.size ∉ X.fs:=fun z=>by
   obtain ⟨_,o,eo,_⟩:=I3.ok.funs.mem z
   exact absurd (Nat.lt_of_lt_of_le (Heap.lt_size eo) I3.sz) (Nat.lt_irrefl _)
  have I4' :L2.Inv X (pins++[(s3.heap.objs.size,o)]) σ H3 { s3 with heap:=h4 }:=I4.pins_of fun p hp=>by
   rcases List.mem_append.mp hp with z | z
   ·exact I4.pin p (List.mem_append_right _ z)
   ·have e:p=(s3.heap.objs.size,o):=by simpa using z
    subst e
    exact ⟨eo,fresh,Nat.ne_of_gt I3.lt,nf,dc⟩
  have f4:∀ b∈fp,jT X (pins++[(s3.heap.objs.size,o)]) H3 b:=fun b hb=>by
   obtain ⟨q0,q1,q2,q3,q4,q5⟩:=f3 b hb
   obtain ⟨o',eo'⟩:=o3 b hb
   refine ⟨q0,q1,q2,q3,q4,fun p hp=> ?_⟩
   rw [← List.append_assoc] at hp
   rcases List.mem_append.mp hp with z | z
   ·exact q5 p z
   ·have e:p=(s3.heap.objs.size,o):=by simpa using z
    subst e
    exact Nat.ne_of_gt (Heap.lt_size eo')
  have t4:tn 0 h4:=TJ.keep _ _ _ t3 fun b hb o e=>k4 b o e
  have loop:codeAny (model X.prog X.w) X.A (.compLoop (.ListComp elt [⟨tg,iter,ifs,0⟩] scope pos) 0 (.ref it) (.ref D) { env with scope:=relabel scope X.env }) (compPost (model X.prog X.w) X.A X.xe none (EP X pins σ Q) (.ref D) env.locals) { s3 with heap:=h4 }:=by
   refine codeAny_loop rfl (fun _ s' =>s' ={ s3 with heap:=h4 }) (fun n s4 h4' => ?_) 0 rfl
   subst h4'
   show wpAny _ X.A ((compTurn (.ListComp elt [⟨tg,iter,ifs,0⟩] scope pos) 0 (.ref it) (.ref D) _).onRaise (fun x=>do noteFrame x _; theTreesLotGoes x)) _ _ _
   refine wpAny_noted ?_
   rw [compTurn_list]
   refine wpAny_bind (wpAny_standAt (wpAny_bind (thn (TJ.done X rfl rfl rfl hc 0 _ _ σ H3 _ I4' f4 t4 stop) fun r s5 ⟨hr,I5⟩=> ?_)))
   subst hr
   refine wpAny_pure ?_
   rw [el]
   have e5:s5.heap.get? s3.heap.objs.size=some o:=(I5.pin (s3.heap.objs.size,o) (by simp)).1
   have n5:s5.heap.Ns s3.heap.objs.size (fun _=>none):=by
    obtain ⟨o',es,ep,ho,r⟩:=id hns
    rw [ho] at eo; cases eo
    exact ⟨_,es,ep,e5,r⟩
   refine ⟨_,n5,fun h' hsb=>⟨.ref D,H3, ?_,rfl,qq⟩⟩
   exact I5.unpinned.turned (t' :=s5.toks) (fun b o hb e=>hsb.extBut b o hb e) fresh (Nat.ne_of_gt I3.lt) (.inr I3.sz) (fun x c e z=>by
    obtain ⟨v',o,eo,_⟩:=I3.cell x c e
    exact absurd (Heap.lt_size eo) (by rw [z]; exact Nat.lt_irrefl _)) (fun p hp z=>absurd (Heap.lt_size (I3.pin p hp).1) (by rw [z]; exact Nat.lt_irrefl _))
  exact codeAny_compStart_list loop (TJ.self _ _ _ _ _ t4 loop)
end
end PV
namespace G
open PySem PySem.Spec PyProof.Rows L2 PV
def okX (c:Nat):Bool:=[0,1,2,3,4,5,6].contains c
def ZE (c:Nat):Bool:=c == 0
def Zr (c:Nat):Bool:=c == 1
def ZF (c:Nat):Bool:=c == 2
def Zs (c:Nat):Bool:=c == 3
def j6 (c:Nat):Bool:=c == 4
def ZH (c:Nat):Bool:=c == 5
def ZI (c:Nat):Bool:=c == 6
def Z4 (_:Nat):Bool:=true
def b_2:En->RS:=
  zk (Zy 1 (zD (z0 (ZR 0 okX j6) (z0 (ZR 0 okX ZI) (z0 (ZR 0 okX ZE) (z0 (ZR 0 okX ZF) (zb)))))))
  (zk (Zy 1 (zd Zl (vE 1) (zD (z0 (ZR 0 okX ZH) (z0 (ZR 0 okX Zr) (z0 (ZR 0 okX Zs) (zb)))))))
  (zk (ifS (orT (zX neC (Qt vD (vB 1) (cE (.bl true))) (cE (.int 1))) (wW (wX (ZR 0 okX Z4)))) (zw (cE (.str "wrong"))) (nxS))
  (zw (zd ixT (zD (z0 (cE (.str "ended")) (z0 (cE (.str "no back")) (z0 (cE (.str "no kind")) (z0 (cE (.str "no rule")) (z0 (cE (.str "no text")) (z0 (cE (.str "no worth")) (z0 (cE (.str "too many")) (zb))))))))) (Qt vF (vB 1) (cE (.bl true)))))))
def f_2:Nat->R T:=fun c=>zl (b_2  (enC 2 c))
def b_e:En->RS:=
  zw (Zt (ap1 (y7 "int") (vB 0)) (Vm (ap1 (y7 "bool") (vB 0))))
def f_e:List T->R T:=fun ts=>zl (b_e  (en0 1 ts))
def Vr (c_e:List T->R T):En->RS:=
  zw (Zt (za 1 c_e (z0 (vE 0) (zb))) (chE leC leC (UX (cE (.int 50))) (vB 0) (cE (.int 50))))
def Vs:List T->R T:=fun ts=>zl (Vr (f_e) (en0 1 ts))
def b_q:En->RS:=
  zk (ifS (orT (wW (wX (ap1 (y7 "str") (vB 0)))) (wW (chT leC leC (cE (.int 1)) (ap1 ZS (vB 0)) (cE (.int 3))))) (zw (cE (.bl false))) (nxS))
  (zw (ap1 Y4 (Ze (JK (vE 0)) (jo 0) (wH) (chE leC leC (cE (.str "a")) (vB 0) (cE (.str "z"))) 1 [])))
def f_q:List T->R T:=fun ts=>zl (b_q  (en0 1 ts))
def b_j (c_q:List T->R T) (c_j:List T->R T) (c_13:List T->R T):En->RS:=
  zk (ifS (orT (zX eqC (vB 1) (cE (.int 0))) (orT (wW (wX (ap1 (y7 "tuple") (vB 0)))) (zX eqC (ap1 ZS (vB 0)) (cE (.int 0))))) (zw (cE (.bl false))) (nxS))
  (zk (ifS (orT (zX eqC (zd ixT (vE 0) (cE (.int 0))) (cE (.str "sum"))) (zX eqC (zd ixT (vE 0) (cE (.int 0))) (cE (.str "size")))) (zw (Zt (jd eqC (ap1 ZS (vB 0)) (cE (.int 3))) (Zt (za 1 c_13 (z0 (zd ixT (vE 0) (cE (.int 1))) (zb))) (za 1 c_13 (z0 (zd ixT (vE 0) (cE (.int 2))) (zb)))))) (nxS))
  (zk (ifS (zX eqC (zd ixT (vE 0) (cE (.int 0))) (cE (.str "word"))) (zw (Zt (jd eqC (ap1 ZS (vB 0)) (cE (.int 2))) (za 1 c_q (z0 (zd ixT (vE 0) (cE (.int 1))) (zb))))) (nxS))
  (zk (ifS (orT (zX eqC (zd ixT (vE 0) (cE (.int 0))) (cE (.str "rising"))) (zX eqC (zd ixT (vE 0) (cE (.int 0))) (cE (.str "unlike")))) (zw (jd eqC (ap1 ZS (vB 0)) (cE (.int 1)))) (nxS))
  (zk (ifS (zX eqC (zd ixT (vE 0) (cE (.int 0))) (cE (.str "no"))) (zw (Zt (jd eqC (ap1 ZS (vB 0)) (cE (.int 2))) (za 2 c_j (z0 (zd ixT (vE 0) (cE (.int 1))) (z0 (zd uu (vE 1) (cE (.int 1))) (zb)))))) (nxS))
  (zk (ifS (orT (zX eqC (zd ixT (vE 0) (cE (.int 0))) (cE (.str "all"))) (zX eqC (zd ixT (vE 0) (cE (.int 0))) (cE (.str "some")))) (zw (Zt (jd eqC (ap1 ZS (vB 0)) (cE (.int 3))) (Zt (za 2 c_j (z0 (zd ixT (vE 0) (cE (.int 1))) (z0 (zd uu (vE 1) (cE (.int 1))) (zb)))) (za 2 c_j (z0 (zd ixT (vE 0) (cE (.int 2))) (z0 (zd uu (vE 1) (cE (.int 1))) (zb))))))) (nxS))
  (zw (cE (.bl false))))))))
def S_j:Nat->Nat->List T->R T
 | 0,_=>fun _=> .bad
 | n+1,_=>fun ts=>zl (b_j (f_q) (S_j n 0) (Vs) (en0 2 ts))
abbrev f_j (n:Nat):List T->R T:=S_j n 0
def b_7 (c_j:List T->R T):En->RS:=
  zw (za 2 c_j (z0 (vE 0) (z0 (cE (.int 3)) (zb))))
def f_7:List T->R T:=fun ts=>zl (b_7 (f_j 8) (en0 1 ts))
def b_3 (c_7:List T->R T):En->RS:=
  ifS (wW (wX (za 1 c_7 (z0 (vE 0) (zb))))) (jq 2) (nxS)
def f_3:List T->R T:=fun ts=>zl (b_3 (f_7) (en0 1 ts))
def b_a (c_3:List T->R T):En->RS:=
  zk (ifS (wW (wX (ap1 (qP "list" "tuple") (vE 0)))) (jq 2) (nxS))
  (ya (JK (vE 0)) (jo 1) (Zp (za 1 c_3 (z0 (vE 1) (zb)))))
def f_a:List T->R T:=fun ts=>zl (b_a (f_3) (en0 2 ts))
def j7:List T->R T:=fun _=> .bad
def Vt (c_e:List T->R T):En->RS:=
  zw (Zt (za 1 c_e (z0 (vE 0) (zb))) (Zt (za 1 c_e (z0 (vE 1) (zb))) (Vl leC leC leC (vB 2) (vB 0) (vB 1) (vB 3))))
def Vu:List T->R T:=fun ts=>zl (Vt (f_e) (en0 4 ts))
def b_d:En->RS:=
  zw (Zt (ap1 (y7 "tuple") (vB 0)) (chE leC leC (vB 1) (ap1 ZS (vB 0)) (vB 2)))
def f_d:List T->R T:=fun ts=>zl (b_d  (en0 3 ts))
def Vv (c_e:List T->R T) (c_d:List T->R T) (c_q:List T->R T):En->RS:=
  zw (Zt (za 3 c_d (z0 (vE 0) (z0 (cE (.int 2)) (z0 (cE (.int 2)) (zb))))) (Zt (za 1 c_q (z0 (zd ixT (vE 0) (cE (.int 0))) (zb))) (Zt (za 1 c_e (z0 (zd ixT (vE 0) (cE (.int 1))) (zb))) (chE leC leC (cE (.int 1)) (zd ixT (vE 0) (cE (.int 1))) (cE (.int 20))))))
def Vw:List T->R T:=fun ts=>zl (Vv (f_e) (f_d) (f_q) (en0 1 ts))
def b_x (c_d:List T->R T) (c_16:List T->R T):En->RS:=
  zk (ifS (orT (wW (wX (za 3 c_d (z0 (vE 0) (z0 (cE (.int 1)) (z0 (cE (.int 4)) (zb))))))) (wW (wX (ap1 Y4 (Ze (JK (vE 0)) (jo 0) (wH) (za 1 c_16 (z0 (vE 0) (zb))) 1 []))))) (zw (cE (.bl false))) (nxS))
  (zk (Zy 1 (Ze (JK (vE 0)) (jo 0) (wH) (zd ixT (vE 0) (cE (.int 0))) 1 []))
  (zw (jd eqC (ap1 qu (vB 1)) (ap1 ZS (vB 1)))))
def f_x:List T->R T:=fun ts=>zl (b_x (f_d) (Vw) (en0 2 ts))
def b_c (c_14:List T->R T) (c_c:List T->R T) (c_x:List T->R T) (c_11:List T->R T):En->RS:=
  zk (ifS (orT (zX eqC (vB 1) (cE (.int 0))) (orT (wW (wX (ap1 (y7 "tuple") (vB 0)))) (zX eqC (ap1 ZS (vB 0)) (cE (.int 0))))) (zw (cE (.bl false))) (nxS))
  (zk (ifS (zX eqC (zd ixT (vE 0) (cE (.int 0))) (cE (.str "whole"))) (zw (Zt (jd eqC (ap1 ZS (vB 0)) (cE (.int 3))) (za 4 c_14 (z0 (zd ixT (vE 0) (cE (.int 1))) (z0 (zd ixT (vE 0) (cE (.int 2))) (z0 (UX (cE (.int 20))) (z0 (cE (.int 20)) (zb)))))))) (nxS))
  (zk (ifS (zX eqC (zd ixT (vE 0) (cE (.int 0))) (cE (.str "pick"))) (zw (Zt (jd eqC (ap1 ZS (vB 0)) (cE (.int 2))) (za 1 c_x (z0 (zd ixT (vE 0) (cE (.int 1))) (zb))))) (nxS))
  (zk (ifS (zX eqC (zd ixT (vE 0) (cE (.int 0))) (cE (.str "row"))) (zw (Zt (jd eqC (ap1 ZS (vB 0)) (cE (.int 2))) (za 2 c_11 (z0 (zd ixT (vE 0) (cE (.int 1))) (z0 (zd uu (vE 1) (cE (.int 1))) (zb)))))) (nxS))
  (zk (ifS (zX eqC (zd ixT (vE 0) (cE (.int 0))) (cE (.str "many"))) (zw (Zt (jd eqC (ap1 ZS (vB 0)) (cE (.int 4))) (Zt (za 4 c_14 (z0 (zd ixT (vE 0) (cE (.int 2))) (z0 (zd ixT (vE 0) (cE (.int 3))) (z0 (cE (.int 0)) (z0 (cE (.int 3)) (zb)))))) (za 2 c_c (z0 (zd ixT (vE 0) (cE (.int 1))) (z0 (zd uu (vE 1) (cE (.int 1))) (zb))))))) (nxS))
  (zw (cE (.bl false)))))))
def Vx (c_d:List T->R T) (c_c:List T->R T):En->RS:=
  zw (Zt (za 3 c_d (z0 (vE 0) (z0 (cE (.int 1)) (z0 (cE (.int 3)) (zb))))) (ap1 Y4 (Ze (JK (vE 0)) (jo 0) (wH) (za 2 c_c (z0 (vE 0) (z0 (vE 1) (zb)))) 1 [1])))
def S_c:Nat->Nat->List T->R T
 | 0,_=>fun _=> .bad
 | n+1,0=>fun ts=>zl (b_c (Vu) (S_c n 0) (f_x) (S_c n 1) (en0 2 ts))
 | n+1,_=>fun ts=>zl (Vx (f_d) (S_c n 0) (en0 2 ts))
abbrev f_c (n:Nat):List T->R T:=S_c n 0
abbrev xS (n:Nat):List T->R T:=S_c n 1
def b_6 (c_c:List T->R T):En->RS:=
  zw (za 2 c_c (z0 (vE 0) (z0 (cE (.int 3)) (zb))))
def f_6:List T->R T:=fun ts=>zl (b_6 (f_c 20) (en0 1 ts))
def b_9 (c_6:List T->R T):En->RS:=
  ifS (wW (wX (za 1 c_6 (z0 (vE 0) (zb))))) (jq 0) (nxS)
def f_9:List T->R T:=fun ts=>zl (b_9 (f_6) (en0 1 ts))
def b_4 (c_v:List T->R T) (c_o:List T->R T):En->RS:=
  zk (ifS (zX eqC (zd ixT (vE 0) (cE (.int 0))) (cE (.str "whole"))) (zw (zd Zl (zd uu (zd ixT (vE 0) (cE (.int 2))) (zd ixT (vE 0) (cE (.int 1)))) (cE (.int 1)))) (nxS))
  (zk (ifS (zX eqC (zd ixT (vE 0) (cE (.int 0))) (cE (.str "pick"))) (zw (ap1 ZS (zd ixT (vE 0) (cE (.int 1))))) (nxS))
  (zk (ifS (zX eqC (zd ixT (vE 0) (cE (.int 0))) (cE (.str "row"))) (zw (za 1 c_v (z0 (zd ixT (vE 0) (cE (.int 1))) (zb)))) (nxS))
  (zw (za 2 c_o (z0 (vE 0) (z0 (zd Zl (zd ixT (vE 0) (cE (.int 3))) (cE (.int 1))) (zb)))))))
def b_v (c_4:List T->R T):En->RS:=
  zk (Zy 1 (cE (.int 1)))
  (zk (ya (JK (vE 0)) (jo 2) (Zy 1 (zd Z3 (vE 1) (za 1 c_4 (z0 (vE 2) (zb))))))
  (zw (vE 1)))
def b_o (c_v:List T->R T):En->RS:=
  zw (ap1 Qu (Ze (qd (zd ixT (vE 0) (cE (.int 2))) (vE 1)) (jo 0) (wH) (za 1 c_v (z0 (zd Z3 (zD (z0 (zd ixT (vE 1) (cE (.int 1))) (zb))) (vE 0)) (zb))) 1 [0]))
def S_4:Nat->Nat->List T->R T
 | 0,_=>fun _=> .bad
 | n+1,0=>fun ts=>zl (b_4 (S_4 n 1) (S_4 n 2) (en0 1 ts))
 | n+1,1=>fun ts=>zl (b_v (S_4 n 0) (en0 3 ts))
 | n+1,_=>fun ts=>zl (b_o (S_4 n 1) (en0 2 ts))
abbrev f_4 (n:Nat):List T->R T:=S_4 n 0
abbrev f_v (n:Nat):List T->R T:=S_4 n 1
abbrev f_o (n:Nat):List T->R T:=S_4 n 2
def b_p:En->RS:=
  zw (Ze (JK (zd ixT (vE 0) (cE (.int 1)))) (jo 0) (wH) (zd ixT (vE 0) (cE (.int 0))) 1 [])
def f_p:List T->R T:=fun ts=>zl (b_p  (en0 1 ts))
def b_f (c_p:List T->R T) (c_19:List T->R T) (c_w:List T->R T):En->RS:=
  zk (ifS (zX eqC (zd ixT (vE 0) (cE (.int 0))) (cE (.str "whole"))) (zw (zd Zl (zd ixT (vE 0) (cE (.int 1))) (vE 1))) (nxS))
  (zk (ifS (zX eqC (zd ixT (vE 0) (cE (.int 0))) (cE (.str "pick"))) (zw (zd ixT (za 1 c_p (z0 (vE 0) (zb))) (vE 1))) (nxS))
  (zk (ifS (zX eqC (zd ixT (vE 0) (cE (.int 0))) (cE (.str "row"))) (zw (za 2 c_w (z0 (zd ixT (vE 0) (cE (.int 1))) (z0 (vE 1) (zb))))) (nxS))
  (zw (za 2 c_19 (z0 (vE 0) (z0 (vE 1) (zb)))))))
def Vy (c_o:List T->R T) (c_w:List T->R T):En->RS:=
  zk (Zy 2 (zd ixT (vE 0) (cE (.int 2))))
  (zk (Zw (zX leC (za 2 c_o (z0 (vE 0) (z0 (zd Zl (vE 2) (cE (.int 1))) (zb)))) (vB 1)) (Zy 2 (zd Zl (vE 2) (cE (.int 1)))) (8))
  (zw (za 2 c_w (z0 (zd Z3 (zD (z0 (zd ixT (vE 0) (cE (.int 1))) (zb))) (vE 2)) (z0 (zd uu (vE 1) (za 2 c_o (z0 (vE 0) (z0 (vE 2) (zb))))) (zb))))))
def b_w (c_4:List T->R T) (c_f:List T->R T):En->RS:=
  zk (Ju 2 (zb))
  (zk (Zy 3 (vE 1))
  (zk (ya (Vo (vE 0)) (jo 4) (zk (Zy 5 (za 1 c_4 (z0 (vE 4) (zb))))
  (zk (zT 2 (za 2 c_f (z0 (vE 4) (z0 (zd ZP (vE 3) (vE 5)) (zb)))))
  (Zy 3 (zd JE (vE 3) (vE 5))))))
  (zw (ap1 qM (vE 2)))))
def S_f:Nat->Nat->List T->R T
 | 0,_=>fun _=> .bad
 | n+1,0=>fun ts=>zl (b_f (f_p) (S_f n 1) (S_f n 2) (en0 2 ts))
 | n+1,1=>fun ts=>zl (Vy (f_o 20) (S_f n 2) (en0 3 ts))
 | n+1,_=>fun ts=>zl (b_w (f_4 20) (S_f n 0) (en0 6 ts))
abbrev f_f (n:Nat):List T->R T:=S_f n 0
abbrev xT (n:Nat):List T->R T:=S_f n 1
abbrev f_w (n:Nat):List T->R T:=S_f n 2
def b_g (c_9:List T->R T) (c_4:List T->R T) (c_f:List T->R T):En->RS:=
  zk (Zp (za 1 c_9 (z0 (vE 0) (zb))))
  (zk (Zy 1 (za 1 c_4 (z0 (vE 0) (zb))))
  (zk (ifS (zX gtC (vB 1) (cE (.int 500))) (jq 3) (nxS))
  (zw (Ze (uC (vE 1)) (jo 0) (wH) (za 2 c_f (z0 (vE 1) (z0 (vE 0) (zb)))) 1 [0]))))
def f_g:List T->R T:=fun ts=>zl (b_g (f_9) (f_4 20) (f_f 20) (en0 2 ts))
def b_n (c_g:List T->R T) (c_3:List T->R T) (c_is_kept:List T->R T):En->RS:=
  zk (Zp (za 1 c_3 (z0 (vE 1) (zb))))
  (zw (Ze (JK (za 1 c_g (z0 (vE 0) (zb)))) (jo 0) (wX (za 2 c_is_kept (z0 (vE 1) (z0 (vE 0) (zb))))) (vE 0) 1 [1]))
def f_n:List T->R T:=fun ts=>zl (b_n (f_g) (f_3) (j7) (en0 2 ts))
def b_k (c_is_kept:List T->R T) (c_n:List T->R T) (c_a:List T->R T):En->RS:=
  zk (Zp (za 1 c_a (z0 (zn (z0 (vE 1) (z0 (vE 2) (zb)))) (zb))))
  (zw (ap1 Y4 (Ze (JK (za 2 c_n (z0 (vE 0) (z0 (vE 1) (zb))))) (jo 0) (wH) (za 2 c_is_kept (z0 (vE 1) (z0 (vE 0) (zb)))) 1 [2])))
def f_k:List T->R T:=fun ts=>zl (b_k (j7) (f_n) (f_a) (en0 3 ts))
def U4:List T->R T:=fun _=> .bad
def b_s (c_g:List T->R T):En->RS:=
  zk (unS 2)
  (zk (ya (JK (za 1 c_g (z0 (vE 0) (zb)))) (jo 3) (vG))
  (zw (vE 2)))
def f_s:List T->R T:=fun ts=>zl (b_s (f_g) (en0 4 ts))
def ZJ:List T->R T:=fun _=> .bad
def b_m (c_a:List T->R T) (c_s:List T->R T):En->RS:=
  zk (Zp (za 1 c_a (z0 (vE 1) (zb))))
  (zk (Zy 2 (za 2 c_s (z0 (vE 0) (z0 (vE 1) (zb)))))
  (vG))
def f_m:List T->R T:=fun ts=>zl (b_m (f_a) (f_s) (en0 3 ts))
def b_l (c_a:List T->R T) (c_s:List T->R T):En->RS:=
  zk (Zp (za 1 c_a (z0 (vE 1) (zb))))
  (zw (exE (za 2 c_s (z0 (vE 0) (z0 (vE 1) (zb))))))
def f_l:List T->R T:=fun ts=>zl (b_l (f_a) (f_s) (en0 2 ts))
def Vz:En->RS:=
  zw (Vp (JK (vE 1)))
def VA:List T->R T:=fun ts=>zl (Vz  (en0 2 ts))
def b_i (c_g:List T->R T) (c_a:List T->R T) (c_12:List T->R T):En->RS:=
  zk (Zp (za 1 c_a (z0 (vE 1) (zb))))
  (zk (Zy 2 (za 2 c_12 (z0 (za 1 c_g (z0 (vE 0) (zb))) (z0 (vE 1) (zb)))))
  (zk (Zy 3 (Q2 (vB 2) (cE (.int 0))))
  (zw (Ze (qr (vE 2)) (Jf 0 1) (zX eqC (vB 1) (vB 2)) (vE 0) 2 [3]))))
def f_i:List T->R T:=fun ts=>zl (b_i (f_g) (f_a) (VA) (en0 4 ts))
def jw:List T->R T:=fun _=> .bad
def b_b (c_9:List T->R T) (c_depth_of:List T->R T):En->RS:=
  zk (Zp (za 1 c_9 (z0 (vE 0) (zb))))
  (zw (za 1 c_depth_of (z0 (vE 0) (zb))))
def f_b:List T->R T:=fun ts=>zl (b_b (f_9) (jw) (en0 1 ts))
def jx:List T->R T:=fun _=> .bad
def b_y (c_9:List T->R T) (c_words_of:List T->R T):En->RS:=
  zk (Zp (za 1 c_9 (z0 (vE 0) (zb))))
  (zw (ap1 qU (za 1 c_words_of (z0 (vE 0) (zb)))))
def f_y:List T->R T:=fun ts=>zl (b_y (f_9) (jx) (en0 1 ts))
def b_5 (c_5:List T->R T) (c_18:List T->R T):En->RS:=
  zk (ifS (zX eqC (zd ixT (vE 0) (cE (.int 0))) (cE (.str "whole"))) (zw (zn (z0 (zd ixT (vE 0) (cE (.int 1))) (z0 (zd ixT (vE 0) (cE (.int 2))) (zb))))) (nxS))
  (zk (ifS (zX eqC (zd ixT (vE 0) (cE (.int 0))) (cE (.str "pick"))) (zw (zn (z0 (cE (.int 0)) (z0 (cE (.int 0)) (zb))))) (nxS))
  (zk (ifS (zX eqC (zd ixT (vE 0) (cE (.int 0))) (cE (.str "row"))) (zk (Zy 1 (Ze (JK (zd ixT (vE 0) (cE (.int 1)))) (jo 0) (wH) (za 1 c_5 (z0 (vE 0) (zb))) 1 []))
  (zw (zn (z0 (ap1 Qu (Ze (JK (vE 1)) (Jf 0 1) (wH) (vE 0) 2 [])) (z0 (ap1 Qu (Ze (JK (vE 1)) (Jf 0 1) (wH) (vE 1) 2 [])) (zb)))))) (nxS))
  (zw (za 1 c_18 (z0 (vE 0) (zb))))))
def VB (c_5:List T->R T):En->RS:=
  zk (Zy 1 (za 1 c_5 (z0 (zd ixT (vE 0) (cE (.int 1))) (zb))))
  (zw (zn (z0 (zd YT (zd Z3 (zd ixT (vE 0) (cE (.int 2))) (zd ixT (vE 1) (cE (.int 0)))) (zd Z3 (zd ixT (vE 0) (cE (.int 3))) (zd ixT (vE 1) (cE (.int 0))))) (z0 (zd qS (zd Z3 (zd ixT (vE 0) (cE (.int 2))) (zd ixT (vE 1) (cE (.int 1)))) (zd Z3 (zd ixT (vE 0) (cE (.int 3))) (zd ixT (vE 1) (cE (.int 1))))) (zb)))))
def S_5:Nat->Nat->List T->R T
 | 0,_=>fun _=> .bad
 | n+1,0=>fun ts=>zl (b_5 (S_5 n 0) (S_5 n 1) (en0 2 ts))
 | n+1,_=>fun ts=>zl (VB (S_5 n 0) (en0 2 ts))
abbrev f_5 (n:Nat):List T->R T:=S_5 n 0
abbrev xU (n:Nat):List T->R T:=S_5 n 1
def b_1 (c_9:List T->R T) (c_5:List T->R T):En->RS:=
  zk (Zp (za 1 c_9 (z0 (vE 0) (zb))))
  (zw (za 1 c_5 (z0 (vE 0) (zb))))
def f_1:List T->R T:=fun ts=>zl (b_1 (f_9) (f_5 8) (en0 1 ts))
def j8:List T->R T:=fun _=> .bad
def b_8 (c_9:List T->R T) (c_mirror_of:List T->R T):En->RS:=
  zk (Zp (za 1 c_9 (z0 (vE 0) (zb))))
  (zw (za 1 c_mirror_of (z0 (vE 0) (zb))))
def f_8:List T->R T:=fun ts=>zl (b_8 (f_9) (j8) (en0 1 ts))
def b_h (c_e:List T->R T) (c_d:List T->R T) (c_p:List T->R T) (c_10:List T->R T):En->RS:=
  zk (ifS (zX eqC (zd ixT (vE 0) (cE (.int 0))) (cE (.str "whole"))) (zw (Zt (za 1 c_e (z0 (vE 1) (zb))) (chE leC leC (zd ixT (vE 0) (cE (.int 1))) (vB 1) (zd ixT (vE 0) (cE (.int 2)))))) (nxS))
  (zk (ifS (zX eqC (zd ixT (vE 0) (cE (.int 0))) (cE (.str "pick"))) (zw (jd inC (vB 1) (za 1 c_p (z0 (vE 0) (zb))))) (nxS))
  (zk (ifS (zX eqC (zd ixT (vE 0) (cE (.int 0))) (cE (.str "row"))) (zw (Zt (za 3 c_d (z0 (vE 1) (z0 (ap1 ZS (zd ixT (vE 0) (cE (.int 1)))) (z0 (ap1 ZS (zd ixT (vE 0) (cE (.int 1)))) (zb))))) (za 2 c_10 (z0 (zd ixT (vE 0) (cE (.int 1))) (z0 (vE 1) (zb)))))) (nxS))
  (zw (Zt (za 3 c_d (z0 (vE 1) (z0 (zd ixT (vE 0) (cE (.int 2))) (z0 (zd ixT (vE 0) (cE (.int 3))) (zb))))) (za 2 c_10 (z0 (zd Z3 (zD (z0 (zd ixT (vE 0) (cE (.int 1))) (zb))) (ap1 ZS (vB 1))) (z0 (vE 1) (zb))))))))
def VC (c_h:List T->R T):En->RS:=
  zw (ap1 Y4 (Ze (Vn (vE 0) (vE 1)) (Jf 0 1) (wH) (za 2 c_h (z0 (vE 0) (z0 (vE 1) (zb)))) 2 []))
def S_h:Nat->Nat->List T->R T
 | 0,_=>fun _=> .bad
 | n+1,0=>fun ts=>zl (b_h (f_e) (f_d) (f_p) (S_h n 1) (en0 2 ts))
 | n+1,_=>fun ts=>zl (VC (S_h n 0) (en0 2 ts))
abbrev f_h (n:Nat):List T->R T:=S_h n 0
abbrev xV (n:Nat):List T->R T:=S_h n 1
def VD (c_9:List T->R T) (c_h:List T->R T):En->RS:=
  zk (Zp (za 1 c_9 (z0 (vE 0) (zb))))
  (zw (za 2 c_h (z0 (vE 0) (z0 (vE 1) (zb)))))
def VE:List T->R T:=fun ts=>zl (VD (f_9) (f_h 20) (en0 2 ts))
def VF (c_17:List T->R T):En->RS:=
  ifS (wW (wX (za 2 c_17 (z0 (vE 0) (z0 (vE 1) (zb)))))) (jq 1) (nxS)
def VG:List T->R T:=fun ts=>zl (VF (VE) (en0 2 ts))
def Z7:List T->R T:=fun _=> .bad
def b_r (c_15:List T->R T) (c_mirror_of_worth:List T->R T):En->RS:=
  zk (Zp (za 2 c_15 (z0 (vE 0) (z0 (vE 1) (zb)))))
  (zw (za 1 c_mirror_of_worth (z0 (vE 1) (zb))))
def f_r:List T->R T:=fun ts=>zl (b_r (VG) (Z7) (en0 2 ts))
def b_u (c_n:List T->R T) (c_a:List T->R T):En->RS:=
  zk (Zp (za 1 c_a (z0 (zn (z0 (vE 1) (z0 (vE 2) (zb)))) (zb))))
  (zw (jd eqC (za 2 c_n (z0 (vE 0) (z0 (vE 1) (zb)))) (za 2 c_n (z0 (vE 0) (z0 (vE 2) (zb))))))
def f_u:List T->R T:=fun ts=>zl (b_u (f_n) (f_a) (en0 3 ts))
def b_z:En->RS:=
  zk (ifS (zX ltC (vB 1) (ap1 ZS (vB 0))) (zw (zd ixT (vE 0) (vE 1))) (nxS))
  (zk (ifS (zX eqC (vB 0) (zD (zb))) (zw (cE (.int 0))) (nxS))
  (zw (zd Zl (zd Z3 (zd ixT (vE 0) (zd ZP (vE 1) (ap1 ZS (vB 0)))) (cE (.int 31))) (vE 1))))
def f_z:List T->R T:=fun ts=>zl (b_z  (en0 2 ts))
def b_t (c_z:List T->R T):En->RS:=
  zk (Zy 3 (zd ZP (zd Z3 (zd Zl (za 2 c_z (z0 (vE 0) (z0 (vE 1) (zb)))) (zd Z3 (cE (.int 6151)) (zd Zl (vE 1) (cE (.int 1))))) (cE (.int 40692))) (cE (.int 2147483399))))
  (zw (zd ZP (zd ZP (zd Zl (zd Z3 (vE 3) (vE 3)) (zd JE (vE 3) (cE (.int 31)))) (cE (.int 2147483629))) (vE 2)))
def f_t:List T->R T:=fun ts=>zl (b_t (f_z) (en0 4 ts))
def b_0 (c_t:List T->R T) (c_b:List T->R T) (c_y:List T->R T) (c_1:List T->R T) (c_8:List T->R T) (c_r:List T->R T) (c_k:List T->R T) (c_u:List T->R T) (c_m:List T->R T) (c_l:List T->R T) (c_i:List T->R T) (c_2:Nat->R T):En->RS:=
  zk (Ju 1 (z0 (cE .non) (z0 (zn (zb)) (z0 (zn (z0 (cE (.str "whole")) (z0 (cE (.int 1)) (z0 (cE (.int 0)) (zb))))) (z0 (zn (z0 (cE (.str "whole")) (z0 (UX (cE (.int 21))) (z0 (cE (.int 0)) (zb))))) (z0 (zn (z0 (cE (.str "pick")) (z0 (zn (zb)) (zb)))) (z0 (zn (z0 (cE (.str "pick")) (z0 (zn (z0 (zn (z0 (cE (.str "a")) (z0 (cE (.int 0)) (zb)))) (zb))) (zb)))) (zb))))))))
  (zk (Y5 1 (zD (z0 (zn (z0 (cE (.str "row")) (z0 (zn (zb)) (zb)))) (z0 (zn (z0 (cE (.str "many")) (z0 (zn (z0 (cE (.str "whole")) (z0 (cE (.int 0)) (z0 (cE (.int 1)) (zb))))) (z0 (cE (.int 2)) (z0 (cE (.int 4)) (zb)))))) (zb)))))
  (zk (Ju 2 (z0 (cE .non) (z0 (zn (zb)) (z0 (zn (z0 (cE (.str "sum")) (z0 (cE (.int 1)) (zb)))) (z0 (zn (z0 (cE (.str "sum")) (z0 (UX (cE (.int 51))) (z0 (cE (.int 0)) (zb))))) (z0 (zn (z0 (cE (.str "size")) (z0 (cE (.int 0)) (z0 (cE (.bl true)) (zb))))) (z0 (zn (z0 (cE (.str "word")) (z0 (cE (.str "abcd")) (zb)))) (z0 (zn (z0 (cE (.str "no")) (zb))) (zb)))))))))
  (zk (Y5 2 (zD (z0 (zn (z0 (cE (.str "all")) (z0 (zn (z0 (cE (.str "rising")) (zb))) (zb)))) (z0 (cE (.str "rising")) (z0 (cE (.int 5)) (zb))))))
  (zk (vM (zn (z0 (zn (z0 (cE (.str "row")) (z0 (zn (z0 (zn (z0 (cE (.str "whole")) (z0 (cE (.int 0)) (z0 (cE (.int 2)) (zb))))) (z0 (zn (z0 (cE (.str "pick")) (z0 (zn (z0 (zn (z0 (cE (.str "a")) (z0 (cE (.int 1)) (zb)))) (zb))) (zb)))) (zb)))) (zb)))) (z0 (zn (z0 (cE (.str "many")) (z0 (zn (z0 (cE (.str "whole")) (z0 (cE (.int 0)) (z0 (cE (.int 9)) (zb))))) (z0 (cE (.int 3)) (z0 (cE (.int 3)) (zb)))))) (z0 (zn (z0 (cE (.str "rising")) (zb))) (zb))))) (yS 3 4 5))
  (zk (ya (uC (cE (.int 4))) (jo 6) (zk (Zy 7 (ixO 1 (zd ZP (zd Zl (za 3 c_t (z0 (vE 0) (z0 (cE (.int 0)) (z0 (cE (.int 8)) (zb))))) (zd Z3 (cE (.int 3)) (vE 6))) (cE (.int 8)))))
  (zk (Zy 8 (ixO 2 (zd ZP (zd Zl (za 3 c_t (z0 (vE 0) (z0 (cE (.int 1)) (z0 (cE (.int 10)) (zb))))) (zd Z3 (cE (.int 3)) (vE 6))) (cE (.int 10)))))
  (zk (Ju 9 (z0 (zj [7] okX c_2 (za 1 c_b (z0 (vE 0) (zb)))) (zb)))
  (zk (zT 9 (zj [7] okX c_2 (za 1 c_y (z0 (vE 0) (zb)))))
  (zk (zT 9 (zj [7] okX c_2 (za 1 c_1 (z0 (vE 0) (zb)))))
  (zk (zT 9 (zj [7] okX c_2 (za 1 c_8 (z0 (vE 0) (zb)))))
  (zk (zT 9 (zj [7] okX c_2 (za 2 c_r (z0 (vE 0) (z0 (cE .non) (zb))))))
  (zk (zT 9 (zj [5,7] okX c_2 (za 3 c_k (z0 (vE 1) (z0 (vE 0) (z0 (vE 0) (zb)))))))
  (zk (zT 9 (zj [5,7] okX c_2 (za 3 c_u (z0 (vE 1) (z0 (vE 0) (z0 (vE 0) (zb)))))))
  (zk (zT 9 (zj [7] okX c_2 (za 2 c_m (z0 (vE 0) (z0 (zD (zb)) (zb))))))
  (zk (zT 9 (zj [5,7] okX c_2 (za 2 c_l (z0 (vE 1) (z0 (zD (z0 (vE 0) (zb))) (zb))))))
  (zk (zT 9 (zj [5,7] okX c_2 (za 2 c_i (z0 (vE 1) (z0 (zn (z0 (vE 0) (zb))) (zb))))))
  (zk (ifS (zX neC (vB 9) (zd Z3 (zD (z0 (cE (.str "no kind")) (zb))) (cE (.int 10)))) (zw (cE (.bl false))) (nxS))
  (zk (Ju 9 (z0 (zj [5,7,8] okX c_2 (za 3 c_k (z0 (vE 1) (z0 (vE 0) (z0 (vE 2) (zb)))))) (zb)))
  (zk (zT 9 (zj [5,7,8] okX c_2 (za 3 c_u (z0 (vE 1) (z0 (vE 2) (z0 (vE 0) (zb)))))))
  (zk (zT 9 (zj [4,5,8] okX c_2 (za 2 c_m (z0 (vE 0) (z0 (zD (z0 (vE 1) (z0 (vE 2) (zb)))) (zb))))))
  (zk (zT 9 (zj [3,8] okX c_2 (za 2 c_l (z0 (vE 0) (z0 (zn (z0 (vE 1) (zb))) (zb))))))
  (zk (zT 9 (zj [5,7,8] okX c_2 (za 2 c_i (z0 (vE 1) (z0 (zD (z0 (vE 2) (z0 (vE 0) (zb)))) (zb))))))
  (zk (ifS (zX neC (vB 9) (zd Z3 (zD (z0 (cE (.str "no rule")) (zb))) (cE (.int 5)))) (zw (cE (.bl false))) (nxS))
  (ifS (zX neC (zj [3,6] okX c_2 (za 2 c_r (z0 (vE 0) (z0 (zd ixT (zD (z0 (zn (z0 (cE (.int 3)) (z0 (cE (.str "a")) (zb)))) (z0 (zn (z0 (cE (.int 0)) (z0 (cE (.str "b")) (zb)))) (z0 (zn (z0 (cE (.int 0)) (zb))) (z0 (zD (z0 (cE (.int 0)) (z0 (cE (.str "a")) (zb)))) (zb)))))) (vE 1)) (zb))))) (cE (.str "no worth"))) (zw (cE (.bl false))) (nxS))))))))))))))))))))))
  (zk (Ju 9 (z0 (zj [4,5] okX c_2 (za 3 c_k (z0 (vE 0) (z0 (vE 1) (z0 (vE 1) (zb)))))) (zb)))
  (zk (zT 9 (zj [4,5] okX c_2 (za 2 c_m (z0 (vE 0) (z0 (zD (z0 (vE 1) (zb))) (zb))))))
  (zk (zT 9 (zj [4] okX c_2 (za 2 c_l (z0 (vE 0) (z0 (zD (zb)) (zb))))))
  (zk (zT 9 (zj [4] okX c_2 (za 2 c_i (z0 (vE 0) (z0 (zD (zb)) (zb))))))
  (zw (Zt (jd eqC (vB 9) (zd Z3 (zD (z0 (cE (.str "too many")) (zb))) (cE (.int 4)))) (Zt (jd eqC (za 1 c_1 (z0 (vE 4) (zb))) (zn (z0 (cE (.int 0)) (z0 (cE (.int 27)) (zb))))) (jd eqC (za 2 c_i (z0 (vE 3) (z0 (zD (zb)) (zb)))) (zD (zb)))))))))))))))
def f_0:List T->R T:=fun ts=>zl (b_0 (f_t) (f_b) (f_y) (f_1) (f_8) (f_r) (f_k) (f_u) (f_m) (f_l) (f_i) (f_2) (en0 10 ts))
end G
namespace G
open PySem L2 PV
abbrev scr (ns:List Int):T:= .fz (ns.map T.int)
theorem yV (ns:List Int) (k:Int) (h0:0<=k):∃ c,f_z [scr ns, .int k]= .ok (.int c):=by
 have e1:f_z [scr ns, .int k]=zl (if decide (k < ((ns.map T.int).length:Int))=true then (atT (ns.map T.int) k).s (fun t=> .rt t) else
   match (eqC (scr ns) (.lst [])).s (fun b=>if b=true then RS.rt (.int 0) else .nx [.vl (scr ns), .vl (.int k)]) with
   | .nx ρ' =>zw (zd Zl (zd Z3 (zd ixT (vE 0) (zd ZP (vE 1) (ap1 ZS (vB 0)))) (cE (.int 31))) (vE 1)) ρ'
   | r=>r):=by
  show zl (match (if decide (k < ((ns.map T.int).length:Int))=true then (atT (ns.map T.int) k).s (fun t=>RS.rt t) else .nx [.vl (scr ns), .vl (.int k)]) with
   | .nx ρ' =>_
   | r=>r)=_
  cases decide (k < ((ns.map T.int).length:Int)) with
  | true=>
   rw [if_pos rfl,if_pos rfl]
   unfold atT
   cases atI (ns.map T.int) k <;> rfl
  | false=>rfl
 rw [e1,List.length_map]
 by_cases hk:k < (ns.length:Int)
 ·obtain ⟨v,hv⟩:∃ v,ns[k.toNat]? =some v:=⟨ns[k.toNat]'(by omega),List.getElem?_eq_getElem (by omega)⟩
  have ea:atI (ns.map T.int) k=some (.int v):=by
   have:k=((k.toNat:Nat):Int):=by omega
   rw [this]
   exact Jy (by rw [List.getElem?_map,hv]; rfl)
  rw [decide_eq_true hk,if_pos rfl]
  exact ⟨v,by unfold atT; rw [ea]; rfl⟩
 ·rw [decide_eq_false hk,if_neg Bool.false_ne_true]
  cases ns with
  | nil=>exact ⟨0,rfl⟩
  | cons x xs=>
   have hm0:=Int.emod_nonneg k (show (((x :: xs).length:Nat):Int) ≠ 0 by simp only [List.length_cons]; omega)
   have hm1:=Int.emod_lt_of_pos k (show (0:Int) < (((x :: xs).length:Nat):Int) by simp only [List.length_cons]; omega)
   obtain ⟨v,hv⟩:∃ v,(x :: xs)[(k % (((x :: xs).length:Nat):Int)).toNat]? =some v:=⟨_,List.getElem?_eq_getElem (by omega)⟩
   have ea:atI ((x :: xs).map T.int) (k % (((x :: xs).length:Nat):Int))=some (.int v):=by
    have e:k % (((x :: xs).length:Nat):Int)=(((k % (((x :: xs).length:Nat):Int)).toNat:Nat):Int):=by omega
    rw [e]
    exact Jy (by rw [List.getElem?_map,hv]; rfl)
   have cm:jU v 31:= .inr ⟨by decide,by decide⟩
   have hp:(0:Int) < (((x :: xs).map T.int).length:Int):=by simp only [List.length_map,List.length_cons]; omega
   refine ⟨v*31+k, ?_⟩
   show zl (((((if 0 < (((x :: xs).map T.int).length:Int) then R.ok (T.int (k % (((x :: xs).map T.int).length:Int))) else .bad).bind fun y=>ixT (scr (x :: xs)) y).bind fun a=>Z3 a (.int 31)).bind fun a=>Zl a (.int k)).s fun t=> .rt t)=_
   rw [if_pos hp]
   show zl ((((atT ((x :: xs).map T.int) (k % (((x :: xs).map T.int).length:Int))).bind fun a=>Z3 a (.int 31)).bind fun a=>Zl a (.int k)).s fun t=> .rt t)=_
   rw [List.length_map]
   unfold atT
   rw [ea]
   show zl ((((if jU v 31 then R.ok (T.int (v*31)) else .bad)).bind fun a=>Zl a (.int k)).s fun t=> .rt t)=_
   rw [if_pos cm]
   rfl
theorem ua (ns:List Int) (k m:Int) (h0:0<=k) (hm:0 < m):∃ p,f_t [scr ns, .int k, .int m]= .ok (.int p)/\0<=p/\p < m:=by
 obtain ⟨c,hc⟩:=yV ns k h0
 have cm1:jU 6151 (k+1):= .inl ⟨by decide,by decide⟩
 have cm2:jU (c+6151*(k+1)) 40692:= .inr ⟨by decide,by decide⟩
 generalize hd:(c+6151*(k+1))*40692 % 2147483399=d
 have hd0:0<=d:=by rw [← hd]; exact Int.emod_nonneg _ (by decide)
 have hd1:d < 2147483399:=by rw [← hd]; exact Int.emod_lt_of_pos _ (by decide)
 have cm3:jU d d:= .inl ⟨by omega,by omega⟩
 refine ⟨(d*d+d / 31) % 2147483629 % m, ?_,Int.emod_nonneg _ (by omega),Int.emod_lt_of_pos _ hm⟩
 have e1:f_t [scr ns, .int k, .int m]=zl (match ((((((f_z [scr ns, .int k]).bind fun x=>(Z3 (.int 6151) (.int (k+1))).bind fun y=>Zl x y).bind fun x=>Z3 x (.int 40692)).bind fun x=>ZP x (.int 2147483399))).s fun t=>RS.nx [.vl (scr ns), .vl (.int k), .vl (.int m), .vl t]) with
   | .nx ρ' =>zw (zd ZP (zd ZP (zd Zl (zd Z3 (vE 3) (vE 3)) (zd JE (vE 3) (cE (.int 31)))) (cE (.int 2147483629))) (vE 2)) ρ'
   | r=>r):=rfl
 rw [e1,hc]
 show zl (match (((((if jU 6151 (k+1) then R.ok (T.int (6151*(k+1))) else .bad).bind fun y=>Zl (.int c) y).bind fun x=>Z3 x (.int 40692)).bind fun x=>ZP x (.int 2147483399)).s fun t=>RS.nx [.vl (scr ns), .vl (.int k), .vl (.int m), .vl t]) with
   | .nx ρ' =>_
   | r=>r)=_
 rw [if_pos cm1]
 show zl (match ((((if jU (c+6151*(k+1)) 40692 then R.ok (T.int ((c+6151*(k+1))*40692)) else .bad)).bind fun x=>ZP x (.int 2147483399)).s fun t=>RS.nx [.vl (scr ns), .vl (.int k), .vl (.int m), .vl t]) with
   | .nx ρ' =>_
   | r=>r)=_
 rw [if_pos cm2]
 show zl (zw (zd ZP (zd ZP (zd Zl (zd Z3 (vE 3) (vE 3)) (zd JE (vE 3) (cE (.int 31)))) (cE (.int 2147483629))) (vE 2)) [.vl (scr ns), .vl (.int k), .vl (.int m), .vl (.int ((c+6151*(k+1))*40692 % 2147483399))])=_
 rw [hd]
 show zl (((((if jU d d then R.ok (T.int (d*d)) else .bad).bind fun x=>Zl x (.int (d / 31))).bind fun x=>ZP x (.int 2147483629)).bind fun x=>ZP x (.int m)).s fun t=>RS.rt t)=_
 rw [if_pos cm3]
 show zl ((if 0 < m then R.ok (T.int ((d*d+d / 31) % 2147483629 % m)) else .bad).s fun t=>RS.rt t)=_
 rw [if_pos hm]
 rfl
theorem bOk {α β:Type} (a:α) (f:α->R β):(R.ok a).bind f=f a:=rfl
theorem vO {α:Type} (a:α) (f:α->RS):(R.ok a).s f=f a:=rfl
theorem Q7 (f:En->R T) (ρ:En):zw f ρ=(f (frz ρ)).s fun t=> .rt t:=rfl
theorem Q8 {g:List T->R T} {f f' f'' :En->R T} {ρ:En}:za 3 g (z0 f (z0 f' (z0 f'' zb))) ρ=(f ρ).bind fun x=>(f' ρ).bind fun y=>(f'' ρ).bind fun z=>g [x,y,z]:=by
 unfold za z0 zb
 cases f ρ with
 | ok a=>
  cases f' ρ with
  | ok b=>cases f'' ρ <;> rfl
  | ex c=>rfl
  | bad=>rfl
 | ex c=>rfl
 | bad=>rfl
theorem v0 {t:T} {ρ:En}:vE 0 (.vl t :: ρ)= .ok t:=rfl
theorem Y8 {t:T} {ρ:En}:cE t ρ= .ok t:=rfl
theorem jy {g:T->T->R T} {f f' :En->R T} {ρ:En}:zd g f f' ρ=(f ρ).bind fun x=>(f' ρ).bind fun y=>g x y:=rfl
theorem Q9 (f g:En->RS) (ρ:En):zk f g ρ=match f ρ with | .nx ρ' =>g ρ' | r=>r:=rfl
theorem vP (g:En->R Bool) (f1 f2:En->RS) (ρ:En):ifS g f1 f2 ρ=(g ρ).s fun k=>if k=true then f1 ρ else f2 ρ:=rfl
theorem Qa (i:Nat) (f:En->R T) (ρ:En):Zy i f ρ=(f ρ).s fun t=> .nx (ρ.set i (.vl t)):=rfl
theorem yW {g:T->T->R Bool} {f f' :En->R T} {ρ:En}:zX g f f' ρ=(f ρ).bind fun x=>(f' ρ).bind fun y=>g x y:=rfl
theorem Uu (i j:Int):Zl (.int i) (.int j)= .ok (.int (i+j)):=rfl
theorem Qb (c:Int) (j:Int) (hc:jU c j):Z3 (.int c) (.int j)= .ok (.int (c*j)):=by
 show (if jU c j then R.ok (T.int (c*j)) else .bad)=_
 rw [if_pos hc]
theorem yX {xs:List T} {j:Nat} {x:T} (h:xs[j]? =some x):ixT (.lst xs) (.int (j:Int))= .ok x:=by
 show atT xs j=_
 unfold atT
 rw [Jy h]
theorem zr {f g:En->RS} {ρ ρ' :En} (h:f ρ= .nx ρ'):zk f g ρ=g ρ' :=by rw [Q9,h]
theorem xW {g:En->R Bool} {f1 f2:En->RS} {ρ:En} (h:g ρ= .ok false):ifS g f1 f2 ρ=f2 ρ:=by rw [vP,h,vO,if_neg Bool.false_ne_true]
theorem yY {g:En->R Bool} {f1:En->RS} {ρ:En} (h:g ρ= .ok false):ifS g f1 nxS ρ= .nx ρ:=by rw [xW h]; rfl
theorem Uv {i:Nat} {f:En->R T} {ρ:En} {t:T} (h:f ρ= .ok t):Zy i f ρ= .nx (ρ.set i (.vl t)):=by rw [Qa,h,vO]
theorem Qc {f:En->R T} {ρ:En} {t:T} (h:f (frz ρ)= .ok t):zw f ρ= .rt t:=by rw [Q7,h,vO]
theorem wq {g:T->En->R En} {fb:En->RS} {t:T} {ts:List T} {ρ ρ1 ρ2:En} (hg:g t ρ= .ok ρ1) (hb:fb ρ1= .nx ρ2):ug g fb (t :: ts) ρ=ug g fb ts ρ2:=by
 rw [ug,hg]
 dsimp only
 rw [hb]
mutual
def tEq:T->T->Bool
 | .non, .non=>true
 | .bl a, .bl b=>a == b
 | .int a, .int b=>a == b
 | .str a, .str b=>a == b
 | .tup a, .tup b=>yZ a b
 | .lst a, .lst b=>yZ a b
 | _,_=>false
def yZ:List T->List T->Bool
 | [],[]=>true
 | a :: as,b :: bs=>tEq a b && yZ as bs
 | _,_=>false
end
mutual
theorem Uw:∀ x y:T,tEq x y=true->x=y
 | .non,y,h=>by cases y <;> simp [tEq] at h ⊢
 | .bl a,y,h=>by cases y <;> simp [tEq] at h ⊢; exact h
 | .int a,y,h=>by cases y <;> simp [tEq] at h ⊢; exact h
 | .str a,y,h=>by cases y <;> simp [tEq] at h ⊢; exact h
 | .tup a,y,h=>by cases y <;> simp [tEq] at h ⊢; exact JV _ _ h
 | .lst a,y,h=>by cases y <;> simp [tEq] at h ⊢; exact JV _ _ h
 | .fz a,y,h=>by cases y <;> simp [tEq] at h
theorem JV:∀ x y:List T,yZ x y=true->x=y
 | [],y,h=>by cases y <;> simp [yZ] at h ⊢
 | a :: as,y,h=>by
  cases y with
  | nil=>simp [yZ] at h
  | cons b bs=>
   rw [yZ,Bool.and_eq_true] at h
   rw [Uw a b h.1,JV as bs h.2]
end
def okB (r:R T) (t:T):Bool:=match r with
 | .ok u=>tEq u t
 | _=>false
theorem zI {r:R T} {t:T} (h:okB r t=true):r= .ok t:=by
 unfold okB at h
 split at h
 ·rw [Uw _ _ h]
 ·cases h
abbrev wt:List T:=[.non, .tup [], .tup [.str "whole", .int 1, .int 0], .tup [.str "whole", .int (-21), .int 0], .tup [.str "pick", .tup []], .tup [.str "pick", .tup [.tup [.str "a", .int 0]]], .tup [.str "row", .tup []], .tup [.str "many", .tup [.str "whole", .int 0, .int 1], .int 2, .int 4]]
abbrev uh:List T:=[.non, .tup [], .tup [.str "sum", .int 1], .tup [.str "sum", .int (-51), .int 0], .tup [.str "size", .int 0, .bl true], .tup [.str "word", .str "abcd"], .tup [.str "no"], .tup [.str "all", .tup [.str "rising"]], .str "rising", .int 5]
abbrev kdT:T:= .tup [.str "row", .tup [.tup [.str "whole", .int 0, .int 2], .tup [.str "pick", .tup [.tup [.str "a", .int 1]]]]]
abbrev grT:T:= .tup [.str "many", .tup [.str "whole", .int 0, .int 9], .int 3, .int 3]
abbrev ruT:T:= .tup [.str "rising"]
def oT (i:Nat):T:=wt.getD i .non
def wT (i:Nat):T:=uh.getD i .non
abbrev EL (S:T) (k:Nat) (a b y:Sl):En:=[.vl S, .ow wt, .ow uh, .vl kdT, .vl grT, .vl ruT, .vl (.int (k:Int)),a,b,y]
abbrev EF (S:T) (k a b y:Sl):En:=[.vl S, .ow wt, .ow uh, .vl kdT, .vl grT, .vl ruT,k,a,b,y]
theorem Zm {i:Nat} {f:En->R T} {ρ:En} {ts:List T} {t:T} (h:ρ[i]? =some (.ow ts)) (hl:ts.length < bnd) (e:f ρ= .ok t):zT i f ρ= .nx (ρ.set i (.ow (ts++[t]))):=by
 unfold zT
 rw [h]
 dsimp only
 rw [e]
 exact if_pos hl
theorem ub {i:Nat} {f:En->R T} {ρ:En} {t:T} (e:f ρ= .ok t):Ju i (z0 f zb) ρ= .nx (ρ.set i (.ow [t])):=by
 unfold Ju z0 zb
 rw [e]
 show (if ([t]:List T).length<=bnd then RS.nx (ρ.set i (.ow [t])) else .bad)=_
 exact if_pos (show 1<=16777216 by decide)
theorem Ux {i:Nat} {f:En->R T} {ρ:En} {ts:List T} {j:Nat} {t:T} (h:ρ[i]? =some (.ow ts)) (e:f ρ= .ok (.int (j:Int))) (ht:ts[j]? =some t):ixO i f ρ= .ok t:=by
 unfold ixO
 rw [h]
 dsimp only
 rw [e]
 exact yX ht
theorem td0:∀ i:Nat,i < 8->okB (zq okX f_2 ((za 1 f_b (z0 (vE 0) (zb))) [.vl (oT i)])) (.str "no kind")=true:=by decide+kernel
theorem td1:∀ i:Nat,i < 8->okB (zq okX f_2 ((za 1 f_y (z0 (vE 0) (zb))) [.vl (oT i)])) (.str "no kind")=true:=by decide+kernel
theorem td2:∀ i:Nat,i < 8->okB (zq okX f_2 ((za 1 f_1 (z0 (vE 0) (zb))) [.vl (oT i)])) (.str "no kind")=true:=by decide+kernel
theorem td3:∀ i:Nat,i < 8->okB (zq okX f_2 ((za 1 f_8 (z0 (vE 0) (zb))) [.vl (oT i)])) (.str "no kind")=true:=by decide+kernel
theorem td4:∀ i:Nat,i < 8->okB (zq okX f_2 ((za 2 f_r (z0 (vE 0) (z0 (cE .non) (zb)))) [.vl (oT i)])) (.str "no kind")=true:=by decide+kernel
theorem td5:∀ i:Nat,i < 8->okB (zq okX f_2 ((za 3 f_k (z0 (vE 1) (z0 (vE 0) (z0 (vE 0) (zb))))) [.vl ruT, .vl (oT i)])) (.str "no kind")=true:=by decide+kernel
theorem td6:∀ i:Nat,i < 8->okB (zq okX f_2 ((za 3 f_u (z0 (vE 1) (z0 (vE 0) (z0 (vE 0) (zb))))) [.vl ruT, .vl (oT i)])) (.str "no kind")=true:=by decide+kernel
theorem td7:∀ i:Nat,i < 8->okB (zq okX f_2 ((za 2 f_m (z0 (vE 0) (z0 (zD (zb)) (zb)))) [.vl (oT i)])) (.str "no kind")=true:=by decide+kernel
theorem td8:∀ i:Nat,i < 8->okB (zq okX f_2 ((za 2 f_l (z0 (vE 1) (z0 (zD (z0 (vE 0) (zb))) (zb)))) [.vl ruT, .vl (oT i)])) (.str "no kind")=true:=by decide+kernel
theorem td9:∀ i:Nat,i < 8->okB (zq okX f_2 ((za 2 f_i (z0 (vE 1) (z0 (zn (z0 (vE 0) (zb))) (zb)))) [.vl ruT, .vl (oT i)])) (.str "no kind")=true:=by decide+kernel
theorem xX:∀ i:Nat,i < 8->∀ j:Nat,j < 10->okB (zq okX f_2 ((za 3 f_k (z0 (vE 1) (z0 (vE 0) (z0 (vE 2) (zb))))) [.vl ruT, .vl (oT i), .vl (wT j)])) (.str "no rule")=true:=by decide+kernel
theorem xY:∀ i:Nat,i < 8->∀ j:Nat,j < 10->okB (zq okX f_2 ((za 3 f_u (z0 (vE 1) (z0 (vE 2) (z0 (vE 0) (zb))))) [.vl ruT, .vl (oT i), .vl (wT j)])) (.str "no rule")=true:=by decide+kernel
theorem xZ:∀ j:Nat,j < 10->okB (zq okX f_2 ((za 2 f_m (z0 (vE 0) (z0 (zD (z0 (vE 1) (z0 (vE 2) (zb)))) (zb)))) [.vl grT, .vl ruT, .vl (wT j)])) (.str "no rule")=true:=by decide+kernel
theorem X0:∀ j:Nat,j < 10->okB (zq okX f_2 ((za 2 f_l (z0 (vE 0) (z0 (zn (z0 (vE 1) (zb))) (zb)))) [.vl kdT, .vl (wT j)])) (.str "no rule")=true:=by decide+kernel
theorem X1:∀ i:Nat,i < 8->∀ j:Nat,j < 10->okB (zq okX f_2 ((za 2 f_i (z0 (vE 1) (z0 (zD (z0 (vE 2) (z0 (vE 0) (zb)))) (zb)))) [.vl ruT, .vl (oT i), .vl (wT j)])) (.str "no rule")=true:=by decide+kernel
theorem X2:∀ k:Nat,k < 4->okB (zq okX f_2 ((za 2 f_r (z0 (vE 0) (z0 (zd ixT (zD (z0 (zn (z0 (cE (.int 3)) (z0 (cE (.str "a")) (zb)))) (z0 (zn (z0 (cE (.int 0)) (z0 (cE (.str "b")) (zb)))) (z0 (zn (z0 (cE (.int 0)) (zb))) (z0 (zD (z0 (cE (.int 0)) (z0 (cE (.str "a")) (zb)))) (zb)))))) (vE 1)) (zb)))) [.vl kdT, .vl (.int (k:Int))])) (.str "no worth")=true:=by decide+kernel
theorem X3:okB (zq okX f_2 ((za 3 f_k (z0 (vE 0) (z0 (vE 1) (z0 (vE 1) (zb))))) [.vl grT, .vl ruT])) (.str "too many")=true:=by decide+kernel
theorem X4:okB (zq okX f_2 ((za 2 f_m (z0 (vE 0) (z0 (zD (z0 (vE 1) (zb))) (zb)))) [.vl grT, .vl ruT])) (.str "too many")=true:=by decide+kernel
theorem X5:okB (zq okX f_2 ((za 2 f_l (z0 (vE 0) (z0 (zD (zb)) (zb)))) [.vl grT])) (.str "too many")=true:=by decide+kernel
theorem X6:okB (zq okX f_2 ((za 2 f_i (z0 (vE 0) (z0 (zD (zb)) (zb)))) [.vl grT])) (.str "too many")=true:=by decide+kernel
theorem tdR:okB ((Zt (jd eqC (vB 9) (zd Z3 (zD (z0 (cE (.str "too many")) (zb))) (cE (.int 4)))) (Zt (jd eqC (za 1 f_1 (z0 (vE 4) (zb))) (zn (z0 (cE (.int 0)) (z0 (cE (.int 27)) (zb))))) (jd eqC (za 2 f_i (z0 (vE 3) (z0 (zD (zb)) (zb)))) (zD (zb))))) [.un, .un, .un, .vl kdT, .vl grT, .vl ruT, .un, .un, .un, .vl (.lst [.str "too many", .str "too many", .str "too many", .str "too many"])]) (.bl true)=true:=by decide+kernel
abbrev lpB:En->RS:=zk (Zy 7 (ixO 1 (zd ZP (zd Zl (za 3 f_t (z0 (vE 0) (z0 (cE (.int 0)) (z0 (cE (.int 8)) (zb))))) (zd Z3 (cE (.int 3)) (vE 6))) (cE (.int 8))))) (zk (Zy 8 (ixO 2 (zd ZP (zd Zl (za 3 f_t (z0 (vE 0) (z0 (cE (.int 1)) (z0 (cE (.int 10)) (zb))))) (zd Z3 (cE (.int 3)) (vE 6))) (cE (.int 10))))) (zk (Ju 9 (z0 (zj [7] okX f_2 (za 1 f_b (z0 (vE 0) (zb)))) (zb))) (zk (zT 9 (zj [7] okX f_2 (za 1 f_y (z0 (vE 0) (zb))))) (zk (zT 9 (zj [7] okX f_2 (za 1 f_1 (z0 (vE 0) (zb))))) (zk (zT 9 (zj [7] okX f_2 (za 1 f_8 (z0 (vE 0) (zb))))) (zk (zT 9 (zj [7] okX f_2 (za 2 f_r (z0 (vE 0) (z0 (cE .non) (zb)))))) (zk (zT 9 (zj [5,7] okX f_2 (za 3 f_k (z0 (vE 1) (z0 (vE 0) (z0 (vE 0) (zb))))))) (zk (zT 9 (zj [5,7] okX f_2 (za 3 f_u (z0 (vE 1) (z0 (vE 0) (z0 (vE 0) (zb))))))) (zk (zT 9 (zj [7] okX f_2 (za 2 f_m (z0 (vE 0) (z0 (zD (zb)) (zb)))))) (zk (zT 9 (zj [5,7] okX f_2 (za 2 f_l (z0 (vE 1) (z0 (zD (z0 (vE 0) (zb))) (zb)))))) (zk (zT 9 (zj [5,7] okX f_2 (za 2 f_i (z0 (vE 1) (z0 (zn (z0 (vE 0) (zb))) (zb)))))) (zk (ifS (zX neC (vB 9) (zd Z3 (zD (z0 (cE (.str "no kind")) (zb))) (cE (.int 10)))) (zw (cE (.bl false))) (nxS)) (zk (Ju 9 (z0 (zj [5,7,8] okX f_2 (za 3 f_k (z0 (vE 1) (z0 (vE 0) (z0 (vE 2) (zb)))))) (zb))) (zk (zT 9 (zj [5,7,8] okX f_2 (za 3 f_u (z0 (vE 1) (z0 (vE 2) (z0 (vE 0) (zb))))))) (zk (zT 9 (zj [4,5,8] okX f_2 (za 2 f_m (z0 (vE 0) (z0 (zD (z0 (vE 1) (z0 (vE 2) (zb)))) (zb)))))) (zk (zT 9 (zj [3,8] okX f_2 (za 2 f_l (z0 (vE 0) (z0 (zn (z0 (vE 1) (zb))) (zb)))))) (zk (zT 9 (zj [5,7,8] okX f_2 (za 2 f_i (z0 (vE 1) (z0 (zD (z0 (vE 2) (z0 (vE 0) (zb)))) (zb)))))) (zk (ifS (zX neC (vB 9) (zd Z3 (zD (z0 (cE (.str "no rule")) (zb))) (cE (.int 5)))) (zw (cE (.bl false))) (nxS)) (ifS (zX neC (zj [3,6] okX f_2 (za 2 f_r (z0 (vE 0) (z0 (zd ixT (zD (z0 (zn (z0 (cE (.int 3)) (z0 (cE (.str "a")) (zb)))) (z0 (zn (z0 (cE (.int 0)) (z0 (cE (.str "b")) (zb)))) (z0 (zn (z0 (cE (.int 0)) (zb))) (z0 (zD (z0 (cE (.int 0)) (z0 (cE (.str "a")) (zb)))) (zb)))))) (vE 1)) (zb))))) (cE (.str "no worth"))) (zw (cE (.bl false))) (nxS))))))))))))))))))))
theorem U5 {ns:List Int} {p q:Int} (ep:f_t [scr ns, .int 0, .int 8]= .ok (.int p)) (eq:f_t [scr ns, .int 1, .int 10]= .ok (.int q)) {k:Nat} (hk:k < 4) (a b y:Sl):∃ a' b' y',lpB (EL (scr ns) k a b y)= .nx (EL (scr ns) k a' b' y'):=by
 obtain ⟨i,hi,ei⟩:∃ i:Nat,i < 8/\(p+3*(k:Int)) % 8=(i:Int):=⟨((p+3*(k:Int)) % 8).toNat,by omega,by omega⟩
 obtain ⟨j,hj,ej⟩:∃ j:Nat,j < 10/\(q+3*(k:Int)) % 10=(j:Int):=⟨((q+3*(k:Int)) % 10).toNat,by omega,by omega⟩
 have go:wt[i]? =some (oT i):=by
  unfold oT
  rw [List.getD_eq_getElem?_getD,List.getElem?_eq_getElem (show i < wt.length from hi)]; rfl
 have gw:uh[j]? =some (wT j):=by
  unfold wT
  rw [List.getD_eq_getElem?_getD,List.getElem?_eq_getElem (show j < uh.length from hj)]; rfl
 have cm:jU 3 (k:Int):= .inl ⟨by decide,by decide⟩
 have md:∀ (x m:Int),0 < m->ZP (.int x) (.int m)= .ok (.int (x % m)):=fun x m h=>if_pos h
 have e1:Zy 7 (ixO 1 (zd ZP (zd Zl (za 3 f_t (z0 (vE 0) (z0 (cE (.int 0)) (z0 (cE (.int 8)) (zb))))) (zd Z3 (cE (.int 3)) (vE 6))) (cE (.int 8)))) (EL (scr ns) k a b y)= .nx (EL (scr ns) k (.vl (oT i)) b y):=by
  rw [Uv (t:=oT i)]
  ·rfl
  ·refine Ux (ts:=wt) (j:=i) rfl ?_ go
   have u6:∀ c d z,vE 6 (EL (scr ns) k c d z)= .ok (.int (k:Int)):=fun _ _ _=>rfl
   rw [jy,jy,Q8,v0,bOk,Y8,bOk,Y8,bOk,ep,bOk,jy,Y8,bOk,u6,bOk,Qb _ _ cm,bOk,Uu,bOk,bOk,md _ _ (by decide),ei]
 have e2:Zy 8 (ixO 2 (zd ZP (zd Zl (za 3 f_t (z0 (vE 0) (z0 (cE (.int 1)) (z0 (cE (.int 10)) (zb))))) (zd Z3 (cE (.int 3)) (vE 6))) (cE (.int 10)))) (EL (scr ns) k (.vl (oT i)) b y)= .nx (EL (scr ns) k (.vl (oT i)) (.vl (wT j)) y):=by
  rw [Uv (t:=wT j)]
  ·rfl
  ·refine Ux (ts:=uh) (j:=j) rfl ?_ gw
   have u6:∀ c d z,vE 6 (EL (scr ns) k c d z)= .ok (.int (k:Int)):=fun _ _ _=>rfl
   rw [jy,jy,Q8,v0,bOk,Y8,bOk,Y8,bOk,eq,bOk,jy,Y8,bOk,u6,bOk,Qb _ _ cm,bOk,Uu,bOk,bOk,md _ _ (by decide),ej]
 have f0:Ju 9 (z0 (zj [7] okX f_2 (za 1 f_b (z0 (vE 0) (zb)))) (zb)) (EL (scr ns) k (.vl (oT i)) (.vl (wT j)) y)= .nx (EL (scr ns) k (.vl (oT i)) (.vl (wT j)) (.ow [.str "no kind"])):=ub (show zq okX f_2 ((za 1 f_b (z0 (vE 0) (zb))) [.vl (oT i)])= .ok (.str "no kind") from zI (td0 i hi))
 have f1:zT 9 (zj [7] okX f_2 (za 1 f_y (z0 (vE 0) (zb)))) (EL (scr ns) k (.vl (oT i)) (.vl (wT j)) (.ow [.str "no kind"]))= .nx (EL (scr ns) k (.vl (oT i)) (.vl (wT j)) (.ow [.str "no kind", .str "no kind"])):=Zm (ts:=[.str "no kind"]) rfl (show 1 < 16777216 by decide) (show zq okX f_2 ((za 1 f_y (z0 (vE 0) (zb))) [.vl (oT i)])= .ok (.str "no kind") from zI (td1 i hi))
 have f2:zT 9 (zj [7] okX f_2 (za 1 f_1 (z0 (vE 0) (zb)))) (EL (scr ns) k (.vl (oT i)) (.vl (wT j)) (.ow [.str "no kind", .str "no kind"]))= .nx (EL (scr ns) k (.vl (oT i)) (.vl (wT j)) (.ow [.str "no kind", .str "no kind", .str "no kind"])):=Zm (ts:=[.str "no kind", .str "no kind"]) rfl (show 2 < 16777216 by decide) (show zq okX f_2 ((za 1 f_1 (z0 (vE 0) (zb))) [.vl (oT i)])= .ok (.str "no kind") from zI (td2 i hi))
 have f3:zT 9 (zj [7] okX f_2 (za 1 f_8 (z0 (vE 0) (zb)))) (EL (scr ns) k (.vl (oT i)) (.vl (wT j)) (.ow [.str "no kind", .str "no kind", .str "no kind"]))= .nx (EL (scr ns) k (.vl (oT i)) (.vl (wT j)) (.ow [.str "no kind", .str "no kind", .str "no kind", .str "no kind"])):=Zm (ts:=[.str "no kind", .str "no kind", .str "no kind"]) rfl (show 3 < 16777216 by decide) (show zq okX f_2 ((za 1 f_8 (z0 (vE 0) (zb))) [.vl (oT i)])= .ok (.str "no kind") from zI (td3 i hi))
 have f4:zT 9 (zj [7] okX f_2 (za 2 f_r (z0 (vE 0) (z0 (cE .non) (zb))))) (EL (scr ns) k (.vl (oT i)) (.vl (wT j)) (.ow [.str "no kind", .str "no kind", .str "no kind", .str "no kind"]))= .nx (EL (scr ns) k (.vl (oT i)) (.vl (wT j)) (.ow [.str "no kind", .str "no kind", .str "no kind", .str "no kind", .str "no kind"])):=Zm (ts:=[.str "no kind", .str "no kind", .str "no kind", .str "no kind"]) rfl (show 4 < 16777216 by decide) (show zq okX f_2 ((za 2 f_r (z0 (vE 0) (z0 (cE .non) (zb)))) [.vl (oT i)])= .ok (.str "no kind") from zI (td4 i hi))
 have f5:zT 9 (zj [5,7] okX f_2 (za 3 f_k (z0 (vE 1) (z0 (vE 0) (z0 (vE 0) (zb)))))) (EL (scr ns) k (.vl (oT i)) (.vl (wT j)) (.ow [.str "no kind", .str "no kind", .str "no kind", .str "no kind", .str "no kind"]))= .nx (EL (scr ns) k (.vl (oT i)) (.vl (wT j)) (.ow [.str "no kind", .str "no kind", .str "no kind", .str "no kind", .str "no kind", .str "no kind"])):=Zm (ts:=[.str "no kind", .str "no kind", .str "no kind", .str "no kind", .str "no kind"]) rfl (show 5 < 16777216 by decide) (show zq okX f_2 ((za 3 f_k (z0 (vE 1) (z0 (vE 0) (z0 (vE 0) (zb))))) [.vl ruT, .vl (oT i)])= .ok (.str "no kind") from zI (td5 i hi))
 have f6:zT 9 (zj [5,7] okX f_2 (za 3 f_u (z0 (vE 1) (z0 (vE 0) (z0 (vE 0) (zb)))))) (EL (scr ns) k (.vl (oT i)) (.vl (wT j)) (.ow [.str "no kind", .str "no kind", .str "no kind", .str "no kind", .str "no kind", .str "no kind"]))= .nx (EL (scr ns) k (.vl (oT i)) (.vl (wT j)) (.ow [.str "no kind", .str "no kind", .str "no kind", .str "no kind", .str "no kind", .str "no kind", .str "no kind"])):=Zm (ts:=[.str "no kind", .str "no kind", .str "no kind", .str "no kind", .str "no kind", .str "no kind"]) rfl (show 6 < 16777216 by decide) (show zq okX f_2 ((za 3 f_u (z0 (vE 1) (z0 (vE 0) (z0 (vE 0) (zb))))) [.vl ruT, .vl (oT i)])= .ok (.str "no kind") from zI (td6 i hi))
 have f7:zT 9 (zj [7] okX f_2 (za 2 f_m (z0 (vE 0) (z0 (zD (zb)) (zb))))) (EL (scr ns) k (.vl (oT i)) (.vl (wT j)) (.ow [.str "no kind", .str "no kind", .str "no kind", .str "no kind", .str "no kind", .str "no kind", .str "no kind"]))= .nx (EL (scr ns) k (.vl (oT i)) (.vl (wT j)) (.ow [.str "no kind", .str "no kind", .str "no kind", .str "no kind", .str "no kind", .str "no kind", .str "no kind", .str "no kind"])):=Zm (ts:=[.str "no kind", .str "no kind", .str "no kind", .str "no kind", .str "no kind", .str "no kind", .str "no kind"]) rfl (show 7 < 16777216 by decide) (show zq okX f_2 ((za 2 f_m (z0 (vE 0) (z0 (zD (zb)) (zb)))) [.vl (oT i)])= .ok (.str "no kind") from zI (td7 i hi))
 have f8:zT 9 (zj [5,7] okX f_2 (za 2 f_l (z0 (vE 1) (z0 (zD (z0 (vE 0) (zb))) (zb))))) (EL (scr ns) k (.vl (oT i)) (.vl (wT j)) (.ow [.str "no kind", .str "no kind", .str "no kind", .str "no kind", .str "no kind", .str "no kind", .str "no kind", .str "no kind"]))= .nx (EL (scr ns) k (.vl (oT i)) (.vl (wT j)) (.ow [.str "no kind", .str "no kind", .str "no kind", .str "no kind", .str "no kind", .str "no kind", .str "no kind", .str "no kind", .str "no kind"])):=Zm (ts:=[.str "no kind", .str "no kind", .str "no kind", .str "no kind", .str "no kind", .str "no kind", .str "no kind", .str "no kind"]) rfl (show 8 < 16777216 by decide) (show zq okX f_2 ((za 2 f_l (z0 (vE 1) (z0 (zD (z0 (vE 0) (zb))) (zb)))) [.vl ruT, .vl (oT i)])= .ok (.str "no kind") from zI (td8 i hi))
 have f9:zT 9 (zj [5,7] okX f_2 (za 2 f_i (z0 (vE 1) (z0 (zn (z0 (vE 0) (zb))) (zb))))) (EL (scr ns) k (.vl (oT i)) (.vl (wT j)) (.ow [.str "no kind", .str "no kind", .str "no kind", .str "no kind", .str "no kind", .str "no kind", .str "no kind", .str "no kind", .str "no kind"]))= .nx (EL (scr ns) k (.vl (oT i)) (.vl (wT j)) (.ow [.str "no kind", .str "no kind", .str "no kind", .str "no kind", .str "no kind", .str "no kind", .str "no kind", .str "no kind", .str "no kind", .str "no kind"])):=Zm (ts:=[.str "no kind", .str "no kind", .str "no kind", .str "no kind", .str "no kind", .str "no kind", .str "no kind", .str "no kind", .str "no kind"]) rfl (show 9 < 16777216 by decide) (show zq okX f_2 ((za 2 f_i (z0 (vE 1) (z0 (zn (z0 (vE 0) (zb))) (zb)))) [.vl ruT, .vl (oT i)])= .ok (.str "no kind") from zI (td9 i hi))
 have g1:zX neC (vB 9) (zd Z3 (zD (z0 (cE (.str "no kind")) (zb))) (cE (.int 10))) (EL (scr ns) k (.vl (oT i)) (.vl (wT j)) (.ow [.str "no kind", .str "no kind", .str "no kind", .str "no kind", .str "no kind", .str "no kind", .str "no kind", .str "no kind", .str "no kind", .str "no kind"]))= .ok false:=rfl
 have s0:Ju 9 (z0 (zj [5,7,8] okX f_2 (za 3 f_k (z0 (vE 1) (z0 (vE 0) (z0 (vE 2) (zb)))))) (zb)) (EL (scr ns) k (.vl (oT i)) (.vl (wT j)) (.ow [.str "no kind", .str "no kind", .str "no kind", .str "no kind", .str "no kind", .str "no kind", .str "no kind", .str "no kind", .str "no kind", .str "no kind"]))= .nx (EL (scr ns) k (.vl (oT i)) (.vl (wT j)) (.ow [.str "no rule"])):=ub (show zq okX f_2 ((za 3 f_k (z0 (vE 1) (z0 (vE 0) (z0 (vE 2) (zb))))) [.vl ruT, .vl (oT i), .vl (wT j)])= .ok (.str "no rule") from zI (xX i hi j hj))
 have s1:zT 9 (zj [5,7,8] okX f_2 (za 3 f_u (z0 (vE 1) (z0 (vE 2) (z0 (vE 0) (zb)))))) (EL (scr ns) k (.vl (oT i)) (.vl (wT j)) (.ow [.str "no rule"]))= .nx (EL (scr ns) k (.vl (oT i)) (.vl (wT j)) (.ow [.str "no rule", .str "no rule"])):=Zm (ts:=[.str "no rule"]) rfl (show 1 < 16777216 by decide) (show zq okX f_2 ((za 3 f_u (z0 (vE 1) (z0 (vE 2) (z0 (vE 0) (zb))))) [.vl ruT, .vl (oT i), .vl (wT j)])= .ok (.str "no rule") from zI (xY i hi j hj))
 have s2:zT 9 (zj [4,5,8] okX f_2 (za 2 f_m (z0 (vE 0) (z0 (zD (z0 (vE 1) (z0 (vE 2) (zb)))) (zb))))) (EL (scr ns) k (.vl (oT i)) (.vl (wT j)) (.ow [.str "no rule", .str "no rule"]))= .nx (EL (scr ns) k (.vl (oT i)) (.vl (wT j)) (.ow [.str "no rule", .str "no rule", .str "no rule"])):=Zm (ts:=[.str "no rule", .str "no rule"]) rfl (show 2 < 16777216 by decide) (show zq okX f_2 ((za 2 f_m (z0 (vE 0) (z0 (zD (z0 (vE 1) (z0 (vE 2) (zb)))) (zb)))) [.vl grT, .vl ruT, .vl (wT j)])= .ok (.str "no rule") from zI (xZ j hj))
 have s3:zT 9 (zj [3,8] okX f_2 (za 2 f_l (z0 (vE 0) (z0 (zn (z0 (vE 1) (zb))) (zb))))) (EL (scr ns) k (.vl (oT i)) (.vl (wT j)) (.ow [.str "no rule", .str "no rule", .str "no rule"]))= .nx (EL (scr ns) k (.vl (oT i)) (.vl (wT j)) (.ow [.str "no rule", .str "no rule", .str "no rule", .str "no rule"])):=Zm (ts:=[.str "no rule", .str "no rule", .str "no rule"]) rfl (show 3 < 16777216 by decide) (show zq okX f_2 ((za 2 f_l (z0 (vE 0) (z0 (zn (z0 (vE 1) (zb))) (zb)))) [.vl kdT, .vl (wT j)])= .ok (.str "no rule") from zI (X0 j hj))
 have s4:zT 9 (zj [5,7,8] okX f_2 (za 2 f_i (z0 (vE 1) (z0 (zD (z0 (vE 2) (z0 (vE 0) (zb)))) (zb))))) (EL (scr ns) k (.vl (oT i)) (.vl (wT j)) (.ow [.str "no rule", .str "no rule", .str "no rule", .str "no rule"]))= .nx (EL (scr ns) k (.vl (oT i)) (.vl (wT j)) (.ow [.str "no rule", .str "no rule", .str "no rule", .str "no rule", .str "no rule"])):=Zm (ts:=[.str "no rule", .str "no rule", .str "no rule", .str "no rule"]) rfl (show 4 < 16777216 by decide) (show zq okX f_2 ((za 2 f_i (z0 (vE 1) (z0 (zD (z0 (vE 2) (z0 (vE 0) (zb)))) (zb)))) [.vl ruT, .vl (oT i), .vl (wT j)])= .ok (.str "no rule") from zI (X1 i hi j hj))
 have g2:zX neC (vB 9) (zd Z3 (zD (z0 (cE (.str "no rule")) (zb))) (cE (.int 5))) (EL (scr ns) k (.vl (oT i)) (.vl (wT j)) (.ow [.str "no rule", .str "no rule", .str "no rule", .str "no rule", .str "no rule"]))= .ok false:=rfl
 have g3:zX neC (zj [3,6] okX f_2 (za 2 f_r (z0 (vE 0) (z0 (zd ixT (zD (z0 (zn (z0 (cE (.int 3)) (z0 (cE (.str "a")) (zb)))) (z0 (zn (z0 (cE (.int 0)) (z0 (cE (.str "b")) (zb)))) (z0 (zn (z0 (cE (.int 0)) (zb))) (z0 (zD (z0 (cE (.int 0)) (z0 (cE (.str "a")) (zb)))) (zb)))))) (vE 1)) (zb))))) (cE (.str "no worth")) (EL (scr ns) k (.vl (oT i)) (.vl (wT j)) (.ow [.str "no rule", .str "no rule", .str "no rule", .str "no rule", .str "no rule"]))= .ok false:=by
  rw [yW,show (zj [3,6] okX f_2 (za 2 f_r (z0 (vE 0) (z0 (zd ixT (zD (z0 (zn (z0 (cE (.int 3)) (z0 (cE (.str "a")) (zb)))) (z0 (zn (z0 (cE (.int 0)) (z0 (cE (.str "b")) (zb)))) (z0 (zn (z0 (cE (.int 0)) (zb))) (z0 (zD (z0 (cE (.int 0)) (z0 (cE (.str "a")) (zb)))) (zb)))))) (vE 1)) (zb))))) (EL (scr ns) k (.vl (oT i)) (.vl (wT j)) (.ow [.str "no rule", .str "no rule", .str "no rule", .str "no rule", .str "no rule"]))= .ok (.str "no worth") from (show zq okX f_2 ((za 2 f_r (z0 (vE 0) (z0 (zd ixT (zD (z0 (zn (z0 (cE (.int 3)) (z0 (cE (.str "a")) (zb)))) (z0 (zn (z0 (cE (.int 0)) (z0 (cE (.str "b")) (zb)))) (z0 (zn (z0 (cE (.int 0)) (zb))) (z0 (zD (z0 (cE (.int 0)) (z0 (cE (.str "a")) (zb)))) (zb)))))) (vE 1)) (zb)))) [.vl kdT, .vl (.int (k:Int))])= .ok (.str "no worth") from zI (X2 k hk))]
  rfl
 refine ⟨.vl (oT i), .vl (wT j),(.ow [.str "no rule", .str "no rule", .str "no rule", .str "no rule", .str "no rule"]), ?_⟩
 rw [lpB,zr e1,zr e2,zr f0,zr f1,zr f2,zr f3,zr f4,zr f5,zr f6,zr f7,zr f8,zr f9,zr (yY g1),zr s0,zr s1,zr s2,zr s3,zr s4,zr (yY g2),yY g3]
theorem VH (ns:List Int) (h:ns.length<=63):f_0 [.fz (ns.map T.int)]= .ok (.bl true):=by
 obtain ⟨p,ep,p0,p8⟩:=ua ns 0 8 (by omega) (by omega)
 obtain ⟨q,eq,q0,q10⟩:=ua ns 1 10 (by omega) (by omega)
 obtain ⟨a0,b0,y0,l0⟩:=U5 ep eq (show 0 < 4 by omega) .un .un .un
 obtain ⟨a1,b1,y1,l1⟩:=U5 ep eq (show 1 < 4 by omega) a0 b0 y0
 obtain ⟨a2,b2,y2,l2⟩:=U5 ep eq (show 2 < 4 by omega) a1 b1 y1
 obtain ⟨a3,b3,y3,l3⟩:=U5 ep eq (show 3 < 4 by omega) a2 b2 y2
 have d0:Ju 1 (z0 (cE .non) (z0 (zn (zb)) (z0 (zn (z0 (cE (.str "whole")) (z0 (cE (.int 1)) (z0 (cE (.int 0)) (zb))))) (z0 (zn (z0 (cE (.str "whole")) (z0 (UX (cE (.int 21))) (z0 (cE (.int 0)) (zb))))) (z0 (zn (z0 (cE (.str "pick")) (z0 (zn (zb)) (zb)))) (z0 (zn (z0 (cE (.str "pick")) (z0 (zn (z0 (zn (z0 (cE (.str "a")) (z0 (cE (.int 0)) (zb)))) (zb))) (zb)))) (zb))))))) [.vl (scr ns), .un, .un, .un, .un, .un, .un, .un, .un, .un]= .nx [.vl (scr ns), .ow (wt.take 6), .un, .un, .un, .un, .un, .un, .un, .un]:=rfl
 have d1:Y5 1 (zD (z0 (zn (z0 (cE (.str "row")) (z0 (zn (zb)) (zb)))) (z0 (zn (z0 (cE (.str "many")) (z0 (zn (z0 (cE (.str "whole")) (z0 (cE (.int 0)) (z0 (cE (.int 1)) (zb))))) (z0 (cE (.int 2)) (z0 (cE (.int 4)) (zb)))))) (zb)))) [.vl (scr ns), .ow (wt.take 6), .un, .un, .un, .un, .un, .un, .un, .un]= .nx [.vl (scr ns), .ow wt, .un, .un, .un, .un, .un, .un, .un, .un]:=rfl
 have d2:Ju 2 (z0 (cE .non) (z0 (zn (zb)) (z0 (zn (z0 (cE (.str "sum")) (z0 (cE (.int 1)) (zb)))) (z0 (zn (z0 (cE (.str "sum")) (z0 (UX (cE (.int 51))) (z0 (cE (.int 0)) (zb))))) (z0 (zn (z0 (cE (.str "size")) (z0 (cE (.int 0)) (z0 (cE (.bl true)) (zb))))) (z0 (zn (z0 (cE (.str "word")) (z0 (cE (.str "abcd")) (zb)))) (z0 (zn (z0 (cE (.str "no")) (zb))) (zb)))))))) [.vl (scr ns), .ow wt, .un, .un, .un, .un, .un, .un, .un, .un]= .nx [.vl (scr ns), .ow wt, .ow (uh.take 7), .un, .un, .un, .un, .un, .un, .un]:=rfl
 have d3:Y5 2 (zD (z0 (zn (z0 (cE (.str "all")) (z0 (zn (z0 (cE (.str "rising")) (zb))) (zb)))) (z0 (cE (.str "rising")) (z0 (cE (.int 5)) (zb))))) [.vl (scr ns), .ow wt, .ow (uh.take 7), .un, .un, .un, .un, .un, .un, .un]= .nx [.vl (scr ns), .ow wt, .ow uh, .un, .un, .un, .un, .un, .un, .un]:=rfl
 have d4:vM (zn (z0 (zn (z0 (cE (.str "row")) (z0 (zn (z0 (zn (z0 (cE (.str "whole")) (z0 (cE (.int 0)) (z0 (cE (.int 2)) (zb))))) (z0 (zn (z0 (cE (.str "pick")) (z0 (zn (z0 (zn (z0 (cE (.str "a")) (z0 (cE (.int 1)) (zb)))) (zb))) (zb)))) (zb)))) (zb)))) (z0 (zn (z0 (cE (.str "many")) (z0 (zn (z0 (cE (.str "whole")) (z0 (cE (.int 0)) (z0 (cE (.int 9)) (zb))))) (z0 (cE (.int 3)) (z0 (cE (.int 3)) (zb)))))) (z0 (zn (z0 (cE (.str "rising")) (zb))) (zb))))) (yS 3 4 5) [.vl (scr ns), .ow wt, .ow uh, .un, .un, .un, .un, .un, .un, .un]= .nx (EF (scr ns) .un .un .un .un):=rfl
 have dl:ya (uC (cE (.int 4))) (jo 6) lpB (EF (scr ns) .un .un .un .un)= .nx (EL (scr ns) 3 a3 b3 y3):=by
  show ug (jo 6) lpB [.int ((0:Nat):Int), .int ((1:Nat):Int), .int ((2:Nat):Int), .int ((3:Nat):Int)] _=_
  rw [wq rfl l0,wq rfl l1,wq rfl l2,wq rfl l3]; rfl
 have t0:Ju 9 (z0 (zj [4,5] okX f_2 (za 3 f_k (z0 (vE 0) (z0 (vE 1) (z0 (vE 1) (zb)))))) (zb)) (EL (scr ns) 3 a3 b3 y3)= .nx (EL (scr ns) 3 a3 b3 (.ow [.str "too many"])):=ub (show zq okX f_2 ((za 3 f_k (z0 (vE 0) (z0 (vE 1) (z0 (vE 1) (zb))))) [.vl grT, .vl ruT])= .ok (.str "too many") from zI (X3 ))
 have t1:zT 9 (zj [4,5] okX f_2 (za 2 f_m (z0 (vE 0) (z0 (zD (z0 (vE 1) (zb))) (zb))))) (EL (scr ns) 3 a3 b3 (.ow [.str "too many"]))= .nx (EL (scr ns) 3 a3 b3 (.ow [.str "too many", .str "too many"])):=Zm (ts:=[.str "too many"]) rfl (show 1 < 16777216 by decide) (show zq okX f_2 ((za 2 f_m (z0 (vE 0) (z0 (zD (z0 (vE 1) (zb))) (zb)))) [.vl grT, .vl ruT])= .ok (.str "too many") from zI (X4 ))
 have t2:zT 9 (zj [4] okX f_2 (za 2 f_l (z0 (vE 0) (z0 (zD (zb)) (zb))))) (EL (scr ns) 3 a3 b3 (.ow [.str "too many", .str "too many"]))= .nx (EL (scr ns) 3 a3 b3 (.ow [.str "too many", .str "too many", .str "too many"])):=Zm (ts:=[.str "too many", .str "too many"]) rfl (show 2 < 16777216 by decide) (show zq okX f_2 ((za 2 f_l (z0 (vE 0) (z0 (zD (zb)) (zb)))) [.vl grT])= .ok (.str "too many") from zI (X5 ))
 have t3:zT 9 (zj [4] okX f_2 (za 2 f_i (z0 (vE 0) (z0 (zD (zb)) (zb))))) (EL (scr ns) 3 a3 b3 (.ow [.str "too many", .str "too many", .str "too many"]))= .nx (EL (scr ns) 3 a3 b3 (.ow [.str "too many", .str "too many", .str "too many", .str "too many"])):=Zm (ts:=[.str "too many", .str "too many", .str "too many"]) rfl (show 3 < 16777216 by decide) (show zq okX f_2 ((za 2 f_i (z0 (vE 0) (z0 (zD (zb)) (zb)))) [.vl grT])= .ok (.str "too many") from zI (X6 ))
 show zl (b_0 _ _ _ _ _ _ _ _ _ _ _ _ [.vl (scr ns), .un, .un, .un, .un, .un, .un, .un, .un, .un])=_
 rw [b_0,zr d0,zr d1,zr d2,zr d3,zr d4,zr dl,zr t0,zr t1,zr t2,zr t3,Qc (t:= .bl true)]
 ·rfl
 ·exact (show Zt (jd eqC (vB 9) (zd Z3 (zD (z0 (cE (.str "too many")) (zb))) (cE (.int 4)))) (Zt (jd eqC (za 1 f_1 (z0 (vE 4) (zb))) (zn (z0 (cE (.int 0)) (z0 (cE (.int 27)) (zb))))) (jd eqC (za 2 f_i (z0 (vE 3) (z0 (zD (zb)) (zb)))) (zD (zb)))) [.un, .un, .un, .vl kdT, .vl grT, .vl ruT, .un, .un, .un, .vl (.lst [.str "too many", .str "too many", .str "too many", .str "too many"])]= .ok (.bl true) from zI tdR)
end G
namespace G
open PySem PySem.Spec PyProof.Rows L2 PV
def top (i:Nat):Stmt:=PySem.Challenge.pw_worthkinds_k44_shapes_and_rules_refused.main.body.getD i (.Pass ⟨0,0,0,0⟩)
abbrev s_2:Stmt:=top 86
abbrev N_2:List Str:=["_law_kept","_law_kinds"]
theorem VI:zc N_2 ["_law_kept"] (z9 s_2):=by refine ⟨rfl,rfl,rfl, ?_,rfl, ?_, ?_⟩ <;> decide+kernel
abbrev s_e:Stmt:=top 15
abbrev N_e:List Str:=["thing"]
theorem VJ:zc N_e ["thing"] (z9 s_e):=by refine ⟨rfl,rfl,rfl, ?_,rfl, ?_, ?_⟩ <;> decide+kernel
abbrev VL:Stmt:=top 54
abbrev X7:List Str:=["thing"]
theorem Qd:zc X7 ["thing"] (z9 VL):=by refine ⟨rfl,rfl,rfl, ?_,rfl, ?_, ?_⟩ <;> decide+kernel
abbrev s_q:Stmt:=top 17
abbrev N_q:List Str:=["thing"]
theorem VM:zc N_q ["thing"] (z9 s_q):=by refine ⟨rfl,rfl,rfl, ?_,rfl, ?_, ?_⟩ <;> decide+kernel
abbrev s_j:Stmt:=top 53
abbrev N_j:List Str:=["thing","levels"]
theorem VN:zc N_j ["thing","levels"] (z9 s_j):=by refine ⟨rfl,rfl,rfl, ?_,rfl, ?_, ?_⟩ <;> decide+kernel
abbrev s_7:Stmt:=top 48
abbrev N_7:List Str:=["thing"]
theorem VO:zc N_7 ["thing"] (z9 s_7):=by refine ⟨rfl,rfl,rfl, ?_,rfl, ?_, ?_⟩ <;> decide+kernel
abbrev s_3:Stmt:=top 50
abbrev N_3:List Str:=["rule"]
theorem VP:zc N_3 ["rule"] (z9 s_3):=by refine ⟨rfl,rfl,rfl, ?_,rfl, ?_, ?_⟩ <;> decide+kernel
abbrev s_a:Stmt:=top 51
abbrev N_a:List Str:=["rules","rule"]
theorem VQ:zc N_a ["rules"] (z9 s_a):=by refine ⟨rfl,rfl,rfl, ?_,rfl, ?_, ?_⟩ <;> decide+kernel
abbrev uc:Stmt:=top 55
abbrev VR:Stmt:=top 18
abbrev X8:List Str:=["low","high","least","most"]
theorem Qe:zc X8 ["low","high","least","most"] (z9 VR):=by refine ⟨rfl,rfl,rfl, ?_,rfl, ?_, ?_⟩ <;> decide+kernel
abbrev s_d:Stmt:=top 16
abbrev N_d:List Str:=["thing","least","most"]
theorem VS:zc N_d ["thing","least","most"] (z9 s_d):=by refine ⟨rfl,rfl,rfl, ?_,rfl, ?_, ?_⟩ <;> decide+kernel
abbrev VT:Stmt:=top 21
abbrev X9:List Str:=["thing"]
theorem Qf:zc X9 ["thing"] (z9 VT):=by refine ⟨rfl,rfl,rfl, ?_,rfl, ?_, ?_⟩ <;> decide+kernel
abbrev s_x:Stmt:=top 20
abbrev N_x:List Str:=["thing","words"]
theorem vQ:zc N_x ["thing"] (z9 s_x):=by refine ⟨rfl,rfl,rfl, ?_,rfl, ?_, ?_⟩ <;> decide+kernel
abbrev s_c:Stmt:=top 19
abbrev N_c:List Str:=["thing","levels"]
theorem VU:zc N_c ["thing","levels"] (z9 s_c):=by refine ⟨rfl,rfl,rfl, ?_,rfl, ?_, ?_⟩ <;> decide+kernel
abbrev vR:Stmt:=top 22
abbrev VV:List Str:=["thing","levels"]
theorem Qg:zc VV ["thing","levels"] (z9 vR):=by refine ⟨rfl,rfl,rfl, ?_,rfl, ?_, ?_⟩ <;> decide+kernel
abbrev s_6:Stmt:=top 11
abbrev N_6:List Str:=["thing"]
theorem VW:zc N_6 ["thing"] (z9 s_6):=by refine ⟨rfl,rfl,rfl, ?_,rfl, ?_, ?_⟩ <;> decide+kernel
abbrev s_9:Stmt:=top 13
abbrev N_9:List Str:=["kind"]
theorem VX:zc N_9 ["kind"] (z9 s_9):=by refine ⟨rfl,rfl,rfl, ?_,rfl, ?_, ?_⟩ <;> decide+kernel
abbrev s_4:Stmt:=top 29
abbrev N_4:List Str:=["kind"]
theorem VY:zc N_4 ["kind"] (z9 s_4):=by refine ⟨rfl,rfl,rfl, ?_,rfl, ?_, ?_⟩ <;> decide+kernel
abbrev s_v:Stmt:=top 30
abbrev N_v:List Str:=["kinds","count","kind"]
theorem VZ:zc N_v ["kinds"] (z9 s_v):=by refine ⟨rfl,rfl,rfl, ?_,rfl, ?_, ?_⟩ <;> decide+kernel
abbrev s_o:Stmt:=top 31
abbrev N_o:List Str:=["kind","length"]
theorem x3:zc N_o ["kind","length"] (z9 s_o):=by refine ⟨rfl,rfl,rfl, ?_,rfl, ?_, ?_⟩ <;> decide+kernel
abbrev s_p:Stmt:=top 23
abbrev N_p:List Str:=["kind"]
theorem x4:zc N_p ["kind"] (z9 s_p):=by refine ⟨rfl,rfl,rfl, ?_,rfl, ?_, ?_⟩ <;> decide+kernel
abbrev s_f:Stmt:=top 32
abbrev N_f:List Str:=["kind","number"]
theorem x5:zc N_f ["kind","number"] (z9 s_f):=by refine ⟨rfl,rfl,rfl, ?_,rfl, ?_, ?_⟩ <;> decide+kernel
abbrev x6:Stmt:=top 33
abbrev Xa:List Str:=["kind","number","length"]
theorem Qh:zc Xa ["kind","number"] (z9 x6):=by refine ⟨rfl,rfl,rfl, ?_,rfl, ?_, ?_⟩ <;> decide+kernel
abbrev s_w:Stmt:=top 34
abbrev N_w:List Str:=["kinds","number","parts","rest","kind","count"]
theorem x8:zc N_w ["kinds","number"] (z9 s_w):=by refine ⟨rfl,rfl,rfl, ?_,rfl, ?_, ?_⟩ <;> decide+kernel
abbrev s_g:Stmt:=top 28
abbrev N_g:List Str:=["kind","count"]
theorem x9:zc N_g ["kind"] (z9 s_g):=by refine ⟨rfl,rfl,rfl, ?_,rfl, ?_, ?_⟩ <;> decide+kernel
abbrev s_n:Stmt:=top 49
abbrev N_n:List Str:=["kind","rule"]
theorem xa:zc N_n ["kind","rule"] (z9 s_n):=by refine ⟨rfl,rfl,rfl, ?_,rfl, ?_, ?_⟩ <;> decide+kernel
abbrev s_k:Stmt:=top 63
abbrev N_k:List Str:=["kind","one","other"]
theorem xb:zc N_k ["kind","one","other"] (z9 s_k):=by refine ⟨rfl,rfl,rfl, ?_,rfl, ?_, ?_⟩ <;> decide+kernel
abbrev U6:Stmt:=top 69
abbrev s_s:Stmt:=top 68
abbrev N_s:List Str:=["kind","rules","ways","worth"]
theorem xf:zc N_s ["kind","rules"] (z9 s_s):=by refine ⟨rfl,rfl,rfl, ?_,rfl, ?_, ?_⟩ <;> decide+kernel
abbrev ZK:Stmt:=top 41
abbrev s_m:Stmt:=top 65
abbrev N_m:List Str:=["kind","rules","ways"]
theorem xg:zc N_m ["kind","rules"] (z9 s_m):=by refine ⟨rfl,rfl,rfl, ?_,rfl, ?_, ?_⟩ <;> decide+kernel
abbrev s_l:Stmt:=top 66
abbrev N_l:List Str:=["kind","rules"]
theorem xh:zc N_l ["kind","rules"] (z9 s_l):=by refine ⟨rfl,rfl,rfl, ?_,rfl, ?_, ?_⟩ <;> decide+kernel
abbrev vS:Stmt:=top 52
abbrev Xb:List Str:=["worths","rules"]
theorem Qi:zc Xb ["worths","rules"] (z9 vS):=by refine ⟨rfl,rfl,rfl, ?_,rfl, ?_, ?_⟩ <;> decide+kernel
abbrev s_i:Stmt:=top 67
abbrev N_i:List Str:=["kind","rules","counts","fewest"]
theorem xi:zc N_i ["kind","rules"] (z9 s_i):=by refine ⟨rfl,rfl,rfl, ?_,rfl, ?_, ?_⟩ <;> decide+kernel
abbrev wU:Stmt:=top 77
abbrev s_b:Stmt:=top 71
abbrev N_b:List Str:=["kind"]
theorem xj:zc N_b ["kind"] (z9 s_b):=by refine ⟨rfl,rfl,rfl, ?_,rfl, ?_, ?_⟩ <;> decide+kernel
abbrev wV:Stmt:=top 78
abbrev s_y:Stmt:=top 72
abbrev N_y:List Str:=["kind"]
theorem xk:zc N_y ["kind"] (z9 s_y):=by refine ⟨rfl,rfl,rfl, ?_,rfl, ?_, ?_⟩ <;> decide+kernel
abbrev s_5:Stmt:=top 79
abbrev N_5:List Str:=["kind","reaches"]
theorem vT:zc N_5 ["kind"] (z9 s_5):=by refine ⟨rfl,rfl,rfl, ?_,rfl, ?_, ?_⟩ <;> decide+kernel
abbrev xl:Stmt:=top 80
abbrev Xc:List Str:=["kind","part"]
theorem Qj:zc Xc ["kind"] (z9 xl):=by refine ⟨rfl,rfl,rfl, ?_,rfl, ?_, ?_⟩ <;> decide+kernel
abbrev s_1:Stmt:=top 73
abbrev N_1:List Str:=["kind"]
theorem xm:zc N_1 ["kind"] (z9 s_1):=by refine ⟨rfl,rfl,rfl, ?_,rfl, ?_, ?_⟩ <;> decide+kernel
abbrev JW:Stmt:=top 81
abbrev s_8:Stmt:=top 74
abbrev N_8:List Str:=["kind"]
theorem xn:zc N_8 ["kind"] (z9 s_8):=by refine ⟨rfl,rfl,rfl, ?_,rfl, ?_, ?_⟩ <;> decide+kernel
abbrev s_h:Stmt:=top 24
abbrev N_h:List Str:=["kind","thing"]
theorem xo:zc N_h ["kind","thing"] (z9 s_h):=by refine ⟨rfl,rfl,rfl, ?_,rfl, ?_, ?_⟩ <;> decide+kernel
abbrev vU:Stmt:=top 25
abbrev xp:List Str:=["kinds","parts"]
theorem Qk:zc xp ["kinds","parts"] (z9 vU):=by refine ⟨rfl,rfl,rfl, ?_,rfl, ?_, ?_⟩ <;> decide+kernel
abbrev xr:Stmt:=top 12
abbrev Xd:List Str:=["kind","thing"]
theorem Ql:zc Xd ["kind","thing"] (z9 xr):=by refine ⟨rfl,rfl,rfl, ?_,rfl, ?_, ?_⟩ <;> decide+kernel
abbrev xt:Stmt:=top 14
abbrev Xe:List Str:=["kind","worth"]
theorem Qm:zc Xe ["kind","worth"] (z9 xt):=by refine ⟨rfl,rfl,rfl, ?_,rfl, ?_, ?_⟩ <;> decide+kernel
abbrev ZL:Stmt:=top 82
abbrev s_r:Stmt:=top 75
abbrev N_r:List Str:=["kind","worth"]
theorem xu:zc N_r ["kind","worth"] (z9 s_r):=by refine ⟨rfl,rfl,rfl, ?_,rfl, ?_, ?_⟩ <;> decide+kernel
abbrev s_u:Stmt:=top 64
abbrev N_u:List Str:=["kind","one","other"]
theorem xv:zc N_u ["kind","one","other"] (z9 s_u):=by refine ⟨rfl,rfl,rfl, ?_,rfl, ?_, ?_⟩ <;> decide+kernel
abbrev j9:Stmt:=top 87
abbrev JX:List Str:=["_law_deed","e"]
theorem Js:zc JX ["_law_deed"] (z9 j9):=by refine ⟨rfl,rfl,rfl, ?_,rfl, ?_, ?_⟩ <;> decide+kernel
abbrev s_z:Stmt:=top 84
abbrev N_z:List Str:=["_law_script","_law_k"]
theorem xw:zc N_z ["_law_script","_law_k"] (z9 s_z):=by refine ⟨rfl,rfl,rfl, ?_,rfl, ?_, ?_⟩ <;> decide+kernel
abbrev s_t:Stmt:=top 85
abbrev N_t:List Str:=["_law_script","_law_k","_law_many","_law_drawn"]
theorem xx:zc N_t ["_law_script","_law_k","_law_many"] (z9 s_t):=by refine ⟨rfl,rfl,rfl, ?_,rfl, ?_, ?_⟩ <;> decide+kernel
abbrev s_0:Stmt:=top 88
abbrev N_0:List Str:=["_law_script","_law_odd","_law_bad","_law_kind","_law_great","_law_rule","_law_k","_law_thing","_law_worse","_law_told_here"]
theorem xy:zc N_0 ["_law_script"] (z9 s_0):=by refine ⟨rfl,rfl,rfl, ?_,rfl, ?_, ?_⟩ <;> decide+kernel
structure Fn (K:PySem.W.Frag) (mg:Str->Option Value) (x:Str) (st:Stmt) (ps:List Str) (f:Addr) (fd:FuncData):Prop where
 F:Fun K x x st f fd
 b:L2.Binds K fd ps []
 m:mg x=some (.ref f)
abbrev Uy:List Value:=[.type "ValueError", .type "Exception", .type "BaseException", .type "object"]
set_option genInjectivity false in
set_option genSizeOf false in
structure Tx (K:PySem.W.Frag) (mg:Str->Option Value) where
 a_2:Addr
 d_2:FuncData
 C_2:Fn K mg "_law_class" s_2 ["_law_kept"] a_2 d_2
 a_e:Addr
 d_e:FuncData
 C_e:Fn K mg "is_whole" s_e ["thing"] a_e d_e
 a_13:Addr
 d_13:FuncData
 C_13:Fn K mg "is_bound" VL ["thing"] a_13 d_13
 a_q:Addr
 d_q:FuncData
 C_q:Fn K mg "is_word" s_q ["thing"] a_q d_q
 a_j:Addr
 d_j:FuncData
 C_j:Fn K mg "is_rule_within" s_j ["thing","levels"] a_j d_j
 a_7:Addr
 d_7:FuncData
 C_7:Fn K mg "is_rule" s_7 ["thing"] a_7 d_7
 a_3:Addr
 d_3:FuncData
 C_3:Fn K mg "need_rule" s_3 ["rule"] a_3 d_3
 a_a:Addr
 d_a:FuncData
 C_a:Fn K mg "need_rules" s_a ["rules"] a_a d_a
 a_is_kept:Addr
 d_is_kept:FuncData
 C_is_kept:Fn K mg "is_kept" uc ["rule","worth"] a_is_kept d_is_kept
 a_14:Addr
 d_14:FuncData
 C_14:Fn K mg "is_span" VR ["low","high","least","most"] a_14 d_14
 a_d:Addr
 d_d:FuncData
 C_d:Fn K mg "is_tuple_of" s_d ["thing","least","most"] a_d d_d
 a_16:Addr
 d_16:FuncData
 C_16:Fn K mg "is_choice" VT ["thing"] a_16 d_16
 a_x:Addr
 d_x:FuncData
 C_x:Fn K mg "are_choices" s_x ["thing"] a_x d_x
 a_c:Addr
 d_c:FuncData
 C_c:Fn K mg "is_kind_within" s_c ["thing","levels"] a_c d_c
 a_11:Addr
 d_11:FuncData
 C_11:Fn K mg "are_kinds_within" vR ["thing","levels"] a_11 d_11
 a_6:Addr
 d_6:FuncData
 C_6:Fn K mg "is_kind" s_6 ["thing"] a_6 d_6
 a_9:Addr
 d_9:FuncData
 C_9:Fn K mg "need_kind" s_9 ["kind"] a_9 d_9
 a_4:Addr
 d_4:FuncData
 C_4:Fn K mg "count_of" s_4 ["kind"] a_4 d_4
 a_v:Addr
 d_v:FuncData
 C_v:Fn K mg "count_of_parts" s_v ["kinds"] a_v d_v
 a_o:Addr
 d_o:FuncData
 C_o:Fn K mg "count_shorter" s_o ["kind","length"] a_o d_o
 a_p:Addr
 d_p:FuncData
 C_p:Fn K mg "words_of_pick" s_p ["kind"] a_p d_p
 a_f:Addr
 d_f:FuncData
 C_f:Fn K mg "worth_at" s_f ["kind","number"] a_f d_f
 a_19:Addr
 d_19:FuncData
 C_19:Fn K mg "many_at" x6 ["kind","number"] a_19 d_19
 a_w:Addr
 d_w:FuncData
 C_w:Fn K mg "parts_at" s_w ["kinds","number"] a_w d_w
 a_g:Addr
 d_g:FuncData
 C_g:Fn K mg "all_worths" s_g ["kind"] a_g d_g
 a_n:Addr
 d_n:FuncData
 C_n:Fn K mg "keepers" s_n ["kind","rule"] a_n d_n
 a_k:Addr
 d_k:FuncData
 C_k:Fn K mg "implies" s_k ["kind","one","other"] a_k d_k
 a_way_of:Addr
 d_way_of:FuncData
 C_way_of:Fn K mg "way_of" U6 ["rules","worth"] a_way_of d_way_of
 a_s:Addr
 d_s:FuncData
 C_s:Fn K mg "worths_by_ways" s_s ["kind","rules"] a_s d_s
 a_shares_together:Addr
 d_shares_together:FuncData
 C_shares_together:Fn K mg "shares_together" ZK ["kind","worths"] a_shares_together d_shares_together
 a_m:Addr
 d_m:FuncData
 C_m:Fn K mg "tally" s_m ["kind","rules"] a_m d_m
 a_l:Addr
 d_l:FuncData
 C_l:Fn K mg "parted" s_l ["kind","rules"] a_l d_l
 a_12:Addr
 d_12:FuncData
 C_12:Fn K mg "counts_keeping" vS ["worths","rules"] a_12 d_12
 a_i:Addr
 d_i:FuncData
 C_i:Fn K mg "tightest" s_i ["kind","rules"] a_i d_i
 a_depth_of:Addr
 d_depth_of:FuncData
 C_depth_of:Fn K mg "depth_of" wU ["kind"] a_depth_of d_depth_of
 a_b:Addr
 d_b:FuncData
 C_b:Fn K mg "depth" s_b ["kind"] a_b d_b
 a_words_of:Addr
 d_words_of:FuncData
 C_words_of:Fn K mg "words_of" wV ["kind"] a_words_of d_words_of
 a_y:Addr
 d_y:FuncData
 C_y:Fn K mg "words_in" s_y ["kind"] a_y d_y
 a_5:Addr
 d_5:FuncData
 C_5:Fn K mg "reach_of" s_5 ["kind"] a_5 d_5
 a_18:Addr
 d_18:FuncData
 C_18:Fn K mg "reach_of_many" xl ["kind"] a_18 d_18
 a_1:Addr
 d_1:FuncData
 C_1:Fn K mg "reach" s_1 ["kind"] a_1 d_1
 a_mirror_of:Addr
 d_mirror_of:FuncData
 C_mirror_of:Fn K mg "mirror_of" JW ["kind"] a_mirror_of d_mirror_of
 a_8:Addr
 d_8:FuncData
 C_8:Fn K mg "mirrored" s_8 ["kind"] a_8 d_8
 a_h:Addr
 d_h:FuncData
 C_h:Fn K mg "has_worth" s_h ["kind","thing"] a_h d_h
 a_10:Addr
 d_10:FuncData
 C_10:Fn K mg "have_parts" vU ["kinds","parts"] a_10 d_10
 a_17:Addr
 d_17:FuncData
 C_17:Fn K mg "is_worth" xr ["kind","thing"] a_17 d_17
 a_15:Addr
 d_15:FuncData
 C_15:Fn K mg "need_worth" xt ["kind","worth"] a_15 d_15
 a_mirror_of_worth:Addr
 d_mirror_of_worth:FuncData
 C_mirror_of_worth:Fn K mg "mirror_of_worth" ZL ["worth"] a_mirror_of_worth d_mirror_of_worth
 a_r:Addr
 d_r:FuncData
 C_r:Fn K mg "mirrored_worth" s_r ["kind","worth"] a_r d_r
 a_u:Addr
 d_u:FuncData
 C_u:Fn K mg "alike_on" s_u ["kind","one","other"] a_u d_u
 a__law_told:Addr
 d__law_told:FuncData
 C__law_told:Fn K mg "_law_told" j9 ["_law_deed"] a__law_told d__law_told
 a_z:Addr
 d_z:FuncData
 C_z:Fn K mg "_law_cell" s_z ["_law_script","_law_k"] a_z d_z
 a_t:Addr
 d_t:FuncData
 C_t:Fn K mg "_law_pick" s_t ["_law_script","_law_k","_law_many"] a_t d_t
 a_0:Addr
 d_0:FuncData
 C_0:Fn K mg "law" s_0 ["_law_script"] a_0 d_0
 k_law:Addr
 P_law:Addr
 e_law:d_0.code= .ref k_law
 h_law:PySem.W.codeHdIn K k_law P_law=true
 n_law:K.lookup P_law=none
 z_ValueError:mg "ValueError"=none
 z_all:mg "all"=none
 z_bool:mg "bool"=none
 z_enumerate:mg "enumerate"=none
 z_int:mg "int"=none
 z_isinstance:mg "isinstance"=none
 z_len:mg "len"=none
 z_list:mg "list"=none
 z_max:mg "max"=none
 z_min:mg "min"=none
 z_range:mg "range"=none
 z_reversed:mg "reversed"=none
 z_set:mg "set"=none
 z_sorted:mg "sorted"=none
 z_str:mg "str"=none
 z_sum:mg "sum"=none
 z_tuple:mg "tuple"=none
 z_zip:mg "zip"=none
 c_DEEPEST:∃ u,mg "DEEPEST"=some u/\∃ t,u=Value.int 3 t
 c_DEEPEST_RULE:∃ u,mg "DEEPEST_RULE"=some u/\∃ t,u=Value.int 3 t
 c_FARTHEST_BOUND:∃ u,mg "FARTHEST_BOUND"=some u/\∃ t,u=Value.int 50 t
 c_MOST_TOLD:∃ u,mg "MOST_TOLD"=some u/\∃ t,u=Value.int 500 t
set_option genInjectivity false in
set_option genSizeOf false in
structure Tq (K:PySem.W.Frag) (mg:Str->Option Value) (base:Heap) (cl:Nat->Value) where
 q_Ended:Addr
 q_NoBack:Addr
 q_NoKind:Addr
 q_NoRule:Addr
 q_NoText:Addr
 q_NoWorth:Addr
 q_TooMany:Addr
 q_WorthError:Addr
 X_k:XK1 K cl okX
 e_WorthError:∀ c,okX c=true->PySem.W.exmOne K (cl c) (.ref q_WorthError)=some true
 l_NoKind:cl 0= .ref q_NoKind
 l_NoRule:cl 2= .ref q_NoRule
 l_NoWorth:cl 1= .ref q_NoWorth
 l_TooMany:cl 3= .ref q_TooMany
 m_Ended:mg "Ended"=some (.ref q_Ended)
 m_NoBack:mg "NoBack"=some (.ref q_NoBack)
 m_NoKind:mg "NoKind"=some (.ref q_NoKind)
 m_NoRule:mg "NoRule"=some (.ref q_NoRule)
 m_NoText:mg "NoText"=some (.ref q_NoText)
 m_NoWorth:mg "NoWorth"=some (.ref q_NoWorth)
 m_TooMany:mg "TooMany"=some (.ref q_TooMany)
 m_WorthError:mg "WorthError"=some (.ref q_WorthError)
 o_NoKind:OwnCls "NoKind" q_NoKind Uy "ValueError.__new__" mg base
 o_NoRule:OwnCls "NoRule" q_NoRule Uy "ValueError.__new__" mg base
 o_NoWorth:OwnCls "NoWorth" q_NoWorth Uy "ValueError.__new__" mg base
 o_TooMany:OwnCls "TooMany" q_TooMany Uy "ValueError.__new__" mg base
 t_Ended:∀ c,okX c=true->PySem.W.kitOne K (cl c) (.ref q_Ended)=some (j6 c)
 t_NoBack:∀ c,okX c=true->PySem.W.kitOne K (cl c) (.ref q_NoBack)=some (ZI c)
 t_NoKind:∀ c,okX c=true->PySem.W.kitOne K (cl c) (.ref q_NoKind)=some (ZE c)
 t_NoRule:∀ c,okX c=true->PySem.W.kitOne K (cl c) (.ref q_NoRule)=some (ZF c)
 t_NoText:∀ c,okX c=true->PySem.W.kitOne K (cl c) (.ref q_NoText)=some (ZH c)
 t_NoWorth:∀ c,okX c=true->PySem.W.kitOne K (cl c) (.ref q_NoWorth)=some (Zr c)
 t_TooMany:∀ c,okX c=true->PySem.W.kitOne K (cl c) (.ref q_TooMany)=some (Zs c)
 t_ValueError:∀ c,okX c=true->PySem.W.kitOne K (cl c) (.type "ValueError")=some (Z4 c)
section
variable (P:Program) (w:World) {K:PySem.W.Frag} {mg:Str->Option Value} (base:Heap) (cl:Nat->Value) (tx:Tx K mg) (k:Nat) (c:List T->R T)
abbrev Q_2 (c:Nat->R T):Prop:=FnM P w K mg base k tx.a_2 tx.d_2 ["_law_kept"] (spC cl c)
abbrev Q_e:Prop:=zB P w K mg base CX0 k tx.a_e tx.d_e ["thing"] (spP cl 1 c)
abbrev vV:Prop:=zB P w K mg base CX0 k tx.a_13 tx.d_13 ["thing"] (spP cl 1 c)
abbrev Q_q:Prop:=zB P w K mg base CX0 k tx.a_q tx.d_q ["thing"] (spP cl 1 c)
abbrev Q_j:Prop:=zB P w K mg base CX0 k tx.a_j tx.d_j ["thing","levels"] (spP cl 2 c)
abbrev Q_7:Prop:=zB P w K mg base CX0 k tx.a_7 tx.d_7 ["thing"] (spP cl 1 c)
abbrev Q_3:Prop:=zB P w K mg base (CX1 P w) k tx.a_3 tx.d_3 ["rule"] (spP cl 1 c)
abbrev Q_a:Prop:=zB P w K mg base (CX1 P w) k tx.a_a tx.d_a ["rules"] (spP cl 1 c)
abbrev ja:Prop:=zB P w K mg base CX0 k tx.a_is_kept tx.d_is_kept ["rule","worth"] (spP cl 2 c)
abbrev vW:Prop:=zB P w K mg base CX0 k tx.a_14 tx.d_14 ["low","high","least","most"] (spP cl 4 c)
abbrev Q_d:Prop:=zB P w K mg base CX0 k tx.a_d tx.d_d ["thing","least","most"] (spP cl 3 c)
abbrev vX:Prop:=zB P w K mg base CX0 k tx.a_16 tx.d_16 ["thing"] (spP cl 1 c)
abbrev Q_x:Prop:=zB P w K mg base CX0 k tx.a_x tx.d_x ["thing"] (spP cl 1 c)
abbrev Q_c:Prop:=zB P w K mg base CX0 k tx.a_c tx.d_c ["thing","levels"] (spP cl 2 c)
abbrev Qv:Prop:=zB P w K mg base CX0 k tx.a_11 tx.d_11 ["thing","levels"] (spP cl 2 c)
abbrev Q_6:Prop:=zB P w K mg base CX0 k tx.a_6 tx.d_6 ["thing"] (spP cl 1 c)
abbrev Q_9:Prop:=zB P w K mg base (CX1 P w) k tx.a_9 tx.d_9 ["kind"] (spP cl 1 c)
abbrev Q_4:Prop:=zB P w K mg base CX0 k tx.a_4 tx.d_4 ["kind"] (spP cl 1 c)
abbrev Q_v:Prop:=zB P w K mg base CX0 k tx.a_v tx.d_v ["kinds"] (spP cl 1 c)
abbrev Q_o:Prop:=zB P w K mg base CX0 k tx.a_o tx.d_o ["kind","length"] (spP cl 2 c)
abbrev Q_p:Prop:=zB P w K mg base CX0 k tx.a_p tx.d_p ["kind"] (spP cl 1 c)
abbrev Q_f:Prop:=zB P w K mg base CX0 k tx.a_f tx.d_f ["kind","number"] (spP cl 2 c)
abbrev Qw:Prop:=zB P w K mg base CX0 k tx.a_19 tx.d_19 ["kind","number"] (spP cl 2 c)
abbrev Q_w:Prop:=zB P w K mg base CX0 k tx.a_w tx.d_w ["kinds","number"] (spP cl 2 c)
abbrev Q_g:Prop:=zB P w K mg base (CX1 P w) k tx.a_g tx.d_g ["kind"] (spP cl 1 c)
abbrev Q_n:Prop:=zB P w K mg base (CX1 P w) k tx.a_n tx.d_n ["kind","rule"] (spP cl 2 c)
abbrev Q_k:Prop:=zB P w K mg base (CX1 P w) k tx.a_k tx.d_k ["kind","one","other"] (spP cl 3 c)
abbrev U7:Prop:=zB P w K mg base CX0 k tx.a_way_of tx.d_way_of ["rules","worth"] (spP cl 2 c)
abbrev Q_s:Prop:=zB P w K mg base (CX1 P w) k tx.a_s tx.d_s ["kind","rules"] (spP cl 2 c)
abbrev ZM:Prop:=zB P w K mg base CX0 k tx.a_shares_together tx.d_shares_together ["kind","worths"] (spP cl 2 c)
abbrev Q_m:Prop:=zB P w K mg base (CX1 P w) k tx.a_m tx.d_m ["kind","rules"] (spP cl 2 c)
abbrev Q_l:Prop:=zB P w K mg base (CX1 P w) k tx.a_l tx.d_l ["kind","rules"] (spP cl 2 c)
abbrev vY:Prop:=zB P w K mg base CX0 k tx.a_12 tx.d_12 ["worths","rules"] (spP cl 2 c)
abbrev Q_i:Prop:=zB P w K mg base (CX1 P w) k tx.a_i tx.d_i ["kind","rules"] (spP cl 2 c)
abbrev jz:Prop:=zB P w K mg base CX0 k tx.a_depth_of tx.d_depth_of ["kind"] (spP cl 1 c)
abbrev Q_b:Prop:=zB P w K mg base (CX1 P w) k tx.a_b tx.d_b ["kind"] (spP cl 1 c)
abbrev jA:Prop:=zB P w K mg base CX0 k tx.a_words_of tx.d_words_of ["kind"] (spP cl 1 c)
abbrev Q_y:Prop:=zB P w K mg base (CX1 P w) k tx.a_y tx.d_y ["kind"] (spP cl 1 c)
abbrev Q_5:Prop:=zB P w K mg base CX0 k tx.a_5 tx.d_5 ["kind"] (spP cl 1 c)
abbrev Qx:Prop:=zB P w K mg base CX0 k tx.a_18 tx.d_18 ["kind"] (spP cl 1 c)
abbrev Q_1:Prop:=zB P w K mg base (CX1 P w) k tx.a_1 tx.d_1 ["kind"] (spP cl 1 c)
abbrev jb:Prop:=zB P w K mg base CX0 k tx.a_mirror_of tx.d_mirror_of ["kind"] (spP cl 1 c)
abbrev Q_8:Prop:=zB P w K mg base (CX1 P w) k tx.a_8 tx.d_8 ["kind"] (spP cl 1 c)
abbrev Q_h:Prop:=zB P w K mg base CX0 k tx.a_h tx.d_h ["kind","thing"] (spP cl 2 c)
abbrev Qy:Prop:=zB P w K mg base CX0 k tx.a_10 tx.d_10 ["kinds","parts"] (spP cl 2 c)
abbrev vZ:Prop:=zB P w K mg base (CX1 P w) k tx.a_17 tx.d_17 ["kind","thing"] (spP cl 2 c)
abbrev V0:Prop:=zB P w K mg base (CX1 P w) k tx.a_15 tx.d_15 ["kind","worth"] (spP cl 2 c)
abbrev Z8:Prop:=zB P w K mg base CX0 k tx.a_mirror_of_worth tx.d_mirror_of_worth ["worth"] (spP cl 1 c)
abbrev Q_r:Prop:=zB P w K mg base (CX1 P w) k tx.a_r tx.d_r ["kind","worth"] (spP cl 2 c)
abbrev Q_u:Prop:=zB P w K mg base (CX1 P w) k tx.a_u tx.d_u ["kind","one","other"] (spP cl 3 c)
abbrev jc (c:Nat->R T):Prop:=u7 P w K mg cl okX c k tx.a__law_told tx.d__law_told "_law_deed"
abbrev Q_z:Prop:=zB P w K mg base CX0 k tx.a_z tx.d_z ["_law_script","_law_k"] (spP cl 2 c)
abbrev Q_t:Prop:=zB P w K mg base CX0 k tx.a_t tx.d_t ["_law_script","_law_k","_law_many"] (spP cl 3 c)
abbrev qL:Str:="law"++".<locals>."++"<lambda>"
abbrev Q_0:Prop:=zB P w K mg base (CX1 P w) k tx.a_0 tx.d_0 ["_law_script"] (Y7 cl 1 c tx.P_law qL)
end
theorem cZ {X:Cx} {Y:Fx} {cl:Nat->Value} {k j n:Nat} {f:Addr} {fd:FuncData} {ps:List Str} {g:List T->R T} {x:Str} {st:Stmt} {a:Expr} {es:List Expr} {ga:En->R (List T)} {p pos:Pos} (hy:Y.cl=cl) (F:zB X.prog X.w X.K X.mg X.base CX0 j f fd ps (spP cl n g)) (hr:Zk k X.A) (C:Fn X.K X.mg x st ps f fd) (ha:JD X Y (a :: es) ga) (hj:j<=k:=by omega) (gl:Gl X x:=by rfl) (hd:(x == ("__debug__":Str))=false:=by decide)
  (hs:starEach (a :: es) X.env=(false,eval a X.env) :: starEach es X.env:=by exact zC rfl) (hz:((backTo pos (starEach es X.env)).any fun x=>x.fst)=false:=by exact zO rfl):Snd X Y (.Call (.Name x p) (a :: es) [] pos) (za n g ga):=yh hy F hr hj gl C.m C.F.kp C.b ha hd hs hz
theorem cX {X:Cx} {Y:Fx} {cl:Nat->Value} {k j n:Nat} {f:Addr} {fd:FuncData} {ps:List Str} {g:List T->R T} {x:Str} {st:Stmt} {a:Expr} {es:List Expr} {ga:En->R (List T)} {p pos:Pos} (hy:Y.cl=cl) (hp:zY (CX1 X.prog X.w) X Y.E) (F:zB X.prog X.w X.K X.mg X.base (CX1 X.prog X.w) j f fd ps (spP cl n g)) (hr:Zk k X.A) (C:Fn X.K X.mg x st ps f fd) (ha:JD X Y (a :: es) ga) (hj:j<=k:=by omega) (gl:Gl X x:=by rfl) (hd:(x == ("__debug__":Str))=false:=by decide)
  (hs:starEach (a :: es) X.env=(false,eval a X.env) :: starEach es X.env:=by exact zC rfl) (hz:((backTo pos (starEach es X.env)).any fun x=>x.fst)=false:=by exact zO rfl):Snd X Y (.Call (.Name x p) (a :: es) [] pos) (za n g ga):=yi hy hp F hr hj gl C.m C.F.kp C.b ha hd hs hz
section
variable {P:Program} {w:World} {K:PySem.W.Frag} {mg:Str->Option Value} {base:Heap} {cl:Nat->Value} {tx:Tx K mg}
set_option hygiene false
local macro_rules | `(tactic| gp_on)=> `(tactic| first
  | (show JD _ _ _ _; first
   | refine Ud ?_ ?_
   | exact YJ)
  | (show Snd _ _ (.Name ..) _; first
   | exact QV _ (pv _)
   | exact jM (by rfl) c_FARTHEST_BOUND.1 c_FARTHEST_BOUND.2
   | exact jM (by rfl) c_DEEPEST_RULE.1 c_DEEPEST_RULE.2
   | exact jM (by rfl) c_DEEPEST.1 c_DEEPEST.2
   | exact jM (by rfl) c_MOST_TOLD.1 c_MOST_TOLD.2)
  | (show Snd _ _ (.Constant ..) _; first
   | exact QW
   | exact YI
   | exact xN
   | exact QX)
  | (show JG _ _ _ _; first
   | refine YW ?_ ?_
   | exact vq
   | refine vt ?_)
  | (show jI _ _ _ _; first
   | refine vu ?_
   | refine vv ?_ ?_ ?_
   | refine vw (pv _) ?_
   | refine YX nd (by rfl) (.inl (by rfl)) ?_
   | refine YZ ?_
   | refine YY nd (by rfl) (.inl (by rfl)) ?_
   | refine qh PassesOwn.leaving (by rfl) ?_ ?_ ?_
   | refine YX nd (by rfl) (.inr (by rfl)) ?_
   | exact jN (c:=_) xq.o_NoRule PySem.F.excBase_ValueError (by decide) PySem.F.excBase_ValueError hE (by rw [hy]; exact xq.l_NoRule) (by rfl)
   | refine qh PassesOwn.never (by rfl) ?_ ?_ ?_
   | exact vH
   | refine vx (pv _) ?_
   | exact jN (c:=_) xq.o_NoKind PySem.F.excBase_ValueError (by decide) PySem.F.excBase_ValueError hE (by rw [hy]; exact xq.l_NoKind) (by rfl)
   | refine yb (n:=_) PassesOwn.never ?_ ?_
   | exact jN (c:=_) xq.o_TooMany PySem.F.excBase_ValueError (by decide) PySem.F.excBase_ValueError hE (by rw [hy]; exact xq.l_TooMany) (by rfl)
   | exact yR nd (by rfl) (.inl (by rfl))
   | exact jN (c:=_) xq.o_NoWorth PySem.F.excBase_ValueError (by decide) PySem.F.excBase_ValueError hE (by rw [hy]; exact xq.l_NoWorth) (by rfl)
   | refine qR ?_ (Q5 (l:=_) (by rfl) nd (by rfl) (by rfl) (by rfl) (.inr (by rfl)) (.inr (by rfl)) (.inr (by rfl))))
  | (show Zn _ _ _ _; first
   | exact YH _ (pv _)
   | refine Snd.b ?_)
  | (show Snd _ _ (.Call ..) _; first
   | refine vn (by rfl) tx.z_len ?_
   | refine vp hr.hd (by rfl) tx.z_all ?_
   | refine uB (n:="tuple") (Je _) (by rfl) tx.z_isinstance (by rfl) tx.z_tuple PyProof.Rows.Boot.«tuple» ?_
   | refine vI hr.hd (by rfl) tx.z_sum ?_
   | exact Zq (hy ▸ xq.X_k) (hy ▸ xq.t_Ended) (by rfl) tx.z_isinstance (pv _) (by rfl) xq.m_Ended
   | exact Zq (hy ▸ xq.X_k) (hy ▸ xq.t_NoBack) (by rfl) tx.z_isinstance (pv _) (by rfl) xq.m_NoBack
   | exact Zq (hy ▸ xq.X_k) (hy ▸ xq.t_NoKind) (by rfl) tx.z_isinstance (pv _) (by rfl) xq.m_NoKind
   | exact Zq (hy ▸ xq.X_k) (hy ▸ xq.t_NoRule) (by rfl) tx.z_isinstance (pv _) (by rfl) xq.m_NoRule
   | exact Zq (hy ▸ xq.X_k) (hy ▸ xq.t_NoText) (by rfl) tx.z_isinstance (pv _) (by rfl) xq.m_NoText
   | exact Zq (hy ▸ xq.X_k) (hy ▸ xq.t_NoWorth) (by rfl) tx.z_isinstance (pv _) (by rfl) xq.m_NoWorth
   | exact Zq (hy ▸ xq.X_k) (hy ▸ xq.t_TooMany) (by rfl) tx.z_isinstance (pv _) (by rfl) xq.m_TooMany
   | refine yx hr.units ?_ ?_
   | exact yl (n:="ValueError") (hy ▸ xq.X_k) (hy ▸ xq.t_ValueError) (by rfl) tx.z_isinstance (pv _) (by rfl) tx.z_ValueError PyProof.Rows.Boot.«ValueError»
   | refine yy hr.units ?_ ?_
   | refine uB (n:="int") (y8 _) (by rfl) tx.z_isinstance (by rfl) tx.z_int PyProof.Rows.Boot.«int» ?_
   | refine uB (n:="bool") (uz _) (by rfl) tx.z_isinstance (by rfl) tx.z_bool PyProof.Rows.Boot.«bool» ?_
   | refine uB (n:="str") (y9 _) (by rfl) tx.z_isinstance (by rfl) tx.z_str PyProof.Rows.Boot.«str» ?_
   | refine qQ (n:="list") (m:="tuple") (uA _) (Je _) (by rfl) tx.z_isinstance (by rfl) tx.z_list PyProof.Rows.Boot.«list» (by rfl) tx.z_tuple PyProof.Rows.Boot.«tuple» ?_
   | refine qw hr.hd (by rfl) tx.z_len (by rfl) tx.z_set ?_
   | refine qO hr.hd (by rfl) tx.z_tuple (by rfl) tx.z_reversed ?_
   | refine Q4 ?_ (by rfl) tx.z_list
   | refine Q3 hr.hd (by rfl) tx.z_min ?_ ?_
   | refine qW hr.hd (by rfl) tx.z_sorted (by rfl) tx.z_set ?_
   | refine YU (by rfl) (by rfl) tx.z_min ?_ ?_
   | refine qT (by rfl) (by rfl) tx.z_max ?_ ?_
   | refine cX hy (hE ▸ je) O_9 hr tx.C_9 ?_
   | refine cZ hy O_e hr tx.C_e ?_
   | refine cZ hy O_d hr tx.C_d ?_
   | refine cX hy (hE ▸ je) O_a hr tx.C_a ?_
   | refine cZ hy O_j hr tx.C_j ?_
   | refine cZ hy O_o hr tx.C_o ?_
   | refine cZ hy O_4 hr tx.C_4 ?_
   | refine cX hy (hE ▸ je) O_g hr tx.C_g ?_
   | refine cX hy (hE ▸ je) O_n hr tx.C_n ?_
   | refine cX hy (hE ▸ jj) (O_k _ KB) hr tx.C_k ?_
   | refine cX hy (hE ▸ jj) (O_m _ KB) hr tx.C_m ?_
   | refine cX hy (hE ▸ jj) (O_l _ KB) hr tx.C_l ?_
   | refine cX hy (hE ▸ jj) (O_i _ KB) hr tx.C_i ?_
   | refine cZ hy O_13 hr tx.C_13 ?_
   | refine cZ hy O_q hr tx.C_q ?_
   | refine cX hy (hE ▸ je) O_3 hr tx.C_3 ?_
   | refine cZ hy O_14 hr tx.C_14 ?_
   | refine cZ hy O_c hr tx.C_c ?_
   | refine cZ hy O_p hr tx.C_p ?_
   | refine cZ hy O_w hr tx.C_w ?_
   | refine cZ (hy'.trans hy) O_is_kept hr tx.C_is_kept ?_
   | refine cX hy (hE ▸ je) O_s hr tx.C_s ?_
   | refine cZ hy O_5 hr tx.C_5 ?_
   | refine cZ hy O_10 hr tx.C_10 ?_
   | refine cZ hy (O_t _ KB) hr tx.C_t ?_
   | refine cX hy (hE ▸ jj) (O_r _ KB) hr tx.C_r ?_
   | refine cX hy (hE ▸ jj) (O_u _ KB) hr tx.C_u ?_
   | refine cZ hy O_7 hr tx.C_7 ?_
   | refine cZ (hy'.trans hy) O_16 hr tx.C_16 ?_
   | refine cZ hy O_x hr tx.C_x ?_
   | refine cZ hy O_11 hr tx.C_11 ?_
   | refine cZ (hy'.trans hy) O_c hr tx.C_c ?_
   | refine cZ hy O_6 hr tx.C_6 ?_
   | refine cZ hy O_v hr tx.C_v ?_
   | refine cZ (hy'.trans hy) O_v hr tx.C_v ?_
   | refine cZ hy O_19 hr tx.C_19 ?_
   | refine cZ hy O_f hr tx.C_f ?_
   | refine cZ (hy'.trans hy) O_f hr tx.C_f ?_
   | refine cZ hy O_12 hr tx.C_12 ?_
   | refine cZ hy O_depth_of hr tx.C_depth_of ?_
   | refine cZ hy O_words_of hr tx.C_words_of ?_
   | refine cZ (hy'.trans hy) O_5 hr tx.C_5 ?_
   | refine cZ hy O_18 hr tx.C_18 ?_
   | refine cZ hy O_mirror_of hr tx.C_mirror_of ?_
   | refine cZ (hy'.trans hy) O_h hr tx.C_h ?_
   | refine cZ hy O_h hr tx.C_h ?_
   | refine cX hy (hE ▸ je) O_17 hr tx.C_17 ?_
   | refine cX hy (hE ▸ je) O_15 hr tx.C_15 ?_
   | refine cZ hy O_mirror_of_worth hr tx.C_mirror_of_worth ?_
   | refine cZ hy O_z hr tx.C_z ?_
   | refine cX hy (hE ▸ jj) (O_b _ KB) hr tx.C_b ?_
   | refine cX hy (hE ▸ jj) (O_y _ KB) hr tx.C_y ?_
   | refine cX hy (hE ▸ jj) (O_1 _ KB) hr tx.C_1 ?_
   | refine cX hy (hE ▸ jj) (O_8 _ KB) hr tx.C_8 ?_
   | refine cX hy (hE ▸ je) (O_1 _ KB) hr tx.C_1 ?_
   | refine cX hy (hE ▸ je) (O_i _ KB) hr tx.C_i ?_)
  | (show Snd _ _ (.Subscript ..) _; first
   | refine xP ?_ ?_
   | refine vN (pv _) ?_)
  | (show w9 _ _ _ _; first
   | refine Wp YM (Ue hr.units) ?_ ?_ (jk _)
   | refine vj ?_
   | refine Wp vb (YN hr.units) ?_ ?_ (jk _)
   | refine y4 Jd Jd ZN ZN ?_ ?_ ?_
   | refine Wp Jd ZN ?_ ?_ (jk _)
   | refine Wp vd YQ ?_ ?_ (jk _)
   | refine Wp vc YO ?_ ?_ (jk _)
   | refine vk ?_
   | refine ux.t ?_)
  | (show Snd _ _ (.BinOp ..) _; first
   | refine v9 ?_ ?_
   | refine v6 ?_ ?_
   | refine v7 ?_ ?_
   | refine v8 ?_ ?_
   | refine YK ?_ ?_)
  | (show Snd _ _ (.BoolOp ..) _; first
   | refine vg ?_ ?_
   | refine vf ?_)
  | (show Snd _ _ (.Tuple ..) _; first
   | refine QY ?_)
  | (show Snd _ _ (.List ..) _; first
   | refine QZ ?_)
  | (show Snd _ _ (.Compare ..) _; first
   | refine YL YM (Ue hr.units) ?_ ?_ (jk _)
   | refine UZ Jd Jd ZN ZN ?_ ?_ ?_
   | refine uw Jd Jd Jd ZN ZN ZN ?_ ?_ ?_ ?_
   | refine YL YR (YS hr.units) ?_ ?_ (by rfl))
  | (show wG _ _ _ _ _; first
   | refine qe (by rfl) tx.z_range ?_
   | refine qf (by rfl) tx.z_range ?_ ?_
   | refine vL (by rfl) tx.z_reversed ?_
   | refine qt (by rfl) tx.z_enumerate ?_
   | refine vC (by rfl) tx.z_zip ?_ ?_
   | refine vA ?_)
  | (show ux _ _ _ _; first
   | refine xO ?_ ?_
   | refine vi ?_)
  | (show JJ _ _ _ _; first
   | exact qk
   | refine qm ?_)
  | (show Snd _ _ (.UnaryOp ..) _; first
   | refine va ?_
   | refine vh ?_)
  | (show qg _ _ _ _; first
   | exact Uj nd (by rfl) (.inl (by rfl))
   | exact Uj nd (by rfl) (.inr (by rfl)))
  | (show Snd _ _ (.ListComp ..) _; first
   | refine yU (Q6 (z9 vS) (by rfl) (by decide+kernel)) (by rfl) ?_)
  )
theorem Xf (xq:Tq K mg base cl):Q_2 P w base cl tx 1 (fun c=>zl (b_2  (enC 2 c))):=by
 refine yP tx.C_2.F VI (by decide) (fun cdv A outer s H Y hy hr=> ?_) (fun c=>rfl)
 have nd:=VI.nd
 repeat' gp_on
theorem Xg:Q_e P w base cl tx 1 (fun ts=>zl (b_e  (en0 1 ts))):=by
 refine zR tx.C_e.F VJ rfl (fun cdv A outer s H E Y hy hr=> ?_) (fun ts h=>rfl)
 have nd:=VJ.nd
 repeat' gp_on
theorem V1 {c_e:List T->R T} (O_e:Q_e P w base cl tx 1 c_e):vV P w base cl tx 2 (fun ts=>zl (Vr c_e (en0 1 ts))):=by
 obtain ⟨u_FARTHEST_BOUND,c_FARTHEST_BOUND⟩:=tx.c_FARTHEST_BOUND
 refine zR tx.C_13.F Qd rfl (fun cdv A outer s H E Y hy hr=> ?_) (fun ts h=>rfl)
 have nd:=Qd.nd
 repeat' gp_on
theorem Xh:Q_q P w base cl tx 1 (fun ts=>zl (b_q  (en0 1 ts))):=by
 refine zR tx.C_q.F VM rfl (fun cdv A outer s H E Y hy hr=> ?_) (fun ts h=>rfl)
 have nd:=VM.nd
 repeat' gp_on
 refine Z9 (Z0 ["sign"] N_q (z9 s_q) (by rfl) (by rfl) (by decide+kernel) (by rfl) ?_ (fun _ _ _ _ _ _=>zp (show List.Nodup (["sign"]:List Str) by decide+kernel) (by rfl) (.inl (by rfl)) (.inr (by rfl))) (zP 0) (zQ 0) (fun Y' hy' _ _ _ _ _ _=> ?_) (fun Y' hy' _ _ _ _ _ _ _ hp' => ?_))
 repeat' gp_on
theorem Xi {j:Nat} (hj:2<=j) {c_q c_j c_13:List T->R T} (O_q:Q_q P w base cl tx 1 c_q) (O_j:Q_j P w base cl tx j c_j) (O_13:vV P w base cl tx 2 c_13):Q_j P w base cl tx (j+1) (fun ts=>zl (b_j c_q c_j c_13 (en0 2 ts))):=by
 refine zR tx.C_j.F VN rfl (fun cdv A outer s H E Y hy hr=> ?_) (fun ts h=>rfl)
 have nd:=VN.nd
 repeat' gp_on
theorem Xj {c_j:List T->R T} (O_j:Q_j P w base cl tx 10 c_j):Q_7 P w base cl tx 11 (fun ts=>zl (b_7 c_j (en0 1 ts))):=by
 obtain ⟨u_DEEPEST_RULE,c_DEEPEST_RULE⟩:=tx.c_DEEPEST_RULE
 refine zR tx.C_7.F VO rfl (fun cdv A outer s H E Y hy hr=> ?_) (fun ts h=>rfl)
 have nd:=VO.nd
 repeat' gp_on
theorem Xk {c_7:List T->R T} (xq:Tq K mg base cl) (O_7:Q_7 P w base cl tx 11 c_7):Q_3 P w base cl tx 12 (fun ts=>zl (b_3 c_7 (en0 1 ts))):=by
 refine zN tx.C_3.F VP rfl (fun cdv A outer s H E Y hy hE hr=> ?_) (fun ts h=>rfl)
 have nd:=VP.nd
 repeat' gp_on
theorem Xl {c_3:List T->R T} (xq:Tq K mg base cl) (O_3:Q_3 P w base cl tx 12 c_3):Q_a P w base cl tx 13 (fun ts=>zl (b_a c_3 (en0 2 ts))):=by
 refine zN tx.C_a.F VQ rfl (fun cdv A outer s H E Y hy hE hr=> ?_) (fun ts h=>rfl)
 have nd:=VQ.nd
 repeat' gp_on
theorem V2 {c_e:List T->R T} (O_e:Q_e P w base cl tx 1 c_e):vW P w base cl tx 2 (fun ts=>zl (Vt c_e (en0 4 ts))):=by
 refine zR tx.C_14.F Qe rfl (fun cdv A outer s H E Y hy hr=> ?_) (fun ts h=>rfl)
 have nd:=Qe.nd
 repeat' gp_on
theorem Xm:Q_d P w base cl tx 1 (fun ts=>zl (b_d  (en0 3 ts))):=by
 refine zR tx.C_d.F VS rfl (fun cdv A outer s H E Y hy hr=> ?_) (fun ts h=>rfl)
 have nd:=VS.nd
 repeat' gp_on
theorem V3 {c_e c_d c_q:List T->R T} (O_e:Q_e P w base cl tx 1 c_e) (O_d:Q_d P w base cl tx 1 c_d) (O_q:Q_q P w base cl tx 1 c_q):vX P w base cl tx 2 (fun ts=>zl (Vv c_e c_d c_q (en0 1 ts))):=by
 refine zR tx.C_16.F Qf rfl (fun cdv A outer s H E Y hy hr=> ?_) (fun ts h=>rfl)
 have nd:=Qf.nd
 repeat' gp_on
theorem Xn {c_d c_16:List T->R T} (O_d:Q_d P w base cl tx 1 c_d) (O_16:vX P w base cl tx 2 c_16):Q_x P w base cl tx 3 (fun ts=>zl (b_x c_d c_16 (en0 2 ts))):=by
 refine zR tx.C_x.F vQ rfl (fun cdv A outer s H E Y hy hr=> ?_) (fun ts h=>rfl)
 have nd:=vQ.nd
 repeat' gp_on
 refine Z9 (Z0 ["part"] N_x (z9 s_x) (by rfl) (by rfl) (by decide+kernel) (by rfl) ?_ (fun _ _ _ _ _ _=>zp (show List.Nodup (["part"]:List Str) by decide+kernel) (by rfl) (.inl (by rfl)) (.inr (by rfl))) (zP 0) (zQ 0) (fun Y' hy' _ _ _ _ _ _=> ?_) (fun Y' hy' _ _ _ _ _ _ _ hp' => ?_))
 repeat' gp_on
 refine Uk (i:=1) (Z0 ["choice"] N_x (z9 s_x) (by rfl) (by rfl) (by decide+kernel) (by rfl) ?_ (fun _ _ _ _ _ _=>zp (show List.Nodup (["choice"]:List Str) by decide+kernel) (by rfl) (.inl (by rfl)) (.inr (by rfl))) (zP 0) (zQ 0) (fun Y' hy' _ _ _ _ _ _=> ?_) (fun Y' hy' _ _ _ _ _ _ _ hp' => ?_)) vQ.nd (by rfl) (.inl (by rfl)) (by rfl)
 repeat' gp_on
theorem Xo {j:Nat} (hj:3<=j) {c_14 c_c c_x c_11:List T->R T} (O_14:vW P w base cl tx 2 c_14) (O_c:Q_c P w base cl tx j c_c) (O_x:Q_x P w base cl tx 3 c_x) (O_11:Qv P w base cl tx j c_11):Q_c P w base cl tx (j+1) (fun ts=>zl (b_c c_14 c_c c_x c_11 (en0 2 ts))):=by
 refine zR tx.C_c.F VU rfl (fun cdv A outer s H E Y hy hr=> ?_) (fun ts h=>rfl)
 have nd:=VU.nd
 repeat' gp_on
theorem V4 {j:Nat} (hj:3<=j) {c_d c_c:List T->R T} (O_d:Q_d P w base cl tx 1 c_d) (O_c:Q_c P w base cl tx j c_c):Qv P w base cl tx (j+1) (fun ts=>zl (Vx c_d c_c (en0 2 ts))):=by
 refine zR tx.C_11.F Qg rfl (fun cdv A outer s H E Y hy hr=> ?_) (fun ts h=>rfl)
 have nd:=Qg.nd
 repeat' gp_on
 refine Z9 (Z0 ["part","levels"] VV (z9 vR) (by rfl) (by rfl) (by decide+kernel) (by rfl) ?_ (fun _ _ _ _ _ _=>zp (show List.Nodup (["part","levels"]:List Str) by decide+kernel) (by rfl) (.inl (by rfl)) (.inr (by rfl))) (zP 0) (zQ 0) (fun Y' hy' _ _ _ _ _ _=> ?_) (fun Y' hy' _ _ _ _ _ _ _ hp' => ?_))
 repeat' gp_on
theorem Xp {c_c:List T->R T} (O_c:Q_c P w base cl tx 23 c_c):Q_6 P w base cl tx 24 (fun ts=>zl (b_6 c_c (en0 1 ts))):=by
 obtain ⟨u_DEEPEST,c_DEEPEST⟩:=tx.c_DEEPEST
 refine zR tx.C_6.F VW rfl (fun cdv A outer s H E Y hy hr=> ?_) (fun ts h=>rfl)
 have nd:=VW.nd
 repeat' gp_on
theorem Xq {c_6:List T->R T} (xq:Tq K mg base cl) (O_6:Q_6 P w base cl tx 24 c_6):Q_9 P w base cl tx 25 (fun ts=>zl (b_9 c_6 (en0 1 ts))):=by
 refine zN tx.C_9.F VX rfl (fun cdv A outer s H E Y hy hE hr=> ?_) (fun ts h=>rfl)
 have nd:=VX.nd
 repeat' gp_on
theorem Xr {j:Nat} (hj:0<=j) {c_v c_o:List T->R T} (O_v:Q_v P w base cl tx j c_v) (O_o:Q_o P w base cl tx j c_o):Q_4 P w base cl tx (j+1) (fun ts=>zl (b_4 c_v c_o (en0 1 ts))):=by
 refine zR tx.C_4.F VY rfl (fun cdv A outer s H E Y hy hr=> ?_) (fun ts h=>rfl)
 have nd:=VY.nd
 repeat' gp_on
theorem Xs {j:Nat} (hj:0<=j) {c_4:List T->R T} (O_4:Q_4 P w base cl tx j c_4):Q_v P w base cl tx (j+1) (fun ts=>zl (b_v c_4 (en0 3 ts))):=by
 refine zR tx.C_v.F VZ rfl (fun cdv A outer s H E Y hy hr=> ?_) (fun ts h=>rfl)
 have nd:=VZ.nd
 repeat' gp_on
theorem Xt {j:Nat} (hj:0<=j) {c_v:List T->R T} (O_v:Q_v P w base cl tx j c_v):Q_o P w base cl tx (j+1) (fun ts=>zl (b_o c_v (en0 2 ts))):=by
 refine zR tx.C_o.F x3 rfl (fun cdv A outer s H E Y hy hr=> ?_) (fun ts h=>rfl)
 have nd:=x3.nd
 repeat' gp_on
 refine Z9 (Z0 ["each","kind"] N_o (z9 s_o) (by rfl) (by rfl) (by decide+kernel) (by rfl) ?_ (fun _ _ _ _ _ _=>zp (show List.Nodup (["each","kind"]:List Str) by decide+kernel) (by rfl) (.inl (by rfl)) (.inr (by rfl))) (zP 0) (zQ 0) (fun Y' hy' _ _ _ _ _ _=> ?_) (fun Y' hy' _ _ _ _ _ _ _ hp' => ?_))
 repeat' gp_on
theorem Xu:Q_p P w base cl tx 1 (fun ts=>zl (b_p  (en0 1 ts))):=by
 refine zR tx.C_p.F x4 rfl (fun cdv A outer s H E Y hy hr=> ?_) (fun ts h=>rfl)
 have nd:=x4.nd
 repeat' gp_on
 refine Z9 (Z0 ["choice"] N_p (z9 s_p) (by rfl) (by rfl) (by decide+kernel) (by rfl) ?_ (fun _ _ _ _ _ _=>zp (show List.Nodup (["choice"]:List Str) by decide+kernel) (by rfl) (.inl (by rfl)) (.inr (by rfl))) (zP 0) (zQ 0) (fun Y' hy' _ _ _ _ _ _=> ?_) (fun Y' hy' _ _ _ _ _ _ _ hp' => ?_))
 repeat' gp_on
theorem Xv {j:Nat} (hj:20<=j) {c_p c_19 c_w:List T->R T} (O_p:Q_p P w base cl tx 1 c_p) (O_19:Qw P w base cl tx j c_19) (O_w:Q_w P w base cl tx j c_w):Q_f P w base cl tx (j+1) (fun ts=>zl (b_f c_p c_19 c_w (en0 2 ts))):=by
 refine zR tx.C_f.F x5 rfl (fun cdv A outer s H E Y hy hr=> ?_) (fun ts h=>rfl)
 have nd:=x5.nd
 repeat' gp_on
theorem V5 {j:Nat} (hj:20<=j) {c_o c_w:List T->R T} (O_o:Q_o P w base cl tx 20 c_o) (O_w:Q_w P w base cl tx j c_w):Qw P w base cl tx (j+1) (fun ts=>zl (Vy c_o c_w (en0 3 ts))):=by
 refine zR tx.C_19.F Qh rfl (fun cdv A outer s H E Y hy hr=> ?_) (fun ts h=>rfl)
 have nd:=Qh.nd
 repeat' gp_on
theorem Xw {j:Nat} (hj:20<=j) {c_4 c_f:List T->R T} (O_4:Q_4 P w base cl tx 20 c_4) (O_f:Q_f P w base cl tx j c_f):Q_w P w base cl tx (j+1) (fun ts=>zl (b_w c_4 c_f (en0 6 ts))):=by
 refine zR tx.C_w.F x8 rfl (fun cdv A outer s H E Y hy hr=> ?_) (fun ts h=>rfl)
 have nd:=x8.nd
 repeat' gp_on
theorem Xx {c_9 c_4 c_f:List T->R T} (xq:Tq K mg base cl) (O_9:Q_9 P w base cl tx 25 c_9) (O_4:Q_4 P w base cl tx 20 c_4) (O_f:Q_f P w base cl tx 40 c_f):Q_g P w base cl tx 41 (fun ts=>zl (b_g c_9 c_4 c_f (en0 2 ts))):=by
 obtain ⟨u_MOST_TOLD,c_MOST_TOLD⟩:=tx.c_MOST_TOLD
 refine zN tx.C_g.F x9 rfl (fun cdv A outer s H E Y hy hE hr=> ?_) (fun ts h=>rfl)
 have nd:=x9.nd
 repeat' gp_on
 refine Z9 (Z0 ["number","kind"] N_g (z9 s_g) (by rfl) (by rfl) (by decide+kernel) (by rfl) ?_ (fun _ _ _ _ _ _=>zp (show List.Nodup (["number","kind"]:List Str) by decide+kernel) (by rfl) (.inl (by rfl)) (.inr (by rfl))) (zP 0) (zQ 0) (fun Y' hy' _ _ _ _ _ _=> ?_) (fun Y' hy' _ _ _ _ _ _ _ hp' => ?_))
 repeat' gp_on
theorem Xy {c_g c_3 c_is_kept:List T->R T} (O_g:Q_g P w base cl tx 41 c_g) (O_3:Q_3 P w base cl tx 12 c_3) (O_is_kept:ja P w base cl tx 1 c_is_kept):Q_n P w base cl tx 42 (fun ts=>zl (b_n c_g c_3 c_is_kept (en0 2 ts))):=by
 refine zN tx.C_n.F xa rfl (fun cdv A outer s H E Y hy hE hr=> ?_) (fun ts h=>rfl)
 have nd:=xa.nd
 repeat' gp_on
 refine Z9 (Z0 ["worth","rule"] N_n (z9 s_n) (by rfl) (by rfl) (by decide+kernel) (by rfl) ?_ (fun _ _ _ _ _ _=>zp (show List.Nodup (["worth","rule"]:List Str) by decide+kernel) (by rfl) (.inl (by rfl)) (.inr (by rfl))) (zP 0) (zQ 0) (fun Y' hy' _ _ _ _ _ _=> ?_) (fun Y' hy' _ _ _ _ _ _ _ hp' => ?_))
 repeat' gp_on
theorem Xz {c_is_kept c_n c_a:List T->R T} (O_is_kept:ja P w base cl tx 1 c_is_kept) (O_n:Q_n P w base cl tx 42 c_n) (O_a:Q_a P w base cl tx 13 c_a):Q_k P w base cl tx 43 (fun ts=>zl (b_k c_is_kept c_n c_a (en0 3 ts))):=by
 refine zN tx.C_k.F xb rfl (fun cdv A outer s H E Y hy hE hr=> ?_) (fun ts h=>rfl)
 have nd:=xb.nd
 repeat' gp_on
 refine Z9 (Z0 ["worth","other"] N_k (z9 s_k) (by rfl) (by rfl) (by decide+kernel) (by rfl) ?_ (fun _ _ _ _ _ _=>zp (show List.Nodup (["worth","other"]:List Str) by decide+kernel) (by rfl) (.inl (by rfl)) (.inr (by rfl))) (zP 0) (zQ 0) (fun Y' hy' _ _ _ _ _ _=> ?_) (fun Y' hy' _ _ _ _ _ _ _ hp' => ?_))
 repeat' gp_on
theorem XA {c_g:List T->R T} (O_g:Q_g P w base cl tx 41 c_g):Q_s P w base cl tx 42 (fun ts=>zl (b_s c_g (en0 4 ts))):=by
 refine zN tx.C_s.F xf rfl (fun cdv A outer s H E Y hy hE hr=> ?_) (fun ts h=>rfl)
 have nd:=xf.nd
 repeat' gp_on
theorem XB {c_a c_s:List T->R T} (O_a:Q_a P w base cl tx 13 c_a) (O_s:Q_s P w base cl tx 42 c_s):Q_m P w base cl tx 43 (fun ts=>zl (b_m c_a c_s (en0 3 ts))):=by
 refine zN tx.C_m.F xg rfl (fun cdv A outer s H E Y hy hE hr=> ?_) (fun ts h=>rfl)
 have nd:=xg.nd
 repeat' gp_on
theorem XD {c_a c_s:List T->R T} (O_a:Q_a P w base cl tx 13 c_a) (O_s:Q_s P w base cl tx 42 c_s):Q_l P w base cl tx 43 (fun ts=>zl (b_l c_a c_s (en0 2 ts))):=by
 refine zN tx.C_l.F xh rfl (fun cdv A outer s H E Y hy hE hr=> ?_) (fun ts h=>rfl)
 have nd:=xh.nd
 repeat' gp_on
theorem V6:vY P w base cl tx 2 (fun ts=>zl (Vz  (en0 2 ts))):=by
 refine zR tx.C_12.F Qi rfl (fun cdv A outer s H E Y hy hr=> ?_) (fun ts h=>rfl)
 have nd:=Qi.nd
 repeat' gp_on
theorem XF {c_g c_a c_12:List T->R T} (O_g:Q_g P w base cl tx 41 c_g) (O_a:Q_a P w base cl tx 13 c_a) (O_12:vY P w base cl tx 2 c_12):Q_i P w base cl tx 42 (fun ts=>zl (b_i c_g c_a c_12 (en0 4 ts))):=by
 refine zN tx.C_i.F xi rfl (fun cdv A outer s H E Y hy hE hr=> ?_) (fun ts h=>rfl)
 have nd:=xi.nd
 repeat' gp_on
 refine Z9 (Z0 ["number","count","fewest"] N_i (z9 s_i) (by rfl) (by rfl) (by decide+kernel) (by rfl) ?_ (fun _ _ _ _ _ _=>jW (by rfl) (zM (zp (show List.Nodup (["number","count","fewest"]:List Str) by decide+kernel) (by rfl) (.inl (by rfl)) (.inr (by rfl))) (zM (zp (show List.Nodup (["number","count","fewest"]:List Str) by decide+kernel) (by rfl) (.inl (by rfl)) (.inr (by rfl))) ZW))) (ZT _ 0 1) (ZU 0 1) (fun Y' hy' _ _ _ _ _ _=> ?_) (fun Y' hy' _ _ _ _ _ _ _ hp' => ?_))
 repeat' gp_on
theorem XG {c_9 c_depth_of:List T->R T} (O_9:Q_9 P w base cl tx 25 c_9) (O_depth_of:jz P w base cl tx 1 c_depth_of):Q_b P w base cl tx 26 (fun ts=>zl (b_b c_9 c_depth_of (en0 1 ts))):=by
 refine zN tx.C_b.F xj rfl (fun cdv A outer s H E Y hy hE hr=> ?_) (fun ts h=>rfl)
 have nd:=xj.nd
 repeat' gp_on
theorem XH {c_9 c_words_of:List T->R T} (O_9:Q_9 P w base cl tx 25 c_9) (O_words_of:jA P w base cl tx 1 c_words_of):Q_y P w base cl tx 26 (fun ts=>zl (b_y c_9 c_words_of (en0 1 ts))):=by
 refine zN tx.C_y.F xk rfl (fun cdv A outer s H E Y hy hE hr=> ?_) (fun ts h=>rfl)
 have nd:=xk.nd
 repeat' gp_on
theorem XI {j:Nat} (hj:0<=j) {c_5 c_18:List T->R T} (O_5:Q_5 P w base cl tx j c_5) (O_18:Qx P w base cl tx j c_18):Q_5 P w base cl tx (j+1) (fun ts=>zl (b_5 c_5 c_18 (en0 2 ts))):=by
 refine zR tx.C_5.F vT rfl (fun cdv A outer s H E Y hy hr=> ?_) (fun ts h=>rfl)
 have nd:=vT.nd
 repeat' gp_on
 refine Uk (i:=1) (Z0 ["part"] N_5 (z9 s_5) (by rfl) (by rfl) (by decide+kernel) (by rfl) ?_ (fun _ _ _ _ _ _=>zp (show List.Nodup (["part"]:List Str) by decide+kernel) (by rfl) (.inl (by rfl)) (.inr (by rfl))) (zP 0) (zQ 0) (fun Y' hy' _ _ _ _ _ _=> ?_) (fun Y' hy' _ _ _ _ _ _ _ hp' => ?_)) vT.nd (by rfl) (.inl (by rfl)) (by rfl)
 repeat' gp_on
 refine Z9 (Z0 ["least","most"] N_5 (z9 s_5) (by rfl) (by rfl) (by decide+kernel) (by rfl) ?_ (fun _ _ _ _ _ _=>jW (by rfl) (zM (zp (show List.Nodup (["least","most"]:List Str) by decide+kernel) (by rfl) (.inl (by rfl)) (.inr (by rfl))) (zM (zp (show List.Nodup (["least","most"]:List Str) by decide+kernel) (by rfl) (.inl (by rfl)) (.inr (by rfl))) ZW))) (ZT _ 0 1) (ZU 0 1) (fun Y' hy' _ _ _ _ _ _=> ?_) (fun Y' hy' _ _ _ _ _ _ _ hp' => ?_))
 repeat' gp_on
 refine Z9 (Z0 ["least","most"] N_5 (z9 s_5) (by rfl) (by rfl) (by decide+kernel) (by rfl) ?_ (fun _ _ _ _ _ _=>jW (by rfl) (zM (zp (show List.Nodup (["least","most"]:List Str) by decide+kernel) (by rfl) (.inl (by rfl)) (.inr (by rfl))) (zM (zp (show List.Nodup (["least","most"]:List Str) by decide+kernel) (by rfl) (.inl (by rfl)) (.inr (by rfl))) ZW))) (ZT _ 0 1) (ZU 0 1) (fun Y' hy' _ _ _ _ _ _=> ?_) (fun Y' hy' _ _ _ _ _ _ _ hp' => ?_))
 repeat' gp_on
theorem V7 {j:Nat} (hj:0<=j) {c_5:List T->R T} (O_5:Q_5 P w base cl tx j c_5):Qx P w base cl tx (j+1) (fun ts=>zl (VB c_5 (en0 2 ts))):=by
 refine zR tx.C_18.F Qj rfl (fun cdv A outer s H E Y hy hr=> ?_) (fun ts h=>rfl)
 have nd:=Qj.nd
 repeat' gp_on
theorem XJ {c_9 c_5:List T->R T} (O_9:Q_9 P w base cl tx 25 c_9) (O_5:Q_5 P w base cl tx 8 c_5):Q_1 P w base cl tx 26 (fun ts=>zl (b_1 c_9 c_5 (en0 1 ts))):=by
 refine zN tx.C_1.F xm rfl (fun cdv A outer s H E Y hy hE hr=> ?_) (fun ts h=>rfl)
 have nd:=xm.nd
 repeat' gp_on
theorem XL {c_9 c_mirror_of:List T->R T} (O_9:Q_9 P w base cl tx 25 c_9) (O_mirror_of:jb P w base cl tx 1 c_mirror_of):Q_8 P w base cl tx 26 (fun ts=>zl (b_8 c_9 c_mirror_of (en0 1 ts))):=by
 refine zN tx.C_8.F xn rfl (fun cdv A outer s H E Y hy hE hr=> ?_) (fun ts h=>rfl)
 have nd:=xn.nd
 repeat' gp_on
theorem XM {j:Nat} (hj:1<=j) {c_e c_d c_p c_10:List T->R T} (O_e:Q_e P w base cl tx 1 c_e) (O_d:Q_d P w base cl tx 1 c_d) (O_p:Q_p P w base cl tx 1 c_p) (O_10:Qy P w base cl tx j c_10):Q_h P w base cl tx (j+1) (fun ts=>zl (b_h c_e c_d c_p c_10 (en0 2 ts))):=by
 refine zR tx.C_h.F xo rfl (fun cdv A outer s H E Y hy hr=> ?_) (fun ts h=>rfl)
 have nd:=xo.nd
 repeat' gp_on
theorem V8 {j:Nat} (hj:1<=j) {c_h:List T->R T} (O_h:Q_h P w base cl tx j c_h):Qy P w base cl tx (j+1) (fun ts=>zl (VC c_h (en0 2 ts))):=by
 refine zR tx.C_10.F Qk rfl (fun cdv A outer s H E Y hy hr=> ?_) (fun ts h=>rfl)
 have nd:=Qk.nd
 repeat' gp_on
 refine Z9 (Z0 ["kind","part"] xp (z9 vU) (by rfl) (by rfl) (by decide+kernel) (by rfl) ?_ (fun _ _ _ _ _ _=>jW (by rfl) (zM (zp (show List.Nodup (["kind","part"]:List Str) by decide+kernel) (by rfl) (.inl (by rfl)) (.inr (by rfl))) (zM (zp (show List.Nodup (["kind","part"]:List Str) by decide+kernel) (by rfl) (.inl (by rfl)) (.inr (by rfl))) ZW))) (ZT _ 0 1) (ZU 0 1) (fun Y' hy' _ _ _ _ _ _=> ?_) (fun Y' hy' _ _ _ _ _ _ _ hp' => ?_))
 repeat' gp_on
theorem V9 {c_9 c_h:List T->R T} (O_9:Q_9 P w base cl tx 25 c_9) (O_h:Q_h P w base cl tx 21 c_h):vZ P w base cl tx 26 (fun ts=>zl (VD c_9 c_h (en0 2 ts))):=by
 refine zN tx.C_17.F Ql rfl (fun cdv A outer s H E Y hy hE hr=> ?_) (fun ts h=>rfl)
 have nd:=Ql.nd
 repeat' gp_on
theorem Va {c_17:List T->R T} (xq:Tq K mg base cl) (O_17:vZ P w base cl tx 26 c_17):V0 P w base cl tx 27 (fun ts=>zl (VF c_17 (en0 2 ts))):=by
 refine zN tx.C_15.F Qm rfl (fun cdv A outer s H E Y hy hE hr=> ?_) (fun ts h=>rfl)
 have nd:=Qm.nd
 repeat' gp_on
theorem XN {c_15 c_mirror_of_worth:List T->R T} (O_15:V0 P w base cl tx 27 c_15) (O_mirror_of_worth:Z8 P w base cl tx 1 c_mirror_of_worth):Q_r P w base cl tx 28 (fun ts=>zl (b_r c_15 c_mirror_of_worth (en0 2 ts))):=by
 refine zN tx.C_r.F xu rfl (fun cdv A outer s H E Y hy hE hr=> ?_) (fun ts h=>rfl)
 have nd:=xu.nd
 repeat' gp_on
theorem XO {c_n c_a:List T->R T} (O_n:Q_n P w base cl tx 42 c_n) (O_a:Q_a P w base cl tx 13 c_a):Q_u P w base cl tx 43 (fun ts=>zl (b_u c_n c_a (en0 3 ts))):=by
 refine zN tx.C_u.F xv rfl (fun cdv A outer s H E Y hy hE hr=> ?_) (fun ts h=>rfl)
 have nd:=xv.nd
 repeat' gp_on
theorem XQ:Q_z P w base cl tx 1 (fun ts=>zl (b_z  (en0 2 ts))):=by
 refine zR tx.C_z.F xw rfl (fun cdv A outer s H E Y hy hr=> ?_) (fun ts h=>rfl)
 have nd:=xw.nd
 repeat' gp_on
theorem XR {c_z:List T->R T} (O_z:Q_z P w base cl tx 1 c_z):Q_t P w base cl tx 2 (fun ts=>zl (b_t c_z (en0 4 ts))):=by
 refine zR tx.C_t.F xx rfl (fun cdv A outer s H E Y hy hr=> ?_) (fun ts h=>rfl)
 have nd:=xx.nd
 repeat' gp_on
theorem XS {c_t c_b c_y c_1 c_8 c_r c_k c_u c_m c_l c_i:List T->R T} {c_2:Nat->R T} (KB:K.In base) (hBT:base.BuiltinsAt mg tx.P_law) (O_t:∀ base,K.In base->Q_t P w base cl tx 2 c_t) (O_b:∀ base,K.In base->Q_b P w base cl tx 26 c_b) (O_y:∀ base,K.In base->Q_y P w base cl tx 26 c_y) (O_1:∀ base,K.In base->Q_1 P w base cl tx 26 c_1) (O_8:∀ base,K.In base->Q_8 P w base cl tx 26 c_8) (O_r:∀ base,K.In base->Q_r P w base cl tx 28 c_r) (O_k:∀ base,K.In base->Q_k P w base cl tx 43 c_k) (O_u:∀ base,K.In base->Q_u P w base cl tx 43 c_u) (O_m:∀ base,K.In base->Q_m P w base cl tx 43 c_m) (O_l:∀ base,K.In base->Q_l P w base cl tx 43 c_l) (O_i:∀ base,K.In base->Q_i P w base cl tx 42 c_i) (O__law_told:jc P w cl tx 43 c_2):Q_0 P w base cl tx 46 (fun ts=>zl (b_0 c_t c_b c_y c_1 c_8 c_r c_k c_u c_m c_l c_i c_2 (en0 10 ts))):=by
 refine Q1 tx.C_0.F tx.e_law xy rfl (fun A outer s H E Y hy hE hT hr=> ?_) (fun ts h=>rfl)
 have nd:=xy.nd
 repeat' gp_on
 refine zK hy ⟨rfl,tx.h_law,hBT,rfl⟩ hT (fun _=>rfl) O__law_told hr (by omega) (by rfl) tx.C__law_told.m tx.C__law_told.F.kp tx.C__law_told.b ["_law_thing"] N_0 (z9 s_0) (by rfl) (by rfl) (by decide+kernel) (by rfl) (by rfl) (fun base A outer s H E f c' clos Y' KB hy hE hr=> ?_)
 repeat' gp_on
 refine zK hy ⟨rfl,tx.h_law,hBT,rfl⟩ hT (fun _=>rfl) O__law_told hr (by omega) (by rfl) tx.C__law_told.m tx.C__law_told.F.kp tx.C__law_told.b ["_law_thing"] N_0 (z9 s_0) (by rfl) (by rfl) (by decide+kernel) (by rfl) (by rfl) (fun base A outer s H E f c' clos Y' KB hy hE hr=> ?_)
 repeat' gp_on
 refine zK hy ⟨rfl,tx.h_law,hBT,rfl⟩ hT (fun _=>rfl) O__law_told hr (by omega) (by rfl) tx.C__law_told.m tx.C__law_told.F.kp tx.C__law_told.b ["_law_thing"] N_0 (z9 s_0) (by rfl) (by rfl) (by decide+kernel) (by rfl) (by rfl) (fun base A outer s H E f c' clos Y' KB hy hE hr=> ?_)
 repeat' gp_on
 refine zK hy ⟨rfl,tx.h_law,hBT,rfl⟩ hT (fun _=>rfl) O__law_told hr (by omega) (by rfl) tx.C__law_told.m tx.C__law_told.F.kp tx.C__law_told.b ["_law_thing"] N_0 (z9 s_0) (by rfl) (by rfl) (by decide+kernel) (by rfl) (by rfl) (fun base A outer s H E f c' clos Y' KB hy hE hr=> ?_)
 repeat' gp_on
 refine zK hy ⟨rfl,tx.h_law,hBT,rfl⟩ hT (fun _=>rfl) O__law_told hr (by omega) (by rfl) tx.C__law_told.m tx.C__law_told.F.kp tx.C__law_told.b ["_law_thing"] N_0 (z9 s_0) (by rfl) (by rfl) (by decide+kernel) (by rfl) (by rfl) (fun base A outer s H E f c' clos Y' KB hy hE hr=> ?_)
 repeat' gp_on
 refine zK hy ⟨rfl,tx.h_law,hBT,rfl⟩ hT (fun _=>rfl) O__law_told hr (by omega) (by rfl) tx.C__law_told.m tx.C__law_told.F.kp tx.C__law_told.b ["_law_rule","_law_thing"] N_0 (z9 s_0) (by rfl) (by rfl) (by decide+kernel) (by rfl) (by rfl) (fun base A outer s H E f c' clos Y' KB hy hE hr=> ?_)
 repeat' gp_on
 refine zK hy ⟨rfl,tx.h_law,hBT,rfl⟩ hT (fun _=>rfl) O__law_told hr (by omega) (by rfl) tx.C__law_told.m tx.C__law_told.F.kp tx.C__law_told.b ["_law_rule","_law_thing"] N_0 (z9 s_0) (by rfl) (by rfl) (by decide+kernel) (by rfl) (by rfl) (fun base A outer s H E f c' clos Y' KB hy hE hr=> ?_)
 repeat' gp_on
 refine zK hy ⟨rfl,tx.h_law,hBT,rfl⟩ hT (fun _=>rfl) O__law_told hr (by omega) (by rfl) tx.C__law_told.m tx.C__law_told.F.kp tx.C__law_told.b ["_law_thing"] N_0 (z9 s_0) (by rfl) (by rfl) (by decide+kernel) (by rfl) (by rfl) (fun base A outer s H E f c' clos Y' KB hy hE hr=> ?_)
 repeat' gp_on
 refine zK hy ⟨rfl,tx.h_law,hBT,rfl⟩ hT (fun _=>rfl) O__law_told hr (by omega) (by rfl) tx.C__law_told.m tx.C__law_told.F.kp tx.C__law_told.b ["_law_rule","_law_thing"] N_0 (z9 s_0) (by rfl) (by rfl) (by decide+kernel) (by rfl) (by rfl) (fun base A outer s H E f c' clos Y' KB hy hE hr=> ?_)
 repeat' gp_on
 refine zK hy ⟨rfl,tx.h_law,hBT,rfl⟩ hT (fun _=>rfl) O__law_told hr (by omega) (by rfl) tx.C__law_told.m tx.C__law_told.F.kp tx.C__law_told.b ["_law_rule","_law_thing"] N_0 (z9 s_0) (by rfl) (by rfl) (by decide+kernel) (by rfl) (by rfl) (fun base A outer s H E f c' clos Y' KB hy hE hr=> ?_)
 repeat' gp_on
 refine zK hy ⟨rfl,tx.h_law,hBT,rfl⟩ hT (fun _=>rfl) O__law_told hr (by omega) (by rfl) tx.C__law_told.m tx.C__law_told.F.kp tx.C__law_told.b ["_law_rule","_law_thing","_law_worse"] N_0 (z9 s_0) (by rfl) (by rfl) (by decide+kernel) (by rfl) (by rfl) (fun base A outer s H E f c' clos Y' KB hy hE hr=> ?_)
 repeat' gp_on
 refine zK hy ⟨rfl,tx.h_law,hBT,rfl⟩ hT (fun _=>rfl) O__law_told hr (by omega) (by rfl) tx.C__law_told.m tx.C__law_told.F.kp tx.C__law_told.b ["_law_rule","_law_thing","_law_worse"] N_0 (z9 s_0) (by rfl) (by rfl) (by decide+kernel) (by rfl) (by rfl) (fun base A outer s H E f c' clos Y' KB hy hE hr=> ?_)
 repeat' gp_on
 refine zK hy ⟨rfl,tx.h_law,hBT,rfl⟩ hT (fun _=>rfl) O__law_told hr (by omega) (by rfl) tx.C__law_told.m tx.C__law_told.F.kp tx.C__law_told.b ["_law_great","_law_rule","_law_worse"] N_0 (z9 s_0) (by rfl) (by rfl) (by decide+kernel) (by rfl) (by rfl) (fun base A outer s H E f c' clos Y' KB hy hE hr=> ?_)
 repeat' gp_on
 refine zK hy ⟨rfl,tx.h_law,hBT,rfl⟩ hT (fun _=>rfl) O__law_told hr (by omega) (by rfl) tx.C__law_told.m tx.C__law_told.F.kp tx.C__law_told.b ["_law_kind","_law_worse"] N_0 (z9 s_0) (by rfl) (by rfl) (by decide+kernel) (by rfl) (by rfl) (fun base A outer s H E f c' clos Y' KB hy hE hr=> ?_)
 repeat' gp_on
 refine zK hy ⟨rfl,tx.h_law,hBT,rfl⟩ hT (fun _=>rfl) O__law_told hr (by omega) (by rfl) tx.C__law_told.m tx.C__law_told.F.kp tx.C__law_told.b ["_law_rule","_law_thing","_law_worse"] N_0 (z9 s_0) (by rfl) (by rfl) (by decide+kernel) (by rfl) (by rfl) (fun base A outer s H E f c' clos Y' KB hy hE hr=> ?_)
 repeat' gp_on
 refine zK hy ⟨rfl,tx.h_law,hBT,rfl⟩ hT (fun _=>rfl) O__law_told hr (by omega) (by rfl) tx.C__law_told.m tx.C__law_told.F.kp tx.C__law_told.b ["_law_kind","_law_k"] N_0 (z9 s_0) (by rfl) (by rfl) (by decide+kernel) (by rfl) (by rfl) (fun base A outer s H E f c' clos Y' KB hy hE hr=> ?_)
 repeat' gp_on
 refine zK hy ⟨rfl,tx.h_law,hBT,rfl⟩ hT (fun _=>rfl) O__law_told hr (by omega) (by rfl) tx.C__law_told.m tx.C__law_told.F.kp tx.C__law_told.b ["_law_great","_law_rule"] N_0 (z9 s_0) (by rfl) (by rfl) (by decide+kernel) (by rfl) (by rfl) (fun base A outer s H E f c' clos Y' KB hy hE hr=> ?_)
 repeat' gp_on
 refine zK hy ⟨rfl,tx.h_law,hBT,rfl⟩ hT (fun _=>rfl) O__law_told hr (by omega) (by rfl) tx.C__law_told.m tx.C__law_told.F.kp tx.C__law_told.b ["_law_great","_law_rule"] N_0 (z9 s_0) (by rfl) (by rfl) (by decide+kernel) (by rfl) (by rfl) (fun base A outer s H E f c' clos Y' KB hy hE hr=> ?_)
 repeat' gp_on
 refine zK hy ⟨rfl,tx.h_law,hBT,rfl⟩ hT (fun _=>rfl) O__law_told hr (by omega) (by rfl) tx.C__law_told.m tx.C__law_told.F.kp tx.C__law_told.b ["_law_great"] N_0 (z9 s_0) (by rfl) (by rfl) (by decide+kernel) (by rfl) (by rfl) (fun base A outer s H E f c' clos Y' KB hy hE hr=> ?_)
 repeat' gp_on
 refine zK hy ⟨rfl,tx.h_law,hBT,rfl⟩ hT (fun _=>rfl) O__law_told hr (by omega) (by rfl) tx.C__law_told.m tx.C__law_told.F.kp tx.C__law_told.b ["_law_great"] N_0 (z9 s_0) (by rfl) (by rfl) (by decide+kernel) (by rfl) (by rfl) (fun base A outer s H E f c' clos Y' KB hy hE hr=> ?_)
 repeat' gp_on
end
theorem zL {P:Program} {w:World} {K:PySem.W.Frag} {mg:Str->Option Value} {base:Heap} {CX:CXT} {cl:Nat->Value} {k n:Nat} {f:Addr} {fd:FuncData} {ps:List Str} (hn:n=ps.length):zB P w K mg base CX k f fd ps (spP cl n (fun _=> .bad)):=
 ⟨fun vs H Q E h=>by rw [← hn]; exact spP.len vs H Q E h,fun A outer s H args us vs Q E _ _ _ _ ⟨B,ts,_,_,_,q⟩=>q.elim⟩
section
variable {P:Program} {w:World} {K:PySem.W.Frag} {mg:Str->Option Value} {base:Heap} {cl:Nat->Value} {tx:Tx K mg}
theorem Qn (xqA:∀ base,K.In base->Tq K mg base cl) (KB:K.In base) (hBT:base.BuiltinsAt mg tx.P_law):Q_0 P w base cl tx 46 f_0:=by
 have O_2:∀ base,K.In base->Q_2 P w base cl tx 1 f_2:=fun _ KB=>Xf (xqA _ KB)
 have O_e:∀ base,K.In base->Q_e P w base cl tx 1 f_e:=fun _ KB=>Xg
 have O_13:∀ base,K.In base->vV P w base cl tx 2 Vs:=fun _ KB=>V1 (O_e _ KB)
 have O_q:∀ base,K.In base->Q_q P w base cl tx 1 f_q:=fun _ KB=>Xh
 have R_j:∀ base,K.In base->∀ n:Nat,Q_j P w base cl tx (2+n) (S_j n 0):=by
  intro base KB n
  induction n with
  | zero=>exact zL rfl
  | succ n ih=>
   exact Xi (j:=2+n) (by omega) (O_q _ KB) ih (O_13 _ KB)
 have O_j:∀ base,K.In base->Q_j P w base cl tx 10 (f_j 8):=fun _ KB=>(R_j _ KB 8)
 have O_7:∀ base,K.In base->Q_7 P w base cl tx 11 f_7:=fun _ KB=>Xj (O_j _ KB)
 have O_3:∀ base,K.In base->Q_3 P w base cl tx 12 f_3:=fun _ KB=>Xk (xqA _ KB) (O_7 _ KB)
 have O_a:∀ base,K.In base->Q_a P w base cl tx 13 f_a:=fun _ KB=>Xl (xqA _ KB) (O_3 _ KB)
 have O_is_kept:∀ base,K.In base->ja P w base cl tx 1 j7:=fun _ _=>zL rfl
 have O_14:∀ base,K.In base->vW P w base cl tx 2 Vu:=fun _ KB=>V2 (O_e _ KB)
 have O_d:∀ base,K.In base->Q_d P w base cl tx 1 f_d:=fun _ KB=>Xm
 have O_16:∀ base,K.In base->vX P w base cl tx 2 Vw:=fun _ KB=>V3 (O_e _ KB) (O_d _ KB) (O_q _ KB)
 have O_x:∀ base,K.In base->Q_x P w base cl tx 3 f_x:=fun _ KB=>Xn (O_d _ KB) (O_16 _ KB)
 have R_c:∀ base,K.In base->∀ n:Nat,Q_c P w base cl tx (3+n) (S_c n 0)/\Qv P w base cl tx (3+n) (S_c n 1):=by
  intro base KB n
  induction n with
  | zero=>exact ⟨zL rfl,zL rfl⟩
  | succ n ih=>
   exact ⟨Xo (j:=3+n) (by omega) (O_14 _ KB) ih.1 (O_x _ KB) ih.2,V4 (j:=3+n) (by omega) (O_d _ KB) ih.1⟩
 have O_c:∀ base,K.In base->Q_c P w base cl tx 23 (f_c 20):=fun _ KB=>(R_c _ KB 20).1
 have O_11:∀ base,K.In base->Qv P w base cl tx 23 (xS 20):=fun _ KB=>(R_c _ KB 20).2
 have O_6:∀ base,K.In base->Q_6 P w base cl tx 24 f_6:=fun _ KB=>Xp (O_c _ KB)
 have O_9:∀ base,K.In base->Q_9 P w base cl tx 25 f_9:=fun _ KB=>Xq (xqA _ KB) (O_6 _ KB)
 have R_4:∀ base,K.In base->∀ n:Nat,Q_4 P w base cl tx (0+n) (S_4 n 0)/\Q_v P w base cl tx (0+n) (S_4 n 1)/\Q_o P w base cl tx (0+n) (S_4 n 2):=by
  intro base KB n
  induction n with
  | zero=>exact ⟨zL rfl,zL rfl,zL rfl⟩
  | succ n ih=>
   exact ⟨Xr (j:=0+n) (by omega) ih.2.1 ih.2.2,Xs (j:=0+n) (by omega) ih.1,Xt (j:=0+n) (by omega) ih.2.1⟩
 have O_4:∀ base,K.In base->Q_4 P w base cl tx 20 (f_4 20):=fun _ KB=>(R_4 _ KB 20).1
 have O_v:∀ base,K.In base->Q_v P w base cl tx 20 (f_v 20):=fun _ KB=>(R_4 _ KB 20).2.1
 have O_o:∀ base,K.In base->Q_o P w base cl tx 20 (f_o 20):=fun _ KB=>(R_4 _ KB 20).2.2
 have O_p:∀ base,K.In base->Q_p P w base cl tx 1 f_p:=fun _ KB=>Xu
 have R_f:∀ base,K.In base->∀ n:Nat,Q_f P w base cl tx (20+n) (S_f n 0)/\Qw P w base cl tx (20+n) (S_f n 1)/\Q_w P w base cl tx (20+n) (S_f n 2):=by
  intro base KB n
  induction n with
  | zero=>exact ⟨zL rfl,zL rfl,zL rfl⟩
  | succ n ih=>
   exact ⟨Xv (j:=20+n) (by omega) (O_p _ KB) ih.2.1 ih.2.2,V5 (j:=20+n) (by omega) (O_o _ KB) ih.2.2,Xw (j:=20+n) (by omega) (O_4 _ KB) ih.1⟩
 have O_f:∀ base,K.In base->Q_f P w base cl tx 40 (f_f 20):=fun _ KB=>(R_f _ KB 20).1
 have O_19:∀ base,K.In base->Qw P w base cl tx 40 (xT 20):=fun _ KB=>(R_f _ KB 20).2.1
 have O_w:∀ base,K.In base->Q_w P w base cl tx 40 (f_w 20):=fun _ KB=>(R_f _ KB 20).2.2
 have O_g:∀ base,K.In base->Q_g P w base cl tx 41 f_g:=fun _ KB=>Xx (xqA _ KB) (O_9 _ KB) (O_4 _ KB) (O_f _ KB)
 have O_n:∀ base,K.In base->Q_n P w base cl tx 42 f_n:=fun _ KB=>Xy (O_g _ KB) (O_3 _ KB) (O_is_kept _ KB)
 have O_k:∀ base,K.In base->Q_k P w base cl tx 43 f_k:=fun _ KB=>Xz (O_is_kept _ KB) (O_n _ KB) (O_a _ KB)
 have O_way_of:∀ base,K.In base->U7 P w base cl tx 1 U4:=fun _ _=>zL rfl
 have O_s:∀ base,K.In base->Q_s P w base cl tx 42 f_s:=fun _ KB=>XA (O_g _ KB)
 have O_shares_together:∀ base,K.In base->ZM P w base cl tx 1 ZJ:=fun _ _=>zL rfl
 have O_m:∀ base,K.In base->Q_m P w base cl tx 43 f_m:=fun _ KB=>XB (O_a _ KB) (O_s _ KB)
 have O_l:∀ base,K.In base->Q_l P w base cl tx 43 f_l:=fun _ KB=>XD (O_a _ KB) (O_s _ KB)
 have O_12:∀ base,K.In base->vY P w base cl tx 2 VA:=fun _ KB=>V6
 have O_i:∀ base,K.In base->Q_i P w base cl tx 42 f_i:=fun _ KB=>XF (O_g _ KB) (O_a _ KB) (O_12 _ KB)
 have O_depth_of:∀ base,K.In base->jz P w base cl tx 1 jw:=fun _ _=>zL rfl
 have O_b:∀ base,K.In base->Q_b P w base cl tx 26 f_b:=fun _ KB=>XG (O_9 _ KB) (O_depth_of _ KB)
 have O_words_of:∀ base,K.In base->jA P w base cl tx 1 jx:=fun _ _=>zL rfl
 have O_y:∀ base,K.In base->Q_y P w base cl tx 26 f_y:=fun _ KB=>XH (O_9 _ KB) (O_words_of _ KB)
 have R_5:∀ base,K.In base->∀ n:Nat,Q_5 P w base cl tx (0+n) (S_5 n 0)/\Qx P w base cl tx (0+n) (S_5 n 1):=by
  intro base KB n
  induction n with
  | zero=>exact ⟨zL rfl,zL rfl⟩
  | succ n ih=>
   exact ⟨XI (j:=0+n) (by omega) ih.1 ih.2,V7 (j:=0+n) (by omega) ih.1⟩
 have O_5:∀ base,K.In base->Q_5 P w base cl tx 8 (f_5 8):=fun _ KB=>(R_5 _ KB 8).1
 have O_18:∀ base,K.In base->Qx P w base cl tx 8 (xU 8):=fun _ KB=>(R_5 _ KB 8).2
 have O_1:∀ base,K.In base->Q_1 P w base cl tx 26 f_1:=fun _ KB=>XJ (O_9 _ KB) (O_5 _ KB)
 have O_mirror_of:∀ base,K.In base->jb P w base cl tx 1 j8:=fun _ _=>zL rfl
 have O_8:∀ base,K.In base->Q_8 P w base cl tx 26 f_8:=fun _ KB=>XL (O_9 _ KB) (O_mirror_of _ KB)
 have R_h:∀ base,K.In base->∀ n:Nat,Q_h P w base cl tx (1+n) (S_h n 0)/\Qy P w base cl tx (1+n) (S_h n 1):=by
  intro base KB n
  induction n with
  | zero=>exact ⟨zL rfl,zL rfl⟩
  | succ n ih=>
   exact ⟨XM (j:=1+n) (by omega) (O_e _ KB) (O_d _ KB) (O_p _ KB) ih.2,V8 (j:=1+n) (by omega) ih.1⟩
 have O_h:∀ base,K.In base->Q_h P w base cl tx 21 (f_h 20):=fun _ KB=>(R_h _ KB 20).1
 have O_10:∀ base,K.In base->Qy P w base cl tx 21 (xV 20):=fun _ KB=>(R_h _ KB 20).2
 have O_17:∀ base,K.In base->vZ P w base cl tx 26 VE:=fun _ KB=>V9 (O_9 _ KB) (O_h _ KB)
 have O_15:∀ base,K.In base->V0 P w base cl tx 27 VG:=fun _ KB=>Va (xqA _ KB) (O_17 _ KB)
 have O_mirror_of_worth:∀ base,K.In base->Z8 P w base cl tx 1 Z7:=fun _ _=>zL rfl
 have O_r:∀ base,K.In base->Q_r P w base cl tx 28 f_r:=fun _ KB=>XN (O_15 _ KB) (O_mirror_of_worth _ KB)
 have O_u:∀ base,K.In base->Q_u P w base cl tx 43 f_u:=fun _ KB=>XO (O_n _ KB) (O_a _ KB)
 have O__law_told:jc P w cl tx 43 f_2:=yO (i:=1) tx.C__law_told.F Js rfl rfl rfl rfl rfl (by decide) rfl (xqA _ KB).m_WorthError (xqA _ KB).e_WorthError rfl tx.C_2.m tx.C_2.F.kp tx.C_2.b O_2 (by decide)
 have O_z:∀ base,K.In base->Q_z P w base cl tx 1 f_z:=fun _ KB=>XQ
 have O_t:∀ base,K.In base->Q_t P w base cl tx 2 f_t:=fun _ KB=>XR (O_z _ KB)
 exact XS KB hBT O_t O_b O_y O_1 O_8 O_r O_k O_u O_m O_l O_i O__law_told
end
def Uz:List Str:=["NoKind","NoWorth","NoRule","TooMany","Ended","NoText","NoBack"]
def clK (K:PySem.W.Frag) (c:Nat):Value:=match PySem.W.nsIn K mainGlobals (Uz.getD c "") with
 | some (some v)=>v
 | _=> .none
theorem wu {K:PySem.W.Frag} {c:Nat} {x:Str} {q:Addr} (hx:Uz.getD c ""=x) (h:PySem.W.nsIn K mainGlobals x=some (some (.ref q))):clK K c= .ref q:=by unfold clK; rw [hx,h]
def Vb:List Nat:=[0,1,2,3,4,5,6]
def ud (p:Nat->Bool):Bool:=Vb.all p
theorem Qo {c:Nat} (h:okX c=true):c∈Vb:=by
 unfold okX at h; unfold Vb; simpa using h
theorem Z5 {p:Nat->Bool} (h:ud p=true) {c:Nat} (hc:okX c=true):p c=true:=List.all_eq_true.mp h c (Qo hc)
def Y0 (K:PySem.W.Frag) (v:Value):Bool:=match v with
 | .ref C=>PySem.W.findIn K (.ref C) "__getattribute__" == some (some (.builtin "BaseException.__getattribute__")) && (PySem.W.findIn K (.ref C) "__getattr__" == some none && (PySem.W.findIn K (.ref C) "__class__" == some (some (.builtin "object.__class__")) && (PySem.W.specialIn K (.builtin "object.__class__") "__get__" == some (some (.builtin "getset_descriptor.__get__")) && (PySem.W.takesIn K (.builtin "object.__class__") == some true && (PySem.W.mroIn K C (.type "object") == some true && (PySem.W.mroIn K C (.type "BaseException") == some true && (PySem.W.clsIn K C).isSome))))))
 | _=>false
theorem U8 {K:PySem.W.Frag} {v:Value} (h:Y0 K v=true):∃ C,v= .ref C/\PySem.W.XCls K C:=by
 unfold Y0 at h
 split at h
 ·rename_i C
  simp only [Bool.and_eq_true,beq_iff_eq] at h
  obtain ⟨h1,h2,h3,h4,h5,h6,h7,h8⟩:=h
  exact ⟨C,rfl,h1,h2,h3,h4,h5,h6,h7,h8⟩
 ·cases h
theorem wv {K:PySem.W.Frag} {base:Heap} {mg:Str->Option Value} {x:Str} {C:Addr} {bmB:List Value} {newId:String} (KB:K.In base) (hb:mg x=some (.ref C)) (h:PySem.W.excIn K C bmB newId=true):OwnCls x C bmB newId mg base:=by
 unfold PySem.W.excIn at h
 split at h
 ·rename_i dd cd sl hC
  split at h
  ·rename_i C1 bm a0 a1 a2 a3 m a5 hm hs
   simp only [Bool.and_eq_true,beq_iff_eq,Bool.not_eq_true'] at h
   obtain ⟨⟨⟨⟨⟨h1,h2⟩,h3⟩,h4⟩,h5⟩,h6⟩:=h
   subst h1 h2
   cases cd with
   | mk nm bs mro ns qn hd sn sub ab col del=>
    dsimp only at hm h3 h5 h6
    subst hm h3
    obtain rfl:sl= #[a0,a1,a2,a3,some (.builtin m),a5]:=by
     cases sl; simp only at hs; rw [hs]
    exact ⟨hb,bm,ns,nm,qn,bs,hd,sn,sub,ab,col,dd,a0,a1,a2,a3,a5,_,KB _ _ hC, .of_isNs (PySem.W.isNs_of_in KB h5),PySem.W.nsMap_none_of_in KB h5 h6,PySem.W.tail_of_in KB h4⟩
  ·cases h
 ·cases h
theorem fn1 {K:PySem.W.Frag} {h:Heap} {mg:Str->Option Value} {f:Addr} {od an:Option Addr} {sl:Array (Option Value)} {oc kV dc pm cd ct:Value} {x:Str} {st:Stmt} {ps:List Str} (X:K.In h) (G:h.Ns mainGlobals mg) (e:PySem.W.nsIn K mainGlobals x=some (some (.ref f))) (l:K.lookup f=some ⟨oc,od, .func (PySem.W.fnOf x x (Zc st) (zG st) (z9 st) .none kV dc pm an cd ct),sl⟩) (g:PySem.W.codeIn K cd x=true) (k:PySem.W.keepIn K (.ref f)=true)
  (hb:∀ F:Fun K x x st f (PySem.W.fnOf x x (Zc st) (zG st) (z9 st) .none kV dc pm an cd ct),L2.Binds K (PySem.W.fnOf x x (Zc st) (zG st) (z9 st) .none kV dc pm an cd ct) ps []):Fn K mg x st ps f (PySem.W.fnOf x x (Zc st) (zG st) (z9 st) .none kV dc pm an cd ct):=
 have F:=YF (st:=st) l g k
 ⟨F,hb F,PySem.W.mg_of X G e⟩
theorem fin_ {l:PySem.W.OpenLaw} {w:World} {K:PySem.W.Frag} {h:Heap} {mg:Str->Option Value} {fa:Addr} (X:K.In h) (G:h.Ns mainGlobals mg) (hfa:mg "law"=some (.ref fa)) (tx:Tx K mg) (hB:∀ (s:Shared) (v:Value),BindsTo s tx.d_0 ⟨[v],[]⟩ [("_law_script",v)]) (hts:h.get? tx.P_law=some (PySem.W.tabObj #[])) {q_Ended q_NoBack q_NoKind q_NoRule q_NoText q_NoWorth q_TooMany q_WorthError:Addr} (n_Ended:PySem.W.nsIn K mainGlobals "Ended"=some (some (.ref q_Ended))) (n_NoBack:PySem.W.nsIn K mainGlobals "NoBack"=some (some (.ref q_NoBack))) (n_NoKind:PySem.W.nsIn K mainGlobals "NoKind"=some (some (.ref q_NoKind))) (n_NoRule:PySem.W.nsIn K mainGlobals "NoRule"=some (some (.ref q_NoRule))) (n_NoText:PySem.W.nsIn K mainGlobals "NoText"=some (some (.ref q_NoText))) (n_NoWorth:PySem.W.nsIn K mainGlobals "NoWorth"=some (some (.ref q_NoWorth))) (n_TooMany:PySem.W.nsIn K mainGlobals "TooMany"=some (some (.ref q_TooMany))) (n_WorthError:PySem.W.nsIn K mainGlobals "WorthError"=some (some (.ref q_WorthError))) (b_K:ud (fun c=>Y0 K (clK K c))=true) (b_e_WorthError:ud (fun c=>PySem.W.exmOne K (clK K c) (.ref q_WorthError) == some true)=true) (b_o_NoKind:PySem.W.excIn K q_NoKind Uy "ValueError.__new__"=true) (b_o_NoRule:PySem.W.excIn K q_NoRule Uy "ValueError.__new__"=true) (b_o_NoWorth:PySem.W.excIn K q_NoWorth Uy "ValueError.__new__"=true) (b_o_TooMany:PySem.W.excIn K q_TooMany Uy "ValueError.__new__"=true) (b_t_Ended:ud (fun c=>PySem.W.kitOne K (clK K c) (.ref q_Ended) == some (j6 c))=true) (b_t_NoBack:ud (fun c=>PySem.W.kitOne K (clK K c) (.ref q_NoBack) == some (ZI c))=true) (b_t_NoKind:ud (fun c=>PySem.W.kitOne K (clK K c) (.ref q_NoKind) == some (ZE c))=true) (b_t_NoRule:ud (fun c=>PySem.W.kitOne K (clK K c) (.ref q_NoRule) == some (ZF c))=true) (b_t_NoText:ud (fun c=>PySem.W.kitOne K (clK K c) (.ref q_NoText) == some (ZH c))=true) (b_t_NoWorth:ud (fun c=>PySem.W.kitOne K (clK K c) (.ref q_NoWorth) == some (Zr c))=true) (b_t_TooMany:ud (fun c=>PySem.W.kitOne K (clK K c) (.ref q_TooMany) == some (Zs c))=true) (b_t_ValueError:ud (fun c=>PySem.W.kitOne K (clK K c) (.type "ValueError") == some (Z4 c))=true):∃ (fd:FuncData) (c Pt:Addr),(∀ (s:Shared) (v:Value),BindsTo s fd ⟨[v],[]⟩ [("_law_script",v)])/\h.get? Pt=some (PySem.W.tabObj #[])/\K.lookup Pt=none/\PySem.W.codeHdIn K c Pt=true/\∀ base:Heap,K.In base->base.BuiltinsAt mg Pt->zB l.prog w K mg base (CX1 l.prog w) 46 fa fd ["_law_script"] (Y7 (clK K) 1 f_0 Pt qL):=by
 have e:=hfa.symm.trans tx.C_0.m
 cases e
 exact ⟨tx.d_0,tx.k_law,tx.P_law,hB,hts,tx.n_law,tx.h_law,fun base KB hBT=>Qn (fun base KB=>⟨q_Ended,q_NoBack,q_NoKind,q_NoRule,q_NoText,q_NoWorth,q_TooMany,q_WorthError,⟨fun c hc=>U8 (Z5 b_K hc)⟩,(fun c hc=>beq_iff_eq.mp (Z5 b_e_WorthError hc)),(wu (x:="NoKind") rfl n_NoKind),(wu (x:="NoRule") rfl n_NoRule),(wu (x:="NoWorth") rfl n_NoWorth),(wu (x:="TooMany") rfl n_TooMany),(PySem.W.mg_of X G n_Ended),(PySem.W.mg_of X G n_NoBack),(PySem.W.mg_of X G n_NoKind),(PySem.W.mg_of X G n_NoRule),(PySem.W.mg_of X G n_NoText),(PySem.W.mg_of X G n_NoWorth),(PySem.W.mg_of X G n_TooMany),(PySem.W.mg_of X G n_WorthError),(wv KB (PySem.W.mg_of X G n_NoKind) b_o_NoKind),(wv KB (PySem.W.mg_of X G n_NoRule) b_o_NoRule),(wv KB (PySem.W.mg_of X G n_NoWorth) b_o_NoWorth),(wv KB (PySem.W.mg_of X G n_TooMany) b_o_TooMany),(fun c hc=>beq_iff_eq.mp (Z5 b_t_Ended hc)),(fun c hc=>beq_iff_eq.mp (Z5 b_t_NoBack hc)),(fun c hc=>beq_iff_eq.mp (Z5 b_t_NoKind hc)),(fun c hc=>beq_iff_eq.mp (Z5 b_t_NoRule hc)),(fun c hc=>beq_iff_eq.mp (Z5 b_t_NoText hc)),(fun c hc=>beq_iff_eq.mp (Z5 b_t_NoWorth hc)),(fun c hc=>beq_iff_eq.mp (Z5 b_t_TooMany hc)),(fun c hc=>beq_iff_eq.mp (Z5 b_t_ValueError hc))⟩) KB hBT⟩
def ue (K:PySem.W.Frag):Bool:=K.all fun p=> !(p.2.cls == Value.type "list")
theorem Y1 {K:PySem.W.Frag} (h:ue K=true) {a:Addr} {o:Obj} (e:K.lookup a=some o) (c:o.cls=Value.type "list"):False:=by
 have hm:(a,o)∈K:=by
  clear h
  induction K with
  | nil=>cases e
  | cons p r ih=>
   obtain ⟨b,u⟩:=p
   by_cases hb:a=b
   ·subst hb
    have e' :some u=some o:=by simpa [List.lookup_cons] using e
    cases e'; exact List.mem_cons_self
   ·have e' :r.lookup a=some o:=by rw [List.lookup_cons,(beq_eq_false_iff_ne.mpr hb)] at e; exact e
    exact List.mem_cons_of_mem _ (ih e')
 have:=List.all_eq_true.mp h _ hm
 rw [c] at this
 simp at this
def XT (o:Obj):Option Addr:=match o.data with
 | .fields vs=>(match (vs[11]? :Option Value) with | some (.ref P)=>some P | _=>none)
 | _=>none
structure Vc (K:PySem.W.Frag) (c P:Addr) (o:Obj):Prop where
 t:K.lookup c=some o
 u:XT o=some P
 h:PySem.W.codeHdIn K c P=true
 n:K.lookup P=none
abbrev xz {K:PySem.W.Frag} {h:Heap} (_:K.In h) (c P:Addr) (o:Obj):Prop:=Vc K c P o
theorem Qp {cl:Nat->Value} {H:Hp} {a Pt:Addr} {o:Obj} {q:Str} {ns:List Int} (hL:f_0 [.fz (ns.map T.int)]= .ok (.bl true)) (h:H a=some (.frz o (.lst (ns.map V.int)))) (h2:H Pt=some (.tbl #[] q)):Y7 cl 1 f_0 Pt q [.ref a] H (fun v _=>v= .bl true) fun _ _ _=>False:=by
 have scrR:∀ ns:List Int,zo H (ns.map V.int) (ns.map T.int):=fun ns=>by
  induction ns with
  | nil=>exact .nil
  | cons n r ih=>exact .cons (.int n) ih
 refine ⟨h2,H,[.fz (ns.map T.int)],rfl,zi.refl H, .cons (.fz h (scrR ns)) .nil, ?_⟩
 rw [hL]
 intro v H' _ r
 cases r; rfl
theorem walk {l:PySem.W.OpenLaw} {q:Program} {loose:List Str} {XP:(Str->Option Value)->Heap->Prop} {YP:World->Heap->Prop} {d:DefRec} {K:Params->PySem.W.Frag} {ts:List Addr} (hn:l.most=some 63) (hdf:d.params.defaults=[])
  (hL:∀ ns:List Int,ns.length<=63->f_0 [.fz (ns.map T.int)]= .ok (.bl true)) (hK:∀ p,ue (K p)=true)
  (hY:∀ (w:World) (h:Heap),YP w h->(K w.params).In h/\∀ P∈ts,h.get? P=some (PySem.W.tabObj #[]))
  (F:∀ (w:World) (mg:Str->Option Value) (fa:Addr) (h:Heap),(K w.params).In h->h.Ns mainGlobals mg->mg d.name=some (.ref fa)->(∀ P∈ts,h.get? P=some (PySem.W.tabObj #[]))->
   ∃ (fd:FuncData) (c Pt:Addr),(∀ (s:Shared) (u:Value),BindsTo s fd ⟨[u],[]⟩ [("_law_script",u)])/\h.get? Pt=some (PySem.W.tabObj #[])/\(K w.params).lookup Pt=none/\PySem.W.codeHdIn (K w.params) c Pt=true/\∀ base:Heap,(K w.params).In base->base.BuiltinsAt mg Pt->zB l.prog w (K w.params) mg base (CX1 l.prog w) 46 fa fd ["_law_script"] (Y7 (clK (K w.params)) 1 f_0 Pt qL)):
  PySem.W.WalkO q loose XP YP l.row.toRowW d [] (fun f vs=>PySem.call f vs):=
 L2.walk_ofT (n:=63) (k:=46) (x:="_law_script") (nm:=qL) (CX:=fun w=>(CX1 l.prog w)) (sp:=fun w Pt=>Y7 (clK (K w.params)) 1 f_0 Pt qL) hn (by decide) hdf ⟨rfl,by decide,by decide,rfl⟩ hY (fun w a o e c=>Y1 (hK w.params) e c) F (fun w H a Pt o ns hl h1 h2=>Qp (hL ns hl) h1 h2) fun _ _ _ _ _ ⟨_,_,_,_,_,_,_,z⟩=>z
end G
namespace PySem.W.Fast
def tw6098468801344799268:=0
def tw13375327894929560991:=0
def tw12203599331460807221:=0
def tw14272372974563014750:=0
def tw10932310153906933867:=0
def tw1181455228633227166:=0
def tw9332984534790303312:=0
def tw4028433860865032797:=0
def tw14309463692684464493:=0
def tw2735840094529707495:=0
def tw7754350273708203812:=0
def tw11614358322386576942:=0
def tw5272297842949845318:=0
def tw11559517283423507422:=0
def tw920969823546085656:=0
def tw828091576545539917:=0
def tw10455432988301638122:=0
def tw523257254090652743:=0
def tw6706916577434656327:=0
def tw5295993531366368082:=0
def tw464169831254562780:=0
def tw12517876799586935243:=0
def tw14808138884990730160:=0
def tw13112497521811894355:=0
def tw17369870306434766499:=0
def tw11450374730218044430:=0
def tw7853736526535467361:=0
def tw5537428775080806514:=0
def tw9871090241866764461:=0
def tw1315843215182511783:=0
def tw14946660496008468206:=0
def tw3101044301380790403:=0
def tw16167492257374939612:=0
def tw17378112958381059918:=0
def tw6762172814476243507:=0
def tw5893498974364356357:=0
def tw9349261639274150379:=0
def tw18118523165587015239:=0
def tw2125403578441538387:=0
def tw4161787123177820595:=0
def tw4777743790017973423:=0
def tw4206574501166334661:=0
def tw4343118993163319138:=0
def tw15532879007557705770:=0
def tw15790030696790453857:=0
def tw9365707914378753351:=0
def tw10609796644593229555:=0
def tw462438307451278268:=0
def tw16928347199084182567:=0
def tw2891979391606951673:=0
def tw8470142983494640465:=0
def tw4247927818152349896:=0
def tw8597257678872661664:=0
def tw4017809030998937815:=0
def tw6498241994079452170:=0
def tw15354751887679355734:=0
def tw17468667374526453300:=0
def tw733959297703078769:=0
def tw7625110897794566316:=0
def tw2415947540006323604:=0
def tw14500785190874573692:=0
def tw15063774946270386848:=0
def tw2972967967915546217:=0
def tw12720518717506054651:=0
def tw9407499656504706863:=0
def tw16529119563450386965:=0
def tw12060889048847195525:=0
def tw8800524850500848799:=0
def tw3992269661786393767:=0
def tw15646208859624791870:=0
def tw9075299465121346809:=0
def tw5494044415464553259:=0
def tw780276431030124938:=0
def tw9742441296505426256:=0
def tw7615750862243300550:=0
def tw10423103753563571608:=0
def tw2812072888050283296:=0
def tw3658083957602728765:=0
def tw9862942153381447008:=0
def tw3283438058940320651:=0
def tw2933156624725732601:=0
def tw4973347413245100226:=0
def tw12817537193428221653:=0
def tw7949807840241984063:=0
def tw17952279496517435645:=0
def tw17997390169946983087:=0
def tw17614396047651711392:=0
def tw15768467859444766743:=0
def tw1696941791477380215:=0
def tw15213082135221400631:=0
def tw8918792741460147446:=0
def tw10234202616423032328:=0
def tw2976872375160046563:=0
def tw16607493451037208856:=0
def tw16850733914741573317:=0
def tw15635043648610362897:=0
def tw10323634518422780136:=0
def tw10999289428419629004:=0
def tw4817478725699541845:=0
def tw8739456210010937058:=0
def tw1863648331167745710:=0
def tw14176753220725984481:=0
def tw1748269714444378463:=0
def tw8748001245917671680:=0
def tw3958437509628036638:=0
def tw14189938323687417915:=0
def tw3125896795465226293:=0
def tw15887037714842961328:=0
def tw12089825586874179545:=0
def tw1866130522200481838:=0
def tw10427192587262710183:=0
def tw2090737343927899018:=0
def tw532769818391778992:=0
def tw3522281478425050484:=0
def tw15671305971068778947:=0
def tw6430807782339210307:=0
def tw11072061116167077961:=0
def tw14405350126707587948:=0
def tw15537081698793850283:=0
def tw12570636154749370312:=0
def tw13832106833013156777:=0
def tw6688392998032946777:=0
def tw13101267377957459289:=0
def tw8892380933989596212:=0
def tw13174321793406370792:=0
def tw1170299003384170125:=0
def tw12852412203419684384:=0
def tw13039551731994902836:=0
def tw5367485292990874984:=0
def tw11661444598527455969:=0
def tw7759647409935504006:=0
def tw6692272125700672655:=0
def tw18193797898762875262:=0
def tw17370735725889726965:=0
def tw1241325051977803132:=0
def tw353657428949547897:=0
def tw2852140895291827416:=0
def tw3464193020955778473:=0
def tw4545547036329504564:=0
def tw12898707501868507020:=0
def tw9883446707690434546:=0
def tw3114560602371460970:=0
def tw8705933581207142644:=0
def tw11999481407944081844:=0
def tw12004925517520114979:=0
def tw465914820854093849:=0
def tw16094042831807175317:=0
def tw9436007801649050793:=0
def tw12543889602564056574:=0
def tw27017486749620887:=0
def tw13923553845284251233:=0
def tw7275175050126297548:=0
def tw2499846000111347124:=0
def tw33027374659574424:=0
def tw17810140136542582394:=0
def tw11740871553603999091:=0
def tw17599966534704789553:=0
def tw6106764776265417046:=0
def tw14340076745285593719:=0
def tw1243027946585247984:=0
def tw7443259823523873081:=0
def tw12877817204501407902:=0
def tw18409271110194737781:=0
def tw17704559668646011886:=0
def tw1039829020119533150:=0
def tw905610665608564258:=0
def tw5207926476684782749:=0
def tw9838804710146075427:=0
def tw5591276663722132065:=0
def tw9215181310680686580:=0
end PySem.W.Fast
open PySem PySem.W PyProof.Rows
set_option maxRecDepth 100000 in
set_option maxHeartbeats 0 in
theorem PySem.Challenge.cw_worthkinds_k44_shapes_and_rules_refused_holds : PySem.Challenge.rw_worthkinds_k44_shapes_and_rules_refused.Holds := by
 w_on; o_law; k_head; (case hw=>w_witness2)
 k_fill
 refine G.walk (l:=PySem.Challenge.rw_worthkinds_k44_shapes_and_rules_refused) rfl rfl G.VH ?nl (fun w h Y=>⟨PySem.W.km_in_of Y,PySem.W.km_tabs_of Y⟩) ?F
 case nl=>intro p; kernel_rfl
 case F=>
  intro w mg fa h KX G0 hmg hT
  obtain ⟨a0,d0,C0⟩:∃ a d,G.Fn _ mg "_law_class" G.s_2 ["_law_kept"] a d:=by
   refine' ⟨_,_,G.fn1 KX G0 ?e ?l ?g ?k (fun F=>F.binds (ps:=["_law_kept"]) fun _ _ _ _ _ _ us hl=>match us,hl with | [_],_=>rfl)⟩
   (case e=>k_is)
   (case l=>k_is)
   (case g=>k_is)
   (case k=>k_is)
  obtain ⟨a1,d1,C1⟩:∃ a d,G.Fn _ mg "is_whole" G.s_e ["thing"] a d:=by
   refine' ⟨_,_,G.fn1 KX G0 ?e ?l ?g ?k (fun F=>F.binds (ps:=["thing"]) fun _ _ _ _ _ _ us hl=>match us,hl with | [_],_=>rfl)⟩
   (case e=>k_is)
   (case l=>k_is)
   (case g=>k_is)
   (case k=>k_is)
  obtain ⟨a2,d2,C2⟩:∃ a d,G.Fn _ mg "is_bound" G.VL ["thing"] a d:=by
   refine' ⟨_,_,G.fn1 KX G0 ?e ?l ?g ?k (fun F=>F.binds (ps:=["thing"]) fun _ _ _ _ _ _ us hl=>match us,hl with | [_],_=>rfl)⟩
   (case e=>k_is)
   (case l=>k_is)
   (case g=>k_is)
   (case k=>k_is)
  obtain ⟨a3,d3,C3⟩:∃ a d,G.Fn _ mg "is_word" G.s_q ["thing"] a d:=by
   refine' ⟨_,_,G.fn1 KX G0 ?e ?l ?g ?k (fun F=>F.binds (ps:=["thing"]) fun _ _ _ _ _ _ us hl=>match us,hl with | [_],_=>rfl)⟩
   (case e=>k_is)
   (case l=>k_is)
   (case g=>k_is)
   (case k=>k_is)
  obtain ⟨a4,d4,C4⟩:∃ a d,G.Fn _ mg "is_rule_within" G.s_j ["thing","levels"] a d:=by
   refine' ⟨_,_,G.fn1 KX G0 ?e ?l ?g ?k (fun F=>F.binds (ps:=["thing","levels"]) fun _ _ _ _ _ _ us hl=>match us,hl with | [_,_],_=>rfl)⟩
   (case e=>k_is)
   (case l=>k_is)
   (case g=>k_is)
   (case k=>k_is)
  obtain ⟨a5,d5,C5⟩:∃ a d,G.Fn _ mg "is_rule" G.s_7 ["thing"] a d:=by
   refine' ⟨_,_,G.fn1 KX G0 ?e ?l ?g ?k (fun F=>F.binds (ps:=["thing"]) fun _ _ _ _ _ _ us hl=>match us,hl with | [_],_=>rfl)⟩
   (case e=>k_is)
   (case l=>k_is)
   (case g=>k_is)
   (case k=>k_is)
  obtain ⟨a6,d6,C6⟩:∃ a d,G.Fn _ mg "need_rule" G.s_3 ["rule"] a d:=by
   refine' ⟨_,_,G.fn1 KX G0 ?e ?l ?g ?k (fun F=>F.binds (ps:=["rule"]) fun _ _ _ _ _ _ us hl=>match us,hl with | [_],_=>rfl)⟩
   (case e=>k_is)
   (case l=>k_is)
   (case g=>k_is)
   (case k=>k_is)
  obtain ⟨a7,d7,C7⟩:∃ a d,G.Fn _ mg "need_rules" G.s_a ["rules"] a d:=by
   refine' ⟨_,_,G.fn1 KX G0 ?e ?l ?g ?k (fun F=>F.binds (ps:=["rules"]) fun _ _ _ _ _ _ us hl=>match us,hl with | [_],_=>rfl)⟩
   (case e=>k_is)
   (case l=>k_is)
   (case g=>k_is)
   (case k=>k_is)
  obtain ⟨a8,d8,C8⟩:∃ a d,G.Fn _ mg "is_kept" G.uc ["rule","worth"] a d:=by
   refine' ⟨_,_,G.fn1 KX G0 ?e ?l ?g ?k (fun F=>F.binds (ps:=["rule","worth"]) fun _ _ _ _ _ _ us hl=>match us,hl with | [_,_],_=>rfl)⟩
   (case e=>k_is)
   (case l=>k_is)
   (case g=>k_is)
   (case k=>k_is)
  obtain ⟨a9,d9,C9⟩:∃ a d,G.Fn _ mg "is_span" G.VR ["low","high","least","most"] a d:=by
   refine' ⟨_,_,G.fn1 KX G0 ?e ?l ?g ?k (fun F=>F.binds (ps:=["low","high","least","most"]) fun _ _ _ _ _ _ us hl=>match us,hl with | [_,_,_,_],_=>rfl)⟩
   (case e=>k_is)
   (case l=>k_is)
   (case g=>k_is)
   (case k=>k_is)
  obtain ⟨a10,d10,C10⟩:∃ a d,G.Fn _ mg "is_tuple_of" G.s_d ["thing","least","most"] a d:=by
   refine' ⟨_,_,G.fn1 KX G0 ?e ?l ?g ?k (fun F=>F.binds (ps:=["thing","least","most"]) fun _ _ _ _ _ _ us hl=>match us,hl with | [_,_,_],_=>rfl)⟩
   (case e=>k_is)
   (case l=>k_is)
   (case g=>k_is)
   (case k=>k_is)
  obtain ⟨a11,d11,C11⟩:∃ a d,G.Fn _ mg "is_choice" G.VT ["thing"] a d:=by
   refine' ⟨_,_,G.fn1 KX G0 ?e ?l ?g ?k (fun F=>F.binds (ps:=["thing"]) fun _ _ _ _ _ _ us hl=>match us,hl with | [_],_=>rfl)⟩
   (case e=>k_is)
   (case l=>k_is)
   (case g=>k_is)
   (case k=>k_is)
  obtain ⟨a12,d12,C12⟩:∃ a d,G.Fn _ mg "are_choices" G.s_x ["thing"] a d:=by
   refine' ⟨_,_,G.fn1 KX G0 ?e ?l ?g ?k (fun F=>F.binds (ps:=["thing"]) fun _ _ _ _ _ _ us hl=>match us,hl with | [_],_=>rfl)⟩
   (case e=>k_is)
   (case l=>k_is)
   (case g=>k_is)
   (case k=>k_is)
  obtain ⟨a13,d13,C13⟩:∃ a d,G.Fn _ mg "is_kind_within" G.s_c ["thing","levels"] a d:=by
   refine' ⟨_,_,G.fn1 KX G0 ?e ?l ?g ?k (fun F=>F.binds (ps:=["thing","levels"]) fun _ _ _ _ _ _ us hl=>match us,hl with | [_,_],_=>rfl)⟩
   (case e=>k_is)
   (case l=>k_is)
   (case g=>k_is)
   (case k=>k_is)
  obtain ⟨a14,d14,C14⟩:∃ a d,G.Fn _ mg "are_kinds_within" G.vR ["thing","levels"] a d:=by
   refine' ⟨_,_,G.fn1 KX G0 ?e ?l ?g ?k (fun F=>F.binds (ps:=["thing","levels"]) fun _ _ _ _ _ _ us hl=>match us,hl with | [_,_],_=>rfl)⟩
   (case e=>k_is)
   (case l=>k_is)
   (case g=>k_is)
   (case k=>k_is)
  obtain ⟨a15,d15,C15⟩:∃ a d,G.Fn _ mg "is_kind" G.s_6 ["thing"] a d:=by
   refine' ⟨_,_,G.fn1 KX G0 ?e ?l ?g ?k (fun F=>F.binds (ps:=["thing"]) fun _ _ _ _ _ _ us hl=>match us,hl with | [_],_=>rfl)⟩
   (case e=>k_is)
   (case l=>k_is)
   (case g=>k_is)
   (case k=>k_is)
  obtain ⟨a16,d16,C16⟩:∃ a d,G.Fn _ mg "need_kind" G.s_9 ["kind"] a d:=by
   refine' ⟨_,_,G.fn1 KX G0 ?e ?l ?g ?k (fun F=>F.binds (ps:=["kind"]) fun _ _ _ _ _ _ us hl=>match us,hl with | [_],_=>rfl)⟩
   (case e=>k_is)
   (case l=>k_is)
   (case g=>k_is)
   (case k=>k_is)
  obtain ⟨a17,d17,C17⟩:∃ a d,G.Fn _ mg "count_of" G.s_4 ["kind"] a d:=by
   refine' ⟨_,_,G.fn1 KX G0 ?e ?l ?g ?k (fun F=>F.binds (ps:=["kind"]) fun _ _ _ _ _ _ us hl=>match us,hl with | [_],_=>rfl)⟩
   (case e=>k_is)
   (case l=>k_is)
   (case g=>k_is)
   (case k=>k_is)
  obtain ⟨a18,d18,C18⟩:∃ a d,G.Fn _ mg "count_of_parts" G.s_v ["kinds"] a d:=by
   refine' ⟨_,_,G.fn1 KX G0 ?e ?l ?g ?k (fun F=>F.binds (ps:=["kinds"]) fun _ _ _ _ _ _ us hl=>match us,hl with | [_],_=>rfl)⟩
   (case e=>k_is)
   (case l=>k_is)
   (case g=>k_is)
   (case k=>k_is)
  obtain ⟨a19,d19,C19⟩:∃ a d,G.Fn _ mg "count_shorter" G.s_o ["kind","length"] a d:=by
   refine' ⟨_,_,G.fn1 KX G0 ?e ?l ?g ?k (fun F=>F.binds (ps:=["kind","length"]) fun _ _ _ _ _ _ us hl=>match us,hl with | [_,_],_=>rfl)⟩
   (case e=>k_is)
   (case l=>k_is)
   (case g=>k_is)
   (case k=>k_is)
  obtain ⟨a20,d20,C20⟩:∃ a d,G.Fn _ mg "words_of_pick" G.s_p ["kind"] a d:=by
   refine' ⟨_,_,G.fn1 KX G0 ?e ?l ?g ?k (fun F=>F.binds (ps:=["kind"]) fun _ _ _ _ _ _ us hl=>match us,hl with | [_],_=>rfl)⟩
   (case e=>k_is)
   (case l=>k_is)
   (case g=>k_is)
   (case k=>k_is)
  obtain ⟨a21,d21,C21⟩:∃ a d,G.Fn _ mg "worth_at" G.s_f ["kind","number"] a d:=by
   refine' ⟨_,_,G.fn1 KX G0 ?e ?l ?g ?k (fun F=>F.binds (ps:=["kind","number"]) fun _ _ _ _ _ _ us hl=>match us,hl with | [_,_],_=>rfl)⟩
   (case e=>k_is)
   (case l=>k_is)
   (case g=>k_is)
   (case k=>k_is)
  obtain ⟨a22,d22,C22⟩:∃ a d,G.Fn _ mg "many_at" G.x6 ["kind","number"] a d:=by
   refine' ⟨_,_,G.fn1 KX G0 ?e ?l ?g ?k (fun F=>F.binds (ps:=["kind","number"]) fun _ _ _ _ _ _ us hl=>match us,hl with | [_,_],_=>rfl)⟩
   (case e=>k_is)
   (case l=>k_is)
   (case g=>k_is)
   (case k=>k_is)
  obtain ⟨a23,d23,C23⟩:∃ a d,G.Fn _ mg "parts_at" G.s_w ["kinds","number"] a d:=by
   refine' ⟨_,_,G.fn1 KX G0 ?e ?l ?g ?k (fun F=>F.binds (ps:=["kinds","number"]) fun _ _ _ _ _ _ us hl=>match us,hl with | [_,_],_=>rfl)⟩
   (case e=>k_is)
   (case l=>k_is)
   (case g=>k_is)
   (case k=>k_is)
  obtain ⟨a24,d24,C24⟩:∃ a d,G.Fn _ mg "all_worths" G.s_g ["kind"] a d:=by
   refine' ⟨_,_,G.fn1 KX G0 ?e ?l ?g ?k (fun F=>F.binds (ps:=["kind"]) fun _ _ _ _ _ _ us hl=>match us,hl with | [_],_=>rfl)⟩
   (case e=>k_is)
   (case l=>k_is)
   (case g=>k_is)
   (case k=>k_is)
  obtain ⟨a25,d25,C25⟩:∃ a d,G.Fn _ mg "keepers" G.s_n ["kind","rule"] a d:=by
   refine' ⟨_,_,G.fn1 KX G0 ?e ?l ?g ?k (fun F=>F.binds (ps:=["kind","rule"]) fun _ _ _ _ _ _ us hl=>match us,hl with | [_,_],_=>rfl)⟩
   (case e=>k_is)
   (case l=>k_is)
   (case g=>k_is)
   (case k=>k_is)
  obtain ⟨a26,d26,C26⟩:∃ a d,G.Fn _ mg "implies" G.s_k ["kind","one","other"] a d:=by
   refine' ⟨_,_,G.fn1 KX G0 ?e ?l ?g ?k (fun F=>F.binds (ps:=["kind","one","other"]) fun _ _ _ _ _ _ us hl=>match us,hl with | [_,_,_],_=>rfl)⟩
   (case e=>k_is)
   (case l=>k_is)
   (case g=>k_is)
   (case k=>k_is)
  obtain ⟨a27,d27,C27⟩:∃ a d,G.Fn _ mg "way_of" G.U6 ["rules","worth"] a d:=by
   refine' ⟨_,_,G.fn1 KX G0 ?e ?l ?g ?k (fun F=>F.binds (ps:=["rules","worth"]) fun _ _ _ _ _ _ us hl=>match us,hl with | [_,_],_=>rfl)⟩
   (case e=>k_is)
   (case l=>k_is)
   (case g=>k_is)
   (case k=>k_is)
  obtain ⟨a28,d28,C28⟩:∃ a d,G.Fn _ mg "worths_by_ways" G.s_s ["kind","rules"] a d:=by
   refine' ⟨_,_,G.fn1 KX G0 ?e ?l ?g ?k (fun F=>F.binds (ps:=["kind","rules"]) fun _ _ _ _ _ _ us hl=>match us,hl with | [_,_],_=>rfl)⟩
   (case e=>k_is)
   (case l=>k_is)
   (case g=>k_is)
   (case k=>k_is)
  obtain ⟨a29,d29,C29⟩:∃ a d,G.Fn _ mg "shares_together" G.ZK ["kind","worths"] a d:=by
   refine' ⟨_,_,G.fn1 KX G0 ?e ?l ?g ?k (fun F=>F.binds (ps:=["kind","worths"]) fun _ _ _ _ _ _ us hl=>match us,hl with | [_,_],_=>rfl)⟩
   (case e=>k_is)
   (case l=>k_is)
   (case g=>k_is)
   (case k=>k_is)
  obtain ⟨a30,d30,C30⟩:∃ a d,G.Fn _ mg "tally" G.s_m ["kind","rules"] a d:=by
   refine' ⟨_,_,G.fn1 KX G0 ?e ?l ?g ?k (fun F=>F.binds (ps:=["kind","rules"]) fun _ _ _ _ _ _ us hl=>match us,hl with | [_,_],_=>rfl)⟩
   (case e=>k_is)
   (case l=>k_is)
   (case g=>k_is)
   (case k=>k_is)
  obtain ⟨a31,d31,C31⟩:∃ a d,G.Fn _ mg "parted" G.s_l ["kind","rules"] a d:=by
   refine' ⟨_,_,G.fn1 KX G0 ?e ?l ?g ?k (fun F=>F.binds (ps:=["kind","rules"]) fun _ _ _ _ _ _ us hl=>match us,hl with | [_,_],_=>rfl)⟩
   (case e=>k_is)
   (case l=>k_is)
   (case g=>k_is)
   (case k=>k_is)
  obtain ⟨a32,d32,C32⟩:∃ a d,G.Fn _ mg "counts_keeping" G.vS ["worths","rules"] a d:=by
   refine' ⟨_,_,G.fn1 KX G0 ?e ?l ?g ?k (fun F=>F.binds (ps:=["worths","rules"]) fun _ _ _ _ _ _ us hl=>match us,hl with | [_,_],_=>rfl)⟩
   (case e=>k_is)
   (case l=>k_is)
   (case g=>k_is)
   (case k=>k_is)
  obtain ⟨a33,d33,C33⟩:∃ a d,G.Fn _ mg "tightest" G.s_i ["kind","rules"] a d:=by
   refine' ⟨_,_,G.fn1 KX G0 ?e ?l ?g ?k (fun F=>F.binds (ps:=["kind","rules"]) fun _ _ _ _ _ _ us hl=>match us,hl with | [_,_],_=>rfl)⟩
   (case e=>k_is)
   (case l=>k_is)
   (case g=>k_is)
   (case k=>k_is)
  obtain ⟨a34,d34,C34⟩:∃ a d,G.Fn _ mg "depth_of" G.wU ["kind"] a d:=by
   refine' ⟨_,_,G.fn1 KX G0 ?e ?l ?g ?k (fun F=>F.binds (ps:=["kind"]) fun _ _ _ _ _ _ us hl=>match us,hl with | [_],_=>rfl)⟩
   (case e=>k_is)
   (case l=>k_is)
   (case g=>k_is)
   (case k=>k_is)
  obtain ⟨a35,d35,C35⟩:∃ a d,G.Fn _ mg "depth" G.s_b ["kind"] a d:=by
   refine' ⟨_,_,G.fn1 KX G0 ?e ?l ?g ?k (fun F=>F.binds (ps:=["kind"]) fun _ _ _ _ _ _ us hl=>match us,hl with | [_],_=>rfl)⟩
   (case e=>k_is)
   (case l=>k_is)
   (case g=>k_is)
   (case k=>k_is)
  obtain ⟨a36,d36,C36⟩:∃ a d,G.Fn _ mg "words_of" G.wV ["kind"] a d:=by
   refine' ⟨_,_,G.fn1 KX G0 ?e ?l ?g ?k (fun F=>F.binds (ps:=["kind"]) fun _ _ _ _ _ _ us hl=>match us,hl with | [_],_=>rfl)⟩
   (case e=>k_is)
   (case l=>k_is)
   (case g=>k_is)
   (case k=>k_is)
  obtain ⟨a37,d37,C37⟩:∃ a d,G.Fn _ mg "words_in" G.s_y ["kind"] a d:=by
   refine' ⟨_,_,G.fn1 KX G0 ?e ?l ?g ?k (fun F=>F.binds (ps:=["kind"]) fun _ _ _ _ _ _ us hl=>match us,hl with | [_],_=>rfl)⟩
   (case e=>k_is)
   (case l=>k_is)
   (case g=>k_is)
   (case k=>k_is)
  obtain ⟨a38,d38,C38⟩:∃ a d,G.Fn _ mg "reach_of" G.s_5 ["kind"] a d:=by
   refine' ⟨_,_,G.fn1 KX G0 ?e ?l ?g ?k (fun F=>F.binds (ps:=["kind"]) fun _ _ _ _ _ _ us hl=>match us,hl with | [_],_=>rfl)⟩
   (case e=>k_is)
   (case l=>k_is)
   (case g=>k_is)
   (case k=>k_is)
  obtain ⟨a39,d39,C39⟩:∃ a d,G.Fn _ mg "reach_of_many" G.xl ["kind"] a d:=by
   refine' ⟨_,_,G.fn1 KX G0 ?e ?l ?g ?k (fun F=>F.binds (ps:=["kind"]) fun _ _ _ _ _ _ us hl=>match us,hl with | [_],_=>rfl)⟩
   (case e=>k_is)
   (case l=>k_is)
   (case g=>k_is)
   (case k=>k_is)
  obtain ⟨a40,d40,C40⟩:∃ a d,G.Fn _ mg "reach" G.s_1 ["kind"] a d:=by
   refine' ⟨_,_,G.fn1 KX G0 ?e ?l ?g ?k (fun F=>F.binds (ps:=["kind"]) fun _ _ _ _ _ _ us hl=>match us,hl with | [_],_=>rfl)⟩
   (case e=>k_is)
   (case l=>k_is)
   (case g=>k_is)
   (case k=>k_is)
  obtain ⟨a41,d41,C41⟩:∃ a d,G.Fn _ mg "mirror_of" G.JW ["kind"] a d:=by
   refine' ⟨_,_,G.fn1 KX G0 ?e ?l ?g ?k (fun F=>F.binds (ps:=["kind"]) fun _ _ _ _ _ _ us hl=>match us,hl with | [_],_=>rfl)⟩
   (case e=>k_is)
   (case l=>k_is)
   (case g=>k_is)
   (case k=>k_is)
  obtain ⟨a42,d42,C42⟩:∃ a d,G.Fn _ mg "mirrored" G.s_8 ["kind"] a d:=by
   refine' ⟨_,_,G.fn1 KX G0 ?e ?l ?g ?k (fun F=>F.binds (ps:=["kind"]) fun _ _ _ _ _ _ us hl=>match us,hl with | [_],_=>rfl)⟩
   (case e=>k_is)
   (case l=>k_is)
   (case g=>k_is)
   (case k=>k_is)
  obtain ⟨a43,d43,C43⟩:∃ a d,G.Fn _ mg "has_worth" G.s_h ["kind","thing"] a d:=by
   refine' ⟨_,_,G.fn1 KX G0 ?e ?l ?g ?k (fun F=>F.binds (ps:=["kind","thing"]) fun _ _ _ _ _ _ us hl=>match us,hl with | [_,_],_=>rfl)⟩
   (case e=>k_is)
   (case l=>k_is)
   (case g=>k_is)
   (case k=>k_is)
  obtain ⟨a44,d44,C44⟩:∃ a d,G.Fn _ mg "have_parts" G.vU ["kinds","parts"] a d:=by
   refine' ⟨_,_,G.fn1 KX G0 ?e ?l ?g ?k (fun F=>F.binds (ps:=["kinds","parts"]) fun _ _ _ _ _ _ us hl=>match us,hl with | [_,_],_=>rfl)⟩
   (case e=>k_is)
   (case l=>k_is)
   (case g=>k_is)
   (case k=>k_is)
  obtain ⟨a45,d45,C45⟩:∃ a d,G.Fn _ mg "is_worth" G.xr ["kind","thing"] a d:=by
   refine' ⟨_,_,G.fn1 KX G0 ?e ?l ?g ?k (fun F=>F.binds (ps:=["kind","thing"]) fun _ _ _ _ _ _ us hl=>match us,hl with | [_,_],_=>rfl)⟩
   (case e=>k_is)
   (case l=>k_is)
   (case g=>k_is)
   (case k=>k_is)
  obtain ⟨a46,d46,C46⟩:∃ a d,G.Fn _ mg "need_worth" G.xt ["kind","worth"] a d:=by
   refine' ⟨_,_,G.fn1 KX G0 ?e ?l ?g ?k (fun F=>F.binds (ps:=["kind","worth"]) fun _ _ _ _ _ _ us hl=>match us,hl with | [_,_],_=>rfl)⟩
   (case e=>k_is)
   (case l=>k_is)
   (case g=>k_is)
   (case k=>k_is)
  obtain ⟨a47,d47,C47⟩:∃ a d,G.Fn _ mg "mirror_of_worth" G.ZL ["worth"] a d:=by
   refine' ⟨_,_,G.fn1 KX G0 ?e ?l ?g ?k (fun F=>F.binds (ps:=["worth"]) fun _ _ _ _ _ _ us hl=>match us,hl with | [_],_=>rfl)⟩
   (case e=>k_is)
   (case l=>k_is)
   (case g=>k_is)
   (case k=>k_is)
  obtain ⟨a48,d48,C48⟩:∃ a d,G.Fn _ mg "mirrored_worth" G.s_r ["kind","worth"] a d:=by
   refine' ⟨_,_,G.fn1 KX G0 ?e ?l ?g ?k (fun F=>F.binds (ps:=["kind","worth"]) fun _ _ _ _ _ _ us hl=>match us,hl with | [_,_],_=>rfl)⟩
   (case e=>k_is)
   (case l=>k_is)
   (case g=>k_is)
   (case k=>k_is)
  obtain ⟨a49,d49,C49⟩:∃ a d,G.Fn _ mg "alike_on" G.s_u ["kind","one","other"] a d:=by
   refine' ⟨_,_,G.fn1 KX G0 ?e ?l ?g ?k (fun F=>F.binds (ps:=["kind","one","other"]) fun _ _ _ _ _ _ us hl=>match us,hl with | [_,_,_],_=>rfl)⟩
   (case e=>k_is)
   (case l=>k_is)
   (case g=>k_is)
   (case k=>k_is)
  obtain ⟨a50,d50,C50⟩:∃ a d,G.Fn _ mg "_law_told" G.j9 ["_law_deed"] a d:=by
   refine' ⟨_,_,G.fn1 KX G0 ?e ?l ?g ?k (fun F=>F.binds (ps:=["_law_deed"]) fun _ _ _ _ _ _ us hl=>match us,hl with | [_],_=>rfl)⟩
   (case e=>k_is)
   (case l=>k_is)
   (case g=>k_is)
   (case k=>k_is)
  obtain ⟨a51,d51,C51⟩:∃ a d,G.Fn _ mg "_law_cell" G.s_z ["_law_script","_law_k"] a d:=by
   refine' ⟨_,_,G.fn1 KX G0 ?e ?l ?g ?k (fun F=>F.binds (ps:=["_law_script","_law_k"]) fun _ _ _ _ _ _ us hl=>match us,hl with | [_,_],_=>rfl)⟩
   (case e=>k_is)
   (case l=>k_is)
   (case g=>k_is)
   (case k=>k_is)
  obtain ⟨a52,d52,C52⟩:∃ a d,G.Fn _ mg "_law_pick" G.s_t ["_law_script","_law_k","_law_many"] a d:=by
   refine' ⟨_,_,G.fn1 KX G0 ?e ?l ?g ?k (fun F=>F.binds (ps:=["_law_script","_law_k","_law_many"]) fun _ _ _ _ _ _ us hl=>match us,hl with | [_,_,_],_=>rfl)⟩
   (case e=>k_is)
   (case l=>k_is)
   (case g=>k_is)
   (case k=>k_is)
  obtain ⟨a53,d53,C53,hB,kl,Pl,el,ol,tl,gl⟩:∃ a d,G.Fn _ mg "law" G.s_0 ["_law_script"] a d/\(∀ (s:PySem.Shared) (v:PySem.Value),BindsTo s d ⟨[v],[]⟩ [("_law_script",v)])/\∃ c P,d.code= .ref c/\∃ o,G.xz KX c P o/\h.get? P=some (PySem.W.tabObj #[]):=by
   refine' ⟨_,_,G.fn1 KX G0 ?e ?l ?g ?k (fun F=>F.binds (ps:=["_law_script"]) fun _ _ _ _ _ _ us hl=>match us,hl with | [_],_=>rfl),fun s v=> .of_eq rfl,_,_,rfl,_,⟨?t, ?u, ?h, ?n⟩, ?m⟩
   (case e=>k_is)
   (case l=>k_is)
   (case g=>k_is)
   (case k=>k_is)
   (case t=>k_is)
   (case u=>exact rfl)
   (case h=>kernel_rfl)
   (case n=>kernel_rfl)
   (case m=>exact hT _ (by decide))
  refine' G.fin_ KX G0 hmg ⟨a0,d0,C0,a1,d1,C1,a2,d2,C2,a3,d3,C3,a4,d4,C4,a5,d5,C5,a6,d6,C6,a7,d7,C7,a8,d8,C8,a9,d9,C9,a10,d10,C10,a11,d11,C11,a12,d12,C12,a13,d13,C13,a14,d14,C14,a15,d15,C15,a16,d16,C16,a17,d17,C17,a18,d18,C18,a19,d19,C19,a20,d20,C20,a21,d21,C21,a22,d22,C22,a23,d23,C23,a24,d24,C24,a25,d25,C25,a26,d26,C26,a27,d27,C27,a28,d28,C28,a29,d29,C29,a30,d30,C30,a31,d31,C31,a32,d32,C32,a33,d33,C33,a34,d34,C34,a35,d35,C35,a36,d36,C36,a37,d37,C37,a38,d38,C38,a39,d39,C39,a40,d40,C40,a41,d41,C41,a42,d42,C42,a43,d43,C43,a44,d44,C44,a45,d45,C45,a46,d46,C46,a47,d47,C47,a48,d48,C48,a49,d49,C49,a50,d50,C50,a51,d51,C51,a52,d52,C52,a53,d53,C53,kl,Pl,el,tl.h,tl.n,PySem.W.mg_none_of KX G0 (by k_is),PySem.W.mg_none_of KX G0 (by k_is),PySem.W.mg_none_of KX G0 (by k_is),PySem.W.mg_none_of KX G0 (by k_is),PySem.W.mg_none_of KX G0 (by k_is),PySem.W.mg_none_of KX G0 (by k_is),PySem.W.mg_none_of KX G0 (by k_is),PySem.W.mg_none_of KX G0 (by k_is),PySem.W.mg_none_of KX G0 (by k_is),PySem.W.mg_none_of KX G0 (by k_is),PySem.W.mg_none_of KX G0 (by k_is),PySem.W.mg_none_of KX G0 (by k_is),PySem.W.mg_none_of KX G0 (by k_is),PySem.W.mg_none_of KX G0 (by k_is),PySem.W.mg_none_of KX G0 (by k_is),PySem.W.mg_none_of KX G0 (by k_is),PySem.W.mg_none_of KX G0 (by k_is),PySem.W.mg_none_of KX G0 (by k_is),⟨_,PySem.W.mg_of KX G0 (by k_is),_,rfl⟩,⟨_,PySem.W.mg_of KX G0 (by k_is),_,rfl⟩,⟨_,PySem.W.mg_of KX G0 (by k_is),_,rfl⟩,⟨_,PySem.W.mg_of KX G0 (by k_is),_,rfl⟩⟩ hB gl ?n0 ?n1 ?n2 ?n3 ?n4 ?n5 ?n6 ?n7 ?b0 ?b1 ?b2 ?b3 ?b4 ?b5 ?b6 ?b7 ?b8 ?b9 ?b10 ?b11 ?b12 ?b13
  (case n0=>k_is)
  (case n1=>k_is)
  (case n2=>k_is)
  (case n3=>k_is)
  (case n4=>k_is)
  (case n5=>k_is)
  (case n6=>k_is)
  (case n7=>k_is)
  (case b0=>kernel_rfl)
  (case b1=>kernel_rfl)
  (case b2=>kernel_rfl)
  (case b3=>kernel_rfl)
  (case b4=>kernel_rfl)
  (case b5=>kernel_rfl)
  (case b6=>kernel_rfl)
  (case b7=>kernel_rfl)
  (case b8=>kernel_rfl)
  (case b9=>kernel_rfl)
  (case b10=>kernel_rfl)
  (case b11=>kernel_rfl)
  (case b12=>kernel_rfl)
  (case b13=>kernel_rfl)
