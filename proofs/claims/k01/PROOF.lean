import PyProof.Rows.All
import Wide.All
import OpenK.AllK
import Wide.FinOn
import Lean
import PyProof.EqAt
import PyProof.EqKinds
import PyProof.TupleCall
import PyProof.NeKinds
import PyProof.WalksEnum
import PyProof.StrWalks
import PySem.Challenge.RW_worthkinds_k01_kinds
set_option Elab.async false
set_option linter.all false
set_option maxRecDepth 100000
/-! THE HAND LAYER, for ints, bools, texts, own classes, LISTS and tuples (index, slices, in, append, pop ..), calls, loops. Paste it whole ahead of your own text; what your proof does not reach may be deleted. -/
namespace L2
open PySem PySem.Spec PyProof.Rows

/-- a key: an int or a str -/
abbrev Key := Sum Int Str
def keyIs : Key → Value → Bool
  | .inl k, v => Value.isInt k v
  | .inr x, v => Value.isStrOf x v
def keyH (w : World) : Key → Int
  | .inl k => hashInt k
  | .inr x => hashStr w x
theorem keyIs_shape : ∀ {k : Key} {v : Value}, keyIs k v = true → (∃ i t, k = Sum.inl i ∧ v = Value.int i t) ∨ (∃ x t, k = Sum.inr x ∧ v = Value.str x t)
  | .inl i, v, h => by
    obtain ⟨t, e⟩ := Value.isInt_shape (k := i) (v := v) h
    exact .inl ⟨i, t, rfl, e⟩
  | .inr x, v, h => by
    obtain ⟨t, e⟩ := Value.isStrOf_shape (x := x) (v := v) h
    exact .inr ⟨x, t, rfl, e⟩
theorem keyIs_int (i : Int) (t : Tok) : keyIs (.inl i) (.int i t) = true := by simp [keyIs, Value.isInt]
theorem keyIs_str (x : Str) (t : Tok) : keyIs (.inr x) (.str x t) = true := by simp [keyIs, Value.isStrOf]
theorem key_ll (a b : Int) : decide ((Sum.inl a : Key) = Sum.inl b) = (a == b) := by
  by_cases e : a = b
  · subst e; simp
  · have h : ¬ (Sum.inl a : Key) = Sum.inl b := fun q => e (Sum.inl.inj q)
    rw [decide_eq_false h]
    exact (beq_eq_false_iff_ne.mpr e).symm
theorem key_rr (a b : Str) : decide ((Sum.inr a : Key) = Sum.inr b) = decide (a = b) := by
  by_cases e : a = b
  · subst e; simp
  · have h : ¬ (Sum.inr a : Key) = Sum.inr b := fun q => e (Sum.inr.inj q)
    rw [decide_eq_false h, decide_eq_false e]
theorem key_lr (a : Int) (b : Str) : decide ((Sum.inl a : Key) = Sum.inr b) = false := decide_eq_false (fun q => nomatch q)
theorem key_rl (a : Str) (b : Int) : decide ((Sum.inr a : Key) = Sum.inl b) = false := decide_eq_false (fun q => nomatch q)

def mixKind (prog : Program) (w : World) : PySem.KeyKind prog w Key where
  is := keyIs
  hash := keyH w
  inj := fun v a b ha hb => by
    rcases keyIs_shape ha with ⟨i, t, rfl, rfl⟩ | ⟨x, t, rfl, rfl⟩
    · rcases keyIs_shape hb with ⟨j, u, rfl, e⟩ | ⟨y, u, rfl, e⟩
      · injection e with e1 _; rw [e1]
      · exact nomatch e
    · rcases keyIs_shape hb with ⟨j, u, rfl, e⟩ | ⟨y, u, rfl, e⟩
      · exact nomatch e
      · injection e with e1 _; rw [e1]
  byValue := fun k v h => by
    rcases keyIs_shape h with ⟨i, t, rfl, rfl⟩ | ⟨x, t, rfl, rfl⟩ <;> rfl
  pyHash := fun hv h => by
    rcases keyIs_shape hv with ⟨i, t, rfl, rfl⟩ | ⟨x, t, rfl, rfl⟩
    · exact wpAny_pyHash_int h
    · exact wpAny_pyHash_str h
  eqBool := fun hu hv h => by
    rcases keyIs_shape hu with ⟨i, t, rfl, rfl⟩ | ⟨x, t, rfl, rfl⟩
    · rcases keyIs_shape hv with ⟨j, u, rfl, rfl⟩ | ⟨y, u, rfl, rfl⟩
      · rw [key_ll] at h; exact wpAny_eqBool_int h
      · rw [key_lr] at h; exact SeqAt.EqAt.int_str i t y u _ _ _ _ h
    · rcases keyIs_shape hv with ⟨j, u, rfl, rfl⟩ | ⟨y, u, rfl, rfl⟩
      · rw [key_rl] at h; exact SeqAt.EqAt.str_int x t j u _ _ _ _ h
      · rw [key_rr] at h; exact wpAny_eqBool_str h
  «strs» := fun k x t v h => by
    rcases keyIs_shape h with ⟨i, u, rfl, e⟩ | ⟨y, u, rfl, e⟩
    · exact nomatch e
    · injection e with e1 _
      subst e1
      cases v <;> rfl

theorem mixKind_is (prog : Program) (w : World) (k : Key) (v : Value) : (mixKind prog w).is k v = keyIs k v := rfl
theorem mixKind_int (prog : Program) (w : World) (i : Int) (t : Tok) : (mixKind prog w).is (.inl i) (.int i t) = true := keyIs_int i t
theorem mixKind_str (prog : Program) (w : World) (x : Str) (t : Tok) : (mixKind prog w).is (.inr x) (.str x t) = true := keyIs_str x t
end L2

namespace L2
open PySem PySem.Spec PyProof.Rows

/-- a value, without the heap -/
inductive V where
  | non | bl (b : Bool) | int (i : Int) | str (x : Str) | byt (b : Array UInt8) | flt (b : UInt64) | ref (a : Addr) | ty (n : String)
  deriving DecidableEq

def RelV : V → Value → Prop
  | .non, u => u = Value.none
  | .bl b, u => u = Value.bool b
  | .int i, u => ∃ t, u = Value.int i t
  | .str x, u => ∃ t, u = Value.str x t
  | .byt b, u => ∃ t, u = Value.bytes b t
  | .flt b, u => ∃ t, u = Value.float b t
  | .ref a, u => u = Value.ref a
  | .ty n, u => u = Value.type n

abbrev Vals : List V → List Value → Prop := Paired RelV
theorem Vals.length {xs : List V} {us : List Value} (r : Vals xs us) : xs.length = us.length := Paired.length r
theorem Vals.get : ∀ {xs : List V} {us : List Value} {i : Nat} {x : V}, Vals xs us → xs[i]? = some x → ∃ u, us[i]? = some u ∧ RelV x u
  | _, _, _, _, .nil, e => by simp at e
  | _, _, 0, _, .cons r _, e => by simp at e; subst e; exact ⟨_, rfl, r⟩
  | _, _, i + 1, x, .cons _ t, e => by
    obtain ⟨u, h1, h2⟩ := Vals.get (i := i) (x := x) t (by simpa using e)
    exact ⟨u, by simpa using h1, h2⟩
theorem Vals.set {x : V} {u : Value} (r : RelV x u) : ∀ {xs : List V} {us : List Value} (i : Nat), Vals xs us → Vals (xs.set i x) (us.set i u)
  | _, _, _, .nil => .nil
  | _, _, 0, .cons _ t => .cons r t
  | _, _, i + 1, .cons q t => .cons q (Vals.set r i t)
theorem Vals.append : ∀ {xs ys : List V} {us ws : List Value}, Vals xs us → Vals ys ws → Vals (xs ++ ys) (us ++ ws)
  | _, _, _, _, .nil, s => s
  | _, _, _, _, .cons r t, s => .cons r (Vals.append t s)
theorem Vals.take : ∀ {xs : List V} {us : List Value} (n : Nat), Vals xs us → Vals (xs.take n) (us.take n)
  | _, _, 0, _ => .nil
  | _, _, _ + 1, .nil => .nil
  | _, _, n + 1, .cons r t => .cons r (Vals.take n t)
theorem Vals.drop : ∀ {xs : List V} {us : List Value} (n : Nat), Vals xs us → Vals (xs.drop n) (us.drop n)
  | _, _, 0, r => r
  | _, _, _ + 1, .nil => .nil
  | _, _, n + 1, .cons _ t => Vals.drop n t
theorem Vals.none_of : ∀ {xs : List V} {us : List Value} {i : Nat}, Vals xs us → xs[i]? = none → us[i]? = none := fun {xs us i} r e => by
  have h1 := r.length
  have h2 : xs.length ≤ i := List.getElem?_eq_none_iff.mp e
  exact List.getElem?_eq_none_iff.mpr (by omega)

def RelO : Option V → Option Value → Prop
  | some v, some u => RelV v u
  | none, none => True
  | _, _ => False
def KV {κ : Type} : List (κ × V) → List (κ × Value) → Prop := Paired fun (p : κ × V) (q : κ × Value) => p.1 = q.1 ∧ RelV p.2 q.2

/-- a key of a dict (00_mix): an int or a text -/
def kV : Key → V
  | .inl i => .int i
  | .inr x => .str x

/-- what stands at a tracked address -/
inductive HO where
  /-- a list -/
  | lst (xs : List V)
  /-- a tuple (never changes) -/
  | tup (xs : List V)
  /-- a dict whose keys are ints and texts; one whose keys are tuples of ints and texts (the empty one is both) -/
  | dK (kvs : List (Key × V)) | dT (kvs : List (List Key × V))
  /-- a set of ints: its members, its size -/
  | set (S : Int → Bool) (n : Nat)
  /-- an instance of the class at C, its dict at dx, its attributes -/
  | ins (C dx : Addr) (fs : List (Str × V))
  /-- the dict of the instance at x -/
  | own (x : Addr)
  /-- the dict of an exception -/
  | xd (fs : List (Str × V))
  /-- a bound method, f of x -/
  | met (f x : Addr)
  /-- a range object lo, lo + 1, .. below hi -/
  | rng (lo hi : Int)
  /-- a thing that is known to the object (the script; a dict while a loop walks it): read, never written while it is so -/
  | frz (o : Obj) (u : HO)
  /-- a code object's table -/
  | tbl (ps : Array Value)
  /-- any other thing, by what is true of its one object (a def of one's own: SetO a S n := HO.ext fun h => ..) -/
  | ext (φ : Heap → Prop)

abbrev Hp := Addr → Option HO
def upd (H : Hp) (a : Addr) (o : HO) : Hp := fun b => if b = a then some o else H b
theorem upd_same {H : Hp} {a : Addr} {o : HO} : upd H a o a = some o := by unfold upd; rw [if_pos rfl]
theorem upd_ne {H : Hp} {a b : Addr} {o : HO} (h : b ≠ a) : upd H a o b = H b := by unfold upd; rw [if_neg h]
theorem upd_upd {H : Hp} {a : Addr} {o u : HO} : upd (upd H a o) a u = upd H a u := by
  funext b; unfold upd; split <;> rfl
/-- two objects of different content stand apart -/
theorem ne_of {H : Hp} {a b : Addr} {o u : HO} (h : H a = some o) (h' : H b = some u) (d : o ≠ u) : a ≠ b := by
  intro e; subst e; rw [h] at h'; exact d (Option.some.inj h')
theorem ne_of_none {H : Hp} {a b : Addr} {o : HO} (h : H a = some o) (h' : H b = none) : a ≠ b := by
  intro e; subst e; rw [h] at h'; cases h'

section
variable (P : Program) (w : World)
def ObjOk (H : Hp) (h : Heap) (a : Addr) : HO → Prop
  | .lst xs => xs.length ≤ sizeLine ∧ ∃ (its : List Value) (n : Nat), Vals xs its ∧ h.get? a = some { cls := .type "list", data := .seq its.toArray n }
  | .tup xs => xs.length ≤ sizeLine ∧ ∃ its : List Value, Vals xs its ∧ IsTup h a its.toArray
  | .dK kvs => kvs.length ≤ sizeLine ∧ (a == sysModules) = false ∧ ∃ vs, KV kvs vs ∧ h.DictOf (mixKind P w) a vs
  | .dT kvs => kvs.length ≤ sizeLine ∧ (a == sysModules) = false ∧ ∃ xs : List (List Key × Addr × Value),
      Paired (fun (p : List Key × V) (q : List Key × Addr × Value) => p.1 = q.1 ∧ H q.2.1 = some (.tup (p.1.map kV)) ∧ RelV p.2 q.2.2) kvs xs ∧
      ∃ o es ep, h.get? a = some o ∧ o.ExactDict ∧ o.data = .dict es ep ∧ es.toList = xs.map (entryOfKey (tupleKind (mixKind P w))) ∧ (xs.map (·.1)).Nodup
  | .set S n => h.SetOf (intKind P w) a S n
  | .ins C dx fs => H dx = some (.own a) ∧ fs.length ≤ 1000 ∧ dx ≠ a ∧ h.get? a = some (PySem.W.instObj C dx) ∧
      ∃ mA, h.Ns1 dx mA ∧ (∀ f, RelO (fs.lookup f) (mA f)) ∧ PySem.Within mA (fs.map (·.1))
  | .own _ => ∃ o, h.get? a = some o
  | .xd fs => ∃ mA, h.Ns1 a mA ∧ ∀ f, RelO (fs.lookup f) (mA f)
  | .rng lo hi => ∃ t u v, h.get? a = some { cls := .type "range", data := .fields #[.int lo t, .int hi u, .int 1 v] }
  | .frz o u => h.get? a = some o ∧ ObjOk H h a u
  | .tbl ps => h.get? a = some { cls := .none, data := .fields ps }
  | .met f x => h.get? a = some (PySem.W.methodObj (.ref f) (.ref x))
  | .ext φ => φ h ∧ (∃ o, h.get? a = some o) ∧ ∀ h1 h2 : Heap, φ h1 → (∀ o, h1.get? a = some o → h2.get? a = some o) → φ h2
/-- the abstract heap is held -/
def HOk (H : Hp) (h : Heap) : Prop := ∀ a o, H a = some o → ObjOk P w H h a o
end

section
variable {P : Program} {w : World} {H H' : Hp} {h h' : Heap} {a : Addr} {o : HO}
theorem ObjOk.lt (x : ObjOk P w H h a o) : a < h.objs.size := by
  cases o with
  | lst xs => obtain ⟨_, _, _, _, e⟩ := x; exact Heap.lt_size e
  | tup xs => obtain ⟨_, _, _, p⟩ := x; exact p.lt
  | dK kvs => obtain ⟨_, _, _, _, o, _, _, e, _⟩ := x; exact Heap.lt_size e
  | dT kvs => obtain ⟨_, _, _, _, o, _, _, e, _⟩ := x; exact Heap.lt_size e
  | set S n => obtain ⟨o, _, _, _, e, _⟩ := x; exact Heap.lt_size e
  | ins C dx fs => obtain ⟨_, _, _, e, _⟩ := x; exact Heap.lt_size e
  | own y => obtain ⟨_, e⟩ := x; exact Heap.lt_size e
  | xd fs => obtain ⟨_, ⟨_, _, _, e, _⟩, _⟩ := x; exact Heap.lt_size e
  | rng lo hi => obtain ⟨_, _, _, e⟩ := x; exact Heap.lt_size e
  | frz ob u => obtain ⟨e, _⟩ := x; exact Heap.lt_size e
  | tbl ps => exact Heap.lt_size (show h.get? a = some _ from x)
  | met f y => exact Heap.lt_size (show h.get? a = some _ from x)
  | ext φ => obtain ⟨_, ⟨_, e⟩, _⟩ := x; exact Heap.lt_size e
theorem Paired.mapP {α β : Type} {F G : α → β → Prop} : ∀ {l₁ : List α} {l₂ : List β}, Paired F l₁ l₂ → (∀ a b, F a b → G a b) → Paired G l₁ l₂
  | _, _, .nil, _ => .nil
  | _, _, .cons r t, f => .cons (f _ _ r) (Paired.mapP t f)
theorem Paired.imp' {α β : Type} {F G : α → β → Prop} (f : ∀ a b, F a b → G a b) {l₁ : List α} {l₂ : List β} (r : Paired F l₁ l₂) : Paired G l₁ l₂ := Paired.mapP r f
/-- what an object's description leans on: its own object, its own dict, the tuples -/
theorem ObjOk.stay (x : ObjOk P w H h a o) (k : ∀ b u, (b = a ∨ H b = some (.own a)) → h.get? b = some u → h'.get? b = some u)
    (ho : ∀ b, H b = some (.own a) → H' b = some (.own a)) (ht : ∀ b xs, H b = some (.tup xs) → H' b = some (.tup xs)) : ObjOk P w H' h' a o := by
  induction o with
  | lst xs => obtain ⟨z, its, n, r, e⟩ := x; exact ⟨z, its, n, r, k _ _ (.inl rfl) e⟩
  | tup xs => obtain ⟨z, its, r, ob, e, c⟩ := x; exact ⟨z, its, r, ob, k _ _ (.inl rfl) e, c⟩
  | dK kvs => obtain ⟨z, y, vs, r, ob, es, ep, e, c⟩ := x; exact ⟨z, y, vs, r, ob, es, ep, k _ _ (.inl rfl) e, c⟩
  | dT kvs =>
    obtain ⟨z, y, xs, r, ob, es, ep, e, c⟩ := x
    exact ⟨z, y, xs, Paired.mapP r fun p q z => ⟨z.1, ht _ _ z.2.1, z.2.2⟩, ob, es, ep, k _ _ (.inl rfl) e, c⟩
  | set S n => obtain ⟨ob, es, ep, t, e, c⟩ := x; exact ⟨ob, es, ep, t, k _ _ (.inl rfl) e, c⟩
  | ins C dx fs =>
    obtain ⟨d, z, ne, e, mA, ⟨od, es, ep, e2, c⟩, r⟩ := x
    exact ⟨ho _ d, z, ne, k _ _ (.inl rfl) e, mA, ⟨od, es, ep, k _ _ (.inr d) e2, c⟩, r⟩
  | own y => obtain ⟨ob, e⟩ := x; exact ⟨ob, k _ _ (.inl rfl) e⟩
  | xd fs => obtain ⟨mA, ⟨od, es, ep, e, c⟩, r⟩ := x; exact ⟨mA, ⟨od, es, ep, k _ _ (.inl rfl) e, c⟩, r⟩
  | rng lo hi => obtain ⟨t, u, v, e⟩ := x; exact ⟨t, u, v, k _ _ (.inl rfl) e⟩
  | frz ob u ih => obtain ⟨e, q⟩ := x; exact ⟨k _ _ (.inl rfl) e, ih q⟩
  | tbl ps =>
    have e : h.get? a = some { cls := .none, data := .fields ps } := x
    show h'.get? a = some { cls := .none, data := .fields ps }
    exact k a _ (.inl rfl) e
  | met f y =>
    have e : h.get? a = some (PySem.W.methodObj (.ref f) (.ref y)) := x
    show h'.get? a = some (PySem.W.methodObj (.ref f) (.ref y))
    exact k a _ (.inl rfl) e
  | ext φ => obtain ⟨p, ⟨o, e⟩, st⟩ := x; exact ⟨st _ _ p fun o q => k _ _ (.inl rfl) q, ⟨o, k _ _ (.inl rfl) e⟩, st⟩
theorem HOk.lt (x : HOk P w H h) (e : H a = some o) : a < h.objs.size := (x a o e).lt
theorem HOk.fresh (x : HOk P w H h) (e : h.objs.size ≤ a) : H a = none := by
  cases q : H a with
  | none => rfl
  | some u => exact absurd (Nat.lt_of_lt_of_le (x.lt q) e) (Nat.lt_irrefl _)
/-- every object of the heap is kept -/
theorem HOk.kept (x : HOk P w H h) (k : ∀ b u, h.get? b = some u → h'.get? b = some u) : HOk P w H h' := fun a o e =>
  (x a o e).stay (fun b u _ q => k b u q) (fun _ q => q) fun _ _ q => q
/-- a new object is laid and tracked -/
theorem HOk.laid (x : HOk P w H h) (k : ∀ b u, h.get? b = some u → h'.get? b = some u) (hp : h.objs.size ≤ a) (new : ObjOk P w (upd H a o) h' a o) : HOk P w (upd H a o) h' := fun b u e => by
  have hn := x.fresh hp
  by_cases hb : b = a
  · subst hb; rw [upd_same] at e; cases e; exact new
  · rw [upd_ne hb] at e
    exact (x b u e).stay (fun c v _ q => k c v q) (fun c q => by rw [upd_ne (ne_of_none q hn)]; exact q) fun c xs q => by rw [upd_ne (ne_of_none q hn)]; exact q
end

/-- what may be read as u: it is u, or a known u -/
def Rd (H : Hp) (a : Addr) (u : HO) : Prop := H a = some u ∨ ∃ o, H a = some (.frz o u)
theorem Rd.of {H : Hp} {a : Addr} {u : HO} (h : H a = some u) : Rd H a u := .inl h
theorem Rd.ok {P : Program} {w : World} {H : Hp} {h : Heap} {a : Addr} {u : HO} (r : Rd H a u) (x : HOk P w H h) : ObjOk P w H h a u := by
  rcases r with r | ⟨o, r⟩
  · exact x a u r
  · obtain ⟨_, q⟩ := x a _ r
    exact q
/-- what may be written -/
def Mut : Option HO → Prop
  | some (.lst _) => True
  | some (.dK _) => True
  | some (.dT _) => True
  | some (.set _ _) => True
  | some (.ins _ _ _) => True
  | some (.ext _) => True
  | _ => False
section
variable {P : Program} {w : World} {H : Hp} {h h' : Heap} {x e : Addr} {o' : HO}
/-- the object at e is changed: x itself, or the dict of the instance x -/
theorem HOk.write (ok : HOk P w H h) (mu : Mut (H x)) (he : e = x ∨ H e = some (.own x)) (k : ∀ b u, b ≠ e → h.get? b = some u → h'.get? b = some u) (heo : ∃ u, h'.get? e = some u)
    (new : ObjOk P w (upd H x o') h' x o') : HOk P w (upd H x o') h' := fun b u q => by
  have nown : ∀ c y, H c = some (.own y) → c ≠ x := fun c y r z => by subst z; rw [r] at mu; exact mu
  have ntup : ∀ c xs, H c = some (.tup xs) → c ≠ x := fun c xs r z => by subst z; rw [r] at mu; exact mu
  by_cases hb : b = x
  · subst hb; rw [upd_same] at q; cases q; exact new
  · rw [upd_ne hb] at q
    by_cases hbe : b = e
    · have q' : H b = some (.own x) := by
        rcases he with z | z
        · exact absurd (hbe.trans z) hb
        · rw [hbe]; exact z
      rw [q] at q'; cases q'
      obtain ⟨v, hv⟩ := heo
      exact ⟨v, by rw [hbe]; exact hv⟩
    · refine (ok b u q).stay (fun c v hc r => k c v ?_ r) (fun c r => by rw [upd_ne (nown c b r)]; exact r) fun c xs r => by rw [upd_ne (ntup c xs r)]; exact r
      rcases hc with rfl | hc
      · exact hbe
      · rintro rfl
        rcases he with z | z
        · exact nown c b hc z
        · rw [hc] at z; cases z; exact hb rfl
end

/-! ### kept unless tracked; of the frames at fs (the callers') the slots may change (an exception that passes writes there); of the records at ex (iterators) nothing is said -/
structure Un (fs ex : List Addr) (H H' : Hp) (h h' : Heap) : Prop where
  keep : ∀ b o, h.get? b = some o → H b = none → b ∉ fs → b ∉ ex → h'.get? b = some o
  slot : ∀ b o, h.get? b = some o → H b = none → b ∈ fs → b ∉ ex → ∃ sl, h'.get? b = some { o with slots := sl }
  free : ∀ b o, h.get? b = some o → H b = none → b ∉ ex → H' b = none
  there : ∀ b o, h.get? b = some o → b ∉ ex → ∃ o', h'.get? b = some o'
  tups : ∀ b xs, H b = some (.tup xs) → H' b = some (.tup xs)
  frzs : ∀ b o u, H b = some (.frz o u) → H' b = some (.frz o u)
  tbls : ∀ b ps, H b = some (.tbl ps) → ∃ more, H' b = some (.tbl (ps ++ more))
section
variable {fs fs' ex ex' : List Addr} {H H1 H2 : Hp} {h h1 h2 h' : Heap} {a x e : Addr} {o : HO}
theorem Un.any (u : Un fs ex H H1 h h1) {b : Addr} {ob : Obj} (q : h.get? b = some ob) (n : H b = none) (hx : b ∉ ex) : ∃ sl, h1.get? b = some { ob with slots := sl } := by
  by_cases hb : b ∈ fs
  · exact u.slot b ob q n hb hx
  · exact ⟨ob.slots, u.keep b ob q n hb hx⟩
theorem Un.trans (a : Un fs ex H H1 h h1) (b : Un fs ex H1 H2 h1 h2) : Un fs ex H H2 h h2 where
  keep := fun c ob q n hc hx => b.keep c ob (a.keep c ob q n hc hx) (a.free c ob q n hx) hc hx
  slot := fun c ob q n hc hx => by
    obtain ⟨sl, e1⟩ := a.slot c ob q n hc hx
    obtain ⟨sl', e2⟩ := b.slot c _ e1 (a.free c ob q n hx) hc hx
    exact ⟨sl', e2⟩
  free := fun c ob q n hx => by
    obtain ⟨o', e1⟩ := a.there c ob q hx
    exact b.free c o' e1 (a.free c ob q n hx) hx
  there := fun c ob q hx => by
    obtain ⟨o', e1⟩ := a.there c ob q hx
    exact b.there c o' e1 hx
  tups := fun c xs q => b.tups c xs (a.tups c xs q)
  frzs := fun c ob xs q => b.frzs c ob xs (a.frzs c ob xs q)
  tbls := fun c ps q => by
    obtain ⟨m1, e1⟩ := a.tbls c ps q
    obtain ⟨m2, e2⟩ := b.tbls c _ e1
    exact ⟨m1 ++ m2, by rw [e2, Array.append_assoc]⟩
theorem Un.kept (k : ∀ b u, h.get? b = some u → h'.get? b = some u) : Un fs ex H H h h' :=
  ⟨fun b ob q _ _ _ => k b ob q, fun b ob q _ _ _ => ⟨ob.slots, k b ob q⟩, fun _ _ _ n _ => n, fun b ob q _ => ⟨ob, k b ob q⟩, fun _ _ q => q, fun _ _ _ q => q, fun _ ps q => ⟨#[], by rw [q]; simp⟩⟩
theorem Un.refl : Un fs ex H H h h := Un.kept fun _ _ q => q
theorem Un.laid (k : ∀ b u, h.get? b = some u → h'.get? b = some u) (hp : h.objs.size ≤ a) (hn : H a = none) : Un fs ex H (upd H a o) h h' where
  keep := fun b u q _ _ _ => k b u q
  slot := fun b u q _ _ _ => ⟨u.slots, k b u q⟩
  free := fun b u q n _ => by rw [upd_ne (Nat.ne_of_lt (Nat.lt_of_lt_of_le (Heap.lt_size q) hp))]; exact n
  there := fun b u q _ => ⟨u, k b u q⟩
  tups := fun b xs q => by rw [upd_ne (ne_of_none q hn)]; exact q
  frzs := fun b u xs q => by rw [upd_ne (ne_of_none q hn)]; exact q
  tbls := fun b ps q => ⟨#[], by rw [upd_ne (ne_of_none q hn), q]; simp⟩
theorem Un.write (mu : Mut (H x)) (he : e = x ∨ H e = some (.own x)) (k : ∀ b u, b ≠ e → h.get? b = some u → h'.get? b = some u) (heo : ∃ u, h'.get? e = some u) : Un fs ex H (upd H x o) h h' := by
  have hx : ∀ b, H b = none → b ≠ x := fun b n z => by subst z; rw [n] at mu; exact mu
  have hb : ∀ b, H b = none → b ≠ e := fun b n z => by
    subst z
    rcases he with r | r
    · exact hx b n r
    · rw [n] at r; cases r
  have hm : ∀ b u, H b = some u → ¬ Mut (some u) → b ≠ x := fun b u q nm z => by subst z; rw [q] at mu; exact nm mu
  refine ⟨fun b u q n _ _ => k b u (hb b n) q, fun b u q n _ _ => ⟨u.slots, k b u (hb b n) q⟩, fun b u q n _ => by rw [upd_ne (hx b n)]; exact n, fun b u q _ => ?_,
    fun b xs q => by rw [upd_ne (hm b _ q fun z => z)]; exact q, fun b u xs q => by rw [upd_ne (hm b _ q fun z => z)]; exact q, fun b ps q => ⟨#[], by rw [upd_ne (hm b _ q fun z => z), q]; simp⟩⟩
  by_cases hbe : b = e
  · subst hbe; exact heo
  · exact ⟨u, k b u hbe q⟩
theorem Un.mono (u : Un fs ex H H1 h h1) (hs : ∀ b ∈ fs, b ∈ fs') (hx : ∀ b ∈ ex, b ∈ ex') : Un fs' ex' H H1 h h1 :=
  ⟨fun b ob q n hb he => u.keep b ob q n (fun z => hb (hs b z)) fun z => he (hx b z), fun _ _ q n _ he => u.any q n fun z => he (hx _ z), fun b ob q n he => u.free b ob q n fun z => he (hx b z), fun b ob q he => u.there b ob q fun z => he (hx b z), u.tups, u.frzs, u.tbls⟩
end

/-! ### the heap without what is tracked -/
def trk (h : Heap) (H : Hp) : List Addr := (List.range h.objs.size).filter fun a => (H a).isSome
def hidT (h : Heap) (H : Hp) : Heap := PySem.W.hideAll h (trk h H)
theorem hidT_size (h : Heap) (H : Hp) : (hidT h H).objs.size = h.objs.size := PySem.W.hideAll_size _ _
theorem hidT_get {h : Heap} {H : Hp} {b : Addr} {o : Obj} (e : h.get? b = some o) (n : H b = none) : (hidT h H).get? b = some o :=
  PySem.W.hideAll_get _ e fun hm => by
    have q : (H b).isSome = true := (List.mem_filter.mp hm).2
    rw [n] at q; simp at q
theorem of_hidT {h : Heap} {H : Hp} {b : Addr} {o : Obj} (e : (hidT h H).get? b = some o) : h.get? b = some o ∧ H b = none := by
  have e' : h.get? b = some o := PySem.W.of_hideAll (trk h H) e
  refine ⟨e', ?_⟩
  cases q : H b with
  | none => rfl
  | some x =>
    have hm : b ∈ trk h H := List.mem_filter.mpr ⟨List.mem_range.mpr (Heap.lt_size e'), by simp [q]⟩
    have z : (hidT h H).get? b = none := PySem.W.hideAll_none (trk h H) hm
    rw [z] at e; cases e

/-! ### OpenK's ledger, filled with every new object but one -/
def allNews (g h : Heap) (L : Addr) : List (Addr × Obj) := (List.range h.objs.size).filterMap fun a => if a = L ∨ (g.get? a).isSome = true then none else (h.get? a).map fun o => (a, o)
theorem mem_allNews {g h : Heap} {L a : Addr} {o : Obj} (h1 : a ≠ L) (h2 : g.get? a = none) (h3 : h.get? a = some o) : (a, o) ∈ allNews g h L :=
  List.mem_filterMap.mpr ⟨a, List.mem_range.mpr (Heap.lt_size h3), by simp [h1, h2, h3]⟩
theorem of_mem_allNews {g h : Heap} {L : Addr} {p : Addr × Obj} (hp : p ∈ allNews g h L) : p.1 ≠ L ∧ g.get? p.1 = none ∧ h.get? p.1 = some p.2 := by
  obtain ⟨b, _, e⟩ := List.mem_filterMap.mp hp
  split at e
  · cases e
  · rename_i hn
    cases q : h.get? b with
    | none => rw [q] at e; simp at e
    | some u =>
      rw [q] at e
      simp only [Option.map_some, Option.some.injEq] at e
      subst e
      refine ⟨fun z => hn (.inl z), ?_, q⟩
      show g.get? b = none
      cases r : g.get? b with
      | none => rfl
      | some v => exact (hn (.inr (by simp [r]))).elim
def rest (g h : Heap) (L d : Addr) : List (Addr × Obj) := (allNews g h L).filter fun p => decide (p.1 ≠ d)
theorem rest_ne {g h : Heap} {L d : Addr} : ∀ p ∈ rest g h L d, p.1 ≠ d := fun p hp => of_decide_eq_true (List.mem_filter.mp hp).2
theorem mem_rest {g h : Heap} {L d a : Addr} {o : Obj} (h1 : a ≠ L) (h2 : g.get? a = none) (h3 : h.get? a = some o) (h4 : a ≠ d) : (a, o) ∈ rest g h L d :=
  List.mem_filter.mpr ⟨mem_allNews h1 h2 h3, decide_eq_true h4⟩
theorem news_all {g h : Heap} {L : Addr} : News g L h (allNews g h L) := fun p hp => let ⟨a, b, c⟩ := of_mem_allNews hp; ⟨c, a, b⟩
theorem news_at {g h : Heap} {L d : Addr} {o : Obj} (h1 : d ≠ L) (h2 : g.get? d = none) (h3 : h.get? d = some o) : News g L h ((d, o) :: rest g h L d) := fun p hp => by
  rcases List.mem_cons.mp hp with rfl | hp
  · exact ⟨h3, h1, h2⟩
  · exact news_all p (List.mem_filter.mp hp).1
/-- behind a rule that changed d alone: all else but the frame is kept -/
theorem kept_of_news {g h h' : Heap} {L d : Addr} {m : Str → Option Value} (k : ∀ b o, g.get? b = some o → h.get? b = some o) (F : Fr g L h' m) (N : News g L h' (rest g h L d)) :
    ∀ b o, b ≠ L → b ≠ d → h.get? b = some o → h'.get? b = some o := fun b o h1 h2 e => by
  cases q : g.get? b with
  | some u =>
    have := k b u q
    rw [e] at this; cases this
    exact F.keep b _ q
  | none => exact (N (b, o) (mem_rest h1 q e h2)).1
end L2

namespace L2
open PySem PySem.Spec PyProof.Rows

/-- the module's facts, over the base: the heap at the law's entry without what is tracked there -/
structure Mod (K : PySem.W.Frag) (mg : Str → Option Value) (base : Heap) : Prop where
  kin : K.In base
  glob : base.Ns mainGlobals mg
  blt : ∃ mb, base.Ns builtinsNs mb ∧ ∀ x : Str, x ≠ "__name__" → mb x = bootBuiltins x
  nolimit : base.NoLimit

/-- the context: a def's body (or a comprehension's block) running. base: fixed through the whole law; s₀, H₀: the entry; outer: the frames whose slots others may change (a def's callers); stack: all frames that run;
   ex: iterators that were made ahead of the entry and are walked here (a comprehension's); fn: the names whose cells were made at the entry (a def: all; a comprehension's block: its own); calm: not within an except suite; pn: pins that every state bears; xe: what is wanted of an exception that leaves the code -/
structure Cx where
  prog : Program
  w : World
  K : PySem.W.Frag
  mg : Str → Option Value
  base : Heap
  A : Around
  N : List Str
  s₀ : Shared
  H₀ : Hp
  env : Env
  outer : List Env
  stack : List Env
  ex : List Addr
  fn : Str → Bool
  calm : Bool
  pn : List (Addr × Obj)
  xe : Value → Shared → Prop
/-- the callers' frames -/
def frs (l : List Env) : List Addr := l.filterMap (·.frame)
abbrev Cx.fs (X : Cx) : List Addr := frs X.outer

def Vis (sc : Scope) (x : Str) : Prop := sc.names.lookup x = some .local ∨ sc.names.lookup x = some .cell ∨ sc.names.lookup x = some .free
def Loc (sc : Scope) (x : Str) : Prop := sc.names.lookup x = some .local ∨ sc.names.lookup x = some .cell
def Look (env : Env) (h : Heap) (m : Str → Option Value) (x : Str) (u : Value) : Prop :=
  (env.kindOf x = some .local ∧ m x = some u) ∨ ((env.kindOf x = some .cell ∨ env.kindOf x = some .free) ∧ ∃ c, env.cells.lookup x = some c ∧ h.IsCell c (some u))

structure Cx.Ok (X : Cx) : Prop where
  mod : Mod X.K X.mg X.base
  kind : X.env.scope.kind = .function
  glob : X.env.globals = mainGlobals
  blt : X.env.builtins = builtinsNs
  above : X.s₀.heap.objs.size ≤ X.env.locals
  inj : ∀ x y c, X.env.cells.lookup x = some c → X.env.cells.lookup y = some c → x = y
  has : ∀ x, (X.env.kindOf x = some .cell ∨ X.env.kindOf x = some .free) → ∃ c, X.env.cells.lookup x = some c
  cab : ∀ x c, X.fn x = true → X.env.cells.lookup x = some c → X.s₀.heap.objs.size ≤ c
  hd : X.calm = true → X.A.handled = none
  frames : X.A.frames = some X.stack
  stk : X.stack = X.outer ∨ (X.stack = X.env :: X.outer ∧ X.env.frame = some X.env.locals)
  exf : ∀ b ∈ X.ex, b ≠ X.env.locals ∧ ∀ x c, X.env.cells.lookup x = some c → c ≠ b
  bs : ∀ b o, X.base.get? b = some o → X.s₀.heap.get? b = some o ∧ X.H₀ b = none
  bsz : X.base.objs.size ≤ X.s₀.heap.objs.size
  noex : ∀ b o, X.base.get? b = some o → b ∉ X.ex
  exfs : ∀ b ∈ X.ex, b ∉ X.fs
  funs : X.s₀.heap.FunFrames X.base X.outer
  frf : ∀ b ∈ X.fs, X.H₀ b = none

structure Inv (X : Cx) (pins : List (Addr × Obj)) (σ : List (Option V)) (H : Hp) (s : Shared) : Prop where
  ok : X.Ok
  os : s.os = X.s₀.os
  bare : AllBare s.gens
  base : Un X.fs X.ex X.H₀ H X.s₀.heap s.heap
  loc : ∃ m, s.heap.Ns X.env.locals m ∧ ∀ (i : Nat) (x : Str) (v : V), X.N[i]? = some x → σ[i]? = some (some v) → Vis X.env.scope x → ∃ u, RelV v u ∧ Look X.env s.heap m x u
  cell : ∀ x c, X.env.cells.lookup x = some c → ∃ v, s.heap.IsCell c v
  free : H X.env.locals = none
  freeC : ∀ x c, X.env.cells.lookup x = some c → H c = none
  pin : ∀ p ∈ X.pn ++ pins, s.heap.get? p.1 = some p.2 ∧ H p.1 = none ∧ p.1 ≠ X.env.locals ∧ p.1 ∉ X.fs ∧ ∀ v, p.2.data ≠ .cell v
  hok : HOk X.prog X.w H s.heap
  len : σ.length = X.N.length

section
variable {X : Cx} {pins : List (Addr × Obj)} {σ : List (Option V)} {H H' : Hp} {s : Shared} {h' : Heap}

theorem Cx.Ok.nofr (ok : X.Ok) {b : Addr} {o : Obj} (e : X.base.get? b = some o) : b ∉ X.fs := fun hb => by
  have := (ok.funs.mem hb).1
  rw [e] at this; cases this
theorem Inv.bs (I : Inv X pins σ H s) : ∀ b o, X.base.get? b = some o → s.heap.get? b = some o ∧ H b = none := fun b o e =>
  ⟨I.base.keep b o (I.ok.bs b o e).1 (I.ok.bs b o e).2 (I.ok.nofr e) (I.ok.noex b o e), I.base.free b o (I.ok.bs b o e).1 (I.ok.bs b o e).2 (I.ok.noex b o e)⟩
theorem Inv.bk (I : Inv X pins σ H s) : ∀ b o, X.base.get? b = some o → s.heap.get? b = some o := fun b o e => (I.bs b o e).1
theorem Inv.mod (I : Inv X pins σ H s) : Mod X.K X.mg X.base := I.ok.mod
theorem Inv.kIn (I : Inv X pins σ H s) : X.K.In s.heap := I.ok.mod.kin.keeps I.bk
theorem Inv.nolimit (I : Inv X pins σ H s) : s.heap.NoLimit := I.ok.mod.nolimit.keeps I.bk
/-- the frame over the base: for OpenK's rules (K.In X.base is I.mod.kin) -/
theorem Inv.fr (I : Inv X pins σ H s) : ∃ m, Fr X.base X.env.locals s.heap m :=
  let ⟨m, hn, _⟩ := I.loc
  ⟨m, hn, I.bk, Nat.le_trans I.ok.bsz I.ok.above⟩
theorem Inv.lt (I : Inv X pins σ H s) : X.env.locals < s.heap.objs.size := let ⟨_, hn, _⟩ := I.loc; hn.lt
theorem Inv.sz (I : Inv X pins σ H s) : X.s₀.heap.objs.size ≤ s.heap.objs.size := Nat.le_trans I.ok.above (Nat.le_of_lt I.lt)
theorem Inv.nofs (I : Inv X pins σ H s) {a : Addr} (h : s.heap.objs.size ≤ a) : a ∉ X.fs := fun hb => by
  obtain ⟨_, o, ho, _⟩ := I.ok.funs.mem hb
  exact absurd (Nat.lt_of_lt_of_le (Heap.lt_size ho) (Nat.le_trans I.sz h)) (Nat.lt_irrefl _)
theorem Inv.cne (I : Inv X pins σ H s) : ∀ x c, X.env.cells.lookup x = some c → c ≠ X.env.locals := fun x c e z => by
  obtain ⟨v, o, ho, hd⟩ := I.cell x c e
  obtain ⟨m, ⟨o', es, ep, ho', hd', _⟩, _⟩ := I.loc
  rw [z, ho'] at ho; cases ho; rw [hd'] at hd; cases hd
theorem Inv.funs (I : Inv X pins σ H s) : s.heap.FunFrames X.base X.outer := by
  have all : ∀ (l : List Env), (∀ b ∈ frs l, b ∈ X.fs) → X.s₀.heap.FunFrames X.base l → s.heap.FunFrames X.base l := by
    intro l
    induction l with
    | nil => intro _ _; trivial
    | cons env r ih =>
      intro hs hl
      obtain ⟨hk, ⟨L, o, hf, hn, ho, hd⟩, hr⟩ := hl
      have hL : L ∈ X.fs := hs L (by unfold frs; rw [List.filterMap_cons, hf]; exact List.mem_cons_self)
      obtain ⟨sl, e⟩ := I.base.slot L o ho (I.ok.frf L hL) hL fun z => I.ok.exfs L z hL
      exact ⟨hk, ⟨L, _, hf, hn, e, hd⟩, ih (fun b hb => hs b (by unfold frs; rw [List.filterMap_cons, hf]; exact List.mem_cons_of_mem _ hb)) hr⟩
  exact all X.outer (fun _ hb => hb) I.ok.funs

/-- the frames that run, for a call -/
theorem Inv.stack (I : Inv X pins σ H s) : s.heap.FunFrames X.base X.stack := by
  rcases I.ok.stk with e | ⟨e, hf⟩
  · rw [e]; exact I.funs
  · rw [e]
    obtain ⟨m, hn, _⟩ := I.loc
    refine .cons (by rw [I.ok.kind]; decide) hf hn ?_ I.funs
    exact Heap.get?_none_of_le (Nat.le_trans I.ok.bsz I.ok.above)
theorem Inv.stkSub (I : Inv X pins σ H s) : ∀ b ∈ frs X.stack, b ∈ X.env.locals :: X.fs := fun b hb => by
  rcases I.ok.stk with e | ⟨e, hf⟩
  · rw [e] at hb; exact List.mem_cons_of_mem _ hb
  · rw [e] at hb
    unfold frs at hb
    rw [List.filterMap_cons, hf] at hb
    exact hb
theorem Inv.stkFree (I : Inv X pins σ H s) : ∀ b ∈ frs X.stack, H b = none := fun b hb => by
  rcases List.mem_cons.mp (I.stkSub b hb) with e | hb
  · rw [e]; exact I.free
  · obtain ⟨_, o, ho, _⟩ := I.ok.funs.mem hb
    exact I.base.free b o ho (I.ok.frf b hb) fun z => I.ok.exfs b z hb

/-- THE STEP: the untracked objects but the frame and the records at ch are kept (the callers' frames up to slots), the frame's map is kept, the new abstract heap is held -/
theorem Inv.step {g' : Array GenState} {t' : Nat} {d' : Drawn} {ch : List Addr} (I : Inv X pins σ H s)
    (hch : ∀ b ∈ ch, (b ∈ X.ex ∨ X.s₀.heap.objs.size ≤ b) ∧ b ≠ X.env.locals ∧ (∀ x c, X.env.cells.lookup x = some c → c ≠ b) ∧ ∀ p ∈ X.pn ++ pins, p.1 ≠ b)
    (keep : ∀ b o, b ≠ X.env.locals → b ∉ X.fs → b ∉ ch → s.heap.get? b = some o → H b = none → h'.get? b = some o)
    (slot : ∀ b o, b ≠ X.env.locals → b ∈ X.fs → b ∉ ch → s.heap.get? b = some o → H b = none → ∃ sl, h'.get? b = some { o with slots := sl }) (free : ∀ b o, b ∉ ch → s.heap.get? b = some o → H b = none → H' b = none)
    (there : ∀ b o, b ∉ ch → s.heap.get? b = some o → ∃ o', h'.get? b = some o')
    (tups : ∀ b xs, H b = some (.tup xs) → H' b = some (.tup xs)) (frzs : ∀ b o u, H b = some (.frz o u) → H' b = some (.frz o u)) (tbls : ∀ b ps, H b = some (.tbl ps) → ∃ more, H' b = some (.tbl (ps ++ more)))
    (ns : ∀ m, s.heap.Ns X.env.locals m → h'.Ns X.env.locals m) (hok : HOk X.prog X.w H' h') (hg : AllBare g') :
    Inv X pins σ H' { s with heap := h', gens := g', drawn := d', toks := t' } := by
  have neL : ∀ b o, X.s₀.heap.get? b = some o → b ≠ X.env.locals := fun b o e => Nat.ne_of_lt (Nat.lt_of_lt_of_le (Heap.lt_size e) I.ok.above)
  have neC : ∀ b o, X.s₀.heap.get? b = some o → b ∉ X.ex → b ∉ ch := fun b o e hx hb => by
    rcases (hch b hb).1 with z | z
    · exact hx z
    · exact absurd (Nat.lt_of_lt_of_le (Heap.lt_size e) z) (Nat.lt_irrefl _)
  have cellK : ∀ x c, X.env.cells.lookup x = some c → ∀ v, s.heap.IsCell c v → h'.IsCell c v := fun x c e v ⟨o, ho, hd⟩ => by
    have nch : c ∉ ch := fun z => (hch c z).2.2.1 x c e rfl
    by_cases hc : c ∈ X.fs
    · obtain ⟨sl, q⟩ := slot c o (I.cne x c e) hc nch ho (I.freeC x c e)
      exact ⟨_, q, hd⟩
    · exact ⟨o, keep c o (I.cne x c e) hc nch ho (I.freeC x c e), hd⟩
  refine ⟨I.ok, I.os, hg, ⟨fun b o e n hb hx => ?_, fun b o e n hb hx => ?_, fun b o e n hx => ?_, fun b o e hx => ?_, fun b xs e => tups b xs (I.base.tups b xs e), fun b o xs e => frzs b o xs (I.base.frzs b o xs e), fun b ps e => ?_⟩, ?_, fun x c e => ?_, ?_, fun x c e => ?_, fun p hp => ?_, hok, I.len⟩
  · exact keep b o (neL b o e) hb (neC b o e hx) (I.base.keep b o e n hb hx) (I.base.free b o e n hx)
  · obtain ⟨sl, e1⟩ := I.base.slot b o e n hb hx
    obtain ⟨sl', e2⟩ := slot b _ (neL b o e) hb (neC b o e hx) e1 (I.base.free b o e n hx)
    exact ⟨sl', e2⟩
  · obtain ⟨o', e1⟩ := I.base.there b o e hx
    exact free b o' (neC b o e hx) e1 (I.base.free b o e n hx)
  · obtain ⟨o', e1⟩ := I.base.there b o e hx
    exact there b o' (neC b o e hx) e1
  · obtain ⟨m1, e1⟩ := I.base.tbls b ps e
    obtain ⟨m2, e2⟩ := tbls b _ e1
    exact ⟨m1 ++ m2, by rw [e2, Array.append_assoc]⟩
  · obtain ⟨m, hn, hl⟩ := I.loc
    refine ⟨m, ns m hn, fun i x v e1 e2 e3 => ?_⟩
    obtain ⟨u, r, l⟩ := hl i x v e1 e2 e3
    refine ⟨u, r, ?_⟩
    rcases l with l | ⟨k, c, e, z⟩
    · exact .inl l
    · exact .inr ⟨k, c, e, cellK x c e _ z⟩
  · obtain ⟨v, z⟩ := I.cell x c e
    exact ⟨v, cellK x c e v z⟩
  · obtain ⟨m, ⟨o, _, _, ho, _⟩, _⟩ := I.loc
    exact free _ o (fun z => (hch _ z).2.1 rfl) ho I.free
  · obtain ⟨v, o, ho, hd⟩ := I.cell x c e
    exact free c o (fun z => (hch c z).2.2.1 x c e rfl) ho (I.freeC x c e)
  · obtain ⟨e, n, ne, nf, d⟩ := I.pin p hp
    have nch : p.1 ∉ ch := fun z => (hch p.1 z).2.2.2 p hp rfl
    exact ⟨keep p.1 p.2 ne nf nch e n, free p.1 p.2 nch e n, ne, nf, d⟩
/-- .. where the frame's own object is kept too -/
theorem Inv.un {t' : Nat} (I : Inv X pins σ H s) (u : Un X.fs [] H H' s.heap h') (hok : HOk X.prog X.w H' h') : Inv X pins σ H' { s with heap := h', toks := t' } := by
  obtain ⟨m, ⟨o, es, ep, ho, r⟩, _⟩ := id I.loc
  obtain ⟨sl, hL⟩ := u.any ho I.free (by simp)
  exact I.step (g' := s.gens) (d' := s.drawn) (ch := []) (fun _ z => nomatch z) (fun b o _ hb _ e n => u.keep b o e n hb (by simp)) (fun b o _ hb _ e n => u.slot b o e n hb (by simp)) (fun b o _ e n => u.free b o e n (by simp)) (fun b o _ e => u.there b o e (by simp)) u.tups u.frzs u.tbls (fun m' hm => by
    obtain ⟨o', es', ep', ho', r'⟩ := hm
    rw [ho] at ho'; cases ho'
    exact ⟨_, es', ep', hL, r'⟩) hok I.bare
/-- behind a call (or a comprehension's block): the slots of this frame may have changed too, the records at ch may have turned -/
theorem Inv.call {g' : Array GenState} {t' : Nat} {d' : Drawn} {ch : List Addr} (I : Inv X pins σ H s) (u : Un (frs X.stack) ch H H' s.heap h') (hok : HOk X.prog X.w H' h') (hg : AllBare g')
    (hch : ∀ b ∈ ch, (b ∈ X.ex ∨ X.s₀.heap.objs.size ≤ b) ∧ b ≠ X.env.locals ∧ (∀ x c, X.env.cells.lookup x = some c → c ≠ b) ∧ ∀ p ∈ X.pn ++ pins, p.1 ≠ b) :
    Inv X pins σ H' { s with heap := h', gens := g', drawn := d', toks := t' } := by
  obtain ⟨m, ⟨o, es, ep, ho, r⟩, _⟩ := id I.loc
  obtain ⟨sl, hL⟩ := u.any ho I.free fun z => (hch _ z).2.1 rfl
  exact I.step (ch := ch) hch (fun b o hL hb hc e n => u.keep b o e n (fun z => (List.mem_cons.mp (I.stkSub b z)).elim hL hb) hc) (fun b o _ _ hc e n => u.any e n hc) (fun b o hc e n => u.free b o e n hc) (fun b o hc e => u.there b o e hc) u.tups u.frzs u.tbls (fun m' hm => by
    obtain ⟨o', es', ep', ho', r'⟩ := hm
    rw [ho] at ho'; cases ho'
    exact ⟨_, es', ep', hL, r'⟩) hok hg
/-- an untracked record of ours (an iterator) has turned -/
theorem Inv.turned {t' : Nat} {it : Addr} (I : Inv X pins σ H s) (k : ∀ b o, b ≠ it → s.heap.get? b = some o → h'.get? b = some o) (hn : H it = none) (hL : it ≠ X.env.locals)
    (h1 : it ∈ X.ex ∨ X.s₀.heap.objs.size ≤ it) (h2 : ∀ x c, X.env.cells.lookup x = some c → c ≠ it) (h3 : ∀ p ∈ X.pn ++ pins, p.1 ≠ it) : Inv X pins σ H { s with heap := h', toks := t' } := by
  have nit : ∀ b u, H b = some u → b ≠ it := fun b u e z => by rw [z, hn] at e; cases e
  refine I.step (g' := s.gens) (d' := s.drawn) (ch := [it]) (fun b hb => ?_) (fun b o _ _ hc e _ => k b o (fun z => hc (by simp [z])) e) (fun b o _ _ hc e _ => ⟨o.slots, k b o (fun z => hc (by simp [z])) e⟩) (fun _ _ _ _ n => n)
    (fun b o hc e => ⟨o, k b o (fun z => hc (by simp [z])) e⟩) (fun _ _ e => e) (fun _ _ _ e => e) (fun b ps e => ⟨#[], by rw [e]; simp⟩) (fun m hm => ?_) (fun b u e => ?_) I.bare
  · have e : b = it := by simpa using hb
    subst e
    exact ⟨h1, hL, h2, h3⟩
  · obtain ⟨o, es, ep, ho, r⟩ := hm
    exact ⟨o, es, ep, k _ o (Ne.symm hL) ho, r⟩
  · refine (I.hok b u e).stay (fun c v hc q => k c v ?_ q) (fun _ q => q) fun _ _ q => q
    rcases hc with z | z
    · rw [z]; exact nit b u e
    · exact nit c _ z
theorem Inv.tok (I : Inv X pins σ H s) (t : Nat) : Inv X pins σ H { s with toks := t } := I.un (h' := s.heap) (t' := t) Un.refl I.hok
/-- all objects kept -/
theorem Inv.kept {t' : Nat} (I : Inv X pins σ H s) (k : ∀ b u, s.heap.get? b = some u → h'.get? b = some u) : Inv X pins σ H { s with heap := h', toks := t' } := I.un (Un.kept k) (I.hok.kept k)
/-- a new object laid and tracked -/
theorem Inv.laid {a : Addr} {o : HO} {t' : Nat} (I : Inv X pins σ H s) (k : ∀ b u, s.heap.get? b = some u → h'.get? b = some u) (hp : s.heap.objs.size ≤ a) (new : ObjOk X.prog X.w (upd H a o) h' a o) :
    Inv X pins σ (upd H a o) { s with heap := h', toks := t' } := I.un (Un.laid k hp (I.hok.fresh hp)) (I.hok.laid k hp new)
/-- an object written -/
theorem Inv.write {x e : Addr} {o : HO} {t' : Nat} (I : Inv X pins σ H s) (mu : Mut (H x)) (he : e = x ∨ H e = some (.own x)) (k : ∀ b u, b ≠ e → s.heap.get? b = some u → h'.get? b = some u) (heo : ∃ u, h'.get? e = some u)
    (new : ObjOk X.prog X.w (upd H x o) h' x o) : Inv X pins σ (upd H x o) { s with heap := h', toks := t' } := I.un (Un.write mu he k heo) (I.hok.write mu he k heo new)
/-- forgetting slots, pins -/
theorem Inv.weak {σ' : List (Option V)} (I : Inv X pins σ H s) (hl : σ'.length = σ.length) (w : ∀ (i : Nat) v, σ'[i]? = some (some v) → σ[i]? = some (some v)) : Inv X pins σ' H s :=
  ⟨I.ok, I.os, I.bare, I.base, let ⟨m, hn, hl'⟩ := I.loc; ⟨m, hn, fun i x v e1 e2 e3 => hl' i x v e1 (w i v e2) e3⟩, I.cell, I.free, I.freeC, I.pin, I.hok, hl.trans I.len⟩
theorem Inv.pins_of {pins' : List (Addr × Obj)} (I : Inv X pins σ H s) (h : ∀ p ∈ pins', s.heap.get? p.1 = some p.2 ∧ H p.1 = none ∧ p.1 ≠ X.env.locals ∧ p.1 ∉ X.fs ∧ ∀ v, p.2.data ≠ .cell v) : Inv X pins' σ H s :=
  ⟨I.ok, I.os, I.bare, I.base, I.loc, I.cell, I.free, I.freeC, fun p hp => (List.mem_append.mp hp).elim (fun z => I.pin p (List.mem_append_left _ z)) (h p), I.hok, I.len⟩

theorem nodup_ix {N : List Str} (hN : N.Nodup) {i j : Nat} {x : Str} (a : N[i]? = some x) (b : N[j]? = some x) : i = j := by
  obtain ⟨h1, e1⟩ := List.getElem?_eq_some_iff.mp a
  obtain ⟨h2, e2⟩ := List.getElem?_eq_some_iff.mp b
  exact (List.getElem_inj hN).mp (e1.trans e2.symm)

/-- a name is stored; what changed -/
theorem store_ok2 {M : Model} {A : Around} {E : Value → Shared → Prop} {i : Nat} {x : Str} {v : V} {u : Value} {Q : Unit → Shared → Prop} (I : Inv X pins σ H s) (hN : X.N.Nodup) (hi : X.N[i]? = some x) (hx : Loc X.env.scope x) (r : RelV v u)
    (h : ∀ s', Inv X pins (σ.set i (some v)) H s' → (∃ a, Heap.SameBut a s.heap s'.heap ∧ (a = X.env.locals ∨ X.env.cells.lookup x = some a)) → Q () s') (hf : X.fn x = true ∨ X.env.scope.names.lookup x = some .local := by first | exact .inl rfl | exact .inr rfl | assumption) : wpAny M A (storeName X.env x u) Q E s := by
  obtain ⟨m, hn, hl⟩ := id I.loc
  have hcls : (X.env.scope.kind == .class || (X.env.scope.kind == .module && X.env.locals != X.env.globals)) = false := by rw [I.ok.kind]; rfl
  have hiσ : i < σ.length := by rw [I.len]; exact (List.getElem?_eq_some_iff.mp hi).1
  have cne := I.cne
  have tracked : ∀ {a : Addr} {h' : Heap}, (∃ o, s.heap.get? a = some o ∧ H a = none) → Heap.SameBut a s.heap h' → HOk X.prog X.w H h' := fun {a h'} ha hs b ob e => by
    obtain ⟨_, _, hfree⟩ := ha
    refine (I.hok b ob e).stay (fun c w' hc q => (hs.2 c ?_).trans q) (fun _ q => q) fun _ _ q => q
    rintro rfl
    rcases hc with rfl | hc
    · rw [hfree] at e; cases e
    · rw [hfree] at hc; cases hc
  rcases hx with hk | hk
  · refine wpAny_storeName_local hk hn (fun h' hn' hs => ?_) hcls
    obtain ⟨oL, _, _, hoL, _⟩ := id hn
    refine h _ ⟨I.ok, I.os, I.bare, ⟨fun b o e n hb hx => ?_, fun b o e n hb hx => ?_, I.base.free, fun b o e hx => ?_, I.base.tups, I.base.frzs, I.base.tbls⟩, ⟨_, hn', fun j y v' e1 e2 e3 => ?_⟩, fun y c e => ?_, I.free, I.freeC, fun p hp => ?_, tracked ⟨oL, hoL, I.free⟩ hs, by simpa using I.len⟩ ⟨_, hs, .inl rfl⟩
    · exact (hs.2 b (Nat.ne_of_lt (Nat.lt_of_lt_of_le (Heap.lt_size e) I.ok.above))).trans (I.base.keep b o e n hb hx)
    · obtain ⟨sl, e1⟩ := I.base.slot b o e n hb hx
      exact ⟨sl, (hs.2 b (Nat.ne_of_lt (Nat.lt_of_lt_of_le (Heap.lt_size e) I.ok.above))).trans e1⟩
    · obtain ⟨o', e1⟩ := I.base.there b o e hx
      exact ⟨o', (hs.2 b (Nat.ne_of_lt (Nat.lt_of_lt_of_le (Heap.lt_size e) I.ok.above))).trans e1⟩
    · by_cases hj : j = i
      · subst hj
        rw [hi] at e1; cases e1
        rw [List.getElem?_set_self hiσ] at e2
        cases e2
        exact ⟨u, r, .inl ⟨hk, by simp⟩⟩
      · rw [List.getElem?_set_ne (Ne.symm hj)] at e2
        obtain ⟨u', r', q⟩ := hl j y v' e1 e2 e3
        refine ⟨u', r', ?_⟩
        rcases q with ⟨k, e⟩ | ⟨k, c, e, z⟩
        · refine .inl ⟨k, ?_⟩
          have : y ≠ x := fun e => hj (nodup_ix hN e1 (e ▸ hi))
          simp [this, e]
        · exact .inr ⟨k, c, e, z.sameBut hs (cne y c e)⟩
    · obtain ⟨w', z⟩ := I.cell y c e
      exact ⟨w', z.sameBut hs (cne y c e)⟩
    · obtain ⟨e, n, ne, nf, d⟩ := I.pin p hp
      exact ⟨(hs.2 p.1 ne).trans e, n, ne, nf, d⟩
  · have hfn : X.fn x = true := by
      rcases hf with z | z
      · exact z
      · rw [z] at hk; cases hk
    obtain ⟨c, hc⟩ := I.ok.has x (.inl hk)
    obtain ⟨w', z⟩ := I.cell x c hc
    refine wpAny_storeName_cell I.ok.kind hk hc z (fun h' hc' hs => ?_)
    obtain ⟨oc, hoc, hocd⟩ := id z
    refine h { s with heap := h' } ⟨I.ok, I.os, I.bare, ⟨fun b o e n hb hx => ?_, fun b o e n hb hx => ?_, I.base.free, fun b o e hx => ?_, I.base.tups, I.base.frzs, I.base.tbls⟩, ⟨m, hn.sameBut hs (Ne.symm (cne x c hc)), fun j y v' e1 e2 e3 => ?_⟩, fun y c' e => ?_, I.free, I.freeC, fun p hp => ?_, tracked ⟨oc, hoc, I.freeC x c hc⟩ hs, by simpa using I.len⟩ ⟨c, hs, .inr hc⟩
    · exact (hs.2 b (Nat.ne_of_lt (Nat.lt_of_lt_of_le (Heap.lt_size e) (I.ok.cab x c hfn hc)))).trans (I.base.keep b o e n hb hx)
    · obtain ⟨sl, e1⟩ := I.base.slot b o e n hb hx
      exact ⟨sl, (hs.2 b (Nat.ne_of_lt (Nat.lt_of_lt_of_le (Heap.lt_size e) (I.ok.cab x c hfn hc)))).trans e1⟩
    · obtain ⟨o', e1⟩ := I.base.there b o e hx
      exact ⟨o', (hs.2 b (Nat.ne_of_lt (Nat.lt_of_lt_of_le (Heap.lt_size e) (I.ok.cab x c hfn hc)))).trans e1⟩
    · by_cases hj : j = i
      · subst hj
        rw [hi] at e1; cases e1
        rw [List.getElem?_set_self hiσ] at e2
        cases e2
        exact ⟨u, r, .inr ⟨.inl hk, c, hc, hc'⟩⟩
      · rw [List.getElem?_set_ne (Ne.symm hj)] at e2
        obtain ⟨u', r', q⟩ := hl j y v' e1 e2 e3
        refine ⟨u', r', ?_⟩
        rcases q with q | ⟨k, c', e, z'⟩
        · exact .inl q
        · refine .inr ⟨k, c', e, z'.sameBut hs ?_⟩
          rintro rfl
          exact hj (nodup_ix hN e1 (I.ok.inj _ _ _ e hc ▸ hi))
    · by_cases hcc : c' = c
      · subst hcc; exact ⟨_, hc'⟩
      · obtain ⟨w2, z2⟩ := I.cell y c' e
        exact ⟨w2, z2.sameBut hs hcc⟩
    · obtain ⟨e, n, ne, nf, d⟩ := I.pin p hp
      refine ⟨(hs.2 p.1 ?_).trans e, n, ne, nf, d⟩
      intro q
      rw [q, hoc] at e
      have q' : oc = p.2 := Option.some.inj e
      exact d w' (by rw [← q']; exact hocd)
theorem store_ok {M : Model} {A : Around} {E : Value → Shared → Prop} {i : Nat} {x : Str} {v : V} {u : Value} {Q : Unit → Shared → Prop} (I : Inv X pins σ H s) (hN : X.N.Nodup) (hi : X.N[i]? = some x) (hx : Loc X.env.scope x) (r : RelV v u)
    (h : ∀ s', Inv X pins (σ.set i (some v)) H s' → Q () s') (hf : X.fn x = true ∨ X.env.scope.names.lookup x = some .local := by first | exact .inl rfl | exact .inr rfl | assumption) : wpAny M A (storeName X.env x u) Q E s :=
  store_ok2 I hN hi hx r (fun s' I' _ => h s' I') hf
/-- behind a call or a block, the state as it is -/
theorem Inv.call' {s' : Shared} {ch : List Addr} (I : Inv X pins σ H s) (ho : s'.os = s.os) (u : Un (frs X.stack) ch H H' s.heap s'.heap) (hok : HOk X.prog X.w H' s'.heap) (hg : AllBare s'.gens)
    (hch : ∀ b ∈ ch, (b ∈ X.ex ∨ X.s₀.heap.objs.size ≤ b) ∧ b ≠ X.env.locals ∧ (∀ x c, X.env.cells.lookup x = some c → c ≠ b) ∧ ∀ p ∈ X.pn ++ pins, p.1 ≠ b) : Inv X pins σ H' s' := by
  obtain ⟨h', g', d', t', o'⟩ := s'
  have e : o' = s.os := ho
  subst e
  exact I.call (g' := g') (t' := t') (d' := d') u hok hg hch
end

/-! ### the judgements -/
/-- an exception: its class, its own dict's address (where it has one), the abstract heap behind it -/
abbrev XK := Value → Option Addr → Hp → Prop
abbrev St := List (Option V)
abbrev VK := V → Hp → Prop
/-- an expression's reading; a test's; an argument list's -/
abbrev TE := St → Hp → VK → Prop
abbrev TT := St → Hp → (Bool → Hp → Prop) → Prop
abbrev TA := St → Hp → (List V → Hp → Prop) → Prop
/-- what is wanted behind a statement -/
structure Ends where
  nx : St → Hp → Prop
  rt : VK
  bk : St → Hp → Prop := fun _ _ => False
  ct : St → Hp → Prop := fun _ _ => False
abbrev TS := Ends → St → Hp → Prop

def EP (X : Cx) (pins : List (Addr × Obj)) (σ : St) (Q : VK) (u : Value) (s' : Shared) : Prop := ∃ v H', Inv X pins σ H' s' ∧ RelV v u ∧ Q v H'
def TP (X : Cx) (pins : List (Addr × Obj)) (σ : St) (Q : Bool → Hp → Prop) (b : Bool) (s' : Shared) : Prop := ∃ H', Inv X pins σ H' s' ∧ Q b H'
def AP (X : Cx) (pins : List (Addr × Obj)) (σ : St) (Q : List V → Hp → Prop) (us : List Value) (s' : Shared) : Prop := ∃ vs H', Inv X pins σ H' s' ∧ Vals vs us ∧ Q vs H'
def SP (X : Cx) (pins : List (Addr × Obj)) (D : Ends) (f : Flow) (s' : Shared) : Prop :=
  match f with
  | .next => ∃ σ' H', Inv X pins σ' H' s' ∧ D.nx σ' H'
  | .brk => ∃ σ' H', Inv X pins σ' H' s' ∧ D.bk σ' H'
  | .cont => ∃ σ' H', Inv X pins σ' H' s' ∧ D.ct σ' H'
  | .ret u => ∃ v σ' H', Inv X pins σ' H' s' ∧ RelV v u ∧ D.rt v H'

def PE (X : Cx) (e : Expr) (t : TE) : Prop :=
  ∀ (pins : List (Addr × Obj)) (s : Shared) (σ : St) (H : Hp) (Q : VK), Inv X pins σ H s → t σ H Q → wpAny (model X.prog X.w) X.A (eval e X.env) (EP X pins σ Q) X.xe s
def PT (X : Cx) (e : Expr) (t : TT) : Prop :=
  ∀ (pins : List (Addr × Obj)) (s : Shared) (σ : St) (H : Hp) (Q : Bool → Hp → Prop), Inv X pins σ H s → t σ H Q → wpAny (model X.prog X.w) X.A (isTrue e X.env (eval e X.env)) (TP X pins σ Q) X.xe s
/-- a test whatever its 'whole' is (and, or) -/
def PW (X : Cx) (e : Expr) (t : TT) : Prop :=
  ∀ (whole : Sem Value) (pins : List (Addr × Obj)) (s : Shared) (σ : St) (H : Hp) (Q : Bool → Hp → Prop), Inv X pins σ H s → t σ H Q → wpAny (model X.prog X.w) X.A (isTrue e X.env whole) (TP X pins σ Q) X.xe s
theorem PW.pt {X : Cx} {e : Expr} {t : TT} (h : PW X e t) : PT X e t := h _
/-- an argument list (no star), from the left -/
def PA (X : Cx) (es : List Expr) (t : TA) : Prop :=
  ∀ (pos : Pos) (pins : List (Addr × Obj)) (s : Shared) (σ : St) (H : Hp) (Q : List V → Hp → Prop), Inv X pins σ H s → t σ H Q → wpAny (model X.prog X.w) X.A (spliced (backTo pos (starEach es X.env))) (AP X pins σ Q) X.xe s
def PS (X : Cx) (st : Stmt) (t : TS) : Prop :=
  ∀ (pins : List (Addr × Obj)) (s : Shared) (σ : St) (H : Hp) (D : Ends), Inv X pins σ H s → t D σ H → wpAny (model X.prog X.w) X.A (exec st X.env) (SP X pins D) X.xe s
def PSs (X : Cx) (st : List Stmt) (t : TS) : Prop :=
  ∀ (pins : List (Addr × Obj)) (s : Shared) (σ : St) (H : Hp) (D : Ends), Inv X pins σ H s → t D σ H → wpAny (model X.prog X.w) X.A (execs st X.env) (SP X pins D) X.xe s
/-- weaken the end -/
theorem thn {α : Type} {t : Sem α} {Q Q' : α → Shared → Prop} {M : Model} {A : Around} {E : Value → Shared → Prop} {s : Shared} (h : wpAny M A t Q E s) (hQ : ∀ a s, Q a s → Q' a s) : wpAny M A t Q' E s := wpAny_mono h hQ fun _ _ x => x
end L2

namespace L2
open PySem PySem.Spec PyProof.Rows
section
variable {X : Cx}

/-- two expressions in a row -/
theorem bin {a b : Expr} {ta tb : TE} (ha : PE X a ta) (hb : PE X b tb) {pins : List (Addr × Obj)} {s : Shared} {σ : St} {H : Hp} {R : V → V → Hp → Prop} (I : Inv X pins σ H s) (h : ta σ H fun x H1 => tb σ H1 fun y H2 => R x y H2)
    {α : Type} {Q : α → Shared → Prop} {f : Value → Value → Sem α}
    (hf : ∀ v u s2 x y H2, Inv X pins σ H2 s2 → RelV x v → RelV y u → R x y H2 → wpAny (model X.prog X.w) X.A (f v u) Q X.xe s2) :
    wpAny (model X.prog X.w) X.A (eval a X.env) (fun v s₁ => wpAny (model X.prog X.w) X.A (eval b X.env) (fun u s₂ => wpAny (model X.prog X.w) X.A (f v u) Q X.xe s₂) X.xe s₁) X.xe s := by
  refine thn (ha pins s σ H _ I h) fun v s1 ⟨x, H1, I1, r1, q1⟩ => ?_
  refine thn (hb pins s1 σ H1 _ I1 q1) fun u s2 ⟨y, H2, I2, r2, q2⟩ => ?_
  exact hf v u s2 x y H2 I2 r1 r2 q2

/-! ### names and constants -/
def tVar (i : Nat) : TE := fun σ H Q => ∃ v, σ[i]? = some (some v) ∧ Q v H
def tC (v : V) : TE := fun _ H Q => Q v H
theorem pe_var {i : Nat} {x : Str} {pos : Pos} (hN : X.N[i]? = some x) (hv : Vis X.env.scope x) (hd : (x == ("__debug__" : Str)) = false := by decide) (hcd : (x == ("__classdict__" : Str)) = false := by decide) : PE X (.Name x pos) (tVar i) := by
  intro pins s σ H Q I h
  obtain ⟨v, e, h⟩ := h
  obtain ⟨m, hn, hl⟩ := I.loc
  obtain ⟨u, r, l⟩ := hl i x v hN e hv
  have fin : EP X pins σ Q u s := ⟨v, H, I, r, h⟩
  rcases l with ⟨hk, hm⟩ | ⟨hk, c, hc, hcell⟩
  · exact wpAny_Name (wpAny_loadName_local I.ok.kind hk hn hm fin) hd
  · rcases hk with hk | hk
    · exact wpAny_Name (wpAny_loadName_cell I.ok.kind hk hc hcell fin) hd
    · exact wpAny_Name (wpAny_loadName_free I.ok.kind hk hc hcell fin hcd) hd
theorem pe_int {i j pos} : PE X (.Constant (.int i) j pos) (tC (.int i)) := fun _ _ _ H _ I h => wpAny_Constant_int ⟨.int i, H, I.tok _, ⟨_, rfl⟩, h⟩
theorem pe_bl {b j pos} : PE X (.Constant (.bool b) j pos) (tC (.bl b)) := fun _ _ _ H _ I h => Constant_bool ⟨.bl b, H, I, rfl, h⟩
theorem pe_non {j pos} : PE X (.Constant .none j pos) (tC .non) := fun _ _ _ H _ I h => Constant_none ⟨.non, H, I, rfl, h⟩
theorem pe_str {x j pos} : PE X (.Constant (.str x) j pos) (tC (.str x)) := fun _ _ _ H _ I h => Calls.Constant_str ⟨.str x, H, I.tok _, ⟨_, rfl⟩, h⟩

/-- a global name of the def -/
def Gl (X : Cx) (x : Str) : Prop := X.env.kindOf x = some .globalImplicit
theorem ld_glob {E : Value → Shared → Prop} {pins : List (Addr × Obj)} {s : Shared} {σ : St} {H : Hp} {x : Str} {u : Value} {pos : Pos} {Q : Value → Shared → Prop} (I : Inv X pins σ H s) (hg : Gl X x) (hm : X.mg x = some u) (h : Q u s)
    (hd : (x == ("__debug__" : Str)) = false := by decide) : wpAny (model X.prog X.w) X.A (eval (.Name x pos) X.env) Q E s :=
  Calls.Name_function_global I.ok.kind hg (Calls.loadGlobal_global (by rw [I.ok.glob]; exact I.mod.glob.keeps I.bk) hm h) hd
theorem ld_blt {E : Value → Shared → Prop} {pins : List (Addr × Obj)} {s : Shared} {σ : St} {H : Hp} {x : Str} {u : Value} {pos : Pos} {Q : Value → Shared → Prop} (I : Inv X pins σ H s) (hg : Gl X x) (hm : X.mg x = none) (hv : bootBuiltins x = some u) (h : Q u s)
    (hn : x ≠ "__name__" := by decide) (hd : (x == ("__debug__" : Str)) = false := by decide) : wpAny (model X.prog X.w) X.A (eval (.Name x pos) X.env) Q E s := by
  obtain ⟨mb, h1, h2⟩ := I.mod.blt
  exact Calls.Name_function_global I.ok.kind hg (Calls.loadGlobal_builtin (by rw [I.ok.glob]; exact I.mod.glob.keeps I.bk) hm (by rw [I.ok.blt]; exact h1.keeps I.bk) ((h2 x hn).trans hv) h) hd
/-- a module's constant, a class, a function, as a value -/
theorem pe_glob {x : Str} {v : V} {u : Value} {pos : Pos} (hg : Gl X x) (hm : X.mg x = some u) (r : RelV v u) (hd : (x == ("__debug__" : Str)) = false := by decide) : PE X (.Name x pos) (tC v) :=
  fun _ _ _ H _ I h => ld_glob I hg hm ⟨v, H, I, r, h⟩ hd
theorem pe_bltn {x : Str} {v : V} {u : Value} {pos : Pos} (hg : Gl X x) (hm : X.mg x = none) (hv : bootBuiltins x = some u) (r : RelV v u) (hn : x ≠ "__name__" := by decide) (hd : (x == ("__debug__" : Str)) = false := by decide) : PE X (.Name x pos) (tC v) :=
  fun _ _ _ H _ I h => ld_blt I hg hm hv ⟨v, H, I, r, h⟩ hn hd

/-! ### arithmetic -/
/-- two ints -/
def t2I (ta tb : TE) (k : Int → Int → Hp → Prop) : St → Hp → Prop := fun σ H => ta σ H fun x H1 => tb σ H1 fun y H2 => ∃ i j, x = .int i ∧ y = .int j ∧ k i j H2
def tAdd (ta tb : TE) : TE := fun σ H Q => t2I ta tb (fun i j H2 => Q (.int (i + j)) H2) σ H
def tSub (ta tb : TE) : TE := fun σ H Q => t2I ta tb (fun i j H2 => Q (.int (i - j)) H2) σ H
/-- the left factor below 2^64 -/
def tMul (ta tb : TE) : TE := fun σ H Q => t2I ta tb (fun i j H2 => (-(2 ^ 64) < i ∧ i < 2 ^ 64) ∧ Q (.int (i * j)) H2) σ H
variable {a b : Expr} {ta tb : TE} {pos : Pos}
theorem pe_add (ha : PE X a ta) (hb : PE X b tb) : PE X (.BinOp a .Add b pos) (tAdd ta tb) := by
  intro pins s σ H Q I h
  refine wpAny_BinOp (bin ha hb I h fun v u s2 x y H2 I2 rx ry q => ?_)
  obtain ⟨i, j, rfl, rfl, q⟩ := q
  obtain ⟨t, rfl⟩ := rx
  obtain ⟨t', rfl⟩ := ry
  exact add_int ⟨.int _, H2, I2.tok _, ⟨_, rfl⟩, q⟩
theorem pe_sub (ha : PE X a ta) (hb : PE X b tb) : PE X (.BinOp a .Sub b pos) (tSub ta tb) := by
  intro pins s σ H Q I h
  refine wpAny_BinOp (bin ha hb I h fun v u s2 x y H2 I2 rx ry q => ?_)
  obtain ⟨i, j, rfl, rfl, q⟩ := q
  obtain ⟨t, rfl⟩ := rx
  obtain ⟨t', rfl⟩ := ry
  exact sub_int ⟨.int _, H2, I2.tok _, ⟨_, rfl⟩, q⟩
theorem pe_mul (ha : PE X a ta) (hb : PE X b tb) : PE X (.BinOp a .Mult b pos) (tMul ta tb) := by
  intro pins s σ H Q I h
  refine wpAny_BinOp (bin ha hb I h fun v u s2 x y H2 I2 rx ry q => ?_)
  obtain ⟨i, j, rfl, rfl, ⟨q1, q2⟩, q⟩ := q
  obtain ⟨t, rfl⟩ := rx
  obtain ⟨t', rfl⟩ := ry
  exact mul_int ⟨.int _, H2, I2.tok _, ⟨_, rfl⟩, q⟩ (.of_left (intBits_le_64 q1 q2))

/-! ### comparisons -/
def PC (X : Cx) (op : CmpOp) (a b : Expr) (t : TE) : Prop :=
  ∀ (pins : List (Addr × Obj)) (s : Shared) (σ : St) (H : Hp) (Q : VK), Inv X pins σ H s → t σ H Q →
    wpAny (model X.prog X.w) X.A (eval a X.env) (fun v s₁ => wpAny (model X.prog X.w) X.A (eval b X.env) (fun u s₂ => wpAny (model X.prog X.w) X.A (compareOp op v u) (EP X pins σ Q) X.xe s₂) X.xe s₁) X.xe s
theorem nobehind (b : Expr) {op : CmpOp} (h : op ≠ .In) (h2 : op ≠ .NotIn) : behindInMarks op b = false := by
  have e1 : (op == CmpOp.In) = false := by cases op <;> first | rfl | exact absurd rfl h
  have e2 : (op == CmpOp.NotIn) = false := by cases op <;> first | rfl | exact absurd rfl h2
  cases b <;> simp [behindInMarks, e1, e2]
def tCmp (p : Int → Int → Bool) (ta tb : TE) : TE := fun σ H Q => t2I ta tb (fun i j H2 => Q (.bl (p i j)) H2) σ H
abbrev tLt : TE → TE → TE := tCmp fun i j => decide (i < j)
abbrev tLe : TE → TE → TE := tCmp fun i j => decide (i ≤ j)
abbrev tGt : TE → TE → TE := tCmp fun i j => decide (j < i)
abbrev tGe : TE → TE → TE := tCmp fun i j => decide (j ≤ i)
abbrev tEqI : TE → TE → TE := tCmp fun i j => decide (i = j)
abbrev tNeI : TE → TE → TE := tCmp fun i j => !decide (i = j)
/-- a comparison of two ints, by its rule -/
theorem pc_int {op : CmpOp} {p : Int → Int → Bool} (ha : PE X a ta) (hb : PE X b tb)
    (rule : ∀ (i j : Int) (t u : Tok) (Q : Value → Shared → Prop) (s : Shared), Q (.bool (p i j)) s → wpAny (model X.prog X.w) X.A (compareOp op (.int i t) (.int j u)) Q X.xe s) : PC X op a b (tCmp p ta tb) := by
  intro pins s σ H Q I h
  refine bin ha hb I h fun v u s2 x y H2 I2 rx ry q => ?_
  obtain ⟨i, j, rfl, rfl, q⟩ := q
  obtain ⟨t, rfl⟩ := rx
  obtain ⟨t', rfl⟩ := ry
  exact rule i j t t' _ s2 ⟨.bl _, H2, I2, rfl, q⟩
theorem pc_lt (ha : PE X a ta) (hb : PE X b tb) : PC X .Lt a b (tLt ta tb) := pc_int ha hb fun _ _ _ _ _ _ h => lt_int h
theorem pc_le (ha : PE X a ta) (hb : PE X b tb) : PC X .LtE a b (tLe ta tb) := pc_int ha hb fun _ _ _ _ _ _ h => le_int h
theorem pc_gt (ha : PE X a ta) (hb : PE X b tb) : PC X .Gt a b (tGt ta tb) := pc_int ha hb fun _ _ _ _ _ _ h => gt_int h
theorem pc_ge (ha : PE X a ta) (hb : PE X b tb) : PC X .GtE a b (tGe ta tb) := pc_int ha hb fun _ _ _ _ _ _ h => ge_int h
theorem pc_eqI (ha : PE X a ta) (hb : PE X b tb) : PC X .Eq a b (tEqI ta tb) := pc_int ha hb fun _ _ _ _ _ _ h => eq_int (by rw [Bool.beq_eq_decide_eq]; exact h)
theorem pc_neI (ha : PE X a ta) (hb : PE X b tb) : PC X .NotEq a b (tNeI ta tb) := pc_int ha hb fun _ _ _ _ _ _ h => ne_int (by rw [bne, Bool.beq_eq_decide_eq]; exact h)
/-- is None -/
def tIsN (ta : TE) : TE := fun σ H Q => ta σ H fun x H1 => Q (.bl (decide (x = .non))) H1
def tNotN (ta : TE) : TE := fun σ H Q => ta σ H fun x H1 => Q (.bl (!decide (x = .non))) H1
theorem RelV.none_iff {x : V} {v : Value} (r : RelV x v) : (v == Value.none) = decide (x = .non) := by
  cases x with
  | non => cases r; rfl
  | bl _ => cases r; rfl
  | int _ => obtain ⟨t, rfl⟩ := r; rfl
  | str _ => obtain ⟨t, rfl⟩ := r; rfl
  | byt _ => obtain ⟨t, rfl⟩ := r; rfl
  | flt _ => obtain ⟨t, rfl⟩ := r; rfl
  | ref _ => cases r; rfl
  | ty _ => cases r; rfl
theorem pc_isN {j pos'} (ha : PE X a ta) : PC X .Is a (.Constant .none j pos') (tIsN ta) := by
  intro pins s σ H Q I h
  refine thn (ha pins s σ H _ I h) fun v s1 ⟨x, H1, I1, r1, q1⟩ => ?_
  exact Constant_none (is_none_gen ⟨.bl _, H1, I1, by rw [r1.none_iff]; rfl, q1⟩)
theorem pc_notN {j pos'} (ha : PE X a ta) : PC X .IsNot a (.Constant .none j pos') (tNotN ta) := by
  intro pins s σ H Q I h
  refine thn (ha pins s σ H _ I h) fun v s1 ⟨x, H1, I1, r1, q1⟩ => ?_
  exact Constant_none (isnot_none_gen ⟨.bl _, H1, I1, by rw [r1.none_iff]; rfl, q1⟩)
/-- a comparison as a value, as a test -/
def tB (t : TE) : TT := fun σ H Q => t σ H fun x H1 => ∃ c, x = .bl c ∧ Q c H1
theorem pe_cmp {op : CmpOp} {t : TE} (h : PC X op a b t) (h1 : behindInMarks op b = false := by first | exact nobehind _ (by decide) (by decide) | rfl) : PE X (.Compare a [op] [b] pos) t := fun pins s σ H Q I hw => wpAny_Compare1 (h pins s σ H Q I hw) h1
theorem pt_cmp {op : CmpOp} {t : TE} (h : PC X op a b t) (h1 : behindInMarks op b = false := by first | exact nobehind _ (by decide) (by decide) | rfl) : PT X (.Compare a [op] [b] pos) (tB t) := by
  intro pins s σ H Q I hw
  refine wpAny_isTrue_Compare1 (thn (h pins s σ H _ I hw) fun v s1 h1 => thn h1 fun u s2 h2 => thn h2 fun c s3 ⟨x, H1, I1, r1, q1⟩ => ?_) h1
  obtain ⟨d, rfl, q⟩ := q1
  cases r1
  exact wpAny_truthy_bool ⟨H1, I1, q⟩
/-- an expression whose value is a bool, as a test -/
theorem pt_val {e : Expr} {t : TE} (h : PE X e t) (he : ∀ whole, isTrue e X.env whole = (do let v ← whole; standAt e.pos; holding [v] (truthy v)) := by intro _; rfl) : PT X e (tB t) := by
  intro pins s σ H Q I hw
  refine isTrue_plain (thn (h pins s σ H _ I hw) fun v s1 ⟨x, H1, I1, r1, q1⟩ => ?_) (he _)
  obtain ⟨d, rfl, q⟩ := q1
  cases r1
  exact wpAny_truthy_bool ⟨H1, I1, q⟩

/-! ### and, or, not -/
variable {tA tB' : TT} {rest : List Expr}
def tAnd (t u : TT) : TT := fun σ H Q => t σ H fun c H1 => if c = true then u σ H1 Q else Q false H1
def tOr (t u : TT) : TT := fun σ H Q => t σ H fun c H1 => if c = true then Q true H1 else u σ H1 Q
def tNot (t : TT) : TT := fun σ H Q => t σ H fun c H1 => Q (!c) H1
theorem pw_and1 (ha : PT X a tA) : PW X (.BoolOp .And [a] pos) tA := by
  intro wh pins s σ H Q I h
  refine isTrue_and (thn (ha pins s σ H Q I h) fun c s1 e => ?_)
  cases c with
  | true => exact isTrue_and_nil e
  | false => exact e
theorem pw_or1 (ha : PT X a tA) : PW X (.BoolOp .Or [a] pos) tA := by
  intro wh pins s σ H Q I h
  refine isTrue_or (thn (ha pins s σ H Q I h) fun c s1 e => ?_)
  cases c with
  | false => exact isTrue_or_nil e
  | true => exact e
theorem pw_and (ha : PT X a tA) (hb : PW X (.BoolOp .And (b :: rest) pos) tB') : PW X (.BoolOp .And (a :: b :: rest) pos) (tAnd tA tB') := by
  intro wh pins s σ H Q I h
  refine isTrue_and (thn (ha pins s σ H _ I h) fun c s1 ⟨H1, I1, q1⟩ => ?_)
  cases c with
  | true => exact hb wh pins s1 σ H1 Q I1 q1
  | false => exact ⟨H1, I1, q1⟩
theorem pw_or (ha : PT X a tA) (hb : PW X (.BoolOp .Or (b :: rest) pos) tB') : PW X (.BoolOp .Or (a :: b :: rest) pos) (tOr tA tB') := by
  intro wh pins s σ H Q I h
  refine isTrue_or (thn (ha pins s σ H _ I h) fun c s1 ⟨H1, I1, q1⟩ => ?_)
  cases c with
  | true => exact ⟨H1, I1, q1⟩
  | false => exact hb wh pins s1 σ H1 Q I1 q1
theorem pt_not (ha : PT X a tA) : PT X (.UnaryOp .Not a pos) (tNot tA) := by
  intro pins s σ H Q I h
  exact isTrue_not (ha pins s σ H (fun c H1 => Q (!c) H1) I h)
/-- .. as values (bools) -/
def tAndV (ta tb : TE) : TE := fun σ H Q => ta σ H fun x H1 => ∃ c, x = .bl c ∧ if c = true then tb σ H1 Q else Q (.bl false) H1
def tOrV (ta tb : TE) : TE := fun σ H Q => ta σ H fun x H1 => ∃ c, x = .bl c ∧ if c = true then Q (.bl true) H1 else tb σ H1 Q
def tNotV (ta : TE) : TE := fun σ H Q => ta σ H fun x H1 => ∃ c, x = .bl c ∧ Q (.bl (!c)) H1
theorem pe_one {op} {t : TE} (h : PE X a t) : PE X (.BoolOp op [a] pos) t := fun pins s σ H Q I hw => BoolOp_one (h pins s σ H Q I hw)
theorem pe_and (ha : PE X a ta) (hb : PE X (.BoolOp .And (b :: rest) pos) tb) : PE X (.BoolOp .And (a :: b :: rest) pos) (tAndV ta tb) := by
  intro pins s σ H Q I h
  refine BoolOp_and (thn (ha pins s σ H _ I h) fun v s1 ⟨x, H1, I1, r1, q1⟩ => ?_)
  obtain ⟨c, rfl, q1⟩ := q1
  cases r1
  refine wpAny_truthy_bool ?_
  cases c with
  | true => exact hb pins s1 σ H1 Q I1 q1
  | false => exact ⟨.bl false, H1, I1, rfl, q1⟩
theorem pe_or (ha : PE X a ta) (hb : PE X (.BoolOp .Or (b :: rest) pos) tb) : PE X (.BoolOp .Or (a :: b :: rest) pos) (tOrV ta tb) := by
  intro pins s σ H Q I h
  refine BoolOp_or (thn (ha pins s σ H _ I h) fun v s1 ⟨x, H1, I1, r1, q1⟩ => ?_)
  obtain ⟨c, rfl, q1⟩ := q1
  cases r1
  refine wpAny_truthy_bool ?_
  cases c with
  | false => exact hb pins s1 σ H1 Q I1 q1
  | true => exact ⟨.bl true, H1, I1, rfl, q1⟩
theorem pe_not (ha : PE X a ta) : PE X (.UnaryOp .Not a pos) (tNotV ta) := by
  intro pins s σ H Q I h
  refine UnaryOp_ (thn (ha pins s σ H _ I h) fun v s1 ⟨x, H1, I1, r1, q1⟩ => ?_)
  obtain ⟨c, rfl, q1⟩ := q1
  cases r1
  exact not_of (wpAny_truthy_bool ⟨.bl (!c), H1, I1, rfl, q1⟩)
/-- a if t else b -/
def tIf (t : TT) (ta tb : TE) : TE := fun σ H Q => t σ H fun c H1 => if c = true then ta σ H1 Q else tb σ H1 Q
theorem pe_ifExp {c : Expr} (hc : PT X c tA) (ha : PE X a ta) (hb : PE X b tb) : PE X (.IfExp c a b pos) (tIf tA ta tb) := by
  intro pins s σ H Q I h
  refine wpAny_IfExp (thn (hc pins s σ H _ I h) fun d s1 ⟨H1, I1, q1⟩ => ?_)
  cases d with
  | true => exact ha pins s1 σ H1 Q I1 q1
  | false => exact hb pins s1 σ H1 Q I1 q1
end
end L2

namespace L2
open PySem PySem.Spec PyProof.Rows

/-! ### a list, a tuple that is read: tracked, frozen, or an object of the module -/
def SqL (K : PySem.W.Frag) (H : Hp) (a : Addr) (xs : List V) : Prop :=
  Rd H a (.lst xs) ∨
    ∃ (o : Obj) (its : Array Value) (n : Nat), K.lookup a = some o ∧ o.cls = .type "list" ∧ o.dict = none ∧ o.data = .seq its n ∧ its.size ≤ sizeLine ∧ Vals xs its.toList
def SqT (K : PySem.W.Frag) (H : Hp) (a : Addr) (xs : List V) : Prop :=
  Rd H a (.tup xs) ∨
    ∃ (o : Obj) (its : Array Value) (n : Nat), K.lookup a = some o ∧ o.cls = .type "tuple" ∧ o.data = .seq its n ∧ its.size ≤ sizeLine ∧ Vals xs its.toList
def absV : Value → Option V
  | .none => some .non
  | .bool b => some (.bl b)
  | .int i _ => some (.int i)
  | .str x _ => some (.str x)
  | .bytes b _ => some (.byt b)
  | .float b _ => some (.flt b)
  | .ref a => some (.ref a)
  | .type n => some (.ty n)
  | _ => none
theorem RelV.abs {x : V} {u : Value} (r : RelV x u) : absV u = some x := by
  cases x with
  | non => cases r; rfl
  | bl _ => cases r; rfl
  | int _ => obtain ⟨t, rfl⟩ := r; rfl
  | str _ => obtain ⟨t, rfl⟩ := r; rfl
  | byt _ => obtain ⟨t, rfl⟩ := r; rfl
  | flt _ => obtain ⟨t, rfl⟩ := r; rfl
  | ref _ => cases r; rfl
  | ty _ => cases r; rfl
theorem RelV.inj {x y : V} {u : Value} (r : RelV x u) (q : RelV y u) : x = y := Option.some.inj (r.abs.symm.trans q.abs)
theorem Vals.inj : ∀ {xs ys : List V} {us : List Value}, Vals xs us → Vals ys us → xs = ys
  | _, _, _, .nil, .nil => rfl
  | _, _, _, .cons r t, .cons r' t' => by rw [r.inj r', Vals.inj t t']
section
variable {X : Cx} {pins : List (Addr × Obj)} {σ : St} {H : Hp} {s : Shared} {a : Addr} {xs ys : List V}
theorem SqL.of {K : PySem.W.Frag} (h : H a = some (.lst xs)) : SqL K H a xs := .inl (.inl h)
theorem SqT.of {K : PySem.W.Frag} (h : H a = some (.tup xs)) : SqT K H a xs := .inl (.inl h)
theorem Inv.list (I : Inv X pins σ H s) (h : SqL X.K H a xs) : ∃ its : List Value, Vals xs its ∧ PlainL s.heap a its.toArray ∧ xs.length ≤ sizeLine := by
  rcases h with h | ⟨o, its, n, hk, hc, hd, hs, hz, r⟩
  · obtain ⟨z, its, n, r, e⟩ := h.ok I.hok
    exact ⟨its, r, ⟨_, n, e, rfl, rfl, rfl⟩, z⟩
  · refine ⟨its.toList, r, ⟨o, n, I.kIn a o hk, hc, hd, by simpa using hs⟩, ?_⟩
    have e := r.length
    simp only [Array.length_toList] at e
    omega
theorem Inv.tuple (I : Inv X pins σ H s) (h : SqT X.K H a xs) : ∃ its : List Value, Vals xs its ∧ IsTup s.heap a its.toArray ∧ xs.length ≤ sizeLine := by
  rcases h with h | ⟨o, its, n, hk, hc, hs, hz, r⟩
  · obtain ⟨z, its, r, p⟩ := h.ok I.hok
    exact ⟨its, r, p, z⟩
  · refine ⟨its.toList, r, ⟨o, I.kIn a o hk, hc, n, by simpa using hs⟩, ?_⟩
    have e := r.length
    simp only [Array.length_toList] at e
    omega
theorem Inv.list_inj (I : Inv X pins σ H s) (h : SqL X.K H a xs) (h' : SqL X.K H a ys) : xs = ys := by
  obtain ⟨its, r, ⟨o, n, e, _, _, d⟩, _⟩ := I.list h
  obtain ⟨its', r', ⟨o', n', e', _, _, d'⟩, _⟩ := I.list h'
  rw [e] at e'; cases e'
  rw [d] at d'
  injection d' with d1 _
  have : its = its' := by simpa using congrArg Array.toList d1
  subst this
  exact r.inj r'
theorem Inv.tuple_inj (I : Inv X pins σ H s) (h : SqT X.K H a xs) (h' : SqT X.K H a ys) : xs = ys := by
  obtain ⟨its, r, ⟨o, e, _, n, d⟩, _⟩ := I.tuple h
  obtain ⟨its', r', ⟨o', e', _, n', d'⟩, _⟩ := I.tuple h'
  rw [e] at e'; cases e'
  rw [d] at d'
  injection d' with d1 _
  have : its = its' := by simpa using congrArg Array.toList d1
  subst this
  exact r.inj r'
end

/-! ### another wish about exceptions -/
abbrev Cx.wish (X : Cx) (E : Value → Shared → Prop) : Cx := { X with xe := E }
/-- no exception leaves -/
abbrev Cx.nox (X : Cx) : Cx := X.wish fun _ _ => False
theorem Cx.Ok.wish {X : Cx} (ok : X.Ok) (E : Value → Shared → Prop) : (X.wish E).Ok :=
  ⟨ok.mod, ok.kind, ok.glob, ok.blt, ok.above, ok.inj, ok.has, ok.cab, ok.hd, ok.frames, ok.stk, ok.exf, ok.bs, ok.bsz, ok.noex, ok.exfs, ok.funs, ok.frf⟩
theorem Cx.Ok.unwish {X : Cx} {E : Value → Shared → Prop} (ok : (X.wish E).Ok) : X.Ok :=
  ⟨ok.mod, ok.kind, ok.glob, ok.blt, ok.above, ok.inj, ok.has, ok.cab, ok.hd, ok.frames, ok.stk, ok.exf, ok.bs, ok.bsz, ok.noex, ok.exfs, ok.funs, ok.frf⟩
section
variable {X : Cx} {pins : List (Addr × Obj)} {σ : St} {H : Hp} {s : Shared} {E : Value → Shared → Prop}
theorem Inv.wish (I : Inv X pins σ H s) (E : Value → Shared → Prop) : Inv (X.wish E) pins σ H s := ⟨I.ok.wish E, I.os, I.bare, I.base, I.loc, I.cell, I.free, I.freeC, I.pin, I.hok, I.len⟩
theorem Inv.unwish (I : Inv (X.wish E) pins σ H s) : Inv X pins σ H s := ⟨I.ok.unwish, I.os, I.bare, I.base, I.loc, I.cell, I.free, I.freeC, I.pin, I.hok, I.len⟩
theorem SP.unwish {D : Ends} {f : Flow} {s' : Shared} (h : SP (X.wish E) pins D f s') : SP X pins D f s' := by
  cases f with
  | next => obtain ⟨σ', H', I, q⟩ := h; exact ⟨σ', H', I.unwish, q⟩
  | brk => obtain ⟨σ', H', I, q⟩ := h; exact ⟨σ', H', I.unwish, q⟩
  | cont => obtain ⟨σ', H', I, q⟩ := h; exact ⟨σ', H', I.unwish, q⟩
  | ret u => obtain ⟨v, σ', H', I, r, q⟩ := h; exact ⟨v, σ', H', I.unwish, r, q⟩
theorem PE.nox {e : Expr} {t : TE} (h : PE X.nox e t) : PE X e t := fun pins s σ H Q I hw =>
  wpAny_mono (h pins s σ H Q (I.wish _) hw) (fun _ _ ⟨v, H', I', r, q⟩ => ⟨v, H', I'.unwish, r, q⟩) fun _ _ z => False.elim z
theorem PT.nox {e : Expr} {t : TT} (h : PT X.nox e t) : PT X e t := fun pins s σ H Q I hw =>
  wpAny_mono (h pins s σ H Q (I.wish _) hw) (fun _ _ ⟨H', I', q⟩ => ⟨H', I'.unwish, q⟩) fun _ _ z => False.elim z
theorem PSs.nox {st : List Stmt} {t : TS} (h : PSs X.nox st t) : PSs X st t := fun pins s σ H D I hw =>
  wpAny_mono (h pins s σ H D (I.wish _) hw) (fun _ _ q => q.unwish) fun _ _ z => False.elim z
end

/-! ### blocks and small statements -/
section
variable {X : Cx} {st : Stmt} {rest : List Stmt} {t u : TS} {e : Expr} {te : TE} {pos : Pos}
def tNext : TS := fun D σ H => D.nx σ H
def tSeq (t u : TS) : TS := fun D σ H => t { D with nx := u D } σ H
theorem pss_nil : PSs X [] tNext := fun _ _ σ H _ I h => wpAny_execs_nil ⟨σ, H, I, h⟩
theorem pss_cons (h1 : PS X st t) (h2 : PSs X rest u) : PSs X (st :: rest) (tSeq t u) := by
  intro pins s σ H D I h
  refine wpAny_execs_cons (thn (h1 pins s σ H { D with nx := u D } I h) fun f s1 q => ?_)
  cases f with
  | next =>
    obtain ⟨σ', H', I', q⟩ := q
    exact h2 pins s1 σ' H' D I' q
  | ret v => exact q
  | brk => exact q
  | cont => exact q
theorem pss_one (h1 : PS X st t) : PSs X [st] t := by
  intro pins s σ H D I h
  refine wpAny_execs_cons (thn (h1 pins s σ H D I h) fun f s1 q => ?_)
  cases f with
  | next => exact wpAny_execs_nil q
  | ret v => exact q
  | brk => exact q
  | cont => exact q
def tBreak : TS := fun D σ H => D.bk σ H
def tCont : TS := fun D σ H => D.ct σ H
theorem ps_pass : PS X (.Pass pos) tNext := fun _ _ σ H _ I h => wpAny_Pass ⟨σ, H, I, h⟩
theorem ps_break : PS X (.Break pos) tBreak := fun _ _ σ H _ I h => wpAny_Break ⟨σ, H, I, h⟩
theorem ps_continue : PS X (.Continue pos) tCont := fun _ _ σ H _ I h => wpAny_Continue ⟨σ, H, I, h⟩
/-- in a def's body nothing is shown -/
theorem Inv.quiet {pins : List (Addr × Obj)} {σ : St} {H : Hp} {s : Shared} (I : Inv X pins σ H s) : interactive X.env = false := by simp [interactive, I.ok.kind]
/-- a docstring -/
theorem ps_doc {x j pos pos'} : PS X (.Expr (.Constant (.str x) j pos) pos') tNext := fun _ s σ H _ I h => wpAny_Expr (Calls.Constant_str (show SP X _ _ .next { s with toks := s.toks + 1 } from ⟨σ, H, I.tok _, h⟩)) I.quiet
/-- an expression whose value is dropped -/
def tDrop (te : TE) : TS := fun D σ H => te σ H fun _ H1 => D.nx σ H1
theorem ps_expr (he : PE X e te) (hs : swapsWith e none pos.line X.env = pure false := by rfl) : PS X (.Expr e pos) (tDrop te) := by
  intro pins s σ H D I h
  exact wpAny_Expr_any (thn (he pins s σ H _ I h) fun v s1 ⟨x, H1, I1, r1, q1⟩ => ⟨σ, H1, I1, q1⟩) I.quiet hs
def tRet (te : TE) : TS := fun D σ H => te σ H D.rt
theorem ps_ret (he : PE X e te) : PS X (.Return (some e) pos) (tRet te) := by
  intro pins s σ H D I h
  exact wpAny_Return_some (thn (he pins s σ H _ I h) fun v s1 ⟨x, H1, I1, r1, q1⟩ => ⟨x, σ, H1, I1, r1, q1⟩)
def tRetN : TS := fun D _ H => D.rt .non H
theorem ps_retN : PS X (.Return none pos) tRetN := fun _ _ σ H _ I h => wpAny_Return_none ⟨.non, σ, H, I, rfl, h⟩
def tIfS (c : TT) (t u : TS) : TS := fun D σ H => c σ H fun b H1 => if b = true then t D σ H1 else u D σ H1
theorem ps_if {c : Expr} {a b : List Stmt} {tc : TT} (hc : PT X c tc) (ha : PSs X a t) (hb : PSs X b u) : PS X (.If c a b pos) (tIfS tc t u) := by
  intro pins s σ H D I h
  refine wpAny_If (thn (hc pins s σ H _ I h) fun d s1 ⟨H1, I1, q1⟩ => ?_)
  cases d with
  | true => exact ha pins s1 σ H1 D I1 q1
  | false => exact hb pins s1 σ H1 D I1 q1
/-- code that the proof never comes to -/
def tNever : TS := fun _ _ _ => False
theorem ps_never : PS X st tNever := fun _ _ _ _ _ _ h => h.elim
theorem pss_never {sts : List Stmt} : PSs X sts tNever := fun _ _ _ _ _ _ h => h.elim
end

/-! ### targets -/
abbrev TG := V → St → Hp → (St → Hp → Prop) → Prop
abbrev TGs := List V → St → Hp → (St → Hp → Prop) → Prop
def PG (X : Cx) (target : Expr) (t : TG) : Prop :=
  ∀ (pins : List (Addr × Obj)) (s : Shared) (σ : St) (H : Hp) (v : V) (u : Value) (Q : St → Hp → Prop), Inv X pins σ H s → RelV v u → t v σ H Q →
    wpAny (model X.prog X.w) X.A (assign target X.env u) (fun _ s' => ∃ σ' H', Inv X pins σ' H' s' ∧ Q σ' H') X.xe s
/-- several targets, one after another -/
def PGs (X : Cx) (ts : List Expr) (t : TGs) : Prop :=
  ∀ (pins : List (Addr × Obj)) (s : Shared) (σ : St) (H : Hp) (vs : List V) (us : List Value) (Q : St → Hp → Prop), Inv X pins σ H s → Vals vs us → t vs σ H Q →
    wpAny (model X.prog X.w) X.A (assignInOrder ((assignEach ts X.env).map (·.2)) us) (fun _ s' => ∃ σ' H', Inv X pins σ' H' s' ∧ Q σ' H') X.xe s
/-- o[i] = v, by values -/
abbrev TSet := V → V → V → Hp → (Hp → Prop) → Prop
def PSet (X : Cx) (t : TSet) : Prop :=
  ∀ (pins : List (Addr × Obj)) (s : Shared) (σ : St) (H : Hp) (o i v : V) (ov iv u : Value) (Q : Hp → Prop), Inv X pins σ H s → RelV o ov → RelV i iv → RelV v u → t o i v H Q →
    wpAny (model X.prog X.w) X.A (setItem ov iv u) (fun _ s' => ∃ H', Inv X pins σ H' s' ∧ Q H') X.xe s
/-- a op= b, by values -/
abbrev TIp := V → V → Hp → VK → Prop
def PIp (X : Cx) (op : Operator) (t : TIp) : Prop :=
  ∀ (pins : List (Addr × Obj)) (s : Shared) (σ : St) (H : Hp) (x y : V) (v u : Value) (Q : VK), Inv X pins σ H s → RelV x v → RelV y u → t x y H Q →
    wpAny (model X.prog X.w) X.A (inplaceOp op v u) (EP X pins σ Q) X.xe s
section
variable {X : Cx} {pos : Pos}
def gName (i : Nat) : TG := fun v σ H Q => Q (σ.set i (some v)) H
theorem pg_name {i : Nat} {x : Str} (hN : X.N.Nodup) (hi : X.N[i]? = some x) (hx : Loc X.env.scope x) (hf : X.fn x = true ∨ X.env.scope.names.lookup x = some .local := by first | exact .inl rfl | exact .inr rfl | assumption) : PG X (.Name x pos) (gName i) := by
  intro pins s σ H v u Q I r h
  exact wpAny_assign_Name (store_ok I hN hi hx r (fun s' I' => ⟨_, H, I', h⟩) hf)
def gNil : TGs := fun vs σ H Q => vs = [] ∧ Q σ H
def gCons (t : TG) (u : TGs) : TGs := fun vs σ H Q => ∃ v r, vs = v :: r ∧ t v σ H fun σ' H' => u r σ' H' Q
theorem pgs_nil : PGs X [] gNil := by
  intro pins s σ H vs us Q I r h
  obtain ⟨e, h⟩ := h
  subst e
  cases r
  exact assignInOrder_nil ⟨σ, H, I, h⟩
theorem pgs_cons {e : Expr} {es : List Expr} {t : TG} {u : TGs} (h1 : PG X e t) (h2 : PGs X es u)
    (hs : (assignEach (e :: es) X.env).map (·.2) = assign e X.env :: (assignEach es X.env).map (·.2) := by rfl) : PGs X (e :: es) (gCons t u) := by
  intro pins s σ H vs us Q I r h
  obtain ⟨v, vr, e1, h⟩ := h
  subst e1
  cases r with
  | cons r rr =>
    rw [hs]
    refine assignInOrder_cons (thn (h1 pins s σ H _ _ _ I r h) fun _ s1 ⟨σ1, H1, I1, q1⟩ => ?_)
    exact h2 pins s1 σ1 H1 _ _ Q I1 rr q1
/-- (a, b, ..) = a tuple of that length -/
def gTup (K : PySem.W.Frag) (n : Nat) (t : TGs) : TG := fun v σ H Q => ∃ a xs, v = .ref a ∧ SqT K H a xs ∧ xs.length = n ∧ t xs σ H Q
theorem pg_tup {es : List Expr} {k : Nat} {t : TGs} {n : Nat} (hc : X.calm = true) (h : PGs X es t)
    (hn : (assignEach es X.env).length = n := by rfl) (hst : (assignEach es X.env).findIdx? (·.1) = none := by rfl) : PG X (.Tuple es k pos) (gTup X.K n t) := by
  intro pins s σ H v u Q I r hw
  obtain ⟨a, xs, e1, hq, hl, hw⟩ := hw
  subst e1
  cases r
  obtain ⟨its, rv, ht, hz⟩ := I.tuple hq
  refine assign_Tuple_tuple (I.ok.hd hc) ht (by simp [hn, ← hl, rv.length]) hst fun h' hx => ?_
  have I1 : Inv X pins σ H { s with heap := h' } := I.kept (t' := s.toks) fun b o e => hx b o (Nat.ne_of_lt (Heap.lt_size e)) e
  exact h pins _ σ H xs _ Q I1 (by simpa using rv) hw
/-- o[i] = .. -/
def gSub (to ti : TE) (t : TSet) : TG := fun v σ H Q => to σ H fun o H1 => ti σ H1 fun i H2 => t o i v H2 fun H3 => Q σ H3
theorem pg_sub {o i : Expr} {to ti : TE} {t : TSet} (ho : PE X o to) (hi : PE X i ti) (hs : PSet X t)
    (ha : ∀ v, assign (.Subscript o i pos) X.env v = (do
      let ov ← holding [v] (eval o X.env)
      let iv ← holding [v, ov] (eval i X.env)
      standAt pos
      holding [v, ov, iv] (setItem ov iv v)
      release [v, ov, iv] []) := by intro _; rfl) : PG X (.Subscript o i pos) (gSub to ti t) := by
  intro pins s σ H v u Q I r h
  rw [ha]
  refine wpAny_bind (wpAny_holding (thn (ho pins s σ H _ I h) fun ov s1 ⟨x, H1, I1, r1, q1⟩ => ?_))
  refine wpAny_bind (wpAny_holding (thn (hi pins s1 σ H1 _ I1 q1) fun iv s2 ⟨y, H2, I2, r2, q2⟩ => ?_))
  refine wpAny_bind (wpAny_standAt (wpAny_bind (wpAny_holding (thn (hs pins s2 σ H2 x y v ov iv u _ I2 r1 r2 r q2) fun _ s3 ⟨H3, I3, q3⟩ => ?_))))
  exact wpAny_release ⟨σ, H3, I3, q3⟩
/-- target = value -/
def tAsg (te : TE) (g : TG) : TS := fun D σ H => te σ H fun x H1 => g x σ H1 D.nx
theorem ps_asg {tg e : Expr} {te : TE} {g : TG} (he : PE X e te) (hg : PG X tg g) (hs : swapsWithSole [tg] e pos.line X.env = pure false := by rfl) (hw : swappedStores [tg] e X.env = pure none := by rfl)
    (h1 : (assignEach [tg] X.env).map (·.2) = [assign tg X.env] := by rfl) : PS X (.Assign [tg] e pos) (tAsg te g) := by
  intro pins s σ H D I h
  refine wpAny_Assign_stores (thn (he pins s σ H _ I h) fun v s1 ⟨x, H1, I1, r1, q1⟩ => ?_) hs hw
  rw [h1]
  exact thn (hg pins s1 σ H1 x v _ I1 r1 q1) fun _ s2 q => q
/-- name = value -/
theorem ps_set {i : Nat} {x : Str} {e : Expr} {te : TE} {pos' : Pos} (hN : X.N.Nodup) (hi : X.N[i]? = some x) (hx : Loc X.env.scope x) (he : PE X e te) (hs : swapsWith e (some (.Name x pos')) pos.line X.env = pure false := by rfl) (hf : X.fn x = true ∨ X.env.scope.names.lookup x = some .local := by first | exact .inl rfl | exact .inr rfl | assumption) :
    PS X (.Assign [.Name x pos'] e pos) (tAsg te (gName i)) := by
  intro pins s σ H D I h
  refine wpAny_Assign_Name (thn (he pins s σ H _ I h) fun v s1 ⟨y, H1, I1, r1, q1⟩ => ?_) hs
  exact store_ok I1 hN hi hx r1 (fun s2 I2 => ⟨_, H1, I2, q1⟩) hf
/-- a, b = x, y with plain local names: stored from the right; the pair itself is not tracked (the opening rows as in PyProof/Rows/TupAssign.lean:23) -/
def tPar (i j : Nat) (ta : TA) : TS := fun D σ H => ta σ H fun vs H1 => ∃ v w, vs = [v, w] ∧ D.nx ((σ.set i (some v)).set j (some w)) H1
theorem ps_par {i j : Nat} {x y : Str} {a b : Expr} {ta : TA} {px py pt : Pos} {kt k2 pt2} (hc : X.calm = true) (hN : X.N.Nodup) (hi : X.N[i]? = some x) (hj : X.N[j]? = some y) (hij : i ≠ j)
    (hx : X.env.scope.names.lookup x = some .local) (hy : X.env.scope.names.lookup y = some .local) (ha : PA X [a, b] ta)
    (hw : swappedStores [.Tuple [.Name x px, .Name y py] kt pt] (.Tuple [a, b] k2 pt2) X.env = pure (some [x, y]))
    (hs : swapsWithSole [.Tuple [.Name x px, .Name y py] kt pt] (.Tuple [a, b] k2 pt2) pos.line X.env = pure false := by rfl) :
    PS X (.Assign [.Tuple [.Name x px, .Name y py] kt pt] (.Tuple [a, b] k2 pt2) pos) (tPar i j ta) := by
  intro pins s σ H D I h
  rw [exec_Assign_arm]
  refine wpAny_bind (wpAny_standAt ?_)
  rw [hs]
  refine wpAny_bind (wpAny_pure ?_)
  rw [if_neg (by decide)]
  refine wpAny_bind (Tuple_ (thn (ha _ pins s σ H _ I h) fun us s1 ⟨vs, H1, I1, r1, q1⟩ => ?_))
  obtain ⟨v, w, e1, q1⟩ := q1
  subst e1
  obtain ⟨u1, u2, rfl, rv, rw'⟩ : ∃ u1 u2, us = [u1, u2] ∧ RelV v u1 ∧ RelV w u2 := by
    cases r1 with
    | cons p q =>
      cases q with
      | cons p' q' =>
        cases q'
        exact ⟨_, _, rfl, p, p'⟩
  refine wpAny_newObj_type ?_ (by show 2 ≤ sizeLine; decide)
  have I2 : Inv X pins σ H1 { s1 with heap := s1.heap.push { cls := .type "tuple", data := .seq [u1, u2].toArray } } := I1.kept (t' := s1.toks) fun b o e => Heap.get?_push_of_some _ e
  rw [hw]
  refine wpAny_bind (wpAny_pure ?_)
  show wpAny (model X.prog X.w) X.A (do rule "assign.swapped-stores"; let items ← unpackItems (.ref s1.heap.objs.size) 2 none; assignInOrder [fun v => bindName X.env y v, fun v => bindName X.env x v] items.reverse; pure Flow.next) _ _ _
  refine wpAny_bind (wpAny_rule (wpAny_bind (unpackItems_tuple (items := #[u1, u2]) (I.ok.hd hc) (IsTup.new s1.heap _) fun h' hx' => ?_)))
  have I3 := I2.kept (h' := h') (t' := s1.toks) fun b o e => hx' b o (Nat.ne_of_lt (Heap.lt_size e)) e
  show wpAny _ _ (assignInOrder [fun v => bindName X.env y v, fun v => bindName X.env x v] [u2, u1] >>= fun _ => pure Flow.next) _ _ _
  refine wpAny_bind (assignInOrder_cons (wpAny_bindName (store_ok I3 hN hj (.inl hy) rw' (fun s2 I4 => ?_) (.inr hy))))
  refine assignInOrder_cons (wpAny_bindName (store_ok I4 hN hi (.inl hx) rv (fun s3 I5 => assignInOrder_nil (wpAny_pure ?_)) (.inr hx)))
  rw [List.set_comm _ _ (Ne.symm hij)] at I5
  exact ⟨_, H1, I5, q1⟩
/-- name op= e -/
def tAug (i : Nat) (te : TE) (ti : TIp) : TS := fun D σ H => ∃ x, σ[i]? = some (some x) ∧ te σ H fun y H1 => ti x y H1 fun z H2 => D.nx (σ.set i (some z)) H2
theorem ps_aug {i : Nat} {x : Str} {e : Expr} {te : TE} {op : Operator} {ti : TIp} {pos' : Pos} (hN : X.N.Nodup) (hi : X.N[i]? = some x) (hx : Loc X.env.scope x) (he : PE X e te) (ho : PIp X op ti) (hf : X.fn x = true ∨ X.env.scope.names.lookup x = some .local := by first | exact .inl rfl | exact .inr rfl | assumption) :
    PS X (.AugAssign (.Name x pos') op e pos) (tAug i te ti) := by
  intro pins s σ H D I h
  obtain ⟨v, e1, h⟩ := h
  obtain ⟨m, hn, hl⟩ := I.loc
  have vis : Vis X.env.scope x := by rcases hx with k | k; exact .inl k; exact .inr (.inl k)
  obtain ⟨u, r, l⟩ := hl i x v hi e1 vis
  refine wpAny_AugAssign_Name ?_
  have go : wpAny (model X.prog X.w) X.A (eval e X.env) (fun w s₂ => wpAny (model X.prog X.w) X.A (inplaceOp op u w) (fun r s₃ => wpAny (model X.prog X.w) X.A (storeName X.env x r) (fun _ => SP X pins D .next) X.xe s₃) X.xe s₂) X.xe s := by
    refine thn (he pins s σ H _ I h) fun w s1 ⟨y, H1, I1, r1, q1⟩ => ?_
    refine thn (ho pins s1 σ H1 v y u w _ I1 r r1 q1) fun z s2 ⟨zv, H2, I2, r2, q2⟩ => ?_
    exact store_ok I2 hN hi hx r2 (fun s3 I3 => ⟨_, H2, I3, q2⟩) hf
  rcases l with ⟨hk, hm⟩ | ⟨hk, c, hc, hcell⟩
  · exact wpAny_loadName_local I.ok.kind hk hn hm go
  · rcases hk with hk | hk
    · exact wpAny_loadName_cell I.ok.kind hk hc hcell go
    · rcases hx with k | k
      · have : X.env.scope.names.lookup x = some .free := hk
        rw [k] at this; cases this
      · have : X.env.scope.names.lookup x = some .free := hk
        rw [k] at this; cases this
/-- o[i] op= e -/
def tAugS (to ti te : TE) (tget : V → V → Hp → VK → Prop) (tip : TIp) (tset : TSet) : TS := fun D σ H => to σ H fun o H1 => ti σ H1 fun i H2 => tget o i H2 fun x H3 => te σ H3 fun y H4 => tip x y H4 fun z H5 => tset o i z H5 fun H6 => D.nx σ H6
/-- o[i], by values -/
def PGet (X : Cx) (t : V → V → Hp → VK → Prop) : Prop :=
  ∀ (pins : List (Addr × Obj)) (s : Shared) (σ : St) (H : Hp) (o i : V) (ov iv : Value) (Q : VK), Inv X pins σ H s → RelV o ov → RelV i iv → t o i H Q →
    wpAny (model X.prog X.w) X.A (getItem ov iv) (EP X pins σ Q) X.xe s
theorem ps_augS {o i e : Expr} {to ti te : TE} {tget : V → V → Hp → VK → Prop} {tip : TIp} {tset : TSet} {op : Operator} {tpos : Pos} (ho : PE X o to) (hi : PE X i ti) (hg : PGet X tget) (he : PE X e te) (hp : PIp X op tip) (hs : PSet X tset)
    (ha : ∀ ov iv new, augStore i ov iv new = (do holding [new, ov, iv] (setItem ov iv new); release [new, ov, iv] []; pure .next) := by intros; rfl) : PS X (.AugAssign (.Subscript o i tpos) op e pos) (tAugS to ti te tget tip tset) := by
  intro pins s σ H D I h
  refine wpAny_AugAssign_SubscriptAny (thn (ho pins s σ H _ I h) fun ov s1 ⟨x1, H1, I1, r1, q1⟩ => ?_) ha
  refine thn (hi pins s1 σ H1 _ I1 q1) fun iv s2 ⟨x2, H2, I2, r2, q2⟩ => ?_
  refine thn (hg pins s2 σ H2 x1 x2 ov iv _ I2 r1 r2 q2) fun old s3 ⟨x3, H3, I3, r3, q3⟩ => ?_
  refine thn (he pins s3 σ H3 _ I3 q3) fun v s4 ⟨x4, H4, I4, r4, q4⟩ => ?_
  refine thn (hp pins s4 σ H4 x3 x4 old v _ I4 r3 r4 q4) fun new s5 ⟨x5, H5, I5, r5, q5⟩ => ?_
  exact thn (hs pins s5 σ H5 x1 x2 x5 ov iv new _ I5 r1 r2 r5 q5) fun _ s6 ⟨H6, I6, q6⟩ => ⟨σ, H6, I6, q6⟩
/-- ints -/
def ipI (f : Int → Int → Int) : TIp := fun x y H Q => ∃ i j, x = .int i ∧ y = .int j ∧ Q (.int (f i j)) H
theorem ip_add : PIp X .Add (ipI fun i j => i + j) := by
  intro pins s σ H x y v u Q I r1 r2 h
  obtain ⟨i, j, e1, e2, q⟩ := h
  subst e1; subst e2
  obtain ⟨t, rfl⟩ := r1
  obtain ⟨t', rfl⟩ := r2
  exact iadd_int ⟨.int _, H, I.tok _, ⟨_, rfl⟩, q⟩
theorem ip_sub : PIp X .Sub (ipI fun i j => i - j) := by
  intro pins s σ H x y v u Q I r1 r2 h
  obtain ⟨i, j, e1, e2, q⟩ := h
  subst e1; subst e2
  obtain ⟨t, rfl⟩ := r1
  obtain ⟨t', rfl⟩ := r2
  exact isub_int ⟨.int _, H, I.tok _, ⟨_, rfl⟩, q⟩
end

/-! ### while -/
section
variable {X : Cx} {pos : Pos}
/-- the invariant W with its measure -/
def tWhile (c : TT) (tb : TS) : TS := fun D σ H => ∃ W : Nat → St → Hp → Prop, (∃ m, W m σ H) ∧ ∀ m σ H, W m σ H →
  c σ H fun b H1 => if b = true then ∃ N : St → Hp → Prop, (∀ σ' H', N σ' H' → ∃ m', m' < m ∧ W m' σ' H') ∧ tb { D with nx := N, ct := N, bk := D.nx } σ H1 else D.nx σ H1
theorem ps_while {c : Expr} {body : List Stmt} {tc : TT} {tb : TS} (hp : PassesOwn (model X.prog X.w) X.A X.env X.xe) (hc : PT X c tc) (hb : PSs X body tb) : PS X (.While c body [] pos) (tWhile tc tb) := by
  intro pins s σ H D I h
  obtain ⟨W, ⟨m0, w0⟩, turn⟩ := h
  refine wpAny_While (codeAny_whileLoop (fun n s' => ∃ σ' H', Inv X pins σ' H' s' ∧ W n σ' H') ?_ m0 ⟨σ, H, I, w0⟩)
  rintro n s1 ⟨σ1, H1, I1, w1⟩
  refine wpAny_passesOwn hp (thn (hc pins s1 σ1 H1 _ I1 (turn n σ1 H1 w1)) fun b s2 ⟨H2, I2, q2⟩ => ?_)
  cases b with
  | true =>
    obtain ⟨N, hN, q2⟩ := q2
    rw [if_pos rfl]
    refine wpAny_passesOwn hp (thn (hb pins s2 σ1 H2 _ I2 q2) fun f s3 q3 => ?_)
    cases f with
    | next =>
      obtain ⟨σ3, H3, I3, n3⟩ := q3
      obtain ⟨m', hm, w3⟩ := hN σ3 H3 n3
      exact ⟨m', hm, σ3, H3, I3, w3⟩
    | cont =>
      obtain ⟨σ3, H3, I3, n3⟩ := q3
      obtain ⟨m', hm, w3⟩ := hN σ3 H3 n3
      exact ⟨m', hm, σ3, H3, I3, w3⟩
    | brk => exact q3
    | ret v => exact q3
  | false =>
    rw [if_neg Bool.false_ne_true]
    exact wpAny_execs_nil ⟨σ1, H2, I2, q2⟩
end

/-! ### what a loop or a comprehension walks -/
/-- at turn i: it yields x (the heap may grow), or it stops -/
structure It where
  go : Nat → Hp → Prop
  yld : Nat → Hp → V → Hp → Prop
  stop : Nat → Hp → Prop
/-- the iterator's own objects may turn: they are not the frame's, not pinned, younger than the entry (or a comprehension's own) -/
def FpOk (X : Cx) (pins : List (Addr × Obj)) (H : Hp) (b : Addr) : Prop :=
  H b = none ∧ b ≠ X.env.locals ∧ b ∉ X.fs ∧ (b ∈ X.ex ∨ X.s₀.heap.objs.size ≤ b) ∧ (∀ x c, X.env.cells.lookup x = some c → c ≠ b) ∧ ∀ p ∈ X.pn ++ pins, p.1 ≠ b
theorem Inv.fpOk {X : Cx} {pins : List (Addr × Obj)} {σ : St} {H H' : Hp} {s : Shared} {b : Addr} (I : Inv X pins σ H s) (hb : s.heap.objs.size ≤ b) (hn : H' b = none) : FpOk X pins H' b := by
  refine ⟨hn, Nat.ne_of_gt (Nat.lt_of_lt_of_le I.lt hb), I.nofs hb, .inr (Nat.le_trans I.sz hb), fun x c e z => ?_, fun p hp z => ?_⟩
  · obtain ⟨v, q⟩ := I.cell x c e
    exact absurd (Nat.lt_of_lt_of_le q.lt (by rw [z]; exact hb)) (Nat.lt_irrefl _)
  · exact absurd (Nat.lt_of_lt_of_le (Heap.lt_size (I.pin p hp).1) (by rw [z]; exact hb)) (Nat.lt_irrefl _)
structure Turn (P : Program) (w : World) (K : PySem.W.Frag) (tg : Expr) (J : It) (fp : List Addr) (it : Addr) (tn : Nat → Heap → Prop) : Prop where
  mem : it ∈ fp
  obj : ∀ i h, tn i h → ∀ b ∈ fp, ∃ o, h.get? b = some o ∧ ∀ v, o.data ≠ .cell v
  keep : ∀ i h h', tn i h → (∀ b ∈ fp, ∀ o, h.get? b = some o → h'.get? b = some o) → tn i h'
  item : ∀ (X : Cx), X.prog = P → X.w = w → X.K = K → X.calm = true → ∀ (i : Nat) (pins : List (Addr × Obj)) (s : Shared) (σ : St) (H : Hp) (E : Value → Shared → Prop), Inv X pins σ H s → (∀ b ∈ fp, FpOk X pins H b) → tn i s.heap → J.go i H →
    wpAny (model P w) X.A (pyNext (.ref it)) (fun r s1 => ∃ u, r = some u ∧
      wpAny (model P w) X.A (letOwnedTupleGo tg (.ref it) u) (fun _ s2 => ∃ x H', Inv X pins σ H' s2 ∧ RelV x u ∧ J.yld i H x H' ∧ tn (i + 1) s2.heap ∧ ∀ b ∈ fp, H' b = none) E s1) E s
  done : ∀ (X : Cx), X.prog = P → X.w = w → X.K = K → X.calm = true → ∀ (i : Nat) (pins : List (Addr × Obj)) (s : Shared) (σ : St) (H : Hp) (E : Value → Shared → Prop), Inv X pins σ H s → (∀ b ∈ fp, FpOk X pins H b) → tn i s.heap → J.stop i H →
    wpAny (model P w) X.A (pyNext (.ref it)) (fun r s1 => r = none ∧ Inv X pins σ H s1) E s
  self : ∀ (A : Around) (i : Nat) (s : Shared) (Q : Value → Shared → Prop) (E : Value → Shared → Prop), tn i s.heap → Q (.ref it) s → wpAny (model P w) A (pyIter (.ref it)) Q E s
abbrev TI := St → Hp → (It → Hp → Prop) → Prop
/-- an iterator has come -/
def PIE (X : Cx) (pins : List (Addr × Obj)) (σ : St) (tg : Expr) (R : It → Hp → Prop) (itv : Value) (s2 : Shared) : Prop :=
  ∃ (it : Addr) (fp : List Addr) (tn : Nat → Heap → Prop) (J : It) (H' : Hp), itv = .ref it ∧ Inv X pins σ H' s2 ∧ Turn X.prog X.w X.K tg J fp it tn ∧ tn 0 s2.heap ∧ (∀ b ∈ fp, FpOk X pins H' b) ∧ R J H'
def PI (X : Cx) (tg iter : Expr) (wi : TI) : Prop :=
  ∀ (pins : List (Addr × Obj)) (s : Shared) (σ : St) (H : Hp) (R : It → Hp → Prop), Inv X pins σ H s → wi σ H R →
    wpAny (model X.prog X.w) X.A (eval iter X.env) (fun v s1 => wpAny (model X.prog X.w) X.A (pyIter v) (PIE X pins σ tg R) X.xe s1) X.xe s

/-- the step ahead of the store is nothing for an iterator that keeps no tuple -/
theorem go_of {M : Model} {A : Around} {E : Value → Shared → Prop} {s : Shared} {tg : Expr} {it : Addr} {u : Value} {o : Obj} {n : String} {vs : Array Value} {Q : Unit → Shared → Prop} (ho : s.heap.get? it = some o) (hc : o.cls = .type n) (hd : o.data = .fields vs)
    (hn : ["enumerate", "zip", "dict_itemiterator", "dict_reverseitemiterator", "odict_iterator", "itertools.zip_longest", "itertools.pairwise"].contains n = false) (hQ : Q () s) : wpAny M A (letOwnedTupleGo tg (.ref it) u) Q E s := by
  unfold letOwnedTupleGo
  cases tg <;> first
    | exact wpAny_pure hQ
    | (cases u <;> first
        | exact wpAny_pure hQ
        | (refine wpAny_bind (wpAny_load ho ?_)
           rw [hc, hd]
           show wpAny M A (if (["enumerate", "zip", "dict_itemiterator", "dict_reverseitemiterator", "odict_iterator", "itertools.zip_longest", "itertools.pairwise"].contains n && vs[0]? == some (rawInt _)) = true then _ else _) Q E s
           rw [if_neg (by intro h; rw [hn, Bool.false_and] at h; cases h)]
           exact wpAny_pure hQ))

/-- the list at a, as it stands at each turn (a loop may append to it) -/
def Itl (K : PySem.W.Frag) (a : Addr) : It :=
  ⟨fun i H => ∃ xs x, SqL K H a xs ∧ xs[i]? = some x, fun i H x H' => H' = H ∧ ∀ xs, SqL K H a xs → xs[i]? = some x, fun i H => ∃ xs, SqL K H a xs ∧ xs.length ≤ i⟩
def Itt (K : PySem.W.Frag) (a : Addr) : It :=
  ⟨fun i H => ∃ xs x, SqT K H a xs ∧ xs[i]? = some x, fun i H x H' => H' = H ∧ ∀ xs, SqT K H a xs → xs[i]? = some x, fun i H => ∃ xs, SqT K H a xs ∧ xs.length ≤ i⟩
/-- lo, lo + 1, .. (n of them) -/
def Itr (lo : Int) (n : Nat) : It := ⟨fun i _ => i < n, fun i H x H' => H' = H ∧ x = .int (lo + i), fun i _ => n ≤ i⟩
theorem turn_list {P : Program} {w : World} {K : PySem.W.Frag} {tg : Expr} (a it : Addr) : Turn P w K tg (Itl K a) [it] it (fun i h => h.IsListIter it a i) where
  mem := by simp
  obj := fun i h st b hb => by
    have e : b = it := by simpa using hb
    subst e
    obtain ⟨o, e, c, d⟩ := st
    exact ⟨o, e, fun v z => by rw [d] at z; cases z⟩
  keep := fun i h h' st k => st.at fun o e => k it (by simp) o e
  item := by
    intro X hP hw hK hc i pins s σ H E I hf st hg
    subst hP hw hK
    obtain ⟨xs, x, hq, hx⟩ := hg
    obtain ⟨its, rv, p, hz⟩ := I.list hq
    obtain ⟨u, hu, ru⟩ := rv.get hx
    obtain ⟨f0, f1, f2, f3, f4, f5⟩ := hf it (by simp)
    refine wpAny_pyNext_list_item st p.isList (x := u) (by simpa using hu) fun h' st' sb => ?_
    have I1 : Inv X pins σ H { s with heap := h' } := I.turned (t' := s.toks) (fun b o hb e => (sb.2 b hb).trans e) f0 f1 f3 f4 f5
    obtain ⟨o, e, c, d⟩ := id st'
    exact ⟨u, rfl, go_of (s := { s with heap := h' }) e c d (by decide) ⟨x, H, I1, ru, ⟨rfl, fun ys hy => by rw [I.list_inj hy hq]; exact hx⟩, st', fun b hb => (hf b hb).1⟩⟩
  done := by
    intro X hP hw hK hc i pins s σ H E I hf st hg
    subst hP hw hK
    obtain ⟨xs, hq, hx⟩ := hg
    obtain ⟨its, rv, p, hz⟩ := I.list hq
    obtain ⟨f0, f1, f2, f3, f4, f5⟩ := hf it (by simp)
    have hl := rv.length
    exact wpAny_pyNext_list_end (I.ok.hd hc) st p.isList (by simp; omega) fun h' eb => ⟨rfl, I.turned (t' := s.toks) (fun b o hb e => eb b o hb e) f0 f1 f3 f4 f5⟩
  self := fun _ _ _ _ _ st h => wpAny_pyIter_listiter st h
theorem turn_tuple {P : Program} {w : World} {K : PySem.W.Frag} {tg : Expr} (a it : Addr) : Turn P w K tg (Itt K a) [it] it (fun i h => h.IsTupleIter it a i) where
  mem := by simp
  obj := fun i h st b hb => by
    have e : b = it := by simpa using hb
    subst e
    obtain ⟨o, e, c, d⟩ := st
    exact ⟨o, e, fun v z => by rw [d] at z; cases z⟩
  keep := fun i h h' st k => st.at fun o e => k it (by simp) o e
  item := by
    intro X hP hw hK hc i pins s σ H E I hf st hg
    subst hP hw hK
    obtain ⟨xs, x, hq, hx⟩ := hg
    obtain ⟨its, rv, p, hz⟩ := I.tuple hq
    obtain ⟨u, hu, ru⟩ := rv.get hx
    obtain ⟨f0, f1, f2, f3, f4, f5⟩ := hf it (by simp)
    refine wpAny_pyNext_tuple_item st (show s.heap.IsTuple a its.toArray from p) (x := u) (by simpa using hu) fun h' st' sb => ?_
    have I1 : Inv X pins σ H { s with heap := h' } := I.turned (t' := s.toks) (fun b o hb e => (sb.2 b hb).trans e) f0 f1 f3 f4 f5
    obtain ⟨o, e, c, d⟩ := id st'
    exact ⟨u, rfl, go_of (s := { s with heap := h' }) e c d (by decide) ⟨x, H, I1, ru, ⟨rfl, fun ys hy => by rw [I.tuple_inj hy hq]; exact hx⟩, st', fun b hb => (hf b hb).1⟩⟩
  done := by
    intro X hP hw hK hc i pins s σ H E I hf st hg
    subst hP hw hK
    obtain ⟨xs, hq, hx⟩ := hg
    obtain ⟨its, rv, p, hz⟩ := I.tuple hq
    obtain ⟨f0, f1, f2, f3, f4, f5⟩ := hf it (by simp)
    have hl := rv.length
    exact wpAny_pyNext_tuple_end (I.ok.hd hc) st (show s.heap.IsTuple a its.toArray from p) (by simp; omega) fun h' eb => ⟨rfl, I.turned (t' := s.toks) (fun b o hb e => eb b o hb e) f0 f1 f3 f4 f5⟩
  self := fun _ _ _ _ _ st h => wpAny_pyIter_tupleiter st h
theorem turn_range {P : Program} {w : World} {K : PySem.W.Frag} {tg : Expr} (it : Addr) (lo : Int) (n : Nat) : Turn P w K tg (Itr lo n) [it] it (fun i h => IsRangeIter h it (lo + (i : Nat) * 1) ((n : Int) - (i : Nat)) 1) where
  mem := by simp
  obj := fun i h st b hb => by
    have e : b = it := by simpa using hb
    subst e
    exact ⟨_, st, fun v z => by
      have z' : Data.fields _ = Data.cell v := z
      cases z'⟩
  keep := fun i h h' st k => k it (by simp) _ st
  item := by
    intro X hP hw hK hc i pins s σ H E I hf st hg
    subst hP hw hK
    obtain ⟨f0, f1, f2, f3, f4, f5⟩ := hf it (by simp)
    have W := Walks.range (prog := X.prog) (w := X.w) (I.ok.hd hc) it lo 1 n
    refine W.item i s _ _ hg st fun v h' tk hv st' kk => ?_
    obtain ⟨t, rfl⟩ := hv
    have I1 : Inv X pins σ H { s with heap := h', toks := tk } := I.turned (fun b o hb e => kk b o (by simpa using hb) e) f0 f1 f3 f4 f5
    refine ⟨_, rfl, go_of (s := { s with heap := h', toks := tk }) (n := "range_iterator") st' rfl rfl (by decide) ⟨.int (lo + i), H, I1, ⟨t, ?_⟩, ⟨rfl, rfl⟩, st', fun b hb => (hf b hb).1⟩⟩
    rw [Int.mul_one]
  done := by
    intro X hP hw hK hc i pins s σ H E I hf st hg
    subst hP hw hK
    obtain ⟨f0, f1, f2, f3, f4, f5⟩ := hf it (by simp)
    exact wpAny_pyNext_range_end (I.ok.hd hc) st (by have : n ≤ i := hg; omega) fun h' eb => ⟨rfl, I.turned (t' := s.toks) (fun b o hb e => eb b o hb e) f0 f1 f3 f4 f5⟩
  self := fun _ _ _ _ _ st h => wpAny_pyIter_rangeiter st h
end L2

namespace L2
open PySem PySem.Spec PyProof.Rows
section
variable {X : Cx} {tg : Expr}
def iList (K : PySem.W.Frag) (tl : TE) : TI := fun σ H R => tl σ H fun x H1 => ∃ a, x = .ref a ∧ (∃ xs, SqL K H1 a xs) ∧ R (Itl K a) H1
def iTup (K : PySem.W.Frag) (tl : TE) : TI := fun σ H R => tl σ H fun x H1 => ∃ a, x = .ref a ∧ (∃ xs, SqT K H1 a xs) ∧ R (Itt K a) H1
theorem pi_list {l : Expr} {tl : TE} (hl : PE X l tl) : PI X tg l (iList X.K tl) := by
  intro pins s σ H R I h
  refine thn (hl pins s σ H _ I h) fun v s1 ⟨x, H1, I1, r1, q1⟩ => ?_
  obtain ⟨a, e, ⟨xs, hq⟩, q⟩ := q1
  subst e
  cases r1
  obtain ⟨its, rv, p, hz⟩ := I1.list hq
  refine wpAny_pyIter_list p.isList ?_
  refine ⟨s1.heap.objs.size, [s1.heap.objs.size], _, _, H1, rfl, I1.kept (t' := s1.toks) fun b o e => Heap.get?_push_of_some _ e, turn_list a _, ⟨_, Heap.get?_push_size _ rfl, rfl, rfl⟩, fun b hb => ?_, q⟩
  have e : b = s1.heap.objs.size := by simpa using hb
  subst e
  exact I1.fpOk (Nat.le_refl _) (I1.hok.fresh (Nat.le_refl _))
theorem pi_tup {l : Expr} {tl : TE} (hl : PE X l tl) : PI X tg l (iTup X.K tl) := by
  intro pins s σ H R I h
  refine thn (hl pins s σ H _ I h) fun v s1 ⟨x, H1, I1, r1, q1⟩ => ?_
  obtain ⟨a, e, ⟨xs, hq⟩, q⟩ := q1
  subst e
  cases r1
  obtain ⟨its, rv, p, hz⟩ := I1.tuple hq
  refine wpAny_pyIter_tuple (show s1.heap.IsTuple a its.toArray from p) ?_
  refine ⟨s1.heap.objs.size, [s1.heap.objs.size], _, _, H1, rfl, I1.kept (t' := s1.toks) fun b o e => Heap.get?_push_of_some _ e, turn_tuple a _, ⟨_, Heap.get?_push_size _ rfl, rfl, rfl⟩, fun b hb => ?_, q⟩
  have e : b = s1.heap.objs.size := by simpa using hb
  subst e
  exact I1.fpOk (Nat.le_refl _) (I1.hok.fresh (Nat.le_refl _))
/-- a range object just made, walked -/
theorem range_it {pins : List (Addr × Obj)} {σ : St} {H : Hp} {s : Shared} {R : It → Hp → Prop} {E : Value → Shared → Prop} {lo hi : Int} {t u v : Tok} {tk : Nat} (I : Inv X pins σ H s) (h1 : -(2 ^ 62) ≤ lo) (h2 : lo < 2 ^ 62) (h3 : -(2 ^ 62) ≤ hi) (h4 : hi < 2 ^ 62)
    (q : R (Itr lo (hi - lo).toNat) H) : wpAny (model X.prog X.w) X.A (pyIter (.ref s.heap.objs.size)) (PIE X pins σ tg R) E { s with heap := s.heap.push { cls := .type "range", data := .fields #[.int lo t, .int hi u, .int 1 v] }, toks := tk } := by
  refine wpAny_pyIter_range (IsRange.new ..) (small_one h1 h2 h3 h4) ?_
  have I1 : Inv X pins σ H { s with heap := s.heap.push { cls := .type "range", data := .fields #[.int lo t, .int hi u, .int 1 v] }, toks := tk } := I.kept fun b o e => Heap.get?_push_of_some _ e
  refine ⟨(s.heap.push { cls := .type "range", data := .fields #[.int lo t, .int hi u, .int 1 v] }).objs.size, [(s.heap.push { cls := .type "range", data := .fields #[.int lo t, .int hi u, .int 1 v] }).objs.size], _, _, H, rfl,
    I1.kept (t' := tk) fun b o e => Heap.get?_push_of_some _ e, turn_range _ lo (hi - lo).toNat, ?_, fun b hb => ?_, q⟩
  · have e1 : lo + ((0 : Nat) : Int) * 1 = lo := by simp
    have e2 : (((hi - lo).toNat : Nat) : Int) - ((0 : Nat) : Int) = Builtin.Range.rangeSize lo hi 1 := by rw [rangeSize_one]; split <;> omega
    show IsRangeIter _ _ (lo + ((0 : Nat) : Int) * 1) ((((hi - lo).toNat : Nat) : Int) - ((0 : Nat) : Int)) 1
    rw [e1, e2]
    exact Heap.get?_push_size _ rfl
  · have e : b = (s.heap.push { cls := .type "range", data := .fields #[.int lo t, .int hi u, .int 1 v] }).objs.size := by simpa using hb
    subst e
    exact I1.fpOk (Nat.le_refl _) (I1.hok.fresh (Nat.le_refl _))
def iRng1 (ta : TA) : TI := fun σ H R => ta σ H fun vs H1 => ∃ j : Int, vs = [.int j] ∧ -(2 ^ 62) ≤ j ∧ j < 2 ^ 62 ∧ R (Itr 0 j.toNat) H1
def iRng2 (ta : TA) : TI := fun σ H R => ta σ H fun vs H1 => ∃ i j : Int, vs = [.int i, .int j] ∧ (-(2 ^ 62) ≤ i ∧ i < 2 ^ 62 ∧ -(2 ^ 62) ≤ j ∧ j < 2 ^ 62) ∧ R (Itr i (j - i).toNat) H1
theorem pi_range1 {a : Expr} {ta : TA} {p pos : Pos} (hg : Gl X "range") (hm : X.mg "range" = none) (ha : PA X [a] ta) (hs : starEach [a] X.env = [(false, eval a X.env)] := by rfl) : PI X tg (.Call (.Name "range" p) [a] [] pos) (iRng1 ta) := by
  intro pins s σ H R I h
  refine Call_ (ld_blt I hg hm boot_range (PyProof.Rows.callWith_type1 (thn (ha pos pins s σ H _ I h) fun us s1 ⟨vs, H1, I1, r1, q1⟩ => ?_) hs rfl))
  obtain ⟨j, e, q1, q2, q⟩ := q1
  subst e
  cases r1 with
  | cons r rr =>
    cases rr
    obtain ⟨t, rfl⟩ := r
    exact call_range_1 (range_it I1 (by omega) (by omega) q1 q2 (by simpa using q))
theorem pi_range2 {a b : Expr} {ta : TA} {p pos : Pos} (hg : Gl X "range") (hm : X.mg "range" = none) (ha : PA X [a, b] ta) (hs : starEach [a, b] X.env = [(false, eval a X.env), (false, eval b X.env)] := by rfl) (hs2 : starEach [b] X.env = [(false, eval b X.env)] := by rfl) :
    PI X tg (.Call (.Name "range" p) [a, b] [] pos) (iRng2 ta) := by
  intro pins s σ H R I h
  refine Call_ (ld_blt I hg hm boot_range (PyProof.Rows.callWith_type1 (thn (ha pos pins s σ H _ I h) fun us s1 ⟨vs, H1, I1, r1, q1⟩ => ?_) (by rw [hs, hs2]) (by rw [hs2]; rfl)))
  obtain ⟨i, j, e, ⟨q1, q2, q3, q4⟩, q⟩ := q1
  subst e
  cases r1 with
  | cons r rr =>
    cases rr with
    | cons r' rr =>
      cases rr
      obtain ⟨t, rfl⟩ := r
      obtain ⟨t', rfl⟩ := r'
      exact call_range_2 (range_it I1 q1 q2 q3 q4 q)

/-! ### for -/
/-- W: the invariant by the turn and a measure; N: what the body is to reach -/
def tFor (wi : TI) (g : TG) (tb : TS) : TS := fun D σ H => wi σ H fun J H1 => ∃ W : Nat → Nat → St → Hp → Prop, (∃ m, W 0 m σ H1) ∧ ∀ i m σ H, W i m σ H →
  (J.stop i H ∧ D.nx σ H) ∨ (J.go i H ∧ ∃ N : St → Hp → Prop, (∀ σ' H', N σ' H' → ∃ m', m' < m ∧ W (i + 1) m' σ' H') ∧ ∀ x H', J.yld i H x H' → g x σ H' fun σ2 H2 => tb { D with nx := N, ct := N, bk := D.nx } σ2 H2)
/-- the records at fp as they stand -/
def pinsAt (fp : List Addr) (h : Heap) : List (Addr × Obj) := fp.filterMap fun b => (h.get? b).map fun o => (b, o)
theorem mem_pinsAt {fp : List Addr} {h : Heap} {b : Addr} {o : Obj} (hb : b ∈ fp) (e : h.get? b = some o) : (b, o) ∈ pinsAt fp h := List.mem_filterMap.mpr ⟨b, hb, by rw [e]; rfl⟩
theorem of_pinsAt {fp : List Addr} {h : Heap} {p : Addr × Obj} (hp : p ∈ pinsAt fp h) : p.1 ∈ fp ∧ h.get? p.1 = some p.2 := by
  obtain ⟨b, hb, e⟩ := List.mem_filterMap.mp hp
  cases q : h.get? b with
  | none => rw [q] at e; cases e
  | some o =>
    rw [q] at e
    have e' : (b, o) = p := Option.some.inj e
    subst e'
    exact ⟨hb, q⟩
theorem Inv.pinned {pins : List (Addr × Obj)} {σ : St} {H : Hp} {s : Shared} {fp : List Addr} (I : Inv X pins σ H s) (hf : ∀ b ∈ fp, FpOk X pins H b) (ho : ∀ b ∈ fp, ∃ o, s.heap.get? b = some o ∧ ∀ v, o.data ≠ .cell v) : Inv X (pins ++ pinsAt fp s.heap) σ H s :=
  I.pins_of fun p hp => (List.mem_append.mp hp).elim (fun z => I.pin p (List.mem_append_right _ z)) fun z => by
    obtain ⟨hb, e⟩ := of_pinsAt z
    obtain ⟨f0, f1, f2, _⟩ := hf p.1 hb
    obtain ⟨o, e', d⟩ := ho p.1 hb
    rw [e] at e'; cases e'
    exact ⟨e, f0, f1, f2, d⟩
theorem Inv.unpinned {pins pl : List (Addr × Obj)} {σ : St} {H : Hp} {s : Shared} (I : Inv X (pins ++ pl) σ H s) : Inv X pins σ H s := I.pins_of fun p hp => I.pin p (List.mem_append_right _ (List.mem_append_left _ hp))
theorem ps_for {iter : Expr} {body : List Stmt} {wi : TI} {g : TG} {tb : TS} {pos : Pos} (hp : PassesOwn (model X.prog X.w) X.A X.env X.xe) (hc : X.calm = true) (hi : PI X tg iter wi) (hg : PG X tg g) (hb : PSs X body tb)
    (hs : ∀ x, foldedSetIterable iter X.env x = pure x := by intro _; rfl) : PS X (.For tg iter body [] pos) (tFor wi g tb) := by
  intro pins s σ H D I h
  refine wpAny_For (thn (hi pins s σ H _ I h) fun v s1 h1 => thn h1 fun itv s2 h2 => ?_) hs
  obtain ⟨it, fp, tn, J, H2, e, I2, T, st2, f2, W, ⟨m0, w0⟩, turn⟩ := h2
  subst e
  -- what stays true of the iterator's objects through the loop
  have stat : ∀ {H' : Hp}, (∀ b ∈ fp, H' b = none) → ∀ b ∈ fp, FpOk X pins H' b := fun hn b hb => ⟨hn b hb, (f2 b hb).2⟩
  refine codeAny_forLoop_any (fun n s' => ∃ i σ' H', Inv X pins σ' H' s' ∧ tn i s'.heap ∧ (∀ b ∈ fp, H' b = none) ∧ W i n σ' H') ?_ m0 ⟨0, σ, H2, I2, st2, fun b hb => (f2 b hb).1, w0⟩
  rintro n s3 ⟨i, σ3, H3, I3, st3, fr3, w3⟩
  rcases turn i n σ3 H3 w3 with ⟨stop, qn⟩ | ⟨go, N, hN, step⟩
  · refine wpAny_passesOwn hp (thn (T.done X rfl rfl rfl hc i pins s3 σ3 H3 X.xe I3 (stat fr3) st3 stop) fun r s4 ⟨hr, I4⟩ => ?_)
    subst hr
    exact wpAny_execs_nil ⟨σ3, H3, I4, qn⟩
  · refine wpAny_passesOwn hp (thn (T.item X rfl rfl rfl hc i pins s3 σ3 H3 X.xe I3 (stat fr3) st3 go) fun r s4 ⟨u, hr, h4⟩ => ?_)
    subst hr
    refine wpAny_passesOwn hp (thn h4 fun _ s5 ⟨x, H5, I5, r5, y5, st5, fr5⟩ => ?_)
    have I5' := I5.pinned (stat fr5) (T.obj _ _ st5)
    refine wpAny_passesOwn hp (thn (hg _ s5 σ3 H5 x u _ I5' r5 (step x H5 y5)) fun _ s6 ⟨σ6, H6, I6, q6⟩ => ?_)
    refine wpAny_passesOwn hp (thn (hb _ s6 σ6 H6 _ I6 q6) fun f s7 q7 => ?_)
    have again : ∀ {σ7 : St} {H7 : Hp}, Inv X (pins ++ pinsAt fp s5.heap) σ7 H7 s7 → N σ7 H7 → ∃ m, m < n ∧ ∃ i σ' H', Inv X pins σ' H' s7 ∧ tn i s7.heap ∧ (∀ b ∈ fp, H' b = none) ∧ W i m σ' H' := fun {σ7 H7} I7 n7 => by
      obtain ⟨m', hm, w7⟩ := hN σ7 H7 n7
      refine ⟨m', hm, i + 1, σ7, H7, I7.unpinned, T.keep _ _ _ st5 fun b hb o e => (I7.pin (b, o) (List.mem_append_right _ (List.mem_append_right _ (mem_pinsAt hb e)))).1, fun b hb => ?_, w7⟩
      obtain ⟨o, e, d⟩ := T.obj _ _ st5 b hb
      exact (I7.pin (b, o) (List.mem_append_right _ (List.mem_append_right _ (mem_pinsAt hb e)))).2.1
    cases f with
    | next => obtain ⟨σ7, H7, I7, n7⟩ := q7; exact again I7 n7
    | cont => obtain ⟨σ7, H7, I7, n7⟩ := q7; exact again I7 n7
    | brk => obtain ⟨σ7, H7, I7, q7⟩ := q7; exact ⟨σ7, H7, I7.unpinned, q7⟩
    | ret v => obtain ⟨x7, σ7, H7, I7, r7, q7⟩ := q7; exact ⟨x7, σ7, H7, I7.unpinned, r7, q7⟩
end

/-! ### the forms one uses -/
/-- over a list that the body leaves as it is -/
theorem for_list {K : PySem.W.Frag} {a : Addr} {xs : List V} {g : TG} {tb : TS} {D : Ends} {σ : St} {H : Hp} (Pv : Nat → St → Hp → Prop) (h0 : Pv 0 σ H) (hl : ∀ i σ H, i ≤ xs.length → Pv i σ H → SqL K H a xs)
    (hs : ∀ i x σ H, xs[i]? = some x → Pv i σ H → g x σ H fun σ2 H2 => tb { D with nx := Pv (i + 1), ct := Pv (i + 1), bk := D.nx } σ2 H2) (hd : ∀ σ H, Pv xs.length σ H → D.nx σ H) :
    ∃ W : Nat → Nat → St → Hp → Prop, (∃ m, W 0 m σ H) ∧ ∀ i m σ H, W i m σ H →
      ((Itl K a).stop i H ∧ D.nx σ H) ∨ ((Itl K a).go i H ∧ ∃ N : St → Hp → Prop, (∀ σ' H', N σ' H' → ∃ m', m' < m ∧ W (i + 1) m' σ' H') ∧ ∀ x H', (Itl K a).yld i H x H' → g x σ H' fun σ2 H2 => tb { D with nx := N, ct := N, bk := D.nx } σ2 H2) := by
  refine ⟨fun i m σ H => m = xs.length - i ∧ i ≤ xs.length ∧ Pv i σ H, ⟨xs.length, by simp, Nat.zero_le _, h0⟩, ?_⟩
  rintro i m σ H ⟨rfl, hi, p⟩
  have q := hl i σ H hi p
  by_cases hlt : i < xs.length
  · refine .inr ⟨⟨xs, xs[i], q, by simp [hlt]⟩, Pv (i + 1), fun σ' H' p' => ⟨xs.length - (i + 1), by omega, rfl, hlt, p'⟩, fun x H' y => ?_⟩
    obtain ⟨e, y⟩ := y
    subst e
    exact hs i x σ _ (y xs q) p
  · have e : i = xs.length := by omega
    subst e
    exact .inl ⟨⟨xs, q, Nat.le_refl _⟩, hd σ H p⟩
theorem for_tup {K : PySem.W.Frag} {a : Addr} {xs : List V} {g : TG} {tb : TS} {D : Ends} {σ : St} {H : Hp} (Pv : Nat → St → Hp → Prop) (h0 : Pv 0 σ H) (hl : ∀ i σ H, i ≤ xs.length → Pv i σ H → SqT K H a xs)
    (hs : ∀ i x σ H, xs[i]? = some x → Pv i σ H → g x σ H fun σ2 H2 => tb { D with nx := Pv (i + 1), ct := Pv (i + 1), bk := D.nx } σ2 H2) (hd : ∀ σ H, Pv xs.length σ H → D.nx σ H) :
    ∃ W : Nat → Nat → St → Hp → Prop, (∃ m, W 0 m σ H) ∧ ∀ i m σ H, W i m σ H →
      ((Itt K a).stop i H ∧ D.nx σ H) ∨ ((Itt K a).go i H ∧ ∃ N : St → Hp → Prop, (∀ σ' H', N σ' H' → ∃ m', m' < m ∧ W (i + 1) m' σ' H') ∧ ∀ x H', (Itt K a).yld i H x H' → g x σ H' fun σ2 H2 => tb { D with nx := N, ct := N, bk := D.nx } σ2 H2) := by
  refine ⟨fun i m σ H => m = xs.length - i ∧ i ≤ xs.length ∧ Pv i σ H, ⟨xs.length, by simp, Nat.zero_le _, h0⟩, ?_⟩
  rintro i m σ H ⟨rfl, hi, p⟩
  have q := hl i σ H hi p
  by_cases hlt : i < xs.length
  · refine .inr ⟨⟨xs, xs[i], q, by simp [hlt]⟩, Pv (i + 1), fun σ' H' p' => ⟨xs.length - (i + 1), by omega, rfl, hlt, p'⟩, fun x H' y => ?_⟩
    obtain ⟨e, y⟩ := y
    subst e
    exact hs i x σ _ (y xs q) p
  · have e : i = xs.length := by omega
    subst e
    exact .inl ⟨⟨xs, q, Nat.le_refl _⟩, hd σ H p⟩
theorem for_range {lo : Int} {n : Nat} {g : TG} {tb : TS} {D : Ends} {σ : St} {H : Hp} (Pv : Nat → St → Hp → Prop) (h0 : Pv 0 σ H)
    (hs : ∀ i σ H, i < n → Pv i σ H → g (.int (lo + i)) σ H fun σ2 H2 => tb { D with nx := Pv (i + 1), ct := Pv (i + 1), bk := D.nx } σ2 H2) (hd : ∀ σ H, Pv n σ H → D.nx σ H) :
    ∃ W : Nat → Nat → St → Hp → Prop, (∃ m, W 0 m σ H) ∧ ∀ i m σ H, W i m σ H →
      ((Itr lo n).stop i H ∧ D.nx σ H) ∨ ((Itr lo n).go i H ∧ ∃ N : St → Hp → Prop, (∀ σ' H', N σ' H' → ∃ m', m' < m ∧ W (i + 1) m' σ' H') ∧ ∀ x H', (Itr lo n).yld i H x H' → g x σ H' fun σ2 H2 => tb { D with nx := N, ct := N, bk := D.nx } σ2 H2) := by
  refine ⟨fun i m σ H => m = n - i ∧ i ≤ n ∧ Pv i σ H, ⟨n, by simp, Nat.zero_le _, h0⟩, ?_⟩
  rintro i m σ H ⟨rfl, hi, p⟩
  by_cases hlt : i < n
  · refine .inr ⟨hlt, Pv (i + 1), fun σ' H' p' => ⟨n - (i + 1), by omega, rfl, hlt, p'⟩, fun x H' y => ?_⟩
    obtain ⟨e, y⟩ := y
    subst e y
    exact hs i σ _ hlt p
  · have e : i = n := by omega
    subst e
    exact .inl ⟨Nat.le_refl _, hd σ H p⟩
/-- while, by a word and a measure of the state -/
theorem while_by {c : TT} {tb : TS} {D : Ends} {σ : St} {H : Hp} (Pv : St → Hp → Prop) (μ : St → Hp → Nat) (h0 : Pv σ H)
    (hs : ∀ σ H, Pv σ H → c σ H fun b H1 => if b = true then tb { D with nx := fun σ' H' => Pv σ' H' ∧ μ σ' H' < μ σ H, ct := fun σ' H' => Pv σ' H' ∧ μ σ' H' < μ σ H, bk := D.nx } σ H1 else D.nx σ H1)
    (mono : ∀ σ H Q Q', (∀ b H1, Q b H1 → Q' b H1) → c σ H Q → c σ H Q') : tWhile c tb D σ H := by
  refine ⟨fun m σ H => m = μ σ H ∧ Pv σ H, ⟨_, rfl, h0⟩, ?_⟩
  rintro m σ H ⟨rfl, p⟩
  refine mono σ H _ _ (fun b H1 q => ?_) (hs σ H p)
  cases b with
  | true => exact ⟨_, fun σ' H' ⟨p', l⟩ => ⟨_, l, rfl, p'⟩, q⟩
  | false => exact q
end L2

namespace L2
open PySem PySem.Spec PyProof.Rows

abbrev R2 := V → V → Hp → VK → Prop
/-- a two-place operation on values: f is binaryOp op, inplaceOp op or compareOp op -/
def OpR (X : Cx) (f : Value → Value → Sem Value) (r : R2) : Prop :=
  ∀ (pins : List (Addr × Obj)) (s : Shared) (σ : St) (H : Hp) (x y : V) (v u : Value) (Q : VK), Inv X pins σ H s → RelV x v → RelV y u → r x y H Q →
    wpAny (model X.prog X.w) X.A (f v u) (EP X pins σ Q) X.xe s
/-- a one-place operation -/
def UnR (X : Cx) (f : Value → Sem Value) (r : V → Hp → VK → Prop) : Prop :=
  ∀ (pins : List (Addr × Obj)) (s : Shared) (σ : St) (H : Hp) (x : V) (v : Value) (Q : VK), Inv X pins σ H s → RelV x v → r x H Q →
    wpAny (model X.prog X.w) X.A (f v) (EP X pins σ Q) X.xe s
/-- a call of a value that is known (a builtin, a type) with values -/
def CallR (X : Cx) (f : Value) (r : List V → Hp → VK → Prop) : Prop :=
  ∀ (pins : List (Addr × Obj)) (s : Shared) (σ : St) (H : Hp) (xs : List V) (us : List Value) (Q : VK), Inv X pins σ H s → Vals xs us → r xs H Q →
    wpAny (model X.prog X.w) X.A (call f us) (EP X pins σ Q) X.xe s
/-- a value's truth -/
def TruR (X : Cx) (r : V → Hp → (Bool → Hp → Prop) → Prop) : Prop :=
  ∀ (pins : List (Addr × Obj)) (s : Shared) (σ : St) (H : Hp) (x : V) (v : Value) (Q : Bool → Hp → Prop), Inv X pins σ H s → RelV x v → r x H Q →
    wpAny (model X.prog X.w) X.A (truthy v) (TP X pins σ Q) X.xe s

def tOp (r : R2) (ta tb : TE) : TE := fun σ H Q => ta σ H fun x H1 => tb σ H1 fun y H2 => r x y H2 Q
def tUn (r : V → Hp → VK → Prop) (ta : TE) : TE := fun σ H Q => ta σ H fun x H1 => r x H1 Q
/-- ints in, under C, and a value out -/
def rI (C : Int → Int → Prop) (g : Int → Int → V) : R2 := fun x y H Q => ∃ i j, x = .int i ∧ y = .int j ∧ C i j ∧ Q (g i j) H
def rI0 (g : Int → Int → V) : R2 := fun x y H Q => ∃ i j, x = .int i ∧ y = .int j ∧ Q (g i j) H
def rU (g : Int → V) : V → Hp → VK → Prop := fun x H Q => ∃ i, x = .int i ∧ Q (g i) H

section
variable {X : Cx} {a b c : Expr} {ta tb tc : TE} {pos : Pos}

theorem binT (ha : PE X a ta) (hb : PE X b tb) {pins : List (Addr × Obj)} {s : Shared} {σ : St} {H : Hp} {R : V → V → Hp → Prop} (I : Inv X pins σ H s)
    (h : ta σ H fun x H1 => tb σ H1 fun y H2 => R x y H2) {Q : Value → Shared → Prop} {f : Value → Value → Sem Value}
    (hf : ∀ v u s2 x y H2, Inv X pins σ H2 s2 → RelV x v → RelV y u → R x y H2 → wpAny (model X.prog X.w) X.A (f v u) Q X.xe s2) :
    wpAny (model X.prog X.w) X.A (eval a X.env) (fun v s₁ => wpAny (model X.prog X.w) X.A (eval b X.env) (fun u s₂ => wpAny (model X.prog X.w) X.A (f v u) Q X.xe s₂) X.xe s₁) X.xe s := by
  refine thn (ha pins s σ H _ I h) fun v s1 ⟨x, H1, I1, r1, q1⟩ => ?_
  refine thn (hb pins s1 σ H1 _ I1 q1) fun u s2 ⟨y, H2, I2, r2, q2⟩ => ?_
  exact hf v u s2 x y H2 I2 r1 r2 q2

theorem pe_op {op : Operator} {r : R2} (ho : OpR X (binaryOp op) r) (ha : PE X a ta) (hb : PE X b tb) : PE X (.BinOp a op b pos) (tOp r ta tb) := by
  intro pins s σ H Q I h
  exact wpAny_BinOp (binT ha hb I h fun v u s2 x y H2 I2 rx ry q => ho pins s2 σ H2 x y v u Q I2 rx ry q)
theorem pe_un {op : UnaryOp} {r : V → Hp → VK → Prop} (ho : UnR X (unaryOp op) r) (ha : PE X a ta) : PE X (.UnaryOp op a pos) (tUn r ta) := by
  intro pins s σ H Q I h
  exact UnaryOp_ (thn (ha pins s σ H _ I h) fun v s1 ⟨x, H1, I1, r1, q1⟩ => ho pins s1 σ H1 x v Q I1 r1 q1)
/-- a op= e at a name: the name's slot i -/
theorem augR {op : Operator} {r : R2} (ho : OpR X (inplaceOp op) r) {pins : List (Addr × Obj)} {s : Shared} {σ : St} {H : Hp} {x y : V} {v u : Value} {Q : VK} (I : Inv X pins σ H s)
    (rx : RelV x v) (ry : RelV y u) (q : r x y H Q) : wpAny (model X.prog X.w) X.A (inplaceOp op v u) (EP X pins σ Q) X.xe s := ho pins s σ H x y v u Q I rx ry q

/-! ### ints -/
theorem opI {f : Value → Value → Sem Value} {C : Int → Int → Prop} {g : Int → Int → Int}
    (rule : ∀ (i j : Int) (t u : Tok) (s : Shared) (Q : Value → Shared → Prop) (E : Value → Shared → Prop), C i j → Q (.int (g i j) s.toks) { s with toks := s.toks + 1 } → wpAny (model X.prog X.w) X.A (f (.int i t) (.int j u)) Q E s) :
    OpR X f (rI C fun i j => .int (g i j)) := by
  intro pins s σ H x y v u Q I rx ry h
  obtain ⟨i, j, rfl, rfl, hc, q⟩ := h
  obtain ⟨t, rfl⟩ := rx
  obtain ⟨t', rfl⟩ := ry
  exact rule i j t t' s _ _ hc ⟨.int (g i j), H, I.tok _, ⟨_, rfl⟩, q⟩
theorem opI0 {f : Value → Value → Sem Value} {g : Int → Int → Int}
    (rule : ∀ (i j : Int) (t u : Tok) (s : Shared) (Q : Value → Shared → Prop) (E : Value → Shared → Prop), Q (.int (g i j) s.toks) { s with toks := s.toks + 1 } → wpAny (model X.prog X.w) X.A (f (.int i t) (.int j u)) Q E s) :
    OpR X f (rI0 fun i j => .int (g i j)) := by
  intro pins s σ H x y v u Q I rx ry h
  obtain ⟨i, j, rfl, rfl, q⟩ := h
  obtain ⟨t, rfl⟩ := rx
  obtain ⟨t', rfl⟩ := ry
  exact rule i j t t' s _ _ ⟨.int (g i j), H, I.tok _, ⟨_, rfl⟩, q⟩
theorem opB0 {f : Value → Value → Sem Value} {g : Int → Int → Bool}
    (rule : ∀ (i j : Int) (t u : Tok) (s : Shared) (Q : Value → Shared → Prop) (E : Value → Shared → Prop), Q (.bool (g i j)) s → wpAny (model X.prog X.w) X.A (f (.int i t) (.int j u)) Q E s) :
    OpR X f (rI0 fun i j => .bl (g i j)) := by
  intro pins s σ H x y v u Q I rx ry h
  obtain ⟨i, j, rfl, rfl, q⟩ := h
  obtain ⟨t, rfl⟩ := rx
  obtain ⟨t', rfl⟩ := ry
  exact rule i j t t' s _ _ ⟨.bl (g i j), H, I, rfl, q⟩

def CDiv (i j : Int) : Prop := 0 < j ∧ j < 1073741824
def CDivN (i j : Int) : Prop := j ≠ 0 ∧ j.natAbs < 1073741824
def CPow (i j : Int) : Prop := 0 ≤ j ∧ j ≤ 1000000 ∧ i.natAbs < 2 ^ 64
def CMul (i j : Int) : Prop := (-(2 ^ 64) < i ∧ i < 2 ^ 64) ∨ (-(2 ^ 64) < j ∧ j < 2 ^ 64)
theorem CMul.ok {i j : Int} (h : CMul i j) : IntMulOk i j := by
  rcases h with ⟨h1, h2⟩ | ⟨h1, h2⟩
  · exact .of_left (intBits_le_64 h1 h2)
  · exact .of_right (intBits_le_64 h1 h2)
theorem two_pow_nn (k : Nat) : (0 : Int) ≤ 2 ^ k := by
  rw [two_pow_cast]
  exact Int.natCast_nonneg _

theorem op_add : OpR X (binaryOp .Add) (rI0 fun i j => .int (i + j)) := opI0 fun _ _ _ _ _ _ _ q => add_int q
theorem op_sub : OpR X (binaryOp .Sub) (rI0 fun i j => .int (i - j)) := opI0 fun _ _ _ _ _ _ _ q => sub_int q
theorem op_mul : OpR X (binaryOp .Mult) (rI CMul fun i j => .int (i * j)) := opI fun _ _ _ _ _ _ _ hc q => mul_int q hc.ok
/-- // by a positive divisor -/
theorem op_fdiv : OpR X (binaryOp .FloorDiv) (rI CDiv fun i j => .int (i / j)) := opI fun i j _ _ _ _ _ hc q => by
  have h1 : (0 : Int) < j := hc.1
  have h2 : j < 1073741824 := hc.2
  exact floordiv_int (by omega) (by rw [Int.fdiv_eq_ediv_of_nonneg i (by omega)]; exact q) (.inl (PyProof.noPylong_small (by omega)))
theorem op_fdivN : OpR X (binaryOp .FloorDiv) (rI CDivN fun i j => .int (i.fdiv j)) := opI fun _ _ _ _ _ _ _ hc q => floordiv_int hc.1 q (.inl (PyProof.noPylong_small hc.2))
/-- % by a positive divisor of any size -/
theorem op_mod : OpR X (binaryOp .Mod) (rI (fun _ j => 0 < j) fun i j => .int (i % j)) := opI fun i j _ _ _ _ _ hc q => by
  have h1 : (0 : Int) < j := hc
  exact mod_int' (by omega) (by rw [Int.fmod_eq_emod_of_nonneg i (by omega)]; exact q)
theorem op_modN : OpR X (binaryOp .Mod) (rI (fun _ j => j ≠ 0) fun i j => .int (i.fmod j)) := opI fun _ _ _ _ _ _ _ hc q => mod_int' hc q
theorem op_pow : OpR X (binaryOp .Pow) (rI CPow fun i j => .int (i ^ j.toNat)) := opI fun _ _ _ _ _ _ _ hc q => pow_int_small hc.1 hc.2.1 hc.2.2 q
theorem op_shl : OpR X (binaryOp .LShift) (rI CPow fun i j => .int (i * 2 ^ j.toNat)) := opI fun _ _ _ _ _ _ _ hc q => lshift_int_small hc.1 hc.2.1 hc.2.2 q
theorem op_shr : OpR X (binaryOp .RShift) (rI (fun _ j => 0 ≤ j) fun i j => .int (i / 2 ^ j.toNat)) := opI fun i j _ _ _ _ _ hc q =>
  rshift_int hc (by rw [Int.fdiv_eq_ediv_of_nonneg i (two_pow_nn _)]; exact q)
theorem op_and : OpR X (binaryOp .BitAnd) (rI0 fun i j => .int (Builtin.bitAnd i j)) := opI0 fun _ _ _ _ _ _ _ q => and_int q
theorem op_or : OpR X (binaryOp .BitOr) (rI0 fun i j => .int (Builtin.bitOr i j)) := opI0 fun _ _ _ _ _ _ _ q => or_int q
theorem op_xor : OpR X (binaryOp .BitXor) (rI0 fun i j => .int (Builtin.bitXor i j)) := opI0 fun _ _ _ _ _ _ _ q => xor_int q

theorem iop_add : OpR X (inplaceOp .Add) (rI0 fun i j => .int (i + j)) := opI0 fun _ _ _ _ _ _ _ q => iadd_int q
theorem iop_sub : OpR X (inplaceOp .Sub) (rI0 fun i j => .int (i - j)) := opI0 fun _ _ _ _ _ _ _ q => isub_int q
theorem iop_mul : OpR X (inplaceOp .Mult) (rI CMul fun i j => .int (i * j)) := opI fun _ _ _ _ _ _ _ hc q => imul_int q hc.ok
theorem iop_fdiv : OpR X (inplaceOp .FloorDiv) (rI CDiv fun i j => .int (i / j)) := opI fun i j _ _ _ _ _ hc q => by
  have h1 : (0 : Int) < j := hc.1
  have h2 : j < 1073741824 := hc.2
  exact ifloordiv_int (by omega) (by rw [Int.fdiv_eq_ediv_of_nonneg i (by omega)]; exact q) (.inl (PyProof.noPylong_small (by omega)))
theorem iop_mod : OpR X (inplaceOp .Mod) (rI (fun _ j => 0 < j) fun i j => .int (i % j)) := opI fun i j _ _ _ _ _ hc q => by
  have h1 : (0 : Int) < j := hc
  exact imod_int (by omega) (by rw [Int.fmod_eq_emod_of_nonneg i (by omega)]; exact q)
theorem iop_shl : OpR X (inplaceOp .LShift) (rI CPow fun i j => .int (i * 2 ^ j.toNat)) := opI fun _ _ _ _ _ _ _ hc q => ilshift_int_small hc.1 hc.2.1 hc.2.2 q
theorem iop_shr : OpR X (inplaceOp .RShift) (rI (fun _ j => 0 ≤ j) fun i j => .int (i / 2 ^ j.toNat)) := opI fun i j _ _ _ _ _ hc q =>
  irshift_int hc (by rw [Int.fdiv_eq_ediv_of_nonneg i (two_pow_nn _)]; exact q)
theorem iop_and : OpR X (inplaceOp .BitAnd) (rI0 fun i j => .int (Builtin.bitAnd i j)) := opI0 fun _ _ _ _ _ _ _ q => iand_int q
theorem iop_or : OpR X (inplaceOp .BitOr) (rI0 fun i j => .int (Builtin.bitOr i j)) := opI0 fun _ _ _ _ _ _ _ q => ior_int q
theorem iop_xor : OpR X (inplaceOp .BitXor) (rI0 fun i j => .int (Builtin.bitXor i j)) := opI0 fun _ _ _ _ _ _ _ q => ixor_int q

theorem unI {f : Value → Sem Value} {g : Int → Int}
    (rule : ∀ (i : Int) (t : Tok) (s : Shared) (Q : Value → Shared → Prop) (E : Value → Shared → Prop), Q (.int (g i) s.toks) { s with toks := s.toks + 1 } → wpAny (model X.prog X.w) X.A (f (.int i t)) Q E s) :
    UnR X f (rU fun i => .int (g i)) := by
  intro pins s σ H x v Q I rx h
  obtain ⟨i, rfl, q⟩ := h
  obtain ⟨t, rfl⟩ := rx
  exact rule i t s _ _ ⟨.int (g i), H, I.tok _, ⟨_, rfl⟩, q⟩
theorem un_neg : UnR X (unaryOp .USub) (rU fun i => .int (-i)) := unI fun _ _ _ _ _ q => neg_int q
theorem un_inv : UnR X (unaryOp .Invert) (rU fun i => .int (Builtin.bitNot i)) := unI fun _ _ _ _ _ q => invert_int q

/-! ### bools among ints: n += (a < b) -/
theorem op_add_ib : OpR X (binaryOp .Add) (fun x y H Q => ∃ i k, x = .int i ∧ y = .bl k ∧ Q (.int (i + b2i k)) H) := by
  intro pins s σ H x y v u Q I rx ry h
  obtain ⟨i, k, rfl, rfl, q⟩ := h
  obtain ⟨t, rfl⟩ := rx
  cases ry
  exact add_int_bool ⟨.int (i + b2i k), H, I.tok _, ⟨_, rfl⟩, q⟩
end

/-! ### comparisons -/
/-- the scalars that == tells apart as data does -/
def scal : V → V → Bool
  | .non, .non => true | .non, .int _ => true | .int _, .non => true | .non, .bl _ => true | .bl _, .non => true | .non, .str _ => true | .str _, .non => true
  | .int _, .int _ => true | .bl _, .bl _ => true | .str _, .str _ => true | .byt _, .byt _ => true
  | .int _, .str _ => true | .str _, .int _ => true | .bl _, .str _ => true | .str _, .bl _ => true
  | _, _ => false
def rEq : R2 := fun x y H Q => scal x y = true ∧ Q (.bl (decide (x = y))) H
def rNe : R2 := fun x y H Q => scal x y = true ∧ Q (.bl (!decide (x = y))) H

theorem dec_int {i j : Int} : decide (V.int i = V.int j) = (i == j) := by
  rw [Bool.eq_iff_iff]
  simp
theorem dec_bl {i j : Bool} : decide (V.bl i = V.bl j) = (i == j) := by
  rw [Bool.eq_iff_iff]
  simp
theorem dec_str {i j : Str} : decide (V.str i = V.str j) = (i == j) := by
  rw [Bool.eq_iff_iff]
  simp
theorem dec_byt {i j : Array UInt8} : decide (V.byt i = V.byt j) = (i.toList == j.toList) := by
  rw [Bool.eq_iff_iff]
  cases i
  cases j
  simp

section
variable {X : Cx} {a b c : Expr} {ta tb tc : TE} {pos : Pos}
theorem fin_bl {pins : List (Addr × Obj)} {σ : St} {H : Hp} {s : Shared} {Q : VK} {k k' : Bool} (I : Inv X pins σ H s) (q : Q (.bl k) H) (e : k = k') : EP X pins σ Q (.bool k') s := by
  subst e
  exact ⟨.bl k, H, I, rfl, q⟩
theorem op_eq : OpR X (compareOp .Eq) rEq := by
  intro pins s σ H x y v u Q I rx ry h
  obtain ⟨hs, q⟩ := h
  cases x with
  | non =>
    cases rx
    cases y with
    | non => cases ry; exact PySem.EqNone.eq_none_none (fin_bl I q (by simp))
    | bl j => cases ry; exact PySem.EqNone.eq_none_bool (fin_bl I q (by simp))
    | int j => obtain ⟨t', rfl⟩ := ry; exact PySem.EqNone.eq_none_int (fin_bl I q (by simp))
    | str j => obtain ⟨t', rfl⟩ := ry; exact PySem.EqNone.eq_none_str (fin_bl I q (by simp))
    | _ => exact absurd (show false = true from hs) Bool.false_ne_true
  | bl i =>
    cases rx
    cases y with
    | non => cases ry; exact PySem.EqNone.eq_bool_none (fin_bl I q (by simp))
    | bl j => cases ry; exact eq_bool (fin_bl I q dec_bl)
    | str j => obtain ⟨t', rfl⟩ := ry; exact PySem.EqMixed.eq_bool_str (fin_bl I q (by simp))
    | _ => exact absurd (show false = true from hs) Bool.false_ne_true
  | int i =>
    obtain ⟨t, rfl⟩ := rx
    cases y with
    | non => cases ry; exact PySem.EqNone.eq_int_none (fin_bl I q (by simp))
    | int j => obtain ⟨t', rfl⟩ := ry; exact eq_int (fin_bl I q dec_int)
    | str j => obtain ⟨t', rfl⟩ := ry; exact PySem.EqMixed.eq_int_str (fin_bl I q (by simp))
    | _ => exact absurd (show false = true from hs) Bool.false_ne_true
  | str i =>
    obtain ⟨t, rfl⟩ := rx
    cases y with
    | non => cases ry; exact PySem.EqNone.eq_str_none (fin_bl I q (by simp))
    | bl j => cases ry; exact PySem.EqMixed.eq_str_bool (fin_bl I q (by simp))
    | int j => obtain ⟨t', rfl⟩ := ry; exact PySem.EqMixed.eq_str_int (fin_bl I q (by simp))
    | str j => obtain ⟨t', rfl⟩ := ry; exact eq_str (fin_bl I q dec_str)
    | _ => exact absurd (show false = true from hs) Bool.false_ne_true
  | byt i =>
    obtain ⟨t, rfl⟩ := rx
    cases y with
    | byt j => obtain ⟨t', rfl⟩ := ry; exact PySem.W.eq_bytes (fin_bl I q dec_byt)
    | _ => exact absurd (show false = true from hs) Bool.false_ne_true
  | _ => cases y <;> exact absurd (show false = true from hs) Bool.false_ne_true
theorem op_ne : OpR X (compareOp .NotEq) rNe := by
  intro pins s σ H x y v u Q I rx ry h
  obtain ⟨hs, q⟩ := h
  cases x with
  | non =>
    cases rx
    cases y with
    | non => cases ry; exact PySem.EqNone.ne_none_none (fin_bl I q (by simp))
    | bl j => cases ry; exact PySem.EqNone.ne_none_bool (fin_bl I q (by simp))
    | int j => obtain ⟨t', rfl⟩ := ry; exact PySem.EqNone.ne_none_int (fin_bl I q (by simp))
    | str j => obtain ⟨t', rfl⟩ := ry; exact PySem.EqNone.ne_none_str (fin_bl I q (by simp))
    | _ => exact absurd (show false = true from hs) Bool.false_ne_true
  | bl i =>
    cases rx
    cases y with
    | non => cases ry; exact PySem.EqNone.ne_bool_none (fin_bl I q (by simp))
    | bl j => cases ry; exact ne_bool (fin_bl I q (congrArg not dec_bl))
    | str j => obtain ⟨t', rfl⟩ := ry; exact PySem.EqMixed.ne_bool_str (fin_bl I q (by simp))
    | _ => exact absurd (show false = true from hs) Bool.false_ne_true
  | int i =>
    obtain ⟨t, rfl⟩ := rx
    cases y with
    | non => cases ry; exact PySem.EqNone.ne_int_none (fin_bl I q (by simp))
    | int j => obtain ⟨t', rfl⟩ := ry; exact ne_int (fin_bl I q (congrArg not dec_int))
    | str j => obtain ⟨t', rfl⟩ := ry; exact PySem.EqMixed.ne_int_str (fin_bl I q (by simp))
    | _ => exact absurd (show false = true from hs) Bool.false_ne_true
  | str i =>
    obtain ⟨t, rfl⟩ := rx
    cases y with
    | non => cases ry; exact PySem.EqNone.ne_str_none (fin_bl I q (by simp))
    | bl j => cases ry; exact PySem.EqMixed.ne_str_bool (fin_bl I q (by simp))
    | int j => obtain ⟨t', rfl⟩ := ry; exact PySem.EqMixed.ne_str_int (fin_bl I q (by simp))
    | str j => obtain ⟨t', rfl⟩ := ry; exact ne_str (fin_bl I q (congrArg not dec_str))
    | _ => exact absurd (show false = true from hs) Bool.false_ne_true
  | byt i =>
    obtain ⟨t, rfl⟩ := rx
    cases y with
    | byt j => obtain ⟨t', rfl⟩ := ry; exact PySem.W.ne_bytes (fin_bl I q (congrArg not dec_byt))
    | _ => exact absurd (show false = true from hs) Bool.false_ne_true
  | _ => cases y <;> exact absurd (show false = true from hs) Bool.false_ne_true

theorem op_lt : OpR X (compareOp .Lt) (rI0 fun i j => .bl (decide (i < j))) := opB0 fun _ _ _ _ _ _ _ q => lt_int q
theorem op_le : OpR X (compareOp .LtE) (rI0 fun i j => .bl (decide (i ≤ j))) := opB0 fun _ _ _ _ _ _ _ q => le_int q
theorem op_gt : OpR X (compareOp .Gt) (rI0 fun i j => .bl (decide (j < i))) := opB0 fun _ _ _ _ _ _ _ q => gt_int q
theorem op_ge : OpR X (compareOp .GtE) (rI0 fun i j => .bl (decide (j ≤ i))) := opB0 fun _ _ _ _ _ _ _ q => ge_int q
theorem op_lt_str : OpR X (compareOp .Lt) (fun x y H Q => ∃ i j, x = .str i ∧ y = .str j ∧ Q (.bl (decide (i.cps.toList < j.cps.toList))) H) := by
  intro pins s σ H x y v u Q I rx ry h
  obtain ⟨i, j, rfl, rfl, q⟩ := h
  obtain ⟨t, rfl⟩ := rx
  obtain ⟨t', rfl⟩ := ry
  exact lt_str (fin_bl I q rfl)
/-- the one string within the other -/
theorem op_in_str : OpR X (compareOp .In) (fun x y H Q => ∃ i j, x = .str i ∧ y = .str j ∧ Q (.bl (!(Builtin.Str.occurrences j i 0 j.length 1).isEmpty)) H) := by
  intro pins s σ H x y v u Q I rx ry h
  obtain ⟨i, j, rfl, rfl, q⟩ := h
  obtain ⟨t, rfl⟩ := rx
  obtain ⟨t', rfl⟩ := ry
  exact in_str (fin_bl I q rfl)

/-- is None, is not None: the right side a value none -/
theorem op_isN : OpR X (compareOp .Is) (fun x y H Q => y = .non ∧ Q (.bl (decide (x = .non))) H) := by
  intro pins s σ H x y v u Q I rx ry h
  obtain ⟨rfl, q⟩ := h
  cases ry
  refine is_none_gen (fin_bl I q ?_)
  cases x <;> first
    | (cases rx; rfl)
    | (obtain ⟨t, rfl⟩ := rx; rfl)
theorem op_notN : OpR X (compareOp .IsNot) (fun x y H Q => y = .non ∧ Q (.bl (!decide (x = .non))) H) := by
  intro pins s σ H x y v u Q I rx ry h
  obtain ⟨rfl, q⟩ := h
  cases ry
  refine isnot_none_gen (fin_bl I q ?_)
  cases x <;> first
    | (cases rx; rfl)
    | (obtain ⟨t, rfl⟩ := rx; rfl)

theorem op_notin_str : OpR X (compareOp .NotIn) (fun x y H Q => ∃ i j, x = .str i ∧ y = .str j ∧ Q (.bl (!(!(Builtin.Str.occurrences j i 0 j.length 1).isEmpty))) H) := by
  intro pins s σ H x y v u Q I rx ry h
  obtain ⟨i, j, rfl, rfl, q⟩ := h
  obtain ⟨t, rfl⟩ := rx
  obtain ⟨t', rfl⟩ := ry
  exact notIn_str (fin_bl I q rfl)
/-- is, is not of two objects that are tracked lists or instances -/
def isObj : HO → Bool
  | .lst _ => true
  | .ins _ _ _ => true
  | _ => false
theorem obj_there {pins : List (Addr × Obj)} {s : Shared} {σ : St} {H : Hp} {a : Addr} {o : HO} (I : Inv X pins σ H s) (h : H a = some o) (p : isObj o = true) : ∃ ob, s.heap.get? a = some ob ∧ ob.cls ≠ .type "tuple" := by
  cases o with
  | lst xs =>
    obtain ⟨_, its, n, _, e⟩ : xs.length ≤ sizeLine ∧ ∃ (its : List Value) (n : Nat), Vals xs its ∧ s.heap.get? a = some { cls := .type "list", data := .seq its.toArray n } := I.hok a _ h
    exact ⟨_, e, (by show Value.type "list" ≠ .type "tuple"; decide +kernel)⟩
  | ins C dx fs =>
    have x := I.hok a _ h
    obtain ⟨_, _, _, e, _⟩ := x
    exact ⟨_, e, (by show Value.ref C ≠ .type "tuple"; exact fun z => by cases z)⟩
  | _ => exact absurd (show false = true from p) Bool.false_ne_true
theorem op_is_ref : OpR X (compareOp .Is) (fun x y H Q => ∃ a b oa ob, x = .ref a ∧ y = .ref b ∧ H a = some oa ∧ isObj oa = true ∧ H b = some ob ∧ isObj ob = true ∧ Q (.bl (decide (a = b))) H) := by
  intro pins s σ H x y v u Q I rx ry h
  obtain ⟨a, b, oa, ob, rfl, rfl, ha, pa, hb, pb, q⟩ := h
  cases rx
  cases ry
  obtain ⟨o1, e1, n1⟩ := obj_there I ha pa
  obtain ⟨o2, e2, _⟩ := obj_there I hb pb
  by_cases z : a = b
  · subst z
    exact wpAny_is_ref_self (fin_bl I q (by simp))
  · exact wpAny_is_ref_other z e1 e2 n1 (fin_bl I q (by simp [z]))
theorem op_isnot_ref : OpR X (compareOp .IsNot) (fun x y H Q => ∃ a b oa ob, x = .ref a ∧ y = .ref b ∧ H a = some oa ∧ isObj oa = true ∧ H b = some ob ∧ isObj ob = true ∧ Q (.bl (!decide (a = b))) H) := by
  intro pins s σ H x y v u Q I rx ry h
  obtain ⟨a, b, oa, ob, rfl, rfl, ha, pa, hb, pb, q⟩ := h
  cases rx
  cases ry
  obtain ⟨o1, e1, n1⟩ := obj_there I ha pa
  obtain ⟨o2, e2, _⟩ := obj_there I hb pb
  by_cases z : a = b
  · subst z
    exact wpAny_isNot_ref_self (fin_bl I q (by simp))
  · exact wpAny_isNot_ref_other z e1 e2 n1 (fin_bl I q (by simp [z]))

/-- two rules for one operation: by cases -/
theorem OpR.or {f : Value → Value → Sem Value} {r r' : R2} (h : OpR X f r) (h' : OpR X f r') : OpR X f (fun x y H Q => r x y H Q ∨ r' x y H Q) := by
  intro pins s σ H x y v u Q I rx ry q
  rcases q with q | q
  · exact h pins s σ H x y v u Q I rx ry q
  · exact h' pins s σ H x y v u Q I rx ry q

theorem nomark (b : Expr) {op : CmpOp} (h : op ≠ .In := by decide) (h2 : op ≠ .NotIn := by decide) : behindInMarks op b = false := by
  have e1 : (op == CmpOp.In) = false := by cases op <;> first | rfl | exact absurd rfl h
  have e2 : (op == CmpOp.NotIn) = false := by cases op <;> first | rfl | exact absurd rfl h2
  cases b <;> simp [behindInMarks, e1, e2]
/-- a comparison as a value; hm: nomark b, or (for in, not in) by with_unfolding_all rfl -/
theorem pe_cmpR {op : CmpOp} {r : R2} (ho : OpR X (compareOp op) r) (ha : PE X a ta) (hb : PE X b tb) (hm : behindInMarks op b = false) : PE X (.Compare a [op] [b] pos) (tOp r ta tb) := by
  intro pins s σ H Q I h
  exact wpAny_Compare1 (binT ha hb I h fun v u s2 x y H2 I2 rx ry q => ho pins s2 σ H2 x y v u Q I2 rx ry q) hm
/-- a reading of a value as a test -/
def tTest (t : TE) : TT := fun σ H Q => t σ H fun x H' => ∃ k, x = .bl k ∧ Q k H'
theorem pt_cmpR {op : CmpOp} {r : R2} (ho : OpR X (compareOp op) r) (ha : PE X a ta) (hb : PE X b tb) (hm : behindInMarks op b = false) : PT X (.Compare a [op] [b] pos) (tTest (tOp r ta tb)) := by
  intro pins s σ H Q I h
  refine wpAny_isTrue_Compare1 (thn (ha pins s σ H _ I h) fun v s1 ⟨x, H1, I1, r1, q1⟩ => thn (hb pins s1 σ H1 _ I1 q1) fun u s2 ⟨y, H2, I2, r2, q2⟩ =>
    thn (ho pins s2 σ H2 x y v u _ I2 r1 r2 q2) fun c s3 ⟨z, H3, I3, r3, k, e, q3⟩ => ?_) hm
  subst e
  cases r3
  exact wpAny_truthy_bool ⟨H3, I3, q3⟩
/-- a op1 b op2 c -/
def tChain (r r' : R2) (ta tb tc : TE) : TE := fun σ H Q => ta σ H fun x H1 => tb σ H1 fun y H2 => r x y H2 fun z H3 => ∃ k, z = .bl k ∧
  (if k = true then tc σ H3 fun w' H4 => r' y w' H4 Q else Q (.bl false) H3)
theorem pe_chain {op op' : CmpOp} {r r' : R2} (ho : OpR X (compareOp op) r) (ho' : OpR X (compareOp op') r') (ha : PE X a ta) (hb : PE X b tb) (hc : PE X c tc)
    (hm : lastMarks [op, op'] [b, c] = false := by with_unfolding_all rfl) : PE X (.Compare a [op, op'] [b, c] pos) (tChain r r' ta tb tc) := by
  intro pins s σ H Q I h
  refine Compare_chain (thn (ha pins s σ H _ I h) fun v s1 ⟨x, H1, I1, r1, q1⟩ => chain_link (thn (hb pins s1 σ H1 _ I1 q1) fun u s2 ⟨y, H2, I2, r2, q2⟩ =>
    thn (ho pins s2 σ H2 x y v u _ I2 r1 r2 q2) fun d s3 ⟨z, H3, I3, r3, k, e, q3⟩ => ?_)) hm
  subst e
  cases r3
  refine wpAny_truthy_bool ?_
  cases k with
  | false => exact ite_ff ⟨.bl false, H3, I3, rfl, q3⟩
  | true => exact ite_tt (chain_last (thn (hc pins s3 σ H3 _ I3 q3) fun w' s4 ⟨z', H4, I4, r4, q4⟩ => ho' pins s4 σ H4 y z' u w' Q I4 r2 r4 q4))
theorem pt_chain {op op' : CmpOp} {r r' : R2} (ho : OpR X (compareOp op) r) (ho' : OpR X (compareOp op') r') (ha : PE X a ta) (hb : PE X b tb) (hc : PE X c tc)
    (hm : lastMarks [op, op'] [b, c] = false := by with_unfolding_all rfl) : PT X (.Compare a [op, op'] [b, c] pos) (tTest (tChain r r' ta tb tc)) := by
  intro pins s σ H Q I h
  refine isTrue_chain (thn (ha pins s σ H _ I h) fun v s1 ⟨x, H1, I1, r1, q1⟩ => test_link (thn (hb pins s1 σ H1 _ I1 q1) fun u s2 ⟨y, H2, I2, r2, q2⟩ =>
    thn (ho pins s2 σ H2 x y v u _ I2 r1 r2 q2) fun d s3 ⟨z, H3, I3, r3, k, e, q3⟩ => ?_)) hm
  subst e
  cases r3
  refine wpAny_truthy_bool ?_
  cases k with
  | false =>
    obtain ⟨k', e', q'⟩ := q3
    cases e'
    exact ite_ff ⟨H3, I3, q'⟩
  | true =>
    refine ite_tt (test_last (thn (hc pins s3 σ H3 _ I3 q3) fun w' s4 ⟨z', H4, I4, r4, q4⟩ => thn (ho' pins s4 σ H4 y z' u w' _ I4 r2 r4 q4) fun d' s5 ⟨z2, H5, I5, r5, k2, e2, q5⟩ => ?_))
    subst e2
    cases r5
    exact wpAny_truthy_bool ⟨H5, I5, q5⟩

/-! ### truth -/
/-- a value's truth by the abstract heap -/
def TruV (K : PySem.W.Frag) (x : V) (H : Hp) (k : Bool) : Prop :=
  match x with
  | .non => k = false
  | .bl b => k = b
  | .int i => k = (i != 0)
  | .str y => y.length ≤ sizeLine ∧ k = ((y.length : Int) != 0)
  | .byt y => y.size ≤ sizeLine ∧ k = ((y.size : Int) != 0)
  | .ref p => (∃ xs, SqL K H p xs ∧ k = !xs.isEmpty) ∨ (∃ xs, SqT K H p xs ∧ k = !xs.isEmpty) ∨ ∃ kvs, H p = some (.dK kvs) ∧ k = !kvs.isEmpty
  | _ => False
theorem isEmpty_kv {κ : Type} {kvs : List (κ × V)} {vs : List (κ × Value)} (r : KV kvs vs) : (!vs.isEmpty) = !kvs.isEmpty := by
  cases r <;> rfl
theorem isEmpty_of {xs : List V} {its : List Value} (r : Vals xs its) : (!its.toArray.isEmpty) = !xs.isEmpty := by
  cases r <;> simp
theorem line63 : (sizeLine : Nat) < 2 ^ 63 := by rw [sizeLine_eq]; decide
theorem tru_ok : TruR X (fun x H Q => ∃ k, TruV X.K x H k ∧ Q k H) := by
  intro pins s σ H x v Q I rx h
  obtain ⟨k, e, q⟩ := h
  have hl := line63
  have hs : sizeLine = 16777216 := sizeLine_eq
  cases x with
  | non =>
    cases rx
    have e' : k = false := e
    subst e'
    exact truthy_none ⟨H, I, q⟩
  | bl b =>
    cases rx
    have e' : k = b := e
    subst e'
    exact wpAny_truthy_bool ⟨H, I, q⟩
  | int i =>
    obtain ⟨t, rfl⟩ := rx
    have e' : k = (i != 0) := e
    subst e'
    exact PySem.P.truthy_int ⟨H, I, q⟩
  | str y =>
    obtain ⟨t, rfl⟩ := rx
    obtain ⟨hy, e'⟩ : y.length ≤ sizeLine ∧ k = ((y.length : Int) != 0) := e
    subst e'
    exact PySem.P.truthy_str (by omega) ⟨H, I.tok _, q⟩
  | byt y =>
    obtain ⟨t, rfl⟩ := rx
    obtain ⟨hy, e'⟩ : y.size ≤ sizeLine ∧ k = ((y.size : Int) != 0) := e
    subst e'
    exact PySem.W.truthy_bytes (by omega) ⟨H, I.tok _, q⟩
  | ref p =>
    cases rx
    have e' : (∃ xs, SqL X.K H p xs ∧ k = !xs.isEmpty) ∨ (∃ xs, SqT X.K H p xs ∧ k = !xs.isEmpty) ∨ ∃ kvs, H p = some (.dK kvs) ∧ k = !kvs.isEmpty := e
    rcases e' with ⟨xs, hx, e'⟩ | ⟨xs, hx, e'⟩ | ⟨kvs, hx, e'⟩
    · subst e'
      obtain ⟨its, r, pl, hz⟩ := I.list hx
      have hlen := r.length
      exact wpAny_truthy_list pl.isList (by simp only [List.size_toArray]; omega) ⟨H, I.tok _, by rw [isEmpty_of r]; exact q⟩
    · subst e'
      obtain ⟨its, r, pl, hz⟩ := I.tuple hx
      have hlen := r.length
      exact truthy_tuple pl (by simp only [List.size_toArray]; omega) ⟨H, I.tok _, by rw [isEmpty_of r]; exact q⟩
    · subst e'
      obtain ⟨hz, hS, vs, r, m⟩ : kvs.length ≤ sizeLine ∧ (p == sysModules) = false ∧ ∃ vs, KV kvs vs ∧ s.heap.DictOf (mixKind X.prog X.w) p vs := I.hok p _ hx
      have hlen : kvs.length = vs.length := Paired.length r
      exact wpAny_truthy_dict hS m (by omega) ⟨H, I.tok _, by rw [isEmpty_kv r]; exact q⟩
  | _ => exact (show False from e).elim
/-- any expression whose test is its value's truth (a name, a call, a subscript, a field ..: he by fun _ => rfl) -/
theorem pt_truth (ha : PE X a ta) (he : ∀ whole, isTrue a X.env whole = (do let v ← whole; standAt a.pos; holding [v] (truthy v))) :
    PT X a (fun σ H Q => ta σ H fun x H' => ∃ k, TruV X.K x H' k ∧ Q k H') := by
  intro pins s σ H Q I h
  exact isTrue_plain (thn (ha pins s σ H _ I h) fun v s1 ⟨x, H1, I1, r1, q1⟩ => tru_ok pins s1 σ H1 x v Q I1 r1 q1) (he _)

/-! ### strs and bytes -/
theorem pe_byt {x : List UInt8} {k : Nat} : PE X (.Constant (.bytes x) k pos) (fun _ H Q => Q (.byt x.toArray) H) := fun _ _ _ H _ I h => PySem.W.Constant_bytes ⟨.byt x.toArray, H, I.tok _, ⟨_, rfl⟩, h⟩
theorem op_add_str : OpR X (binaryOp .Add) (fun x y H Q => ∃ i j, x = .str i ∧ y = .str j ∧ i.length + j.length ≤ sizeLine ∧ Q (.str (i ++ j)) H) := by
  intro pins s σ H x y v u Q I rx ry h
  obtain ⟨i, j, rfl, rfl, hz, q⟩ := h
  obtain ⟨t, rfl⟩ := rx
  obtain ⟨t', rfl⟩ := ry
  exact add_str (fun t' tk => ⟨.str (i ++ j), H, I.tok _, ⟨_, rfl⟩, q⟩) hz
theorem iop_add_str : OpR X (inplaceOp .Add) (fun x y H Q => ∃ i j, x = .str i ∧ y = .str j ∧ i.length + j.length ≤ sizeLine ∧ Q (.str (i ++ j)) H) := by
  intro pins s σ H x y v u Q I rx ry h
  obtain ⟨i, j, rfl, rfl, hz, q⟩ := h
  obtain ⟨t, rfl⟩ := rx
  obtain ⟨t', rfl⟩ := ry
  exact iadd_str (fun t' tk => ⟨.str (i ++ j), H, I.tok _, ⟨_, rfl⟩, q⟩) hz
theorem op_add_byt : OpR X (binaryOp .Add) (fun x y H Q => ∃ i j, x = .byt i ∧ y = .byt j ∧ i.size + j.size ≤ 16777216 ∧ Q (.byt (i ++ j)) H) := by
  intro pins s σ H x y v u Q I rx ry h
  obtain ⟨i, j, rfl, rfl, hz, q⟩ := h
  obtain ⟨t, rfl⟩ := rx
  obtain ⟨t', rfl⟩ := ry
  exact PySem.W.KBy.add_bytes hz (fun t' tk => ⟨.byt (i ++ j), H, I.tok _, ⟨_, rfl⟩, q⟩)

def PlainIxT (b : Expr) : Prop := ∀ o i, subscripted b false o i = operate [o, i] (getItem o i)
/-- s[i], 0 ≤ i < len -/
theorem pe_item_str (ha : PE X a ta) (hb : PE X b tb) (hs : PlainIxT b) :
    PE X (.Subscript a b pos) (tOp (fun x y H Q => ∃ z i c, x = .str z ∧ y = .int i ∧ 0 ≤ i ∧ i < 2 ^ 63 ∧ i < z.length ∧ z.cps[i.toNat]? = some c ∧ Q (.str ⟨#[c]⟩) H) ta tb) := by
  intro pins s σ H Q I h
  refine Subscript_ (binT ha hb I h fun v u s2 x y H2 I2 rx ry q => ?_)
  obtain ⟨z, i, c, rfl, rfl, h0, h63, h1, hc, q⟩ := q
  obtain ⟨t, rfl⟩ := rx
  obtain ⟨t', rfl⟩ := ry
  have e : seqIndex? i z.length = some i.toNat := PySem.StrLaws.seqIndex_nonneg h0 h1
  exact tail_any (typeIs_str s2 z t) slot_str_getitem.lookup (getItem_str (c := c) (by
    have e1 : decide (i < -(2 ^ 63 : Int)) = false := decide_eq_false (by omega)
    have e2 : decide (i ≥ 2 ^ 63) = false := decide_eq_false (by omega)
    rw [e1, e2] <;> rfl) (by rw [e]; exact hc) ⟨.str ⟨#[c]⟩, H2, I2.tok _, ⟨_, rfl⟩, q⟩) (hs _ _)
/-- b[i], 0 ≤ i < len -/
theorem pe_item_byt (ha : PE X a ta) (hb : PE X b tb) (hs : PlainIxT b) :
    PE X (.Subscript a b pos) (tOp (fun x y H Q => ∃ (z : List UInt8) (i : Int), x = .byt z.toArray ∧ y = .int i ∧ z.length ≤ sizeLine ∧ 0 ≤ i ∧ i < z.length ∧ Q (.int ((z.getD i.toNat 0).toNat : Nat)) H) ta tb) := by
  intro pins s σ H Q I h
  refine Subscript_ (binT ha hb I h fun v u s2 x y H2 I2 rx ry q => ?_)
  obtain ⟨z, i, rfl, rfl, hz, h0, h1, q⟩ := q
  obtain ⟨t, rfl⟩ := rx
  obtain ⟨t', rfl⟩ := ry
  have hl : sizeLine = 16777216 := sizeLine_eq
  exact tail_any (PySem.W.typeIs_bytes s2 z.toArray t) PySem.W.FB.slot_bytes_getitem.lookup (PySem.W.getItem_bytes (by omega) h0 h1 ⟨.int ((z.getD i.toNat 0).toNat : Nat), H2, I2.tok _, ⟨_, rfl⟩, q⟩) (hs _ _)

/-! ### scalar builtins, by CallR -/
theorem vals1 {x : V} {us : List Value} (r : Vals [x] us) : ∃ u, us = [u] ∧ RelV x u := by
  cases r with
  | cons r1 r2 => cases r2; exact ⟨_, rfl, r1⟩
theorem vals2 {x y : V} {us : List Value} (r : Vals [x, y] us) : ∃ u w', us = [u, w'] ∧ RelV x u ∧ RelV y w' := by
  cases r with
  | cons r1 r2 =>
    cases r2 with
    | cons r3 r4 => cases r4; exact ⟨_, _, rfl, r1, r3⟩
theorem call_abs : CallR X (.builtin "abs") (fun xs H Q => ∃ i, xs = [.int i] ∧ Q (.int (if i < 0 then -i else i)) H) := by
  intro pins s σ H xs us Q I r h
  obtain ⟨i, rfl, q⟩ := h
  obtain ⟨u, rfl, t, rfl⟩ := vals1 r
  exact call_abs_int fun u tk => ⟨.int (if i < 0 then -i else i), H, I.tok _, ⟨_, rfl⟩, q⟩
theorem call_max2 (hc : X.calm = true) : CallR X (.builtin "max") (fun xs H Q => ∃ i j, xs = [.int i, .int j] ∧ Q (.int (if j > i then j else i)) H) := by
  intro pins s σ H xs us Q I r h
  obtain ⟨i, j, rfl, q⟩ := h
  obtain ⟨u, w', rfl, ⟨t, rfl⟩, ⟨t', rfl⟩⟩ := vals2 r
  refine max_two_ints (I.ok.hd hc) fun h' tk k => ⟨_, H, I.kept k, ?_, q⟩
  by_cases hj : j > i
  · rw [if_pos hj, if_pos hj]; exact ⟨_, rfl⟩
  · rw [if_neg hj, if_neg hj]; exact ⟨_, rfl⟩
theorem call_min2 (hc : X.calm = true) : CallR X (.builtin "min") (fun xs H Q => ∃ i j, xs = [.int i, .int j] ∧ Q (.int (if j < i then j else i)) H) := by
  intro pins s σ H xs us Q I r h
  obtain ⟨i, j, rfl, q⟩ := h
  obtain ⟨u, w', rfl, ⟨t, rfl⟩, ⟨t', rfl⟩⟩ := vals2 r
  refine min_two_ints (I.ok.hd hc) fun h' tk k => ⟨_, H, I.kept k, ?_, q⟩
  by_cases hj : j < i
  · rw [if_pos hj, if_pos hj]; exact ⟨_, rfl⟩
  · rw [if_neg hj, if_neg hj]; exact ⟨_, rfl⟩
theorem call_int1 : CallR X (.type "int") (fun xs H Q => (∃ i, xs = [.int i] ∧ Q (.int i) H) ∨ ∃ k, xs = [.bl k] ∧ Q (.int (if k then 1 else 0)) H) := by
  intro pins s σ H xs us Q I r h
  rcases h with ⟨i, rfl, q⟩ | ⟨k, rfl, q⟩
  · obtain ⟨u, rfl, t, rfl⟩ := vals1 r
    exact call_int_int ⟨.int i, H, I, ⟨_, rfl⟩, q⟩
  · obtain ⟨u, rfl, r1⟩ := vals1 r
    cases r1
    exact call_int_bool ⟨.int (if k then 1 else 0), H, I.tok _, ⟨_, rfl⟩, q⟩
theorem call_bool1 : CallR X (.type "bool") (fun xs H Q => (∃ i, xs = [.int i] ∧ Q (.bl (i != 0)) H) ∨ ∃ k, xs = [.bl k] ∧ Q (.bl k) H) := by
  intro pins s σ H xs us Q I r h
  rcases h with ⟨i, rfl, q⟩ | ⟨k, rfl, q⟩
  · obtain ⟨u, rfl, t, rfl⟩ := vals1 r
    exact call_bool_int ⟨.bl (i != 0), H, I, rfl, q⟩
  · obtain ⟨u, rfl, r1⟩ := vals1 r
    cases r1
    exact call_bool_bool ⟨.bl k, H, I, rfl, q⟩
theorem call_str_int : CallR X (.type "str") (fun xs H Q => ∃ i, xs = [.int i] ∧ i.natAbs.log2 < 1920 ∧ Q (.str (toString i)) H) := by
  intro pins s σ H xs us Q I r h
  obtain ⟨i, rfl, hz, q⟩ := h
  obtain ⟨u, rfl, t, rfl⟩ := vals1 r
  exact PySem.P.str_of_int hz ⟨.str _, H, I.tok _, ⟨_, rfl⟩, q⟩
theorem call_ord : CallR X (.builtin "ord") (fun xs H Q => ∃ x, xs = [.str x] ∧ x.length = 1 ∧ Q (.int (x.cps.getD 0 0 : Nat)) H) := by
  intro pins s σ H xs us Q I r h
  obtain ⟨x, rfl, hz, q⟩ := h
  obtain ⟨u, rfl, t, rfl⟩ := vals1 r
  exact ord_of_one hz ⟨.int _, H, I.tok _, ⟨_, rfl⟩, q⟩
theorem call_chr : CallR X (.builtin "chr") (fun xs H Q => ∃ i, xs = [.int i] ∧ 0 ≤ i ∧ i ≤ 1114111 ∧ Q (.str ⟨#[i.toNat]⟩) H) := by
  intro pins s σ H xs us Q I r h
  obtain ⟨i, rfl, h0, h1, q⟩ := h
  obtain ⟨u, rfl, t, rfl⟩ := vals1 r
  exact chr_of_range h0 h1 ⟨.str _, H, I.tok _, ⟨_, rfl⟩, q⟩
/-- len of a str, a bytes, a list, a tuple -/
def LenV (K : PySem.W.Frag) (x : V) (H : Hp) (n : Nat) : Prop :=
  match x with
  | .str y => y.length ≤ sizeLine ∧ n = y.length
  | .byt y => y.size ≤ sizeLine ∧ n = y.size
  | .ref p => (∃ xs, SqL K H p xs ∧ n = xs.length) ∨ ∃ xs, SqT K H p xs ∧ n = xs.length
  | _ => False
theorem call_len : CallR X (.builtin "len") (fun xs H Q => ∃ x n, xs = [x] ∧ LenV X.K x H n ∧ Q (.int n) H) := by
  intro pins s σ H xs us Q I r h
  obtain ⟨x, n, rfl, e, q⟩ := h
  obtain ⟨u, rfl, rx⟩ := vals1 r
  have hl := line63
  have hs : sizeLine = 16777216 := sizeLine_eq
  cases x with
  | str y =>
    obtain ⟨t, rfl⟩ := rx
    obtain ⟨hy, e'⟩ : y.length ≤ sizeLine ∧ n = y.length := e
    subst e'
    exact len_str (by omega) ⟨.int _, H, I.tok _, ⟨_, rfl⟩, q⟩
  | byt y =>
    obtain ⟨t, rfl⟩ := rx
    obtain ⟨hy, e'⟩ : y.size ≤ sizeLine ∧ n = y.size := e
    subst e'
    exact PySem.W.len_bytes (by omega) ⟨.int _, H, I.tok _, ⟨_, rfl⟩, q⟩
  | ref p =>
    cases rx
    have e' : (∃ xs, SqL X.K H p xs ∧ n = xs.length) ∨ ∃ xs, SqT X.K H p xs ∧ n = xs.length := e
    rcases e' with ⟨xs, hx, e'⟩ | ⟨xs, hx, e'⟩
    · subst e'
      obtain ⟨its, r', pl, hz⟩ := I.list hx
      have hlen := r'.length
      exact Calls.call_len_list pl.isList (by simp only [List.size_toArray]; omega) ⟨.int xs.length, H, I.tok _, ⟨_, by simp only [List.size_toArray]; rw [hlen]⟩, q⟩
    · subst e'
      obtain ⟨its, r', pl, hz⟩ := I.tuple hx
      have hlen := r'.length
      exact len_tuple pl (by simp only [List.size_toArray]; omega) ⟨.int xs.length, H, I.tok _, ⟨_, by simp only [List.size_toArray]; rw [hlen]⟩, q⟩
  | _ => exact (show False from e).elim
/-- divmod: a new tuple -/
theorem call_divmod : CallR X (.builtin "divmod") (fun xs H Q => ∃ i j, xs = [.int i, .int j] ∧ CDiv i j ∧ ∀ p, H p = none → Q (.ref p) (upd H p (.tup [.int (i / j), .int (i % j)]))) := by
  intro pins s σ H xs us Q I r h
  obtain ⟨i, j, rfl, ⟨h1, h2⟩, q⟩ := h
  obtain ⟨u, w', rfl, ⟨t, rfl⟩, ⟨t', rfl⟩⟩ := vals2 r
  refine divmod_int (by omega) ?_ (.inl (PyProof.noPylong_small (by omega)))
  rw [Int.fdiv_eq_ediv_of_nonneg i (by omega), Int.fmod_eq_emod_of_nonneg i (by omega)]
  have hn : H s.heap.objs.size = none := I.hok.fresh (Nat.le_refl _)
  refine ⟨.ref s.heap.objs.size, _, ?_, rfl, q _ hn⟩
  refine I.laid (fun b o e => Heap.get?_push_of_some _ e) (Nat.le_refl _) ⟨by simp only [List.length_cons, List.length_nil]; rw [sizeLine_eq]; decide, [.int (i / j) s.toks, .int (i % j) (s.toks + 1)], .cons ⟨_, rfl⟩ (.cons ⟨_, rfl⟩ .nil), ?_⟩
  exact ⟨_, Heap.get?_push_size s.heap rfl, rfl, 0, rfl⟩
end
end L2

namespace L2
open PySem PySem.Spec PyProof.Rows

/-! ### an instance, its attributes a map -/
structure ObjM (h : Heap) (x dx C : Addr) (mA : Str → Option Value) : Prop where
  obj : h.get? x = some (PySem.W.instObj C dx)
  ns : h.Ns1 dx mA
  ne : dx ≠ x

theorem lookIn_ns {h : Heap} {dx : Addr} {mA : Str → Option Value} (n : h.Ns1 dx mA) : ∃ od, h.get? dx = some od ∧ ∀ name, PySem.W.lookIn name od = some (mA name) := by
  obtain ⟨o, es, ep, ho, hd, hk, _, hm⟩ := n
  refine ⟨o, ho, fun name => ?_⟩
  have e := hm name
  unfold nsFind findBy at e
  rw [← Array.find?_toList] at e
  unfold PySem.W.lookIn
  rw [hd]
  dsimp only
  split
  · rename_i y q
    rw [q] at e
    exact congrArg some e
  · rename_i q
    rw [q] at e
    have a : es.toList.any (·.refKey) = false := by
      rw [List.any_eq_false]
      intro y hy
      obtain ⟨z, t, hkey⟩ := hk y (Array.mem_toList_iff.mp hy)
      simp [DictEntry.refKey, hkey]
    have a' : ¬ es.toList.any (·.refKey) = true := by rw [a]; exact Bool.false_ne_true
    rw [if_neg a']
    exact congrArg some e

theorem ObjM.look {h : Heap} {x dx C : Addr} {mA : Str → Option Value} (I : ObjM h x dx C mA) : ∃ od, PySem.W.InstAt h x (PySem.W.instObj C dx) C (some od) ∧ ∀ name, PySem.W.lookIn name od = some (mA name) :=
  let ⟨od, ho, hl⟩ := lookIn_ns I.ns
  ⟨od, ⟨I.obj, rfl, rfl, ho⟩, hl⟩

section
variable {prog : Program} {w : World} {A : Around} {E : Value → Shared → Prop} {s : Shared} {K : PySem.W.Frag} {x dx C f : Addr} {mA : Str → Option Value} {name : Str} {v : Value}

theorem get_map {expr : Bool} {Q : Value → Shared → Prop} (X : K.In s.heap) (I : ObjM s.heap x dx C mA) (hg : PySem.W.plainGet K C name = true) (hh : PySem.W.hasDictIn K C = true)
    (ha : PySem.W.findIn K (.ref C) name = some none) (hv : mA name = some v) (hv' : PySem.W.handedIn v = true) (h : Q v { s with toks := s.toks + 1 }) :
    wpAny (model prog w) A (getAttr (.ref x) name expr) Q E s := by
  obtain ⟨od, J, hl⟩ := I.look
  exact PySem.W.get_value X J (PySem.W.plainGet_of hg).1 (PySem.W.findObj_own hh ha rfl (by rw [hl, hv])) hv' h

theorem get_const {expr : Bool} {a : Value} {Q : Value → Shared → Prop} (X : K.In s.heap) (I : ObjM s.heap x dx C mA) (hg : PySem.W.plainGet K C name = true) (hh : PySem.W.hasDictIn K C = true)
    (ha : PySem.W.findIn K (.ref C) name = some (some a)) (hn : PySem.W.specialIn K a "__get__" = some none) (hc : PySem.W.copiedNames.contains name = false) (hv : mA name = none) (hv' : PySem.W.handedIn a = true)
    (h : Q a { s with toks := s.toks + 1 }) : wpAny (model prog w) A (getAttr (.ref x) name expr) Q E s := by
  obtain ⟨od, J, hl⟩ := I.look
  exact PySem.W.get_value X J (PySem.W.plainGet_of hg).1 (PySem.W.findObj_cls hh ha hn hv' hc (by rw [hl, hv])) hv' h

theorem get_meth {pl : Sem Bool} {Q : Value × List Value → Shared → Prop} (X : K.In s.heap) (I : ObjM s.heap x dx C mA) (hg : PySem.W.plainGet K C name = true)
    (hf : PySem.W.findIn K (.ref C) name = some (some (.ref f))) (ht : PySem.W.isFn K (.ref f) = true) (hv : mA name = none) (h : Q (.ref f, [.ref x]) s) :
    wpAny (model prog w) A (getMethod (.ref x) name pl) Q E s := by
  obtain ⟨od, J, hl⟩ := I.look
  exact PySem.W.method_fn X J (PySem.W.plainGet_of hg).1 (PySem.W.plainGet_of hg).2 hf (beq_iff_eq.mp ht) (by show (PySem.W.lookIn name od).map (·.isSome) = some false; rw [hl, hv]; rfl) h

theorem set_map {ns : List Str} {Q : Unit → Shared → Prop} (X : K.In s.heap) (I : ObjM s.heap x dx C mA)
    (hs : PySem.W.findIn K (.ref C) "__setattr__" = some (some (.builtin "object.__setattr__"))) (hp : PySem.W.plainOver K C = true) (ht : PySem.W.takerIn K C name = some none) (hh : PySem.W.hasDictIn K C = true)
    (hw : PySem.Within mA ns) (hsz : ns.length ≤ sizeLine)
    (h : ∀ h', ObjM h' x dx C (fun y => if y = name then some v else mA y) → Heap.SameBut dx s.heap h' → Q () { s with heap := h', toks := s.toks + 2 }) :
    wpAny (model prog w) A (setAttr (.ref x) name v) Q E s := by
  obtain ⟨od, J, hl⟩ := I.look
  refine PySem.W.set_plain X J hs (PySem.W.osa_open (s := { s with toks := s.toks + 1 }) (r := none) X J hp ht fun b => ?_)
  obtain ⟨cd, hc, hd'⟩ := PySem.W.any_some hh
  have hx : s.heap.get? x = some ⟨.ref C, some dx, .plain, #[]⟩ := I.obj
  refine wpAny_bind (wpAny_pure (wpAny_bind (wpAny_bind (wpAny_loadPart hx (wpAny_bind (PySem.W.Looks.here (s := { s with toks := s.toks + 1 }) (PySem.W.looks_clsIn X hc) ?_))))))
  rw [hd']
  refine wpAny_pure (a := some dx) (wpAny_bind (wpAny_pure (wpAny_bind ?_)))
  refine wpAny_nsSet1 (s := { s with toks := s.toks + 1 }) I.ns fun h' hn2 hs2 => ?_
  obtain ⟨oD, esD, epD, hoD, hdD, hcD⟩ := hn2.count (PySem.Within.cons name v hw)
  refine wpAny_bind (wpAny_lookBehind hoD (by rw [hdD]; exact pastItsLine_dict (Nat.le_trans hcD (by rw [List.length_cons]; omega))) ?_)
  exact wpAny_pure (h _ ⟨(hs2.2 _ (Ne.symm I.ne)).trans I.obj, hn2, I.ne⟩ hs2)

/-- C(..): the dict at the heap's end, the instance behind it; then its __init__ -/
theorem make_map {R : Result → Shared → Prop} {vs : List Value} {kw : List (Str × Value)} (X : K.In s.heap) (hm : PySem.W.makesIn K C = true)
    (hi : PySem.W.findIn K (.ref C) "__init__" = some (some (.ref f))) (hf : PySem.W.typeIn K (.ref f) = some (.type "function"))
    (h : codeAny (model prog w) (A.under (.builtin "type.__call__" ⟨.ref C :: vs, kw⟩)) (.call (.ref f) ⟨.ref (s.heap.objs.size + 1) :: vs, kw⟩) (PySem.W.InitBack (s.heap.objs.size + 1) R)
      { s with heap := (s.heap.push PySem.W.emptyDict).push (PySem.W.instObj C s.heap.objs.size) }) :
    codeAny (model prog w) A (.call (.ref C) ⟨vs, kw⟩) R s := by
  obtain ⟨hh, g, d, t, os⟩ := s
  exact PySem.W.make_core (PySem.W.makes_of X hm) (PySem.W.looks_findIn X hi) (fun self => PySem.W.bind_fn X self hf) (.inl rfl) h
/-- C() where there is no __init__ but object's -/
theorem make_map0 {R : Result → Shared → Prop} (X : K.In s.heap) (hm : PySem.W.makesIn K C = true)
    (hi : PySem.W.findIn K (.ref C) "__init__" = some (some (.builtin "object.__init__")))
    (hb : ∀ self, PySem.W.Looks (model prog w) s.heap (bindSpecial (.builtin "object.__init__") self) (.builtin "object.__init__", [self]))
    (h : codeAny (model prog w) (A.under (.builtin "type.__call__" ⟨[.ref C], []⟩)) (.call (.builtin "object.__init__") ⟨[.ref (s.heap.objs.size + 1)], []⟩) (PySem.W.InitBack (s.heap.objs.size + 1) R)
      { s with heap := (s.heap.push PySem.W.emptyDict).push (PySem.W.instObj C s.heap.objs.size) }) :
    codeAny (model prog w) A (.call (.ref C) ⟨[], []⟩) R s := by
  obtain ⟨hh, g, d, t, os⟩ := s
  exact PySem.W.make_core (PySem.W.makes_of X hm) (PySem.W.looks_findIn X hi) hb (.inr ⟨rfl, rfl⟩) h
end

/-! ### the attributes as a list of pairs -/
def putF (f : Str) (v : V) : List (Str × V) → List (Str × V)
  | [] => [(f, v)]
  | (g, x) :: r => if g = f then (g, v) :: r else (g, x) :: putF f v r
theorem lookup_putF (f g : Str) (v : V) : ∀ fs : List (Str × V), (putF f v fs).lookup g = if g = f then some v else fs.lookup g
  | [] => by
    show List.lookup g [(f, v)] = _
    by_cases h : g = f
    · have hb : (g == f) = true := beq_iff_eq.mpr h
      simp only [List.lookup, hb, if_pos h]
    · have hb : (g == f) = false := beq_eq_false_iff_ne.mpr h
      simp only [List.lookup, hb, if_neg h]
  | (k, x) :: r => by
    have ih := lookup_putF f g v r
    rw [show putF f v ((k, x) :: r) = (if k = f then (k, v) :: r else (k, x) :: putF f v r) from rfl]
    by_cases hk : k = f
    · rw [if_pos hk]
      by_cases h : g = k
      · have hb : (g == k) = true := beq_iff_eq.mpr h
        simp only [List.lookup, hb, if_pos (h.trans hk)]
      · have hb : (g == k) = false := beq_eq_false_iff_ne.mpr h
        simp only [List.lookup, hb, if_neg (fun e : g = f => h (e.trans hk.symm))]
    · rw [if_neg hk]
      by_cases h : g = k
      · have hb : (g == k) = true := beq_iff_eq.mpr h
        simp only [List.lookup, hb, if_neg (fun e : g = f => hk (h.symm.trans e))]
      · have hb : (g == k) = false := beq_eq_false_iff_ne.mpr h
        simp only [List.lookup, hb]
        exact ih
theorem keys_putF (f : Str) (v : V) : ∀ fs : List (Str × V), f ∈ (putF f v fs).map (·.1) ∧ ∀ g, g ∈ fs.map (·.1) → g ∈ (putF f v fs).map (·.1)
  | [] => ⟨by simp [putF], fun g h => by simp at h⟩
  | (k, x) :: r => by
    obtain ⟨i1, i2⟩ := keys_putF f v r
    rw [show putF f v ((k, x) :: r) = (if k = f then (k, v) :: r else (k, x) :: putF f v r) from rfl]
    by_cases hk : k = f
    · rw [if_pos hk]
      subst hk
      exact ⟨by simp, fun g h => by simpa using h⟩
    · rw [if_neg hk]
      refine ⟨?_, fun g h => ?_⟩
      · rw [List.map_cons]
        exact List.mem_cons_of_mem _ i1
      · rw [List.map_cons] at h ⊢
        rcases List.mem_cons.mp h with e | e
        · exact List.mem_cons.mpr (.inl e)
        · exact List.mem_cons_of_mem _ (i2 g e)
theorem length_putF (f : Str) (v : V) : ∀ fs : List (Str × V), (putF f v fs).length ≤ fs.length + 1
  | [] => by simp [putF]
  | (k, x) :: r => by
    have ih := length_putF f v r
    rw [show putF f v ((k, x) :: r) = (if k = f then (k, v) :: r else (k, x) :: putF f v r) from rfl]
    by_cases hk : k = f
    · rw [if_pos hk, List.length_cons, List.length_cons]; omega
    · rw [if_neg hk, List.length_cons, List.length_cons]; omega

theorem RelO.some_of {v : V} {o : Option Value} (r : RelO (some v) o) : ∃ u, o = some u ∧ RelV v u := by
  cases o with
  | none => exact (show False from r).elim
  | some u => exact ⟨u, rfl, r⟩
theorem RelO.none_of {o : Option Value} (r : RelO none o) : o = none := by
  cases o with
  | none => rfl
  | some u => exact (show False from r).elim
theorem handed_of {v : V} {u : Value} (r : RelV v u) : PySem.W.handedIn u = true := by
  cases v with
  | non => cases (show u = Value.none from r); rfl
  | bl b => cases (show u = Value.bool b from r); rfl
  | int i => obtain ⟨t, e⟩ := (show ∃ t, u = Value.int i t from r); cases e; rfl
  | str x => obtain ⟨t, e⟩ := (show ∃ t, u = Value.str x t from r); cases e; rfl
  | byt b => obtain ⟨t, e⟩ := (show ∃ t, u = Value.bytes b t from r); cases e; rfl
  | flt b => obtain ⟨t, e⟩ := (show ∃ t, u = Value.float b t from r); cases e; rfl
  | ref a => cases (show u = Value.ref a from r); rfl
  | ty n => cases (show u = Value.type n from r); rfl

section
variable {P : Program} {w : World} {H H' : Hp} {h h' : Heap} {a C dx : Addr} {fs fs' : List (Str × V)}
theorem ins_get (hok : HOk P w H h) (e : H a = some (.ins C dx fs)) : ∃ mA, ObjM h a dx C mA ∧ (∀ f, RelO (fs.lookup f) (mA f)) ∧ PySem.Within mA (fs.map (·.1)) ∧ fs.length ≤ 1000 ∧ H dx = some (.own a) := by
  obtain ⟨d, z, ne, ob, mA, n, r, q⟩ := (show ObjOk P w H h a (.ins C dx fs) from hok a _ e)
  exact ⟨mA, ⟨ob, n, ne⟩, r, q, z, d⟩
end

/-! ### what of the text a class must have -/
structure Cls (K : PySem.W.Frag) (C : Addr) : Prop where
  pg : PySem.W.plainGet K C Str.empty = true
  hd : PySem.W.hasDictIn K C = true
  po : PySem.W.plainOver K C = true
  sa : PySem.W.findIn K (.ref C) "__setattr__" = some (some (.builtin "object.__setattr__"))
theorem Cls.get {K : PySem.W.Frag} {C : Addr} (c : Cls K C) (f : Str) : PySem.W.plainGet K C f = true := c.pg
/-- no class of it has the name -/
def NoAttr (K : PySem.W.Frag) (C : Addr) (f : Str) : Prop := PySem.W.findIn K (.ref C) f = some none
theorem NoAttr.taker {K : PySem.W.Frag} {C : Addr} {f : Str} (n : NoAttr K C f) : PySem.W.takerIn K C f = some none := by
  unfold PySem.W.takerIn
  rw [show PySem.W.findIn K (.ref C) f = some none from n]
  rfl
/-- a constant of the class -/
structure Con (K : PySem.W.Frag) (C : Addr) (f : Str) (v : V) (u : Value) : Prop where
  at_ : PySem.W.findIn K (.ref C) f = some (some u)
  rel : RelV v u
  get : PySem.W.specialIn K u "__get__" = some none
  cp : PySem.W.copiedNames.contains f = false
/-- a method: a plain def of the class or of one above it -/
structure Meth (K : PySem.W.Frag) (C : Addr) (m : Str) (f : Addr) : Prop where
  at_ : PySem.W.findIn K (.ref C) m = some (some (.ref f))
  fn : PySem.W.isFn K (.ref f) = true
  kp : PySem.W.keepIn K (.ref f) = true

section
variable {X : Cx} {pins : List (Addr × Obj)} {σ : St} {H : Hp} {s : Shared} {a C dx : Addr} {fs : List (Str × V)} {f : Str} {v : V} {A : Around} {E : Value → Shared → Prop}

theorem getattr_ok {b : Bool} {Q : Value → Shared → Prop} (I : Inv X pins σ H s) (e : H a = some (.ins C dx fs)) (c : Cls X.K C) (n : NoAttr X.K C f) (l : fs.lookup f = some v)
    (h : ∀ u s', Inv X pins σ H s' → RelV v u → Q u s') : wpAny (model X.prog X.w) A (getAttr (.ref a) f b) Q E s := by
  obtain ⟨mA, O, r, _, _, _⟩ := ins_get I.hok e
  obtain ⟨u, hu, ru⟩ := RelO.some_of (v := v) (o := mA f) (by rw [← l]; exact r f)
  exact get_map I.kIn O (c.get f) c.hd n hu (handed_of ru) (h u _ (I.tok _) ru)

theorem getcon_ok {b : Bool} {u : Value} {Q : Value → Shared → Prop} (I : Inv X pins σ H s) (e : H a = some (.ins C dx fs)) (c : Cls X.K C) (k : Con X.K C f v u) (l : fs.lookup f = none)
    (h : ∀ s', Inv X pins σ H s' → Q u s') : wpAny (model X.prog X.w) A (getAttr (.ref a) f b) Q E s := by
  obtain ⟨mA, O, r, _, _, _⟩ := ins_get I.hok e
  have hn : mA f = none := RelO.none_of (by rw [← l]; exact r f)
  exact get_const I.kIn O (c.get f) c.hd k.at_ k.get k.cp hn (handed_of k.rel) (h _ (I.tok _))

theorem getmeth_ok {m : Str} {g : Addr} {pl : Sem Bool} {Q : Value × List Value → Shared → Prop} (I : Inv X pins σ H s) (e : H a = some (.ins C dx fs)) (c : Cls X.K C) (k : Meth X.K C m g) (l : fs.lookup m = none)
    (h : Q (.ref g, [.ref a]) s) : wpAny (model X.prog X.w) A (getMethod (.ref a) m pl) Q E s := by
  obtain ⟨mA, O, r, _, _, _⟩ := ins_get I.hok e
  have hn : mA m = none := RelO.none_of (by rw [← l]; exact r m)
  exact get_meth I.kIn O (c.get m) k.at_ k.fn hn h

theorem setattr_ok {y : V} {u : Value} {Q : Unit → Shared → Prop} (I : Inv X pins σ H s) (e : H a = some (.ins C dx fs)) (c : Cls X.K C) (n : NoAttr X.K C f) (hl : fs.length < 1000) (ry : RelV y u)
    (h : ∀ s', Inv X pins σ (upd H a (.ins C dx (putF f y fs))) s' → Q () s') : wpAny (model X.prog X.w) A (setAttr (.ref a) f u) Q E s := by
  obtain ⟨mA, O, r, wi, _, ho⟩ := ins_get I.hok e
  have hz : (fs.map (·.1)).length ≤ sizeLine := by rw [List.length_map, sizeLine_eq]; omega
  refine set_map I.kIn O c.sa c.po n.taker c.hd wi hz fun h' O' sb => h _ ?_
  have hd : ∃ o, h'.get? dx = some o := let ⟨o, _, _, e', _⟩ := O'.ns; ⟨o, e'⟩
  refine I.write (x := a) (e := dx) (by rw [e]; exact True.intro) (.inr ho) (fun b q hb z => (sb.2 b hb).trans z) hd ?_
  refine ⟨by rw [upd_ne O.ne]; exact ho, ?_, O.ne, O'.obj, _, O'.ns, fun g => ?_, fun g hg => ?_⟩
  · have := length_putF f y fs; omega
  · show RelO ((putF f y fs).lookup g) (if g = f then some u else mA g)
    rw [lookup_putF]
    by_cases q : g = f
    · rw [if_pos q, if_pos q]; exact ry
    · rw [if_neg q, if_neg q]; exact r g
  · by_cases q : g = f
    · rw [q]; exact (keys_putF f y fs).1
    · refine (keys_putF f y fs).2 g (wi g fun z => hg ?_)
      show (if g = f then some u else mA g) = none
      rw [if_neg q]; exact z

/-- a new instance, tracked, without attributes -/
theorem Inv.made (I : Inv X pins σ H s) : Inv X pins σ (upd (upd H s.heap.objs.size (.own (s.heap.objs.size + 1))) (s.heap.objs.size + 1) (.ins C s.heap.objs.size []))
    { s with heap := (s.heap.push PySem.W.emptyDict).push (PySem.W.instObj C s.heap.objs.size) } := by
  have e1 : (s.heap.push PySem.W.emptyDict).get? s.heap.objs.size = some PySem.W.emptyDict := Heap.get?_push_size s.heap rfl
  have e2 : ((s.heap.push PySem.W.emptyDict).push (PySem.W.instObj C s.heap.objs.size)).get? (s.heap.objs.size + 1) = some (PySem.W.instObj C s.heap.objs.size) := by
    have := Heap.get?_push_size (s.heap.push PySem.W.emptyDict) (o := PySem.W.instObj C s.heap.objs.size) rfl
    rwa [Heap.size_push] at this
  have e3 : (s.heap.push PySem.W.emptyDict).Ns s.heap.objs.size (fun _ => none) := ⟨PySem.W.emptyDict, #[], _, e1, rfl, (fun e he => absurd he (by simp)), fun _ => rfl⟩
  have I1 := I.laid (a := s.heap.objs.size) (o := .own (s.heap.objs.size + 1)) (h' := s.heap.push PySem.W.emptyDict) (t' := s.toks) (fun b u q => Heap.get?_push_of_some _ q) (Nat.le_refl _) ⟨_, e1⟩
  refine I1.laid (a := s.heap.objs.size + 1) (o := .ins C s.heap.objs.size []) (t' := s.toks) (fun b u q => Heap.get?_push_of_some _ q) (Nat.le_of_eq (Heap.size_push _ _)) ?_
  have ne : s.heap.objs.size ≠ s.heap.objs.size + 1 := Nat.ne_of_lt (Nat.lt_succ_self _)
  refine ⟨by rw [upd_ne ne, upd_same], Nat.zero_le _, ne, e2, fun _ => none, (Heap.Ns1.of_empty e3).at fun o q => Heap.get?_push_of_some _ q, fun _ => True.intro, fun y hy => absurd rfl hy⟩

/-- e.f where nothing but the object is asked: through attributeBase (super) and the last hold -/
theorem attr_of {prog : Program} {w : World} {env : Env} {e : Expr} {f : Str} {pos : Pos} {s : Shared} {Q : Value → Shared → Prop} (hb : attributeBase e f env (eval e env) = eval e env)
    (h : wpAny (model prog w) A (eval e env) (fun o s₁ => wpAny (model prog w) A (getAttr o f true) Q E s₁) E s) : wpAny (model prog w) A (eval (.Attribute e f pos) env) Q E s :=
  Attribute_any_ h (by rw [arm_eval_Attribute, hb])
end

/-! ### readings and rules -/
/-- e.f, an attribute of the instance -/
def tFld (K : PySem.W.Frag) (ta : TE) (f : Str) : TE := fun σ H Q => ta σ H fun x H1 => ∃ a C dx fs v, x = .ref a ∧ H1 a = some (.ins C dx fs) ∧ Cls K C ∧ NoAttr K C f ∧ fs.lookup f = some v ∧ Q v H1
/-- e.f, a constant of the class -/
def tCon (K : PySem.W.Frag) (ta : TE) (f : Str) : TE := fun σ H Q => ta σ H fun x H1 => ∃ a C dx fs v u, x = .ref a ∧ H1 a = some (.ins C dx fs) ∧ Cls K C ∧ Con K C f v u ∧ fs.lookup f = none ∧ Q v H1
/-- e.f = value -/
def sFld (K : PySem.W.Frag) (ta tv : TE) (f : Str) : TS := fun D σ H => tv σ H fun y H1 => ta σ H1 fun x H2 => ∃ a C dx fs, x = .ref a ∧ H2 a = some (.ins C dx fs) ∧ Cls K C ∧ NoAttr K C f ∧ fs.length < 1000 ∧
  D.nx σ (upd H2 a (.ins C dx (putF f y fs)))
/-- an augmented operator on two values -/
def InOp (X : Cx) (op : Operator) (rd : V → V → Hp → VK → Prop) : Prop :=
  ∀ (pins : List (Addr × Obj)) (s : Shared) (σ : St) (H : Hp) (x y : V) (u v : Value) (Q : VK), Inv X pins σ H s → RelV x u → RelV y v → rd x y H Q → wpAny (model X.prog X.w) X.A (inplaceOp op u v) (EP X pins σ Q) X.xe s
/-- e.f op= value -/
def sFldAug (K : PySem.W.Frag) (ta tv : TE) (rd : V → V → Hp → VK → Prop) (f : Str) : TS := fun D σ H => ta σ H fun x H1 => ∃ a C dx fs v, x = .ref a ∧ H1 a = some (.ins C dx fs) ∧ Cls K C ∧ NoAttr K C f ∧ fs.lookup f = some v ∧
  tv σ H1 fun y H2 => rd v y H2 fun z H3 => ∃ dx' fs', H3 a = some (.ins C dx' fs') ∧ fs'.length < 1000 ∧ D.nx σ (upd H3 a (.ins C dx' (putF f z fs')))

section
variable {X : Cx} {o e value : Expr} {f : Str} {pos pos' tpos : Pos} {ta tv : TE}
theorem pe_fld (he : PE X e ta) (hb : attributeBase e f X.env (eval e X.env) = eval e X.env) : PE X (.Attribute e f pos) (tFld X.K ta f) := by
  intro pins s σ H Q I h
  refine attr_of hb (thn (he pins s σ H _ I h) fun u s1 ⟨x, H1, I1, rx, a, C, dx, fs, v, ex, ea, c, n, l, q⟩ => ?_)
  subst ex
  obtain rfl : u = Value.ref a := rx
  exact getattr_ok I1 ea c n l fun u' s2 I2 ru => ⟨v, H1, I2, ru, q⟩
theorem pe_con (he : PE X e ta) (hb : attributeBase e f X.env (eval e X.env) = eval e X.env) : PE X (.Attribute e f pos) (tCon X.K ta f) := by
  intro pins s σ H Q I h
  refine attr_of hb (thn (he pins s σ H _ I h) fun u s1 ⟨x, H1, I1, rx, a, C, dx, fs, v, u0, ex, ea, c, k, l, q⟩ => ?_)
  subst ex
  obtain rfl : u = Value.ref a := rx
  exact getcon_ok I1 ea c k l fun s2 I2 => ⟨v, H1, I2, k.rel, q⟩
theorem ps_fld (ha : PE X o ta) (hv : PE X value tv) (hs : swapsWith value (some (.Attribute o f pos')) pos.line X.env = pure false) : PS X (.Assign [.Attribute o f pos'] value pos) (sFld X.K ta tv f) := by
  intro pins s σ H D I h
  refine plainObj_wpAny_Assign_Attribute (thn (hv pins s σ H _ I h) fun u s1 ⟨y, H1, I1, ry, q⟩ => thn (ha pins s1 σ H1 _ I1 q) fun ov s2 ⟨x, H2, I2, rx, a, C, dx, fs, ex, ea, c, n, l, q2⟩ => ?_) hs
  subst ex
  obtain rfl : ov = Value.ref a := rx
  exact setattr_ok I2 ea c n l ry fun s3 I3 => ⟨σ, _, I3, q2⟩
theorem ps_fldaug {op : Operator} {rd : V → V → Hp → VK → Prop} (ha : PE X o ta) (hv : PE X value tv) (hop : InOp X op rd) : PS X (.AugAssign (.Attribute o f tpos) op value pos) (sFldAug X.K ta tv rd f) := by
  intro pins s σ H D I h
  refine wpAny_AugAssign_AttributeAny (thn (ha pins s σ H _ I h) fun ov s1 ⟨x, H1, I1, rx, a, C, dx, fs, v, ex, ea, c, n, l, q⟩ => ?_)
  subst ex
  obtain rfl : ov = Value.ref a := rx
  refine getattr_ok I1 ea c n l fun u s2 I2 ru => thn (hv pins s2 σ H1 _ I2 q) fun w3 s3 ⟨y, H2, I3, ry, q3⟩ => thn (hop pins s3 σ H2 v y u w3 _ I3 ru ry q3) fun w4 s4 ⟨z, H3, I4, rz, dx', fs', ea', l', q4⟩ => ?_
  exact setattr_ok I4 ea' c n l' rz fun s5 I5 => ⟨σ, _, I5, q4⟩
def rAdd : V → V → Hp → VK → Prop := fun x y H Q => ∃ i j, x = .int i ∧ y = .int j ∧ Q (.int (i + j)) H
def rSub : V → V → Hp → VK → Prop := fun x y H Q => ∃ i j, x = .int i ∧ y = .int j ∧ Q (.int (i - j)) H
theorem in_add : InOp X .Add rAdd := by
  rintro pins s σ H x y u v Q I rx ry ⟨i, j, rfl, rfl, q⟩
  obtain ⟨t, rfl⟩ := (show ∃ t, u = Value.int i t from rx)
  obtain ⟨t', rfl⟩ := (show ∃ t', v = Value.int j t' from ry)
  exact PyProof.Rows.iadd_int ⟨.int (i + j), H, I.tok _, ⟨_, rfl⟩, q⟩
theorem in_sub : InOp X .Sub rSub := by
  rintro pins s σ H x y u v Q I rx ry ⟨i, j, rfl, rfl, q⟩
  obtain ⟨t, rfl⟩ := (show ∃ t, u = Value.int i t from rx)
  obtain ⟨t', rfl⟩ := (show ∃ t', v = Value.int j t' from ry)
  exact PyProof.Rows.isub_int ⟨.int (i - j), H, I.tok _, ⟨_, rfl⟩, q⟩

/-- what is between an instance and its method: the tree of a method call -/
theorem methcall_of {pl : Sem Bool} {m : Str} {apos : Pos} {args : List Expr} {pins : List (Addr × Obj)} {s : Shared} {σ : St} {H : Hp} {Q : Value → Shared → Prop} {te : TE} (he : PE X e te) (I : Inv X pins σ H s)
    (h : te σ H fun x H1 => ∃ a C dx fs g, x = .ref a ∧ H1 a = some (.ins C dx fs) ∧ Cls X.K C ∧ Meth X.K C m g ∧ fs.lookup m = none ∧
      ∀ s1, Inv X pins σ H1 s1 → wpAny (model X.prog X.w) X.A (callWith pos (.ref g) [.ref a] (backTo pos (starEach args X.env)) (backToKw pos (keywordEach [] X.env))) Q X.xe s1)
    (ht : eval (.Call (.Attribute e m apos) args [] pos) X.env = (do
      let ov ← eval e X.env
      standAt apos.atName
      let (f, first) ← holding [ov] (getMethod ov m pl)
      callWith pos f first (backTo pos (starEach args X.env)) (backToKw pos (keywordEach [] X.env)))) :
    wpAny (model X.prog X.w) X.A (eval (.Call (.Attribute e m apos) args [] pos) X.env) Q X.xe s := by
  refine PySem.W.methodCall_KW (pl := pl) (thn (he pins s σ H _ I h) fun u s1 ⟨x, H1, I1, rx, a, C, dx, fs, g, ex, ea, c, k, l, q⟩ => ?_) ht
  subst ex
  obtain rfl : u = Value.ref a := rx
  exact getmeth_ok I1 ea c k l (q s1 I1)
end

/-! ### isinstance -/
section
variable {X : Cx} {pins : List (Addr × Obj)} {σ : St} {H : Hp} {s : Shared} {A : Around} {E : Value → Shared → Prop} {Q : Value → Shared → Prop} {c : Value} {b : Bool}
/-- the type of a value, as the fragment's deciders take it; for an instance its class -/
inductive TyOf (K : PySem.W.Frag) (H : Hp) : V → Value → Prop where
  | non : TyOf K H .non (.type "NoneType")
  | bl (x : Bool) : TyOf K H (.bl x) (.type "bool")
  | int (i : Int) : TyOf K H (.int i) (.type "int")
  | str (x : Str) : TyOf K H (.str x) (.type "str")
  | flt (x : UInt64) : TyOf K H (.flt x) (.type "float")
  | lst {a : Addr} {xs : List V} (e : H a = some (.lst xs)) : TyOf K H (.ref a) (.type "list")
  | frz {a : Addr} {o : Obj} {xs : List V} (e : H a = some (.frz o (.lst xs))) : TyOf K H (.ref a) (.type "list")
  | tup {a : Addr} {xs : List V} (e : H a = some (.tup xs)) : TyOf K H (.ref a) (.type "tuple")
  | dK {a : Addr} {kvs : List (Key × V)} (e : H a = some (.dK kvs)) : TyOf K H (.ref a) (.type "dict")
  | dT {a : Addr} {kvs : List (List Key × V)} (e : H a = some (.dT kvs)) : TyOf K H (.ref a) (.type "dict")
  | ins {a C dx : Addr} {fs : List (Str × V)} (e : H a = some (.ins C dx fs)) (cl : Cls K C) (ha : PySem.W.findIn K (.ref C) "__class__" = some (some (.builtin "object.__class__")))
      (hn : PySem.W.specialIn K (.builtin "object.__class__") "__get__" = some (some (.builtin "getset_descriptor.__get__"))) (htk : PySem.W.takesIn K (.builtin "object.__class__") = some true)
      (hm : PySem.W.mroIn K C (.type "object") = some true) : TyOf K H (.ref a) (.ref C)
/-- isinstance(x, c) for one class c, a built-in or an own one: kitOne's answer -/
theorem isinst_ok {x : V} {u t : Value} (I : Inv X pins σ H s) (rx : RelV x u) (ty : TyOf X.K H x t) (e : PySem.W.kitOne X.K t c = some b) (h : ∀ tk, Q (.bool b) { s with toks := tk }) :
    wpAny (model X.prog X.w) A (call (.builtin "isinstance") [u, c]) Q E s := by
  cases ty with
  | non => cases (show u = Value.none from rx); exact PySem.W.kia_one PySem.W.kitx_none I.kIn True.intro e (fun z => nomatch z) h
  | bl y => cases (show u = Value.bool y from rx); exact PySem.W.kia_one PySem.W.kitx_bool I.kIn True.intro e (fun z => nomatch z) h
  | int i => obtain ⟨t, q⟩ := (show ∃ t, u = Value.int i t from rx); cases q; exact PySem.W.kia_one PySem.W.kitx_int I.kIn True.intro e (fun z => nomatch z) h
  | str y => obtain ⟨t, q⟩ := (show ∃ t, u = Value.str y t from rx); cases q; exact PySem.W.kia_one PySem.W.kitx_str I.kIn True.intro e (fun z => nomatch z) h
  | flt y => obtain ⟨t, q⟩ := (show ∃ t, u = Value.float y t from rx); cases q; exact PySem.W.kia_one PySem.W.kitx_float I.kIn True.intro e (fun z => nomatch z) h
  | @lst a xs ea =>
    cases (show u = Value.ref a from rx)
    obtain ⟨_, _, n, _, h1⟩ := (show ObjOk X.prog X.w H s.heap a (.lst xs) from I.hok a _ ea)
    exact PySem.W.kia_one PySem.W.kitx_list I.kIn ⟨_, h1, rfl⟩ e (fun z => nomatch z) h
  | @frz a ob xs ea =>
    cases (show u = Value.ref a from rx)
    obtain ⟨_, _, _, n, _, h1⟩ := (show ObjOk X.prog X.w H s.heap a (.frz ob (.lst xs)) from I.hok a _ ea)
    exact PySem.W.kia_one PySem.W.kitx_list I.kIn ⟨_, h1, rfl⟩ e (fun z => nomatch z) h
  | @tup a xs ea =>
    cases (show u = Value.ref a from rx)
    obtain ⟨_, _, _, p⟩ := (show ObjOk X.prog X.w H s.heap a (.tup xs) from I.hok a _ ea)
    obtain ⟨o, h1, h2, _⟩ := p
    exact PySem.W.kia_one PySem.W.kitx_tuple I.kIn ⟨o, h1, h2⟩ e (fun z => nomatch z) h
  | @dK a kvs ea =>
    cases (show u = Value.ref a from rx)
    obtain ⟨_, _, vs, _, p⟩ := (show ObjOk X.prog X.w H s.heap a (.dK kvs) from I.hok a _ ea)
    obtain ⟨o, es, ep, h1, h2, _⟩ := p
    exact PySem.W.kia_one PySem.W.kitx_dict I.kIn ⟨o, h1, h2.1⟩ e (fun z => nomatch z) h
  | @dT a kvs ea =>
    cases (show u = Value.ref a from rx)
    obtain ⟨_, _, xs, _, o, es, ep, h1, h2, _⟩ := (show ObjOk X.prog X.w H s.heap a (.dT kvs) from I.hok a _ ea)
    exact PySem.W.kia_one PySem.W.kitx_dict I.kIn ⟨o, h1, h2.1⟩ e (fun z => nomatch z) h
  | @ins a C dx fs ea cl ha hn htk hm =>
    cases (show u = Value.ref a from rx)
    obtain ⟨mA, O, _⟩ := ins_get I.hok ea
    obtain ⟨od, J, _⟩ := O.look
    exact PySem.W.kia_one (PySem.W.kitx_own (cl.get _) cl.hd ha hn htk hm) I.kIn J e (fun z => nomatch z) h
end
end L2

namespace L2
open PySem PySem.Spec PyProof.Rows

/-! ### room -/
structure Room (k : Nat) (A : Around) : Prop where
  hd : A.handled = none
  dp : A.depth + 3 * k + 5 < recursionLimit
  un : A.units + 16 * k + 200 < cLine
theorem Room.mono {j k : Nat} {A : Around} (r : Room k A) (h : j ≤ k) : Room j A := ⟨r.hd, by have := r.dp; omega, by have := r.un; omega⟩
theorem Room.deeper {k : Nat} {A : Around} (r : Room (k + 1) A) (env : Env) : Room k (A.deeper env) :=
  ⟨r.hd, by have := r.dp; show A.depth + 1 + 3 * k + 5 < _; omega, by have := r.un; show A.units + 3 + 16 * k + 200 < _; omega⟩
theorem Room.in1 {k : Nat} {A : Around} (r : Room (k + 1) A) : Room k A.in1 :=
  ⟨r.hd, by have := r.dp; show A.depth + 3 * k + 5 < _; omega, by have := r.un; show A.units + 1 + 16 * k + 200 < _; omega⟩
theorem make_depth {A : Around} {C : Addr} {us : List Value} {kw : List (Str × Value)} : (A.under (.builtin "type.__call__" ⟨.ref C :: us, kw⟩)).depth = A.depth + 1 := by
  first | rfl | simp [Around.under, Code.weight, Code.isCreation, Code.isGuard, Code.isCaller, Code.frames, Code.isFrame, guardIds]
theorem make_units {A : Around} {C : Addr} {us : List Value} {kw : List (Str × Value)} : (A.under (.builtin "type.__call__" ⟨.ref C :: us, kw⟩)).units = A.units + 1 := by
  first | rfl | simp [Around.under, Code.cUnits, Code.frames, Code.isFrame]
theorem Room.make {k : Nat} {A : Around} (r : Room (k + 1) A) (C : Addr) (us : List Value) (kw : List (Str × Value)) : Room k (A.under (.builtin "type.__call__" ⟨.ref C :: us, kw⟩)) :=
  ⟨r.hd, by have := r.dp; rw [make_depth]; omega, by have := r.un; rw [make_units]; omega⟩
theorem Room.depth {k : Nat} {A : Around} (r : Room k A) : A.depth < recursionLimit := by have := r.dp; omega
theorem Room.units {k : Nat} {A : Around} (r : Room k A) : A.units + 64 < cLine := by have := r.un; omega
theorem Room.units0 {k : Nat} {A : Around} (r : Room k A) : A.units < cLine := by have := r.un; omega

/-! ### argument lists and displays -/
def tNil : TA := fun _ H Q => Q [] H
def tCons (ta : TE) (tr : TA) : TA := fun σ H Q => ta σ H fun x H1 => tr σ H1 fun xs H2 => Q (x :: xs) H2
section
variable {X : Cx} {e : Expr} {es : List Expr} {te : TE} {t : TA} {pos : Pos}
theorem pa_nil : PA X [] tNil := fun _ _ _ _ H Q I h => Calls.spliced_nil ⟨[], H, I, .nil, h⟩
theorem pa_cons (ha : PE X e te) (hr : PA X es t) (hs : starEach (e :: es) X.env = (false, eval e X.env) :: starEach es X.env := by rfl) : PA X (e :: es) (tCons te t) := by
  intro pos pins s σ H Q I h
  rw [hs]
  show wpAny _ _ (spliced ((false, eval e X.env) :: backTo pos (starEach es X.env))) _ _ s
  refine Calls.spliced_cons (thn (ha pins s σ H _ I h) fun u s1 ⟨x, H1, I1, r1, q1⟩ => ?_)
  exact thn (hr pos pins s1 σ H1 _ I1 q1) fun us s2 ⟨xs, H2, I2, r2, q2⟩ => ⟨x :: xs, H2, I2, .cons r1 r2, q2⟩

/-- a tuple, a list of written items -/
def tTup (t : TA) : TE := fun σ H Q => t σ H fun xs H1 => xs.length ≤ sizeLine ∧ ∀ p, H1 p = none → Q (.ref p) (upd H1 p (.tup xs))
def tLst (t : TA) : TE := fun σ H Q => t σ H fun xs H1 => xs.length ≤ sizeLine ∧ ∀ p, H1 p = none → Q (.ref p) (upd H1 p (.lst xs))
theorem pe_tup {x1} (h : PA X es t) : PE X (.Tuple es x1 pos) (tTup t) := by
  intro pins s σ H Q I hq
  refine wpAny_Tuple_spliced (thn (h pos pins s σ H _ I hq) fun us s1 ⟨xs, H1, I1, r, z, q⟩ => ⟨by rw [← r.length]; exact z, ?_⟩)
  have hf : H1 s1.heap.objs.size = none := I1.hok.fresh (Nat.le_refl _)
  refine ⟨.ref s1.heap.objs.size, upd H1 s1.heap.objs.size (.tup xs), I1.laid (t' := s1.toks) (fun b u e => Heap.get?_push_of_some _ e) (Nat.le_refl _) ?_, rfl, q _ hf⟩
  exact ⟨z, us, r, ⟨_, Heap.get?_push_size _ rfl, rfl, _, rfl⟩⟩
theorem pe_lst (h : PA X es t) : PE X (.List es pos) (tLst t) := by
  intro pins s σ H Q I hq
  refine wpAny_List_spliced (thn (h pos pins s σ H _ I hq) fun us s1 ⟨xs, H1, I1, r, z, q⟩ => ⟨by rw [← r.length]; exact z, ?_⟩)
  have hf : H1 s1.heap.objs.size = none := I1.hok.fresh (Nat.le_refl _)
  refine ⟨.ref s1.heap.objs.size, upd H1 s1.heap.objs.size (.lst xs), I1.laid (t' := s1.toks) (fun b u e => Heap.get?_push_of_some _ e) (Nat.le_refl _) ?_, rfl, q _ hf⟩
  exact ⟨z, us, 0, r, Heap.get?_push_size _ rfl⟩
end

/-! ### what a def promises -/
/-- a def's promise: the bound arguments in the parameters' order, the heap, the wanted end, the wanted exception -/
abbrev Sp := List V → Hp → VK → XK → Prop
/-- how an exception lies behind a call (file 08 gives it): the callers' frames, abstract heap and state ahead of the call, the wish, the exception, the state -/
abbrev CXT := List Env → Hp → Shared → XK → Value → Shared → Prop

/-- the state at a call -/
structure Env0 (P : Program) (w : World) (K : PySem.W.Frag) (mg : Str → Option Value) (base : Heap) (A : Around) (outer : List Env) (s : Shared) (H : Hp) : Prop where
  frames : A.frames = some outer
  mod : Mod K mg base
  bs : ∀ b o, base.get? b = some o → s.heap.get? b = some o ∧ H b = none
  bsz : base.objs.size ≤ s.heap.objs.size
  funs : s.heap.FunFrames base outer
  frf : ∀ b ∈ frs outer, H b = none
  hok : HOk P w H s.heap
  bare : AllBare s.gens
/-- a call's end -/
def CE (outer : List Env) (P : Program) (w : World) (H : Hp) (s : Shared) (Q : VK) (u : Value) (s' : Shared) : Prop :=
  ∃ v H', s'.os = s.os ∧ AllBare s'.gens ∧ Un (frs outer) [] H H' s.heap s'.heap ∧ HOk P w H' s'.heap ∧ RelV v u ∧ Q v H'
def CR (CX : CXT) (outer : List Env) (P : Program) (w : World) (H : Hp) (s : Shared) (Q : VK) (E : XK) (r : Result) (s' : Shared) : Prop :=
  match r with
  | .ok (.ret u) => CE outer P w H s Q u s'
  | .ok _ => False
  | .error e => CX outer H s E e s'
structure FnOk (P : Program) (w : World) (K : PySem.W.Frag) (mg : Str → Option Value) (base : Heap) (CX : CXT) (k : Nat) (f : Addr) (fd : FuncData) (ps : List Str) (sp : Sp) : Prop where
  len : ∀ vs H Q E, sp vs H Q E → vs.length = ps.length
  run : ∀ (A : Around) (outer : List Env) (s : Shared) (H : Hp) (args : Args) (us : List Value) (vs : List V) (Q : VK) (E : XK), Room k A → Env0 P w K mg base A outer s H → BindsTo s fd args (ps.zip us) → Vals vs us → sp vs H Q E →
    codeAny (model P w) A (.call (.ref f) args) (CR CX outer P w H s Q E) s
theorem FnOk.mono {P : Program} {w : World} {K : PySem.W.Frag} {mg : Str → Option Value} {base : Heap} {CX : CXT} {j k : Nat} {f : Addr} {fd : FuncData} {ps : List Str} {sp : Sp} (F : FnOk P w K mg base CX j f fd ps sp) (h : j ≤ k) :
    FnOk P w K mg base CX k f fd ps sp := ⟨F.len, fun A outer s H args us vs Q E hr => F.run A outer s H args us vs Q E (hr.mono h)⟩
/-- a weaker promise -/
theorem FnOk.imp {P : Program} {w : World} {K : PySem.W.Frag} {mg : Str → Option Value} {base : Heap} {CX : CXT} {k : Nat} {f : Addr} {fd : FuncData} {ps : List Str} {sp sp' : Sp} (F : FnOk P w K mg base CX k f fd ps sp)
    (h : ∀ vs H Q E, sp' vs H Q E → sp vs H Q E) : FnOk P w K mg base CX k f fd ps sp' :=
  ⟨fun vs H Q E q => F.len vs H Q E (h _ _ _ _ q), fun A outer s H args us vs Q E hr he hb hv hs => F.run A outer s H args us vs Q E hr he hb hv (h _ _ _ _ hs)⟩

theorem Env0.make {P : Program} {w : World} {K : PySem.W.Frag} {mg : Str → Option Value} {base : Heap} {A : Around} {outer : List Env} {s : Shared} {H : Hp} (e : Env0 P w K mg base A outer s H) (C : Addr) (us : List Value) (kw : List (Str × Value)) :
    Env0 P w K mg base (A.under (.builtin "type.__call__" ⟨.ref C :: us, kw⟩)) outer s H := ⟨by first | exact e.frames | (simpa [Around.under, Code.envs, Code.isFrame, pushEnvs] using e.frames), e.mod, e.bs, e.bsz, e.funs, e.frf, e.hok, e.bare⟩
theorem Env0.in1 {P : Program} {w : World} {K : PySem.W.Frag} {mg : Str → Option Value} {base : Heap} {A : Around} {outer : List Env} {s : Shared} {H : Hp} (e : Env0 P w K mg base A outer s H) :
    Env0 P w K mg base A.in1 outer s H := ⟨e.frames, e.mod, e.bs, e.bsz, e.funs, e.frf, e.hok, e.bare⟩

section
variable {X : Cx} {pins : List (Addr × Obj)} {σ : St} {H : Hp} {s s' : Shared}
/-- from a body: what a callee wants -/
theorem Inv.env0 (I : Inv X pins σ H s) : Env0 X.prog X.w X.K X.mg X.base X.A X.stack s H :=
  ⟨I.ok.frames, I.ok.mod, I.bs, Nat.le_trans I.ok.bsz I.sz, I.stack, I.stkFree, I.hok, I.bare⟩
/-- behind a call -/
theorem Inv.after {Q : VK} {u : Value} (I : Inv X pins σ H s) (h : CE X.stack X.prog X.w H s Q u s') : EP X pins σ Q u s' := by
  obtain ⟨v, H', os, bare, un, hok, r, q⟩ := h
  obtain ⟨hh, g, d, t, os'⟩ := s'
  obtain rfl : os' = s.os := os
  exact ⟨v, H', I.call (h' := hh) (g' := g) (d' := d) (t' := t) (ch := []) un hok bare (fun b z => absurd z (by simp)), r, q⟩
end

/-! ### calls -/
/-- f(..): the written arguments, then the defaults dvs; E: what is wanted of an exception -/
def tCall (sp : Sp) (dvs : List V) (E : XK) (t : TA) : TE := fun σ H Q => t σ H fun vs H1 => sp (vs ++ dvs) H1 Q E
/-- o.m(..) of an instance of the class at C -/
def tMeth (C : Addr) (m : Str) (sp : Sp) (dvs : List V) (E : XK) (ta : TE) (t : TA) : TE := fun σ H Q => ta σ H fun x H1 => ∃ a dx fs, x = .ref a ∧ H1 a = some (.ins C dx fs) ∧ fs.lookup m = none ∧
  t σ H1 fun vs H2 => sp (x :: (vs ++ dvs)) H2 Q E
/-- C(..): a new instance and its dict, then __init__ -/
def tMake (C : Addr) (sp : Sp) (dvs : List V) (E : XK) (t : TA) : TE := fun σ H Q => t σ H fun vs H1 => ∀ x dx, H1 x = none → H1 dx = none → dx ≠ x →
  sp (.ref x :: (vs ++ dvs)) (upd (upd H1 dx (.own x)) x (.ins C dx [])) (fun v H2 => v = .non ∧ Q (.ref x) H2) E

/-- how the parameters are bound: us the positional arguments, kw the keywords' values by name, ds the defaults that fill up -/
def Binds (K : PySem.W.Frag) (fd : FuncData) (ps : List Str) (ds : List Value) : Prop :=
  ∀ (s : Shared) (us : List Value), K.In s.heap → (us ++ ds).length = ps.length → BindsTo s fd ⟨us, []⟩ (ps.zip (us ++ ds))
/-- every parameter is given -/
theorem Binds.all {K : PySem.W.Frag} {fd : FuncData} {ps : List Str} (h : ∀ us : List Value, us.length = ps.length → bindArgs fd ⟨us, []⟩ = pure (ps.zip us)) : Binds K fd ps [] := fun s us _ hl => by
  rw [List.append_nil] at hl ⊢
  exact .of_eq (h us hl)

/-- an exception of a callee reaches what this body wants of exceptions -/
def Passes (CX : CXT) (X : Cx) (E : XK) : Prop := ∀ (pins : List (Addr × Obj)) (σ : St) (H : Hp) (s : Shared) (e : Value) (s' : Shared), Inv X pins σ H s → CX X.stack H s E e s' → X.xe e s'

section
variable {X : Cx} {CX : CXT} {k : Nat} {f C : Addr} {fd : FuncData} {ps : List Str} {sp : Sp} {dvs : List V} {ds : List Value} {E : XK} {x m : Str} {p pos apos : Pos} {e o : Expr} {es : List Expr} {ta : TE} {t : TA}

/-- the callee runs -/
theorem run_fn {pins : List (Addr × Obj)} {σ : St} {H : Hp} {s : Shared} {Q : VK} {us : List Value} {vs : List V} (F : FnOk X.prog X.w X.K X.mg X.base CX k f fd ps sp) (hr : Room k X.A) (hb : Binds X.K fd ps ds) (hd : Vals dvs ds) (hx : Passes CX X E)
    (I : Inv X pins σ H s) (r : Vals vs us) (h : sp (vs ++ dvs) H Q E) : wpAny (model X.prog X.w) X.A (call (.ref f) us) (EP X pins σ Q) X.xe s := by
  have r2 : Vals (vs ++ dvs) (us ++ ds) := r.append hd
  have hl : (us ++ ds).length = ps.length := by rw [← r2.length]; exact F.len _ _ _ _ h
  refine wpAny_call (codeAny_mono (F.run X.A X.stack s H ⟨us, []⟩ (us ++ ds) (vs ++ dvs) Q E hr I.env0 (hb s us I.kIn hl) r2 h) fun r s' hq => ?_)
  cases r with
  | error e => exact hx pins σ H s e s' I hq
  | ok fl =>
    cases fl with
    | ret u => exact I.after hq
    | next => exact False.elim hq
    | brk => exact False.elim hq
    | cont => exact False.elim hq

theorem pe_call (F : FnOk X.prog X.w X.K X.mg X.base CX k f fd ps sp) (hr : Room k X.A) (hg : Gl X x) (hm : X.mg x = some (.ref f)) (hk : PySem.W.keepIn X.K (.ref f) = true) (hb : Binds X.K fd ps ds) (hd : Vals dvs ds) (hx : Passes CX X E)
    (ha : PA X (e :: es) t) (hdb : (x == ("__debug__" : Str)) = false := by decide) (he : starEach (e :: es) X.env = (false, eval e X.env) :: starEach es X.env := by rfl) (hpl : (backTo pos (starEach es X.env)).any (·.1) = false := by rfl) :
    PE X (.Call (.Name x p) (e :: es) [] pos) (tCall sp dvs E t) := by
  intro pins s σ H Q I h
  refine wpAny_Call_Name_kw (ld_glob I hg hm ?_ hdb)
  refine PySem.W.callWith_K (h₀ := X.base) I.ok.mod.kin hk (thn (ha pos pins s σ H _ I h) fun us s1 ⟨vs, H1, I1, r, q⟩ => ⟨I1.kIn, ?_⟩) he hpl
  exact run_fn F hr hb hd hx I1 r q
theorem pe_call0 (F : FnOk X.prog X.w X.K X.mg X.base CX k f fd ps sp) (hr : Room k X.A) (hg : Gl X x) (hm : X.mg x = some (.ref f)) (hk : PySem.W.keepIn X.K (.ref f) = true) (hb : Binds X.K fd ps ds) (hd : Vals dvs ds) (hx : Passes CX X E)
    (hdb : (x == ("__debug__" : Str)) = false := by decide) : PE X (.Call (.Name x p) [] [] pos) (tCall sp dvs E tNil) := by
  intro pins s σ H Q I h
  refine wpAny_Call_Name_kw (ld_glob I hg hm ?_ hdb)
  exact PySem.W.callWith_K0 I.kIn hk (run_fn (us := []) F hr hb hd hx I .nil h)

/-- o.m(e, ..) -/
theorem pe_meth {pl : Sem Bool} (he : PE X o ta) (c : Cls X.K C) (hm : Meth X.K C m f) (F : FnOk X.prog X.w X.K X.mg X.base CX k f fd ps sp) (hr : Room k X.A) (hb : Binds X.K fd ps ds) (hd : Vals dvs ds) (hx : Passes CX X E) (ha : PA X (e :: es) t)
    (hst : starEach (e :: es) X.env = (false, eval e X.env) :: starEach es X.env := by rfl) (hpl : (backTo pos (starEach es X.env)).any (·.1) = false := by rfl)
    (ht : eval (.Call (.Attribute o m apos) (e :: es) [] pos) X.env = (do
      let ov ← eval o X.env
      standAt apos.atName
      let (f, first) ← holding [ov] (getMethod ov m pl)
      callWith pos f first (backTo pos (starEach (e :: es) X.env)) (backToKw pos (keywordEach [] X.env))) := by rfl) :
    PE X (.Call (.Attribute o m apos) (e :: es) [] pos) (tMeth C m sp dvs E ta t) := by
  intro pins s σ H Q I h
  refine PySem.W.methodCall_KW (pl := pl) (thn (he pins s σ H _ I h) fun u s1 ⟨x, H1, I1, rx, a, dx, fs, ex, ea, l, q⟩ => ?_) ht
  subst ex
  obtain rfl : u = Value.ref a := rx
  refine getmeth_ok I1 ea c hm l ?_
  refine PySem.W.callWith_K (first := [.ref a]) (h₀ := X.base) I.ok.mod.kin hm.kp (thn (ha pos pins s1 σ H1 _ I1 q) fun us s2 ⟨vs, H2, I2, r, q2⟩ => ⟨I2.kIn, ?_⟩) hst hpl
  exact run_fn (us := .ref a :: us) (vs := .ref a :: vs) F hr hb hd hx I2 (.cons rfl r) q2
/-- o.m() -/
theorem pe_meth0 {pl : Sem Bool} (he : PE X o ta) (c : Cls X.K C) (hm : Meth X.K C m f) (F : FnOk X.prog X.w X.K X.mg X.base CX k f fd ps sp) (hr : Room k X.A) (hb : Binds X.K fd ps ds) (hd : Vals dvs ds) (hx : Passes CX X E)
    (ht : eval (.Call (.Attribute o m apos) [] [] pos) X.env = (do
      let ov ← eval o X.env
      standAt apos.atName
      let (f, first) ← holding [ov] (getMethod ov m pl)
      callWith pos f first (backTo pos (starEach [] X.env)) (backToKw pos (keywordEach [] X.env))) := by rfl) :
    PE X (.Call (.Attribute o m apos) [] [] pos) (tMeth C m sp dvs E ta tNil) := by
  intro pins s σ H Q I h
  refine PySem.W.methodCall_KW (pl := pl) (thn (he pins s σ H _ I h) fun u s1 ⟨x, H1, I1, rx, a, dx, fs, ex, ea, l, q⟩ => ?_) ht
  subst ex
  obtain rfl : u = Value.ref a := rx
  refine getmeth_ok I1 ea c hm l ?_
  exact PySem.W.callWith_K0 (first := [.ref a]) I1.kIn hm.kp (run_fn (us := [.ref a]) (vs := [.ref a]) F hr hb hd hx I1 (.cons rfl .nil) q)

/-- what a class must have to be made -/
structure Mk (K : PySem.W.Frag) (C f : Addr) : Prop where
  makes : PySem.W.makesIn K C = true
  init : PySem.W.findIn K (.ref C) "__init__" = some (some (.ref f))
  fn : PySem.W.isFn K (.ref f) = true
  kp : PySem.W.keepIn K (.ref C) = true

theorem run_make {pins : List (Addr × Obj)} {σ : St} {H : Hp} {s : Shared} {Q : VK} {us : List Value} {vs : List V} (M : Mk X.K C f) (F : FnOk X.prog X.w X.K X.mg X.base CX k f fd ps sp) (hr : Room (k + 1) X.A) (hb : Binds X.K fd ps ds) (hd : Vals dvs ds)
    (hx : Passes CX X E) (I : Inv X pins σ H s) (r : Vals vs us)
    (h : ∀ x dx, H x = none → H dx = none → dx ≠ x → sp (.ref x :: (vs ++ dvs)) (upd (upd H dx (.own x)) x (.ins C dx [])) (fun v H2 => v = .non ∧ Q (.ref x) H2) E) :
    wpAny (model X.prog X.w) X.A (call (.ref C) us) (EP X pins σ Q) X.xe s := by
  have hq := h (s.heap.objs.size + 1) s.heap.objs.size (I.hok.fresh (Nat.le_succ _)) (I.hok.fresh (Nat.le_refl _)) (Nat.ne_of_lt (Nat.lt_succ_self _))
  have I2 := Inv.made (C := C) I
  have r2 : Vals (V.ref (s.heap.objs.size + 1) :: (vs ++ dvs)) (Value.ref (s.heap.objs.size + 1) :: (us ++ ds)) := .cons rfl (r.append hd)
  have hl : (Value.ref (s.heap.objs.size + 1) :: us ++ ds).length = ps.length := by
    have e := r2.length
    rw [F.len _ _ _ _ hq] at e
    exact e.symm
  refine wpAny_call (make_map (f := f) I.kIn M.makes M.init (beq_iff_eq.mp M.fn) (codeAny_mono (F.run _ X.stack _ _ ⟨Value.ref (s.heap.objs.size + 1) :: us, []⟩ (Value.ref (s.heap.objs.size + 1) :: (us ++ ds)) _ _ E (hr.make C us [])
    (I2.env0.make C us []) (hb _ (Value.ref (s.heap.objs.size + 1) :: us) I2.kIn hl) r2 hq) fun r s' hq' => ?_))
  cases r with
  | error e => exact hx pins σ _ _ e s' I2 hq'
  | ok fl =>
    cases fl with
    | ret u =>
      obtain ⟨v, H', I3, rv, ev, q3⟩ := I2.after hq'
      subst ev
      exact ⟨rv, ⟨V.ref (s.heap.objs.size + 1), H', I3, rfl, q3⟩⟩
    | next => exact False.elim hq'
    | brk => exact False.elim hq'
    | cont => exact False.elim hq'
theorem pe_make (M : Mk X.K C f) (F : FnOk X.prog X.w X.K X.mg X.base CX k f fd ps sp) (hr : Room (k + 1) X.A) (hg : Gl X x) (hm : X.mg x = some (.ref C)) (hb : Binds X.K fd ps ds) (hd : Vals dvs ds) (hx : Passes CX X E)
    (ha : PA X (e :: es) t) (hdb : (x == ("__debug__" : Str)) = false := by decide) (he : starEach (e :: es) X.env = (false, eval e X.env) :: starEach es X.env := by rfl) (hpl : (backTo pos (starEach es X.env)).any (·.1) = false := by rfl) :
    PE X (.Call (.Name x p) (e :: es) [] pos) (tMake C sp dvs E t) := by
  intro pins s σ H Q I h
  refine wpAny_Call_Name_kw (ld_glob I hg hm ?_ hdb)
  refine PySem.W.callWith_K (h₀ := X.base) I.ok.mod.kin M.kp (thn (ha pos pins s σ H _ I h) fun us s1 ⟨vs, H1, I1, r, q⟩ => ⟨I1.kIn, ?_⟩) he hpl
  exact run_make M F hr hb hd hx I1 r q
theorem pe_make0 (M : Mk X.K C f) (F : FnOk X.prog X.w X.K X.mg X.base CX k f fd ps sp) (hr : Room (k + 1) X.A) (hg : Gl X x) (hm : X.mg x = some (.ref C)) (hb : Binds X.K fd ps ds) (hd : Vals dvs ds) (hx : Passes CX X E)
    (hdb : (x == ("__debug__" : Str)) = false := by decide) : PE X (.Call (.Name x p) [] [] pos) (tMake C sp dvs E tNil) := by
  intro pins s σ H Q I h
  refine wpAny_Call_Name_kw (ld_glob I hg hm ?_ hdb)
  exact PySem.W.callWith_K0 I.kIn M.kp (run_make (us := []) M F hr hb hd hx I .nil h)
end

/-! ### keywords -/
/-- the values of the keywords, from the left -/
def PK (X : Cx) (kws : List Keyword) (t : TA) : Prop :=
  ∀ (pos : Pos) (pins : List (Addr × Obj)) (s : Shared) (σ : St) (H : Hp) (Q : List V → Hp → Prop), Inv X pins σ H s → t σ H Q → wpAny (model X.prog X.w) X.A (evalAll ((backToKw pos (keywordEach kws X.env)).map (·.2))) (AP X pins σ Q) X.xe s
section
variable {X : Cx} {CX : CXT} {k : Nat} {f C : Addr} {fd : FuncData} {ps ks : List Str} {sp : Sp} {E : XK} {x m : Str} {p pos apos kpos : Pos} {e o : Expr} {es : List Expr} {kws : List Keyword} {te ta : TE} {t tk : TA} {nm : Option Str}
theorem pk_nil : PK X [] tNil := fun _ _ _ _ H Q I h => wpAny_evalAll_nil ⟨[], H, I, .nil, h⟩
theorem pk_cons (ha : PE X e te) (hr : PK X kws t) : PK X (⟨nm, e, kpos⟩ :: kws) (tCons te t) := by
  intro pos pins s σ H Q I h
  show wpAny _ _ (evalAll ((do let v ← eval e X.env; standAt pos; pure v) :: (backToKw pos (keywordEach kws X.env)).map (·.2))) _ _ s
  refine wpAny_evalAll_cons (wpAny_bind (thn (ha pins s σ H _ I h) fun u s1 ⟨x, H1, I1, r1, q1⟩ => wpAny_bind (wpAny_standAt (wpAny_pure ?_))))
  exact thn (hr pos pins s1 σ H1 _ I1 q1) fun us s2 ⟨xs, H2, I2, r2, q2⟩ => ⟨x :: xs, H2, I2, .cons r1 r2, q2⟩

/-- how a call with keywords binds: g puts the positional values us and the keywords' values ws (names ks) in the parameters' order, defaults among them -/
structure KBinds (K : PySem.W.Frag) (fd : FuncData) (ps ks : List Str) (g : List Value → List Value → List Value) (gV : List V → List V → List V) : Prop where
  to : ∀ (s : Shared) (us ws : List Value), K.In s.heap → (g us ws).length = ps.length → BindsTo s fd ⟨us, ks.zip ws⟩ (ps.zip (g us ws))
  rel : ∀ {vs : List V} {us : List Value} {zs : List V} {ws : List Value}, Vals vs us → Vals zs ws → Vals (gV vs zs) (g us ws)
def tCallK (sp : Sp) (gV : List V → List V → List V) (E : XK) (t tk : TA) : TE := fun σ H Q => t σ H fun vs H1 => tk σ H1 fun zs H2 => sp (gV vs zs) H2 Q E
variable {g : List Value → List Value → List Value} {gV : List V → List V → List V}
theorem run_fnk {pins : List (Addr × Obj)} {σ : St} {H : Hp} {s : Shared} {Q : VK} {us ws : List Value} {vs zs : List V} (F : FnOk X.prog X.w X.K X.mg X.base CX k f fd ps sp) (hr : Room k X.A) (hb : KBinds X.K fd ps ks g gV) (hx : Passes CX X E)
    (I : Inv X pins σ H s) (r : Vals vs us) (rz : Vals zs ws) (h : sp (gV vs zs) H Q E) : wpAny (model X.prog X.w) X.A (call (.ref f) us (ks.zip ws)) (EP X pins σ Q) X.xe s := by
  have r2 := hb.rel r rz
  have hl : (g us ws).length = ps.length := by rw [← r2.length]; exact F.len _ _ _ _ h
  refine wpAny_call (codeAny_mono (F.run X.A X.stack s H ⟨us, ks.zip ws⟩ (g us ws) (gV vs zs) Q E hr I.env0 (hb.to s us ws I.kIn hl) r2 h) fun r s' hq => ?_)
  cases r with
  | error e => exact hx pins σ H s e s' I hq
  | ok fl =>
    cases fl with
    | ret u => exact I.after hq
    | next => exact False.elim hq
    | brk => exact False.elim hq
    | cont => exact False.elim hq
/-- f(e, .., k = v, ..) -/
theorem pe_callK (F : FnOk X.prog X.w X.K X.mg X.base CX k f fd ps sp) (hr : Room k X.A) (hg : Gl X x) (hm : X.mg x = some (.ref f)) (hk : PySem.W.keepIn X.K (.ref f) = true) (hb : KBinds X.K fd ps ks g gV) (hx : Passes CX X E)
    (ha : PA X (e :: es) t) (hkw : PK X kws tk) (hall : (backToKw pos (keywordEach kws X.env)).all (·.1.isSome) = true := by rfl) (hks : (backToKw pos (keywordEach kws X.env)).filterMap (·.1) = ks := by rfl)
    (hdb : (x == ("__debug__" : Str)) = false := by decide) (he : starEach (e :: es) X.env = (false, eval e X.env) :: starEach es X.env := by rfl)
    (hpl : ((backTo pos (starEach (e :: es) X.env)).any (·.1) || (backToKw pos (keywordEach kws X.env)).any (·.1.isNone)) = false := by rfl) :
    PE X (.Call (.Name x p) (e :: es) kws pos) (tCallK sp gV E t tk) := by
  intro pins s σ H Q I h
  refine wpAny_Call_Name_kw (ld_glob I hg hm ?_ hdb)
  refine PySem.W.callWith_KW (h₀ := X.base) I.ok.mod.kin hk hall (thn (ha pos pins s σ H _ I h) fun us s1 ⟨vs, H1, I1, r, q⟩ => ?_) hpl he
  refine thn (hkw pos pins s1 σ H1 _ I1 q) fun ws s2 ⟨zs, H2, I2, rz, q2⟩ => ⟨I2.kIn, ?_⟩
  rw [hks]
  exact run_fnk F hr hb hx I2 r rz q2
end

/-! ### a def's body keeps its promise -/
/-- names: the parameters first -/
structure FnScope (N P : List Str) (sc : Scope) : Prop where
  kind : sc.kind = .function
  co : sc.isCoroutine = false
  gen : sc.isGenerator = false
  nd : N.Nodup
  pre : N.take P.length = P
  par : ∀ x ∈ P, sc.names.lookup x = some .local ∨ sc.names.lookup x = some .cell
  nofree : ∀ y ∈ sc.names, y.2 ≠ .free

theorem bindL_out {kindOf : Str → Option NameKind} {x : Str} : ∀ {binds : List (Str × Value)} {m : Str → Option Value}, (∀ v, (x, v) ∉ binds) → bindL kindOf binds m x = m x
  | [], _, _ => rfl
  | (n, v) :: r, m, h => by
    unfold bindL
    rw [bindL_out fun w hw => h w (List.mem_cons_of_mem _ hw)]
    split
    · have : x ≠ n := by rintro rfl; exact h v List.mem_cons_self
      simp [this]
    · rfl
theorem bindC_out {kindOf : Str → Option NameKind} {x : Str} : ∀ {binds : List (Str × Value)} {m : Str → Option Value}, (∀ v, (x, v) ∉ binds) → bindC kindOf binds m x = m x
  | [], _, _ => rfl
  | (n, v) :: r, m, h => by
    unfold bindC
    rw [bindC_out fun w hw => h w (List.mem_cons_of_mem _ hw)]
    split
    · rfl
    · have : x ≠ n := by rintro rfl; exact h v List.mem_cons_self
      simp [this]
theorem bindL_get {kindOf : Str → Option NameKind} {x : Str} {v : Value} : ∀ {P : List Str} {vs : List Value} {i : Nat} {m : Str → Option Value}, P.Nodup → P[i]? = some x → vs[i]? = some v → kindOf x = some .local →
    bindL kindOf (P.zip vs) m x = some v
  | [], _, _, _, _, h, _, _ => by simp at h
  | _ :: _, [], _, _, _, _, h, _ => by simp at h
  | p :: P, w :: vs, 0, m, nd, h1, h2, hk => by
    simp at h1 h2; subst h1; subst h2
    show bindL kindOf ((p, w) :: P.zip vs) m p = _
    unfold bindL
    rw [bindL_out fun v hv => (List.nodup_cons.mp nd).1 (List.of_mem_zip hv).1, if_pos hk]
    simp
  | p :: P, w :: vs, i + 1, m, nd, h1, h2, hk => by
    show bindL kindOf ((p, w) :: P.zip vs) m x = _
    unfold bindL
    exact bindL_get (i := i) (List.nodup_cons.mp nd).2 (by simpa using h1) (by simpa using h2) hk
theorem bindC_get {kindOf : Str → Option NameKind} {x : Str} {v : Value} : ∀ {P : List Str} {vs : List Value} {i : Nat} {m : Str → Option Value}, P.Nodup → P[i]? = some x → vs[i]? = some v → kindOf x ≠ some .local →
    bindC kindOf (P.zip vs) m x = some v
  | [], _, _, _, _, h, _, _ => by simp at h
  | _ :: _, [], _, _, _, _, h, _ => by simp at h
  | p :: P, w :: vs, 0, m, nd, h1, h2, hk => by
    simp at h1 h2; subst h1; subst h2
    show bindC kindOf ((p, w) :: P.zip vs) m p = _
    unfold bindC
    rw [bindC_out fun v hv => (List.nodup_cons.mp nd).1 (List.of_mem_zip hv).1, if_neg hk]
    simp
  | p :: P, w :: vs, i + 1, m, nd, h1, h2, hk => by
    show bindC kindOf ((p, w) :: P.zip vs) m x = _
    unfold bindC
    exact bindC_get (i := i) (List.nodup_cons.mp nd).2 (by simpa using h1) (by simpa using h2) hk

/-- the names' values at the entry -/
def start (N : List Str) (vs : List V) : St := vs.map some ++ List.replicate (N.length - vs.length) none

/-- the context of a def's body, at its entry; an exception leaves the frame, then lies as CX says -/
def cxOf (CX : CXT) (P : Program) (w : World) (K : PySem.W.Frag) (mg : Str → Option Value) (base : Heap) (N : List Str) (qual : Str) (scope : Scope) (f : Addr) (cd : Value) (A : Around) (outer : List Env) (s : Shared) (H : Hp) (E : XK) : Cx where
  prog := P
  w := w
  K := K
  mg := mg
  base := base
  A := A.deeper (envOfC qual scope s.heap.objs.size f cd)
  N := N
  s₀ := s
  H₀ := H
  env := envOfC qual scope s.heap.objs.size f cd
  outer := outer
  stack := envOfC qual scope s.heap.objs.size f cd :: outer
  ex := []
  calm := true
  fn := fun _ => true
  pn := []
  xe := fun e s' => wpAny (model P w) (A.deeper (envOfC qual scope s.heap.objs.size f cd)) (leaving (envOfC qual scope s.heap.objs.size f cd) e) (fun _ s'' => CX outer H s E e s'') (fun e' s'' => CX outer H s E e' s'') s'

theorem cell_has {sc : Scope} {n : Nat} {x : Str} (h : sc.names.lookup x = some .cell) : ∃ c, (cellsFrom n sc.names []).lookup x = some c := by
  have q := PySem.W.cellsFrom_some sc.names n [] (.inl h)
  exact Option.isSome_iff_exists.mp q

theorem inv_start {CX : CXT} {P : Program} {w : World} {K : PySem.W.Frag} {mg : Str → Option Value} {base : Heap} {N ps : List Str} {qual : Str} {scope : Scope} {f : Addr} {cd : Value} {A : Around} {outer : List Env} {s s1 : Shared} {H : Hp} {E : XK} {us : List Value} {vs : List V}
    (S : FnScope N ps scope) (hd : A.handled = none) (e0 : Env0 P w K mg base A outer s H) (hl : vs.length = ps.length) (r : Vals vs us)
    (x : InCallC s s.heap.objs.size (bindL (envOfC qual scope s.heap.objs.size f cd).kindOf (ps.zip us) fun _ => none) (cellsFrom (s.heap.objs.size + 1) scope.names []) (bindC (envOfC qual scope s.heap.objs.size f cd).kindOf (ps.zip us) fun _ => none) s1) :
    Inv (cxOf CX P w K mg base N qual scope f cd A outer s H E) [] (start N vs) H s1 := by
  have hpl : ps.length ≤ N.length := by have := congrArg List.length S.pre; rw [List.length_take] at this; omega
  obtain ⟨h1, tk, rfl, hk⟩ := x.done
  have noA : ∀ b : Addr, b ∉ (cxOf CX P w K mg base N qual scope f cd A outer s H E).ex := fun b z => absurd (show b ∈ ([] : List Addr) from z) (by simp)
  refine ⟨⟨e0.mod, S.kind, rfl, rfl, Nat.le_refl _, fun y z c h1 h2 => ?_, fun y hy => ?_, fun y c _ h => ?_, fun _ => hd, Around.frames_deeper e0.frames, .inr ⟨rfl, rfl⟩, fun b z => absurd z (noA b), e0.bs, e0.bsz, fun b _ _ => noA b, fun b z => absurd z (noA b), e0.funs, e0.frf⟩,
    rfl, e0.bare, Un.kept hk, ⟨_, x.toInCall.ns, fun i y v h1 h2 h3 => ?_⟩, fun y c h => ⟨_, x.cell y c h⟩, e0.hok.fresh (Nat.le_refl _), fun y c h => ?_, fun p hp => absurd (show p ∈ ([] : List (Addr × Obj)) from hp) (by simp), e0.hok.kept hk, ?_⟩
  · exact name_of_addr x.apart (PySem.mem_of_lookup h1) (PySem.mem_of_lookup h2)
  · have hy : scope.names.lookup y = some .cell ∨ scope.names.lookup y = some .free := hy
    rcases hy with hy | hy
    · exact cell_has hy
    · exact absurd rfl (S.nofree _ (PySem.mem_of_lookup hy))
  · exact Nat.le_of_lt (x.above y c (PySem.mem_of_lookup h))
  · have hi : i < vs.length := by
      unfold start at h2
      by_cases hi : i < vs.length
      · exact hi
      · rw [List.getElem?_append_right (by simpa using hi)] at h2
        rw [List.getElem?_replicate] at h2
        split at h2 <;> cases h2
    have ha : vs[i]? = some v := by
      unfold start at h2
      rw [List.getElem?_append_left (by simpa using hi), List.getElem?_map] at h2
      cases e : vs[i]? with
      | none => rw [e] at h2; cases h2
      | some a => rw [e] at h2; cases h2; rfl
    obtain ⟨u, hu, rv⟩ := r.get ha
    have hp : ps[i]? = some y := by
      rw [← S.pre, List.getElem?_take_of_lt (by omega)]; exact h1
    have ndP : ps.Nodup := by rw [← S.pre]; exact S.nd.sublist (List.take_sublist _ _)
    refine ⟨u, rv, ?_⟩
    rcases S.par y (List.mem_of_getElem? hp) with k | k
    · exact .inl ⟨k, bindL_get ndP hp hu k⟩
    · obtain ⟨c, e⟩ := cell_has (n := s.heap.objs.size + 1) k
      refine .inr ⟨.inl k, c, e, ?_⟩
      have q := x.cell y c e
      rw [bindC_get ndP hp hu (by show scope.names.lookup y ≠ _; rw [k]; decide)] at q
      exact q
  · exact e0.hok.fresh (Nat.le_of_lt (x.above y c (PySem.mem_of_lookup h)))
  · unfold start
    show _ = N.length
    rw [List.length_append, List.length_map, List.length_replicate]
    omega

/-- THE RULE: a def (or a method) of the text, by its body. The body's reading t is chosen for each entry; it is run at the parameters' values -/
theorem fn_of {CX : CXT} {P : Program} {w : World} {K : PySem.W.Frag} {mg : Str → Option Value} {base : Heap} {k : Nat} {f : Addr} {name qual : Str} {params : Arguments} {body : List Stmt} {scope : Scope} {dV kV doc pm cdv ct oc : Value} {an od : Option Addr}
    {osl : Array (Option Value)} {N ps : List Str} {sp : Sp} (lk : K.lookup f = some ⟨oc, od, .func (PySem.W.fnOf name qual params body scope dV kV doc pm an cdv ct), osl⟩) (hcd : PySem.W.codeIn K cdv qual = true) (S : FnScope N ps scope)
    (len : ∀ vs H Q E, sp vs H Q E → vs.length = ps.length)
    (hbody : ∀ (A : Around) (outer : List Env) (s : Shared) (H : Hp) (vs : List V) (Q : VK) (E : XK), Room k (A.deeper (envOfC qual scope s.heap.objs.size f cdv)) → sp vs H Q E →
      ∃ t, PSs (cxOf CX P w K mg base N qual scope f cdv A outer s H E) body t ∧ t { nx := fun _ H' => Q .non H', rt := Q } (start N vs) H) :
    FnOk P w K mg base CX (k + 1) f (PySem.W.fnOf name qual params body scope dV kV doc pm an cdv ct) ps sp := by
  refine ⟨len, fun A outer s H args us vs Q E hr e0 hb r hsp => ?_⟩
  have hl := len _ _ _ _ hsp
  have KX : K.In s.heap := e0.mod.kin.keeps fun b o e => (e0.bs b o e).1
  have lim : s.heap.NoLimit := e0.mod.nolimit.keeps fun b o e => (e0.bs b o e).1
  have hkind : ∀ y ∈ ps.zip us, scope.names.lookup y.1 = some .local ∨ (scope.names.lookup y.1 = some .cell ∧ ((cellsFrom (s.heap.objs.size + 1) scope.names []).lookup y.1).isSome = true) := fun ⟨n, v⟩ hy => by
    rcases S.par n (List.of_mem_zip hy).1 with q | q
    · exact .inl q
    · exact .inr ⟨q, PySem.W.cellsFrom_some _ _ _ (.inl q)⟩
  refine codeAny_call_function hr.depth (KX _ _ lk) rfl S.co S.gen rfl (PySem.W.codeRec_of KX hcd) (hb _ _ _ _ ?_)
  refine wpAny_newFunctionEnv_cells S.kind hkind fun env he s1 x => ?_
  subst he
  refine ⟨lim.keeps x.toInCall.keep, codeAny_func ?_⟩
  obtain ⟨t, ht, hq⟩ := hbody A outer s H vs Q E (hr.deeper _) hsp
  have I : Inv (cxOf CX P w K mg base N qual scope f cdv A outer s H E) [] (start N vs) H s1 := inv_start S hr.hd e0 hl r x
  refine wpAny_mono (ht [] s1 (start N vs) H _ I hq) (fun fl s' hs => ?_) fun e s' hs => hs
  have fin : ∀ {σ' : St} {H' : Hp} {v : V} {u : Value}, Inv (cxOf CX P w K mg base N qual scope f cdv A outer s H E) [] σ' H' s' → RelV v u → Q v H' → CE outer P w H s Q u s' :=
    fun {σ' H' v u} J rv q => ⟨v, H', J.os, J.bare, J.base, J.hok, rv, q⟩
  cases fl with
  | ret u =>
    obtain ⟨v, σ', H', J, rv, q⟩ := hs
    exact fin J rv q
  | next =>
    obtain ⟨σ', H', J, q⟩ := hs
    exact fin (v := V.non) (u := Value.none) J rfl q
  | brk =>
    obtain ⟨_, _, _, q⟩ := hs
    exact False.elim q
  | cont =>
    obtain ⟨_, _, _, q⟩ := hs
    exact False.elim q
end L2

namespace L2
open PySem PySem.Spec PyProof.Rows
section
variable {X : Cx} {x : Str} {p pos : Pos} {e : Expr} {es : List Expr} {t : TA} {id T : String} {r : List V → Hp → VK → Prop}

def tCB (r : List V → Hp → VK → Prop) (t : TA) : TE := fun σ H Q => t σ H fun vs H1 => r vs H1 Q
/-- f(e, ..), f a built-in function -/
theorem pe_callB (hc : CallR X (.builtin id) r) (hg : Gl X x) (hm : X.mg x = none) (hv : bootBuiltins x = some (.builtin id)) (ha : PA X (e :: es) t) (hn : x ≠ "__name__" := by decide) (hdb : (x == ("__debug__" : Str)) = false := by decide)
    (he : starEach (e :: es) X.env = (false, eval e X.env) :: starEach es X.env := by rfl) (hpl : (backTo pos (starEach es X.env)).any (·.1) = false := by rfl) : PE X (.Call (.Name x p) (e :: es) [] pos) (tCB r t) := by
  intro pins s σ H Q I h
  refine wpAny_Call_Name_kw (ld_blt I hg hm hv ?_ hn hdb)
  exact PyProof.Rows.callWith_builtin1 (thn (ha pos pins s σ H _ I h) fun us s1 ⟨vs, H1, I1, r1, q1⟩ => hc pins s1 σ H1 vs us Q I1 r1 q1) he hpl
/-- T(e, ..), T a built-in type -/
theorem pe_callTy (hc : CallR X (.type T) r) (hg : Gl X x) (hm : X.mg x = none) (hv : bootBuiltins x = some (.type T)) (ha : PA X (e :: es) t) (hn : x ≠ "__name__" := by decide) (hdb : (x == ("__debug__" : Str)) = false := by decide)
    (he : starEach (e :: es) X.env = (false, eval e X.env) :: starEach es X.env := by rfl) (hpl : (backTo pos (starEach es X.env)).any (·.1) = false := by rfl) : PE X (.Call (.Name x p) (e :: es) [] pos) (tCB r t) := by
  intro pins s σ H Q I h
  refine wpAny_Call_Name_kw (ld_blt I hg hm hv ?_ hn hdb)
  exact PyProof.Rows.callWith_type1 (thn (ha pos pins s σ H _ I h) fun us s1 ⟨vs, H1, I1, r1, q1⟩ => hc pins s1 σ H1 vs us Q I1 r1 q1) he hpl
/-- T() -/
theorem pe_callTy0 (hc : CallR X (.type T) r) (hg : Gl X x) (hm : X.mg x = none) (hv : bootBuiltins x = some (.type T)) (hn : x ≠ "__name__" := by decide) (hdb : (x == ("__debug__" : Str)) = false := by decide) :
    PE X (.Call (.Name x p) [] [] pos) (tCB r tNil) := by
  intro pins s σ H Q I h
  refine wpAny_Call_Name_kw (ld_blt I hg hm hv ?_ hn hdb)
  exact PyProof.Rows.callWith_type0 (hc pins s σ H [] [] Q I .nil h)
end
end L2

namespace HT
open PySem PyProof.Rows

/-- t < u of tuples of ints -/
def lexLt : List Int → List Int → Bool
  | [], [] => false
  | [], _ :: _ => true
  | _ :: _, [] => false
  | x :: xs, y :: ys => if x = y then lexLt xs ys else decide (x < y)
theorem lexLt_cons (x y : Int) (xs ys : List Int) : lexLt (x :: xs) (y :: ys) = if x = y then lexLt xs ys else decide (x < y) := rfl
theorem lexLt_nil_nil : lexLt [] [] = false := rfl
theorem lexLt_nil_cons (y : Int) (ys : List Int) : lexLt [] (y :: ys) = true := rfl
theorem lexLt_cons_nil (x : Int) (xs : List Int) : lexLt (x :: xs) [] = false := rfl

theorem eqAt_int (A : Around) (s : Shared) (a : Int) (t : Tok) (c : Int) (u : Tok) : ∃ e, SeqAt.EqAt A s (.int a t) (.int c u) e ∧ (e = true ↔ a = c) :=
  ⟨(a == c), SeqAt.EqAt.int_int a t c u, by simp⟩
theorem rcLt_int (A : Around) (s : Shared) (a : Int) (t : Tok) (c : Int) (u : Tok) (prog : Program) (w : World) (E : Value → Shared → Prop) (Q : Value → Shared → Prop) (h : Q (.bool (decide (a < c))) s) :
    wpAny (model prog w) A (richCompare .Lt (.int a t) (.int c u)) Q E s :=
  (PyProof.Rows.lt_int h : wpAny (model prog w) A (compareOp .Lt (.int a t) (.int c u)) Q E s)

section
open PySem.SeqAt
open PySem.AutoSeq1 (wpAny_loadPart')
open PySem.MeetsSeq PySem.MeetsSeq2 PySem.MeetsSeq3

theorem tuple_lt_ints (l b : Addr) (items items2 : Array Value) (n n2 : Nat) (dd dd2 : Option Addr) (sl sl2 : Array (Option Value)) (ns ms : List Int) (hi : IntsAre items.toList ns) (hj : IntsAre items2.toList ms) :
    Meets (Builtin.«tuple.__lt__» ⟨[.ref l, .ref b], []⟩)
      (fun _ R s => s.heap.get? l = some { cls := .type "tuple", dict := dd, data := .seq items n, slots := sl } ∧ s.heap.get? b = some { cls := .type "tuple", dict := dd2, data := .seq items2 n2, slots := sl2 } ∧
        R (.ok (.ret (.bool (lexLt ns ms)))) s) :=
  .of_wp fun prog w A R s h => by
    obtain ⟨hp, g, d, tk, os⟩ := s; obtain ⟨hl, hb, h⟩ := h
    have f2 := AutoSeq1.sub_tuple_tuple
    have z1 : items.size = ns.length := by rw [← hi.length]; simp
    have z2 : items2.size = ms.length := by rw [← hj.length]; simp
    wp_walk using wpAny_loadPart' hl, wpAny_loadPart' hb, wpAny_forIn_list _ (fun rest b s' => b.1 = none ∧ s' = ⟨hp, g, d, tk, os⟩ ∧ ∃ (vs ws : List Value) (ns' ms' : List Int), rest = vs.zip ws ∧
      IntsAre vs ns' ∧ IntsAre ws ms' ∧ ns'.length + items2.size = ms'.length + items.size ∧ R (.ok (.ret (.bool (lexLt ns' ms')))) ⟨hp, g, d, tk, os⟩) _
    case turn =>
      rintro ⟨y, x⟩ rest b s' ⟨hb', rfl, vs, ws, ns', ms', hz, hvi, hwi, hlen, hR⟩
      cases hvi with
      | nil => rw [List.zip_nil_left] at hz; cases hz
      | cons a t hvi' =>
        cases hwi with
        | nil => rw [List.zip_nil_right] at hz; cases hz
        | cons c u hwi' =>
          rw [List.zip_cons_cons] at hz
          injection hz with hyx hrest
          injection hyx with hy hx
          subst hy hx
          rw [lexLt_cons] at hR
          simp only [List.length_cons] at hlen
          obtain ⟨e, he, hiff⟩ := eqAt_int A.in1 ⟨hp, g, d, tk, os⟩ a t c u
          refine wpAny_bind (he prog w _ _ ?_)
          cases e with
          | true =>
            rw [if_pos (hiff.mp rfl)] at hR
            wp_walk
            exact ⟨rfl, rfl, _, _, _, _, hrest, hvi', hwi', by omega, hR⟩
          | false =>
            rw [if_neg (fun q => absurd (hiff.mpr q) Bool.false_ne_true)] at hR
            have hri := rcLt_int A.in1 ⟨hp, g, d, tk, os⟩ a t c u prog w
            wp_walk using hri
            exact ⟨_, rfl, by simpa using hR⟩
    case fin =>
      rintro ⟨b1, b2⟩ s' ⟨hb', rfl, vs, ws, ns', ms', hz, hvi, hwi, hlen, hR⟩
      simp only at hb'
      subst hb'
      have hv : lexLt ns' ms' = decide (items.size < items2.size) := by
        cases hvi with
        | nil =>
          cases hwi with
          | nil =>
            simp only [List.length_nil] at hlen
            rw [lexLt_nil_nil]
            exact (decide_eq_false (by omega)).symm
          | cons c u hw =>
            simp only [List.length_nil, List.length_cons] at hlen
            rw [lexLt_nil_cons]
            exact (decide_eq_true (by omega)).symm
        | cons a t hv =>
          cases hwi with
          | nil =>
            simp only [List.length_nil, List.length_cons] at hlen
            rw [lexLt_cons_nil]
            exact (decide_eq_false (by omega)).symm
          | cons c u hw =>
            rw [List.zip_cons_cons] at hz
            cases hz
      rw [hv] at hR
      wp_walk
      exact ⟨_, rfl, by simpa [Builtin.Tuple.tupleCompareSizes] using hR⟩
    case h =>
      exact ⟨rfl, rfl, items.toList, items2.toList, ns, ms, rfl, hi, hj, by omega, h⟩
end

section
variable {prog : Program} {w : World} {A : Around} {E : Value → Shared → Prop} {s : Shared}

theorem lt_tupInts {l b : Addr} {items items2 : Array Value} {ns ms : List Int} {Q : Value → Shared → Prop} (hl : IsTup s.heap l items) (hb : IsTup s.heap b items2) (hi : IntsAre items.toList ns) (hj : IntsAre items2.toList ms)
    (hu : A.units < cLine) (h : Q (.bool (lexLt ns ms)) s) : wpAny (model prog w) A (compareOp .Lt (.ref l) (.ref b)) Q E s := by
  obtain ⟨⟨cls, dd, data, sl⟩, ho, hc, n, hd⟩ := id hl
  obtain ⟨⟨cls2, dd2, data2, sl2⟩, ho2, hc2, n2, hd2⟩ := id hb
  simp only at hc hd hc2 hd2
  subst hc hd hc2 hd2
  exact richCompare_meets_room (op := .Lt) ⟨_, ho, rfl⟩ ⟨_, ho2, rfl⟩ PySem.F.slot_tuple_lt PySem.F.entry_tuple_lt (PySem.F.args_tuple_lt_2 _ _) (tuple_lt_ints l b items items2 n n2 dd dd2 sl sl2 ns ms hi hj)
    ⟨ho, ho2, show Value.bool (lexLt ns ms) ≠ Value.notImplemented ∧ Q (.bool (lexLt ns ms)) s from ⟨(fun x => nomatch x), h⟩⟩ hu

/-- t + u, t not empty -/
theorem cat_tup {t b : Addr} {vs ws : List Value} {Q : Value → Shared → Prop} (ht : IsTup s.heap t vs.toArray) (hb : IsTup s.heap b ws.toArray) (hv : vs ≠ [])
    (h1 : ws = [] → Q (.ref t) s) (h2 : ws ≠ [] → Q (.ref s.heap.objs.size) { s with heap := s.heap.push { cls := .type "tuple", data := .seq (vs ++ ws).toArray } })
    (hsz : vs.length + ws.length ≤ sizeLine) : wpAny (model prog w) A (binaryOp .Add (.ref t) (.ref b)) Q E s := by
  obtain ⟨⟨cls, dd, data, sl⟩, ho, hc, n, hd⟩ := id ht
  obtain ⟨⟨cls2, dd2, data2, sl2⟩, ho2, hc2, n2, hd2⟩ := id hb
  simp only at hc hd hc2 hd2
  subst hc hd hc2 hd2
  have e : vs.toArray ++ ws.toArray = (vs ++ ws).toArray := by simp
  by_cases hw : ws = []
  · exact concat_meets ⟨_, ho, rfl⟩ ⟨_, ho2, rfl⟩ noFill_tuple_add seq_tuple_add PySem.F.slot_tuple_add PySem.F.entry_tuple_add (PySem.F.args_tuple_add_2 _ _)
      (tuple_addW1 t b vs.toArray ws.toArray n n2 dd dd2 sl sl2 (by simpa using hv) (by simp [hw])) ⟨ho, ho2, h1 hw⟩
  · refine concat_meets ⟨_, ho, rfl⟩ ⟨_, ho2, rfl⟩ noFill_tuple_add seq_tuple_add PySem.F.slot_tuple_add PySem.F.entry_tuple_add (PySem.F.args_tuple_add_2 _ _)
      (tuple_addW2 t b vs.toArray ws.toArray n n2 dd dd2 sl sl2 (by simpa using hv) (by simpa using hw) (by rw [List.size_toArray, List.size_toArray]; exact hsz)) ⟨ho, ho2, ?_⟩
    rw [e]
    exact h2 hw

/-! ### t[a:b], not the whole -/
/-- a slice's bound as a place among n (d where it is left out) -/
def sIx (n d : Nat) : Option Int → Nat
  | none => d
  | some v => if v < 0 then (v + (n : Int)).toNat else min v.toNat n
theorem sIx_none (n d : Nat) : sIx n d none = d := rfl
theorem sIx_nat (n d k : Nat) : sIx n d (some (k : Int)) = min k n := by
  show (if (k : Int) < 0 then ((k : Int) + (n : Int)).toNat else min (k : Int).toNat n) = min k n
  rw [if_neg (by omega), Int.toNat_natCast]
theorem sIx_le (n d : Nat) (hd : d ≤ n) (o : Option Int) : sIx n d o ≤ n := by
  cases o with
  | none => exact hd
  | some v =>
    show (if v < 0 then (v + (n : Int)).toNat else min v.toNat n) ≤ n
    by_cases hv : v < 0
    · rw [if_pos hv]; omega
    · rw [if_neg hv]; exact Nat.min_le_right _ _
theorem clip_eq (v : Int) (n d : Nat) : (if v < 0 then max (v + (n : Int)) 0 else min v (n : Int)) = ((sIx n d (some v) : Nat) : Int) := by
  show (if v < 0 then max (v + (n : Int)) 0 else min v (n : Int)) = (((if v < 0 then (v + (n : Int)).toNat else min v.toNat n) : Nat) : Int)
  by_cases hv : v < 0
  · simp only [if_pos hv]; omega
  · simp only [if_neg hv]; omega
theorem adjust_gen (lo hi : Option Int) (n : Nat) : Builtin.Slice.sliceAdjust lo hi 1 (n : Int) = (((sIx n 0 lo : Nat) : Int), ((sIx n n hi : Nat) : Int)) := by
  have h1 : ¬ ((1 : Int) < 0) := by omega
  unfold Builtin.Slice.sliceAdjust
  simp only [h1, if_false]
  refine Prod.ext ?_ ?_
  · cases lo with
    | none => rfl
    | some v => exact clip_eq v n 0
  · cases hi with
    | none => rfl
    | some v => exact clip_eq v n n
theorem places_gen (i j : Nat) : Builtin.Slice.slicePlaces (i : Int) (j : Int) 1 = j - i := by
  unfold Builtin.Slice.slicePlaces
  have h1 : (1 : Int) > 0 := by omega
  simp only [h1, if_true, Int.ediv_one]
  split <;> omega
theorem slicePart_ {v : Value} {o : Option Int} {Q : Option Int → Shared → Prop} (p : IsPart v o) (h : Q o s) : wpAny (model prog w) A (Builtin.Slice.slicePartIndex v) Q E s := by
  cases p with
  | none => exact slicePart_none h
  | int i t => exact slicePart_int h
theorem sliceApplied_gen {sl : Addr} {vl vu : Value} {lo hi : Option Int} {n : Nat} {Q : Int × Int × Nat → Shared → Prop} (hs : s.heap.IsSliceOf sl vl vu .none) (pl : IsPart vl lo) (pu : IsPart vu hi)
    (h : Q (((sIx n 0 lo : Nat) : Int), 1, sIx n n hi - sIx n 0 lo) s) : wpAny (model prog w) A (Builtin.Slice.sliceApplied (.ref sl) (pure (n : Int))) Q E s := by
  obtain ⟨os, hos, hcs, hds⟩ := id hs
  unfold Builtin.Slice.sliceApplied Builtin.Slice.sliceFields
  refine wpAny_bind (wpAny_bind (wpAny_field hos hds (x := vl) rfl (wpAny_bind (wpAny_field hos hds (x := vu) rfl (wpAny_bind (wpAny_field hos hds (x := .none) rfl (wpAny_pure ?_)))))))
  refine wpAny_bind (slicePart_none ?_)
  show wpAny _ _ (if ((1 : Int) == 0) = true then _ else _) _ _ s
  rw [if_neg (by decide)]
  refine wpAny_bind (slicePart_ pl (wpAny_bind (slicePart_ pu (wpAny_bind (wpAny_pure ?_)))))
  show wpAny _ _ (match Builtin.Slice.sliceAdjust lo hi 1 (n : Int) with | (lo, hi) => pure (lo, (1 : Int), Builtin.Slice.slicePlaces lo hi 1)) _ _ s
  rw [adjust_gen lo hi n]
  show wpAny _ _ (pure (((sIx n 0 lo : Nat) : Int), (1 : Int), Builtin.Slice.slicePlaces ((sIx n 0 lo : Nat) : Int) ((sIx n n hi : Nat) : Int) 1)) _ _ s
  rw [places_gen]
  exact wpAny_pure h
theorem pick_gen (xs : Array Value) (i k : Nat) : ((List.range k).filterMap fun (m : Nat) => xs[((i : Int) + (m : Int) * 1).toNat]?).toArray = ((xs.toList.drop i).take k).toArray := by
  have e : (fun (m : Nat) => xs[((i : Int) + (m : Int) * 1).toNat]?) = fun m => xs[i + m]? := by
    funext m
    have : ((i : Int) + (m : Int) * 1).toNat = i + m := by omega
    rw [this]
  rw [e]
  have := pick_run xs i k
  rw [List.filterMap_map] at this
  have e2 : ((fun x => xs[x]?) ∘ fun x => i + x) = fun m => xs[i + m]? := rfl
  rw [e2] at this
  rw [this]

theorem getItem_tuple_cut {t sl : Addr} {items : Array Value} {vl vu : Value} {lo hi : Option Int} {Q : Value → Shared → Prop} (ht : IsTup s.heap t items) (hs : s.heap.IsSliceOf sl vl vu .none) (pl : IsPart vl lo) (pu : IsPart vu hi)
    (hw : ¬ (sIx items.size 0 lo = 0 ∧ sIx items.size items.size hi = items.size))
    (h : Q (.ref s.heap.objs.size) { s with heap := s.heap.push { cls := .type "tuple", data := .seq ((items.toList.drop (sIx items.size 0 lo)).take (sIx items.size items.size hi - sIx items.size 0 lo)).toArray } })
    (hsz : items.size ≤ sizeLine) : wpAny (model prog w) A (getItem (.ref t) (.ref sl)) Q E s := by
  have htake : sizeOk (.seq ((items.toList.drop (sIx items.size 0 lo)).take (sIx items.size items.size hi - sIx items.size 0 lo)).toArray) := by
    show ((items.toList.drop (sIx items.size 0 lo)).take (sIx items.size items.size hi - sIx items.size 0 lo)).toArray.size ≤ sizeLine
    rw [List.size_toArray, List.length_take, List.length_drop, Array.length_toList]
    omega
  have hj : sIx items.size items.size hi ≤ items.size := sIx_le _ _ (Nat.le_refl _) hi
  obtain ⟨os, hos, hcs, hds⟩ := id hs
  have hTs : s.TypeIs (.ref sl) "slice" := ⟨os, hos, hcs⟩
  unfold getItem
  try with_reducible refine wpAny_holding ?_
  first | refine wpAny_bind (wpAny_pure ?_) | skip
  refine wpAny_bind (wpAny_sequenceKey ht.typeIs (by decide) ?_)
  refine wpAny_bind (wpAny_callSpecial?_slot (name := Str.ofString "__getitem__") ht.typeIs PyProof.Rows.slot_tuple_getitem
    (wpAny_call_entry PyProof.Rows.slot_tuple_getitem ht.typeIs entry_tuple_getitem ?_ (args_tuple_getitem _ _)))
  show wpAny _ _ (Builtin.Tuple.tupleItemsOf (.ref t) >>= _) _ _ s
  refine wpAny_bind (tupleItemsOf_ ht ?_)
  refine wpAny_bind (wpAny_typeOf hTs ?_)
  rw [if_pos (by decide)]
  refine wpAny_bind (sliceApplied_gen hs pl pu ?_)
  have hno : ¬ ((((sIx items.size 0 lo : Nat) : Int) == 0 && (1 : Int) == 1 && (sIx items.size items.size hi - sIx items.size 0 lo) == items.size) = true) := by
    intro q
    rw [Bool.and_eq_true, Bool.and_eq_true] at q
    have q1 : ((sIx items.size 0 lo : Nat) : Int) = 0 := eq_of_beq q.1.1
    have q2 : sIx items.size items.size hi - sIx items.size 0 lo = items.size := eq_of_beq q.2
    exact hw ⟨by omega, by omega⟩
  show wpAny _ _ (if (((sIx items.size 0 lo : Nat) : Int) == 0 && (1 : Int) == 1 && (sIx items.size items.size hi - sIx items.size 0 lo) == items.size) = true then _ else _) _ _ s
  rw [if_neg hno, pick_gen]
  first
    | exact wpAny_bind (m := Builtin.Tuple.tupleExact _) (wpAny_newObj_type (wpAny_pure ⟨_, rfl, wpAny_pure h⟩) htake)
    | exact wpAny_bind (m := Builtin.Tuple.tupleExact _) (wpAny_newObj_type (wpAny_bind (wpAny_pure (wpAny_pure ⟨_, rfl, wpAny_pure h⟩))) htake)
    | exact wpAny_bind (wpAny_bind (m := Builtin.Tuple.tupleExact _) (wpAny_newObj_type (wpAny_pure (wpAny_pure ⟨_, rfl, wpAny_pure h⟩)) htake))
    | exact wpAny_bind (wpAny_bind (m := Builtin.Tuple.tupleExact _) (wpAny_newObj_type (wpAny_pure ⟨_, rfl, wpAny_pure h⟩) htake))
end
end HT

namespace L2
open PySem PySem.Spec PyProof.Rows

/-! ### the parts of a slice -/
abbrev TO := St → Hp → (Option Int → Hp → Prop) → Prop
/-- a slice's part (left out, or an int) -/
def PO (X : Cx) (e : Option Expr) (t : TO) : Prop :=
  ∀ (pins : List (Addr × Obj)) (s : Shared) (σ : St) (H : Hp) (Q : Option Int → Hp → Prop), Inv X pins σ H s → t σ H Q →
    wpAny (model X.prog X.w) X.A (evalPart e X.env) (fun u s' => ∃ o H', Inv X pins σ H' s' ∧ IsPart u o ∧ Q o H') X.xe s
def tNoPart : TO := fun _ H Q => Q none H
def tPart (t : TE) : TO := fun σ H Q => t σ H fun x H1 => ∃ i, x = .int i ∧ Q (some i) H1

theorem intsAre_of {ns : List Int} : ∀ {us : List Value}, Vals (ns.map V.int) us → IntsAre us ns := by
  induction ns with
  | nil => intro us r; rw [List.map_nil] at r; cases r; exact .nil
  | cons n ns ih =>
    intro us r
    rw [List.map_cons] at r
    cases r with
    | cons r1 r2 =>
      obtain ⟨t, e⟩ := r1
      subst e
      exact .cons n t (ih r2)

section
variable {X : Cx} {e : Expr} {te : TE} {lo hi : Option Expr} {tl th : TO} {pos p2 : Pos}

theorem po_none : PO X none tNoPart := by
  intro pins s σ H Q I h
  rw [evalPart_none]
  exact wpAny_pure ⟨none, H, I, .none, h⟩
theorem po_some (h : PE X e te) : PO X (some e) (tPart te) := by
  intro pins s σ H Q I hw
  rw [evalPart_some]
  refine thn (h pins s σ H _ I hw) fun u s1 ⟨x, H1, I1, r1, q1⟩ => ?_
  obtain ⟨i, rfl, q⟩ := q1
  obtain ⟨t, rfl⟩ := r1
  exact ⟨some i, H1, I1, .int i t, q⟩

/-- what a slice of a value is, by values: the slice object stands at sl -/
def SlR (X : Cx) (r : V → Option Int → Option Int → Hp → VK → Prop) : Prop :=
  ∀ (pins : List (Addr × Obj)) (s : Shared) (σ : St) (H : Hp) (x : V) (v vl vu : Value) (lo hi : Option Int) (sl : Addr) (Q : VK), Inv X pins σ H s → RelV x v → s.heap.IsSliceOf sl vl vu .none → IsPart vl lo → IsPart vu hi → r x lo hi H Q →
    ∃ T id, typeLookup (.type T) "__getitem__" = pure (some (.builtin id)) ∧ s.TypeIs v T ∧ wpAny (model X.prog X.w) X.A (getItem v (.ref sl)) (EP X pins σ Q) X.xe s
theorem SlR.or {r r' : V → Option Int → Option Int → Hp → VK → Prop} (h : SlR X r) (h' : SlR X r') : SlR X (fun x lo hi H Q => r x lo hi H Q ∨ r' x lo hi H Q) := by
  intro pins s σ H x v vl vu lo hi sl Q I rx hs pl pu q
  rcases q with q | q
  · exact h pins s σ H x v vl vu lo hi sl Q I rx hs pl pu q
  · exact h' pins s σ H x v vl vu lo hi sl Q I rx hs pl pu q
def tSl (r : V → Option Int → Option Int → Hp → VK → Prop) (te : TE) (tl th : TO) : TE := fun σ H Q => te σ H fun x H1 => tl σ H1 fun l H2 => th σ H2 fun u H3 => r x l u H3 Q
/-- a[lo:hi], any a -/
theorem pe_slice {r : V → Option Int → Option Int → Hp → VK → Prop} (hr : SlR X r) (he : PE X e te) (hl : PO X lo tl) (hu : PO X hi th) : PE X (.Subscript e (.Slice lo hi none p2) pos) (tSl r te tl th) := by
  intro pins s σ H Q I h
  refine Subscript_ (thn (he pins s σ H _ I h) fun v s1 ⟨x, H1, I1, r1, q1⟩ => ?_)
  refine wpAny_Slice (thn (hl pins s1 σ H1 _ I1 q1) fun vl s2 ⟨l, H2, I2, pl, q2⟩ => thn (hu pins s2 σ H2 _ I2 q2) fun vu s3 ⟨u, H3, I3, pu, q3⟩ => ?_)
  rw [evalPart_none]
  refine wpAny_pure ?_
  have I4 : Inv X pins σ H3 { s3 with heap := s3.heap.push { cls := .type "slice", data := .fields #[vl, vu, .none] } } := I3.kept (t' := s3.toks) fun b ob q => Heap.get?_push_of_some _ q
  obtain ⟨T, id, hT, ht, hg⟩ := hr pins { s3 with heap := s3.heap.push { cls := .type "slice", data := .fields #[vl, vu, .none] } } σ H3 x v vl vu l u s3.heap.objs.size Q I4 r1 (Heap.IsSliceOf.new ..) pl pu q3
  show wpAny (model X.prog X.w) X.A (subscriptTail e (.Slice lo hi none p2) v (.ref s3.heap.objs.size)) (EP X pins σ Q) X.xe { s3 with heap := s3.heap.push { cls := .type "slice", data := .fields #[vl, vu, .none] } }
  exact tail_any (ops := [.ref s3.heap.objs.size, v]) ht hT hg (by with_unfolding_all rfl)

/-- the items of xs[lo:hi] -/
def cutV (xs : List V) (lo hi : Option Int) : List V := (xs.drop (HT.sIx xs.length 0 lo)).take (HT.sIx xs.length xs.length hi - HT.sIx xs.length 0 lo)
theorem cutV_length (xs : List V) (lo hi : Option Int) : (cutV xs lo hi).length ≤ xs.length := by
  unfold cutV
  rw [List.length_take, List.length_drop]
  omega
/-- t[lo:hi], not the whole of it (the whole would be t itself) -/
def rSlT (K : PySem.W.Frag) : V → Option Int → Option Int → Hp → VK → Prop := fun x lo hi H Q => ∃ a xs, x = .ref a ∧ SqT K H a xs ∧
  ¬ (HT.sIx xs.length 0 lo = 0 ∧ HT.sIx xs.length xs.length hi = xs.length) ∧ ∀ p, H p = none → Q (.ref p) (upd H p (.tup (cutV xs lo hi)))
theorem sl_tup : SlR X (rSlT X.K) := by
  intro pins s σ H x v vl vu lo hi sl Q I rx hs pl pu h
  obtain ⟨a, xs, rfl, hx, hw, q⟩ := h
  cases rx
  obtain ⟨its, r, ht, hz⟩ := I.tuple hx
  have hlen : its.toArray.size = xs.length := by rw [List.size_toArray]; exact r.length.symm
  refine ⟨"tuple", _, PyProof.Rows.slot_tuple_getitem.lookup, ht.typeIs, ?_⟩
  refine HT.getItem_tuple_cut ht hs pl pu (by rw [hlen]; exact hw) ?_ (by rw [hlen]; exact hz)
  rw [hlen]
  refine ⟨.ref s.heap.objs.size, _, I.laid (t' := s.toks) (o := .tup (cutV xs lo hi)) (fun b ob q => Heap.get?_push_of_some _ q) (Nat.le_refl _) ?_, rfl, q _ (I.hok.fresh (Nat.le_refl _))⟩
  exact ⟨Nat.le_trans (cutV_length xs lo hi) hz, _, (r.drop (HT.sIx xs.length 0 lo)).take (HT.sIx xs.length xs.length hi - HT.sIx xs.length 0 lo), IsTup.new _ _⟩

/-! ### t < u, t + u -/
def rLtT (K : PySem.W.Frag) : R2 := fun x y H Q => ∃ a b ns ms, x = .ref a ∧ y = .ref b ∧ SqT K H a (ns.map V.int) ∧ SqT K H b (ms.map V.int) ∧ Q (.bl (HT.lexLt ns ms)) H
theorem op_ltT (hu : X.A.units < cLine) : OpR X (compareOp .Lt) (rLtT X.K) := by
  intro pins s σ H x y v u Q I rx ry h
  obtain ⟨a, b, ns, ms, rfl, rfl, ha, hb, q⟩ := h
  cases rx
  cases ry
  obtain ⟨its, r1, p1, _⟩ := I.tuple ha
  obtain ⟨its2, r2, p2, _⟩ := I.tuple hb
  have i1 : IntsAre its.toArray.toList ns := intsAre_of r1
  have i2 : IntsAre its2.toArray.toList ms := intsAre_of r2
  exact HT.lt_tupInts p1 p2 i1 i2 hu ⟨.bl (HT.lexLt ns ms), H, I, rfl, q⟩
/-- t + u, t not empty: u empty gives t itself -/
def rCatT (K : PySem.W.Frag) : R2 := fun x y H Q => ∃ a b xs ys, x = .ref a ∧ y = .ref b ∧ SqT K H a xs ∧ SqT K H b ys ∧ xs ≠ [] ∧ xs.length + ys.length ≤ sizeLine ∧
  (ys = [] → Q (.ref a) H) ∧ (ys ≠ [] → ∀ p, H p = none → Q (.ref p) (upd H p (.tup (xs ++ ys))))
theorem Vals.nil_iff {xs : List V} {us : List Value} (r : Vals xs us) : us = [] ↔ xs = [] := by
  cases r with
  | nil => simp
  | cons _ _ => simp
theorem op_catT : OpR X (binaryOp .Add) (rCatT X.K) := by
  intro pins s σ H x y v u Q I rx ry h
  obtain ⟨a, b, xs, ys, rfl, rfl, ha, hb, hx, hz, q1, q2⟩ := h
  cases rx
  cases ry
  obtain ⟨its, r1, p1, _⟩ := I.tuple ha
  obtain ⟨its2, r2, p2, _⟩ := I.tuple hb
  refine HT.cat_tup p1 p2 (fun z => hx (r1.nil_iff.mp z)) (fun z => ⟨.ref a, H, I, rfl, q1 (r2.nil_iff.mp z)⟩) (fun z => ?_) (by rw [← r1.length, ← r2.length]; exact hz)
  refine ⟨.ref s.heap.objs.size, _, I.laid (t' := s.toks) (o := .tup (xs ++ ys)) (fun b ob q => Heap.get?_push_of_some _ q) (Nat.le_refl _) ?_, rfl, q2 (fun w => z (r2.nil_iff.mpr w)) _ (I.hok.fresh (Nat.le_refl _))⟩
  exact ⟨by rw [List.length_append]; exact hz, _, r1.append r2, IsTup.new _ _⟩
/-- tuple(t) -/
theorem call_tupleT : CallR X (.type "tuple") (fun xs H Q => ∃ a ys, xs = [.ref a] ∧ SqT X.K H a ys ∧ Q (.ref a) H) := by
  intro pins s σ H xs us Q I r h
  obtain ⟨a, ys, rfl, ha, q⟩ := h
  obtain ⟨u, rfl, ru⟩ := vals1 r
  cases ru
  obtain ⟨its, _, p1, _⟩ := I.tuple ha
  exact call_tuple_same (items := its.toArray) p1 ⟨.ref a, H, I, rfl, q⟩
end
end L2

namespace L2
open PySem PySem.Spec PyProof.Rows

/-! ### places -/
/-- the place that an index of any sign means -/
def ixN (n : Nat) (i : Int) : Option Nat := if 0 ≤ i then (if i < n then some i.toNat else none) else if -(n : Int) ≤ i then some (i + n).toNat else none
def atI {α : Type} (xs : List α) (i : Int) : Option α := (ixN xs.length i).bind fun j => xs[j]?
theorem ixN_seq {n : Nat} {i : Int} {j : Nat} (h : ixN n i = some j) : seqIndex? i n = some j ∧ j < n ∧ -(n : Int) ≤ i ∧ i < n := by
  unfold ixN at h
  by_cases h0 : 0 ≤ i
  · rw [if_pos h0] at h
    by_cases h1 : i < n
    · rw [if_pos h1] at h
      have e : i.toNat = j := Option.some.inj h
      exact ⟨by rw [seqIndex_of h0 h1, e], by omega, by omega, h1⟩
    · rw [if_neg h1] at h; cases h
  · rw [if_neg h0] at h
    by_cases h1 : -(n : Int) ≤ i
    · rw [if_pos h1] at h
      have e : (i + n).toNat = j := Option.some.inj h
      exact ⟨by rw [seqIndex_neg (by omega) h1, e], by omega, h1, by omega⟩
    · rw [if_neg h1] at h; cases h
theorem atI_get {α : Type} {xs : List α} {i : Int} {v : α} (h : atI xs i = some v) : ∃ j, seqIndex? i xs.length = some j ∧ xs[j]? = some v ∧ j < xs.length ∧ -(xs.length : Int) ≤ i ∧ i < xs.length := by
  unfold atI at h
  cases e : ixN xs.length i with
  | none => rw [e] at h; cases h
  | some j =>
    rw [e] at h
    obtain ⟨h1, h2, h3, h4⟩ := ixN_seq e
    exact ⟨j, h1, h, h2, h3, h4⟩
theorem atI_nat {α : Type} {xs : List α} {j : Nat} {v : α} (h : xs[j]? = some v) : atI xs (j : Int) = some v := by
  have hj : j < xs.length := (List.getElem?_eq_some_iff.mp h).1
  have e : ixN xs.length (j : Int) = some j := by
    unfold ixN
    rw [if_pos (by omega), if_pos (by omega)]; simp
  unfold atI; rw [e]; exact h
theorem atI_last {α : Type} (xs : List α) (v : α) : atI (xs ++ [v]) (-1) = some v := by
  have hl : (xs ++ [v]).length = xs.length + 1 := by simp
  have e : ixN (xs ++ [v]).length (-1) = some xs.length := by
    unfold ixN
    rw [hl, if_neg (by decide), if_pos (by omega)]
    congr 1
    omega
  unfold atI
  rw [e]
  show (xs ++ [v])[xs.length]? = some v
  simp

/-! ### what may be subscripted -/
/-- what stands as an index of a plain subscript -/
def PlainIx (b : Expr) : Prop := ∀ o i, subscripted b false o i = operate [o, i] (getItem o i)
/-- a subscript by values -/
def IxR (X : Cx) (r : R2) : Prop :=
  ∀ (value slice : Expr) (pins : List (Addr × Obj)) (s : Shared) (σ : St) (H : Hp) (x y : V) (v u : Value) (Q : VK), Inv X pins σ H s → RelV x v → RelV y u → r x y H Q →
    subscripted slice false v u = operate [v, u] (getItem v u) → wpAny (model X.prog X.w) X.A (subscriptTail value slice v u) (EP X pins σ Q) X.xe s
/-- a call of a builtin's method by values: the receiver, the arguments -/
def MtR (X : Cx) (id : String) (r : V → List V → Hp → VK → Prop) : Prop :=
  ∀ (pins : List (Addr × Obj)) (s : Shared) (σ : St) (H : Hp) (x : V) (xs : List V) (v : Value) (us : List Value) (Q : VK), Inv X pins σ H s → RelV x v → Vals xs us → r x xs H Q →
    wpAny (model X.prog X.w) X.A (call (.builtin id) (v :: us)) (EP X pins σ Q) X.xe s
section
variable {X : Cx} {a b : Expr} {ta tb : TE} {pos : Pos}
theorem IxR.or {r r' : R2} (h : IxR X r) (h' : IxR X r') : IxR X (fun x y H Q => r x y H Q ∨ r' x y H Q) := by
  intro value slice pins s σ H x y v u Q I rx ry q hs
  rcases q with q | q
  · exact h value slice pins s σ H x y v u Q I rx ry q hs
  · exact h' value slice pins s σ H x y v u Q I rx ry q hs
theorem MtR.or {id : String} {r r' : V → List V → Hp → VK → Prop} (h : MtR X id r) (h' : MtR X id r') : MtR X id (fun x xs H Q => r x xs H Q ∨ r' x xs H Q) := by
  intro pins s σ H x xs v us Q I rx rs q
  rcases q with q | q
  · exact h pins s σ H x xs v us Q I rx rs q
  · exact h' pins s σ H x xs v us Q I rx rs q
/-- a[b] -/
theorem pe_ix {r : R2} (hr : IxR X r) (ha : PE X a ta) (hb : PE X b tb) (hs : PlainIx b) : PE X (.Subscript a b pos) (tOp r ta tb) := by
  intro pins s σ H Q I h
  exact Subscript_ (binT ha hb I h fun v u s2 x y H2 I2 rx ry q => hr a b pins s2 σ H2 x y v u Q I2 rx ry q (hs _ _))

def rIxL (K : PySem.W.Frag) : R2 := fun x y H Q => ∃ p xs i v, x = .ref p ∧ y = .int i ∧ SqL K H p xs ∧ atI xs i = some v ∧ Q v H
def rIxT (K : PySem.W.Frag) : R2 := fun x y H Q => ∃ p xs i v, x = .ref p ∧ y = .int i ∧ SqT K H p xs ∧ atI xs i = some v ∧ Q v H
def rIxS : R2 := fun x y H Q => ∃ z i c, x = .str z ∧ y = .int i ∧ z.length ≤ sizeLine ∧ atI z.cps.toList i = some c ∧ Q (.str ⟨#[c]⟩) H
theorem ix_list : IxR X (rIxL X.K) := by
  intro value slice pins s σ H x y v u Q I rx ry h hs
  obtain ⟨p, xs, i, z, rfl, rfl, hq, he, q⟩ := h
  cases rx
  obtain ⟨t, rfl⟩ := ry
  obtain ⟨its, r, pl, hz⟩ := I.list hq
  obtain ⟨j, h1, h2, h3, h4, h5⟩ := atI_get he
  obtain ⟨w, ew, rw'⟩ := r.get h2
  have hl := r.length
  have hn := line63
  have fin : EP X pins σ Q w s := ⟨z, H, I, rw', q⟩
  by_cases h0 : 0 ≤ i
  · have hj : i.toNat = j := by
      rw [seqIndex_of h0 h5] at h1
      exact Option.some.inj h1
    exact item_listR pl.isList h0 (by omega) (by rw [hj]; simpa using ew) fin hs
  · have hj : (i + (its.toArray.size : Int)).toNat = j := by
      rw [seqIndex_neg (by omega) h4] at h1
      rw [List.size_toArray, ← hl]
      exact Option.some.inj h1
    exact subscriptTail_builtinR (x := w) pl.isList.typeIs slot_list_getitem.lookup
      (wpAny_getItem_list_neg (Q := fun r s' => r = w ∧ EP X pins σ Q r s') pl.isList (by omega) (by rw [List.size_toArray] <;> omega) (by omega) (by rw [hj]; simpa using ew) ⟨rfl, fin⟩) hs
theorem ix_tup : IxR X (rIxT X.K) := by
  intro value slice pins s σ H x y v u Q I rx ry h hs
  obtain ⟨p, xs, i, z, rfl, rfl, hq, he, q⟩ := h
  cases rx
  obtain ⟨t, rfl⟩ := ry
  obtain ⟨its, r, pl, hz⟩ := I.tuple hq
  obtain ⟨j, h1, h2, h3, h4, h5⟩ := atI_get he
  obtain ⟨w, ew, rw'⟩ := r.get h2
  have hl := r.length
  have hn := line63
  have fin : EP X pins σ Q w s := ⟨z, H, I, rw', q⟩
  exact subscriptTail_builtinR (x := w) pl.typeIs slot_tuple_getitem.lookup
    (getItem_tuple (j := j) (Q := fun r s' => r = w ∧ EP X pins σ Q r s') pl (by omega) (by omega) (by rw [List.size_toArray, ← hl]; exact h1) (by simpa using ew) ⟨rfl, fin⟩) hs
theorem ix_str : IxR X rIxS := by
  intro value slice pins s σ H x y v u Q I rx ry h hs
  obtain ⟨z, i, c, rfl, rfl, hz, he, q⟩ := h
  obtain ⟨t, rfl⟩ := rx
  obtain ⟨t', rfl⟩ := ry
  obtain ⟨j, h1, h2, h3, h4, h5⟩ := atI_get he
  have hl : z.cps.toList.length = z.length := by simp [Str.length]
  rw [hl] at h1 h4 h5
  have hn := line63
  exact tail_any (typeIs_str s z t) slot_str_getitem.lookup (getItem_str (c := c) (by
    have e1 : decide (i < -(2 ^ 63 : Int)) = false := decide_eq_false (by omega)
    have e2 : decide (i ≥ 2 ^ 63) = false := decide_eq_false (by omega)
    rw [e1, e2, Bool.or_false]) (by rw [h1]; simpa using h2) ⟨.str ⟨#[c]⟩, H, I.tok _, ⟨_, rfl⟩, q⟩) hs
/-- list, tuple or str -/
def rIx (K : PySem.W.Frag) : R2 := fun x y H Q => rIxL K x y H Q ∨ rIxT K x y H Q ∨ rIxS x y H Q
theorem ix_seq : IxR X (rIx X.K) := ix_list.or (ix_tup.or ix_str)

/-! ### xs[i] = v, any sign -/
/-- the list's object behind a store -/
theorem mapSeq_set (its : List Value) (n j : Nat) (u : Value) : Obj.mapSeq (·.setIfInBounds j u) { cls := .type "list", data := .seq its.toArray n } = { cls := .type "list", data := .seq (its.set j u).toArray n } := by
  simp [Obj.mapSeq]
theorem Inv.lst {pins : List (Addr × Obj)} {σ : St} {H : Hp} {s : Shared} {p : Addr} {xs : List V} (I : Inv X pins σ H s) (h : H p = some (.lst xs)) :
    ∃ (its : List Value) (n : Nat), Vals xs its ∧ s.heap.get? p = some { cls := .type "list", data := .seq its.toArray n } ∧ xs.length ≤ sizeLine := by
  obtain ⟨z, its, n, r, e⟩ := I.hok p _ h
  exact ⟨its, n, r, e, z⟩
/-- the list at p is written by an update of its object -/
theorem Inv.lstUpd {pins : List (Addr × Obj)} {σ : St} {H : Hp} {s : Shared} {p : Addr} {xs ys : List V} {its its' : List Value} {n n' : Nat} {f : Obj → Obj} (I : Inv X pins σ H s) (h : H p = some (.lst xs))
    (ho : s.heap.get? p = some { cls := .type "list", data := .seq its.toArray n }) (hf : f { cls := .type "list", data := .seq its.toArray n } = { cls := .type "list", data := .seq its'.toArray n' }) (r : Vals ys its') (hz : ys.length ≤ sizeLine) (t : Nat) :
    Inv X pins σ (upd H p (.lst ys)) { s with heap := s.heap.update p f, toks := t } := by
  have e : (s.heap.update p f).get? p = some { cls := .type "list", data := .seq its'.toArray n' } := by
    rw [Heap.get?_update_self f ho (by rw [hf] <;> rfl), hf]
  refine I.write (x := p) (e := p) (by rw [h]; trivial) (.inl rfl) (fun b u hb q => (Heap.get?_update_other _ _ (Ne.symm hb)).trans q) ⟨_, e⟩ ?_
  exact ⟨hz, its', n', r, e⟩
def rSetL : V → V → V → Hp → (Hp → Prop) → Prop := fun o i v H Q => ∃ p xs k j, o = .ref p ∧ i = .int k ∧ H p = some (.lst xs) ∧ ixN xs.length k = some j ∧ Q (upd H p (.lst (xs.set j v)))
theorem set_list : PSet X rSetL := by
  intro pins s σ H o i v ov iv u Q I ro ri rv h
  obtain ⟨p, xs, k, j, rfl, rfl, hp, hj, q⟩ := h
  cases ro
  obtain ⟨t, rfl⟩ := ri
  obtain ⟨its, n, r, ho, hz⟩ := I.lst hp
  obtain ⟨h1, h2, h3, h4⟩ := ixN_seq hj
  have hl := r.length
  have hn := line63
  have I' : Inv X pins σ (upd H p (.lst (xs.set j v))) { s with heap := s.heap.update p (Obj.mapSeq (·.setIfInBounds j u)) } :=
    I.lstUpd hp ho (mapSeq_set its n j u) (r.set rv j) (by rw [List.length_set]; exact hz) s.toks
  by_cases h0 : 0 ≤ k
  · have hk : k.toNat = j := by
      rw [seqIndex_of h0 h4] at h1
      exact Option.some.inj h1
    exact PySem.W.ki_setAt ho h0 (by omega) (by rw [List.size_toArray, ← hl]; exact h4) (by rw [hk]; exact ⟨_, I', q⟩)
  · have hk : (k + (its.toArray.size : Int)).toNat = j := by
      rw [seqIndex_neg (by omega) h3] at h1
      rw [List.size_toArray, ← hl]
      exact Option.some.inj h1
    exact PySem.W.ki_setBack ho (by omega) (by rw [List.size_toArray, ← hl]; exact h3) (by omega) (by rw [hk]; exact ⟨_, I', q⟩)

/-! ### slices -/
theorem slice_bounds (lo hi : Option Int) (n : Nat) : (sliceBounds lo hi none n).1 = ((HT.sIx n 0 lo : Nat) : Int) ∧ (sliceBounds lo hi none n).2.1 = ((HT.sIx n n hi : Nat) : Int) ∧ (sliceBounds lo hi none n).2.2 = 1 := by
  refine ⟨?_, ?_, rfl⟩
  · cases lo with
    | none => simp [sliceBounds, HT.sIx]
    | some i =>
      simp only [sliceBounds, HT.sIx, Option.getD_none, show (1 : Int) > 0 by decide, if_true]
      by_cases h : i < 0
      · simp only [h, if_true] <;> omega
      · simp only [h, if_false] <;> omega
  · cases hi with
    | none => simp [sliceBounds, HT.sIx]
    | some i =>
      simp only [sliceBounds, HT.sIx, Option.getD_none, show (1 : Int) > 0 by decide, if_true]
      by_cases h : i < 0
      · simp only [h, if_true] <;> omega
      · simp only [h, if_false] <;> omega
theorem slicePick_cut (its : List Value) (lo hi : Option Int) : slicePick its.toArray lo hi none = ((its.drop (HT.sIx its.length 0 lo)).take (HT.sIx its.length its.length hi - HT.sIx its.length 0 lo)).toArray := by
  obtain ⟨h1, h2, h3⟩ := slice_bounds lo hi its.toArray.size
  unfold slicePick
  rw [h1, h2, h3]
  simp only [sliceRange_one, pick_run, List.size_toArray] <;> rfl
/-- xs[lo:hi] of a list: a new list -/
def rSlL (K : PySem.W.Frag) : V → Option Int → Option Int → Hp → VK → Prop := fun x lo hi H Q => ∃ a xs, x = .ref a ∧ SqL K H a xs ∧ ∀ p, H p = none → Q (.ref p) (upd H p (.lst (cutV xs lo hi)))
theorem sl_list : SlR X (rSlL X.K) := by
  intro pins s σ H x v vl vu lo hi sl Q I rx hs pl pu h
  obtain ⟨a, xs, rfl, hx, q⟩ := h
  cases rx
  obtain ⟨its, r, ht, hz⟩ := I.list hx
  have hlen := r.length
  refine ⟨"list", _, slot_list_getitem.lookup, ht.isList.typeIs, ?_⟩
  refine wpAny_getItem_list_slice ht.isList hs pl pu .none (by simp) ?_ (by rw [List.size_toArray] <;> omega)
  rw [slicePick_cut, ← hlen]
  refine ⟨.ref s.heap.objs.size, _, I.laid (t' := s.toks) (o := .lst (cutV xs lo hi)) (fun b ob q => Heap.get?_push_of_some _ q) (Nat.le_refl _) ?_, rfl, q _ (I.hok.fresh (Nat.le_refl _))⟩
  exact ⟨Nat.le_trans (cutV_length xs lo hi) hz, _, 0, (r.drop (HT.sIx xs.length 0 lo)).take (HT.sIx xs.length xs.length hi - HT.sIx xs.length 0 lo), Heap.get?_push_size _ rfl⟩

/-! ### in, not in: flat items -/
def flatV : V → Bool
  | .non => true
  | .bl _ => true
  | .int _ => true
  | .str _ => true
  | _ => false
/-- == of flat values -/
def eqV : V → V → Bool
  | .non, .non => true
  | .bl a, .bl b => a == b
  | .bl a, .int b => (if a then 1 else 0) == b
  | .int a, .bl b => a == (if b then 1 else 0)
  | .int a, .int b => a == b
  | .str a, .str b => a == b
  | _, _ => false
theorem eqAt_V {A : Around} {s : Shared} {y x : V} {u v : Value} (ry : RelV y u) (rx : RelV x v) (fy : flatV y = true) (fx : flatV x = true) : SeqAt.EqAt A s u v (eqV y x) := by
  cases y with
  | non =>
    cases ry
    cases x with
    | non => cases rx; exact SeqAt.EqAt.same _
    | bl b => cases rx; exact SeqAt.EqAt.none_bool b
    | int b => obtain ⟨t, rfl⟩ := rx; exact SeqAt.EqAt.none_int b t
    | str b => obtain ⟨t, rfl⟩ := rx; exact SeqAt.EqAt.none_str b t
    | _ => exact absurd (show false = true from fx) Bool.false_ne_true
  | bl a =>
    cases ry
    cases x with
    | non => cases rx; exact SeqAt.EqAt.bool_none a
    | bl b => cases rx; exact SeqAt.EqAt.bool_bool a b
    | int b => obtain ⟨t, rfl⟩ := rx; exact SeqAt.EqAt.bool_int a b t
    | str b => obtain ⟨t, rfl⟩ := rx; exact SeqAt.EqAt.bool_str a b t
    | _ => exact absurd (show false = true from fx) Bool.false_ne_true
  | int a =>
    obtain ⟨t', rfl⟩ := ry
    cases x with
    | non => cases rx; exact SeqAt.EqAt.int_none a t'
    | bl b => cases rx; exact SeqAt.EqAt.int_bool a t' b
    | int b => obtain ⟨t, rfl⟩ := rx; exact SeqAt.EqAt.int_int a t' b t
    | str b => obtain ⟨t, rfl⟩ := rx; exact SeqAt.EqAt.int_str a t' b t
    | _ => exact absurd (show false = true from fx) Bool.false_ne_true
  | str a =>
    obtain ⟨t', rfl⟩ := ry
    cases x with
    | non => cases rx; exact SeqAt.EqAt.str_none a t'
    | bl b => cases rx; exact SeqAt.EqAt.str_bool a t' b
    | int b => obtain ⟨t, rfl⟩ := rx; exact SeqAt.EqAt.str_int a t' b t
    | str b => obtain ⟨t, rfl⟩ := rx; exact SeqAt.EqAt.str_str a t' b t
    | _ => exact absurd (show false = true from fx) Bool.false_ne_true
  | _ => exact absurd (show false = true from fy) Bool.false_ne_true
/-- the items' answers, read off the values (a value's own answer does not lean on its token) -/
def eqU (x : V) (u : Value) : Bool := match u with
  | .none => eqV .non x
  | .bool b => eqV (.bl b) x
  | .int i _ => eqV (.int i) x
  | .str z _ => eqV (.str z) x
  | _ => false
theorem eqU_of {x y : V} {u : Value} (r : RelV y u) (f : flatV y = true) : eqU x u = eqV y x := by
  cases y with
  | non => cases r; rfl
  | bl b => cases r; rfl
  | int i => obtain ⟨t, rfl⟩ := r; rfl
  | str z => obtain ⟨t, rfl⟩ := r; rfl
  | _ => exact absurd (show false = true from f) Bool.false_ne_true
theorem any_eqU {x : V} : ∀ {xs : List V} {us : List Value}, Vals xs us → xs.all flatV = true → us.any (eqU x) = xs.any fun y => eqV y x
  | _, _, .nil, _ => rfl
  | y :: xs, u :: us, .cons r t, f => by
    rw [List.all_cons, Bool.and_eq_true] at f
    rw [List.any_cons, List.any_cons, eqU_of r f.1, any_eqU t f.2]
theorem mem_eqAt {A : Around} {s : Shared} {x : V} {v : Value} (rx : RelV x v) (fx : flatV x = true) : ∀ {xs : List V} {us : List Value}, Vals xs us → xs.all flatV = true → ∀ u ∈ us, SeqAt.EqAt A s u v (eqU x u)
  | _, _, .nil, _ => fun u hu => by cases hu
  | y :: xs, u :: us, .cons r t, f => fun u' hu => by
    rw [List.all_cons, Bool.and_eq_true] at f
    rcases List.mem_cons.mp hu with rfl | hu
    · rw [eqU_of r f.1]; exact eqAt_V r rx f.1 fx
    · exact mem_eqAt rx fx t f.2 u' hu
def inV (x : V) (xs : List V) : Bool := xs.any fun y => eqV y x
/-- x in a list or tuple of flat items -/
def rIn (K : PySem.W.Frag) (neg : Bool) : R2 := fun x y H Q => ∃ p xs, y = .ref p ∧ (SqL K H p xs ∨ SqT K H p xs) ∧ flatV x = true ∧ xs.all flatV = true ∧ Q (.bl (if neg then !inV x xs else inV x xs)) H
theorem op_in_seq : OpR X (compareOp .In) (rIn X.K false) := by
  intro pins s σ H x y v u Q I rx ry h
  obtain ⟨p, xs, rfl, hq, fx, fs, q⟩ := h
  cases ry
  rcases hq with hq | hq
  · obtain ⟨its, r, pl, hz⟩ := I.list hq
    refine SeqAt.in_listAt (eqU x) pl.isList (fun w hw => mem_eqAt rx fx r fs w (by simpa using hw)) ⟨.bl _, H, I, rfl, ?_⟩
    rw [show its.toArray.any (eqU x) = its.any (eqU x) by simp, any_eqU r fs]
    exact q
  · obtain ⟨its, r, pl, hz⟩ := I.tuple hq
    refine SeqAt.in_tupleAt (eqU x) pl (fun w hw => mem_eqAt rx fx r fs w (by simpa using hw)) ⟨.bl _, H, I, rfl, ?_⟩
    rw [show its.toArray.any (eqU x) = its.any (eqU x) by simp, any_eqU r fs]
    exact q
theorem op_notIn_seq : OpR X (compareOp .NotIn) (rIn X.K true) := by
  intro pins s σ H x y v u Q I rx ry h
  obtain ⟨p, xs, rfl, hq, fx, fs, q⟩ := h
  cases ry
  rcases hq with hq | hq
  · obtain ⟨its, r, pl, hz⟩ := I.list hq
    refine SeqAt.notIn_listAt (eqU x) pl.isList (fun w hw => mem_eqAt rx fx r fs w (by simpa using hw)) ⟨.bl _, H, I, rfl, ?_⟩
    rw [show its.toArray.any (eqU x) = its.any (eqU x) by simp, any_eqU r fs]
    exact q
  · obtain ⟨its, r, pl, hz⟩ := I.tuple hq
    refine SeqAt.notIn_tupleAt (eqU x) pl (fun w hw => mem_eqAt rx fx r fs w (by simpa using hw)) ⟨.bl _, H, I, rfl, ?_⟩
    rw [show its.toArray.any (eqU x) = its.any (eqU x) by simp, any_eqU r fs]
    exact q
theorem op_notIn_str : OpR X (compareOp .NotIn) (fun x y H Q => ∃ i j, x = .str i ∧ y = .str j ∧ Q (.bl (!(!(Builtin.Str.occurrences j i 0 j.length 1).isEmpty))) H) := by
  intro pins s σ H x y v u Q I rx ry h
  obtain ⟨i, j, rfl, rfl, q⟩ := h
  obtain ⟨t, rfl⟩ := rx
  obtain ⟨t', rfl⟩ := ry
  exact notIn_str ⟨.bl _, H, I, rfl, q⟩

/-! ### len, list(x), tuple(x) of any list or tuple that is read -/
theorem call_len_seq : CallR X (.builtin "len") (fun xs H Q => ∃ p ys, xs = [.ref p] ∧ (SqL X.K H p ys ∨ SqT X.K H p ys) ∧ Q (.int ys.length) H) := by
  intro pins s σ H xs us Q I r h
  obtain ⟨p, ys, rfl, hq, q⟩ := h
  obtain ⟨u, rfl, rx⟩ := vals1 r
  cases rx
  have hn := line63
  rcases hq with hq | hq
  · obtain ⟨its, r', pl, hz⟩ := I.list hq
    have hlen := r'.length
    exact Calls.call_len_list pl.isList (by simp only [List.size_toArray] <;> omega) ⟨.int ys.length, H, I.tok _, ⟨s.toks + 1, by rw [List.size_toArray, hlen]⟩, q⟩
  · obtain ⟨its, r', pl, hz⟩ := I.tuple hq
    have hlen := r'.length
    exact len_tuple pl (by simp only [List.size_toArray] <;> omega) ⟨.int ys.length, H, I.tok _, ⟨s.toks + 1, by rw [List.size_toArray, hlen]⟩, q⟩
theorem call_len_str : CallR X (.builtin "len") (fun xs H Q => ∃ z, xs = [.str z] ∧ z.length ≤ sizeLine ∧ Q (.int z.length) H) := by
  intro pins s σ H xs us Q I r h
  obtain ⟨z, rfl, hz, q⟩ := h
  obtain ⟨u, rfl, t, rfl⟩ := vals1 r
  have hn := line63
  exact len_str (by omega) ⟨.int z.length, H, I.tok _, ⟨_, rfl⟩, q⟩
theorem CallR.or {f : Value} {r r' : List V → Hp → VK → Prop} (h : CallR X f r) (h' : CallR X f r') : CallR X f (fun xs H Q => r xs H Q ∨ r' xs H Q) := by
  intro pins s σ H xs us Q I rs q
  rcases q with q | q
  · exact h pins s σ H xs us Q I rs q
  · exact h' pins s σ H xs us Q I rs q
theorem call_list_of : CallR X (.type "list") (fun xs H Q => ∃ p ys, xs = [.ref p] ∧ (SqL X.K H p ys ∨ SqT X.K H p ys) ∧ ∀ l, H l = none → Q (.ref l) (upd H l (.lst ys))) := by
  intro pins s σ H xs us Q I r h
  obtain ⟨p, ys, rfl, hq, q⟩ := h
  obtain ⟨u, rfl, rx⟩ := vals1 r
  cases rx
  have fin : ∀ (its : List Value), Vals ys its → ys.length ≤ sizeLine → ∀ (h' : Heap) (c' : Nat), (∀ b o', s.heap.get? b = some o' → h'.get? b = some o') →
      h'.get? s.heap.objs.size = some { cls := .type "list", dict := none, data := .seq its.toArray c', slots := #[] } → EP X pins σ Q (.ref s.heap.objs.size) { s with heap := h' } := fun its r' hz h' c' kp e =>
    ⟨.ref s.heap.objs.size, _, I.laid (t' := s.toks) kp (Nat.le_refl _) (show ObjOk X.prog X.w _ h' _ (.lst ys) from ⟨hz, its, c', r', e⟩), rfl, q _ (I.hok.fresh (Nat.le_refl _))⟩
  rcases hq with hq | hq
  · obtain ⟨its, r', pl, hz⟩ := I.list hq
    have hlen := r'.length
    obtain ⟨o, ho, hc, n, hd⟩ := pl.isList
    exact call_list_seq p (.inl rfl) ho hc hd (fun h' c' kp e => fin its r' hz h' c' kp e) (by simp only [List.size_toArray] <;> omega)
  · obtain ⟨its, r', pl, hz⟩ := I.tuple hq
    have hlen := r'.length
    obtain ⟨o, ho, hc, n, hd⟩ := pl
    exact call_list_seq p (.inr rfl) ho hc hd (fun h' c' kp e => fin its r' hz h' c' kp e) (by simp only [List.size_toArray] <;> omega)
theorem call_tuple_of : CallR X (.type "tuple") (fun xs H Q => ∃ p ys, xs = [.ref p] ∧ ((SqL X.K H p ys ∧ ∀ l, H l = none → Q (.ref l) (upd H l (.tup ys))) ∨ (SqT X.K H p ys ∧ Q (.ref p) H))) := by
  intro pins s σ H xs us Q I r h
  obtain ⟨p, ys, rfl, h⟩ := h
  obtain ⟨u, rfl, rx⟩ := vals1 r
  cases rx
  rcases h with ⟨hq, q⟩ | ⟨hq, q⟩
  · obtain ⟨its, r', pl, hz⟩ := I.list hq
    have hlen := r'.length
    refine call_tuple_list pl.isList (fun h' kp => ?_) (by simp only [List.size_toArray] <;> omega)
    have I1 : Inv X pins σ H { s with heap := h' } := I.kept (t' := s.toks) kp
    have I2 : Inv X pins σ (upd H h'.objs.size (.tup ys)) { s with heap := h'.push { cls := .type "tuple", data := .seq its.toArray } } :=
      I1.laid (t' := s.toks) (fun b o e => Heap.get?_push_of_some _ e) (Nat.le_refl _) (show ObjOk X.prog X.w _ _ _ (.tup ys) from ⟨hz, its, r', IsTup.new _ _⟩)
    exact ⟨.ref h'.objs.size, _, I2, rfl, q _ (I1.hok.fresh (Nat.le_refl _))⟩
  · obtain ⟨its, r', pl, hz⟩ := I.tuple hq
    exact call_tuple_same pl ⟨.ref p, H, I, rfl, q⟩

/-! ### the call of a builtin's method: o.m(..) -/
/-- the value is of that builtin type -/
def tyV (K : PySem.W.Frag) (T : String) (x : V) (H : Hp) : Prop := match x with
  | .str _ => T = "str"
  | .int _ => T = "int"
  | .ref p => (T = "list" ∧ ∃ xs, SqL K H p xs) ∨ (T = "tuple" ∧ ∃ o, K.lookup p = some o ∧ o.cls = .type "tuple" ∧ o.dict = none) ∨
      (T = "dict" ∧ ((∃ kvs, H p = some (.dK kvs)) ∨ ∃ kvs, H p = some (.dT kvs))) ∨ (T = "set" ∧ ∃ S n, H p = some (.set S n))
  | _ => False
theorem tyV_is {pins : List (Addr × Obj)} {σ : St} {H : Hp} {s : Shared} {T : String} {x : V} {v : Value} (I : Inv X pins σ H s) (r : RelV x v) (ty : tyV X.K T x H) :
    s.TypeIs v T ∧ ∀ a, v = .ref a → ∃ ob, s.heap.get? a = some ob ∧ ob.dict = none := by
  cases x with
  | str z =>
    obtain ⟨t, rfl⟩ := r
    cases (show T = "str" from ty)
    exact ⟨typeIs_str s z t, fun _ e => nomatch e⟩
  | int i =>
    obtain ⟨t, rfl⟩ := r
    cases (show T = "int" from ty)
    exact ⟨typeIs_int s i t, fun _ e => nomatch e⟩
  | ref p =>
    cases r
    rcases ty with ⟨rfl, xs, hq⟩ | ⟨rfl, o, hk, hc, hd⟩ | ⟨rfl, hk⟩ | ⟨rfl, S, n, hk⟩
    · obtain ⟨its, _, pl, _⟩ := I.list hq
      refine ⟨pl.isList.typeIs, fun a e => ?_⟩
      cases e
      obtain ⟨o, n, e, c, hd, _⟩ := pl
      exact ⟨o, e, hd⟩
    · refine ⟨⟨o, I.kIn p o hk, hc⟩, fun a e => ?_⟩
      cases e
      exact ⟨o, I.kIn _ o hk, hd⟩
    · have z : ∃ o, s.heap.get? p = some o ∧ o.ExactDict := by
        rcases hk with ⟨kvs, hk⟩ | ⟨kvs, hk⟩
        · obtain ⟨_, _, _, _, o, _, _, e, ex, _⟩ := I.hok p _ hk
          exact ⟨o, e, ex⟩
        · obtain ⟨_, _, _, _, o, _, _, e, ex, _⟩ := I.hok p _ hk
          exact ⟨o, e, ex⟩
      obtain ⟨o, e, ex⟩ := z
      refine ⟨⟨o, e, ex.1⟩, fun a e2 => ?_⟩
      cases e2
      exact ⟨o, e, ex.2.1⟩
    · obtain ⟨o, _, _, _, e, ex, _⟩ := I.hok p _ hk
      refine ⟨⟨o, e, ex.1⟩, fun a e2 => ?_⟩
      cases e2
      exact ⟨o, e, ex.2.1⟩
  | _ => exact False.elim ty
def tBM0 (K : PySem.W.Frag) (T : String) (r : V → List V → Hp → VK → Prop) (to : TE) : TE := fun σ H Q => to σ H fun x H1 => tyV K T x H1 ∧ r x [] H1 Q
def tBM (K : PySem.W.Frag) (T : String) (r : V → List V → Hp → VK → Prop) (to : TE) (t : TA) : TE := fun σ H Q => to σ H fun x H1 => tyV K T x H1 ∧ t σ H1 fun xs H2 => r x xs H2 Q
variable {o e : Expr} {es : List Expr} {to : TE} {t : TA} {name : Str} {apos cpos : Pos} {T id : String} {r : V → List V → Hp → VK → Prop}
theorem pe_bm0 (pa : PlainAttrs T) (slot : Slot T name id) (hty : typeOf (.builtin id) = pure (.type "method_descriptor")) (hm : MtR X id r) (ho : PE X o to)
    (hbase : attributeBase o name X.env (eval o X.env) = eval o X.env := by rfl) (hline : (apos.endLine == cpos.line) = true := by rfl) : PE X (.Call (.Attribute o name apos) [] [] cpos) (tBM0 X.K T r to) := by
  intro pins s σ H Q I h
  refine wpAny_Call_method0_late hbase hline (thn (ho pins s σ H _ I h) fun v s1 ⟨x, H1, I1, r1, ty, q1⟩ => ?_)
  obtain ⟨h1, h2⟩ := tyV_is I1 r1 ty
  exact ⟨T, id, pa, slot, hty, h1, h2, Calls.callWith_builtin rfl (PySem.evalArgs_none (hm pins s1 σ H1 x [] v [] Q I1 r1 .nil q1))⟩
theorem pe_bm (pa : PlainAttrs T) (slot : Slot T name id) (hty : typeOf (.builtin id) = pure (.type "method_descriptor")) (hm : MtR X id r) (ho : PE X o to) (ha : PA X (e :: es) t)
    (hbase : attributeBase o name X.env (eval o X.env) = eval o X.env := by rfl)
    (hfew : ((backTo cpos (starEach (e :: es) X.env)).all (fun x => !x.1) && (backToKw cpos (keywordEach [] X.env)).all (fun x => x.1.isSome)
      && decide ((e :: es).length + ([] : List Keyword).length + (if ([] : List Keyword).isEmpty then 0 else 1) < 30)) = true := by rfl)
    (hline : (apos.endLine == cpos.line) = true := by rfl) (hs : starEach (e :: es) X.env = (false, eval e X.env) :: starEach es X.env := by rfl) (hplain : (backTo cpos (starEach es X.env)).any (·.1) = false := by rfl) :
    PE X (.Call (.Attribute o name apos) (e :: es) [] cpos) (tBM X.K T r to t) := by
  intro pins s σ H Q I h
  refine wpAny_Call_method_late hbase hfew hline rfl (thn (ho pins s σ H _ I h) fun v s1 ⟨x, H1, I1, r1, ty, q1⟩ => ?_)
  obtain ⟨h1, h2⟩ := tyV_is I1 r1 ty
  refine ⟨T, id, pa, slot, hty, h1, h2, ?_⟩
  have hA := ha cpos pins s1 σ H1 _ I1 q1
  rw [hs] at hA ⊢
  refine Calls.callWith_builtin (by show (false || (backTo cpos (starEach es X.env)).any (·.1)) = false; rw [hplain] <;> rfl) (Calls.evalArgs_plain ?_)
  exact thn hA fun us s2 ⟨vs, H2, I2, r2, q2⟩ => hm pins s2 σ H2 x vs v us Q I2 r1 r2 q2
/- xs.append(e), list.index on a module's tuple .. are MtR facts of 06m -/
end
end L2

namespace L2
open PySem PySem.Spec PyProof.Rows

def MtM (X : Cx) (id : String) (r : V → List V → Hp → VK → Prop) : Prop :=
  ∀ (pins : List (Addr × Obj)) (s : Shared) (σ : St) (H : Hp) (x : V) (xs : List V) (v : Value) (us : List Value) (Q : VK), Inv X pins σ H s → RelV x v → Vals xs us → r x xs H Q →
    wpAny (model X.prog X.w) X.A (call (.builtin id) (v :: us)) (EP X pins σ Q) X.xe s

/-! ### lists of values -/
theorem Vals.one : ∀ {x : V} {us : List Value}, Vals [x] us → ∃ u, us = [u] ∧ RelV x u
  | _, _, .cons r .nil => ⟨_, rfl, r⟩
theorem Vals.two : ∀ {x y : V} {us : List Value}, Vals [x, y] us → ∃ u v, us = [u, v] ∧ RelV x u ∧ RelV y v
  | _, _, _, .cons r (.cons q .nil) => ⟨_, _, rfl, r, q⟩
theorem Vals.zero : ∀ {us : List Value}, Vals [] us → us = []
  | _, .nil => rfl
theorem Vals.dropLast {xs : List V} {us : List Value} (h : Vals xs us) : Vals xs.dropLast us.dropLast := by
  induction h with
  | nil => exact .nil
  | cons r t ih =>
    cases t with
    | nil => exact .nil
    | cons q t' => exact .cons r ih
theorem Vals.eraseIdx : ∀ {xs : List V} {us : List Value} (i : Nat), Vals xs us → Vals (xs.eraseIdx i) (us.eraseIdx i)
  | _, _, _, .nil => .nil
  | _, _, 0, .cons _ t => t
  | _, _, i + 1, .cons r t => .cons r (Vals.eraseIdx i t)
theorem Vals.reverse {xs : List V} {us : List Value} (h : Vals xs us) : Vals xs.reverse us.reverse := by
  induction h with
  | nil => exact .nil
  | cons r t ih => rw [List.reverse_cons, List.reverse_cons]; exact Vals.append ih (.cons r .nil)
theorem Vals.rep {xs : List V} {us : List Value} (h : Vals xs us) : ∀ k : Nat, Vals (List.replicate k xs).flatten (List.replicate k us).flatten
  | 0 => .nil
  | k + 1 => by
    rw [List.replicate_succ, List.replicate_succ, List.flatten_cons, List.flatten_cons]
    exact Vals.append h (Vals.rep h k)
theorem erase_last {α : Type} (l : List α) : l.eraseIdx (l.length - 1) = l.dropLast := by
  induction l with
  | nil => rfl
  | cons a r ih =>
    cases r with
    | nil => rfl
    | cons b r =>
      have e : (a :: b :: r).length - 1 = ((b :: r).length - 1) + 1 := by
        have h1 : (a :: b :: r).length = r.length + 2 := rfl
        have h2 : (b :: r).length = r.length + 1 := rfl
        omega
      rw [e, List.eraseIdx_cons_succ, ih]
      all_goals rfl
theorem len_erase {α : Type} : ∀ (l : List α) (i : Nat), (l.eraseIdx i).length ≤ l.length
  | [], _ => Nat.le_refl _
  | _ :: _, 0 => Nat.le_succ _
  | _ :: r, i + 1 => Nat.succ_le_succ (len_erase r i)
theorem foldl_rep (its : List Value) : ∀ (k : Nat) (acc : List Value),
    List.foldl (fun x1 x2 => x1 ++ x2) acc.toArray (List.replicate k its.toArray) = (acc ++ (List.replicate k its).flatten).toArray
  | 0, acc => by simp
  | k + 1, acc => by
    have e : acc.toArray ++ its.toArray = (acc ++ its).toArray := by simp
    have e2 : (acc ++ its) ++ (List.replicate k its).flatten = acc ++ (List.replicate (k + 1) its).flatten := by
      rw [List.replicate_succ, List.flatten_cons, List.append_assoc]
    rw [← e2, ← foldl_rep its k (acc ++ its), ← e, List.replicate_succ, List.foldl_cons]

section
variable {X : Cx} {pins : List (Addr × Obj)} {σ : St} {H : Hp} {s : Shared} {l b : Addr} {xs ys zs : List V}

/-! ### the two steps: a tracked list is rewritten, a new list is laid -/
theorem Inv.lset {its its' : List Value} {n : Nat} {f : Array Value → Array Value} {t' : Nat} (I : Inv X pins σ H s) (hH : H l = some (.lst xs))
    (e : s.heap.get? l = some { cls := .type "list", data := .seq its.toArray n }) (hf : f its.toArray = its'.toArray) (hv : Vals ys its') (hz : ys.length ≤ sizeLine) :
    Inv X pins σ (upd H l (.lst ys)) { s with heap := s.heap.update l (Obj.mapSeq f), toks := t' } := by
  have q := PySem.IsL.update e f
  rw [hf] at q
  refine I.write (x := l) (e := l) (by rw [hH]; exact trivial) (.inl rfl) (fun b' u hb hu => (Heap.get?_update_other s.heap (Obj.mapSeq f) (Ne.symm hb)).trans hu) ⟨_, q⟩ ?_
  exact ⟨hz, its', _, hv, q⟩
theorem Inv.lnew {its : List Value} {t' : Nat} (I : Inv X pins σ H s) (hv : Vals ys its) (hz : ys.length ≤ sizeLine) :
    Inv X pins σ (upd H s.heap.objs.size (.lst ys)) { s with heap := s.heap.push { cls := .type "list", data := .seq its.toArray }, toks := t' } :=
  I.laid (fun _ _ q => Heap.get?_push_of_some _ q) (Nat.le_refl _) ⟨hz, its, 0, hv, Heap.get?_push_size _ rfl⟩
theorem Inv.fresh (I : Inv X pins σ H s) : H s.heap.objs.size = none := I.hok.fresh (Nat.le_refl _)
theorem Inv.lstM (I : Inv X pins σ H s) (hH : H l = some (.lst xs)) : xs.length ≤ sizeLine ∧ ∃ (its : List Value) (n : Nat), Vals xs its ∧ xs.length = its.length ∧ s.heap.get? l = some { cls := .type "list", data := .seq its.toArray n } := by
  obtain ⟨z, its, n, r, e⟩ := I.hok l _ hH
  exact ⟨z, its, n, r, r.length, e⟩

theorem notLongL {n : Nat} (h : n ≤ sizeLine) : Builtin.List.listTooLong n = false := by
  unfold Builtin.List.listTooLong
  exact decide_eq_false (by omega)
end

section
variable {X : Cx}

/-! ### methods -/
def rAppend : V → List V → Hp → VK → Prop := fun x vs H Q => ∃ l xs y, x = .ref l ∧ vs = [y] ∧ H l = some (.lst xs) ∧ xs.length < sizeLine ∧ Q .non (upd H l (.lst (xs ++ [y])))
theorem mt_append : MtM X "list.append" rAppend := by
  intro pins s σ H x vs v us Q I rx rv h
  obtain ⟨l, xs, y, rfl, rfl, hH, hz, q⟩ := h
  cases rx
  obtain ⟨u, rfl, ru⟩ := rv.one
  obtain ⟨z, its, n, r, hl, e⟩ := I.lstM hH
  refine call_meets F.slot_list_append ⟨_, e, rfl⟩ F.entry_list_append (F.args_list_append_2 _ _) (PySem.list_append l its.toArray n u (by rw [List.size_toArray]; omega)) ⟨e, ?_⟩
  refine ⟨.non, _, I.lset (its' := its ++ [u]) hH e (by simp) (r.append (.cons ru .nil)) ?_, rfl, q⟩
  rw [List.length_append, List.length_singleton]
  omega

def rExtend : V → List V → Hp → VK → Prop := fun x vs H Q => ∃ l b xs zs, x = .ref l ∧ vs = [.ref b] ∧ H l = some (.lst xs) ∧ H b = some (.lst zs) ∧ xs.length + zs.length ≤ sizeLine ∧ Q .non (upd H l (.lst (xs ++ zs)))
theorem mt_extend : MtM X "list.extend" rExtend := by
  intro pins s σ H x vs v us Q I rx rv h
  obtain ⟨l, b, xs, zs, rfl, rfl, hH, hB, hz, q⟩ := h
  cases rx
  obtain ⟨u, rfl, ru⟩ := rv.one
  cases ru
  obtain ⟨z, its, n, r, hl, e⟩ := I.lstM hH
  obtain ⟨z2, its2, n2, r2, hl2, e2⟩ := I.lstM hB
  have hsz : its.toArray.size + its2.toArray.size ≤ sizeLine := by rw [List.size_toArray, List.size_toArray]; omega
  have hlong : ¬ (!its.toArray.isEmpty && Builtin.List.listTooLong (its.toArray.size + its2.toArray.size)) = true := by
    rw [notLongL hsz, Bool.and_false]
    exact Bool.false_ne_true
  refine call_meets F.slot_list_extend ⟨_, e, rfl⟩ F.entry_list_extend (F.args_list_extend_2 _ _)
    (AutoSeq1.list_extend_list_list_0 l its.toArray n b its2.toArray n2 hlong (by rw [List.size_toArray]; omega) (by omega)) ⟨e, e2, ?_⟩
  refine ⟨.non, _, I.lset (its' := its ++ its2) hH e (by simp) (r.append r2) ?_, rfl, q⟩
  rw [List.length_append]
  omega

def rPop : V → List V → Hp → VK → Prop := fun x vs H Q => ∃ l xs y, x = .ref l ∧ vs = [] ∧ H l = some (.lst xs) ∧ xs[xs.length - 1]? = some y ∧ Q y (upd H l (.lst xs.dropLast))
theorem mt_pop : MtM X "list.pop" rPop := by
  intro pins s σ H x vs v us Q I rx rv h
  obtain ⟨l, xs, y, rfl, rfl, hH, hy, q⟩ := h
  cases rx
  have hus := rv.zero
  subst hus
  obtain ⟨z, its, n, r, hl, e⟩ := I.lstM hH
  obtain ⟨u, hu, ru⟩ := r.get hy
  have hy' : its.toArray[its.toArray.size - 1]? = some u := by
    show its.toArray[its.length - 1]? = some u
    rw [← Array.getElem?_toList, ← hl]
    exact hu
  refine call_meets F.slot_list_pop ⟨_, e, rfl⟩ F.entry_list_pop (F.args_list_pop_1 _) (MeetsSeq.list_pop_last l its.toArray n u hy' (by rw [List.size_toArray]; omega)) ⟨e, ?_⟩
  refine ⟨y, _, I.lset (its' := its.dropLast) hH e ?_ r.dropLast ?_, ru, q⟩
  · show its.toArray.eraseIdxIfInBounds (its.toArray.size - 1) = its.dropLast.toArray
    rw [List.size_toArray, List.eraseIdxIfInBounds_toArray, erase_last]
  · rw [List.length_dropLast]
    omega

def rPopAt : V → List V → Hp → VK → Prop := fun x vs H Q => ∃ l xs i k y, x = .ref l ∧ vs = [.int i] ∧ H l = some (.lst xs) ∧ -(2 ^ 63) ≤ i ∧ i < 2 ^ 63 ∧ seqIndex? i xs.length = some k ∧ xs[k]? = some y ∧ Q y (upd H l (.lst (xs.eraseIdx k)))
theorem mt_popAt : MtM X "list.pop" rPopAt := by
  intro pins s σ H x vs v us Q I rx rv h
  obtain ⟨l, xs, i, k, y, rfl, rfl, hH, h1, h2, hk, hy, q⟩ := h
  cases rx
  obtain ⟨u, rfl, ru⟩ := rv.one
  obtain ⟨t, rfl⟩ := ru
  obtain ⟨z, its, n, r, hl, e⟩ := I.lstM hH
  obtain ⟨w, hw, rw'⟩ := r.get hy
  refine call_meets F.slot_list_pop ⟨_, e, rfl⟩ F.entry_list_pop (F.args_list_pop_2 _ _)
    (MeetsSeq.list_pop_at l its.toArray n i t k w (fitsIndex_both h1 h2) (by rw [List.size_toArray, ← hl]; exact hk) (by rw [← Array.getElem?_toList]; exact hw) (by rw [List.size_toArray]; omega)) ⟨e, ?_⟩
  refine ⟨y, _, I.lset (its' := its.eraseIdx k) hH e ?_ (r.eraseIdx k) ?_, rw', q⟩
  · show its.toArray.eraseIdxIfInBounds k = (its.eraseIdx k).toArray
    rw [List.eraseIdxIfInBounds_toArray]
  · have := len_erase xs k
    omega

def rReverse : V → List V → Hp → VK → Prop := fun x vs H Q => ∃ l xs, x = .ref l ∧ vs = [] ∧ H l = some (.lst xs) ∧ Q .non (upd H l (.lst xs.reverse))
theorem mt_reverse : MtM X "list.reverse" rReverse := by
  intro pins s σ H x vs v us Q I rx rv h
  obtain ⟨l, xs, rfl, rfl, hH, q⟩ := h
  cases rx
  have hus := rv.zero
  subst hus
  obtain ⟨z, its, n, r, hl, e⟩ := I.lstM hH
  refine call_meets F.slot_list_reverse ⟨_, e, rfl⟩ F.entry_list_reverse (F.args_list_reverse_1 _) (AutoSeq1.list_reverse_list_0 l its.toArray n (by rw [List.size_toArray]; omega)) ⟨e, ?_⟩
  refine ⟨.non, _, I.lset (its' := its.reverse) hH e (by simp) r.reverse ?_, rfl, q⟩
  rw [List.length_reverse]
  omega

def rClear : V → List V → Hp → VK → Prop := fun x vs H Q => ∃ l xs, x = .ref l ∧ vs = [] ∧ H l = some (.lst xs) ∧ Q .non (upd H l (.lst []))
theorem mt_clear : MtM X "list.clear" rClear := by
  intro pins s σ H x vs v us Q I rx rv h
  obtain ⟨l, xs, rfl, rfl, hH, q⟩ := h
  cases rx
  have hus := rv.zero
  subst hus
  obtain ⟨z, its, n, r, hl, e⟩ := I.lstM hH
  refine call_meets F.slot_list_clear ⟨_, e, rfl⟩ F.entry_list_clear (F.args_list_clear_1 _) (AutoSeq1.list_clear_list_0 l its.toArray n (by rw [List.size_toArray]; omega)) ⟨e, ?_⟩
  exact ⟨.non, _, I.lset (its' := []) (ys := []) hH e rfl .nil (Nat.zero_le _), rfl, q⟩

/-! ### list + list, list += list, list * int -/
def rCat : R2 := fun x y H Q => ∃ l b xs zs, x = .ref l ∧ y = .ref b ∧ H l = some (.lst xs) ∧ H b = some (.lst zs) ∧ xs.length + zs.length ≤ sizeLine ∧ ∀ p, H p = none → Q (.ref p) (upd H p (.lst (xs ++ zs)))
theorem op_cat : OpR X (binaryOp .Add) rCat := by
  intro pins s σ H x y v u Q I rx ry h
  obtain ⟨l, b, xs, zs, rfl, rfl, hH, hB, hz, q⟩ := h
  cases rx
  cases ry
  obtain ⟨z, its, n, r, hl, e⟩ := I.lstM hH
  obtain ⟨z2, its2, n2, r2, hl2, e2⟩ := I.lstM hB
  refine PySem.P.add_list e e2 ?_ (by rw [List.size_toArray, List.size_toArray]; omega)
  have ea : its.toArray ++ its2.toArray = (its ++ its2).toArray := by simp
  rw [ea]
  exact ⟨.ref _, _, I.lnew (t' := s.toks) (r.append r2) (by rw [List.length_append]; omega), rfl, q _ I.fresh⟩
/-- a list times an int (a negative one is nothing) -/
def rRep : R2 := fun x y H Q => ∃ l k xs, x = .ref l ∧ y = .int k ∧ H l = some (.lst xs) ∧ -(2 ^ 63) ≤ k ∧ k < 2 ^ 63 ∧ xs.length * k.toNat ≤ sizeLine ∧
  ∀ p, H p = none → Q (.ref p) (upd H p (.lst (List.replicate k.toNat xs).flatten))
theorem len_rep {α : Type} (xs : List α) (k : Nat) : (List.replicate k xs).flatten.length = k * xs.length := by
  induction k with
  | zero => simp
  | succ k ih => rw [List.replicate_succ, List.flatten_cons, List.length_append, ih, Nat.succ_mul, Nat.add_comm]
theorem op_rep : OpR X (binaryOp .Mult) rRep := by
  intro pins s σ H x y v u Q I rx ry h
  obtain ⟨l, k, xs, rfl, rfl, hH, h1, h2, hz, q⟩ := h
  cases rx
  obtain ⟨t, rfl⟩ := ry
  obtain ⟨z, its, n, r, hl, e⟩ := I.lstM hH
  have hlen : its.toArray.size * k.toNat ≤ sizeLine := by rw [List.size_toArray, ← hl]; exact hz
  have hcap : ¬ its.toArray.size * k.toNat > (2 ^ 63 - 1) / 8 := by
    have : (sizeLine : Nat) ≤ (2 ^ 63 - 1) / 8 := by decide
    omega
  have hfit : ¬ (!Builtin.List.listFitsIndex k) = true := by
    rw [fitsIndex_both h1 h2]
    exact Bool.false_ne_true
  have hlong : ¬ Builtin.List.listTooLong (its.toArray.size * k.toNat) = true := by
    rw [notLongL hlen]
    exact Bool.false_ne_true
  have hnew : List.foldl (fun x1 x2 => x1 ++ x2) #[] (List.replicate (if its.toArray.isEmpty = true then 0 else k.toNat) its.toArray) = (List.replicate k.toNat its).flatten.toArray := by
    have f0 : ∀ m : Nat, List.foldl (fun x1 x2 => x1 ++ x2) #[] (List.replicate m its.toArray) = (List.replicate m its).flatten.toArray := fun m => by
      have := foldl_rep its m []
      rw [List.nil_append] at this
      exact this
    rw [f0]
    cases its with
    | nil => simp
    | cons a r' => rw [if_neg (by simp)]
  refine wpAny_binaryOp_repeat_ref (T := "list") (U := "int") (by decide) ⟨_, e, rfl⟩ (fun s' => typeIs_int s' k t) noFill_list_mul F.fills_int_mul F.slot_int_rmul repeat_list F.slot_int_index.lookup
    (call_meets F.slot_int_rmul (typeIs_int s k t) F.entry_int_rmul (F.args_int_rmul_2 _ _) (int___rmul___int_list k t l its.toArray n)
      ⟨e, rfl, ⟨_, e, rfl⟩, call_meets F.slot_list_mul ⟨_, e, rfl⟩ F.entry_list_mul (F.args_list_mul_2 _ _) (AutoListH.list___mul___list_int_3 l its.toArray n k t hfit hcap hlong) ⟨e, ?_⟩⟩)
  rw [hnew]
  exact ⟨.ref _, _, I.lnew (t' := s.toks) (r.rep k.toNat) (by rw [len_rep, Nat.mul_comm]; exact hz), rfl, q _ I.fresh⟩

/-! ### del xs[i] -/
theorem del_list {pins : List (Addr × Obj)} {s : Shared} {σ : St} {H : Hp} {l : Addr} {xs : List V} {i : Int} {t : Tok} {k : Nat} {Q : Unit → Shared → Prop} (I : Inv X pins σ H s) (hH : H l = some (.lst xs))
    (h1 : -(2 ^ 63) ≤ i) (h2 : i < 2 ^ 63) (hk : seqIndex? i xs.length = some k) (h : ∀ s', Inv X pins σ (upd H l (.lst (xs.eraseIdx k))) s' → Q () s') :
    wpAny (model X.prog X.w) X.A (delItem (.ref l) (.int i t)) Q X.xe s := by
  obtain ⟨z, its, n, r, hl, e⟩ := I.lstM hH
  refine PySem.P.delItem_list (k := k) e (fitsIndex_both h1 h2) (by rw [List.size_toArray, ← hl]; exact hk) (h _ ?_) (by rw [List.size_toArray]; omega)
  refine I.lset (its' := its.eraseIdx k) (t' := s.toks) hH e ?_ (r.eraseIdx k) ?_
  · show its.toArray.eraseIdxIfInBounds k = (its.eraseIdx k).toArray
    rw [List.eraseIdxIfInBounds_toArray]
  · have := len_erase xs k
    omega
end

/-! ### xs[a:b] = ys -/
section
variable {prog : Program} {w : World} {A : Around} {E : Value → Shared → Prop} {s : Shared}
theorem splice_eq (its its2 : List Value) (a c : Nat) : its.toArray.extract 0 a ++ its2.toArray ++ its.toArray.extract c its.toArray.size = (its.take a ++ its2 ++ its.drop c).toArray := by
  apply Array.toList_inj.mp
  first
    | (simp
       exact List.take_of_length_le (by simp))
    | simp [List.take_of_length_le]
    | simp
theorem bounds_run {a c n : Nat} (hac : a ≤ c) (hc : c ≤ n) : sliceBounds (some (a : Int)) (some (c : Int)) none n = ((a : Int), (c : Int), 1) := by
  simp only [sliceBounds, Option.getD_none]
  have h1 : ¬ ((a : Int) < 0) := by omega
  have h2 : ¬ ((c : Int) < 0) := by omega
  simp only [h1, h2, if_false, show (1 : Int) > 0 by decide, if_true]
  congr 1
  · omega
  · congr 1; omega
set_option maxRecDepth 100000 in
/-- list.__setitem__ with a slice of step one and another list -/
theorem setItem_slice {l b sl : Addr} {items new : Array Value} {n n2 : Nat} {vl vu : Value} {a c : Nat} {Q : Unit → Shared → Prop}
    (e : s.heap.get? l = some { cls := .type "list", data := .seq items n }) (e2 : s.heap.get? b = some { cls := .type "list", data := .seq new n2 }) (hne : l ≠ b)
    (hs : s.heap.IsSliceOf sl vl vu .none) (pl : IsPart vl (some (a : Int))) (pu : IsPart vu (some (c : Int))) (hac : a ≤ c) (hc : c ≤ items.size)
    (hsz : items.size + new.size ≤ sizeLine) (h : Q () { s with heap := s.heap.update l (Obj.mapSeq fun xs => xs.extract 0 a ++ new ++ xs.extract c xs.size) }) :
    wpAny (model prog w) A (setItem (.ref l) (.ref sl) (.ref b)) Q E s := by
  have hl : s.heap.IsList l items := PySem.IsL.isList e
  have hb : s.heap.IsList b new := PySem.IsL.isList e2
  obtain ⟨os, hos, hcs, hds⟩ := id hs
  have hTs : s.TypeIs (.ref sl) "slice" := ⟨os, hos, hcs⟩
  have hstep : ¬ ((rawPart none == rawInt 0) = true) := Bool.false_ne_true
  have hsame : Builtin.List.listSameRef (.ref l) (.ref b) = false := by
    unfold Builtin.List.listSameRef
    exact beq_eq_false_iff_ne.mpr hne
  have hmax : (max (a : Int) (c : Int)).toNat = c := by omega
  have hz' : ((fun xs : Array Value => xs.extract 0 a ++ new ++ xs.extract c xs.size) items).size ≤ sizeLine + 1 := by
    simp only [Array.size_append, Array.size_extract]
    omega
  unfold setItem
  try with_reducible refine wpAny_holding ?_
  first | refine wpAny_bind (wpAny_pure ?_) | skip
  refine wpAny_bind (wpAny_sequenceKey hl.typeIs (by decide) ?_)
  refine wpAny_bind (wpAny_callSpecial?_slot (name := Str.ofString "__setitem__") hl.typeIs slot_list_setitem
    (wpAny_call_entry slot_list_setitem hl.typeIs entry_list_setitem ?_ (args_list_setitem _ _ _)))
  show wpAny _ _ (Builtin.List.listSubscript? (.ref sl) >>= _) _ _ s
  refine wpAny_bind ?_
  unfold Builtin.List.listSubscript?
  refine wpAny_bind (wpAny_specialOf hTs slice_no_index ?_)
  simp only [Option.isNone_none, if_true]
  refine wpAny_pure ?_
  show wpAny _ _ (typeOf (.ref sl) >>= _) _ _ s
  refine wpAny_bind (wpAny_typeOf hTs ?_)
  first
    | rw [if_neg (by decide)]
    | refine PySem.W.KFB.if_not (by decide) ?_
  rw [listSliceParts_eq]
  refine wpAny_bind (wpAny_bind (wpAny_field hos hds (x := .none) rfl (wpAny_bind (wpAny_listPart .none ?_))))
  rw [if_neg hstep]
  refine wpAny_bind (wpAny_field hos hds (x := vl) rfl (wpAny_bind (wpAny_listPart pl ?_)))
  refine wpAny_bind (wpAny_field hos hds (x := vu) rfl (wpAny_bind (wpAny_listPart pu (wpAny_pure ?_))))
  first
    | simp only [hsame, Bool.false_eq_true, if_false]
    | refine PySem.W.KFB.if_not hsame ?_
    | (dsimp only
       rw [if_neg (by rw [hsame]; exact Bool.false_ne_true)])
  refine wpAny_bind (m := Builtin.List.listAllItems (.ref b) "must assign iterable to extended slice") ?_
  unfold Builtin.List.listAllItems
  refine wpAny_bind (wpAny_typeOf hb.typeIs ?_)
  first
    | refine PySem.W.KFB.if_so (by decide) ?_
    | rw [if_pos (by decide)]
    | simp only [beq_self_eq_true, Bool.true_or, if_true]
  unfold Builtin.List.listItems
  refine wpAny_bind (wpAny_seqItems e2 rfl (wpAny_pure ?_))
  refine wpAny_bind (wpAny_bind (wpAny_seqItems e rfl (wpAny_pure ?_)))
  refine wpAny_bind (wpAny_of_eq ((sliceIndices_raw (some (a : Int)) (some (c : Int)) none items.size (by simp)).trans (congrArg (pure : Int × Int × Int → Sem (Int × Int × Int)) (bounds_run hac hc))) ?_)
  show wpAny _ _ (if ((1 : Int) == 1) = true then _ else _) _ _ s
  rw [if_pos (by decide)]
  refine wpAny_bind (wpAny_rule ?_)
  first
    | simp only [notLongL hsz, Bool.false_eq_true, if_false]
    | refine PySem.W.KFB.if_not (notLongL hsz) ?_
  first | refine wpAny_bind (wpAny_pure ?_) | skip
  show wpAny _ _ (updateSeq l (fun xs => xs.extract 0 ((a : Int)).toNat ++ new ++ xs.extract (max (a : Int) (c : Int)).toNat xs.size) >>= _) _ _ s
  rw [hmax, Int.toNat_natCast]
  refine wpAny_bind (wpAny_updateSeq (hz := Nat.le_trans (Nat.le_add_right _ _) hsz) (_hz' := hz') e rfl ?_)
  refine wpAny_bind (wpAny_letGo ?_)
  first
    | exact wpAny_bind (wpAny_pure (wpAny_pure ⟨.none, rfl, wpAny_pure h⟩))
    | exact wpAny_pure ⟨.none, rfl, wpAny_pure h⟩
end

section
variable {X : Cx}
/-- xs[a:c] = ys of another list, at the value level: sl is the slice object that was just made -/
theorem set_slice {pins : List (Addr × Obj)} {s : Shared} {σ : St} {H : Hp} {l b sl : Addr} {xs ys : List V} {a c : Int} {vl vu : Value} {Q : Unit → Shared → Prop} (I : Inv X pins σ H s)
    (hH : H l = some (.lst xs)) (hB : H b = some (.lst ys)) (hne : l ≠ b) (hs : s.heap.IsSliceOf sl vl vu .none) (ra : RelV (.int a) vl) (rc : RelV (.int c) vu) (h0 : 0 ≤ a) (hac : a ≤ c) (hc : c ≤ xs.length)
    (hz : xs.length + ys.length ≤ sizeLine) (h : ∀ s', Inv X pins σ (upd H l (.lst (xs.take a.toNat ++ ys ++ xs.drop c.toNat))) s' → Q () s') :
    wpAny (model X.prog X.w) X.A (setItem (.ref l) (.ref sl) (.ref b)) Q X.xe s := by
  obtain ⟨ta, rfl⟩ := ra
  obtain ⟨tc, rfl⟩ := rc
  obtain ⟨z, its, n, r, hl, e⟩ := I.lstM hH
  obtain ⟨z2, its2, n2, r2, hl2, e2⟩ := I.lstM hB
  obtain ⟨a', rfl⟩ := Int.eq_ofNat_of_zero_le h0
  obtain ⟨c', rfl⟩ := Int.eq_ofNat_of_zero_le (Int.le_trans h0 hac)
  simp only [Int.toNat_natCast] at h
  refine setItem_slice (a := a') (c := c') e e2 hne hs (.int _ _) (.int _ _) (by omega) (by rw [List.size_toArray]; omega) (by rw [List.size_toArray, List.size_toArray]; omega) (h _ ?_)
  refine I.lset (its' := its.take a' ++ its2 ++ its.drop c') (t' := s.toks) hH e ?_ (Vals.append (Vals.append (r.take _) r2) (r.drop _)) ?_
  · exact splice_eq its its2 a' c'
  · rw [List.length_append, List.length_append, List.length_take, List.length_drop]
    omega
end
end L2

namespace Att
open PySem PySem.W PySem.Calls PyProof.Rows

/-! ### the script -/
theorem ints_of_wellAll {P : Params} {h : Heap} : ∀ (ns : List Int) (vs : List Value), WellAll P h vs (ns.map WData.int) → IntsAre vs ns := by
  intro ns
  induction ns with
  | nil =>
    intro vs w
    rw [List.map_nil] at w
    cases w
    exact .nil
  | cons n ns ih =>
    intro vs w
    rw [List.map_cons] at w
    cases w with
    | cons a b =>
      cases a
      exact .cons _ _ (ih _ b)

theorem script_of {l : OpenLaw} {n : Nat} (hn : l.most = some n) {P : Params} {h : Heap} {args : List WData} {vals : List Value}
    (hpre : l.row.toRowW.claim.pre args = true) (hwl : WellAll P h vals args) :
    ∃ a vs ns, vals = [Value.ref a] ∧ args = [WData.list (ns.map WData.int)] ∧ h.get? a = some { cls := .type "list", data := .seq vs.toArray } ∧ IntsAre vs ns ∧ ns.length ≤ n := by
  have hsh : WShape.hasAll [] args [.list .int] = true := (pre_splitW hpre).1
  have hc : l.pre.holds [] { args := args } = true := (pre_splitW hpre).2
  obtain ⟨d, r, rfl, h1, h2⟩ := hasAllW_cons hsh
  obtain rfl := hasAllW_nil h2
  obtain ⟨xs, rfl, h3⟩ := hasW_list h1
  obtain ⟨ns, rfl⟩ := items_int h3
  have hlen : ns.length ≤ n := by
    unfold OpenLaw.pre at hc
    have h4 : (WTm.not (.lt (.lit (.int (n : Int))) (.len (.arg 0)))).holds [] { args := [.list (ns.map .int)] } = true := by
      have h4 := (holds_andW hc).1
      rw [hn] at h4
      exact h4
    have h5 := condW_of h4 (w_not (w_lt w_lit (w_len_list (w_arg rfl))))
    rw [List.length_map] at h5
    refine Nat.le_of_not_lt fun q => ?_
    have q' : (n : Int) < ((ns.length : Nat) : Int) := by omega
    first
      | (rw [decide_eq_true q'] at h5; exact absurd h5 (by decide))
      | (simp at h5; omega)
  cases hwl with
  | cons w1 w2 =>
    cases w2
    cases w1 with
    | list ho hall => exact ⟨_, _, ns, rfl, rfl, ho, ints_of_wellAll ns _ hall, hlen⟩

theorem post_true (l : OpenLaw) (args : List WData) : l.row.toRowW.claim.post args (.bool true) args = true :=
  postW_of (r := l.row.toRowW) (X := (true == true))
    (show WShape.has [] (.bool true) .bool = true by first | rfl | decide | simp [WShape.has, WShape.arms, WShape.armsAll])
    (show (WTm.eq .res (.lit (.bool true))).value [] { args := args, res := some (.bool true), after := args } = some (.bool (true == true)) from w_eq_bool (w_res rfl) w_lit) rfl

/-! ### the attachment: holds_open's last premise (the goal 'hc' behind k_head) from a wpAny of the law's body -/
theorem attach {l : OpenLaw} {n : Nat} {q : Program} {loose : List Str} {XP : (Str → Option Value) → Heap → Prop} {YP : World → Heap → Prop} {d : DefRec} {x : Str}
    (hn : l.most = some n) (hdf : d.params.defaults = [])
    (hbind : ∀ pm cd doc v : Value, bindArgs (docDef d.name d.params d.body d.scope pm cd doc) ⟨[v], []⟩ = pure [(x, v)])
    (hx : d.scope.names.lookup x = some .local ∨ d.scope.names.lookup x = some .cell)
    (hk : d.scope.kind = .function) (hco : d.scope.isCoroutine = false) (hgen : d.scope.isGenerator = false)
    (body : ∀ (w : World) (s₀ s₁ s : Shared) (mg mb : Str → Option Value) (fa : Addr) (o : Obj) (pm cd doc : Value) (a : Addr) (vs : List Value) (ns : List Int),
      Ground q loose [] XP w s₀ mg mb s₁.heap → YP w s₁.heap →
      s₁.heap.get? fa = some o → o.data = .func (docDef d.name d.params d.body d.scope pm cd doc) → s₁.heap.CodeRec cd d.name → mg d.name = some (.ref fa) →
      s₁.heap.get? a = some { cls := .type "list", data := .seq vs.toArray } → IntsAre vs ns → ns.length ≤ n →
      s.gens = #[] → s.os = s₁.os →
      Fr s₁.heap s₁.heap.objs.size s.heap (bindL (envOfC d.name d.scope s₁.heap.objs.size fa cd).kindOf [(x, .ref a)] fun _ => none) →
      Cl s₁.heap.objs.size (cellsFrom (s₁.heap.objs.size + 1) d.scope.names []) s.heap (bindC (envOfC d.name d.scope s₁.heap.objs.size fa cd).kindOf [(x, .ref a)] fun _ => none) →
      wpAny (model l.prog w) (callerA.deeper (envOfC d.name d.scope s₁.heap.objs.size fa cd)) (execs d.body (envOfC d.name d.scope s₁.heap.objs.size fa cd))
        (fun f s' => f = .ret (.bool true) ∧ OldK s₁.heap s'.heap ∧ s'.os = s₁.os ∧ AllBare s'.gens) (fun _ _ => False) s) :
    WalkO q loose XP YP l.row.toRowW d [] (fun f vs => PySem.call f vs) := by
  intro w s₀ s₁ mg mb G Y fa o pm cd doc dV kV ho hd hcd hD hmg hg args vals as hpre hlay hrd hwl hlo
  obtain rfl : dV = .none := Dflts.none hD hdf
  obtain rfl : kV = .none := Dflts.noKw hD
  obtain ⟨a, vs, ns, rfl, rfl, hobj, hints, hlen⟩ := script_of hn hpre hwl
  refine enter_call ?_
  refine call_cells_ret (o := o) (by rw [depth_caller]; decide) ho (fd_plain hd) G.T.nolimit hcd (hbind pm cd doc (.ref a)) (fun y hy => ?_) (fun h₁ tk F X => ?_) hco hgen hk
  · obtain rfl : y = (x, Value.ref a) := List.mem_singleton.mp hy
    rcases hx with e | e
    · exact .inl e
    · exact .inr ⟨e, cellsFrom_some _ _ _ (.inl e)⟩
  · refine wpAny_mono (body w s₀ s₁ { s₁ with heap := h₁, toks := tk } mg mb fa o pm cd doc a vs ns G Y ho (fd_plain hd) hcd hmg hobj hints hlen hg rfl F X) (fun f s' hq => ?_) (fun _ _ hq => hq)
    obtain ⟨rfl, h2, h3, h4⟩ := hq
    exact ⟨.inl ⟨.bool true, .bool true, [], rfl, fun _ => rfl, .bool true, post_true l _, fun _ => ⟨List.Pairwise.nil, fun _ hm => (nomatch hm)⟩⟩, h2, h3, h4⟩

/-- the same from a codeAny of the CALL (for a layer whose function contracts speak of calls) -/
theorem attach_call {l : OpenLaw} {n : Nat} {q : Program} {loose : List Str} {XP : (Str → Option Value) → Heap → Prop} {YP : World → Heap → Prop} {d : DefRec}
    (hn : l.most = some n) (hdf : d.params.defaults = [])
    (call : ∀ (w : World) (s₀ s₁ : Shared) (mg mb : Str → Option Value) (fa : Addr) (o : Obj) (pm cd doc : Value) (a : Addr) (vs : List Value) (ns : List Int),
      Ground q loose [] XP w s₀ mg mb s₁.heap → YP w s₁.heap →
      s₁.heap.get? fa = some o → o.data = .func (docDef d.name d.params d.body d.scope pm cd doc) → s₁.heap.CodeRec cd d.name → mg d.name = some (.ref fa) →
      s₁.heap.get? a = some { cls := .type "list", data := .seq vs.toArray } → IntsAre vs ns → ns.length ≤ n → s₁.gens = #[] →
      codeAny (model l.prog w) callerA (.call (.ref fa) ⟨[.ref a], []⟩) (fun r s' => r = .ok (.ret (.bool true)) ∧ OldK s₁.heap s'.heap ∧ s'.os = s₁.os ∧ AllBare s'.gens) s₁) :
    WalkO q loose XP YP l.row.toRowW d [] (fun f vs => PySem.call f vs) := by
  intro w s₀ s₁ mg mb G Y fa o pm cd doc dV kV ho hd hcd hD hmg hg args vals as hpre hlay hrd hwl hlo
  obtain rfl : dV = .none := Dflts.none hD hdf
  obtain rfl : kV = .none := Dflts.noKw hD
  obtain ⟨a, vs, ns, rfl, rfl, hobj, hints, hlen⟩ := script_of hn hpre hwl
  refine enter_call (codeAny_mono (call w s₀ s₁ mg mb fa o pm cd doc a vs ns G Y ho (fd_plain hd) hcd hmg hobj hints hlen hg) fun r s' hq => ?_)
  obtain ⟨rfl, h2, h3, h4⟩ := hq
  exact ⟨.inl ⟨.bool true, .bool true, [], rfl, fun _ => rfl, .bool true, post_true l _, fun _ => ⟨List.Pairwise.nil, fun _ hm => (nomatch hm)⟩⟩, h2, h3, h4⟩

/-- the same where the top left finished generators (o_head chose holds_openN): nothing may have changed at all and no generator may be left -/
theorem attachN {l : OpenLaw} {n : Nat} {q : Program} {loose : List Str} {XP : (Str → Option Value) → Heap → Prop} {YP : World → Heap → Prop} {d : DefRec} {x : Str}
    (hn : l.most = some n) (hdf : d.params.defaults = [])
    (hbind : ∀ pm cd doc v : Value, bindArgs (docDef d.name d.params d.body d.scope pm cd doc) ⟨[v], []⟩ = pure [(x, v)])
    (hx : d.scope.names.lookup x = some .local ∨ d.scope.names.lookup x = some .cell)
    (hk : d.scope.kind = .function) (hco : d.scope.isCoroutine = false) (hgen : d.scope.isGenerator = false)
    (body : ∀ (w : World) (s₀ s₁ s : Shared) (mg mb : Str → Option Value) (fa : Addr) (o : Obj) (pm cd doc : Value) (a : Addr) (vs : List Value) (ns : List Int),
      Ground q loose [] XP w s₀ mg mb s₁.heap → YP w s₁.heap →
      s₁.heap.get? fa = some o → o.data = .func (docDef d.name d.params d.body d.scope pm cd doc) → s₁.heap.CodeRec cd d.name → mg d.name = some (.ref fa) →
      s₁.heap.get? a = some { cls := .type "list", data := .seq vs.toArray } → IntsAre vs ns → ns.length ≤ n →
      s.gens = #[] → s.os = s₁.os →
      Fr s₁.heap s₁.heap.objs.size s.heap (bindL (envOfC d.name d.scope s₁.heap.objs.size fa cd).kindOf [(x, .ref a)] fun _ => none) →
      Cl s₁.heap.objs.size (cellsFrom (s₁.heap.objs.size + 1) d.scope.names []) s.heap (bindC (envOfC d.name d.scope s₁.heap.objs.size fa cd).kindOf [(x, .ref a)] fun _ => none) →
      wpAny (model l.prog w) (callerA.deeper (envOfC d.name d.scope s₁.heap.objs.size fa cd)) (execs d.body (envOfC d.name d.scope s₁.heap.objs.size fa cd))
        (fun f s' => f = .ret (.bool true) ∧ (∀ b o, s₁.heap.get? b = some o → s'.heap.get? b = some o) ∧ s'.os = s₁.os ∧ s'.gens = #[]) (fun _ _ => False) s) :
    WalkN q loose XP YP l.row.toRowW d [] (fun f vs => PySem.call f vs) := by
  intro w s₀ s₁ mg mb G Y fa o pm cd doc dV kV ho hd hcd hD hmg hg args vals as hpre hlay hrd hwl hlo
  obtain rfl : dV = .none := Dflts.none hD hdf
  obtain rfl : kV = .none := Dflts.noKw hD
  obtain ⟨a, vs, ns, rfl, rfl, hobj, hints, hlen⟩ := script_of hn hpre hwl
  refine enter_callW ?_
  refine call_cells_ret (o := o) (by rw [depth_caller]; decide) ho (fd_plain hd) G.T.nolimit hcd (hbind pm cd doc (.ref a)) (fun y hy => ?_) (fun h₁ tk F X => ?_) hco hgen hk
  · obtain rfl : y = (x, Value.ref a) := List.mem_singleton.mp hy
    rcases hx with e | e
    · exact .inl e
    · exact .inr ⟨e, cellsFrom_some _ _ _ (.inl e)⟩
  · refine wpAny_mono (body w s₀ s₁ { s₁ with heap := h₁, toks := tk } mg mb fa o pm cd doc a vs ns G Y ho (fd_plain hd) hcd hmg hobj hints hlen hg rfl F X) (fun f s' hq => ?_) (fun _ _ hq => hq)
    obtain ⟨rfl, h2, h3, h4⟩ := hq
    exact ⟨.inl ⟨.bool true, .bool true, [], rfl, fun _ => rfl, .bool true, post_true l _, fun _ => ⟨List.Pairwise.nil, fun _ hm => (nomatch hm)⟩⟩, h2, h3, h4⟩

/-! ### rules over ANY heap (no ledger) from facts about the written part K: the library's own take a ledger (News) for what they write -/
section
variable {prog : Program} {w : World} {A : Around} {E : Value → Shared → Prop} {s : Shared} {K : Frag}

/-- a def of the module, or a method (qual 'C.m'), entered: the frame is the next address; cells behind it -/
theorem call_fn {R : Result → Shared → Prop} {name qual : Str} {params : Arguments} {body : List Stmt} {scope : Scope} {dV kV doc pm cdv ct oc : Value} {an od : Option Addr} {osl : Array (Option Value)} {f : Addr} {args : Args} {binds : List (Str × Value)}
    (X : K.In s.heap) (hlim : s.heap.NoLimit) (ho : K.lookup f = some ⟨oc, od, .func (fnOf name qual params body scope dV kV doc pm an cdv ct), osl⟩) (hcd : codeIn K cdv qual = true) (hroom : A.depth < recursionLimit)
    (hbind : BindsTo s (fnOf name qual params body scope dV kV doc pm an cdv ct) args binds)
    (hkind : (binds.all fun y => scope.names.lookup y.1 == some .local || scope.names.lookup y.1 == some .cell) = true)
    (h : ∀ s₁, InCallC s s.heap.objs.size (bindL (envOfC qual scope s.heap.objs.size f cdv).kindOf binds fun _ => none) (cellsFrom (s.heap.objs.size + 1) scope.names [])
        (bindC (envOfC qual scope s.heap.objs.size f cdv).kindOf binds fun _ => none) s₁ →
      wpAny (model prog w) (A.deeper (envOfC qual scope s.heap.objs.size f cdv)) (execs body (envOfC qual scope s.heap.objs.size f cdv))
        (fun fl s' => R (.ok (.ret (match fl with | .ret v => v | _ => .none))) s')
        (fun e s' => wpAny (model prog w) (A.deeper (envOfC qual scope s.heap.objs.size f cdv)) (leaving (envOfC qual scope s.heap.objs.size f cdv) e) (fun _ s'' => R (.error e) s'') (fun e' s'' => R (.error e') s'') s') s₁)
    (hco : scope.isCoroutine = false) (hgen : scope.isGenerator = false) (hk : scope.kind = .function) : codeAny (model prog w) A (.call (.ref f) args) R s := by
  refine codeAny_call_function hroom (X _ _ ho) rfl hco hgen rfl (codeRec_of X hcd) (hbind _ _ _ _ ?_)
  refine wpAny_newFunctionEnv_cells hk (kindsX hkind _) fun env he s₁ x => ?_
  subst he
  exact ⟨hlim.keeps x.toInCall.keep, codeAny_func (h s₁ x)⟩

/-- C(..): dict at size, instance at size + 1, then __init__ -/
theorem make_obj {R : Result → Shared → Prop} {C fI : Addr} {rest : List Value} {kw : List (Str × Value)}
    (X : K.In s.heap) (hm : makesIn K C = true) (hi : findIn K (.ref C) "__init__" = some (some (.ref fI))) (hf : isFn K (.ref fI) = true)
    (h : codeAny (model prog w) (A.under (.builtin "type.__call__" ⟨.ref C :: rest, kw⟩)) (.call (.ref fI) ⟨.ref (s.heap.objs.size + 1) :: rest, kw⟩) (InitBack (s.heap.objs.size + 1) R)
      { s with heap := (s.heap.push emptyDict).push (instObj C s.heap.objs.size) }) : codeAny (model prog w) A (.call (.ref C) ⟨rest, kw⟩) R s := by
  obtain ⟨hh, g, d, t, os⟩ := s
  exact make_core (makes_of X hm) (looks_findIn X hi) (fun self => bind_fn X self (beq_iff_eq.mp hf)) (.inl rfl) h

/-- x.name where the instance's dict holds the name and the class does not -/
theorem get_field {x C : Addr} {ox : Obj} {es : List DictEntry} {n : Nat} {name : Str} {expr : Bool} {v : Value} {Q : Value → Shared → Prop}
    (X : K.In s.heap) (I : PySem.W.InstAt s.heap x ox C (some (dictOf es n))) (hg : plainGet K C name = true) (hh : hasDictIn K C = true) (ha : findIn K (.ref C) name = some none)
    (hl : getL name es = some (some v)) (hv : handedIn v = true) (h : Q v { s with toks := s.toks + 1 }) : wpAny (model prog w) A (getAttr (.ref x) name expr) Q E s :=
  get_value X I (plainGet_of hg).1 (findObj_own hh ha rfl hl) hv h

/-- x.m(..): the method found in the class -/
theorem get_method {x C f : Addr} {ox : Obj} {es : List DictEntry} {n : Nat} {name : Str} {pl : Sem Bool} {Q : Value × List Value → Shared → Prop}
    (X : K.In s.heap) (I : PySem.W.InstAt s.heap x ox C (some (dictOf es n))) (hg : plainGet K C name = true) (hf : findIn K (.ref C) name = some (some (.ref f))) (ht : isFn K (.ref f) = true)
    (hl : getL name es = some none) (h : Q (.ref f, [.ref x]) s) : wpAny (model prog w) A (getMethod (.ref x) name pl) Q E s :=
  method_fn X I (plainGet_of hg).1 (plainGet_of hg).2 hf (beq_iff_eq.mp ht) (by show (lookIn name (dictOf es n)).map _ = _; rw [lookIn_dict, hl]; rfl) h

/-! the whole heap as the ledger: makes every rule that writes through a ledger a rule over any heap -/
def noObjs (h : Heap) : Heap := { h with objs := #[] }
theorem noObjs_get (h : Heap) (b : Addr) : (noObjs h).get? b = none := by
  cases e : (noObjs h).get? b with
  | none => rfl
  | some o => exact absurd (Heap.lt_size e) (Nat.not_lt_zero _)
def ledger (h : Heap) (L d : Addr) : List (Addr × Obj) := (List.range h.objs.size).filterMap fun a => if a = L ∨ a = d then none else (h.get? a).map fun o => (a, o)
theorem mem_ledger {h : Heap} {L d a : Addr} {o : Obj} : (a, o) ∈ ledger h L d ↔ a ≠ L ∧ a ≠ d ∧ h.get? a = some o := by
  unfold ledger
  rw [List.mem_filterMap]
  constructor
  · rintro ⟨b, _, e⟩
    split at e
    · cases e
    · rename_i hb
      obtain ⟨o', ho, e'⟩ := Option.map_eq_some_iff.mp e
      cases e'
      exact ⟨fun q => hb (.inl q), fun q => hb (.inr q), ho⟩
  · rintro ⟨n1, n2, ho⟩
    refine ⟨a, List.mem_range.mpr (Heap.lt_size ho), ?_⟩
    rw [if_neg (show ¬ (a = L ∨ a = d) from fun q => q.elim n1 n2), ho] <;> rfl
theorem news_ledger {h : Heap} {L d : Addr} {od : Obj} (hne : d ≠ L) (ho : h.get? d = some od) : News (noObjs h) L h ([] ++ (d, od) :: ledger h L d) := by
  rintro ⟨a, o⟩ hp
  rcases List.mem_cons.mp hp with e | hp
  · cases e
    exact ⟨ho, hne, noObjs_get _ _⟩
  · obtain ⟨n1, n2, e⟩ := mem_ledger.mp hp
    exact ⟨e, n1, noObjs_get _ _⟩
theorem fr_all {h : Heap} {L : Addr} {m : Str → Option Value} (n : h.Ns L m) : Fr (noObjs h) L h m :=
  ⟨n, fun b o e => (by rw [noObjs_get] at e; cases e), Nat.zero_le _⟩
/-- Upd of the head entry (for append_K, setItem_K ..) -/
theorem upd_ledger {h : Heap} {L d : Addr} {o o' : Obj} : Upd d o o' ((d, o) :: ledger h L d) ((d, o') :: ledger h L d) :=
  .head fun ⟨_, _⟩ hp => (mem_ledger.mp hp).2.1

/-- x.name = v over any heap: L is any namespace of the heap (the frame's, say): its map stays, its object is not told; all else but the dict stays -/
theorem set_field {x C dx L : Addr} {ox : Obj} {m : Str → Option Value} {es es' : List DictEntry} {n n' : Nat} {name : Str} {v : Value} {Q : Unit → Shared → Prop}
    (X : K.In s.heap) (I : PySem.W.InstAt s.heap x ox C (some (dictOf es n))) (hd : ox.dict = some dx) (hL : s.heap.Ns L m) (hne : dx ≠ L)
    (hs : findIn K (.ref C) "__setattr__" = some (some (.builtin "object.__setattr__"))) (hp : plainOver K C = true) (ht : takerIn K C name = some none) (hh : hasDictIn K C = true) (hl : (getL name es).isSome = true)
    (e : (putL name (PyData.keyHash w.params name) (.str name (s.toks + 1)) v es, putN name es n) = (es', n')) (hz : es'.length ≤ 1000)
    (h : ∀ h' : Heap, h'.Ns L m → h'.get? dx = some (dictOf es' n') → (∀ b o, b ≠ dx → b ≠ L → s.heap.get? b = some o → h'.get? b = some o) → Q () { s with heap := h', toks := s.toks + 2 }) :
    wpAny (model prog w) A (setAttr (.ref x) name v) Q E s := by
  obtain ⟨e1, e2⟩ := Prod.mk.inj e
  have hdx : s.heap.get? dx = some (dictOf es n) := by
    have := I.dict
    rw [hd] at this
    exact this
  refine set_plain X I hs (osa_dict (s := { s with toks := s.toks + 1 }) (h₀ := noObjs s.heap) (L := L) (m := m) (od := dictOf es n) (od' := dictOf es' n') (es := es') (n := n') (pre := []) (post := ledger s.heap L dx)
    (fr_all hL) (news_ledger hne hdx) X I hd hp ht hh hl (fun _ q => nomatch q) (fun ⟨_, _⟩ q => (mem_ledger.mp q).2.1) (by rw [putName_dict, e1, e2]) rfl hz fun h' F' N' => ?_)
  exact h h' F'.ns (N'.get (List.Mem.head _)) fun b o n1 n2 ho => N'.get (List.Mem.tail _ (mem_ledger.mpr ⟨n2, n1, ho⟩))
end
end Att

namespace L2
open PySem PySem.Spec PyProof.Rows

theorem vals_ints : ∀ {vs : List Value} {ns : List Int}, IntsAre vs ns → Vals (ns.map V.int) vs
  | _, _, .nil => .nil
  | _, _, .cons n t h => .cons ⟨t, rfl⟩ (vals_ints h)

/-- nothing is tracked but the script, known to the object (or it is an object of the module) -/
def Only (H : Hp) : Prop := ∀ b, H b = none ∨ ∃ o xs, H b = some (.frz o (.lst xs))

/-- THE HEAD: the law's promise, at the heap behind the top. F, the promise of the law's def, may use that base is part of the heap (so K.In base, base.Ns mainGlobals mg stand in Mod) -/
theorem law_call {P : Program} {w : World} {K : PySem.W.Frag} {mg mb : Str → Option Value} {CX : CXT} {k : Nat} {fa a : Addr} {fd : FuncData} {x : Str} {sp : Sp} {s₁ : Shared} {vs : List Value} {ns : List Int}
    (KX : K.In s₁.heap) (hns : s₁.heap.Ns mainGlobals mg) (hb : s₁.heap.Ns builtinsNs mb) (hbb : ∀ x : Str, x ≠ "__name__" → mb x = bootBuiltins x) (hlim : s₁.heap.NoLimit) (hg : s₁.gens = #[])
    (ha : s₁.heap.get? a = some { cls := .type "list", data := .seq vs.toArray }) (hi : IntsAre vs ns) (hl : ns.length ≤ sizeLine) (hr : Room k callerA)
    (F : ∀ base : Heap, K.In base → base.Ns mainGlobals mg → FnOk P w K mg base CX k fa fd [x] sp) (hbind : ∀ (s : Shared) (u : Value), BindsTo s fd ⟨[u], []⟩ [(x, u)])
    (hsp : ∀ H : Hp, Only H → SqL K H a (ns.map V.int) → sp [.ref a] H (fun v _ => v = .bl true) fun _ _ _ => False)
    (hCX : ∀ H e s', CX [] H s₁ (fun _ _ _ => False) e s' → False) :
    codeAny (model P w) callerA (.call (.ref fa) ⟨[.ref a], []⟩) (fun r s' => r = .ok (.ret (.bool true)) ∧ OldK s₁.heap s'.heap ∧ s'.os = s₁.os ∧ AllBare s'.gens) s₁ := by
  have rv := vals_ints hi
  have lenV := hi.length
  -- from an abstract heap in which nothing but the script may be tracked
  have core : ∀ H : Hp, Only H → SqL K H a (ns.map V.int) → HOk P w H s₁.heap → (∀ b, H b ≠ none → b = a) → (H a ≠ none → K.lookup a = none) →
      codeAny (model P w) callerA (.call (.ref fa) ⟨[.ref a], []⟩) (fun r s' => r = .ok (.ret (.bool true)) ∧ OldK s₁.heap s'.heap ∧ s'.os = s₁.os ∧ AllBare s'.gens) s₁ := by
    intro H hO hS hok hA hK
    have base_of : ∀ {b : Addr} {o : Obj}, s₁.heap.get? b = some o → H b = none → (hidT s₁.heap H).get? b = some o := fun e n => hidT_get e n
    have noA : ∀ {b : Addr} {o : Obj} {es : Array DictEntry} {ep : Nat}, s₁.heap.get? b = some o → o.data = .dict es ep → H b = none := fun {b o es ep} e d => by
      cases q : H b with
      | none => rfl
      | some u =>
        have e' : b = a := hA b (by rw [q]; simp)
        subst e'
        rw [ha] at e; cases e
        have d' : Data.seq vs.toArray _ = Data.dict es ep := d
        cases d'
    have nsK : ∀ {b : Addr} {m : Str → Option Value}, s₁.heap.Ns b m → (hidT s₁.heap H).Ns b m := fun {b m} ⟨o, es, ep, e, d, r⟩ => ⟨o, es, ep, base_of e (noA e d), d, r⟩
    have hKb : K.In (hidT s₁.heap H) := fun b o e => base_of (KX b o e) (by
      cases q : H b with
      | none => rfl
      | some u =>
        have e' : b = a := hA b (by rw [q]; simp)
        subst e'
        rw [hK (by rw [q]; simp)] at e; cases e)
    have hM : Mod K mg (hidT s₁.heap H) := ⟨hKb, nsK hns, ⟨mb, nsK hb, hbb⟩, let ⟨mc, h1, h2⟩ := hlim; ⟨mc, nsK h1, h2⟩⟩
    have e0 : Env0 P w K mg (hidT s₁.heap H) callerA [] s₁ H := ⟨rfl, hM, fun b o e => of_hidT e, Nat.le_of_eq (hidT_size _ _), trivial, fun b hb => absurd (show b ∈ ([] : List Addr) from hb) (by simp), hok, .of_eq hg⟩
    refine codeAny_mono ((F _ hKb (nsK hns)).run callerA [] s₁ H ⟨[.ref a], []⟩ [.ref a] [.ref a] _ _ hr e0 (hbind s₁ (.ref a)) (.cons rfl .nil) (hsp H hO hS)) fun r s' h => ?_
    cases r with
    | error e => exact (hCX H e s' h).elim
    | ok fl =>
      cases fl with
      | next => exact False.elim h
      | brk => exact False.elim h
      | cont => exact False.elim h
      | ret u =>
        obtain ⟨v, H', os, bare, un, hok', r', q⟩ := h
        have q' : v = .bl true := q
        subst q'
        obtain rfl : u = Value.bool true := r'
        refine ⟨rfl, OldK.of_keep fun b o e => ?_, os, bare⟩
        cases q : H b with
        | none => exact un.keep b o e q (by intro z; exact absurd (show b ∈ ([] : List Addr) from z) (by simp)) (by simp)
        | some u =>
          rcases hO b with z | ⟨ob, xs, z⟩
          · rw [q] at z; cases z
          · have z2 := un.frzs b ob _ z
            obtain ⟨e1, _⟩ := hok b _ z
            obtain ⟨e2, _⟩ := hok' b _ z2
            rw [e] at e1; cases e1
            exact e2
  cases hk : K.lookup a with
  | some o =>
    -- the script is one of the module's own objects
    have e := KX a o hk
    rw [ha] at e
    cases e
    refine core (fun _ => none) (fun _ => .inl rfl) (.inr ⟨_, vs.toArray, _, hk, rfl, rfl, rfl, by rw [List.size_toArray, lenV]; exact hl, by simpa using rv⟩) (fun b u z => by have z' : (none : Option HO) = some u := z; cases z') (fun b z => absurd rfl z) fun z => absurd rfl z
  | none =>
    refine core (fun b => if b = a then some (.frz { cls := .type "list", data := .seq vs.toArray } (.lst (ns.map V.int))) else none) (fun b => ?_) (.inl (.inr ⟨{ cls := .type "list", data := .seq vs.toArray }, if_pos rfl⟩)) (fun b u z => ?_) (fun b z => ?_) fun _ => hk
    · by_cases hb : b = a
      · exact .inr ⟨_, _, if_pos hb⟩
      · exact .inl (if_neg hb)
    · by_cases hb : b = a
      · have z' := (if_pos hb).symm.trans z
        cases z'
        subst hb
        exact ⟨ha, by rw [List.length_map]; exact hl, vs, _, rv, ha⟩
      · have z' := (if_neg hb).symm.trans z
        cases z'
    · by_cases hb : b = a
      · exact hb
      · exact absurd (if_neg hb) z
end L2

namespace L2
open PySem PySem.Spec PyProof.Rows

abbrev KOf {K : PySem.W.Frag} {h : Heap} (_ : K.In h) : PySem.W.Frag := K

/-- the goal that k_head leaves (case hc), from the law's promise. F gives the function object fd (K's own) once, then the promise over every base -/
theorem walk_of {l : PySem.W.OpenLaw} {n k : Nat} {q : Program} {loose : List Str} {XP : (Str → Option Value) → Heap → Prop} {YP : World → Heap → Prop} {d : DefRec} {K : Params → PySem.W.Frag} {CX : World → CXT} {sp : World → Sp} {x : Str}
    (hn : l.most = some n) (hn2 : n ≤ sizeLine) (hdf : d.params.defaults = []) (hr : Room k callerA)
    (hY : ∀ (w : World) (h : Heap), YP w h → (K w.params).In h)
    (F : ∀ (w : World) (mg : Str → Option Value) (fa : Addr) (h : Heap), (K w.params).In h → h.Ns mainGlobals mg → mg d.name = some (.ref fa) →
      ∃ fd : FuncData, (∀ (s : Shared) (u : Value), BindsTo s fd ⟨[u], []⟩ [(x, u)]) ∧
        ∀ base : Heap, (K w.params).In base → base.Ns mainGlobals mg → FnOk l.prog w (K w.params) mg base (CX w) k fa fd [x] (sp w))
    (hsp : ∀ (w : World) (H : Hp) (a : Addr) (ns : List Int), ns.length ≤ n → Only H → SqL (K w.params) H a (ns.map V.int) → sp w [.ref a] H (fun v _ => v = .bl true) fun _ _ _ => False)
    (hCX : ∀ (w : World) (H : Hp) (s : Shared) (e : Value) (s' : Shared), CX w [] H s (fun _ _ _ => False) e s' → False) :
    PySem.W.WalkO q loose XP YP l.row.toRowW d [] (fun f vs => PySem.call f vs) := by
  refine Att.attach_call hn hdf fun w s₀ s₁ mg mb fa o pm cd doc a vs ns G Y ho hd hcd hmg hobj hints hlen hg => ?_
  have KX := hY w _ Y
  obtain ⟨fd, hb, hF⟩ := F w mg fa _ KX G.T.g hmg
  exact law_call KX G.T.g G.T.b G.T.builtins G.T.nolimit hg hobj hints (Nat.le_trans hlen hn2) hr hF hb (fun H hO hS => hsp w H a ns hlen hO hS) fun H e s' => hCX w H s₁ e s'
/-- the same where the promise hangs on the written part alone: (sp := My.sp_law), no hole under a binder -/
theorem walk_ofK {l : PySem.W.OpenLaw} {n k : Nat} {q : Program} {loose : List Str} {XP : (Str → Option Value) → Heap → Prop} {YP : World → Heap → Prop} {d : DefRec} {K : Params → PySem.W.Frag} {CX : CXT} {sp : PySem.W.Frag → Sp} {x : Str}
    (hn : l.most = some n) (hn2 : n ≤ sizeLine) (hdf : d.params.defaults = []) (hr : Room k callerA)
    (hY : ∀ (w : World) (h : Heap), YP w h → (K w.params).In h)
    (F : ∀ (w : World) (mg : Str → Option Value) (fa : Addr) (h : Heap), (K w.params).In h → h.Ns mainGlobals mg → mg d.name = some (.ref fa) →
      ∃ fd : FuncData, (∀ (s : Shared) (u : Value), BindsTo s fd ⟨[u], []⟩ [(x, u)]) ∧
        ∀ base : Heap, (K w.params).In base → base.Ns mainGlobals mg → FnOk l.prog w (K w.params) mg base CX k fa fd [x] (sp (K w.params)))
    (hsp : ∀ (K : PySem.W.Frag) (H : Hp) (a : Addr) (ns : List Int), ns.length ≤ n → Only H → SqL K H a (ns.map V.int) → sp K [.ref a] H (fun v _ => v = .bl true) fun _ _ _ => False)
    (hCX : ∀ (H : Hp) (s : Shared) (e : Value) (s' : Shared), CX [] H s (fun _ _ _ => False) e s' → False) :
    PySem.W.WalkO q loose XP YP l.row.toRowW d [] (fun f vs => PySem.call f vs) :=
  walk_of (K := K) (CX := fun _ => CX) (sp := fun w => sp (K w.params)) hn hn2 hdf hr hY F (fun w H a ns h1 h2 h3 => hsp (K w.params) H a ns h1 h2 h3) fun _ H s e s' => hCX H s e s'
end L2

/- THE LAST THEOREM (shape; LID, My.* are yours):
   My.Adr: a structure of the addresses that your layer names (classes, functions); My.Txt K t: a structure (Prop) of the equations over K;
   My.txt_mk : {K} {implicit addresses ..} (e1 : nsIn K mainGlobals "law" = some (some (.ref f))) (e2 : K.lookup f = some ⟨oc, od, .func (fnOf "law" "law" params body scope dV kV doc pm an cdv ct), sl⟩) (e3 : codeIn K cdv "law" = true) .. : ∃ t, My.Txt K t

set_option maxRecDepth 100000 in
set_option maxHeartbeats 0 in
theorem PySem.Challenge.cw_LID_holds : PySem.Challenge.rw_LID.Holds := by
  w_on; o_law; k_head; (case hw => w_witness2)
  k_fill
  refine L2.walk_of (l := PySem.Challenge.rw_LID) (n := 63) (k := 40) (x := "script") (CX := fun w => ..) (sp := fun _ => My.sp_law) rfl (by decide) rfl ⟨rfl, by decide, by decide⟩ (fun w h Y => PySem.W.kIn_of Y) ?F ?S ?C
  case F =>
    intro w mg fa h KX G hmg
    have T : ∃ t, My.Txt (L2.KOf KX) t := by
      dsimp only [L2.KOf]                          -- K must stand as «<heap const> w.params» for k_is
      refine' My.txt_mk ?e1 ?e2 ?e3 ..
      (case e1 => PySem.W.k_is)                    -- in the order: a name -> its address -> its object -> its parts
      (case e2 => PySem.W.k_is)
      ..
    obtain ⟨t, T⟩ := T
    have e0 := hmg.symm.trans (PySem.W.mg_of KX G T.law)
    cases e0                                       -- fa is the law's own address
    exact ⟨_, fun s u => .of_eq rfl, fun base kb nb => My.law_fn T kb nb⟩     -- if «.of_eq rfl» comes too early: refine' ⟨_, ?b, fun base kb nb => My.law_fn T kb nb⟩; exact fun s u => .of_eq rfl
  case S => exact fun w H a ns hl hO hS => ..
  case C => exact ..
(the tactic k_is has no namespace: write k_is) -/

/-! SHORT WORDS over the layer: a def of the text, its body, what a loop and a test want. -/
namespace L2
open PySem PySem.Spec PyProof.Rows

/-! ### the text by places -/
/-- the j-th statement of a class's body -/
def inClass (s : Stmt) (j : Nat) : Stmt := match s with
  | .ClassDef _ _ _ body _ _ _ _ _ _ _ => body.getD j (.Pass ⟨0, 0, 0, 0⟩)
  | _ => .Pass ⟨0, 0, 0, 0⟩
def defArgs (s : Stmt) : Arguments := match s with
  | .FunctionDef _ a _ _ _ _ _ _ _ _ => a
  | _ => { posonlyargs := [], args := [], vararg := none, kwonlyargs := [], kw_defaults := [], kwarg := none, defaults := [] }
def defBody (s : Stmt) : List Stmt := match s with
  | .FunctionDef _ _ b _ _ _ _ _ _ _ => b
  | _ => []
def defScope (s : Stmt) : Scope := match s with
  | .FunctionDef _ _ _ _ _ _ sc _ _ _ => sc
  | _ => { kind := .function, names := [], isGenerator := false, isCoroutine := false }

/-! ### no exception leaves a def -/
abbrev CX0 : CXT := fun _ _ _ _ _ _ => False
abbrev E0 : XK := fun _ _ _ => False
theorem pass0 {X : Cx} : Passes CX0 X E0 := fun _ _ _ _ _ _ _ h => h.elim

/-! ### a def (or method) of the text as it stands behind the top -/
structure Fun (K : PySem.W.Frag) (x qual : Str) (st : Stmt) (f : Addr) (fd : FuncData) : Prop where
  ex : ∃ (oc : Value) (od : Option Addr) (kV doc pm : Value) (an : Option Addr) (cdv ct : Value) (osl : Array (Option Value)),
    fd = PySem.W.fnOf x qual (defArgs st) (defBody st) (defScope st) .none kV doc pm an cdv ct ∧ K.lookup f = some ⟨oc, od, .func fd, osl⟩ ∧ PySem.W.codeIn K cdv qual = true
  kp : PySem.W.keepIn K (.ref f) = true
section
variable {P : Program} {w : World} {K : PySem.W.Frag} {mg : Str → Option Value} {base : Heap}
/-- THE RULE for a def: its body as a term of rules, and the reading of that term -/
theorem Fun.ok {x qual : Str} {st : Stmt} {f : Addr} {fd : FuncData} {N ps : List Str} {k : Nat} {sp : Sp} (F : Fun K x qual st f fd) (S : FnScope N ps (defScope st)) (len : ∀ vs H Q E, sp vs H Q E → vs.length = ps.length)
    (hbody : ∀ (cdv : Value) (A : Around) (outer : List Env) (s : Shared) (H : Hp) (vs : List V) (Q : VK) (E : XK), Room k (A.deeper (envOfC qual (defScope st) s.heap.objs.size f cdv)) → sp vs H Q E →
      ∃ t, PSs (cxOf CX0 P w K mg base N qual (defScope st) f cdv A outer s H E).nox (defBody st) t ∧ t { nx := fun _ H' => Q .non H', rt := Q } (start N vs) H) : FnOk P w K mg base CX0 (k + 1) f fd ps sp := by
  obtain ⟨oc, od, kV, doc, pm, an, cdv, ct, osl, rfl, lk, hcd⟩ := F.ex
  refine fn_of lk hcd S len fun A outer s H vs Q E hr hsp => ?_
  obtain ⟨t, h, q⟩ := hbody cdv A outer s H vs Q E hr hsp
  exact ⟨t, h.nox, q⟩
/-- how its arguments bind (no defaults): h is «fun _ _ _ _ _ _ us hl => match us, hl with | [_, _], _ => rfl», one _ a parameter -/
theorem Fun.binds {x qual : Str} {st : Stmt} {f : Addr} {fd : FuncData} {ps : List Str} (F : Fun K x qual st f fd)
    (h : ∀ (kV doc pm : Value) (an : Option Addr) (cdv ct : Value) (us : List Value), us.length = ps.length → bindArgs (PySem.W.fnOf x qual (defArgs st) (defBody st) (defScope st) .none kV doc pm an cdv ct) ⟨us, []⟩ = pure (ps.zip us)) : Binds K fd ps [] := by
  obtain ⟨oc, od, kV, doc, pm, an, cdv, ct, osl, rfl, lk, hcd⟩ := F.ex
  exact .all (h kV doc pm an cdv ct)
theorem fun_mk {x qual : Str} {st : Stmt} {f : Addr} {oc : Value} {od an : Option Addr} {osl : Array (Option Value)} {kV doc pm cdv ct : Value} (l : K.lookup f = some ⟨oc, od, .func (PySem.W.fnOf x qual (defArgs st) (defBody st) (defScope st) .none kV doc pm an cdv ct), osl⟩)
    (c : PySem.W.codeIn K cdv qual = true) (k : PySem.W.keepIn K (.ref f) = true) : Fun K x qual st f (PySem.W.fnOf x qual (defArgs st) (defBody st) (defScope st) .none kV doc pm an cdv ct) := ⟨⟨oc, od, kV, doc, pm, an, cdv, ct, osl, rfl, l, c⟩, k⟩
end
theorem hu_of {A : Around} {k : Nat} (hr : Room k A) : A.units + 1 < cLine := Nat.lt_of_le_of_lt (Nat.add_le_add_left (by decide : 1 ≤ 64) _) hr.units
theorem small1000 {n : Nat} (h : n ≤ 1000) : n < sizeLine := Nat.lt_of_le_of_lt h (by decide)

/-! ### expressions in short: the name that stands in the i-th slot -/
section
variable {X : Cx}
theorem pv (i : Nat) {x : Str} {pos : Pos} (hN : X.N[i]? = some x := by rfl) (hv : Vis X.env.scope x := by first | exact Or.inl rfl | exact Or.inr (Or.inl rfl) | exact Or.inr (Or.inr rfl)) (hd : (x == ("__debug__" : Str)) = false := by decide)
    (hcd : (x == ("__classdict__" : Str)) = false := by decide) : PE X (.Name x pos) (tVar i) := pe_var hN hv hd hcd
end

/-! ### tests -/
theorem iteF {A B : Prop} (h : B) : if false = true then A else B := by
  rw [if_neg Bool.false_ne_true]
  exact h
theorem iteT {A B : Prop} (h : A) : if true = true then A else B := by
  rw [if_pos rfl]
  exact h
theorem ite2 {c A B : Prop} [Decidable c] (h1 : c → A) (h2 : ¬ c → B) : if c then A else B := by
  by_cases h : c
  · rw [if_pos h]
    exact h1 h
  · rw [if_neg h]
    exact h2 h
theorem iteNS {c A B : Prop} [Decidable c] (hc : c) (h : B) : if (!decide c) = true then A else B := by
  rw [decide_eq_true hc]
  exact iteF h

/-! ### heaps -/
/-- all that was tracked is as it was -/
def Same (H H' : Hp) : Prop := ∀ b o, H b = some o → H' b = some o
theorem Same.refl (H : Hp) : Same H H := fun _ _ h => h
theorem Same.trans {H H1 H2 : Hp} (a : Same H H1) (b : Same H1 H2) : Same H H2 := fun c o h => b c o (a c o h)
theorem Same.free {H H' : Hp} (e : Same H H') {l : Addr} (h : H' l = Option.none) : H l = Option.none := by
  cases q : H l with
  | none => rfl
  | some o =>
    rw [e l o q] at h
    cases h
theorem Same.seq {K : PySem.W.Frag} {H H' : Hp} {a : Addr} {xs : List V} (e : Same H H') (h : SqL K H a xs) : SqL K H' a xs := by
  rcases h with (h | ⟨o, h⟩) | h
  · exact .inl (.inl (e _ _ h))
  · exact .inl (.inr ⟨o, e _ _ h⟩)
  · exact .inr h

end L2

/-! EXCEPTIONS: how one lies behind a call; raise; passing on; try .. except .. as -/
namespace L2
open PySem PySem.Spec PyProof.Rows PySem.W
theorem frs_cons {env : Env} {outer : List Env} {L : Addr} (h : env.frame = some L) : frs (env :: outer) = L :: frs outer := by
  unfold frs; rw [List.filterMap_cons, h]
/-- an exception in flight: B: all that stays, without the frames -/
structure Lies (P : Program) (w : World) (outer : List Env) (H : Hp) (s s' : Shared) (ea : Addr) (cls a0 : Value) (B : Heap) (H' : Hp) : Prop where
  os : s'.os = s.os
  bare : AllBare s'.gens
  fly : Heap.FlyingW B outer ea cls a0 s'.heap
  hok : HOk P w H' B
  un : Un (frs outer) [] H H' s.heap s'.heap
  inB : ∀ b o, s.heap.get? b = some o → b ∉ frs outer → (H b = none → B.get? b = some o) ∧ ∃ o', B.get? b = some o'
def CX1 (P : Program) (w : World) : CXT := fun outer H s E e s' => ∃ ea cls a0 B H', e = .ref ea ∧ Lies P w outer H s s' ea cls a0 B H' ∧ E cls none H'
section
variable {X : Cx} {pins : List (Addr × Obj)} {σ : St} {H H' : Hp} {s s' : Shared} {ea : Addr} {cls a0 : Value} {B : Heap} {h' h'' : Heap}
theorem Inv.frNf (I : Inv X pins σ H s) : ∀ b ∈ frs X.stack, H b = none ∧ ∃ o, s.heap.get? b = some o ∧ ∀ vs, o.data ≠ .fields vs := fun b hb => ⟨I.stkFree b hb, (I.stack.mem hb).2⟩
/-- its slots and its own records have changed -/
theorem Lies.on {P : Program} {w : World} {outer : List Env} (L : Lies P w outer H s s' ea cls a0 B H') (ff : ∀ b ∈ frs outer, H b = none ∧ ∃ o, s.heap.get? b = some o ∧ ∀ vs, o.data ≠ .fields vs)
    (fl : Heap.FlyingW B outer ea cls a0 h') (sl : s'.heap.UpToSlots h') : Lies P w outer H s { s' with heap := h' } ea cls a0 B H' where
  os := L.os
  bare := L.bare
  fly := fl
  hok := L.hok
  inB := L.inB
  un := by
    have slot : ∀ b o, s.heap.get? b = some o → H b = none → b ∈ frs outer → ∃ sl, h'.get? b = some { o with slots := sl } := fun b o e n hb => by
      obtain ⟨sl1, e1⟩ := L.un.slot b o e n hb (by simp)
      obtain ⟨_, o2, e2, nf⟩ := ff b hb
      rw [e] at e2; cases e2
      obtain ⟨sl2, e3⟩ := sl b _ e1 nf
      exact ⟨sl2, e3⟩
    exact ⟨fun b o e n hb _ => fl.1 b o ((L.inB b o e hb).1 n), fun b o e n hb _ => slot b o e n hb, L.un.free, fun b o e _ => by
      by_cases hb : b ∈ frs outer
      · obtain ⟨sl1, e1⟩ := slot b o e (ff b hb).1 hb
        exact ⟨_, e1⟩
      · obtain ⟨o', e'⟩ := (L.inB b o e hb).2
        exact ⟨o', fl.1 b o' e'⟩, L.un.tups, L.un.frzs, L.un.tbls⟩
theorem Inv.old (I : Inv X pins σ H s) {b : Addr} {o : Obj} (hX : X.stack = X.env :: X.outer) (hf : X.env.frame = some X.env.locals) (e : X.s₀.heap.get? b = some o) (hb : b ∉ frs X.outer) : b ∉ frs X.stack := by
  rw [hX, frs_cons hf]
  intro z
  rcases List.mem_cons.mp z with z | z
  · exact absurd (Nat.lt_of_lt_of_le (Heap.lt_size e) I.ok.above) (by rw [z]; exact Nat.lt_irrefl _)
  · exact hb z
theorem mem_stk {X : Cx} (hX : X.stack = X.env :: X.outer) (hf : X.env.frame = some X.env.locals) {b : Addr} (hb : b ∈ frs X.outer) : b ∈ frs X.stack := by
  rw [hX, frs_cons hf]; exact List.mem_cons_of_mem _ hb
/-- it has left this frame -/
theorem Lies.out (I : Inv X pins σ H s) (hX : X.stack = X.env :: X.outer) (hf : X.env.frame = some X.env.locals) (hex : X.ex = []) (L : Lies X.prog X.w X.stack H s s' ea cls a0 B H')
    (fl : Heap.FlyingW B X.outer ea cls a0 h') (sl : s'.heap.UpToSlots h') : Lies X.prog X.w X.outer X.H₀ X.s₀ { s' with heap := h' } ea cls a0 B H' where
  os := L.os.trans I.os
  bare := L.bare
  fly := fl
  hok := L.hok
  inB := fun b o e hb => by
    have nx : b ∉ X.ex := by rw [hex]; simp
    obtain ⟨o1, e1⟩ := I.base.there b o e nx
    have hb' := I.old hX hf e hb
    exact ⟨fun n => (L.inB b o (I.base.keep b o e n hb nx) hb').1 (I.base.free b o e n nx), (L.inB b o1 e1 hb').2⟩
  un := by
    have nx : ∀ b, b ∉ X.ex := fun b => by rw [hex]; simp
    have slot : ∀ b o, X.s₀.heap.get? b = some o → X.H₀ b = none → b ∈ frs X.outer → ∃ sl, h'.get? b = some { o with slots := sl } := fun b o e n hb => by
      obtain ⟨sl1, e1⟩ := I.base.slot b o e n hb (nx b)
      have n1 := I.base.free b o e n (nx b)
      obtain ⟨sl2, e2⟩ := L.un.slot b _ e1 n1 (mem_stk hX hf hb) (by simp)
      obtain ⟨_, o3, e3, nf⟩ := I.frNf b (mem_stk hX hf hb)
      rw [e1] at e3; cases e3
      obtain ⟨sl4, e4⟩ := sl b _ e2 nf
      exact ⟨sl4, e4⟩
    refine ⟨fun b o e n hb _ => ?_, fun b o e n hb _ => slot b o e n hb, fun b o e n _ => ?_, fun b o e _ => ?_, fun b xs e => L.un.tups b xs (I.base.tups b xs e), fun b o xs e => L.un.frzs b o xs (I.base.frzs b o xs e), fun b ps e => ?_⟩
    · exact fl.1 b o ((L.inB b o (I.base.keep b o e n hb (nx b)) (I.old hX hf e hb)).1 (I.base.free b o e n (nx b)))
    · obtain ⟨o1, e1⟩ := I.base.there b o e (nx b)
      exact L.un.free b o1 e1 (I.base.free b o e n (nx b)) (by simp)
    · by_cases hb : b ∈ frs X.outer
      · obtain ⟨sl1, e1⟩ := slot b o e (I.ok.frf b hb) hb
        exact ⟨_, e1⟩
      · obtain ⟨o1, e1⟩ := I.base.there b o e (nx b)
        obtain ⟨o', e'⟩ := (L.inB b o1 e1 (I.old hX hf e hb)).2
        exact ⟨o', fl.1 b o' e'⟩
    · obtain ⟨m1, e1⟩ := I.base.tbls b ps e
      obtain ⟨m2, e2⟩ := L.un.tbls b _ e1
      exact ⟨m1 ++ m2, by rw [e2, Array.append_assoc]⟩
/-- it was made in this frame, and has left it -/
theorem Lies.made (I : Inv X pins σ H s) (hX : X.stack = X.env :: X.outer) (hf : X.env.frame = some X.env.locals) (hex : X.ex = []) {vs : List Value} (hx : Heap.MadeExcOf s.heap h' ea cls vs)
    (fl : Heap.FlyingW (hideAll s.heap (frs X.stack)) X.outer ea cls a0 h'') (sl : h'.UpToSlots h'') : Lies X.prog X.w X.outer X.H₀ X.s₀ { s with heap := h'' } ea cls a0 (hideAll s.heap (frs X.stack)) H where
  os := I.os
  bare := I.bare
  fly := fl
  hok := fun a o e => (I.hok a o e).stay (fun b u hb q => hideAll_get _ q fun z => by
      have := I.stkFree b z
      rcases hb with rfl | hb
      · rw [e] at this; cases this
      · rw [hb] at this; cases this) (fun _ q => q) fun _ _ q => q
  inB := fun b o e hb => by
    have nx : b ∉ X.ex := by rw [hex]; simp
    obtain ⟨o1, e1⟩ := I.base.there b o e nx
    have hb' := I.old hX hf e hb
    exact ⟨fun n => hideAll_get _ (I.base.keep b o e n hb nx) hb', o1, hideAll_get _ e1 hb'⟩
  un := by
    have nx : ∀ b, b ∉ X.ex := fun b => by rw [hex]; simp
    have slot : ∀ b o, X.s₀.heap.get? b = some o → X.H₀ b = none → b ∈ frs X.outer → ∃ sl, h''.get? b = some { o with slots := sl } := fun b o e n hb => by
      obtain ⟨sl1, e1⟩ := I.base.slot b o e n hb (nx b)
      obtain ⟨_, o3, e3, nf⟩ := I.frNf b (mem_stk hX hf hb)
      rw [e1] at e3; cases e3
      obtain ⟨sl4, e4⟩ := sl b _ (hx.keeps b _ e1) nf
      exact ⟨sl4, e4⟩
    refine ⟨fun b o e n hb _ => ?_, fun b o e n hb _ => slot b o e n hb, fun b o e n _ => I.base.free b o e n (nx b), fun b o e _ => ?_, I.base.tups, I.base.frzs, I.base.tbls⟩
    · exact fl.1 b o (hideAll_get _ (I.base.keep b o e n hb (nx b)) (I.old hX hf e hb))
    · by_cases hb : b ∈ frs X.outer
      · obtain ⟨sl1, e1⟩ := slot b o e (I.ok.frf b hb) hb
        exact ⟨_, e1⟩
      · obtain ⟨o1, e1⟩ := I.base.there b o e (nx b)
        exact ⟨o1, fl.1 b o1 (hideAll_get _ e1 (I.old hX hf e hb))⟩
end
section
variable {P : Program} {w : World} {K : Frag} {mg : Str → Option Value} {base : Heap} {N : List Str} {qual : Str} {scope : Scope} {f : Addr} {cd : Value} {A : Around} {outer : List Env} {s : Shared} {H : Hp} {E : XK}
theorem pass1 : Passes (CX1 P w) (cxOf (CX1 P w) P w K mg base N qual scope f cd A outer s H E) E := by
  intro pins σ H1 s1 e s' I ⟨ea, cls, a0, B, H', he, L, hE⟩
  subst he
  exact wpAny_leaves_onW (base := B) I.ok.frames rfl L.fly fun h' fl sl => ⟨ea, cls, a0, B, H', rfl, L.out I rfl rfl rfl fl sl, hE⟩
/-- raise C(e): C an own class; E its wish -/
theorem ps_raise1 {x : Str} {C : Addr} {bm bmN : List Value} {Bn Bb newId nid initId inN : String} {np cpos pos : Pos} {e : Expr} {t : TA} (O : OwnCls x C bm newId mg base) (Fn : ExcBaseFacts Bn newId inN bmN) (hBn : bm.contains (.type Bn) = true) (FB : ExcBaseFacts Bb nid initId bm)
    (hg : Gl (cxOf (CX1 P w) P w K mg base N qual scope f cd A outer s H E) x) (ha : PA (cxOf (CX1 P w) P w K mg base N qual scope f cd A outer s H E) [e] t)
    (he : starEach [e] (envOfC qual scope s.heap.objs.size f cd) = [(false, eval e (envOfC qual scope s.heap.objs.size f cd))]) (hd : (x == ("__debug__" : Str)) = false := by decide) :
    PS (cxOf (CX1 P w) P w K mg base N qual scope f cd A outer s H E) (.Raise (some (.Call (.Name x np) [e] [] cpos)) none pos) (fun _ σ H1 => t σ H1 fun vs H2 => vs.length ≤ sizeLine ∧ E (.ref C) none H2) := by
  intro pins s1 σ H1 D I hw
  obtain ⟨tl, N', nm, q, bs, hdct, sn, sub, ab, col, dd, k0, k1, k2, k3, k5, mN, hC, hN, hni, T⟩ := O.obj
  have hp : (backTo cpos (starEach [e] (envOfC qual scope s.heap.objs.size f cd))).any (·.1) = false := by rw [he]; rfl
  refine wpAny_Raise_call_subU (C := C) (nm := nm) (q := q) (N := N') (bs := bs) (bm := tl) (hdct := hdct) (sn := sn) (sub := sub) (ab := ab) (col := col) (dd := dd) (k0 := k0) (k1 := k1) (k2 := k2) (k3 := k3) (k5 := k5)
    Fn hBn FB (mN := mN) (T.hasType FB.hasBase) (I.ok.hd rfl) hp hni (ld_glob I hg O.bound ⟨rfl, ?_⟩ hd)
  have h2 := ha cpos pins s1 σ H1 _ I hw
  have he' : starEach [e] (cxOf (CX1 P w) P w K mg base N qual scope f cd A outer s H E).env = [(false, eval e (cxOf (CX1 P w) P w K mg base N qual scope f cd A outer s H E).env)] := he
  rw [he'] at h2 ⊢
  refine Calls.evalArgs_plain (thn h2 fun us s2 ⟨vs, H2, I2, r, hl, hE⟩ => ⟨rfl, by rw [← r.length]; exact hl, I2.bk _ _ hC, hN.keeps I2.bk, T.keeps I2.bk, fun h' ea hx => ?_⟩)
  have hin : ∀ env ∈ (cxOf (CX1 P w) P w K mg base N qual scope f cd A outer s H E).stack, ∀ b, env.frame = some b → b ∈ frs (cxOf (CX1 P w) P w K mg base N qual scope f cd A outer s H E).stack := fun env he b hb => List.mem_filterMap.mpr ⟨env, he, hb⟩
  exact wpAny_leaves_madeW (base := hideAll s2.heap (frs (cxOf (CX1 P w) P w K mg base N qual scope f cd A outer s H E).stack)) (h := s2.heap) I2.ok.frames rfl (fun b o q => of_hideAll _ q) (funFrames_hide I2.stack hin) hx fun h'' t' fl _ _ sl =>
    ⟨ea, .ref C, .ref t', _, H2, rfl, Lies.made I2 rfl rfl rfl hx fl sl, hE⟩
end
end L2

namespace L2
open PySem PySem.Spec PyProof.Rows PySem.W
theorem ObjOk.there {P : Program} {w : World} {H : Hp} {h : Heap} {a : Addr} {o : HO} (x : ObjOk P w H h a o) : ∃ ob, h.get? a = some ob := by
  cases o with
  | lst xs => obtain ⟨_, _, _, _, e⟩ := x; exact ⟨_, e⟩
  | tup xs => obtain ⟨_, _, _, _, e, _⟩ := x; exact ⟨_, e⟩
  | dK kvs => obtain ⟨_, _, _, _, o, _, _, e, _⟩ := x; exact ⟨_, e⟩
  | dT kvs => obtain ⟨_, _, _, _, o, _, _, e, _⟩ := x; exact ⟨_, e⟩
  | set S n => obtain ⟨o, _, _, _, e, _⟩ := x; exact ⟨_, e⟩
  | ins C dx fs => obtain ⟨_, _, _, e, _⟩ := x; exact ⟨_, e⟩
  | own y => obtain ⟨_, e⟩ := x; exact ⟨_, e⟩
  | xd fs => obtain ⟨_, ⟨_, _, _, e, _⟩, _⟩ := x; exact ⟨_, e⟩
  | rng lo hi => obtain ⟨_, _, _, e⟩ := x; exact ⟨_, e⟩
  | frz ob u => obtain ⟨e, _⟩ := x; exact ⟨_, e⟩
  | tbl ps => exact ⟨_, (show h.get? a = some _ from x)⟩
  | met f y => exact ⟨_, (show h.get? a = some _ from x)⟩
  | ext φ => obtain ⟨_, e, _⟩ := x; exact e
/-- an exception's object, caught: its class -/
def ExAt (cls : Value) (a : Addr) (h : Heap) : Prop := ∃ o, h.get? a = some o ∧ o.cls = cls
theorem ExAt.ok {P : Program} {w : World} {H : Hp} {h : Heap} {a : Addr} {cls : Value} (x : ExAt cls a h) : ObjOk P w H h a (.ext (ExAt cls a)) :=
  ⟨x, let ⟨o, e, _⟩ := x; ⟨o, e⟩, fun _ _ ⟨o, e, c⟩ k => ⟨o, k o e, c⟩⟩
/-- the context with another exception wish, more pins, within an except suite -/
abbrev Cx.try' (X : Cx) (pn : List (Addr × Obj)) (xe : Value → Shared → Prop) : Cx := { X with pn := pn, xe := xe }
abbrev Cx.mark' (X : Cx) (e : Value) : Cx := { X with A := X.A.mark (some e), calm := false, xe := fun _ _ => False }
section
variable {X : Cx} {pins pins' : List (Addr × Obj)} {σ : St} {H H' : Hp} {s s' : Shared} {xe : Value → Shared → Prop}
theorem Cx.Ok.try' (ok : X.Ok) {pn : List (Addr × Obj)} : (X.try' pn xe).Ok :=
  ⟨ok.mod, ok.kind, ok.glob, ok.blt, ok.above, ok.inj, ok.has, ok.cab, ok.hd, ok.frames, ok.stk, ok.exf, ok.bs, ok.bsz, ok.noex, ok.exfs, ok.funs, ok.frf⟩
theorem Cx.Ok.untry {pn : List (Addr × Obj)} (ok : (X.try' pn xe).Ok) : X.Ok :=
  ⟨ok.mod, ok.kind, ok.glob, ok.blt, ok.above, ok.inj, ok.has, ok.cab, ok.hd, ok.frames, ok.stk, ok.exf, ok.bs, ok.bsz, ok.noex, ok.exfs, ok.funs, ok.frf⟩
theorem Inv.try' (I : Inv X pins σ H s) (xe : Value → Shared → Prop) : Inv (X.try' (X.pn ++ pins) xe) [] σ H s :=
  ⟨I.ok.try', I.os, I.bare, I.base, I.loc, I.cell, I.free, I.freeC, fun p hp => I.pin p (by simpa using hp), I.hok, I.len⟩
theorem Inv.untry (I : Inv (X.try' (X.pn ++ pins) xe) pins' σ H s) : Inv X pins σ H s :=
  ⟨I.ok.untry, I.os, I.bare, I.base, I.loc, I.cell, I.free, I.freeC, fun p hp => I.pin p (List.mem_append_left _ hp), I.hok, I.len⟩
theorem Inv.mark' (I : Inv X pins σ H s) (e : Value) : Inv (X.mark' e) pins σ H s :=
  ⟨⟨I.ok.mod, I.ok.kind, I.ok.glob, I.ok.blt, I.ok.above, I.ok.inj, I.ok.has, I.ok.cab, fun z => (by cases z), I.ok.frames, I.ok.stk, I.ok.exf, I.ok.bs, I.ok.bsz, I.ok.noex, I.ok.exfs, I.ok.funs, I.ok.frf⟩, I.os, I.bare, I.base, I.loc, I.cell, I.free, I.freeC, I.pin, I.hok, I.len⟩
theorem Inv.unmark {e : Value} (I : Inv (X.mark' e) pins σ H s) (hd : X.calm = true → X.A.handled = none) : Inv X pins σ H s :=
  ⟨⟨I.ok.mod, I.ok.kind, I.ok.glob, I.ok.blt, I.ok.above, I.ok.inj, I.ok.has, I.ok.cab, hd, I.ok.frames, I.ok.stk, I.ok.exf, I.ok.bs, I.ok.bsz, I.ok.noex, I.ok.exfs, I.ok.funs, I.ok.frf⟩, I.os, I.bare, I.base, I.loc, I.cell, I.free, I.freeC, I.pin, I.hok, I.len⟩
theorem SP.untry {D : Ends} {f : Flow} {pins' : List (Addr × Obj)} (h : SP (X.try' (X.pn ++ pins) xe) pins' D f s') : SP X pins D f s' := by
  cases f with
  | next => obtain ⟨σ', H', I, q⟩ := h; exact ⟨σ', H', I.untry, q⟩
  | brk => obtain ⟨σ', H', I, q⟩ := h; exact ⟨σ', H', I.untry, q⟩
  | cont => obtain ⟨σ', H', I, q⟩ := h; exact ⟨σ', H', I.untry, q⟩
  | ret u => obtain ⟨v, σ', H', I, r, q⟩ := h; exact ⟨v, σ', H', I.untry, r, q⟩
/-- the name behind 'as' goes -/
theorem gone_ok {A : Around} {E : Value → Shared → Prop} {M : Model} {i : Nat} {n : Str} {pos : Pos} {Q : Unit → Shared → Prop} (I : Inv X pins σ H s) (hN : X.N.Nodup) (hi : X.N[i]? = some n) (hl : X.env.kindOf n = some .local) (h : ∀ s', Inv X pins (σ.set i none) H s' → Q () s') :
    wpAny M A (do bindName X.env n .none; unbindBehindTheSuite X.env n pos) Q E s := by
  obtain ⟨m, hn, hlo⟩ := id I.loc
  have hcls : (X.env.scope.kind == .class || (X.env.scope.kind == .module && X.env.locals != X.env.globals)) = false := by rw [I.ok.kind]; rfl
  refine wpAny_nameGoes_keeps hl hn hcls fun h' v hn' hs => ?_
  obtain ⟨oL, _, _, hoL, _⟩ := id hn
  refine h _ ⟨I.ok, I.os, I.bare, ⟨fun b o e n hb hx => ?_, fun b o e n hb hx => ?_, I.base.free, fun b o e hx => ?_, I.base.tups, I.base.frzs, I.base.tbls⟩, ⟨_, hn', fun j y v' e1 e2 e3 => ?_⟩, fun y c e => ?_, I.free, I.freeC, fun p hp => ?_, fun b ob e => ?_, by simpa using I.len⟩
  · exact (hs.2 b (Nat.ne_of_lt (Nat.lt_of_lt_of_le (Heap.lt_size e) I.ok.above))).trans (I.base.keep b o e n hb hx)
  · obtain ⟨sl, e1⟩ := I.base.slot b o e n hb hx
    exact ⟨sl, (hs.2 b (Nat.ne_of_lt (Nat.lt_of_lt_of_le (Heap.lt_size e) I.ok.above))).trans e1⟩
  · obtain ⟨o', e1⟩ := I.base.there b o e hx
    exact ⟨o', (hs.2 b (Nat.ne_of_lt (Nat.lt_of_lt_of_le (Heap.lt_size e) I.ok.above))).trans e1⟩
  · by_cases hj : j = i
    · subst hj
      have hiσ : j < σ.length := by rw [I.len]; exact (List.getElem?_eq_some_iff.mp hi).1
      rw [List.getElem?_set_self hiσ] at e2
      cases e2
    · rw [List.getElem?_set_ne (Ne.symm hj)] at e2
      obtain ⟨u', r', q⟩ := hlo j y v' e1 e2 e3
      refine ⟨u', r', ?_⟩
      rcases q with ⟨k, e⟩ | ⟨k, c, e, z⟩
      · refine .inl ⟨k, ?_⟩
        have : y ≠ n := fun e => hj (nodup_ix hN e1 (e ▸ hi))
        simp [this, e]
      · exact .inr ⟨k, c, e, z.sameBut hs (I.cne y c e)⟩
  · obtain ⟨w', z⟩ := I.cell y c e
    exact ⟨w', z.sameBut hs (I.cne y c e)⟩
  · obtain ⟨e, n, ne, nf, d⟩ := I.pin p hp
    exact ⟨(hs.2 p.1 ne).trans e, n, ne, nf, d⟩
  · refine (I.hok b ob e).stay (fun c w' hc q => (hs.2 c ?_).trans q) (fun _ q => q) fun _ _ q => q
    rintro rfl
    rcases hc with rfl | hc
    · rw [I.free] at e; cases e
    · rw [I.free] at hc; cases hc
end
section
variable {prog : Program} {w : World} {A : Around} {E : Value → Shared → Prop} {s : Shared} {env : Env}
/-- a handler whose class matches, by the module's own facts -/
theorem handleBy_K {K : Frag} {e : Addr} {cls c : Value} {t : Expr} {n : Str} {b₀ : Stmt} {suite : List Stmt} {pos : Pos} {rest : List ExceptHandler} {Q : Flow → Shared → Prop} (hx : exmOne K cls c = some true)
    (h : wpAny (model prog w) (A.mark (some (.ref e))) (eval t env) (fun v s₁ => v = c ∧ K.In s₁.heap ∧ (∃ oe, s₁.heap.get? e = some oe ∧ oe.cls = cls) ∧
      wpAny (model prog w) (A.mark (some (.ref e))) (setFlight (.ref e) none) (fun _ s₂ =>
          wpAny (model prog w) (A.mark (some (.ref e))) (storeName env n (.ref e)) (fun _ s₃ =>
            wpAny (model prog w) (A.mark (some (.ref e))) (execs (b₀ :: suite) env)
              (fun f s₄ => wpAny (model prog w) A (do bindName env n .none; unbindBehindTheSuite env n pos) (fun _ s₅ => Q f s₅) E s₄)
              (fun _ _ => False) s₃) (fun _ _ => False) s₂) (fun _ _ => False) s₁) (fun _ _ => False) s) :
    wpAny (model prog w) A (handleBy (.ref e) env (.ExceptHandler (some t) (some n) (b₀ :: suite) pos :: rest)) Q E s := by
  refine wpAny_handleBy_cons (codeAny_handlers_test (wpAny_mono h (fun v s₁ h₁ => ?_) fun _ _ y => y.elim)) (by intro q; cases q)
  obtain ⟨rfl, X, ⟨oe, he, hcls⟩, hk⟩ := h₁
  have LT : Looks (model prog w) s₁.heap (typeOf (.ref e)) cls := by
    rw [← hcls]
    exact (Looks.ld he).andThen .now
  refine (exm_one X LT hx) _ _ _ _ (fun b o q => q) (codeAny_handlers_suite_as ?_)
  exact wpAny_mono hk (fun _ s₂ h₂ => wpAny_mono h₂ (fun _ s₃ h₃ => wpAny_mono h₃ (fun _ _ y => y) fun _ _ y => y.elim) fun _ _ y => y.elim) fun _ _ y => y.elim
end
end L2

namespace L2
open PySem PySem.Spec PyProof.Rows PySem.W
section
variable {X : Cx} {pins : List (Addr × Obj)} {σ : St} {H H' : Hp} {s s' : Shared} {ea : Addr} {cls a0 : Value} {B : Heap} {h3 : Heap}
/-- caught: this frame goes on, the exception is a thing -/
theorem Inv.caught (I : Inv X pins σ H s) (L : Lies X.prog X.w X.stack H s s' ea cls a0 B H') (fl : Heap.FlyingW B X.stack ea cls a0 h3) (sl : s'.heap.UpToSlots h3) : Inv X pins σ H' { s' with heap := h3 } :=
  have L3 := L.on I.frNf fl sl
  I.call' (ch := []) L3.os L3.un (L.hok.kept fl.1) L3.bare (fun b z => absurd z (by simp))
theorem Lies.fresh {P : Program} {w : World} {outer : List Env} (L : Lies P w outer H s s' ea cls a0 B H') : H' ea = none := by
  cases q : H' ea with
  | none => rfl
  | some o =>
    obtain ⟨ob, e⟩ := (L.hok ea o q).there
    have := L.fly.2.1
    rw [e] at this; cases this
theorem Inv.caughtX (I : Inv X pins σ H s) (L : Lies X.prog X.w X.stack H s s' ea cls a0 B H') (fl : Heap.FlyingW B X.stack ea cls a0 h3) (sl : s'.heap.UpToSlots h3) : Inv X pins σ (upd H' ea (.ext (ExAt cls ea))) { s' with heap := h3 } := by
  have L3 := L.on I.frNf fl sl
  have hfree := L.fresh
  obtain ⟨oe, vs, he, hc, hd, _⟩ := fl.first
  have hne : ∀ b o, s.heap.get? b = some o → b ≠ ea := fun b o e z => by
    subst z
    by_cases hb : b ∈ frs X.stack
    · obtain ⟨n, o2, e2, nf⟩ := I.frNf b hb
      obtain ⟨sl1, e3⟩ := L3.un.slot b o2 e2 n hb (by simp)
      have e3 : h3.get? b = some { o2 with slots := sl1 } := e3
      rw [he] at e3; cases e3
      exact nf vs hd
    · obtain ⟨o', e'⟩ := (L.inB b o e hb).2
      have := L.fly.2.1
      rw [e'] at this; cases this
  have nt : ∀ b u, H' b = some u → b ≠ ea := fun b u e z => by rw [z, hfree] at e; cases e
  refine I.call' (ch := []) L3.os ⟨L3.un.keep, L3.un.slot, fun b o e n hx => ?_, L3.un.there, fun b xs e => ?_, fun b o xs e => ?_, fun b ps e => ?_⟩ ?_ L3.bare (fun b z => absurd z (by simp))
  · rw [upd_ne (hne b o e)]; exact L3.un.free b o e n hx
  · have := L3.un.tups b xs e
    rw [upd_ne (nt b _ this)]; exact this
  · have := L3.un.frzs b o xs e
    rw [upd_ne (nt b _ this)]; exact this
  · obtain ⟨m, this⟩ := L3.un.tbls b ps e
    exact ⟨m, by rw [upd_ne (nt b _ this)]; exact this⟩
  · intro b u e
    by_cases hb : b = ea
    · subst hb
      rw [upd_same] at e; cases e
      exact ExAt.ok ⟨oe, he, hc⟩
    · rw [upd_ne hb] at e
      exact ((L.hok.kept fl.1) b u e).stay (fun _ _ _ q => q) (fun c q => by rw [upd_ne (nt c _ q)]; exact q) fun c xs q => by rw [upd_ne (nt c _ q)]; exact q
end
/-- try: body, except c as n: y = n -/
theorem ps_try1 {X : Cx} {tb : XK → TS} {body : List Stmt} {c n y : Str} {C : Addr} {cp np yp hp apos pos : Pos} {i k : Nat}
    (hX : X.stack = X.env :: X.outer) (hf : X.env.frame = some X.env.locals) (hN : X.N.Nodup)
    (hi : X.N[i]? = some n) (hl : X.env.scope.names.lookup n = some .local) (hk : X.N[k]? = some y) (hy : X.env.scope.names.lookup y = some .local)
    (hg : Gl X c) (hm : X.mg c = some (.ref C))
    (hb : ∀ (E' : XK) (pn : List (Addr × Obj)) (xe : Value → Shared → Prop), Passes (CX1 X.prog X.w) (X.try' pn xe) E' → PSs (X.try' pn xe) body (tb E'))
    (hs : swapsWith (.Name n np) (some (.Name y yp)) apos.line X.env = pure false := by rfl)
    (hdc : (c == ("__debug__" : Str)) = false := by decide) (hdn : (n == ("__debug__" : Str)) = false := by decide) (hcd : (n == ("__classdict__" : Str)) = false := by decide) :
    PS X (.Try body [.ExceptHandler (some (.Name c cp)) (some n) [.Assign [.Name y yp] (.Name n np) apos] hp] [] [] pos)
      (fun D σ H => ∃ E' : XK, (∀ (cls : Value) (d : Option Addr) (H' : Hp) (ea : Addr) (σ' : St), E' cls d H' → exmOne X.K cls (.ref C) = some true ∧ (H' ea = none → σ'.length = X.N.length → D.nx (((σ'.set i (some (.ref ea))).set k (some (.ref ea))).set i none) (upd H' ea (.ext (ExAt cls ea))))) ∧ tb E' D σ H) := by
  intro pins s σ H D I ⟨E', hE, hw⟩
  have pass : Passes (CX1 X.prog X.w) (X.try' (X.pn ++ pins) fun e s1 => wpAny (model X.prog X.w) X.A (noteFrame e X.env) (fun _ s2 => wpAny (model X.prog X.w) X.A (setFlight e none) (fun _ s3 => wpAny (model X.prog X.w) X.A (handleBy e X.env [.ExceptHandler (some (.Name c cp)) (some n) [.Assign [.Name y yp] (.Name n np) apos] hp]) (SP X pins D) X.xe s3) X.xe s2) X.xe s1) E' := by
    intro pins' σ' H1 s1 e s' I1 ⟨ea, cls, a0, B, H', he, L, hw'⟩
    subst he
    have I0 : Inv X pins σ' H1 s1 := I1.untry
    have L : Lies X.prog X.w X.stack H1 s1 s' ea cls a0 B H' := L
    have fr : X.A.frames = some (X.env :: X.outer) := by rw [← hX]; exact I0.ok.frames
    show wpAny (model X.prog X.w) X.A (noteFrame (.ref ea) X.env) _ _ s'
    refine wpAny_looks_onW (base := B) fr hf (hX ▸ L.fly) fun h1 held sl1 => ?_
    refine wpAny_landsW held fun h2 fl2 sl2 => ?_
    rw [← hX] at fl2
    have sl12 : s'.heap.UpToSlots h2 := sl1.trans sl2
    have I2 := I0.caught L fl2 sl12
    obtain ⟨hm1, hD⟩ := hE cls none H' ea σ' hw'
    refine handleBy_K hm1 ?_
    refine ld_glob (X := X.mark' (.ref ea)) (I2.mark' (.ref ea)) hg hm ⟨rfl, I2.kIn, fl2.there, ?_⟩ hdc
    refine lands_againW fl2 fun h3 fl3 sl3 => ?_
    have I3 := I0.caughtX L fl3 (sl12.trans sl3)
    have hlen : σ'.length = X.N.length := I0.len
    refine store_ok (X := X.mark' (.ref ea)) (I3.mark' _) hN hi (.inl hl) (v := .ref ea) rfl (fun s4 I4 => ?_) (.inr hl)
    have hiσ : i < σ'.length := by rw [hlen]; exact (List.getElem?_eq_some_iff.mp hi).1
    have hs1 := pss_one (ps_set (X := X.mark' (.ref ea)) (pos := apos) (pos' := yp) hN hk (.inl hy) (pe_var (pos := np) hi (.inl hl) hdn hcd) hs (.inr hy))
    have hr := hs1 pins s4 _ _ { nx := fun σ5 H5 => σ5 = (σ'.set i (some (.ref ea))).set k (some (.ref ea)) ∧ H5 = upd H' ea (.ext (ExAt cls ea)), rt := fun _ _ => False } I4 ⟨.ref ea, List.getElem?_set_self hiσ, rfl, rfl⟩
    refine wpAny_mono hr (fun f s5 h5 => ?_) fun _ _ z => z
    cases f with
    | next =>
      obtain ⟨σ5, H5, I5, rfl, rfl⟩ := h5
      refine gone_ok (X := X) (I5.unmark I.ok.hd) hN hi hl fun s6 I6 => ?_
      exact ⟨_, _, I6, hD L.fresh hlen⟩
    | brk => obtain ⟨_, _, _, z⟩ := h5; exact z.elim
    | cont => obtain ⟨_, _, _, z⟩ := h5; exact z.elim
    | ret u => obtain ⟨_, _, _, _, _, z⟩ := h5; exact z.elim
  have hr := hb E' (X.pn ++ pins) _ pass [] s σ H D (I.try' _) hw
  refine wpAny_Try_except (wpAny_mono hr (fun f s1 h1 => ?_) fun _ _ z => z)
  have h1 := h1.untry
  cases f with
  | next => exact wpAny_execs_nil h1
  | brk => exact h1
  | cont => exact h1
  | ret u => exact h1
end L2

/-! PLAIN VALUES over the hand layer: what a def does, as a function of plain trees -/
namespace L2
open PySem PySem.Spec PyProof.Rows
theorem PE.imp {X : Cx} {e : Expr} {t t' : TE} (h : PE X e t) (i : ∀ σ H Q, t' σ H Q → t σ H Q) : PE X e t' := fun pins s σ H Q I q => h pins s σ H Q I (i σ H Q q)
theorem PT.imp {X : Cx} {e : Expr} {t t' : TT} (h : PT X e t) (i : ∀ σ H Q, t' σ H Q → t σ H Q) : PT X e t' := fun pins s σ H Q I q => h pins s σ H Q I (i σ H Q q)
theorem PA.imp {X : Cx} {e : List Expr} {t t' : TA} (h : PA X e t) (i : ∀ σ H Q, t' σ H Q → t σ H Q) : PA X e t' := fun pos pins s σ H Q I q => h pos pins s σ H Q I (i σ H Q q)
theorem PS.imp {X : Cx} {e : Stmt} {t t' : TS} (h : PS X e t) (i : ∀ D σ H, t' D σ H → t D σ H) : PS X e t' := fun pins s σ H D I q => h pins s σ H D I (i D σ H q)
theorem PSs.imp {X : Cx} {e : List Stmt} {t t' : TS} (h : PSs X e t) (i : ∀ D σ H, t' D σ H → t D σ H) : PSs X e t' := fun pins s σ H D I q => h pins s σ H D I (i D σ H q)
end L2
namespace PV
open PySem
def noStar : Expr → Bool
  | .Starred _ _ => false
  | _ => true
theorem star_cons {e : Expr} {rest : List Expr} {env : Env} (h : noStar e = true) : starEach (e :: rest) env = (false, eval e env) :: starEach rest env := by
  cases e <;> first | rfl | cases h
theorem st2 {a b : Expr} {env : Env} (h : noStar a = true) (h' : noStar b = true) : starEach [a, b] env = [(false, eval a env), (false, eval b env)] := by
  rw [star_cons h, star_cons h']; rfl
theorem st1 {a : Expr} {env : Env} (h : noStar a = true) : starEach [a] env = [(false, eval a env)] := by
  rw [star_cons h]; rfl
theorem back_any {pos : Pos} {env : Env} : ∀ {es : List Expr}, es.all noStar = true → ((backTo pos (starEach es env)).any fun x => x.fst) = false
  | [], _ => rfl
  | e :: es, h => by
    rw [List.all_cons, Bool.and_eq_true] at h
    rw [star_cons h.1]
    have := back_any (pos := pos) (env := env) h.2
    show (false || ((backTo pos (starEach es env)).any fun x => x.fst)) = false
    rw [this]; rfl
open PySem PySem.Spec PyProof.Rows L2


abbrev Sg := L2.St

inductive T where
  | non | bl (b : Bool) | int (i : Int) | str (x : Str) | tup (xs : List T) | lst (xs : List T) | fz (xs : List T)

/-- what comes of an expression -/
inductive R (α : Type) where
  | ok (a : α) | ex (c : Nat) | bad
def R.bind {α β : Type} (r : R α) (f : α → R β) : R β := match r with
  | .ok a => f a
  | .ex c => .ex c
  | .bad => .bad

mutual
inductive Rep (H : Hp) : V → T → Prop where
  | non : Rep H .non .non
  | bl (b : Bool) : Rep H (.bl b) (.bl b)
  | int (i : Int) : Rep H (.int i) (.int i)
  | str (x : Str) : Rep H (.str x) (.str x)
  | tup {a : Addr} {xs : List V} {ts : List T} : H a = some (.tup xs) → Reps H xs ts → Rep H (.ref a) (.tup ts)
  | lst {a : Addr} {xs : List V} {ts : List T} : H a = some (.lst xs) → Reps H xs ts → Rep H (.ref a) (.lst ts)
  | fz {a : Addr} {o : Obj} {xs : List V} {ts : List T} : H a = some (.frz o (.lst xs)) → Reps H xs ts → Rep H (.ref a) (.fz ts)
inductive Reps (H : Hp) : List V → List T → Prop where
  | nil : Reps H [] []
  | cons {v : V} {t : T} {vs : List V} {ts : List T} : Rep H v t → Reps H vs ts → Reps H (v :: vs) (t :: ts)
end

mutual
theorem Rep.mono {H H' : Hp} (s : Same H H') : ∀ {v : V} {t : T}, Rep H v t → Rep H' v t
  | _, _, .non => .non
  | _, _, .bl b => .bl b
  | _, _, .int i => .int i
  | _, _, .str x => .str x
  | _, _, .tup h r => .tup (s _ _ h) (Reps.mono s r)
  | _, _, .lst h r => .lst (s _ _ h) (Reps.mono s r)
  | _, _, .fz h r => .fz (s _ _ h) (Reps.mono s r)
theorem Reps.mono {H H' : Hp} (s : Same H H') : ∀ {v : List V} {t : List T}, Reps H v t → Reps H' v t
  | _, _, .nil => .nil
  | _, _, .cons h r => .cons (Rep.mono s h) (Reps.mono s r)
end
theorem Reps.length {H : Hp} : ∀ {vs : List V} {ts : List T}, Reps H vs ts → vs.length = ts.length
  | _, _, .nil => rfl
  | _, _, .cons _ r => congrArg (· + 1) (Reps.length r)
theorem Reps.get {H : Hp} : ∀ {vs : List V} {ts : List T} {i : Nat} {t : T}, Reps H vs ts → ts[i]? = some t → ∃ v, vs[i]? = some v ∧ Rep H v t
  | _, _, _, _, .nil, e => by simp at e
  | _, _, 0, _, .cons r _, e => by simp at e; subst e; exact ⟨_, rfl, r⟩
  | _, _, i + 1, t, .cons _ q, e => by
    obtain ⟨v, h1, h2⟩ := Reps.get (i := i) (t := t) q (by simpa using e)
    exact ⟨v, by simpa using h1, h2⟩
theorem Reps.getV {H : Hp} : ∀ {vs : List V} {ts : List T} {i : Nat} {v : V}, Reps H vs ts → vs[i]? = some v → ∃ t, ts[i]? = some t ∧ Rep H v t
  | _, _, _, _, .nil, e => by simp at e
  | _, _, 0, _, .cons r _, e => by simp at e; subst e; exact ⟨_, rfl, r⟩
  | _, _, i + 1, v, .cons _ q, e => by
    obtain ⟨t, h1, h2⟩ := Reps.getV (i := i) (v := v) q (by simpa using e)
    exact ⟨t, by simpa using h1, h2⟩
theorem Reps.append {H : Hp} : ∀ {vs ws : List V} {ts us : List T}, Reps H vs ts → Reps H ws us → Reps H (vs ++ ws) (ts ++ us)
  | _, _, _, _, .nil, q => q
  | _, _, _, _, .cons r t, q => .cons r (Reps.append t q)
theorem Reps.take {H : Hp} : ∀ {vs : List V} {ts : List T} (n : Nat), Reps H vs ts → Reps H (vs.take n) (ts.take n)
  | _, _, 0, _ => .nil
  | _, _, _ + 1, .nil => .nil
  | _, _, n + 1, .cons r t => .cons r (Reps.take n t)
theorem Reps.drop {H : Hp} : ∀ {vs : List V} {ts : List T} (n : Nat), Reps H vs ts → Reps H (vs.drop n) (ts.drop n)
  | _, _, 0, r => r
  | _, _, _ + 1, .nil => .nil
  | _, _, n + 1, .cons _ t => Reps.drop n t
theorem Reps.rep {H : Hp} {vs : List V} {ts : List T} (h : Reps H vs ts) : ∀ n : Nat, Reps H (List.replicate n vs).flatten (List.replicate n ts).flatten
  | 0 => .nil
  | n + 1 => by
    rw [List.replicate_succ, List.replicate_succ, List.flatten_cons, List.flatten_cons]
    exact h.append (Reps.rep h n)
theorem Reps.nil_iff {H : Hp} {vs : List V} {ts : List T} (h : Reps H vs ts) : vs = [] ↔ ts = [] := by
  cases h <;> simp

/-! ### growth -/
/-- B with all that came between H and H' -/
def Grow (B H H' : Hp) : Hp := fun b => match H b with
  | none => H' b
  | some _ => B b
theorem Grow_n {B H H' : Hp} {b : Addr} (h : H b = none) : Grow B H H' b = H' b := by unfold Grow; rw [h]
theorem Grow_s {B H H' : Hp} {b : Addr} {o : HO} (h : H b = some o) : Grow B H H' b = B b := by unfold Grow; rw [h]
theorem Grow.ge {B H H' : Hp} (s : Same B H) (s' : Same H H') : Same B (Grow B H H') := fun b o h => by
  rw [Grow_s (s b o h)]; exact h
theorem Grow.le {B H H' : Hp} (s : Same B H) (s' : Same H H') : Same (Grow B H H') H' := fun b o h => by
  cases q : H b with
  | none => rw [Grow_n q] at h; exact h
  | some u => rw [Grow_s q] at h; exact s' b o (s b o h)
theorem Grow.self (B H : Hp) (s : Same B H) : Grow B H H = B := by
  funext b
  cases q : H b with
  | none =>
    rw [Grow_n q, q]
    cases z : B b with
    | none => rfl
    | some o => rw [s b o z] at q; cases q
  | some u => rw [Grow_s q]
theorem Grow.trans {B H H1 H2 : Hp} (s1 : Same H H1) (s2 : Same H1 H2) : Grow (Grow B H H1) H1 H2 = Grow B H H2 := by
  funext b
  cases q : H b with
  | none =>
    rw [Grow_n q]
    cases z : H1 b with
    | none => rw [Grow_n z]
    | some o => rw [Grow_s z, Grow_n q, z, s2 b o z]
  | some u => rw [Grow_s q, Grow_s (s1 b u q), Grow_s q]

/-! ### the frame -/
inductive Sl where
  | un | vl (t : T) | ow (ts : List T) | xc (c : Nat)
abbrev En := List Sl
/-- the entry of a body, what is wanted of an exception, the classes of the exceptions -/
structure Fx where
  B0 : Hp
  H0 : Hp
  E : XK
  cl : Nat → Value
structure SI (Y : Fx) (B : Hp) (ρ : En) (σ : Sg) (H : Hp) : Prop where
  s0 : Same Y.B0 Y.H0
  sH : Same Y.H0 H
  sB : Same B H
  old : ∀ b o, Y.H0 b = some o → B b = Y.B0 b
  len : ρ.length = σ.length
  vl : ∀ (i : Nat) (t : T), ρ[i]? = some (Sl.vl t) → ∃ v : V, σ[i]? = some (some v) ∧ Rep B v t
  ow : ∀ (i : Nat) (ts : List T), ρ[i]? = some (Sl.ow ts) → ∃ (a : Addr) (xs : List V), σ[i]? = some (some (V.ref a)) ∧ B a = none ∧ Y.H0 a = none ∧ H a = some (.lst xs) ∧ Reps B xs ts ∧
    ∀ (j : Nat) (us : List T), j ≠ i → ρ[j]? = some (Sl.ow us) → σ[j]? ≠ some (some (V.ref a))
  xc : ∀ (i : Nat) (c : Nat), ρ[i]? = some (Sl.xc c) → ∃ a : Addr, σ[i]? = some (some (V.ref a)) ∧ B a = some (.ext (ExAt (Y.cl c) a))
theorem SI.grow {Y : Fx} {B : Hp} {ρ : En} {σ : Sg} {H H' : Hp} (I : SI Y B ρ σ H) (s : Same H H') : SI Y (Grow B H H') ρ σ H' where
  s0 := I.s0
  sH := I.sH.trans s
  sB := Grow.le I.sB s
  old := fun b o h => by rw [Grow_s (I.sH b o h)]; exact I.old b o h
  len := I.len
  vl := fun i t h => let ⟨v, e, r⟩ := I.vl i t h; ⟨v, e, r.mono (Grow.ge I.sB s)⟩
  ow := fun i ts h => let ⟨a, xs, e, b, h0, hh, r, d⟩ := I.ow i ts h; ⟨a, xs, e, by rw [Grow_s hh]; exact b, h0, s _ _ hh, r.mono (Grow.ge I.sB s), d⟩
  xc := fun i c h => let ⟨a, e, r⟩ := I.xc i c h; ⟨a, e, Grow.ge I.sB s a _ r⟩
/-- what comes of an exception -/
def XP (Y : Fx) (B : Hp) (c : Nat) : Prop := ∀ (d : Option Addr) (H' : Hp), Same Y.H0 H' → Same B H' → Y.E (Y.cl c) d H'
/-- what is known of a result; rel: over what stays, over all -/
def Po {α β : Type} (Y : Fx) (rel : Hp → Hp → β → α → Prop) (B H : Hp) (r : R α) (Q : β → Hp → Prop) : Prop := match r with
  | .ok a => ∀ b H', Same H H' → rel (Grow B H H') H' b a → Q b H'
  | .ex c => XP Y B c
  | .bad => False
abbrev rC : Hp → Hp → V → T → Prop := fun B _ v t => Rep B v t
abbrev rB : Hp → Hp → V → T → Prop := fun _ H v t => Rep H v t
abbrev rCs : Hp → Hp → List V → List T → Prop := fun B _ v t => Reps B v t
abbrev rE {α : Type} : Hp → Hp → α → α → Prop := fun _ _ a b => a = b
def tS {α β : Type} (Y : Fx) (rel : Hp → Hp → β → α → Prop) (f : En → R α) (ρ : En) : Sg → Hp → (β → Hp → Prop) → Prop := fun σ H Q => ∃ B, SI Y B ρ σ H ∧ Po Y rel B H (f ρ) Q
/-- an expression does f; as one that is looked at alone; a test; arguments -/
structure Snd (X : Cx) (Y : Fx) (e : Expr) (f : En → R T) : Prop where
  mk ::
  go : ∀ ρ, PE X e (tS Y rC f ρ)
instance {X : Cx} {Y : Fx} {e : Expr} {f : En → R T} : CoeFun (Snd X Y e f) fun _ => ∀ ρ, PE X e (tS Y rC f ρ) := ⟨Snd.go⟩
structure SndB (X : Cx) (Y : Fx) (e : Expr) (f : En → R T) : Prop where
  mk ::
  go : ∀ ρ, PE X e (tS Y rB f ρ)
instance {X : Cx} {Y : Fx} {e : Expr} {f : En → R T} : CoeFun (SndB X Y e f) fun _ => ∀ ρ, PE X e (tS Y rB f ρ) := ⟨SndB.go⟩
structure SndT (X : Cx) (Y : Fx) (e : Expr) (f : En → R Bool) : Prop where
  mk ::
  go : ∀ ρ, PT X e (tS Y rE f ρ)
instance {X : Cx} {Y : Fx} {e : Expr} {f : En → R Bool} : CoeFun (SndT X Y e f) fun _ => ∀ ρ, PT X e (tS Y rE f ρ) := ⟨SndT.go⟩
structure SndA (X : Cx) (Y : Fx) (es : List Expr) (f : En → R (List T)) : Prop where
  mk ::
  go : ∀ ρ, PA X es (tS Y rCs f ρ)
instance {X : Cx} {Y : Fx} {es : List Expr} {f : En → R (List T)} : CoeFun (SndA X Y es f) fun _ => ∀ ρ, PA X es (tS Y rCs f ρ) := ⟨SndA.go⟩


/-- one part, then the rest: what the rest may lean on -/
theorem step {α α' β β' : Type} {Y : Fx} {rel : Hp → Hp → β → α → Prop} {rel' : Hp → Hp → β' → α' → Prop} {f : En → R α} {k : α → R α'} {ρ : En} {B : Hp} {σ : Sg} {H : Hp} {Q : β' → Hp → Prop} {K : β → Hp → Prop}
    (I : SI Y B ρ σ H) (h : Po Y rel' B H ((f ρ).bind k) Q)
    (n : ∀ a b H1, f ρ = .ok a → Same H H1 → rel (Grow B H H1) H1 b a → SI Y (Grow B H H1) ρ σ H1 → Po Y rel' (Grow B H H1) H1 (k a) Q → K b H1) : tS Y rel f ρ σ H K := by
  refine ⟨B, I, ?_⟩
  cases e : f ρ with
  | bad => rw [e] at h; exact h
  | ex c => rw [e] at h; exact h
  | ok a =>
    rw [e] at h
    intro b H1 s r
    refine n a b H1 e s r (I.grow s) ?_
    have h' : Po Y rel' B H (k a) Q := h
    revert h'
    cases k a with
    | bad => exact fun h' => h'
    | ex c => exact fun h' d H' s0 sB' => h' d H' s0 ((Grow.ge I.sB s).trans sB')
    | ok a' => exact fun h' b' H2 s2 r2 => h' b' H2 (s.trans s2) (by rw [← Grow.trans s s2]; exact r2)
/-- the end: a value over the present heap -/
theorem fin {α β : Type} {Y : Fx} {rel : Hp → Hp → β → α → Prop} {ρ : En} {B : Hp} {σ : Sg} {H H' : Hp} {a : α} {b : β} {Q : β → Hp → Prop} (I : SI Y B ρ σ H) (h : Po Y rel B H (.ok a) Q) (s : Same H H') (r : rel (Grow B H H') H' b a) : Q b H' := h b H' s r
theorem fin0 {α β : Type} {Y : Fx} {rel : Hp → Hp → β → α → Prop} {ρ : En} {B : Hp} {σ : Sg} {H : Hp} {a : α} {b : β} {Q : β → Hp → Prop} (I : SI Y B ρ σ H) (h : Po Y rel B H (.ok a) Q) (r : rel B H b a) : Q b H := h b H (Same.refl H) (by rw [Grow.self B H I.sB]; exact r)

theorem Snd.b {X : Cx} {Y : Fx} {e : Expr} {f : En → R T} (h : Snd X Y e f) : SndB X Y e f := .mk fun ρ => PE.imp (h ρ) fun σ H Q ⟨B, I, q⟩ => ⟨B, I, by
  revert q
  cases f ρ with
  | bad => exact fun q => q
  | ex c => exact fun q => q
  | ok a => exact fun q b H' s r => q b H' s (r.mono (Grow.le I.sB s))⟩

section
variable {X : Cx} {Y : Fx} {a b c : Expr} {fa fb fc : En → R T} {pos : Pos}
/-! ### names and constants -/
def vE (i : Nat) : En → R T := fun ρ => match ρ[i]? with
  | some (.vl t) => .ok t
  | _ => .bad
def vB (i : Nat) : En → R T := fun ρ => match ρ[i]? with
  | some (.vl t) => .ok t
  | some (.ow ts) => .ok (.lst ts)
  | _ => .bad
def cE (t : T) : En → R T := fun _ => .ok t
theorem s_var (i : Nat) {x : Str} (h : PE X (.Name x pos) (tVar i)) : Snd X Y (.Name x pos) (vE i) := .mk fun ρ => PE.imp h fun σ H Q ⟨B, I, q⟩ => by
  unfold vE at q
  split at q
  · rename_i t e
    obtain ⟨v, e1, r⟩ := I.vl i t e
    exact ⟨v, e1, fin0 I q r⟩
  · exact q.elim
theorem s_varB (i : Nat) {x : Str} (h : PE X (.Name x pos) (tVar i)) : SndB X Y (.Name x pos) (vB i) := .mk fun ρ => PE.imp h fun σ H Q ⟨B, I, q⟩ => by
  unfold vB at q
  split at q
  · rename_i t e
    obtain ⟨v, e1, r⟩ := I.vl i t e
    exact ⟨v, e1, fin0 I q (r.mono I.sB)⟩
  · rename_i ts e
    obtain ⟨a, xs, e1, _, _, hh, r, _⟩ := I.ow i ts e
    exact ⟨.ref a, e1, fin0 I q (.lst hh (r.mono I.sB))⟩
  · exact q.elim
theorem s_int {i j} : Snd X Y (.Constant (.int i) j pos) (cE (.int i)) := .mk fun ρ => PE.imp pe_int fun σ H Q ⟨B, I, q⟩ => fin0 I q (.int i)
theorem s_bl {i j} : Snd X Y (.Constant (.bool i) j pos) (cE (.bl i)) := .mk fun ρ => PE.imp pe_bl fun σ H Q ⟨B, I, q⟩ => fin0 I q (.bl i)
theorem s_non {j} : Snd X Y (.Constant .none j pos) (cE .non) := .mk fun ρ => PE.imp pe_non fun σ H Q ⟨B, I, q⟩ => fin0 I q .non
theorem s_str {i j} : Snd X Y (.Constant (.str i) j pos) (cE (.str i)) := .mk fun ρ => PE.imp pe_str fun σ H Q ⟨B, I, q⟩ => fin0 I q (.str i)

/-! ### arguments -/
def nilA : En → R (List T) := fun _ => .ok []
def consA (f : En → R T) (g : En → R (List T)) : En → R (List T) := fun ρ => (f ρ).bind fun t => (g ρ).bind fun ts => .ok (t :: ts)
theorem a_nil : SndA X Y [] nilA := .mk fun ρ => PA.imp pa_nil fun σ H Q ⟨B, I, q⟩ => fin0 I q .nil
theorem a_cons {es : List Expr} {g : En → R (List T)} (h : Snd X Y a fa) (hs : SndA X Y es g) (hq : starEach (a :: es) X.env = (false, eval a X.env) :: starEach es X.env := by exact star_cons rfl) : SndA X Y (a :: es) (consA fa g) := .mk fun ρ =>
  PA.imp (pa_cons (h ρ) (hs ρ) hq) fun σ H Q ⟨B, I, q⟩ => step I q fun t v H1 _ s1 r1 I1 q1 => step I1 q1 fun ts vs H2 _ s2 r2 I2 q2 => fin0 I2 q2 (.cons (r1.mono (Grow.ge I1.sB s2)) r2)

/-! ### displays -/
theorem Same.new {H : Hp} {p : Addr} (h : H p = none) (o : HO) : Same H (upd H p o) := fun b u q => by rw [upd_ne (ne_of_none q h)]; exact q
theorem Grow_at {B H : Hp} {p : Addr} (h : H p = none) (o : HO) : Grow B H (upd H p o) p = some o := by rw [Grow_n h, upd_same]
def bnd : Nat := 16777216
theorem bnd_le {n : Nat} (h : n ≤ bnd) : n ≤ sizeLine := by rw [sizeLine_eq]; exact h
def tupE (g : En → R (List T)) : En → R T := fun ρ => (g ρ).bind fun ts => if ts.length ≤ bnd then .ok (.tup ts) else .bad
def lstE (g : En → R (List T)) : En → R T := fun ρ => (g ρ).bind fun ts => if ts.length ≤ bnd then .ok (.lst ts) else .bad
theorem new_tup {ρ : En} {σ : Sg} {B H : Hp} {xs : List V} {ts : List T} (I : SI Y B ρ σ H) (r : Reps B xs ts) {p : Addr} (h : H p = none) : Rep (Grow B H (upd H p (.tup xs))) (.ref p) (.tup ts) :=
  .tup (Grow_at h _) (r.mono (Grow.ge I.sB (Same.new h _)))
theorem new_lst {ρ : En} {σ : Sg} {B H : Hp} {xs : List V} {ts : List T} (I : SI Y B ρ σ H) (r : Reps B xs ts) {p : Addr} (h : H p = none) : Rep (Grow B H (upd H p (.lst xs))) (.ref p) (.lst ts) :=
  .lst (Grow_at h _) (r.mono (Grow.ge I.sB (Same.new h _)))
theorem s_tup {es : List Expr} {g : En → R (List T)} {x1} (h : SndA X Y es g) : Snd X Y (.Tuple es x1 pos) (tupE g) := .mk fun ρ => PE.imp (pe_tup (h ρ)) fun σ H Q ⟨B, I, q⟩ =>
  step I q fun ts vs H1 _ s1 r1 I1 q1 => by
    split at q1
    · rename_i hb
      refine ⟨by rw [r1.length]; exact bnd_le hb, fun p hp => q1 _ _ (Same.new hp _) (new_tup I1 r1 hp)⟩
    · exact q1.elim
theorem s_lst {es : List Expr} {g : En → R (List T)} (h : SndA X Y es g) : Snd X Y (.List es pos) (lstE g) := .mk fun ρ => PE.imp (pe_lst (h ρ)) fun σ H Q ⟨B, I, q⟩ =>
  step I q fun ts vs H1 _ s1 r1 I1 q1 => by
    split at q1
    · rename_i hb
      refine ⟨by rw [r1.length]; exact bnd_le hb, fun p hp => q1 _ _ (Same.new hp _) (new_lst I1 r1 hp)⟩
    · exact q1.elim
end
end PV

namespace PV
open PySem PySem.Spec PyProof.Rows L2
/-! ### equality -/
def eqL (f : T → T → Option Bool) : List T → List T → Option Bool
  | [], [] => some true
  | [], _ :: _ => some false
  | _ :: _, [] => some false
  | x :: xs, y :: ys => match f x y with
    | none => none
    | some b => match eqL f xs ys with
      | none => none
      | some c => some (b && c)
def b2 (b : Bool) : Int := if b then 1 else 0
def eqF : Nat → T → T → Option Bool
  | _, .non, .non => some true
  | _, .bl a, .bl b => some (a == b)
  | _, .bl a, .int j => some (b2 a == j)
  | _, .int i, .bl b => some (i == b2 b)
  | _, .int i, .int j => some (i == j)
  | _, .str x, .str y => some (x == y)
  | n + 1, .tup xs, .tup ys => eqL (eqF n) xs ys
  | n + 1, .lst xs, .lst ys => eqL (eqF n) xs ys
  | n + 1, .fz xs, .lst ys => eqL (eqF n) xs ys
  | n + 1, .lst xs, .fz ys => eqL (eqF n) xs ys
  | n + 1, .fz xs, .fz ys => eqL (eqF n) xs ys
  | 0, .tup _, .tup _ => none
  | 0, .lst _, .lst _ => none
  | 0, .fz _, .lst _ => none
  | 0, .lst _, .fz _ => none
  | 0, .fz _, .fz _ => none
  | _, .non, _ => some false
  | _, .bl _, _ => some false
  | _, .int _, _ => some false
  | _, .str _, _ => some false
  | _, .tup _, _ => some false
  | _, .lst _, _ => some false
  | _, .fz _, _ => some false
mutual
theorem Rep.fn {H : Hp} : ∀ {v : V} {t t' : T}, Rep H v t → Rep H v t' → t = t'
  | _, _, _, .non, .non => rfl
  | _, _, _, .bl _, .bl _ => rfl
  | _, _, _, .int _, .int _ => rfl
  | _, _, _, .str _, .str _ => rfl
  | _, _, _, .tup h r, .tup h' r' => by
    rw [h] at h'; cases h'; rw [Reps.fn r r']
  | _, _, _, .tup h r, .lst h' r' => by rw [h] at h'; cases h'
  | _, _, _, .tup h r, .fz h' r' => by rw [h] at h'; cases h'
  | _, _, _, .lst h r, .tup h' r' => by rw [h] at h'; cases h'
  | _, _, _, .lst h r, .lst h' r' => by
    rw [h] at h'; cases h'; rw [Reps.fn r r']
  | _, _, _, .lst h r, .fz h' r' => by rw [h] at h'; cases h'
  | _, _, _, .fz h r, .tup h' r' => by rw [h] at h'; cases h'
  | _, _, _, .fz h r, .lst h' r' => by rw [h] at h'; cases h'
  | _, _, _, .fz h r, .fz h' r' => by
    rw [h] at h'; cases h'; rw [Reps.fn r r']
theorem Reps.fn {H : Hp} : ∀ {v : List V} {t t' : List T}, Reps H v t → Reps H v t' → t = t'
  | _, _, _, .nil, .nil => rfl
  | _, _, _, .cons h r, .cons h' r' => by rw [Rep.fn h h', Reps.fn r r']
end
theorem eqL_refl {f : T → T → Option Bool} (hf : ∀ x b, f x x = some b → b = true) : ∀ (xs : List T) (b : Bool), eqL f xs xs = some b → b = true
  | [], b, h => by
    have h' : some true = some b := h
    cases h'; rfl
  | x :: xs, b, h => by
    unfold eqL at h
    cases e : f x x with
    | none => rw [e] at h; cases h
    | some c =>
      rw [e] at h
      cases e' : eqL f xs xs with
      | none => rw [e'] at h; cases h
      | some d =>
        rw [e'] at h
        cases h
        rw [hf x c e, eqL_refl hf xs d e']
        rfl
theorem eqF_refl : ∀ (n : Nat) (t : T) (b : Bool), eqF n t t = some b → b = true
  | n, .non, b, h => by unfold eqF at h; cases h; rfl
  | n, .bl x, b, h => by unfold eqF at h; cases h; simp
  | n, .int x, b, h => by unfold eqF at h; cases h; simp
  | n, .str x, b, h => by unfold eqF at h; cases h; simp
  | 0, .tup x, b, h => by unfold eqF at h; cases h
  | 0, .lst x, b, h => by unfold eqF at h; cases h
  | 0, .fz x, b, h => by unfold eqF at h; cases h
  | n + 1, .tup x, b, h => by unfold eqF at h; exact eqL_refl (eqF_refl n) x b h
  | n + 1, .lst x, b, h => by unfold eqF at h; exact eqL_refl (eqF_refl n) x b h
  | n + 1, .fz x, b, h => by unfold eqF at h; exact eqL_refl (eqF_refl n) x b h
/-- a list as a function of places -/
theorem eqL_at {f : T → T → Option Bool} : ∀ {xs ys : List T} {b : Bool}, eqL f xs ys = some b →
    ∃ e : Nat → Bool, (∀ j x y, xs[j]? = some x → ys[j]? = some y → f x y = some (e j)) ∧ ((List.range (min xs.length ys.length)).all e && xs.length == ys.length) = b
  | [], [], b, h => by
    have h' : some true = some b := h
    cases h'
    exact ⟨fun _ => true, fun j x y h => by simp at h, by simp⟩
  | [], y :: ys, b, h => by
    have h' : some false = some b := h
    cases h'
    exact ⟨fun _ => true, fun j x y h => by simp at h, by simp⟩
  | x :: xs, [], b, h => by
    have h' : some false = some b := h
    cases h'
    exact ⟨fun _ => true, fun j x y h h' => by simp at h', by simp⟩
  | x :: xs, y :: ys, b, h => by
    unfold eqL at h
    cases e : f x y with
    | none => rw [e] at h; cases h
    | some c =>
      rw [e] at h
      cases e' : eqL f xs ys with
      | none => rw [e'] at h; cases h
      | some d =>
        rw [e'] at h
        cases h
        obtain ⟨g, h1, h2⟩ := eqL_at e'
        refine ⟨fun j => match j with | 0 => c | j + 1 => g j, fun j u v hu hv => ?_, ?_⟩
        · cases j with
          | zero => simp at hu hv; subst hu hv; exact e
          | succ j => exact h1 j u v (by simpa using hu) (by simpa using hv)
        · have z : min (x :: xs).length (y :: ys).length = min xs.length ys.length + 1 := by simp only [List.length_cons]; omega
          rw [z, List.range_succ_eq_map, List.all_cons, List.all_map]
          have z2 : ((x :: xs).length == (y :: ys).length) = (xs.length == ys.length) := by simp
          rw [z2, ← h2, Bool.and_assoc]
          rfl
section
variable {X : Cx} {pins : List (Addr × Obj)} {σ : Sg} {H : Hp} {s : Shared}
theorem seq_tup {a : Addr} {xs : List V} {ts : List T} (I : L2.Inv X pins σ H s) (h : H a = some (.tup xs)) (r : Reps H xs ts) : ∃ its : List Value, Vals xs its ∧ s.heap.IsTuple a its.toArray ∧ ts.length = its.length ∧ xs.length ≤ sizeLine := by
  obtain ⟨its, rv, p, z⟩ := I.tuple (SqT.of h)
  exact ⟨its, rv, p, by rw [← r.length]; exact rv.length, z⟩
theorem seq_lst {a : Addr} {xs : List V} {ts : List T} (I : L2.Inv X pins σ H s) (h : Rd H a (.lst xs)) (r : Reps H xs ts) : ∃ its : List Value, Vals xs its ∧ s.heap.IsList a its.toArray ∧ ts.length = its.length ∧ xs.length ≤ sizeLine := by
  obtain ⟨its, rv, p, z⟩ := I.list (.inl h)
  exact ⟨its, rv, p.isList, by rw [← r.length]; exact rv.length, z⟩
end
abbrev EqN (A : Around) (s : Shared) (u u' : Value) (b : Bool) : Prop := SeqAt.EqAt A s u u' b ∧ SeqAt.RcAt A s u u' b ∧ SeqAt.RcNeAt A s u u' (!b)
section
variable {X : Cx} {pins : List (Addr × Obj)} {σ : Sg} {H : Hp} {s : Shared}
theorem pair_at {xs ys : List V} {ts us : List T} {its its' : List Value} {A : Around} {f : T → T → Option Bool} {e : Nat → Bool} (r : Reps H xs ts) (r' : Reps H ys us) (v : Vals xs its) (v' : Vals ys its')
    (he : ∀ (j : Nat) (x y : T), ts[j]? = some x → us[j]? = some y → f x y = some (e j))
    (ih : ∀ (x y : T) (b : Bool) (p q : V) (u w : Value), f x y = some b → Rep H p x → Rep H q y → RelV p u → RelV q w → EqN A s u w b) (j : Nat) (h1 : j < its.toArray.size) (h2 : j < its'.toArray.size) :
    SeqAt.EqAt A s its.toArray[j] its'.toArray[j] (e j) := by
  have l1 := v.length
  have l2 := v'.length
  have m1 := r.length
  have m2 := r'.length
  have k1 : j < xs.length := by simp at h1; omega
  have k2 : j < ys.length := by simp at h2; omega
  obtain ⟨t, et, rt⟩ := r.getV (List.getElem?_eq_getElem k1)
  obtain ⟨t', et', rt'⟩ := r'.getV (List.getElem?_eq_getElem k2)
  obtain ⟨u, eu, ru⟩ := v.get (List.getElem?_eq_getElem k1)
  obtain ⟨u', eu', ru'⟩ := v'.get (List.getElem?_eq_getElem k2)
  have q1 : its.toArray[j] = u := by
    have : its[j]? = some its.toArray[j] := by simp at h1 ⊢
    rw [eu] at this; exact (Option.some.inj this).symm
  have q2 : its'.toArray[j] = u' := by
    have : its'[j]? = some its'.toArray[j] := by simp at h2 ⊢
    rw [eu'] at this; exact (Option.some.inj this).symm
  rw [q1, q2]
  exact (ih t t' (e j) _ _ u u' (he j t t' et et') rt rt' ru ru').1
theorem eq_tups {A : Around} {a c : Addr} {xs ys : List V} {ts us : List T} {b : Bool} {f : T → T → Option Bool} (I : L2.Inv X pins σ H s) (hu : A.units < cLine) (ha : H a = some (.tup xs)) (hc : H c = some (.tup ys)) (r : Reps H xs ts) (r' : Reps H ys us)
    (hb : eqL f ts us = some b) (hr : ∀ x b, f x x = some b → b = true)
    (ih : ∀ (x y : T) (b : Bool) (p q : V) (u w : Value), f x y = some b → Rep H p x → Rep H q y → RelV p u → RelV q w → EqN A.in1 s u w b) : EqN A s (.ref a) (.ref c) b := by
  obtain ⟨its, v, p, l, _⟩ := seq_tup I ha r
  obtain ⟨its', v', p', l', _⟩ := seq_tup I hc r'
  obtain ⟨e, he, hb'⟩ := eqL_at hb
  have hp := pair_at (A := A.in1) r r' v v' he ih
  have z : ((List.range (min its.toArray.size its'.toArray.size)).all e && its.toArray.size == its'.toArray.size) = b := by
    rw [← hb']; simp [l, l']
  have R := SeqAt.RcAt.tuples p p' hu hp
  have N := SeqAt.RcNeAt.tuples p p' hu hp
  rw [z] at R
  have N' : SeqAt.RcNeAt A s (.ref a) (.ref c) (!b) := by
    rw [← z]; exact N
  refine ⟨?_, R, N'⟩
  by_cases hac : a = c
  · subst hac
    rw [ha] at hc; cases hc
    have := r.fn r'; subst this
    rw [eqL_refl hr ts b hb]
    exact SeqAt.EqAt.same _
  · exact SeqAt.EqAt.of_refs hac R
theorem eq_lsts {A : Around} {a c : Addr} {xs ys : List V} {ts us : List T} {b : Bool} {f : T → T → Option Bool} (I : L2.Inv X pins σ H s) (hu : A.units < cLine) (ha : Rd H a (.lst xs)) (hc : Rd H c (.lst ys)) (r : Reps H xs ts) (r' : Reps H ys us)
    (hb : eqL f ts us = some b) (hr : ∀ x b, f x x = some b → b = true)
    (ih : ∀ (x y : T) (b : Bool) (p q : V) (u w : Value), f x y = some b → Rep H p x → Rep H q y → RelV p u → RelV q w → EqN A.in1 s u w b) : EqN A s (.ref a) (.ref c) b := by
  obtain ⟨its, v, p, l, _⟩ := seq_lst I ha r
  obtain ⟨its', v', p', l', _⟩ := seq_lst I hc r'
  obtain ⟨e, he, hb'⟩ := eqL_at hb
  have hp := pair_at (A := A.in1) r r' v v' he ih
  have RN : SeqAt.RcAt A s (.ref a) (.ref c) b ∧ SeqAt.RcNeAt A s (.ref a) (.ref c) (!b) := by
    by_cases hl : its.toArray.size = its'.toArray.size
    · have z : (List.range its.toArray.size).all e = b := by
        rw [← hb']
        have : ts.length = us.length := by simp at hl; omega
        rw [this]
        have k : its.toArray.size = us.length := by simp; omega
        rw [k]; simp
      have R := SeqAt.RcAt.lists p p' hl hu hp
      have N := SeqAt.RcNeAt.lists p p' hl hu hp
      rw [z] at R
      refine ⟨R, ?_⟩
      rw [← z]; exact N
    · have hl' : (its.toArray.size != its'.toArray.size) = true := by simpa using hl
      have z : b = false := by
        rw [← hb']
        have : ¬ ts.length = us.length := by simp at hl; omega
        simp [this]
      subst z
      exact ⟨SeqAt.RcAt.lists_lengths p p' hl' hu, SeqAt.RcNeAt.lists_lengths p p' hl' hu⟩
  refine ⟨?_, RN.1, RN.2⟩
  by_cases hac : a = c
  · subst hac
    have hxy : xs = ys := by
      rcases ha with ha | ⟨o, ha⟩ <;> rcases hc with hc | ⟨o', hc⟩ <;> (rw [ha] at hc; cases hc) <;> rfl
    subst hxy
    have := r.fn r'; subst this
    rw [eqL_refl hr ts b hb]
    exact SeqAt.EqAt.same _
  · exact SeqAt.EqAt.of_refs hac RN.1
end
end PV

namespace PV
open PySem PySem.Spec PyProof.Rows L2
section
variable {X : Cx} {pins : List (Addr × Obj)} {σ : Sg} {H : Hp} {s : Shared}
theorem units_in1 {A : Around} : A.in1.units = A.units + 1 := rfl
theorem eqn_false {A : Around} {u w : Value} (e : SeqAt.EqAt A s u w false) (r : SeqAt.RcAt A s u w false) (n : SeqAt.RcNeAt A s u w true) : EqN A s u w false := ⟨e, r, n⟩
set_option maxHeartbeats 2000000 in
theorem eq_zero (I : L2.Inv X pins σ H s) : ∀ (A : Around), A.units < cLine → ∀ (x y : T) (b : Bool) (p q : V) (u w : Value), eqF 0 x y = some b → Rep H p x → Rep H q y → RelV p u → RelV q w → EqN A s u w b := by
  intro A hu x y b p q u w h rp rq ru rw'
  have hu' := hu
  cases rp with
  | non =>
    obtain rfl : u = Value.none := ru
    cases rq with
    | non => obtain rfl : w = Value.none := rw'; unfold eqF at h; cases h; exact ⟨.same _, .none_none, .none_none⟩
    | bl c => obtain rfl : w = Value.bool c := rw'; unfold eqF at h; cases h; exact ⟨.none_bool _, .none_bool _, .none_bool _⟩
    | int c => obtain ⟨t, rfl⟩ := rw'; unfold eqF at h; cases h; exact ⟨.none_int _ _, .none_int _ _, .none_int _ _⟩
    | str c => obtain ⟨t, rfl⟩ := rw'; unfold eqF at h; cases h; exact ⟨.none_str _ _, .none_str _ _, .none_str _ _⟩
    | tup h1 r1 => obtain rfl : w = Value.ref _ := rw'; unfold eqF at h; cases h; obtain ⟨i, _, p, _⟩ := seq_tup I h1 r1; exact ⟨.none_tuple p hu', .none_tuple p hu', .none_tuple p hu'⟩
    | lst h1 r1 => obtain rfl : w = Value.ref _ := rw'; unfold eqF at h; cases h; obtain ⟨i, _, p, _⟩ := seq_lst I (.inl h1) r1; exact ⟨.none_list p hu', .none_list p hu', .none_list p hu'⟩
    | fz h1 r1 => obtain rfl : w = Value.ref _ := rw'; unfold eqF at h; cases h; obtain ⟨i, _, p, _⟩ := seq_lst I (.inr ⟨_, h1⟩) r1; exact ⟨.none_list p hu', .none_list p hu', .none_list p hu'⟩
  | bl d =>
    obtain rfl : u = Value.bool d := ru
    cases rq with
    | non => obtain rfl : w = Value.none := rw'; unfold eqF at h; cases h; exact ⟨.bool_none _, .bool_none _, .bool_none _⟩
    | bl c => obtain rfl : w = Value.bool c := rw'; unfold eqF at h; cases h; exact ⟨.bool_bool _ _, .bool_bool _ _, .bool_bool _ _⟩
    | int c => obtain ⟨t, rfl⟩ := rw'; unfold eqF at h; cases h; exact ⟨.bool_int _ _ _, .bool_int _ _ _, .bool_int _ _ _⟩
    | str c => obtain ⟨t, rfl⟩ := rw'; unfold eqF at h; cases h; exact ⟨.bool_str _ _ _, .bool_str _ _ _, .bool_str _ _ _⟩
    | tup h1 r1 => obtain rfl : w = Value.ref _ := rw'; unfold eqF at h; cases h; obtain ⟨i, _, p, _⟩ := seq_tup I h1 r1; exact ⟨.bool_tuple _ p hu', .bool_tuple _ p hu', .bool_tuple _ p hu'⟩
    | lst h1 r1 => obtain rfl : w = Value.ref _ := rw'; unfold eqF at h; cases h; obtain ⟨i, _, p, _⟩ := seq_lst I (.inl h1) r1; exact ⟨.bool_list _ p hu', .bool_list _ p hu', .bool_list _ p hu'⟩
    | fz h1 r1 => obtain rfl : w = Value.ref _ := rw'; unfold eqF at h; cases h; obtain ⟨i, _, p, _⟩ := seq_lst I (.inr ⟨_, h1⟩) r1; exact ⟨.bool_list _ p hu', .bool_list _ p hu', .bool_list _ p hu'⟩
  | int d =>
    obtain ⟨t0, rfl⟩ := ru
    cases rq with
    | non => obtain rfl : w = Value.none := rw'; unfold eqF at h; cases h; exact ⟨.int_none _ _, .int_none _ _, .int_none _ _⟩
    | bl c => obtain rfl : w = Value.bool c := rw'; unfold eqF at h; cases h; exact ⟨.int_bool _ _ _, .int_bool _ _ _, .int_bool _ _ _⟩
    | int c => obtain ⟨t, rfl⟩ := rw'; unfold eqF at h; cases h; exact ⟨.int_int _ _ _ _, .int_int _ _ _ _, .int_int _ _ _ _⟩
    | str c => obtain ⟨t, rfl⟩ := rw'; unfold eqF at h; cases h; exact ⟨.int_str _ _ _ _, .int_str _ _ _ _, .int_str _ _ _ _⟩
    | tup h1 r1 => obtain rfl : w = Value.ref _ := rw'; unfold eqF at h; cases h; obtain ⟨i, _, p, _⟩ := seq_tup I h1 r1; exact ⟨.int_tuple _ _ p hu', .int_tuple _ _ p hu', .int_tuple _ _ p hu'⟩
    | lst h1 r1 => obtain rfl : w = Value.ref _ := rw'; unfold eqF at h; cases h; obtain ⟨i, _, p, _⟩ := seq_lst I (.inl h1) r1; exact ⟨.int_list _ _ p hu', .int_list _ _ p hu', .int_list _ _ p hu'⟩
    | fz h1 r1 => obtain rfl : w = Value.ref _ := rw'; unfold eqF at h; cases h; obtain ⟨i, _, p, _⟩ := seq_lst I (.inr ⟨_, h1⟩) r1; exact ⟨.int_list _ _ p hu', .int_list _ _ p hu', .int_list _ _ p hu'⟩
  | str d =>
    obtain ⟨t0, rfl⟩ := ru
    cases rq with
    | non => obtain rfl : w = Value.none := rw'; unfold eqF at h; cases h; exact ⟨.str_none _ _, .str_none _ _, .str_none _ _⟩
    | bl c => obtain rfl : w = Value.bool c := rw'; unfold eqF at h; cases h; exact ⟨.str_bool _ _ _, .str_bool _ _ _, .str_bool _ _ _⟩
    | int c => obtain ⟨t, rfl⟩ := rw'; unfold eqF at h; cases h; exact ⟨.str_int _ _ _ _, .str_int _ _ _ _, .str_int _ _ _ _⟩
    | str c => obtain ⟨t, rfl⟩ := rw'; unfold eqF at h; cases h; exact ⟨.str_str _ _ _ _, .str_str _ _ _ _, .str_str _ _ _ _⟩
    | tup h1 r1 => obtain rfl : w = Value.ref _ := rw'; unfold eqF at h; cases h; obtain ⟨i, _, p, _⟩ := seq_tup I h1 r1; exact ⟨.str_tuple _ _ p hu', .str_tuple _ _ p hu', .str_tuple _ _ p hu'⟩
    | lst h1 r1 => obtain rfl : w = Value.ref _ := rw'; unfold eqF at h; cases h; obtain ⟨i, _, p, _⟩ := seq_lst I (.inl h1) r1; exact ⟨.str_list _ _ p hu', .str_list _ _ p hu', .str_list _ _ p hu'⟩
    | fz h1 r1 => obtain rfl : w = Value.ref _ := rw'; unfold eqF at h; cases h; obtain ⟨i, _, p, _⟩ := seq_lst I (.inr ⟨_, h1⟩) r1; exact ⟨.str_list _ _ p hu', .str_list _ _ p hu', .str_list _ _ p hu'⟩
  | tup h0 r0 =>
    obtain rfl : u = Value.ref _ := ru
    obtain ⟨i0, _, p0, _⟩ := seq_tup I h0 r0
    cases rq with
    | non => obtain rfl : w = Value.none := rw'; unfold eqF at h; cases h; exact ⟨.tuple_none p0 hu', .tuple_none p0 hu', .tuple_none p0 hu'⟩
    | bl c => obtain rfl : w = Value.bool c := rw'; unfold eqF at h; cases h; exact ⟨.tuple_bool _ p0 hu', .tuple_bool _ p0 hu', .tuple_bool _ p0 hu'⟩
    | int c => obtain ⟨t, rfl⟩ := rw'; unfold eqF at h; cases h; exact ⟨.tuple_int _ _ p0 hu', .tuple_int _ _ p0 hu', .tuple_int _ _ p0 hu'⟩
    | str c => obtain ⟨t, rfl⟩ := rw'; unfold eqF at h; cases h; exact ⟨.tuple_str _ _ p0 hu', .tuple_str _ _ p0 hu', .tuple_str _ _ p0 hu'⟩
    | tup h1 r1 => unfold eqF at h; cases h
    | lst h1 r1 => obtain rfl : w = Value.ref _ := rw'; unfold eqF at h; cases h; obtain ⟨i, _, p, _⟩ := seq_lst I (.inl h1) r1; exact ⟨.tuple_list p0 p hu', .tuple_list p0 p hu', .tuple_list p0 p hu'⟩
    | fz h1 r1 => obtain rfl : w = Value.ref _ := rw'; unfold eqF at h; cases h; obtain ⟨i, _, p, _⟩ := seq_lst I (.inr ⟨_, h1⟩) r1; exact ⟨.tuple_list p0 p hu', .tuple_list p0 p hu', .tuple_list p0 p hu'⟩
  | lst h0 r0 =>
    obtain rfl : u = Value.ref _ := ru
    obtain ⟨i0, _, p0, _⟩ := seq_lst I (.inl h0) r0
    cases rq with
    | non => obtain rfl : w = Value.none := rw'; unfold eqF at h; cases h; exact ⟨.list_none p0 hu', .list_none p0 hu', .list_none p0 hu'⟩
    | bl c => obtain rfl : w = Value.bool c := rw'; unfold eqF at h; cases h; exact ⟨.list_bool _ p0 hu', .list_bool _ p0 hu', .list_bool _ p0 hu'⟩
    | int c => obtain ⟨t, rfl⟩ := rw'; unfold eqF at h; cases h; exact ⟨.list_int _ _ p0 hu', .list_int _ _ p0 hu', .list_int _ _ p0 hu'⟩
    | str c => obtain ⟨t, rfl⟩ := rw'; unfold eqF at h; cases h; exact ⟨.list_str _ _ p0 hu', .list_str _ _ p0 hu', .list_str _ _ p0 hu'⟩
    | tup h1 r1 => obtain rfl : w = Value.ref _ := rw'; unfold eqF at h; cases h; obtain ⟨i, _, p, _⟩ := seq_tup I h1 r1; exact ⟨.list_tuple p0 p hu', .list_tuple p0 p hu', .list_tuple p0 p hu'⟩
    | lst h1 r1 => unfold eqF at h; cases h
    | fz h1 r1 => unfold eqF at h; cases h
  | fz h0 r0 =>
    obtain rfl : u = Value.ref _ := ru
    obtain ⟨i0, _, p0, _⟩ := seq_lst I (.inr ⟨_, h0⟩) r0
    cases rq with
    | non => obtain rfl : w = Value.none := rw'; unfold eqF at h; cases h; exact ⟨.list_none p0 hu', .list_none p0 hu', .list_none p0 hu'⟩
    | bl c => obtain rfl : w = Value.bool c := rw'; unfold eqF at h; cases h; exact ⟨.list_bool _ p0 hu', .list_bool _ p0 hu', .list_bool _ p0 hu'⟩
    | int c => obtain ⟨t, rfl⟩ := rw'; unfold eqF at h; cases h; exact ⟨.list_int _ _ p0 hu', .list_int _ _ p0 hu', .list_int _ _ p0 hu'⟩
    | str c => obtain ⟨t, rfl⟩ := rw'; unfold eqF at h; cases h; exact ⟨.list_str _ _ p0 hu', .list_str _ _ p0 hu', .list_str _ _ p0 hu'⟩
    | tup h1 r1 => obtain rfl : w = Value.ref _ := rw'; unfold eqF at h; cases h; obtain ⟨i, _, p, _⟩ := seq_tup I h1 r1; exact ⟨.list_tuple p0 p hu', .list_tuple p0 p hu', .list_tuple p0 p hu'⟩
    | lst h1 r1 => unfold eqF at h; cases h
    | fz h1 r1 => unfold eqF at h; cases h
set_option maxHeartbeats 2000000 in
theorem eq_ok (I : L2.Inv X pins σ H s) : ∀ (n : Nat) (A : Around), A.units + n < cLine → ∀ (x y : T) (b : Bool) (p q : V) (u w : Value), eqF n x y = some b → Rep H p x → Rep H q y → RelV p u → RelV q w → EqN A s u w b := by
  intro n
  induction n with
  | zero => exact fun A hu x y b p q u w h => eq_zero I A (by omega) x y b p q u w h
  | succ n ih =>
    intro A hu x y b p q u w h rp rq ru rw'
    have low : eqF 0 x y = some b → EqN A s u w b := fun h => eq_zero I A (by omega) x y b p q u w h rp rq ru rw'
    have hu' : A.units < cLine := by omega
    have ih' := ih A.in1 (by rw [units_in1]; omega)
    cases rp with
    | tup h0 r0 =>
      cases rq with
      | tup h1 r1 =>
        obtain rfl : u = Value.ref _ := ru
        obtain rfl : w = Value.ref _ := rw'
        unfold eqF at h
        exact eq_tups I hu' h0 h1 r0 r1 h (eqF_refl n) ih'
      | _ => exact low (by unfold eqF at h ⊢; exact h)
    | lst h0 r0 =>
      cases rq with
      | lst h1 r1 =>
        obtain rfl : u = Value.ref _ := ru
        obtain rfl : w = Value.ref _ := rw'
        unfold eqF at h
        exact eq_lsts I hu' (.inl h0) (.inl h1) r0 r1 h (eqF_refl n) ih'
      | fz h1 r1 =>
        obtain rfl : u = Value.ref _ := ru
        obtain rfl : w = Value.ref _ := rw'
        unfold eqF at h
        exact eq_lsts I hu' (.inl h0) (.inr ⟨_, h1⟩) r0 r1 h (eqF_refl n) ih'
      | _ => exact low (by unfold eqF at h ⊢; exact h)
    | fz h0 r0 =>
      cases rq with
      | lst h1 r1 =>
        obtain rfl : u = Value.ref _ := ru
        obtain rfl : w = Value.ref _ := rw'
        unfold eqF at h
        exact eq_lsts I hu' (.inr ⟨_, h0⟩) (.inl h1) r0 r1 h (eqF_refl n) ih'
      | fz h1 r1 =>
        obtain rfl : u = Value.ref _ := ru
        obtain rfl : w = Value.ref _ := rw'
        unfold eqF at h
        exact eq_lsts I hu' (.inr ⟨_, h0⟩) (.inr ⟨_, h1⟩) r0 r1 h (eqF_refl n) ih'
      | _ => exact low (by unfold eqF at h ⊢; exact h)
    | _ => exact low (by cases rq <;> (unfold eqF at h ⊢; exact h))
end
end PV

namespace PV
open PySem PySem.Spec PyProof.Rows L2
section
variable {X : Cx} {Y : Fx} {a b c d : Expr} {fa fb fc fd : En → R T} {pos : Pos}

/-! ### two values in, one out: the result may hold parts of them -/
def rG (Y : Fx) (g : T → T → R T) : R2 := fun x y H Q => ∃ B t t', Same B H ∧ Rep B x t ∧ Rep B y t' ∧ Po Y rC B H (g t t') Q
def binE (g : T → T → R T) (fa fb : En → R T) : En → R T := fun ρ => (fa ρ).bind fun x => (fb ρ).bind fun y => g x y
theorem s_bin {op : Operator} {g : T → T → R T} (ho : OpR X (binaryOp op) (rG Y g)) (ha : Snd X Y a fa) (hb : Snd X Y b fb) : Snd X Y (.BinOp a op b pos) (binE g fa fb) := .mk fun ρ =>
  PE.imp (pe_op ho (ha ρ) (hb ρ)) fun σ H Q ⟨B, I, q⟩ => step I q fun t v H1 _ s1 r1 I1 q1 => step I1 q1 fun t' v' H2 _ s2 r2 I2 q2 =>
    ⟨_, t, t', I2.sB, r1.mono (Grow.ge I1.sB s2), r2, q2⟩
/-- the end of an operation: nothing was laid -/
theorem po0 {g : R T} {B H : Hp} {Q : VK} {t : T} {v : V} (sB : Same B H) (q : Po Y rC B H g Q) (e : g = .ok t) (r : Rep B v t) : Q v H := by
  subst e
  exact q v H (Same.refl H) (by show Rep (Grow B H H) v t; rw [Grow.self B H sB]; exact r)
theorem po1t {g : R T} {B H : Hp} {Q : VK} {ts : List T} {xs : List V} {p : Addr} (sB : Same B H) (q : Po Y rC B H g Q) (e : g = .ok (.tup ts)) (r : Reps B xs ts) (h : H p = none) : Q (.ref p) (upd H p (.tup xs)) := by
  subst e
  exact q _ _ (Same.new h _) (.tup (Grow_at h _) (r.mono (Grow.ge sB (Same.new h _))))
theorem po1l {g : R T} {B H : Hp} {Q : VK} {ts : List T} {xs : List V} {p : Addr} (sB : Same B H) (q : Po Y rC B H g Q) (e : g = .ok (.lst ts)) (r : Reps B xs ts) (h : H p = none) : Q (.ref p) (upd H p (.lst xs)) := by
  subst e
  exact q _ _ (Same.new h _) (.lst (Grow_at h _) (r.mono (Grow.ge sB (Same.new h _))))

/-! ### + -/
def addT : T → T → R T
  | .int i, .int j => .ok (.int (i + j))
  | .bl x, .int j => .ok (.int (b2 x + j))
  | .int i, .bl y => .ok (.int (i + b2 y))
  | .str x, .str y => if x.length + y.length ≤ bnd then .ok (.str (x ++ y)) else .bad
  | .tup xs, .tup ys => if xs.length + ys.length ≤ bnd then .ok (.tup (xs ++ ys)) else .bad
  | .lst xs, .lst ys => if xs.length + ys.length ≤ bnd then .ok (.lst (xs ++ ys)) else .bad
  | _, _ => .bad
theorem cat_tup0 {prog : Program} {w : World} {A : Around} {E : Value → Shared → Prop} {s : Shared} {t b : Addr} {vs ws : List Value} {Q : Value → Shared → Prop} (ht : IsTup s.heap t vs.toArray) (hb : IsTup s.heap b ws.toArray) (hv : vs = [])
    (h1 : Q (.ref b) s) : wpAny (model prog w) A (binaryOp .Add (.ref t) (.ref b)) Q E s := by
  obtain ⟨⟨cls, dd, data, sl⟩, ho, hc, n, hd⟩ := id ht
  obtain ⟨⟨cls2, dd2, data2, sl2⟩, ho2, hc2, n2, hd2⟩ := id hb
  simp only at hc hd hc2 hd2
  subst hc hd hc2 hd2
  exact concat_meets ⟨_, ho, rfl⟩ ⟨_, ho2, rfl⟩ noFill_tuple_add seq_tuple_add PySem.F.slot_tuple_add PySem.F.entry_tuple_add (PySem.F.args_tuple_add_2 _ _)
      (tuple_addW0 t b vs.toArray ws.toArray n n2 dd dd2 sl sl2 (by simp [hv])) ⟨ho, ho2, h1⟩
theorem op_addT : OpR X (binaryOp .Add) (rG Y addT) := by
  intro pins s σ H x y v u Q I rx ry h
  obtain ⟨B, t, t', sB, r, r', q⟩ := h
  cases r with
  | int i =>
    cases r' with
    | int j => exact op_add pins s σ H _ _ v u Q I rx ry ⟨i, j, rfl, rfl, po0 sB q rfl (.int _)⟩
    | bl y => exact op_add_ib pins s σ H _ _ v u Q I rx ry ⟨i, y, rfl, rfl, po0 sB q rfl (.int _)⟩
    | _ => exact q.elim
  | bl x =>
    cases r' with
    | int j =>
      obtain rfl : v = Value.bool x := rx
      obtain ⟨tk, rfl⟩ := ry
      exact IntBool.add_bool_int (⟨.int _, H, I.tok _, ⟨_, rfl⟩, po0 sB q rfl (.int _)⟩)
    | _ => exact q.elim
  | str x =>
    cases r' with
    | str y =>
      by_cases hb : x.length + y.length ≤ bnd
      · exact op_add_str pins s σ H _ _ v u Q I rx ry ⟨x, y, rfl, rfl, bnd_le hb, po0 sB q (if_pos hb) (.str _)⟩
      · rw [show addT (.str x) (.str y) = .bad from if_neg hb] at q; exact q.elim
    | _ => exact q.elim
  | @tup a xs ts h1 r1 =>
    cases r' with
    | @tup a' ys us h2 r2 =>
      by_cases hb : ts.length + us.length ≤ bnd
      · have eg : addT (.tup ts) (.tup us) = .ok (.tup (ts ++ us)) := if_pos hb
        have hz : xs.length + ys.length ≤ sizeLine := by rw [r1.length, r2.length]; exact bnd_le hb
        by_cases hx : xs = []
        · obtain rfl : v = Value.ref a := rx
          obtain rfl : u = Value.ref a' := ry
          obtain ⟨its, rv, p, _⟩ := I.tuple (SqT.of (sB _ _ h1))
          obtain ⟨its', rv', p', _⟩ := I.tuple (SqT.of (sB _ _ h2))
          have et : ts = [] := r1.nil_iff.mp hx
          refine cat_tup0 p p' (rv.nil_iff.mpr hx) ⟨.ref a', H, I, rfl, po0 sB q eg ?_⟩
          rw [et]; exact .tup h2 r2
        · refine op_catT pins s σ H _ _ v u Q I rx ry ⟨a, a', xs, ys, rfl, rfl, SqT.of (sB _ _ h1), SqT.of (sB _ _ h2), hx, hz, fun hy => ?_, fun hy p hp => ?_⟩
          · refine po0 sB q eg ?_
            rw [r2.nil_iff.mp hy, List.append_nil]
            exact .tup h1 r1
          · exact po1t sB q eg (r1.append r2) hp
      · rw [show addT (.tup ts) (.tup us) = .bad from if_neg hb] at q; exact q.elim
    | _ => exact q.elim
  | @lst a xs ts h1 r1 =>
    cases r' with
    | @lst a' ys us h2 r2 =>
      by_cases hb : ts.length + us.length ≤ bnd
      · have eg : addT (.lst ts) (.lst us) = .ok (.lst (ts ++ us)) := if_pos hb
        have hz : xs.length + ys.length ≤ sizeLine := by rw [r1.length, r2.length]; exact bnd_le hb
        exact op_cat pins s σ H _ _ v u Q I rx ry ⟨a, a', xs, ys, rfl, rfl, sB _ _ h1, sB _ _ h2, hz, fun p hp => po1l sB q eg (r1.append r2) hp⟩
      · rw [show addT (.lst ts) (.lst us) = .bad from if_neg hb] at q; exact q.elim
    | _ => exact q.elim
  | _ => cases r' <;> exact q.elim
theorem s_add (ha : Snd X Y a fa) (hb : Snd X Y b fb) : Snd X Y (.BinOp a .Add b pos) (binE addT fa fb) := s_bin op_addT ha hb

/-! ### - % // * of ints -/
def subT : T → T → R T
  | .int i, .int j => .ok (.int (i - j))
  | _, _ => .bad
def modT : T → T → R T
  | .int i, .int j => if 0 < j then .ok (.int (i % j)) else .bad
  | _, _ => .bad
def fdivT : T → T → R T
  | .int i, .int j => if 0 < j ∧ j < 1073741824 then .ok (.int (i / j)) else .bad
  | _, _ => .bad
instance (i j : Int) : Decidable (CMul i j) := by unfold CMul; infer_instance
def mulT : T → T → R T
  | .int i, .int j => if CMul i j then .ok (.int (i * j)) else .bad
  | .lst xs, .int k => if 0 ≤ k ∧ k < 1000000 ∧ xs.length * k.toNat ≤ bnd then .ok (.lst (List.replicate k.toNat xs).flatten) else .bad
  | .tup xs, .int k => if 2 ≤ k ∧ k < 1000000 ∧ xs ≠ [] ∧ xs.length * k.toNat ≤ bnd then .ok (.tup (List.replicate k.toNat xs).flatten) else .bad
  | _, _ => .bad
theorem op_subT : OpR X (binaryOp .Sub) (rG Y subT) := by
  intro pins s σ H x y v u Q I rx ry h
  obtain ⟨B, t, t', sB, r, r', q⟩ := h
  cases r with
  | int i =>
    cases r' with
    | int j => exact op_sub pins s σ H _ _ v u Q I rx ry ⟨i, j, rfl, rfl, po0 sB q rfl (.int _)⟩
    | _ => exact q.elim
  | _ => cases r' <;> exact q.elim
theorem op_modT : OpR X (binaryOp .Mod) (rG Y modT) := by
  intro pins s σ H x y v u Q I rx ry h
  obtain ⟨B, t, t', sB, r, r', q⟩ := h
  cases r with
  | int i =>
    cases r' with
    | int j =>
      by_cases hj : 0 < j
      · exact op_mod pins s σ H _ _ v u Q I rx ry ⟨i, j, rfl, rfl, hj, po0 sB q (if_pos hj) (.int _)⟩
      · rw [show modT (.int i) (.int j) = .bad from if_neg hj] at q; exact q.elim
    | _ => exact q.elim
  | _ => cases r' <;> exact q.elim
theorem op_fdivT : OpR X (binaryOp .FloorDiv) (rG Y fdivT) := by
  intro pins s σ H x y v u Q I rx ry h
  obtain ⟨B, t, t', sB, r, r', q⟩ := h
  cases r with
  | int i =>
    cases r' with
    | int j =>
      by_cases hj : 0 < j ∧ j < 1073741824
      · exact op_fdiv pins s σ H _ _ v u Q I rx ry ⟨i, j, rfl, rfl, hj, po0 sB q (if_pos hj) (.int _)⟩
      · rw [show fdivT (.int i) (.int j) = .bad from if_neg hj] at q; exact q.elim
    | _ => exact q.elim
  | _ => cases r' <;> exact q.elim
theorem tuple_mulW (l : Addr) (items : Array Value) (n : Nat) (dd : Option Addr) (sl : Array (Option Value)) (x : Int) (u : Tok) (h1 : 2 ≤ x) (h2 : x < 1000000) (hne : items.isEmpty = false) (hsz : items.size * x.toNat ≤ sizeLine) :
    Meets (Builtin.«tuple.__mul__» ⟨[.ref l, .int x u], []⟩) (fun _ R s => s.heap.get? l = some { cls := .type "tuple", dict := dd, data := .seq items n, slots := sl } ∧
      R (.ok (.ret (Value.ref s.heap.objs.size))) { s with heap := s.heap.push { cls := Value.type "tuple", data := Data.seq (List.foldl (fun x1 x2 => x1 ++ x2) #[] (List.replicate x.toNat items)) }, toks := s.toks }) :=
  .of_wp fun prog w A R s h => by
    obtain ⟨hp, g, d, tk, os⟩ := s; obtain ⟨hl, h⟩ := h
    have f1 := AutoSeq1.idx_int
    have e0 : (items.size : Int) * x = ((items.size * x.toNat : Nat) : Int) := by
      have : x = ((x.toNat : Nat) : Int) := by omega
      rw [Int.natCast_mul, ← this]
    have sl1 : (sizeLine : Nat) = 16777216 := sizeLine_eq
    have c1 : ¬ (decide (x < -(2 ^ 63)) || decide (x ≥ 2 ^ 63)) = true := by simp; omega
    have c2 : ¬ (items.isEmpty || x == 1) = true := by simp [hne]; omega
    have c3 : ¬ (decide (x ≤ 0) || items.isEmpty) = true := by simp [hne]; omega
    have c4 : ¬ ((items.size : Int) * x > (2 ^ 63 - 1) / 8) := by rw [e0]; omega
    have c5 : ¬ Builtin.Tuple.tupleTooMany ((items.size : Int) * x) = true := by
      unfold Builtin.Tuple.tupleTooMany
      rw [e0]
      intro z
      have := of_decide_eq_true z
      omega
    unfold Builtin.«tuple.__mul__»
    wp_walk using wpAny_loadPart' hl
    rw [if_neg c1]
    wp_walk using wpAny_loadPart' hl
    rw [if_neg c2]
    try dsimp only
    rw [if_neg c3]
    try dsimp only
    rw [if_neg c4]
    try dsimp only
    rw [if_neg c5]
    try dsimp only
    have hsz' : sizeOk (.seq (List.foldl (fun x1 x2 => x1 ++ x2) #[] (List.replicate x.toNat items))) := by
      show (List.foldl (fun x1 x2 => x1 ++ x2) #[] (List.replicate x.toNat items)).size ≤ sizeLine
      have := foldl_rep items.toList x.toNat []
      rw [List.nil_append] at this
      have q : List.foldl (fun x1 x2 => x1 ++ x2) #[] (List.replicate x.toNat items) = (List.replicate x.toNat items.toList).flatten.toArray := by
        simpa using this
      rw [q, List.size_toArray, len_rep, Array.length_toList, Nat.mul_comm]
      exact hsz
    exact wpAny_bind (m := Builtin.Tuple.tupleExact _) (wpAny_newObj_type (wpAny_pure ⟨_, rfl, h⟩) hsz')
theorem repeat_tuple : seqRepeat? (.type "tuple") = pure (some (.builtin "tuple.__mul__")) := by
  unfold seqRepeat?
  rw [PySem.seqSlot_of (T := "tuple") (name := "__mul__") (id := "tuple.__mul__") F.slot_tuple_mul.lookup (by decide +kernel), PySem.seqSlot_of (T := "tuple") (name := "__rmul__") (id := "tuple.__rmul__") F.slot_tuple_rmul.lookup (by decide +kernel)]
  rfl
theorem noFill_tuple_mul : fillsNumberSlot (.type "tuple") "mul" = pure false :=
  PySem.fillsNumberSlot_seq (id := "tuple.__mul__") (r := some (.builtin "tuple.__rmul__")) F.slot_tuple_mul.lookup (by decide +kernel) F.slot_tuple_rmul.lookup (by decide +kernel)
theorem int_rmul_tuple (a : Int) (t : Tok) (l : Addr) (items : Array Value) (n : Nat) (dd : Option Addr) (sl : Array (Option Value)) :
    Meets (Builtin.«int.__rmul__» ⟨[.int a t, .ref l], []⟩) (fun _ R s => s.heap.get? l = some { cls := .type "tuple", dict := dd, data := .seq items n, slots := sl } ∧ R (.ok (.ret Value.notImplemented)) s) :=
  .of_wp fun prog w A R s h => by obtain ⟨hp, g, d, tk, os⟩ := s; obtain ⟨hl, h⟩ := h; wp_walk; exact ⟨_, rfl, h⟩
theorem rep_tup {prog : Program} {w : World} {A : Around} {E : Value → Shared → Prop} {s : Shared} {l : Addr} {its : List Value} {k : Int} {t : Tok} {Q : Value → Shared → Prop} (p : IsTup s.heap l its.toArray) (hne : its ≠ []) (h1 : 2 ≤ k) (h2 : k < 1000000)
    (hsz : its.length * k.toNat ≤ sizeLine) (q : Q (.ref s.heap.objs.size) { s with heap := s.heap.push { cls := .type "tuple", data := .seq (List.replicate k.toNat its).flatten.toArray } }) :
    wpAny (model prog w) A (binaryOp .Mult (.ref l) (.int k t)) Q E s := by
  obtain ⟨⟨cls, dd, data, sl⟩, ho, hc, n, hd⟩ := id p
  simp only at hc hd
  subst hc hd
  refine wpAny_binaryOp_repeat_ref (T := "tuple") (U := "int") (by decide) ⟨_, ho, rfl⟩ (fun s' => typeIs_int s' k t) noFill_tuple_mul F.fills_int_mul F.slot_int_rmul repeat_tuple F.slot_int_index.lookup
    (call_meets F.slot_int_rmul (typeIs_int s k t) F.entry_int_rmul (F.args_int_rmul_2 _ _) (int_rmul_tuple k t l its.toArray n dd sl)
      ⟨ho, rfl, ⟨_, ho, rfl⟩, call_meets F.slot_tuple_mul ⟨_, ho, rfl⟩ F.entry_tuple_mul (F.args_tuple_mul_2 _ _) (tuple_mulW l its.toArray n dd sl k t h1 h2 (by simpa using hne) (by simpa using hsz)) ⟨ho, ?_⟩⟩)
  have := foldl_rep its k.toNat []
  rw [List.nil_append] at this
  rw [this]
  exact q
theorem op_mulT : OpR X (binaryOp .Mult) (rG Y mulT) := by
  intro pins s σ H x y v u Q I rx ry h
  obtain ⟨B, t, t', sB, r, r', q⟩ := h
  cases r with
  | int i =>
    cases r' with
    | int j =>
      by_cases hj : CMul i j
      · exact op_mul pins s σ H _ _ v u Q I rx ry ⟨i, j, rfl, rfl, hj, po0 sB q (if_pos hj) (.int _)⟩
      · rw [show mulT (.int i) (.int j) = .bad from if_neg hj] at q; exact q.elim
    | _ => exact q.elim
  | @lst l xs ts h1 r1 =>
    cases r' with
    | int k =>
      by_cases hk : 0 ≤ k ∧ k < 1000000 ∧ ts.length * k.toNat ≤ bnd
      · have eg : mulT (.lst ts) (.int k) = .ok (.lst (List.replicate k.toNat ts).flatten) := if_pos hk
        exact op_rep pins s σ H _ _ v u Q I rx ry ⟨l, k, xs, rfl, rfl, sB _ _ h1, by omega, by omega, by rw [r1.length]; exact bnd_le hk.2.2, fun p hp => po1l sB q eg (r1.rep _) hp⟩
      · rw [show mulT (.lst ts) (.int k) = .bad from if_neg hk] at q; exact q.elim
    | _ => exact q.elim
  | @tup l xs ts h1 r1 =>
    cases r' with
    | int k =>
      by_cases hk : 2 ≤ k ∧ k < 1000000 ∧ ts ≠ [] ∧ ts.length * k.toNat ≤ bnd
      · have eg : mulT (.tup ts) (.int k) = .ok (.tup (List.replicate k.toNat ts).flatten) := if_pos hk
        obtain rfl : v = Value.ref l := rx
        obtain ⟨tk, rfl⟩ := ry
        obtain ⟨its, rv, p, _⟩ := I.tuple (SqT.of (sB _ _ h1))
        have ln : ts.length = its.length := r1.length.symm.trans rv.length
        have hne : its ≠ [] := fun z => hk.2.2.1 (by rw [z] at ln; exact List.length_eq_zero_iff.mp ln)
        refine rep_tup p hne hk.1 hk.2.1 (by rw [← ln]; exact bnd_le hk.2.2.2) ⟨.ref s.heap.objs.size, upd H s.heap.objs.size (.tup (List.replicate k.toNat xs).flatten), I.laid (t' := s.toks) (fun b u e => Heap.get?_push_of_some _ e) (Nat.le_refl _) ?_, rfl, ?_⟩
        · exact ⟨by rw [len_rep, r1.length, Nat.mul_comm]; exact bnd_le hk.2.2.2, (List.replicate k.toNat its).flatten, rv.rep _, ⟨_, Heap.get?_push_size _ rfl, rfl, _, rfl⟩⟩
        · exact po1t sB q eg (r1.rep _) (I.hok.fresh (Nat.le_refl _))
      · rw [show mulT (.tup ts) (.int k) = .bad from if_neg hk] at q; exact q.elim
    | _ => exact q.elim
  | _ => cases r' <;> exact q.elim
theorem s_sub (ha : Snd X Y a fa) (hb : Snd X Y b fb) : Snd X Y (.BinOp a .Sub b pos) (binE subT fa fb) := s_bin op_subT ha hb
theorem s_mod (ha : Snd X Y a fa) (hb : Snd X Y b fb) : Snd X Y (.BinOp a .Mod b pos) (binE modT fa fb) := s_bin op_modT ha hb
theorem s_fdiv (ha : Snd X Y a fa) (hb : Snd X Y b fb) : Snd X Y (.BinOp a .FloorDiv b pos) (binE fdivT fa fb) := s_bin op_fdivT ha hb
theorem s_mul (ha : Snd X Y a fa) (hb : Snd X Y b fb) : Snd X Y (.BinOp a .Mult b pos) (binE mulT fa fb) := s_bin op_mulT ha hb
def negE (fa : En → R T) : En → R T := fun ρ => (fa ρ).bind fun x => match x with
  | .int i => .ok (.int (-i))
  | _ => .bad
theorem s_neg (ha : Snd X Y a fa) : Snd X Y (.UnaryOp .USub a pos) (negE fa) := .mk fun ρ => PE.imp (pe_un un_neg (ha ρ)) fun σ H Q ⟨B, I, q⟩ => step I q fun t v H1 _ s1 r1 I1 q1 => by
  cases r1 with
  | int i => exact ⟨i, rfl, po0 I1.sB q1 rfl (.int _)⟩
  | _ => exact q1.elim

/-! ### comparisons -/
def rCmp (g : T → T → R Bool) : R2 := fun x y H Q => ∃ t t' b, Rep H x t ∧ Rep H y t' ∧ g t t' = .ok b ∧ Q (.bl b) H
def cmpE (g : T → T → R Bool) (fa fb : En → R T) : En → R T := fun ρ => (fa ρ).bind fun x => (fb ρ).bind fun y => (g x y).bind fun b => .ok (.bl b)
def cmpT (g : T → T → R Bool) (fa fb : En → R T) : En → R Bool := fun ρ => (fa ρ).bind fun x => (fb ρ).bind fun y => g x y
/-- comparisons don't raise -/
def Nx (g : T → T → R Bool) : Prop := ∀ t t' c, g t t' ≠ .ex c
theorem s_cmp {op : CmpOp} {g : T → T → R Bool} (nx : Nx g) (ho : OpR X (compareOp op) (rCmp g)) (ha : SndB X Y a fa) (hb : SndB X Y b fb) (hm : behindInMarks op b = false) : Snd X Y (.Compare a [op] [b] pos) (cmpE g fa fb) := .mk fun ρ =>
  PE.imp (pe_cmpR ho (ha ρ) (hb ρ) hm) fun σ H Q ⟨B, I, q⟩ => step I q fun t v H1 _ s1 r1 I1 q1 => step I1 q1 fun t' v' H2 _ s2 r2 I2 q2 => by
    cases e : g t t' with
    | bad => rw [e] at q2; exact q2.elim
    | ex c => exact absurd e (nx _ _ _)
    | ok b => rw [e] at q2; exact ⟨t, t', b, r1.mono s2, r2, e, fin0 I2 q2 (.bl b)⟩
theorem t_cmp {op : CmpOp} {g : T → T → R Bool} (nx : Nx g) (ho : OpR X (compareOp op) (rCmp g)) (ha : SndB X Y a fa) (hb : SndB X Y b fb) (hm : behindInMarks op b = false) : SndT X Y (.Compare a [op] [b] pos) (cmpT g fa fb) := .mk fun ρ =>
  PT.imp (pt_cmpR ho (ha ρ) (hb ρ) hm) fun σ H Q ⟨B, I, q⟩ => step I q fun t v H1 _ s1 r1 I1 q1 => step I1 q1 fun t' v' H2 _ s2 r2 I2 q2 => by
    cases e : g t t' with
    | bad => rw [e] at q2; exact q2.elim
    | ex c => exact absurd e (nx _ _ _)
    | ok b => rw [e] at q2; exact ⟨t, t', b, r1.mono s2, r2, e, b, rfl, fin0 I2 q2 rfl⟩
def eqC (t t' : T) : R Bool := match eqF 30 t t' with
  | some b => .ok b
  | none => .bad
def neC (t t' : T) : R Bool := match eqF 30 t t' with
  | some b => .ok (!b)
  | none => .bad
theorem nx_eq : Nx eqC := fun t t' c h => by unfold eqC at h; split at h <;> cases h
theorem nx_ne : Nx neC := fun t t' c h => by unfold neC at h; split at h <;> cases h
theorem op_eqC (hu : X.A.units + 64 < cLine) : OpR X (compareOp .Eq) (rCmp eqC) := by
  intro pins s σ H x y v u Q I rx ry h
  obtain ⟨t, t', b, r, r', e, q⟩ := h
  unfold eqC at e
  split at e
  · rename_i k ek
    have e' : k = b := by injection e
    subst e'
    exact (eq_ok I 30 X.A (by omega) t t' k x y v u ek r r' rx ry).2.1 _ _ _ _ ⟨.bl k, H, I, rfl, q⟩
  · cases e
theorem op_neC (hu : X.A.units + 64 < cLine) : OpR X (compareOp .NotEq) (rCmp neC) := by
  intro pins s σ H x y v u Q I rx ry h
  obtain ⟨t, t', b, r, r', e, q⟩ := h
  unfold neC at e
  split at e
  · rename_i k ek
    cases e
    exact (eq_ok I 30 X.A (by omega) t t' k x y v u ek r r' rx ry).2.2 _ _ _ _ ⟨.bl (!k), H, I, rfl, q⟩
  · cases e
def ltC : T → T → R Bool
  | .int i, .int j => .ok (decide (i < j))
  | _, _ => .bad
def leC : T → T → R Bool
  | .int i, .int j => .ok (decide (i ≤ j))
  | .str x, .str y => .ok (!decide (y.cps.toList < x.cps.toList))
  | _, _ => .bad
def gtC : T → T → R Bool
  | .int i, .int j => .ok (decide (j < i))
  | _, _ => .bad
def geC : T → T → R Bool
  | .int i, .int j => .ok (decide (j ≤ i))
  | _, _ => .bad
theorem nx_lt : Nx ltC := fun t t' c h => by unfold ltC at h; split at h <;> cases h
theorem nx_le : Nx leC := fun t t' c h => by unfold leC at h; split at h <;> cases h
theorem nx_gt : Nx gtC := fun t t' c h => by unfold gtC at h; split at h <;> cases h
theorem nx_ge : Nx geC := fun t t' c h => by unfold geC at h; split at h <;> cases h
theorem op_ltC : OpR X (compareOp .Lt) (rCmp ltC) := by
  intro pins s σ H x y v u Q I rx ry h
  obtain ⟨t, t', b, r, r', e, q⟩ := h
  unfold ltC at e
  split at e
  · rename_i i j; cases e; cases r; cases r'; exact op_lt pins s σ H _ _ v u Q I rx ry ⟨i, j, rfl, rfl, q⟩
  · cases e
theorem op_gtC : OpR X (compareOp .Gt) (rCmp gtC) := by
  intro pins s σ H x y v u Q I rx ry h
  obtain ⟨t, t', b, r, r', e, q⟩ := h
  unfold gtC at e
  split at e
  · rename_i i j; cases e; cases r; cases r'; exact op_gt pins s σ H _ _ v u Q I rx ry ⟨i, j, rfl, rfl, q⟩
  · cases e
theorem op_geC : OpR X (compareOp .GtE) (rCmp geC) := by
  intro pins s σ H x y v u Q I rx ry h
  obtain ⟨t, t', b, r, r', e, q⟩ := h
  unfold geC at e
  split at e
  · rename_i i j; cases e; cases r; cases r'; exact op_ge pins s σ H _ _ v u Q I rx ry ⟨i, j, rfl, rfl, q⟩
  · cases e
theorem op_leC : OpR X (compareOp .LtE) (rCmp leC) := by
  intro pins s σ H x y v u Q I rx ry h
  obtain ⟨t, t', b, r, r', e, q⟩ := h
  unfold leC at e
  split at e
  · rename_i i j; cases e; cases r; cases r'; exact op_le pins s σ H _ _ v u Q I rx ry ⟨i, j, rfl, rfl, q⟩
  · rename_i i j; cases e; cases r; cases r'
    obtain ⟨t1, rfl⟩ := rx
    obtain ⟨t2, rfl⟩ := ry
    exact PySem.P.le_str ⟨.bl _, H, I, rfl, q⟩
  · cases e
end
end PV

namespace PV
open PySem PySem.Spec PyProof.Rows L2
section
variable {X : Cx} {Y : Fx} {a b c d : Expr} {fa fb fc fd : En → R T} {pos : Pos}
/-! ### in, not in -/
def anyF (f : T → Option Bool) : List T → Option Bool
  | [] => some false
  | t :: r => match f t with
    | none => none
    | some b => match anyF f r with
      | none => none
      | some c => some (b || c)
def inC (t t' : T) : R Bool := match t' with
  | .tup ys => match anyF (fun y => eqF 30 y t) ys with | some b => .ok b | none => .bad
  | .lst ys => match anyF (fun y => eqF 30 y t) ys with | some b => .ok b | none => .bad
  | _ => .bad
def ninC (t t' : T) : R Bool := (inC t t').bind fun b => .ok (!b)
theorem nx_in : Nx inC := fun t t' c h => by
  unfold inC at h
  split at h
  · split at h <;> cases h
  · split at h <;> cases h
  · cases h
theorem nx_nin : Nx ninC := fun t t' c h => by
  unfold ninC at h
  cases e : inC t t' with
  | bad => rw [e] at h; cases h
  | ex k => exact absurd e (nx_in _ _ _)
  | ok k => rw [e] at h; cases h
open Classical in
theorem val_fun {H : Hp} (f : T → Option Bool) : ∃ e : Value → Bool, ∀ (v : V) (t : T) (u : Value) (b : Bool), RelV v u → Rep H v t → f t = some b → e u = b := by
  refine ⟨fun u => decide (∃ v t, RelV v u ∧ Rep H v t ∧ f t = some true), fun v t u b rv r e => ?_⟩
  cases b with
  | true => exact decide_eq_true ⟨v, t, rv, r, e⟩
  | false =>
    refine decide_eq_false ?_
    rintro ⟨v', t', rv', r', e'⟩
    have := rv.inj rv'; subst this
    have := r.fn r'; subst this
    rw [e] at e'; cases e'
theorem any_of {H : Hp} {f : T → Option Bool} {e : Value → Bool} (he : ∀ (v : V) (t : T) (u : Value) (b : Bool), RelV v u → Rep H v t → f t = some b → e u = b) : ∀ {xs : List V} {ts : List T} {its : List Value} {b : Bool},
    Vals xs its → Reps H xs ts → anyF f ts = some b → its.any e = b ∧ ∀ u ∈ its, ∃ v t k, RelV v u ∧ Rep H v t ∧ f t = some k
  | _, _, _, b, .nil, .nil, h => by
    have h' : some false = some b := h
    cases h'
    exact ⟨rfl, fun u hu => by simp at hu⟩
  | _, _, _, b, .cons rv vs, .cons r rs, h => by
    rename_i v u vals us t ts
    unfold anyF at h
    cases q : f t with
    | none => rw [q] at h; cases h
    | some k =>
      rw [q] at h
      cases q' : anyF f ts with
      | none => rw [q'] at h; cases h
      | some k' =>
        rw [q'] at h
        cases h
        obtain ⟨h1, h2⟩ := any_of he vs rs q'
        refine ⟨by rw [List.any_cons, h1, he v t u k rv r q], fun w hw => ?_⟩
        rcases List.mem_cons.mp hw with rfl | hw
        · exact ⟨v, t, k, rv, r, q⟩
        · exact h2 w hw
theorem in_core (hu : X.A.units + 64 < cLine) (neg : Bool) : OpR X (compareOp (if neg then .NotIn else .In)) (rCmp (if neg then ninC else inC)) := by
  intro pins s σ H x y v u Q I rx ry h
  obtain ⟨t, t', b, r, r', e, q⟩ := h
  have hs : ∃ k, inC t t' = .ok k ∧ b = (if neg then !k else k) := by
    cases neg with
    | false => exact ⟨b, e, rfl⟩
    | true =>
      have e' : ninC t t' = .ok b := e
      unfold ninC at e'
      cases z : inC t t' with
      | bad => rw [z] at e'; cases e'
      | ex k => exact absurd z (nx_in _ _ _)
      | ok k => rw [z] at e'; cases e'; exact ⟨k, rfl, rfl⟩
  obtain ⟨k, ek, rfl⟩ := hs
  unfold inC at ek
  obtain ⟨f, hf⟩ := val_fun (H := H) fun y => eqF 30 y t
  have eqa : ∀ w, (∃ v t' k, RelV v w ∧ Rep H v t' ∧ eqF 30 t' t = some k) → SeqAt.EqAt X.A.in1 s w v (f w) := fun w ⟨v', t', k, rv, rr, ee⟩ => by
    rw [hf v' t' w k rv rr ee]
    exact (eq_ok I 30 X.A.in1 (by rw [units_in1]; omega) t' t k v' x w v ee rr r rv rx).1
  split at ek
  · rename_i ys
    split at ek
    · rename_i k' hk
      cases ek
      cases r' with
      | @tup l xs _ h1 r1 =>
        obtain rfl : u = Value.ref l := ry
        obtain ⟨its, rv, p, _⟩ := seq_tup I h1 r1
        obtain ⟨h2, h3⟩ := any_of hf rv r1 hk
        have h4 : its.toArray.any f = k := by simpa using h2
        cases neg with
        | false => exact SeqAt.in_tupleAt f p (fun w hw => eqa w (h3 w (by simpa using hw))) (by rw [h4]; exact ⟨.bl k, H, I, rfl, q⟩)
        | true => exact SeqAt.notIn_tupleAt f p (fun w hw => eqa w (h3 w (by simpa using hw))) (by rw [h4]; exact ⟨.bl (!k), H, I, rfl, q⟩)
    · cases ek
  · rename_i ys
    split at ek
    · rename_i k' hk
      cases ek
      cases r' with
      | @lst l xs _ h1 r1 =>
        obtain rfl : u = Value.ref l := ry
        obtain ⟨its, rv, p, _⟩ := seq_lst I (.inl h1) r1
        obtain ⟨h2, h3⟩ := any_of hf rv r1 hk
        have h4 : its.toArray.any f = k := by simpa using h2
        cases neg with
        | false => exact SeqAt.in_listAt f p (fun w hw => eqa w (h3 w (by simpa using hw))) (by rw [h4]; exact ⟨.bl k, H, I, rfl, q⟩)
        | true => exact SeqAt.notIn_listAt f p (fun w hw => eqa w (h3 w (by simpa using hw))) (by rw [h4]; exact ⟨.bl (!k), H, I, rfl, q⟩)
    · cases ek
  · cases ek
theorem op_inC (hu : X.A.units + 64 < cLine) : OpR X (compareOp .In) (rCmp inC) := in_core hu false
theorem op_ninC (hu : X.A.units + 64 < cLine) : OpR X (compareOp .NotIn) (rCmp ninC) := in_core hu true

/-! ### is -/
def isNC (t t' : T) : R Bool := match t' with
  | .non => match t with | .non => .ok true | _ => .ok false
  | .bl k => match t with | .bl j => .ok (j == k) | _ => .ok false
  | _ => .bad
def isnNC (t t' : T) : R Bool := (isNC t t').bind fun b => .ok (!b)
theorem nx_is : Nx isNC := fun t t' c h => by
  unfold isNC at h
  split at h
  · split at h <;> cases h
  · split at h <;> cases h
  · cases h
theorem nx_isn : Nx isnNC := fun t t' c h => by
  unfold isnNC at h
  cases e : isNC t t' with
  | bad => rw [e] at h; cases h
  | ex k => exact absurd e (nx_is _ _ _)
  | ok k => rw [e] at h; cases h
theorem is_core (neg : Bool) : OpR X (compareOp (if neg then .IsNot else .Is)) (rCmp (if neg then isnNC else isNC)) := by
  intro pins s σ H x y v u Q I rx ry h
  obtain ⟨t, t', b, r, r', e, q⟩ := h
  have hs : ∃ k, isNC t t' = .ok k ∧ b = (if neg then !k else k) := by
    cases neg with
    | false => exact ⟨b, e, rfl⟩
    | true =>
      have e' : isnNC t t' = .ok b := e
      unfold isnNC at e'
      cases z : isNC t t' with
      | bad => rw [z] at e'; cases e'
      | ex k => exact absurd z (nx_is _ _ _)
      | ok k => rw [z] at e'; cases e'; exact ⟨k, rfl, rfl⟩
  obtain ⟨k, ek, rfl⟩ := hs
  have go : plainIs v u = true ∧ (v == u) = k := by
    cases r' with
    | non =>
      obtain rfl : u = Value.none := ry
      cases r with
      | non => obtain rfl : v = Value.none := rx; cases ek; exact ⟨rfl, rfl⟩
      | bl j => obtain rfl : v = Value.bool j := rx; cases ek; exact ⟨rfl, rfl⟩
      | int j => obtain ⟨t, rfl⟩ := rx; cases ek; exact ⟨rfl, rfl⟩
      | str j => obtain ⟨t, rfl⟩ := rx; cases ek; exact ⟨rfl, rfl⟩
      | tup _ _ => obtain rfl : v = Value.ref _ := rx; cases ek; exact ⟨rfl, rfl⟩
      | lst _ _ => obtain rfl : v = Value.ref _ := rx; cases ek; exact ⟨rfl, rfl⟩
      | fz _ _ => obtain rfl : v = Value.ref _ := rx; cases ek; exact ⟨rfl, rfl⟩
    | bl k' =>
      obtain rfl : u = Value.bool k' := ry
      cases r with
      | non => obtain rfl : v = Value.none := rx; cases ek; exact ⟨rfl, rfl⟩
      | bl j => obtain rfl : v = Value.bool j := rx; cases ek; exact ⟨rfl, by cases j <;> cases k' <;> rfl⟩
      | int j => obtain ⟨t, rfl⟩ := rx; cases ek; exact ⟨rfl, rfl⟩
      | str j => obtain ⟨t, rfl⟩ := rx; cases ek; exact ⟨rfl, rfl⟩
      | tup _ _ => obtain rfl : v = Value.ref _ := rx; cases ek; exact ⟨rfl, rfl⟩
      | lst _ _ => obtain rfl : v = Value.ref _ := rx; cases ek; exact ⟨rfl, rfl⟩
      | fz _ _ => obtain rfl : v = Value.ref _ := rx; cases ek; exact ⟨rfl, rfl⟩
    | _ => cases ek
  cases neg with
  | false => exact wpAny_is_plain go.1 (by rw [go.2]; exact ⟨.bl k, H, I, rfl, q⟩)
  | true => exact wpAny_isNot_plain go.1 (by rw [go.2]; exact ⟨.bl (!k), H, I, rfl, q⟩)
theorem op_isC : OpR X (compareOp .Is) (rCmp isNC) := is_core false
theorem op_isnC : OpR X (compareOp .IsNot) (rCmp isnNC) := is_core true

/-! ### chains -/
def chE (g g' : T → T → R Bool) (fa fb fc : En → R T) : En → R T := fun ρ => (fa ρ).bind fun x => (fb ρ).bind fun y => (g x y).bind fun k => if k = true then (fc ρ).bind fun z => (g' y z).bind fun k' => .ok (.bl k') else .ok (.bl false)
def chT (g g' : T → T → R Bool) (fa fb fc : En → R T) : En → R Bool := fun ρ => (fa ρ).bind fun x => (fb ρ).bind fun y => (g x y).bind fun k => if k = true then (fc ρ).bind fun z => g' y z else .ok false
theorem s_chain {op op' : CmpOp} {g g' : T → T → R Bool} (nx : Nx g) (nx' : Nx g') (ho : OpR X (compareOp op) (rCmp g)) (ho' : OpR X (compareOp op') (rCmp g')) (ha : SndB X Y a fa) (hb : SndB X Y b fb) (hc : SndB X Y c fc)
    (hm : lastMarks [op, op'] [b, c] = false := by with_unfolding_all rfl) : Snd X Y (.Compare a [op, op'] [b, c] pos) (chE g g' fa fb fc) := .mk fun ρ =>
  PE.imp (pe_chain ho ho' (ha ρ) (hb ρ) (hc ρ) hm) fun σ H Q ⟨B, I, q⟩ => step I q fun t v H1 _ s1 r1 I1 q1 => step I1 q1 fun t' v' H2 _ s2 r2 I2 q2 => by
    cases e : g t t' with
    | bad => rw [e] at q2; exact q2.elim
    | ex c => exact absurd e (nx _ _ _)
    | ok k =>
      rw [e] at q2
      refine ⟨t, t', k, r1.mono s2, r2, e, k, rfl, ?_⟩
      cases k with
      | false => exact fin0 I2 q2 (.bl false)
      | true =>
        refine step I2 q2 fun t3 v3 H3 _ s3 r3 I3 q3 => ?_
        · cases e : g' t' t3 with
          | bad => rw [e] at q3; exact q3.elim
          | ex c => exact absurd e (nx' _ _ _)
          | ok k => rw [e] at q3; exact ⟨t', t3, k, r2.mono s3, r3, e, fin0 I3 q3 (.bl k)⟩
theorem t_chain {op op' : CmpOp} {g g' : T → T → R Bool} (nx : Nx g) (nx' : Nx g') (ho : OpR X (compareOp op) (rCmp g)) (ho' : OpR X (compareOp op') (rCmp g')) (ha : SndB X Y a fa) (hb : SndB X Y b fb) (hc : SndB X Y c fc)
    (hm : lastMarks [op, op'] [b, c] = false := by with_unfolding_all rfl) : SndT X Y (.Compare a [op, op'] [b, c] pos) (chT g g' fa fb fc) := .mk fun ρ =>
  PT.imp (pt_chain ho ho' (ha ρ) (hb ρ) (hc ρ) hm) fun σ H Q ⟨B, I, q⟩ => step I q fun t v H1 _ s1 r1 I1 q1 => step I1 q1 fun t' v' H2 _ s2 r2 I2 q2 => by
    cases e : g t t' with
    | bad => rw [e] at q2; exact q2.elim
    | ex c => exact absurd e (nx _ _ _)
    | ok k =>
      rw [e] at q2
      refine ⟨t, t', k, r1.mono s2, r2, e, k, rfl, ?_⟩
      cases k with
      | false => exact ⟨false, rfl, fin0 I2 q2 rfl⟩
      | true =>
        refine step I2 q2 fun t3 v3 H3 _ s3 r3 I3 q3 => ?_
        · cases e : g' t' t3 with
          | bad => rw [e] at q3; exact q3.elim
          | ex c => exact absurd e (nx' _ _ _)
          | ok k => rw [e] at q3; exact ⟨t', t3, k, r2.mono s3, r3, e, k, rfl, fin0 I3 q3 rfl⟩
/-- four in a chain -/
def tChain3 (r r' r'' : R2) (ta tb tc td : TE) : TE := fun σ H Q => ta σ H fun x H1 => tb σ H1 fun y H2 => r x y H2 fun z H3 => ∃ k, z = .bl k ∧
  (if k = true then tc σ H3 fun w' H4 => r' y w' H4 fun z' H5 => ∃ k', z' = .bl k' ∧ (if k' = true then td σ H5 fun w2 H6 => r'' w' w2 H6 Q else Q (.bl false) H5) else Q (.bl false) H3)
theorem pe_chain3 {op op' op'' : CmpOp} {r r' r'' : R2} {ta tb tc td : TE} (ho : OpR X (compareOp op) r) (ho' : OpR X (compareOp op') r') (ho'' : OpR X (compareOp op'') r'') (ha : PE X a ta) (hb : PE X b tb) (hc : PE X c tc) (hd : PE X d td)
    (hm : lastMarks [op, op', op''] [b, c, d] = false := by with_unfolding_all rfl) : PE X (.Compare a [op, op', op''] [b, c, d] pos) (tChain3 r r' r'' ta tb tc td) := by
  intro pins s σ H Q I h
  refine Compare_chain (thn (ha pins s σ H _ I h) fun v s1 ⟨x, H1, I1, r1, q1⟩ => chain_link (thn (hb pins s1 σ H1 _ I1 q1) fun u s2 ⟨y, H2, I2, r2, q2⟩ =>
    thn (ho pins s2 σ H2 x y v u _ I2 r1 r2 q2) fun d' s3 ⟨z, H3, I3, r3, k, e, q3⟩ => ?_)) hm
  subst e
  cases r3
  refine wpAny_truthy_bool ?_
  cases k with
  | false => exact ite_ff ⟨.bl false, H3, I3, rfl, q3⟩
  | true =>
    refine ite_tt (chain_link (thn (hc pins s3 σ H3 _ I3 q3) fun w' s4 ⟨z', H4, I4, r4, q4⟩ => thn (ho' pins s4 σ H4 y z' u w' _ I4 r2 r4 q4) fun d2 s5 ⟨z5, H5, I5, r5, k5, e5, q5⟩ => ?_))
    subst e5
    cases r5
    refine wpAny_truthy_bool ?_
    cases k5 with
    | false => exact ite_ff ⟨.bl false, H5, I5, rfl, q5⟩
    | true => exact ite_tt (chain_last (thn (hd pins s5 σ H5 _ I5 q5) fun w6 s6 ⟨z6, H6, I6, r6, q6⟩ => ho'' pins s6 σ H6 z' z6 w' w6 Q I6 r4 r6 q6))
def ch3E (g g' g'' : T → T → R Bool) (fa fb fc fd : En → R T) : En → R T := fun ρ => (fa ρ).bind fun x => (fb ρ).bind fun y => (g x y).bind fun k => if k = true then (fc ρ).bind fun z => (g' y z).bind fun k' =>
  if k' = true then (fd ρ).bind fun w => (g'' z w).bind fun k'' => .ok (.bl k'') else .ok (.bl false) else .ok (.bl false)
theorem s_chain3 {op op' op'' : CmpOp} {g g' g'' : T → T → R Bool} (nx : Nx g) (nx' : Nx g') (nx'' : Nx g'') (ho : OpR X (compareOp op) (rCmp g)) (ho' : OpR X (compareOp op') (rCmp g')) (ho'' : OpR X (compareOp op'') (rCmp g''))
    (ha : SndB X Y a fa) (hb : SndB X Y b fb) (hc : SndB X Y c fc) (hd : SndB X Y d fd)
    (hm : lastMarks [op, op', op''] [b, c, d] = false := by with_unfolding_all rfl) : Snd X Y (.Compare a [op, op', op''] [b, c, d] pos) (ch3E g g' g'' fa fb fc fd) := .mk fun ρ =>
  PE.imp (pe_chain3 ho ho' ho'' (ha ρ) (hb ρ) (hc ρ) (hd ρ) hm) fun σ H Q ⟨B, I, q⟩ => step I q fun t v H1 _ s1 r1 I1 q1 => step I1 q1 fun t' v' H2 _ s2 r2 I2 q2 => by
    cases e : g t t' with
    | bad => rw [e] at q2; exact q2.elim
    | ex c => exact absurd e (nx _ _ _)
    | ok k =>
      rw [e] at q2
      refine ⟨t, t', k, r1.mono s2, r2, e, k, rfl, ?_⟩
      cases k with
      | false => exact fin0 I2 q2 (.bl false)
      | true =>
        refine step I2 q2 fun t3 v3 H3 _ s3 r3 I3 q3 => ?_
        · cases e : g' t' t3 with
          | bad => rw [e] at q3; exact q3.elim
          | ex c => exact absurd e (nx' _ _ _)
          | ok k =>
            rw [e] at q3
            refine ⟨t', t3, k, r2.mono s3, r3, e, k, rfl, ?_⟩
            cases k with
            | false => exact fin0 I3 q3 (.bl false)
            | true =>
              refine step I3 q3 fun t4 v4 H4 _ s4 r4 I4 q4 => ?_
              · cases e : g'' t3 t4 with
                | bad => rw [e] at q4; exact q4.elim
                | ex c => exact absurd e (nx'' _ _ _)
                | ok k => rw [e] at q4; exact ⟨t3, t4, k, r3.mono s4, r4, e, fin0 I4 q4 (.bl k)⟩

/-! ### and, or, not, if -/
variable {rest : List Expr} {ga gb : En → R Bool}
def andE (fa fb : En → R T) : En → R T := fun ρ => (fa ρ).bind fun x => match x with
  | .bl true => fb ρ
  | .bl false => .ok (.bl false)
  | _ => .bad
def orE (fa fb : En → R T) : En → R T := fun ρ => (fa ρ).bind fun x => match x with
  | .bl true => .ok (.bl true)
  | .bl false => fb ρ
  | _ => .bad
def notE (fa : En → R T) : En → R T := fun ρ => (fa ρ).bind fun x => match x with
  | .bl k => .ok (.bl (!k))
  | _ => .bad
theorem s_one {op} (h : Snd X Y a fa) : Snd X Y (.BoolOp op [a] pos) fa := .mk fun ρ => pe_one (h ρ)
theorem s_and (ha : Snd X Y a fa) (hb : Snd X Y (.BoolOp .And (b :: rest) pos) fb) : Snd X Y (.BoolOp .And (a :: b :: rest) pos) (andE fa fb) := .mk fun ρ =>
  PE.imp (pe_and (ha ρ) (hb ρ)) fun σ H Q ⟨B, I, q⟩ => step I q fun t v H1 _ s1 r1 I1 q1 => by
    cases r1 with
    | bl k =>
      refine ⟨k, rfl, ?_⟩
      cases k with
      | true => exact ⟨_, I1, q1⟩
      | false => exact fin0 I1 q1 (.bl false)
    | _ => exact q1.elim
theorem s_or (ha : Snd X Y a fa) (hb : Snd X Y (.BoolOp .Or (b :: rest) pos) fb) : Snd X Y (.BoolOp .Or (a :: b :: rest) pos) (orE fa fb) := .mk fun ρ =>
  PE.imp (pe_or (ha ρ) (hb ρ)) fun σ H Q ⟨B, I, q⟩ => step I q fun t v H1 _ s1 r1 I1 q1 => by
    cases r1 with
    | bl k =>
      refine ⟨k, rfl, ?_⟩
      cases k with
      | false => exact ⟨_, I1, q1⟩
      | true => exact fin0 I1 q1 (.bl true)
    | _ => exact q1.elim
theorem s_not (ha : Snd X Y a fa) : Snd X Y (.UnaryOp .Not a pos) (notE fa) := .mk fun ρ =>
  PE.imp (pe_not (ha ρ)) fun σ H Q ⟨B, I, q⟩ => step I q fun t v H1 _ s1 r1 I1 q1 => by
    cases r1 with
    | bl k => exact ⟨k, rfl, fin0 I1 q1 (.bl (!k))⟩
    | _ => exact q1.elim
structure SndW (X : Cx) (Y : Fx) (e : Expr) (f : En → R Bool) : Prop where
  mk ::
  go : ∀ ρ, PW X e (tS Y rE f ρ)
instance {X : Cx} {Y : Fx} {e : Expr} {f : En → R Bool} : CoeFun (SndW X Y e f) fun _ => ∀ ρ, PW X e (tS Y rE f ρ) := ⟨SndW.go⟩
theorem SndW.t {e : Expr} {f : En → R Bool} (h : SndW X Y e f) : SndT X Y e f := .mk fun ρ => (h ρ).pt
theorem PW.imp {e : Expr} {t t' : TT} (h : PW X e t) (i : ∀ σ H Q, t' σ H Q → t σ H Q) : PW X e t' := fun wh pins s σ H Q I q => h wh pins s σ H Q I (i σ H Q q)
def andT (fa fb : En → R Bool) : En → R Bool := fun ρ => (fa ρ).bind fun x => if x = true then fb ρ else .ok false
def orT (fa fb : En → R Bool) : En → R Bool := fun ρ => (fa ρ).bind fun x => if x = true then .ok true else fb ρ
def notT (fa : En → R Bool) : En → R Bool := fun ρ => (fa ρ).bind fun x => .ok (!x)
theorem w_and1 (h : SndT X Y a ga) : SndW X Y (.BoolOp .And [a] pos) ga := .mk fun ρ => pw_and1 (h ρ)
theorem w_or1 (h : SndT X Y a ga) : SndW X Y (.BoolOp .Or [a] pos) ga := .mk fun ρ => pw_or1 (h ρ)
theorem w_and (ha : SndT X Y a ga) (hb : SndW X Y (.BoolOp .And (b :: rest) pos) gb) : SndW X Y (.BoolOp .And (a :: b :: rest) pos) (andT ga gb) := .mk fun ρ =>
  PW.imp (pw_and (ha ρ) (hb ρ)) fun σ H Q ⟨B, I, q⟩ => step I q fun t v H1 _ s1 r1 I1 q1 => by
    have r1' : v = t := r1
    subst r1'
    cases v with
    | true => exact ⟨_, I1, q1⟩
    | false => exact fin0 I1 q1 rfl
theorem w_or (ha : SndT X Y a ga) (hb : SndW X Y (.BoolOp .Or (b :: rest) pos) gb) : SndW X Y (.BoolOp .Or (a :: b :: rest) pos) (orT ga gb) := .mk fun ρ =>
  PW.imp (pw_or (ha ρ) (hb ρ)) fun σ H Q ⟨B, I, q⟩ => step I q fun t v H1 _ s1 r1 I1 q1 => by
    have r1' : v = t := r1
    subst r1'
    cases v with
    | false => exact ⟨_, I1, q1⟩
    | true => exact fin0 I1 q1 rfl
theorem t_not (ha : SndT X Y a ga) : SndT X Y (.UnaryOp .Not a pos) (notT ga) := .mk fun ρ =>
  PT.imp (pt_not (ha ρ)) fun σ H Q ⟨B, I, q⟩ => step I q fun t v H1 _ s1 r1 I1 q1 => by
    have r1' : v = t := r1
    subst r1'
    exact fin0 I1 q1 rfl
def tru : T → R Bool
  | .bl k => .ok k
  | .non => .ok false
  | .int i => .ok (i != 0)
  | .tup xs => .ok (!xs.isEmpty)
  | .lst xs => .ok (!xs.isEmpty)
  | _ => .bad
def truT (fa : En → R T) : En → R Bool := fun ρ => (fa ρ).bind tru
theorem isE {H : Hp} {xs : List V} {ts : List T} (r : Reps H xs ts) : (!xs.isEmpty) = !ts.isEmpty := by cases r <;> rfl
theorem t_val (ha : SndB X Y a fa) (he : ∀ whole, isTrue a X.env whole = (do let v ← whole; standAt a.pos; holding [v] (truthy v)) := by intro _; rfl) : SndT X Y a (truT fa) := .mk fun ρ =>
  PT.imp (pt_truth (ha ρ) he) fun σ H Q ⟨B, I, q⟩ => step I q fun t v H1 _ s1 r1 I1 q1 => by
    cases r1 with
    | bl k => exact ⟨k, rfl, fin0 I1 q1 rfl⟩
    | non => exact ⟨false, rfl, fin0 I1 q1 rfl⟩
    | int i => exact ⟨_, rfl, fin0 I1 q1 rfl⟩
    | tup h r => exact ⟨_, .inr (.inl ⟨_, SqT.of h, rfl⟩), fin0 I1 q1 (isE r)⟩
    | lst h r => exact ⟨_, .inl ⟨_, SqL.of h, rfl⟩, fin0 I1 q1 (isE r)⟩
    | _ => exact q1.elim
def ifE (g : En → R Bool) (fa fb : En → R T) : En → R T := fun ρ => (g ρ).bind fun k => if k = true then fa ρ else fb ρ
theorem s_if (hc : SndT X Y c ga) (ha : Snd X Y a fa) (hb : Snd X Y b fb) : Snd X Y (.IfExp c a b pos) (ifE ga fa fb) := .mk fun ρ =>
  PE.imp (pe_ifExp (hc ρ) (ha ρ) (hb ρ)) fun σ H Q ⟨B, I, q⟩ => step I q fun t v H1 _ s1 r1 I1 q1 => by
    have r1' : v = t := r1
    subst r1'
    cases v with
    | true => exact ⟨_, I1, q1⟩
    | false => exact ⟨_, I1, q1⟩
end
end PV

namespace PV
open PySem PySem.Spec PyProof.Rows L2
section
variable {X : Cx} {Y : Fx} {a b c d : Expr} {fa fb fc fd : En → R T} {pos p : Pos}
/-! ### one argument that is looked at; one that is kept -/
def ap1 (g : T → R T) (fa : En → R T) : En → R T := fun ρ => (fa ρ).bind g
abbrev St1 (X : Cx) (a : Expr) : Prop := starEach [a] X.env = [(false, eval a X.env)]
theorem s_look {id : String} {x : Str} {r : List V → Hp → VK → Prop} {g : T → R T} (hc : CallR X (.builtin id) r) (hr : ∀ v t B H Q, Rep H v t → Same B H → Po Y rC B H (g t) Q → r [v] H Q)
    (gl : Gl X x) (mg : X.mg x = none) (bt : bootBuiltins x = some (.builtin id)) (ha : SndB X Y a fa) (hs : St1 X a := by exact st1 rfl) (hn : x ≠ "__name__" := by decide) (hd : (x == ("__debug__" : Str)) = false := by decide) : Snd X Y (.Call (.Name x p) [a] [] pos) (ap1 g fa) := .mk fun ρ =>
  PE.imp (pe_callB hc gl mg bt (pa_cons (ha ρ) pa_nil hs) hn hd hs rfl) fun σ H Q ⟨B, I, q⟩ => step I q fun t v H1 _ s1 r1 I1 q1 => hr v t _ H1 Q r1 I1.sB q1
theorem s_keep {id : String} {x : Str} {r : List V → Hp → VK → Prop} {g : T → R T} (hc : CallR X (.type id) r) (hr : ∀ v t B H Q, Rep B v t → Same B H → Po Y rC B H (g t) Q → r [v] H Q)
    (gl : Gl X x) (mg : X.mg x = none) (bt : bootBuiltins x = some (.type id)) (ha : Snd X Y a fa) (hs : St1 X a := by exact st1 rfl) (hn : x ≠ "__name__" := by decide) (hd : (x == ("__debug__" : Str)) = false := by decide) : Snd X Y (.Call (.Name x p) [a] [] pos) (ap1 g fa) := .mk fun ρ =>
  PE.imp (pe_callTy hc gl mg bt (pa_cons (ha ρ) pa_nil hs) hn hd hs rfl) fun σ H Q ⟨B, I, q⟩ => step I q fun t v H1 _ s1 r1 I1 q1 => hr v t _ H1 Q r1 I1.sB q1
/-! ### len -/
def lenT : T → R T
  | .tup xs => .ok (.int xs.length)
  | .lst xs => .ok (.int xs.length)
  | .fz xs => .ok (.int xs.length)
  | .str x => if x.length ≤ bnd then .ok (.int x.length) else .bad
  | _ => .bad
theorem len_r (v : V) (t : T) (B H : Hp) (Q : VK) (r : Rep H v t) (sB : Same B H) (q : Po Y rC B H (lenT t) Q) :
    (∃ p ys, [v] = [V.ref p] ∧ (SqL X.K H p ys ∨ SqT X.K H p ys) ∧ Q (V.int ys.length) H) ∨ (∃ z, [v] = [V.str z] ∧ z.length ≤ sizeLine ∧ Q (V.int z.length) H) := by
  cases r with
  | tup h r => exact .inl ⟨_, _, rfl, .inr (SqT.of h), po0 sB q rfl (by rw [r.length]; exact .int _)⟩
  | lst h r => exact .inl ⟨_, _, rfl, .inl (SqL.of h), po0 sB q rfl (by rw [r.length]; exact .int _)⟩
  | fz h r => exact .inl ⟨_, _, rfl, .inl (.inl (.inr ⟨_, h⟩)), po0 sB q rfl (by rw [r.length]; exact .int _)⟩
  | str x =>
    by_cases hb : x.length ≤ bnd
    · exact .inr ⟨x, rfl, bnd_le hb, po0 sB q (if_pos hb) (.int _)⟩
    · rw [show lenT (.str x) = .bad from if_neg hb] at q; exact q.elim
  | _ => exact q.elim
theorem s_len (gl : Gl X "len") (mg : X.mg "len" = none) (ha : SndB X Y a fa) (hs : St1 X a := by exact st1 rfl) : Snd X Y (.Call (.Name "len" p) [a] [] pos) (ap1 lenT fa) :=
  s_look (call_len_seq.or call_len_str) len_r gl mg PySem.boot_len ha hs
/-! ### tuple(x) -/
def tupT : T → R T
  | .tup xs => .ok (.tup xs)
  | .lst xs => .ok (.tup xs)
  | _ => .bad
theorem tup_r (v : V) (t : T) (B H : Hp) (Q : VK) (r : Rep B v t) (sB : Same B H) (q : Po Y rC B H (tupT t) Q) :
    ∃ p ys, [v] = [V.ref p] ∧ ((SqL X.K H p ys ∧ ∀ l, H l = none → Q (.ref l) (upd H l (.tup ys))) ∨ (SqT X.K H p ys ∧ Q (.ref p) H)) := by
  cases r with
  | tup h r => exact ⟨_, _, rfl, .inr ⟨SqT.of (sB _ _ h), po0 sB q rfl (.tup h r)⟩⟩
  | lst h r => exact ⟨_, _, rfl, .inl ⟨SqL.of (sB _ _ h), fun l hl => po1t sB q rfl r hl⟩⟩
  | _ => exact q.elim
theorem s_tuple (gl : Gl X "tuple") (mg : X.mg "tuple" = none) (ha : Snd X Y a fa) (hs : St1 X a := by exact st1 rfl) : Snd X Y (.Call (.Name "tuple" p) [a] [] pos) (ap1 tupT fa) :=
  s_keep call_tuple_of tup_r gl mg (PyProof.Rows.Boot.«tuple») ha hs
/-! ### isinstance -/
def tyN : T → String
  | .non => "NoneType"
  | .bl _ => "bool"
  | .int _ => "int"
  | .str _ => "str"
  | .tup _ => "tuple"
  | .lst _ => "list"
  | .fz _ => "list"
def isT (n : String) (t : T) : Bool := tyN t == n || (n == "int" && tyN t == "bool")
theorem ty_of {H : Hp} {v : V} {t : T} (K : PySem.W.Frag) (r : Rep H v t) : TyOf K H v (.type (tyN t)) := by
  cases r with
  | non => exact .non
  | bl b => exact .bl b
  | int b => exact .int b
  | str b => exact .str b
  | tup h _ => exact .tup h
  | lst h _ => exact .lst h
  | fz h _ => exact .frz h
theorem call_isi : CallR X (.builtin "isinstance") (fun xs H Q => ∃ v n t, xs = [v, .ty n] ∧ Rep H v t ∧ PySem.W.kitOne X.K (.type (tyN t)) (.type n) = some (isT n t) ∧ Q (.bl (isT n t)) H) := by
  intro pins s σ H xs us Q I rv h
  obtain ⟨v, n, t, rfl, r, hk, q⟩ := h
  obtain ⟨u, w, rfl, ru, rw'⟩ := vals2 rv
  obtain rfl : w = Value.type n := rw'
  exact isinst_ok I ru (ty_of X.K r) hk fun tk => ⟨.bl _, H, I.tok tk, rfl, q⟩
def isiT (n : String) (t : T) : R T := .ok (.bl (isT n t))
theorem kit_int (K : PySem.W.Frag) (t : T) : PySem.W.kitOne K (.type (tyN t)) (.type "int") = some (isT "int" t) := by cases t <;> rfl
theorem kit_bool (K : PySem.W.Frag) (t : T) : PySem.W.kitOne K (.type (tyN t)) (.type "bool") = some (isT "bool" t) := by cases t <;> rfl
theorem kit_str (K : PySem.W.Frag) (t : T) : PySem.W.kitOne K (.type (tyN t)) (.type "str") = some (isT "str" t) := by cases t <;> rfl
theorem kit_tuple (K : PySem.W.Frag) (t : T) : PySem.W.kitOne K (.type (tyN t)) (.type "tuple") = some (isT "tuple" t) := by cases t <;> rfl
theorem kit_list (K : PySem.W.Frag) (t : T) : PySem.W.kitOne K (.type (tyN t)) (.type "list") = some (isT "list" t) := by cases t <;> rfl
theorem s_isi {n : String} {p' : Pos} (hk : ∀ t, PySem.W.kitOne X.K (.type (tyN t)) (.type n) = some (isT n t)) (gl : Gl X "isinstance") (mg : X.mg "isinstance" = none) (gl' : Gl X (Str.ofString n)) (mg' : X.mg (Str.ofString n) = none) (bt : bootBuiltins (Str.ofString n) = some (.type n)) (ha : SndB X Y a fa)
    (hs : starEach [a, .Name (Str.ofString n) p'] X.env = [(false, eval a X.env), (false, eval (.Name (Str.ofString n) p') X.env)] := by exact st2 rfl rfl) (hs2 : starEach [.Name (Str.ofString n) p'] X.env = [(false, eval (.Name (Str.ofString n) p') X.env)] := by exact st1 rfl)
    (hn : Str.ofString n ≠ "__name__" := by decide) (hd : (Str.ofString n == ("__debug__" : Str)) = false := by decide) (hz : ((backTo pos (starEach [.Name (Str.ofString n) p'] X.env)).any fun x => x.fst) = false := by exact back_any rfl) :
    Snd X Y (.Call (.Name "isinstance" p) [a, .Name (Str.ofString n) p'] [] pos) (ap1 (isiT n) fa) := .mk fun ρ =>
  PE.imp (pe_callB call_isi gl mg PyProof.Rows.Boot.«isinstance» (pa_cons (ha ρ) (pa_cons (pe_bltn (v := .ty n) gl' mg' bt rfl hn hd) pa_nil hs2) (by rw [hs, hs2])) (by decide) (by decide) (by rw [hs, hs2]) hz) fun σ H Q ⟨B, I, q⟩ =>
    step I q fun t v H1 _ s1 r1 I1 q1 => ⟨v, n, t, rfl, r1, hk t, po0 I1.sB q1 rfl (.bl _)⟩
/-! ### places -/
def atT (xs : List T) (i : Int) : R T := match atI xs i with
  | some t => .ok t
  | none => .bad
def ixT : T → T → R T
  | .tup xs, .int i => atT xs i
  | .lst xs, .int i => atT xs i
  | .fz xs, .int i => atT xs i
  | .str z, .int i => if z.length ≤ bnd then match atI z.cps.toList i with | some c => .ok (.str ⟨#[c]⟩) | none => .bad else .bad
  | _, _ => .bad
theorem at_rep {H : Hp} {xs : List V} {ts : List T} {i : Int} {t : T} (r : Reps H xs ts) (h : atI ts i = some t) : ∃ v, atI xs i = some v ∧ Rep H v t := by
  unfold atI at h ⊢
  rw [r.length]
  cases e : ixN ts.length i with
  | none => rw [e] at h; cases h
  | some j =>
    rw [e] at h
    obtain ⟨v, h1, h2⟩ := r.get (show ts[j]? = some t from h)
    exact ⟨v, h1, h2⟩
theorem s_ix (ha : Snd X Y a fa) (hb : Snd X Y b fb) (hs : PlainIx b := by exact fun _ _ => rfl) : Snd X Y (.Subscript a b pos) (binE ixT fa fb) := .mk fun ρ =>
  PE.imp (pe_ix ix_seq (ha ρ) (hb ρ) hs) fun σ H Q ⟨B, I, q⟩ => step I q fun t v H1 _ s1 r1 I1 q1 => step I1 q1 fun t' v' H2 _ s2 r2 I2 q2 => by
    have r1 := r1.mono (Grow.ge I1.sB s2)
    cases r2 with
    | int i =>
      cases r1 with
      | @tup _ xs ts h r =>
        have q2 : Po Y rC _ H2 (atT ts i) Q := q2
        unfold atT at q2
        split at q2
        · rename_i t' e
          obtain ⟨w, e1, e2⟩ := at_rep r e
          exact .inr (.inl ⟨_, xs, i, w, rfl, rfl, SqT.of (I2.sB _ _ h), e1, po0 I2.sB q2 rfl e2⟩)
        · exact q2.elim
      | @lst _ xs ts h r =>
        have q2 : Po Y rC _ H2 (atT ts i) Q := q2
        unfold atT at q2
        split at q2
        · rename_i t' e
          obtain ⟨w, e1, e2⟩ := at_rep r e
          exact .inl ⟨_, xs, i, w, rfl, rfl, SqL.of (I2.sB _ _ h), e1, po0 I2.sB q2 rfl e2⟩
        · exact q2.elim
      | @fz _ _ xs ts h r =>
        have q2 : Po Y rC _ H2 (atT ts i) Q := q2
        unfold atT at q2
        split at q2
        · rename_i t' e
          obtain ⟨w, e1, e2⟩ := at_rep r e
          exact .inl ⟨_, xs, i, w, rfl, rfl, .inl (.inr ⟨_, I2.sB _ _ h⟩), e1, po0 I2.sB q2 rfl e2⟩
        · exact q2.elim
      | str z =>
        have q2 : Po Y rC _ H2 (if z.length ≤ bnd then match atI z.cps.toList i with | some c => .ok (.str ⟨#[c]⟩) | none => .bad else .bad) Q := q2
        split at q2
        · rename_i hb
          split at q2
          · rename_i c e
            exact .inr (.inr ⟨z, i, c, rfl, rfl, bnd_le hb, e, po0 I2.sB q2 rfl (.str _)⟩)
          · exact q2.elim
        · exact q2.elim
      | _ => exact q2.elim
    | _ => cases r1 <;> exact q2.elim
/-! ### slices -/
structure SndO (X : Cx) (Y : Fx) (e : Option Expr) (f : En → R (Option Int)) : Prop where
  mk ::
  go : ∀ ρ, PO X e (tS Y rE f ρ)
instance {X : Cx} {Y : Fx} {e : Option Expr} {f : En → R (Option Int)} : CoeFun (SndO X Y e f) fun _ => ∀ ρ, PO X e (tS Y rE f ρ) := ⟨SndO.go⟩
def noO : En → R (Option Int) := fun _ => .ok none
def someO (fa : En → R T) : En → R (Option Int) := fun ρ => (fa ρ).bind fun t => match t with
  | .int i => .ok (some i)
  | _ => .bad
theorem PO.imp {e : Option Expr} {t t' : TO} (h : PO X e t) (i : ∀ σ H Q, t' σ H Q → t σ H Q) : PO X e t' := fun pins s σ H Q I q => h pins s σ H Q I (i σ H Q q)
theorem o_none : SndO X Y none noO := .mk fun ρ => PO.imp po_none fun σ H Q ⟨B, I, q⟩ => fin0 I q rfl
theorem o_some (ha : Snd X Y a fa) : SndO X Y (some a) (someO fa) := .mk fun ρ => PO.imp (po_some (ha ρ)) fun σ H Q ⟨B, I, q⟩ => step I q fun t v H1 _ s1 r1 I1 q1 => by
  cases r1 with
  | int i => exact ⟨i, rfl, fin0 I1 q1 rfl⟩
  | _ => exact q1.elim
def cut (xs : List T) (lo hi : Option Int) : List T := (xs.drop (HT.sIx xs.length 0 lo)).take (HT.sIx xs.length xs.length hi - HT.sIx xs.length 0 lo)
def slT (t : T) (lo hi : Option Int) : R T := match t with
  | .tup xs => .ok (.tup (cut xs lo hi))
  | .lst xs => .ok (.lst (cut xs lo hi))
  | _ => .bad
def slE (fa : En → R T) (fl fh : En → R (Option Int)) : En → R T := fun ρ => (fa ρ).bind fun t => (fl ρ).bind fun lo => (fh ρ).bind fun hi => slT t lo hi
theorem cut_rep {H : Hp} {xs : List V} {ts : List T} {lo hi : Option Int} (r : Reps H xs ts) : Reps H (cutV xs lo hi) (cut ts lo hi) := by
  unfold cutV cut
  rw [r.length]
  exact (r.drop _).take _
theorem getItem_tuple_all {prog : Program} {w : World} {A : Around} {E : Value → Shared → Prop} {s : Shared} {t sl : Addr} {items : Array Value} {vl vu : Value} {lo hi : Option Int} {Q : Value → Shared → Prop} (ht : IsTup s.heap t items) (hs : s.heap.IsSliceOf sl vl vu .none) (pl : IsPart vl lo) (pu : IsPart vu hi)
    (hw : HT.sIx items.size 0 lo = 0 ∧ HT.sIx items.size items.size hi = items.size) (h : Q (.ref t) s) : wpAny (model prog w) A (getItem (.ref t) (.ref sl)) Q E s := by
  obtain ⟨os, hos, hcs, hds⟩ := id hs
  have hTs : s.TypeIs (.ref sl) "slice" := ⟨os, hos, hcs⟩
  unfold getItem
  try with_reducible refine wpAny_holding ?_
  first | refine wpAny_bind (wpAny_pure ?_) | skip
  refine wpAny_bind (wpAny_sequenceKey ht.typeIs (by decide) ?_)
  refine wpAny_bind (wpAny_callSpecial?_slot (name := Str.ofString "__getitem__") ht.typeIs PyProof.Rows.slot_tuple_getitem
    (wpAny_call_entry PyProof.Rows.slot_tuple_getitem ht.typeIs entry_tuple_getitem ?_ (args_tuple_getitem _ _)))
  show wpAny _ _ (Builtin.Tuple.tupleItemsOf (.ref t) >>= _) _ _ s
  refine wpAny_bind (tupleItemsOf_ ht ?_)
  refine wpAny_bind (wpAny_typeOf hTs ?_)
  rw [if_pos (by decide)]
  refine wpAny_bind (HT.sliceApplied_gen hs pl pu ?_)
  have hyes : (((HT.sIx items.size 0 lo : Nat) : Int) == 0 && (1 : Int) == 1 && (HT.sIx items.size items.size hi - HT.sIx items.size 0 lo) == items.size) = true := by
    rw [hw.1, hw.2]; simp
  show wpAny _ _ (if (((HT.sIx items.size 0 lo : Nat) : Int) == 0 && (1 : Int) == 1 && (HT.sIx items.size items.size hi - HT.sIx items.size 0 lo) == items.size) = true then _ else _) _ _ s
  rw [if_pos hyes]
  unfold Builtin.Tuple.tupleIsExact
  refine wpAny_bind (wpAny_bind (wpAny_typeOf ht.typeIs (wpAny_pure ?_)))
  rw [if_pos (by decide)]
  exact wpAny_bind (wpAny_rule (wpAny_pure ⟨_, rfl, wpAny_pure h⟩))
theorem sl_tup_all : SlR X (fun x lo hi H Q => ∃ a xs, x = .ref a ∧ SqT X.K H a xs ∧ (HT.sIx xs.length 0 lo = 0 ∧ HT.sIx xs.length xs.length hi = xs.length) ∧ Q (.ref a) H) := by
  intro pins s σ H x v vl vu lo hi sl Q I rx hs pl pu h
  obtain ⟨a, xs, rfl, hx, hw, q⟩ := h
  obtain rfl : v = Value.ref a := rx
  obtain ⟨its, r, ht, hz⟩ := I.tuple hx
  have hlen : its.toArray.size = xs.length := by rw [List.size_toArray]; exact r.length.symm
  refine ⟨"tuple", _, PyProof.Rows.slot_tuple_getitem.lookup, ht.typeIs, ?_⟩
  exact getItem_tuple_all ht hs pl pu (by rw [hlen]; exact hw) ⟨.ref a, H, I, rfl, q⟩
theorem cut_all {xs : List T} {lo hi : Option Int} (h1 : HT.sIx xs.length 0 lo = 0) (h2 : HT.sIx xs.length xs.length hi = xs.length) : cut xs lo hi = xs := by
  unfold cut
  rw [h1, h2]; simp
theorem s_slice {lo hi : Option Expr} {fl fh : En → R (Option Int)} {p2 : Pos} (ha : Snd X Y a fa) (hl : SndO X Y lo fl) (hh : SndO X Y hi fh) : Snd X Y (.Subscript a (.Slice lo hi none p2) pos) (slE fa fl fh) := .mk fun ρ =>
  PE.imp (pe_slice (sl_tup.or (sl_tup_all.or sl_list)) (ha ρ) (hl ρ) (hh ρ)) fun σ H Q ⟨B, I, q⟩ => step I q fun t v H1 _ s1 r1 I1 q1 => step I1 q1 fun l l' H2 _ s2 el I2 q2 => step I2 q2 fun h h' H3 _ s3 eh I3 q3 => by
    have el' : l' = l := el
    have eh' : h' = h := eh
    subst el' eh'
    have r1 := r1.mono ((Grow.ge I1.sB s2).trans (Grow.ge I2.sB s3))
    cases r1 with
    | @tup _ xs ts hx r =>
      have q3 : Po Y rC _ H3 (.ok (.tup (cut ts l' h'))) Q := q3
      by_cases hw : HT.sIx xs.length 0 l' = 0 ∧ HT.sIx xs.length xs.length h' = xs.length
      · refine .inr (.inl ⟨_, xs, rfl, SqT.of (I3.sB _ _ hx), hw, po0 I3.sB q3 rfl ?_⟩)
        rw [r.length] at hw
        rw [cut_all hw.1 hw.2]
        exact .tup hx r
      · exact .inl ⟨_, xs, rfl, SqT.of (I3.sB _ _ hx), hw, fun p hp => po1t I3.sB q3 rfl (cut_rep r) hp⟩
    | @lst _ xs ts hx r =>
      have q3 : Po Y rC _ H3 (.ok (.lst (cut ts l' h'))) Q := q3
      exact .inr (.inr ⟨_, xs, rfl, SqL.of (I3.sB _ _ hx), fun p hp => po1l I3.sB q3 rfl (cut_rep r) hp⟩)
    | _ => exact q3.elim
/-! ### min of two -/
def min2T (t t' : T) : R T := match t, t' with
  | .int i, .int j => .ok (.int (if j < i then j else i))
  | _, _ => .bad
theorem s_min2 (hc : X.calm = true) (gl : Gl X "min") (mg : X.mg "min" = none) (ha : Snd X Y a fa) (hb : Snd X Y b fb)
    (hs : starEach [a, b] X.env = [(false, eval a X.env), (false, eval b X.env)] := by exact st2 rfl rfl) (hs2 : starEach [b] X.env = [(false, eval b X.env)] := by exact st1 rfl) :
    Snd X Y (.Call (.Name "min" p) [a, b] [] pos) (binE min2T fa fb) := .mk fun ρ =>
  PE.imp (pe_callB (call_min2 hc) gl mg PyProof.Rows.Boot.«min» (pa_cons (ha ρ) (pa_cons (hb ρ) pa_nil hs2) (by rw [hs, hs2])) (by decide) (by decide) (by rw [hs, hs2]) (by rw [hs2]; rfl)) fun σ H Q ⟨B, I, q⟩ =>
    step I q fun t v H1 _ s1 r1 I1 q1 => step I1 q1 fun t' v' H2 _ s2 r2 I2 q2 => by
      cases r1 with
      | int i =>
        cases r2 with
        | int j => exact ⟨i, j, rfl, po0 I2.sB q2 rfl (.int _)⟩
        | _ => exact q2.elim
      | _ => cases r2 <;> exact q2.elim
/-! ### all of bools -/
def allB : List T → Option Bool
  | [] => some true
  | .bl k :: r => match allB r with | some j => some (k && j) | none => none
  | _ :: _ => none
def allT : T → R T
  | .lst ts => match allB ts with | some k => .ok (.bl k) | none => .bad
  | _ => .bad
theorem allB_at : ∀ {H : Hp} {xs : List V} {ts : List T} {its : List Value} {k : Bool}, Reps H xs ts → Vals xs its → allB ts = some k → ∃ tr : Nat → Bool, (∀ i v, its[i]? = some v → v = Value.bool (tr i)) ∧ (List.range its.length).all tr = k
  | _, _, _, _, k, .nil, .nil, h => by
    have h' : some true = some k := h
    cases h'
    exact ⟨fun _ => true, fun i v e => by simp at e, rfl⟩
  | H, _, _, _, k, .cons (v := x) (t := t) r rs, .cons (b := u) rv vs, h => by
    cases r with
    | bl b =>
      unfold allB at h
      split at h
      · rename_i j e
        cases h
        obtain ⟨tr, h1, h2⟩ := allB_at rs vs e
        obtain rfl : u = Value.bool b := rv
        refine ⟨fun i => match i with | 0 => b | i + 1 => tr i, fun i v e => ?_, ?_⟩
        · cases i with
          | zero => simp at e; exact e.symm
          | succ i => exact h1 i v (by simpa using e)
        · rw [List.length_cons, List.range_succ_eq_map, List.all_cons, List.all_map, ← h2]
          rfl
      · cases h
    | _ => cases h
theorem call_allL (hh : X.A.handled = none) : CallR X (.builtin "all") (fun vs H Q => ∃ l xs ts k, vs = [.ref l] ∧ H l = some (.lst xs) ∧ Reps H xs ts ∧ allB ts = some k ∧ Q (.bl k) H) := by
  intro pins s σ H vs us Q I rv h
  obtain ⟨l, xs, ts, k, rfl, hl, r, hk, q⟩ := h
  obtain ⟨u, rfl, ru⟩ := vals1 rv
  obtain rfl : u = Value.ref l := ru
  obtain ⟨its, rv, p, _⟩ := seq_lst I (.inl hl) r
  obtain ⟨tr, h1, h2⟩ := allB_at r rv hk
  refine call_all_walk (wpAny_pyIter_list p ?_)
  have hlt : l < s.heap.objs.size := I.hok.lt hl
  have old : ∀ b o, s.heap.get? b = some o → (s.heap.push { cls := .type "list_iterator", data := .fields #[.ref l, .int 0 0] }).get? b = some o := fun b o e => Heap.get?_push_of_some _ e
  refine ⟨s.heap.objs.size, _, _, _, _, _, tr, rfl, Walks.list (A := X.A.in1) hh s.heap.objs.size l (Nat.ne_of_lt hlt) its.toArray, ?_, ?_, fun h' tk hk' => ?_⟩
  · refine ⟨?_, p.at fun o e => old _ o e⟩
    exact ⟨_, Heap.get?_push_size _ rfl, rfl, rfl⟩
  · intro i v s' Q' E' hi hq
    rw [h1 i v (by simpa using hi)]
    exact wpAny_truthy_bool hq
  · rw [List.size_toArray, h2]
    refine ⟨.bl k, H, I.kept (t' := tk) (fun b o e => hk' b o ?_ (old b o e)), rfl, q⟩
    simp
    exact Nat.ne_of_lt (Heap.lt_size e)
theorem s_all (hh : X.A.handled = none) (gl : Gl X "all") (mg : X.mg "all" = none) (ha : SndB X Y a fa) (hs : St1 X a := by exact st1 rfl) : Snd X Y (.Call (.Name "all" p) [a] [] pos) (ap1 allT fa) :=
  s_look (call_allL hh) (fun v t B H Q r sB q => by
    cases r with
    | @lst l xs ts h r =>
      have q : Po Y rC B H (match allB ts with | some k => .ok (.bl k) | none => .bad) Q := q
      split at q
      · rename_i k e
        exact ⟨l, xs, ts, k, rfl, h, r, e, po0 sB q rfl (.bl k)⟩
      · exact q.elim
    | _ => exact q.elim) gl mg PyProof.Rows.Boot.«all» ha hs
end
end PV

namespace PV
open PySem PySem.Spec PyProof.Rows L2
/-- what comes of a statement -/
inductive RS where
  | nx (ρ : En) | rt (t : T) | bk (ρ : En) | ct (ρ : En) | ex (c : Nat) | bad
def R.s {α : Type} (r : R α) (k : α → RS) : RS := match r with
  | .ok a => k a
  | .ex c => .ex c
  | .bad => .bad
def PoS (Y : Fx) (B : Hp) (r : RS) (D : Ends) : Prop := match r with
  | .nx ρ' => ∀ σ' H' B', Same B B' → SI Y B' ρ' σ' H' → D.nx σ' H'
  | .rt t => ∀ v H', Same Y.H0 H' → Rep (Grow Y.B0 Y.H0 H') v t → D.rt v H'
  | .bk ρ' => ∀ σ' H' B', Same B B' → SI Y B' ρ' σ' H' → D.bk σ' H'
  | .ct ρ' => ∀ σ' H' B', Same B B' → SI Y B' ρ' σ' H' → D.ct σ' H'
  | .ex c => XP Y B c
  | .bad => False
theorem PoS.up {Y : Fx} {B B' : Hp} {r : RS} {D : Ends} (s : Same B B') (h : PoS Y B r D) : PoS Y B' r D := by
  cases r with
  | nx ρ => exact fun σ' H' B2 s2 I => h σ' H' B2 (s.trans s2) I
  | bk ρ => exact fun σ' H' B2 s2 I => h σ' H' B2 (s.trans s2) I
  | ct ρ => exact fun σ' H' B2 s2 I => h σ' H' B2 (s.trans s2) I
  | rt t => exact h
  | ex c => exact fun d H' s0 sB => h d H' s0 (s.trans sB)
  | bad => exact h
def tSS (Y : Fx) (f : En → RS) (ρ : En) : TS := fun D σ H => ∃ B, SI Y B ρ σ H ∧ PoS Y B (f ρ) D
structure SndS (X : Cx) (Y : Fx) (e : Stmt) (f : En → RS) : Prop where
  mk ::
  go : ∀ ρ, PS X e (tSS Y f ρ)
instance {X : Cx} {Y : Fx} {e : Stmt} {f : En → RS} : CoeFun (SndS X Y e f) fun _ => ∀ ρ, PS X e (tSS Y f ρ) := ⟨SndS.go⟩
structure SndL (X : Cx) (Y : Fx) (e : List Stmt) (f : En → RS) : Prop where
  mk ::
  go : ∀ ρ, PSs X e (tSS Y f ρ)
instance {X : Cx} {Y : Fx} {e : List Stmt} {f : En → RS} : CoeFun (SndL X Y e f) fun _ => ∀ ρ, PSs X e (tSS Y f ρ) := ⟨SndL.go⟩
/-- one part, then the rest of a statement -/
theorem stepS {α β : Type} {Y : Fx} {rel : Hp → Hp → β → α → Prop} {f : En → R α} {k : α → RS} {ρ : En} {B : Hp} {σ : Sg} {H : Hp} {D : Ends} {K : β → Hp → Prop}
    (I : SI Y B ρ σ H) (h : PoS Y B ((f ρ).s k) D)
    (n : ∀ a b H1, f ρ = .ok a → Same H H1 → rel (Grow B H H1) H1 b a → SI Y (Grow B H H1) ρ σ H1 → PoS Y (Grow B H H1) (k a) D → K b H1) : tS Y rel f ρ σ H K := by
  refine ⟨B, I, ?_⟩
  cases e : f ρ with
  | bad => rw [e] at h; exact h
  | ex c => rw [e] at h; exact h
  | ok a =>
    rw [e] at h
    exact fun b H1 s r => n a b H1 e s r (I.grow s) (PoS.up (Grow.ge I.sB s) h)
/-! ### the frame changes -/
theorem set_get {α : Type} {xs : List α} {i j : Nat} {x y : α} (h : (xs.set i x)[j]? = some y) : (j = i ∧ y = x) ∨ (j ≠ i ∧ xs[j]? = some y) := by
  by_cases e : j = i
  · subst e
    by_cases hl : j < xs.length
    · rw [List.getElem?_set_self hl] at h; exact .inl ⟨rfl, (Option.some.inj h).symm⟩
    · rw [List.getElem?_eq_none (by rw [List.length_set]; omega)] at h; cases h
  · rw [List.getElem?_set_ne (Ne.symm e)] at h; exact .inr ⟨e, h⟩
theorem set_lt {α : Type} {xs : List α} {i : Nat} {x y : α} (h : (xs.set i x)[i]? = some y) : i < xs.length := by
  by_cases hl : i < xs.length
  · exact hl
  · rw [List.getElem?_eq_none (by rw [List.length_set]; omega)] at h; cases h
theorem SI.setV {Y : Fx} {B : Hp} {ρ : En} {σ : Sg} {H : Hp} (I : SI Y B ρ σ H) (i : Nat) {v : V} {t : T} (r : Rep B v t) : SI Y B (ρ.set i (.vl t)) (σ.set i (some v)) H where
  s0 := I.s0
  sH := I.sH
  sB := I.sB
  old := I.old
  len := by rw [List.length_set, List.length_set]; exact I.len
  vl := fun j u h => by
    rcases set_get h with ⟨rfl, e⟩ | ⟨hj, h'⟩
    · cases e
      exact ⟨v, List.getElem?_set_self (by rw [← I.len]; exact set_lt h), r⟩
    · obtain ⟨w, e, rr⟩ := I.vl j u h'
      exact ⟨w, by rw [List.getElem?_set_ne (Ne.symm hj)]; exact e, rr⟩
  ow := fun j us h => by
    rcases set_get h with ⟨rfl, e⟩ | ⟨hj, h'⟩
    · cases e
    · obtain ⟨a, xs, e, b0, h0, hh, rr, d⟩ := I.ow j us h'
      refine ⟨a, xs, by rw [List.getElem?_set_ne (Ne.symm hj)]; exact e, b0, h0, hh, rr, fun k ws hk hw => ?_⟩
      rcases set_get hw with ⟨rfl, e'⟩ | ⟨hk', hw'⟩
      · cases e'
      · rw [List.getElem?_set_ne (Ne.symm hk')]; exact d k ws hk hw'
  xc := fun j c h => by
    rcases set_get h with ⟨rfl, e⟩ | ⟨hj, h'⟩
    · cases e
    · obtain ⟨a, e, r⟩ := I.xc j c h'
      exact ⟨a, by rw [List.getElem?_set_ne (Ne.symm hj)]; exact e, r⟩
theorem SI.newO {Y : Fx} {B : Hp} {ρ : En} {σ : Sg} {H : Hp} (I : SI Y B ρ σ H) (i : Nat) {p : Addr} {xs : List V} {ts : List T} (hp : H p = none) (r : Reps B xs ts) : SI Y B (ρ.set i (.ow ts)) (σ.set i (some (.ref p))) (upd H p (.lst xs)) where
  s0 := I.s0
  sH := I.sH.trans (Same.new hp _)
  sB := I.sB.trans (Same.new hp _)
  old := I.old
  len := by rw [List.length_set, List.length_set]; exact I.len
  vl := fun j u h => by
    rcases set_get h with ⟨rfl, e⟩ | ⟨hj, h'⟩
    · cases e
    · obtain ⟨w, e, rr⟩ := I.vl j u h'
      exact ⟨w, by rw [List.getElem?_set_ne (Ne.symm hj)]; exact e, rr⟩
  ow := fun j us h => by
    have op : ∀ k ws a, ρ[k]? = some (Sl.ow ws) → σ[k]? = some (some (V.ref a)) → a ≠ p := fun k ws a h1 h2 => by
      obtain ⟨a', xs', e, _, _, hh, _⟩ := I.ow k ws h1
      rw [e] at h2; cases h2
      exact ne_of_none hh hp
    rcases set_get h with ⟨rfl, e⟩ | ⟨hj, h'⟩
    · cases e
      refine ⟨p, xs, List.getElem?_set_self (by rw [← I.len]; exact set_lt h), I.sB.free hp, I.sH.free hp, upd_same, r, fun k ws hk hw => ?_⟩
      rcases set_get hw with ⟨rfl, e'⟩ | ⟨hk', hw'⟩
      · exact absurd rfl hk
      · rw [List.getElem?_set_ne (Ne.symm hk')]
        exact fun z => op k ws p hw' z rfl
    · obtain ⟨a, xs', e, b0, h0, hh, rr, d⟩ := I.ow j us h'
      refine ⟨a, xs', by rw [List.getElem?_set_ne (Ne.symm hj)]; exact e, b0, h0, by rw [upd_ne (op j us a h' e)]; exact hh, rr, fun k ws hk hw => ?_⟩
      rcases set_get hw with ⟨rfl, e'⟩ | ⟨hk', hw'⟩
      · rw [List.getElem?_set_self (by rw [← I.len]; exact set_lt hw)]
        intro z
        exact op j us a h' e (by injection z with z; injection z with z; injection z with z; exact z.symm)
      · rw [List.getElem?_set_ne (Ne.symm hk')]; exact d k ws hk hw'
  xc := fun j c h => by
    rcases set_get h with ⟨rfl, e⟩ | ⟨hj, h'⟩
    · cases e
    · obtain ⟨a, e, r⟩ := I.xc j c h'
      exact ⟨a, by rw [List.getElem?_set_ne (Ne.symm hj)]; exact e, r⟩
/-- the owned list in slot i is rewritten -/
theorem SI.chg {Y : Fx} {B : Hp} {ρ : En} {σ : Sg} {H : Hp} (I : SI Y B ρ σ H) (i : Nat) {p : Addr} {ts us : List T} {ys : List V} (hi : ρ[i]? = some (.ow ts)) (he : σ[i]? = some (some (.ref p))) (r : Reps B ys us) : SI Y B (ρ.set i (.ow us)) σ (upd H p (.lst ys)) := by
  obtain ⟨p', xs, e, b0, h0, hh, rr, d⟩ := I.ow i ts hi
  rw [he] at e
  cases e
  have nb : ∀ b o, B b = some o → b ≠ p := fun b o h z => by subst z; rw [b0] at h; cases h
  have n0 : ∀ b o, Y.H0 b = some o → b ≠ p := fun b o h z => by subst z; rw [h0] at h; cases h
  refine ⟨I.s0, fun b o h => by rw [upd_ne (n0 b o h)]; exact I.sH b o h, fun b o h => by rw [upd_ne (nb b o h)]; exact I.sB b o h, I.old, by rw [List.length_set]; exact I.len, fun j u h => ?_, fun j ws h => ?_, fun j c h => ?_⟩
  rotate_right
  · rcases set_get h with ⟨rfl, z⟩ | ⟨hj, h'⟩
    · cases z
    · exact I.xc j c h'
  · rcases set_get h with ⟨rfl, z⟩ | ⟨hj, h'⟩
    · cases z
    · exact I.vl j u h'
  · rcases set_get h with ⟨rfl, z⟩ | ⟨hj, h'⟩
    · cases z
      refine ⟨p, ys, he, b0, h0, upd_same, r, fun k vs hk hw => ?_⟩
      rcases set_get hw with ⟨rfl, e'⟩ | ⟨hk', hw'⟩
      · exact absurd rfl hk
      · exact d k vs hk hw'
    · obtain ⟨a, xs', e, c0, g0, gg, ss, d'⟩ := I.ow j ws h'
      have hne : a ≠ p := fun z => by subst z; exact d j ws hj h' e
      refine ⟨a, xs', e, c0, g0, by rw [upd_ne hne]; exact gg, ss, fun k vs hk hw => ?_⟩
      rcases set_get hw with ⟨rfl, e'⟩ | ⟨hk', hw'⟩
      · rw [he]; intro z; injection z with z; injection z with z; injection z with z; exact hne z.symm
      · exact d' k vs hk hw'
/-- all owned lists are given up -/
def frz1 : Sl → Sl
  | .ow ts => .vl (.lst ts)
  | x => x
def frz (ρ : En) : En := ρ.map frz1
theorem SI.up {Y : Fx} {B : Hp} {ρ : En} {σ : Sg} {H : Hp} (I : SI Y B ρ σ H) : Same B (Grow B Y.H0 H) := fun b o h => by
  cases q : Y.H0 b with
  | none => rw [Grow_n q]; exact I.sB b o h
  | some u => rw [Grow_s q]; exact h
theorem SI.frz {Y : Fx} {B : Hp} {ρ : En} {σ : Sg} {H : Hp} (I : SI Y B ρ σ H) : SI Y (Grow B Y.H0 H) (PV.frz ρ) σ H := by
  have up : Same B (Grow B Y.H0 H) := fun b o h => by
    cases q : Y.H0 b with
    | none => rw [Grow_n q]; exact I.sB b o h
    | some u => rw [Grow_s q]; exact h
  refine ⟨I.s0, I.sH, fun b o h => ?_, fun b o h => by rw [Grow_s h]; exact I.old b o h, by unfold PV.frz; rw [List.length_map]; exact I.len, fun j t h => ?_, fun j ts h => ?_, fun j c h => ?_⟩
  rotate_right
  · unfold PV.frz at h
    rw [List.getElem?_map] at h
    cases e : ρ[j]? with
    | none => rw [e] at h; cases h
    | some x =>
      rw [e] at h
      cases x with
      | xc d =>
        cases h
        obtain ⟨a, e1, r⟩ := I.xc j _ e
        exact ⟨a, e1, up a _ r⟩
      | un => cases h
      | vl _ => cases h
      | ow _ => cases h
  · cases q : Y.H0 b with
    | none => rw [Grow_n q] at h; exact h
    | some u => rw [Grow_s q] at h; exact I.sB b o h
  · unfold PV.frz at h
    rw [List.getElem?_map] at h
    cases e : ρ[j]? with
    | none => rw [e] at h; cases h
    | some x =>
      rw [e] at h
      cases x with
      | un => cases h
      | vl u =>
        cases h
        obtain ⟨v, e1, r⟩ := I.vl j _ e
        exact ⟨v, e1, r.mono up⟩
      | ow us =>
        cases h
        obtain ⟨a, xs, e1, b0, h0, hh, rr, _⟩ := I.ow j us e
        exact ⟨.ref a, e1, .lst (by rw [Grow_n h0]; exact hh) (rr.mono up)⟩
      | xc _ => cases h
  · unfold PV.frz at h
    rw [List.getElem?_map] at h
    cases e : ρ[j]? with
    | none => rw [e] at h; cases h
    | some x =>
      rw [e] at h
      cases x with
      | un => cases h
      | vl u => cases h
      | ow us => cases h
      | xc _ => cases h
theorem out_le {Y : Fx} {B H H' : Hp} (s0 : Same Y.H0 H) (old : ∀ b o, Y.H0 b = some o → B b = Y.B0 b) (s : Same H H') (sB : Same B H) : Same (Grow B H H') (Grow Y.B0 Y.H0 H') := fun b o h => by
  cases q : H b with
  | none =>
    rw [Grow_n q] at h
    rw [Grow_n (s0.free q)]; exact h
  | some u =>
    rw [Grow_s q] at h
    cases z : Y.H0 b with
    | none => rw [Grow_n z]; exact s b o (sB b o h)
    | some w => rw [Grow_s z, ← old b w z]; exact h
section
variable {X : Cx} {Y : Fx} {a b c d : Expr} {fa fb fc fd : En → R T} {pos p : Pos} {st : Stmt} {sts sts' : List Stmt} {f g : En → RS}
/-! ### blocks -/
def nxS : En → RS := fun ρ => .nx ρ
def seqS (f g : En → RS) : En → RS := fun ρ => match f ρ with
  | .nx ρ' => g ρ'
  | r => r
theorem l_nil : SndL X Y [] nxS := .mk fun ρ => PSs.imp pss_nil fun D σ H ⟨B, I, q⟩ => q σ H B (Same.refl B) I
theorem l_one (h : SndS X Y st f) : SndL X Y [st] f := .mk fun ρ => pss_one (h ρ)
/-- the reading of the rest hangs on the frame that comes -/
theorem l_cons (h1 : SndS X Y st f) (h2 : SndL X Y sts g) : SndL X Y (st :: sts) (seqS f g) := .mk fun ρ => by
  refine PSs.imp (pss_cons (u := fun D σ H => ∃ ρ', tSS Y g ρ' D σ H) (h1 ρ) ?_) ?_
  · intro pins s σ H D I ⟨ρ', q⟩
    exact h2 ρ' pins s σ H D I q
  · intro D σ H ⟨B, I, q⟩
    refine ⟨B, I, ?_⟩
    unfold seqS at q
    cases e : f ρ with
    | nx ρ' =>
      rw [e] at q
      intro σ' H' B' s' I'
      exact ⟨ρ', B', I', PoS.up s' q⟩
    | rt t => rw [e] at q; exact q
    | bk ρ' => rw [e] at q; exact q
    | ct ρ' => rw [e] at q; exact q
    | ex c => rw [e] at q; exact q
    | bad => rw [e] at q; exact q
/-! ### small statements -/
def setS (i : Nat) (fa : En → R T) : En → RS := fun ρ => (fa ρ).s fun t => .nx (ρ.set i (.vl t))
theorem s_set {i : Nat} {x : Str} {p' : Pos} (hN : X.N.Nodup) (hi : X.N[i]? = some x) (hx : L2.Loc X.env.scope x) (ha : Snd X Y a fa) (hs : swapsWith a (some (.Name x p')) pos.line X.env = pure false := by rfl)
    (hf : X.fn x = true ∨ X.env.scope.names.lookup x = some .local := by first | exact .inl rfl | exact .inr rfl | assumption) : SndS X Y (.Assign [.Name x p'] a pos) (setS i fa) := .mk fun ρ =>
  PS.imp (ps_set hN hi hx (ha ρ) hs hf) fun D σ H ⟨B, I, q⟩ => stepS I q fun t v H1 _ s1 r1 I1 q1 => q1 _ _ _ (Same.refl _) (I1.setV i r1)
def setL (i : Nat) (ga : En → R (List T)) : En → RS := fun ρ => (ga ρ).s fun ts => if ts.length ≤ bnd then .nx (ρ.set i (.ow ts)) else .bad
theorem s_setL {i : Nat} {x : Str} {p' : Pos} {es : List Expr} {ga : En → R (List T)} (hN : X.N.Nodup) (hi : X.N[i]? = some x) (hx : L2.Loc X.env.scope x) (ha : SndA X Y es ga) (hs : swapsWith (.List es p) (some (.Name x p')) pos.line X.env = pure false := by rfl)
    (hf : X.fn x = true ∨ X.env.scope.names.lookup x = some .local := by first | exact .inl rfl | exact .inr rfl | assumption) : SndS X Y (.Assign [.Name x p'] (.List es p) pos) (setL i ga) := .mk fun ρ =>
  PS.imp (ps_set hN hi hx (pe_lst (ha ρ)) hs hf) fun D σ H ⟨B, I, q⟩ => stepS I q fun ts vs H1 _ s1 r1 I1 q1 => by
    split at q1
    · rename_i hb
      exact ⟨by rw [r1.length]; exact bnd_le hb, fun p hp => q1 _ _ _ (Same.refl _) (I1.newO i hp r1)⟩
    · exact q1.elim
def retS (fa : En → R T) : En → RS := fun ρ => (fa (frz ρ)).s fun t => .rt t
theorem s_ret (ha : Snd X Y a fa) : SndS X Y (.Return (some a) pos) (retS fa) := .mk fun ρ =>
  PS.imp (ps_ret (ha (frz ρ))) fun D σ H ⟨B, I, q⟩ => by
    refine ⟨_, I.frz, ?_⟩
    unfold retS at q
    cases e : fa (frz ρ) with
    | bad => rw [e] at q; exact q
    | ex c =>
      rw [e] at q
      exact fun d H' s0 sG => q d H' s0 (I.up.trans sG)
    | ok t =>
      rw [e] at q
      intro v H' s r
      have J := I.frz
      exact q v H' (I.sH.trans s) (r.mono (out_le J.sH J.old s J.sB))
def ifS (g : En → R Bool) (f1 f2 : En → RS) : En → RS := fun ρ => (g ρ).s fun k => if k = true then f1 ρ else f2 ρ
theorem s_ifS {ga : En → R Bool} (hc : SndT X Y c ga) (h1 : SndL X Y sts f) (h2 : SndL X Y sts' g) : SndS X Y (.If c sts sts' pos) (ifS ga f g) := .mk fun ρ =>
  PS.imp (ps_if (hc ρ) (h1 ρ) (h2 ρ)) fun D σ H ⟨B, I, q⟩ => stepS I q fun t v H1 _ s1 r1 I1 q1 => by
    have r1' : v = t := r1
    subst r1'
    cases v with
    | true => exact ⟨_, I1, q1⟩
    | false => exact ⟨_, I1, q1⟩
def dropS (fa : En → R T) : En → RS := fun ρ => (fa ρ).s fun _ => .nx ρ
theorem s_expr (ha : Snd X Y a fa) (hs : swapsWith a none pos.line X.env = pure false := by rfl) : SndS X Y (.Expr a pos) (dropS fa) := .mk fun ρ =>
  PS.imp (ps_expr (ha ρ) hs) fun D σ H ⟨B, I, q⟩ => stepS I q fun t v H1 _ s1 r1 I1 q1 => q1 _ _ _ (Same.refl _) I1
def passS : En → RS := fun ρ => .nx ρ
theorem s_pass : SndS X Y (.Pass pos) passS := .mk fun ρ => PS.imp ps_pass fun D σ H ⟨B, I, q⟩ => q _ _ _ (Same.refl _) I
theorem s_break : SndS X Y (.Break pos) (fun ρ => .bk ρ) := .mk fun ρ => PS.imp ps_break fun D σ H ⟨B, I, q⟩ => q _ _ _ (Same.refl _) I
theorem s_cont : SndS X Y (.Continue pos) (fun ρ => .ct ρ) := .mk fun ρ => PS.imp ps_continue fun D σ H ⟨B, I, q⟩ => q _ _ _ (Same.refl _) I
/-! ### x.append(e), x.extend(e) -/
def appS (i : Nat) (fa : En → R T) : En → RS := fun ρ => match ρ[i]? with
  | some (.ow ts) => (fa ρ).s fun t => if ts.length < bnd then .nx (ρ.set i (.ow (ts ++ [t]))) else .bad
  | _ => .bad
def extS (i : Nat) (fa : En → R T) : En → RS := fun ρ => match ρ[i]? with
  | some (.ow ts) => (fa ρ).s fun t => match t with
    | .lst us => if ts.length + us.length ≤ bnd then .nx (ρ.set i (.ow (ts ++ us))) else .bad
    | _ => .bad
  | _ => .bad
theorem bnd_lt {n : Nat} (h : n < bnd) : n < sizeLine := by rw [sizeLine_eq]; exact h
theorem s_app {i : Nat} {x : Str} {px pa : Pos} (hv : PE X (.Name x px) (tVar i)) (ha : Snd X Y a fa) (hb : attributeBase (.Name x px) "append" X.env (eval (.Name x px) X.env) = eval (.Name x px) X.env := by rfl) (hs : St1 X a := by exact st1 rfl)
    (hz : (pa.endLine == p.line) = true := by rfl) (hw : swapsWith (.Call (.Attribute (.Name x px) "append" pa) [a] [] p) none pos.line X.env = pure false := by rfl) : SndS X Y (.Expr (.Call (.Attribute (.Name x px) "append" pa) [a] [] p) pos) (appS i fa) := .mk fun ρ => by
  have e1 : (((((backTo p (starEach [a] X.env)).all fun x => !x.fst) && (backToKw p (keywordEach [] X.env)).all fun x => x.fst.isSome) && decide (([a].length + ([] : List Keyword).length + if ([] : List Keyword).isEmpty = true then 0 else 1) < 30)) = true) := by rw [hs]; rfl
  refine PS.imp (ps_expr (pe_bm PySem.F.plainAttrs_list PySem.F.slot_list_append PySem.F.type_list_append mt_append hv (pa_cons (ha ρ) pa_nil hs) hb e1 hz hs rfl) hw) fun D σ H ⟨B, I, q⟩ => ?_
  unfold appS at q
  split at q
  · rename_i ts e
    obtain ⟨l, xs, e1, b0, h0, hh, rr, d⟩ := I.ow i ts e
    refine ⟨.ref l, e1, .inl ⟨rfl, _, SqL.of hh⟩, ?_⟩
    refine stepS I q fun t v H1 _ s1 r1 I1 q1 => ?_
    split at q1
    · rename_i hb
      refine ⟨l, xs, v, rfl, rfl, s1 _ _ hh, by rw [rr.length]; exact bnd_lt hb, ?_⟩
      exact q1 _ _ _ (Same.refl _) (I1.chg i e e1 ((rr.mono (Grow.ge I.sB s1)).append (.cons r1 .nil)))
    · exact q1.elim
  · exact q.elim
theorem s_ext {i : Nat} {x : Str} {px pa : Pos} (hv : PE X (.Name x px) (tVar i)) (ha : Snd X Y a fa) (hb : attributeBase (.Name x px) "extend" X.env (eval (.Name x px) X.env) = eval (.Name x px) X.env := by rfl) (hs : St1 X a := by exact st1 rfl)
    (hz : (pa.endLine == p.line) = true := by rfl) (hw : swapsWith (.Call (.Attribute (.Name x px) "extend" pa) [a] [] p) none pos.line X.env = pure false := by rfl) : SndS X Y (.Expr (.Call (.Attribute (.Name x px) "extend" pa) [a] [] p) pos) (extS i fa) := .mk fun ρ => by
  have e1 : (((((backTo p (starEach [a] X.env)).all fun x => !x.fst) && (backToKw p (keywordEach [] X.env)).all fun x => x.fst.isSome) && decide (([a].length + ([] : List Keyword).length + if ([] : List Keyword).isEmpty = true then 0 else 1) < 30)) = true) := by rw [hs]; rfl
  refine PS.imp (ps_expr (pe_bm PySem.F.plainAttrs_list PySem.F.slot_list_extend PySem.F.type_list_extend mt_extend hv (pa_cons (ha ρ) pa_nil hs) hb e1 hz hs rfl) hw) fun D σ H ⟨B, I, q⟩ => ?_
  unfold extS at q
  split at q
  · rename_i ts e
    obtain ⟨l, xs, e1, b0, h0, hh, rr, d⟩ := I.ow i ts e
    refine ⟨.ref l, e1, .inl ⟨rfl, _, SqL.of hh⟩, ?_⟩
    refine stepS I q fun t v H1 _ s1 r1 I1 q1 => ?_
    cases r1 with
    | @lst b zs us hb r =>
      have q1 : PoS Y _ (if ts.length + us.length ≤ bnd then .nx (ρ.set i (.ow (ts ++ us))) else .bad) D := q1
      split at q1
      · rename_i hl
        refine ⟨l, b, xs, zs, rfl, rfl, s1 _ _ hh, I1.sB _ _ hb, by rw [rr.length, r.length]; exact bnd_le hl, ?_⟩
        exact q1 _ _ _ (Same.refl _) (I1.chg i e e1 ((rr.mono (Grow.ge I.sB s1)).append r))
      · exact q1.elim
    | _ => exact q1.elim
  · exact q.elim
end
end PV

namespace PV
open PySem PySem.Spec PyProof.Rows L2
/-! ### what a def promises: a function of plain values -/
def spP (cl : Nat → Value) (n : Nat) (g : List T → R T) : Sp := fun vs H Q E => ∃ B ts, ts.length = n ∧ Same B H ∧ Reps B vs ts ∧ Po ⟨B, H, E, cl⟩ rC B H (g ts) Q
theorem spP.len {cl : Nat → Value} {n : Nat} {g : List T → R T} (vs : List V) (H : Hp) (Q : VK) (E : XK) (h : spP cl n g vs H Q E) : vs.length = n := by
  obtain ⟨B, ts, hl, _, r, _⟩ := h
  rw [r.length, hl]
def callE (n : Nat) (g : List T → R T) (ga : En → R (List T)) : En → R T := fun ρ => (ga ρ).bind fun ts => if ts.length = n then g ts else .bad
section
variable {X : Cx} {Y : Fx} {a b c d : Expr} {fa fb fc fd : En → R T} {pos p : Pos}
theorem s_call {CX : CXT} {k n : Nat} {f : Addr} {fd : FuncData} {ps : List Str} {g : List T → R T} {x : Str} {es : List Expr} {ga : En → R (List T)} (F : FnOk X.prog X.w X.K X.mg X.base CX k f fd ps (spP Y.cl n g)) (hr : Room k X.A) (gl : Gl X x) (mg : X.mg x = some (.ref f))
    (kp : PySem.W.keepIn X.K (.ref f) = true) (bd : L2.Binds X.K fd ps []) (hx : Passes CX X Y.E) (ha : SndA X Y (a :: es) ga) (hd : (x == ("__debug__" : Str)) = false := by decide)
    (hs : starEach (a :: es) X.env = (false, eval a X.env) :: starEach es X.env := by exact star_cons rfl) (hz : ((backTo pos (starEach es X.env)).any fun x => x.fst) = false := by exact back_any rfl) : Snd X Y (.Call (.Name x p) (a :: es) [] pos) (callE n g ga) := .mk fun ρ =>
  PE.imp (pe_call F hr gl mg kp bd .nil hx (ha ρ) hd hs hz) fun σ H Q ⟨B, I, q⟩ => step I q fun ts vs H1 _ s1 r1 I1 q1 => by
    split at q1
    · rename_i hn
      rw [List.append_nil]
      refine ⟨_, ts, hn, I1.sB, r1, ?_⟩
      revert q1
      cases g ts with
      | bad => exact fun q1 => q1
      | ex c => exact fun q1 d H' s sB => q1 d H' (I1.sH.trans s) sB
      | ok t => exact fun q1 => q1
    · exact q1.elim
end
def outR : RS → R T
  | .rt t => .ok t
  | .nx _ => .ok .non
  | .ex c => .ex c
  | _ => .bad
/-- the frame at the entry -/
def en0 (n : Nat) (ts : List T) : En := ts.map Sl.vl ++ List.replicate (n - ts.length) Sl.un
theorem Reps.vl {H : Hp} : ∀ {vs : List V} {ts : List T} {i : Nat} {t : T} {n m : Nat}, Reps H vs ts → (ts.map Sl.vl ++ List.replicate n Sl.un)[i]? = some (Sl.vl t) → ∃ v : V, (vs.map some ++ List.replicate m none)[i]? = some (some v) ∧ Rep H v t
  | _, _, i, t, n, m, .nil, h => by
    exfalso
    simp only [List.map_nil, List.nil_append] at h
    rw [List.getElem?_replicate] at h
    split at h
    · cases h
    · cases h
  | _, _, 0, t, n, m, .cons r _, h => by
    simp at h; subst h; exact ⟨_, rfl, r⟩
  | _, _, i + 1, t, n, m, .cons _ q, h => by
    obtain ⟨v, h1, h2⟩ := Reps.vl (i := i) (t := t) (n := n) (m := m) q (by simpa using h)
    exact ⟨v, by simpa using h1, h2⟩
theorem en0_ow {n : Nat} : ∀ {ts : List T} {i : Nat} {us : List T}, (ts.map Sl.vl ++ List.replicate n Sl.un)[i]? = some (Sl.ow us) → False
  | [], i, us, h => by
    simp only [List.map_nil, List.nil_append] at h
    rw [List.getElem?_replicate] at h
    split at h
    · cases h
    · cases h
  | t :: ts, 0, us, h => by simp at h
  | t :: ts, i + 1, us, h => en0_ow (ts := ts) (i := i) (us := us) (n := n) (by simpa using h)
theorem en0_xc {n : Nat} : ∀ {ts : List T} {i : Nat} {c : Nat}, (ts.map Sl.vl ++ List.replicate n Sl.un)[i]? = some (Sl.xc c) → False
  | [], i, us, h => by
    simp only [List.map_nil, List.nil_append] at h
    rw [List.getElem?_replicate] at h
    split at h
    · cases h
    · cases h
  | t :: ts, 0, us, h => by simp at h
  | t :: ts, i + 1, us, h => en0_xc (ts := ts) (i := i) (c := us) (n := n) (by simpa using h)
theorem SI.start {Y : Fx} {N : List Str} {vs : List V} {ts : List T} (s : Same Y.B0 Y.H0) (r : Reps Y.B0 vs ts) : SI Y Y.B0 (en0 N.length ts) (L2.start N vs) Y.H0 where
  s0 := s
  sH := Same.refl _
  sB := s
  old := fun _ _ _ => rfl
  len := by unfold en0 L2.start; simp [r.length]
  vl := fun i t h => r.vl h
  ow := fun i ts h => (en0_ow h).elim
  xc := fun i c h => (en0_xc h).elim
section
variable {P : Program} {w : World} {K : PySem.W.Frag} {mg : Str → Option Value} {base : Heap}
/-- a def that does fb keeps the promise g, if g is what comes of fb -/
theorem fn_ok {cl : Nat → Value} {x qual : Str} {st : Stmt} {f : Addr} {fd : FuncData} {N ps : List Str} {k n : Nat} {fb : En → RS} {g : List T → R T} (F : Fun K x qual st f fd) (S : FnScope N ps (defScope st)) (hn : n = ps.length)
    (hb : ∀ (cdv : Value) (A : Around) (outer : List Env) (s : Shared) (H : Hp) (E : XK) (Y : Fx), Y.cl = cl → Room k (A.deeper (envOfC qual (defScope st) s.heap.objs.size f cdv)) →
      SndL (cxOf CX0 P w K mg base N qual (defScope st) f cdv A outer s H E).nox Y (defBody st) fb)
    (hg : ∀ ts, ts.length = n → g ts = outR (fb (en0 N.length ts))) : FnOk P w K mg base CX0 (k + 1) f fd ps (spP cl n g) := by
  subst hn
  refine F.ok S spP.len fun cdv A outer s H vs Q E hr ⟨B, ts, hl, sB, r, q⟩ => ?_
  refine ⟨_, hb cdv A outer s H E ⟨B, H, E, cl⟩ rfl hr (en0 N.length ts), B, SI.start (Y := ⟨B, H, E, cl⟩) sB r, ?_⟩
  rw [hg ts hl] at q
  revert q
  cases fb (en0 N.length ts) with
  | rt t => exact fun q v H' s r => q v H' s r
  | nx ρ => exact fun q σ' H' B' _ I => q .non H' I.sH .non
  | ex c => exact fun q => q
  | bk ρ => exact fun q => q.elim
  | ct ρ => exact fun q => q.elim
  | bad => exact fun q => q
end
/-! ### walked things -/
abbrev rI : Hp → Hp → It → List T → Prop := fun B1 _ J ts => ∀ B2 H2, Same B1 B2 → Same B2 H2 → (∀ i, i < ts.length → J.go i H2) ∧ (∀ (i : Nat) t x H3, ts[i]? = some t → J.yld i H2 x H3 → Same H2 H3 ∧ Rep (Grow B2 H2 H3) x t) ∧ (∀ i, ts.length ≤ i → J.stop i H2)
structure SndI (X : Cx) (Y : Fx) (tg iter : Expr) (f : En → R (List T)) : Prop where
  mk ::
  go : ∀ ρ, PI X tg iter (tS Y rI f ρ)
instance {X : Cx} {Y : Fx} {tg iter : Expr} {f : En → R (List T)} : CoeFun (SndI X Y tg iter f) fun _ => ∀ ρ, PI X tg iter (tS Y rI f ρ) := ⟨SndI.go⟩
section
variable {X : Cx} {Y : Fx} {a b c d tg : Expr} {fa fb fc fd : En → R T} {pos p : Pos}
theorem PI.imp {e : Expr} {t t' : TI} (h : PI X tg e t) (i : ∀ σ H Q, t' σ H Q → t σ H Q) : PI X tg e t' := fun pins s σ H Q I q => h pins s σ H Q I (i σ H Q q)
/-- a list or a tuple -/
theorem pi_seq {l : Expr} {tl : TE} (hl : PE X l tl) : PI X tg l (fun σ H R => tl σ H fun x H1 => ∃ a, x = .ref a ∧ (((∃ xs, SqL X.K H1 a xs) ∧ R (Itl X.K a) H1) ∨ ((∃ xs, SqT X.K H1 a xs) ∧ R (Itt X.K a) H1))) := by
  intro pins s σ H R I h
  refine thn (hl pins s σ H _ I h) fun v s1 ⟨x, H1, I1, r1, q1⟩ => ?_
  obtain ⟨a, e, q⟩ := q1
  subst e
  obtain rfl : v = Value.ref a := r1
  have ok : ∀ b ∈ [s1.heap.objs.size], FpOk X pins H1 b := fun b hb => by
    have e : b = s1.heap.objs.size := by simpa using hb
    subst e
    exact I1.fpOk (Nat.le_refl _) (I1.hok.fresh (Nat.le_refl _))
  rcases q with ⟨⟨xs, hq⟩, q⟩ | ⟨⟨xs, hq⟩, q⟩
  · obtain ⟨its, rv, p, hz⟩ := I1.list hq
    exact wpAny_pyIter_list p.isList ⟨s1.heap.objs.size, [s1.heap.objs.size], _, _, H1, rfl, I1.kept (t' := s1.toks) fun b o e => Heap.get?_push_of_some _ e, turn_list a _, ⟨_, Heap.get?_push_size _ rfl, rfl, rfl⟩, ok, q⟩
  · obtain ⟨its, rv, p, hz⟩ := I1.tuple hq
    exact wpAny_pyIter_tuple (show s1.heap.IsTuple a its.toArray from p) ⟨s1.heap.objs.size, [s1.heap.objs.size], _, _, H1, rfl, I1.kept (t' := s1.toks) fun b o e => Heap.get?_push_of_some _ e, turn_tuple a _, ⟨_, Heap.get?_push_size _ rfl, rfl, rfl⟩, ok, q⟩
def itemsT : T → R (List T)
  | .lst xs => .ok xs
  | .tup xs => .ok xs
  | _ => .bad
theorem rI_tup {K : PySem.W.Frag} {B1 H1 : Hp} {a : Addr} {xs : List V} {ts : List T} (h : B1 a = some (.tup xs)) (r : Reps B1 xs ts) : rI B1 H1 (Itt K a) ts := fun B2 H2 s1 s2 => by
  have h2 := s2 _ _ (s1 _ _ h)
  refine ⟨fun i hi => ?_, fun i t x H3 e y => ?_, fun i hi => ⟨xs, SqT.of h2, by rw [r.length]; exact hi⟩⟩
  · obtain ⟨v, e, _⟩ := r.get (List.getElem?_eq_getElem hi)
    exact ⟨xs, v, SqT.of h2, e⟩
  · obtain ⟨rfl, y⟩ := y
    obtain ⟨v, e1, r1⟩ := r.get e
    have := y xs (SqT.of h2)
    rw [e1] at this; cases this
    refine ⟨Same.refl _, ?_⟩
    rw [Grow.self B2 _ s2]
    exact r1.mono s1
theorem rI_lst {K : PySem.W.Frag} {B1 H1 : Hp} {a : Addr} {xs : List V} {ts : List T} (h : B1 a = some (.lst xs)) (r : Reps B1 xs ts) : rI B1 H1 (Itl K a) ts := fun B2 H2 s1 s2 => by
  have h2 := s2 _ _ (s1 _ _ h)
  refine ⟨fun i hi => ?_, fun i t x H3 e y => ?_, fun i hi => ⟨xs, SqL.of h2, by rw [r.length]; exact hi⟩⟩
  · obtain ⟨v, e, _⟩ := r.get (List.getElem?_eq_getElem hi)
    exact ⟨xs, v, SqL.of h2, e⟩
  · obtain ⟨rfl, y⟩ := y
    obtain ⟨v, e1, r1⟩ := r.get e
    have := y xs (SqL.of h2)
    rw [e1] at this; cases this
    refine ⟨Same.refl _, ?_⟩
    rw [Grow.self B2 _ s2]
    exact r1.mono s1
def seqI (fa : En → R T) : En → R (List T) := fun ρ => (fa ρ).bind itemsT
theorem i_seq (ha : Snd X Y a fa) : SndI X Y tg a (seqI fa) := .mk fun ρ => PI.imp (pi_seq (ha ρ)) fun σ H R ⟨B, I, q⟩ => step I q fun t v H1 _ s1 r1 I1 q1 => by
  cases r1 with
  | @tup l xs ts h r =>
    exact ⟨l, rfl, .inr ⟨⟨xs, SqT.of (I1.sB _ _ h)⟩, fin0 I1 (show Po Y rI _ H1 (.ok ts) R from q1) (rI_tup h r)⟩⟩
  | @lst l xs ts h r =>
    exact ⟨l, rfl, .inl ⟨⟨xs, SqL.of (I1.sB _ _ h)⟩, fin0 I1 (show Po Y rI _ H1 (.ok ts) R from q1) (rI_lst h r)⟩⟩
  | _ => exact q1.elim
/-- numbers from lo, n of them -/
def rng (lo : Int) (n : Nat) : List T := (List.range n).map fun (i : Nat) => T.int (lo + (i : Int))
theorem rI_rng {B1 H1 : Hp} {lo : Int} {n : Nat} : rI B1 H1 (Itr lo n) (rng lo n) := fun B2 H2 s1 s2 => by
  have hl : (rng lo n).length = n := by unfold rng; simp
  refine ⟨fun i hi => by rw [hl] at hi; exact hi, fun i t x H3 e y => ?_, fun i hi => by rw [hl] at hi; exact hi⟩
  obtain ⟨rfl, rfl⟩ := y
  refine ⟨Same.refl _, ?_⟩
  unfold rng at e
  rw [List.getElem?_map] at e
  by_cases hi : i < n
  · rw [List.getElem?_range hi] at e
    cases e
    exact .int _
  · rw [List.getElem?_eq_none (by simp; omega)] at e; cases e
def rng1I (fa : En → R T) : En → R (List T) := fun ρ => (fa ρ).bind fun t => match t with
  | .int j => if -1000000 < j ∧ j < 1000000 then .ok (rng 0 j.toNat) else .bad
  | _ => .bad
def rng2I (fa fb : En → R T) : En → R (List T) := fun ρ => (fa ρ).bind fun t => (fb ρ).bind fun t' => match t, t' with
  | .int i, .int j => if -1000000 < i ∧ i < 1000000 ∧ -1000000 < j ∧ j < 1000000 then .ok (rng i (j - i).toNat) else .bad
  | _, _ => .bad
theorem i_rng1 (gl : Gl X "range") (mg : X.mg "range" = none) (ha : Snd X Y a fa) (hs : St1 X a := by exact st1 rfl) : SndI X Y tg (.Call (.Name "range" p) [a] [] pos) (rng1I fa) := .mk fun ρ => PI.imp (pi_range1 gl mg (pa_cons (ha ρ) pa_nil hs) hs) fun σ H R ⟨B, I, q⟩ => step I q fun t v H1 _ s1 r1 I1 q1 => by
  cases r1 with
  | int j =>
    have q1 : Po Y rI _ H1 (if -1000000 < j ∧ j < 1000000 then .ok (rng 0 j.toNat) else .bad) R := q1
    split at q1
    · rename_i hj
      exact ⟨j, rfl, by omega, by omega, fin0 I1 q1 rI_rng⟩
    · exact q1.elim
  | _ => exact q1.elim
theorem i_rng2 (gl : Gl X "range") (mg : X.mg "range" = none) (ha : Snd X Y a fa) (hb : Snd X Y b fb) (hs : starEach [a, b] X.env = [(false, eval a X.env), (false, eval b X.env)] := by exact st2 rfl rfl) (hs2 : St1 X b := by exact st1 rfl) : SndI X Y tg (.Call (.Name "range" p) [a, b] [] pos) (rng2I fa fb) := .mk fun ρ =>
  PI.imp (pi_range2 gl mg (pa_cons (ha ρ) (pa_cons (hb ρ) pa_nil hs2) (by rw [hs, hs2])) hs hs2) fun σ H R ⟨B, I, q⟩ => step I q fun t v H1 _ s1 r1 I1 q1 => step I1 q1 fun t' v' H2 _ s2 r2 I2 q2 => by
    cases r1 with
    | int i =>
      cases r2 with
      | int j =>
        have q2 : Po Y rI _ H2 (if -1000000 < i ∧ i < 1000000 ∧ -1000000 < j ∧ j < 1000000 then .ok (rng i (j - i).toNat) else .bad) R := q2
        split at q2
        · rename_i hj
          exact ⟨i, j, rfl, ⟨by omega, by omega, by omega, by omega⟩, fin0 I2 q2 rI_rng⟩
        · exact q2.elim
      | _ => exact q2.elim
    | _ => cases r2 <;> exact q2.elim
/-! ### targets -/
/-- a target takes a plain value -/
def SndG (X : Cx) (Y : Fx) (tg : Expr) (g : T → En → R En) : Prop := ∃ t : TG, PG X tg t ∧ ∀ B ρ σ H v x Q, SI Y B ρ σ H → Rep B v x → (match g x ρ with | .ok ρ' => ∀ σ', SI Y B ρ' σ' H → Q σ' H | _ => False) → t v σ H Q
def setG (i : Nat) : T → En → R En := fun t ρ => .ok (ρ.set i (.vl t))
theorem g_name {i : Nat} {x : Str} (hN : X.N.Nodup) (hi : X.N[i]? = some x) (hx : L2.Loc X.env.scope x) (hf : X.fn x = true ∨ X.env.scope.names.lookup x = some .local := by first | exact .inl rfl | exact .inr rfl | assumption) : SndG X Y (.Name x pos) (setG i) :=
  ⟨gName i, pg_name hN hi hx hf, fun B ρ σ H v x Q I r q => q _ (I.setV i r)⟩
def pairG (i j : Nat) : T → En → R En := fun t ρ => match t with
  | .tup [x, y] => .ok ((ρ.set i (.vl x)).set j (.vl y))
  | _ => .bad
theorem g_pair {i j : Nat} {x y : Str} {p' p2 : Pos} {k : Nat} (hc : X.calm = true) (hN : X.N.Nodup) (hi : X.N[i]? = some x) (hj : X.N[j]? = some y) (hx : L2.Loc X.env.scope x) (hy : L2.Loc X.env.scope y)
    (hf : X.fn x = true ∨ X.env.scope.names.lookup x = some .local := by first | exact .inl rfl | exact .inr rfl | assumption) (hf' : X.fn y = true ∨ X.env.scope.names.lookup y = some .local := by first | exact .inl rfl | exact .inr rfl | assumption) :
    SndG X Y (.Tuple [.Name x pos, .Name y p'] k p2) (pairG i j) := by
  refine ⟨gTup X.K 2 (gCons (gName i) (gCons (gName j) gNil)), pg_tup hc (pgs_cons (pg_name hN hi hx hf) (pgs_cons (pg_name hN hj hy hf') pgs_nil)), fun B ρ σ H v t Q I r q => ?_⟩
  cases r with
  | @tup l xs ts h r =>
    cases r with
    | nil => exact q.elim
    | cons r1 rr =>
      cases rr with
      | nil => exact q.elim
      | cons r2 rr =>
        cases rr with
        | cons _ _ => exact q.elim
        | nil =>
          exact ⟨l, _, rfl, SqT.of (I.sB _ _ h), rfl, _, _, rfl, _, _, rfl, rfl, q _ ((I.setV i r1).setV j r2)⟩
  | _ => exact q.elim
/-! ### for -/
def forL (g : T → En → R En) (fb : En → RS) : List T → En → RS
  | [], ρ => .nx ρ
  | t :: ts, ρ => match g t ρ with
    | .ok ρ1 => match fb ρ1 with
      | .nx ρ2 => forL g fb ts ρ2
      | .ct ρ2 => forL g fb ts ρ2
      | .bk ρ2 => .nx ρ2
      | r => r
    | .ex c => .bad
    | .bad => .bad
def forS (fi : En → R (List T)) (g : T → En → R En) (fb : En → RS) : En → RS := fun ρ => (fi ρ).s fun ts => forL g fb ts ρ
theorem s_for {iter : Expr} {sts : List Stmt} {fi : En → R (List T)} {g : T → En → R En} {fb : En → RS} (hp : PassesOwn (model X.prog X.w) X.A X.env X.xe) (hc : X.calm = true) (hi : SndI X Y tg iter fi) (hg : SndG X Y tg g) (hb : SndL X Y sts fb)
    (hs : ∀ x, foldedSetIterable iter X.env x = pure x := by intro _; rfl) : SndS X Y (.For tg iter sts [] pos) (forS fi g fb) := .mk fun ρ => by
  obtain ⟨tG, hG, hG'⟩ := hg
  refine PS.imp (ps_for (tb := fun D σ H => ∃ ρ', tSS Y fb ρ' D σ H) hp hc (hi ρ) hG (fun pins s σ H D I ⟨ρ', q⟩ => hb ρ' pins s σ H D I q) hs) fun D σ H ⟨B, I, q⟩ => ?_
  refine stepS I q fun ts J H1 _ s1 r1 I1 q1 => ?_
  refine ⟨fun i m σ' H' => m = ts.length - i ∧ i ≤ ts.length ∧ ∃ ρ' B', SI Y B' ρ' σ' H' ∧ Same (Grow B H H1) B' ∧ PoS Y B' (forL g fb (ts.drop i) ρ') D, ⟨ts.length, by simp, Nat.zero_le _, ρ, _, I1, Same.refl _, q1⟩, ?_⟩
  rintro i m σ' H' ⟨rfl, hi, ρ', B', I', sB', q'⟩
  obtain ⟨hgo, hyld, hstop⟩ := r1 B' H' sB' I'.sB
  by_cases hlt : i < ts.length
  · refine .inr ⟨hgo i hlt, fun σ2 H2 => ∃ ρ2 B2, SI Y B2 ρ2 σ2 H2 ∧ Same (Grow B H H1) B2 ∧ PoS Y B2 (forL g fb (ts.drop (i + 1)) ρ2) D, fun σ2 H2 ⟨ρ2, B2, I2, s2, q2⟩ => ⟨ts.length - (i + 1), by omega, rfl, hlt, ρ2, B2, I2, s2, q2⟩, fun x H2 y => ?_⟩
    obtain ⟨s2, r2⟩ := hyld i _ x H2 (List.getElem?_eq_getElem hlt) y
    rw [List.drop_eq_getElem_cons hlt] at q'
    unfold forL at q'
    refine hG' _ ρ' σ' H2 x _ _ (I'.grow s2) r2 ?_
    cases eg : g ts[i] ρ' with
    | bad => rw [eg] at q'; exact q'
    | ex c => rw [eg] at q'; exact q'
    | ok ρ1 =>
      rw [eg] at q'
      intro σ1 J1
      refine ⟨ρ1, _, J1, ?_⟩
      have q2 := PoS.up (Grow.ge I'.sB s2) q'
      dsimp only at q2
      have s3 : Same (Grow B H H1) (Grow B' H' H2) := sB'.trans (Grow.ge I'.sB s2)
      revert q2
      cases fb ρ1 with
      | nx ρ2 => exact fun q2 σ3 H3 B3 s4 I3 => ⟨ρ2, B3, I3, s3.trans s4, PoS.up s4 q2⟩
      | ct ρ2 => exact fun q2 σ3 H3 B3 s4 I3 => ⟨ρ2, B3, I3, s3.trans s4, PoS.up s4 q2⟩
      | bk ρ2 => exact fun q2 => q2
      | rt t => exact fun q2 => q2
      | ex c => exact fun q2 => q2
      | bad => exact fun q2 => q2
  · have e : i = ts.length := by omega
    subst e
    rw [List.drop_length] at q'
    exact .inl ⟨hstop _ (Nat.le_refl _), q' σ' H' B' (Same.refl _) I'⟩
/-! ### while, so many turns at most -/
def whileL (g : En → R Bool) (fb : En → RS) : Nat → En → RS
  | 0, _ => .bad
  | n + 1, ρ => (g ρ).s fun k => if k = true then match fb ρ with
      | .nx ρ2 => whileL g fb n ρ2
      | .ct ρ2 => whileL g fb n ρ2
      | .bk ρ2 => .nx ρ2
      | r => r
    else .nx ρ
theorem s_while {n : Nat} {sts : List Stmt} {ga : En → R Bool} {fb : En → RS} (hp : PassesOwn (model X.prog X.w) X.A X.env X.xe) (hc : SndT X Y c ga) (hb : SndL X Y sts fb) : SndS X Y (.While c sts [] pos) (whileL ga fb n) := .mk fun ρ => by
  refine PS.imp (ps_while (tc := fun σ H Q => ∃ ρ', tS Y rE ga ρ' σ H Q) (tb := fun D σ H => ∃ ρ', tSS Y fb ρ' D σ H) hp (fun pins s σ H D I ⟨ρ', q⟩ => hc ρ' pins s σ H D I q) (fun pins s σ H D I ⟨ρ', q⟩ => hb ρ' pins s σ H D I q)) fun D σ H ⟨B, I, q⟩ => ?_
  refine ⟨fun m σ' H' => ∃ ρ' B', SI Y B' ρ' σ' H' ∧ PoS Y B' (whileL ga fb m ρ') D, ⟨n, ρ, B, I, q⟩, ?_⟩
  rintro m σ' H' ⟨ρ', B', I', q'⟩
  cases m with
  | zero => exact q'.elim
  | succ m =>
    unfold whileL at q'
    refine ⟨ρ', stepS I' q' fun t v H1 _ s1 r1 I1 q1 => ?_⟩
    have r1' : v = t := r1
    subst r1'
    cases v with
    | false => exact q1 _ _ _ (Same.refl _) I1
    | true =>
      refine ⟨fun σ2 H2 => ∃ ρ2 B2, SI Y B2 ρ2 σ2 H2 ∧ PoS Y B2 (whileL ga fb m ρ2) D, fun σ2 H2 h => ⟨m, Nat.lt_succ_self m, h⟩, ρ', _, I1, ?_⟩
      have q1 : PoS Y _ (match fb ρ' with
        | .nx ρ2 => whileL ga fb m ρ2
        | .ct ρ2 => whileL ga fb m ρ2
        | .bk ρ2 => .nx ρ2
        | r => r) D := q1
      revert q1
      cases fb ρ' with
      | nx ρ2 => exact fun q2 σ3 H3 B3 s4 I3 => ⟨ρ2, B3, I3, PoS.up s4 q2⟩
      | ct ρ2 => exact fun q2 σ3 H3 B3 s4 I3 => ⟨ρ2, B3, I3, PoS.up s4 q2⟩
      | bk ρ2 => exact fun q2 => q2
      | rt t => exact fun q2 => q2
      | ex c => exact fun q2 => q2
      | bad => exact fun q2 => q2
end
end PV

namespace PV
open PySem PySem.Spec PyProof.Rows L2
/-! ### what a comprehension's block closes over -/
theorem clos_loop {env : Env} : ∀ (ns : List (Str × NameKind)) (acc : List (Str × Addr)), (∀ x ∈ ns, x.2 = NameKind.free → ∃ c, env.cells.lookup x.1 = some c) → (∀ x c, acc.lookup x = some c → env.cells.lookup x = some c) →
    ∃ cl, (forIn ns acc (fun (x : Str × NameKind) (r : List (Str × Addr)) => if (x.2 == NameKind.free) = true then (do let c ← cellOf env x.1; pure (ForInStep.yield ((x.1, c) :: r))) else pure (ForInStep.yield r)) : Sem _) = pure cl ∧
      (∀ x c, cl.lookup x = some c → env.cells.lookup x = some c) ∧ (∀ x c, acc.lookup x = some c → ∃ c', cl.lookup x = some c') ∧ (∀ x ∈ ns, x.2 = NameKind.free → ∃ c, cl.lookup x.1 = some c)
  | [], acc, _, h => ⟨acc, rfl, h, fun x c e => ⟨c, e⟩, fun x hx => by simp at hx⟩
  | (n, k) :: ns, acc, hf, h => by
    by_cases hk : k = NameKind.free
    · obtain ⟨c, hc⟩ := hf (n, k) List.mem_cons_self hk
      have h' : ∀ x d, ((n, c) :: acc).lookup x = some d → env.cells.lookup x = some d := fun x d e => by
        by_cases hx : x = n
        · subst hx
          have e' : some c = some d := by simpa [List.lookup_cons] using e
          cases e'; exact hc
        · have e' : acc.lookup x = some d := by
            rw [List.lookup_cons, (beq_eq_false_iff_ne.mpr hx)] at e; exact e
          exact h x d e'
      obtain ⟨cl, e, h1, h2, h3⟩ := clos_loop ns ((n, c) :: acc) (fun x hx => hf x (List.mem_cons_of_mem _ hx)) h'
      refine ⟨cl, ?_, h1, fun x d ed => ?_, fun x hx hxf => ?_⟩
      · rw [List.forIn_cons]
        subst hk
        have q : cellOf env n = pure c := by unfold cellOf; rw [hc]
        simp only [beq_self_eq_true, if_true, q]
        exact e
      · by_cases hx : x = n
        · subst hx; exact h2 x c (by simp [List.lookup_cons])
        · exact h2 x d (by rw [List.lookup_cons, (beq_eq_false_iff_ne.mpr hx)]; exact ed)
      · rcases List.mem_cons.mp hx with rfl | hx
        · exact h2 n c (by simp [List.lookup_cons])
        · exact h3 x hx hxf
    · obtain ⟨cl, e, h1, h2, h3⟩ := clos_loop ns acc (fun x hx => hf x (List.mem_cons_of_mem _ hx)) h
      refine ⟨cl, ?_, h1, h2, fun x hx hxf => ?_⟩
      · rw [List.forIn_cons]
        have q : (k == NameKind.free) = false := by simpa using hk
        simp only [q, Bool.false_eq_true, if_false]
        exact e
      · rcases List.mem_cons.mp hx with rfl | hx
        · exact absurd hxf hk
        · exact h3 x hx hxf
theorem clos_of {scope : Scope} {env : Env} (hf : ∀ x ∈ scope.names, x.2 = NameKind.free → ∃ c, env.cells.lookup x.1 = some c) :
    ∃ cl, closureFor scope env = pure cl ∧ (∀ x c, cl.lookup x = some c → env.cells.lookup x = some c) ∧ (∀ x ∈ scope.names, x.2 = NameKind.free → ∃ c, cl.lookup x.1 = some c) := by
  obtain ⟨cl, e, h1, _, h3⟩ := clos_loop scope.names [] hf (fun x c e => by simp at e)
  refine ⟨cl, ?_, h1, h3⟩
  unfold closureFor
  show (do let cs ← _; pure cs) = _
  exact (by simpa using e)
/-- the block's context -/
def cxC (X : Cx) (scope : Scope) (N' : List Str) (cl : List (Str × Addr)) (C : Addr) (s3 : Shared) (H3 : Hp) (fp : List Addr) (pins : List (Addr × Obj)) : Cx :=
  { X with N := N', s₀ := s3, H₀ := H3, env := compEnvC scope cl C X.env, outer := X.stack, stack := X.stack, ex := fp, fn := fun _ => false, pn := X.pn ++ pins, xe := fun _ _ => False }
/-- what a scope must be like -/
structure CSc (X : Cx) (scope : Scope) : Prop where
  kind : scope.kind = .function
  nocell : ∀ x ∈ scope.names, x.2 ≠ .cell
  loc : ∀ x ∈ scope.names, x.2 = .local → scope.names.lookup x.1 = some .local
  fre : ∀ x ∈ scope.names, x.2 = .free → X.env.kindOf x.1 = some .cell ∨ X.env.kindOf x.1 = some .free
theorem relabel_kinds {scope : Scope} {env : Env} {x : Str} {k : NameKind} (h : (relabel scope env).names.lookup x = some k) (hk : k = .cell ∨ k = .free) (hn : ∀ x ∈ scope.names, x.2 ≠ NameKind.cell) : ∃ y ∈ scope.names, y.1 = x ∧ y.2 = .free := by
  have go : ∀ ns : List (Str × NameKind), (∀ x ∈ ns, x.2 ≠ NameKind.cell) → (ns.map fun (n, k) => if (k == NameKind.free && env.scope.kind == .function && env.kindOf n == some .cell) then (n, NameKind.cell) else (n, k)).lookup x = some k → ∃ y ∈ ns, y.1 = x ∧ y.2 = .free := by
    intro ns
    induction ns with
    | nil => intro _ h; simp at h
    | cons y ns ih =>
      intro hn h
      obtain ⟨n, k'⟩ := y
      by_cases hx : x = n
      · subst hx
        refine ⟨(x, k'), List.mem_cons_self, rfl, ?_⟩
        rw [List.map_cons] at h
        by_cases hc : (k' == NameKind.free && env.scope.kind == .function && env.kindOf x == some .cell) = true
        · rw [Bool.and_eq_true, Bool.and_eq_true] at hc
          exact eq_of_beq hc.1.1
        · simp only [if_neg hc, List.lookup_cons, beq_self_eq_true] at h
          cases h
          rcases hk with rfl | rfl
          · exact absurd rfl (hn _ List.mem_cons_self)
          · rfl
      · obtain ⟨z, hz, h1, h2⟩ := ih (fun z hz => hn z (List.mem_cons_of_mem _ hz)) (by
          rw [List.map_cons] at h
          by_cases hc : (k' == NameKind.free && env.scope.kind == .function && env.kindOf n == some .cell) = true
          · simp only [if_pos hc, List.lookup_cons, (beq_eq_false_iff_ne.mpr hx)] at h; exact h
          · simp only [if_neg hc, List.lookup_cons, (beq_eq_false_iff_ne.mpr hx)] at h; exact h)
        exact ⟨z, List.mem_cons_of_mem _ hz, h1, h2⟩
  exact go scope.names hn h
section
variable {X : Cx} {pins : List (Addr × Obj)} {σ : Sg} {H : Hp} {s : Shared}
/-- the block begins: s3 is the state ahead of the block's own dict, which comes at the heap's end -/
theorem inv_block {scope : Scope} {N' : List Str} {cl : List (Str × Addr)} {fp : List Addr} {h' : Heap} {tk : Nat} {σ' : Sg} (I : L2.Inv X pins σ H s) (S : CSc X scope) (hc : X.calm = true)
    (hcl : ∀ x c, cl.lookup x = some c → X.env.cells.lookup x = some c) (hcf : ∀ x ∈ scope.names, x.2 = NameKind.free → ∃ c, cl.lookup x.1 = some c)
    (hfp : ∀ b ∈ fp, FpOk X pins H b) (hfo : ∀ b ∈ fp, ∃ o, s.heap.get? b = some o)
    (hns : h'.Ns s.heap.objs.size (fun _ => none)) (hk : ∀ b o, s.heap.get? b = some o → h'.get? b = some o)
    (hl : σ'.length = N'.length) (hσ : ∀ (i : Nat) (x : Str) (v : V), N'[i]? = some x → σ'[i]? = some (some v) → ∃ j : Nat, X.N[j]? = some x ∧ σ[j]? = some (some v) ∧ Vis X.env.scope x ∧ (scope.names.lookup x = some .free) ∧ (X.env.kindOf x = some .cell ∨ X.env.kindOf x = some .free)) :
    L2.Inv (cxC X scope N' cl s.heap.objs.size s H fp pins) [] σ' H { s with heap := h', toks := tk } := by
  have stk := I.stkSub
  have hlt : ∀ b ∈ fp, b < s.heap.objs.size := fun b hb => let ⟨o, e⟩ := hfo b hb; Heap.lt_size e
  have fresh : H s.heap.objs.size = none := I.hok.fresh (Nat.le_refl _)
  refine ⟨⟨I.ok.mod, S.kind, I.ok.glob, I.ok.blt, Nat.le_refl _, fun x y c h1 h2 => I.ok.inj x y c (hcl _ _ h1) (hcl _ _ h2), fun x hx => ?_, fun x c h _ => (Bool.false_ne_true h).elim, fun _ => I.ok.hd hc, I.ok.frames, .inl rfl, fun b hb => ?_, I.bs,
      Nat.le_trans I.ok.bsz I.sz, fun b o e hb => ?_, fun b hb hb' => ?_, I.stack, I.stkFree⟩, rfl, I.bare, Un.kept hk, ⟨_, hns, fun i x v h1 h2 h3 => ?_⟩, fun x c e => ?_, fresh, fun x c e => I.freeC x c (hcl _ _ e), fun p hp => ?_, I.hok.kept hk, hl⟩
  · have hx' : (relabel scope X.env).names.lookup x = some .cell ∨ (relabel scope X.env).names.lookup x = some .free := hx
    obtain ⟨y, hy, rfl, hyf⟩ : ∃ y ∈ scope.names, y.1 = x ∧ y.2 = .free := by
      rcases hx' with h | h
      · exact relabel_kinds h (.inl rfl) S.nocell
      · exact relabel_kinds h (.inr rfl) S.nocell
    exact hcf y hy hyf
  · refine ⟨Nat.ne_of_lt (hlt b hb), fun x c e => (hfp b hb).2.2.2.2.1 x c (hcl _ _ e)⟩
  · rcases (hfp b hb).2.2.2.1 with h | h
    · exact I.ok.noex b o e h
    · exact absurd (Nat.lt_of_lt_of_le (Heap.lt_size e) (Nat.le_trans I.ok.bsz h)) (Nat.lt_irrefl _)
  · have q := hfp b hb
    rcases List.mem_cons.mp (stk b hb') with z | z
    · exact q.2.1 z
    · exact q.2.2.1 z
  · obtain ⟨j, e1, e2, e3, e4, e5⟩ := hσ i x v h1 h2
    obtain ⟨m, hn, hloc⟩ := I.loc
    obtain ⟨u, ru, lk⟩ := hloc j x v e1 e2 e3
    refine ⟨u, ru, .inr ⟨?_, ?_⟩⟩
    · have h3 : Vis (relabel scope X.env) x := h3
      rcases h3 with h | h | h
      · exfalso
        have : ∀ ns : List (Str × NameKind), ns.lookup x = some .free → (ns.map fun (n, k) => if (k == NameKind.free && X.env.scope.kind == .function && X.env.kindOf n == some .cell) then (n, NameKind.cell) else (n, k)).lookup x ≠ some .local := by
          intro ns
          induction ns with
          | nil => intro z; simp at z
          | cons y ns ih =>
            obtain ⟨n, k⟩ := y
            intro z w
            rw [List.map_cons] at w
            by_cases hx : x = n
            · subst hx
              have hkf : some k = some NameKind.free := by simpa [List.lookup_cons] using z
              by_cases hcn : (k == NameKind.free && X.env.scope.kind == .function && X.env.kindOf x == some .cell) = true
              · simp only [if_pos hcn, List.lookup_cons, beq_self_eq_true] at w; cases w
              · simp only [if_neg hcn, List.lookup_cons, beq_self_eq_true] at w
                rw [hkf] at w; cases w
            · have z' : ns.lookup x = some .free := by rw [List.lookup_cons, (beq_eq_false_iff_ne.mpr hx)] at z; exact z
              refine ih z' ?_
              by_cases hcn : (k == NameKind.free && X.env.scope.kind == .function && X.env.kindOf n == some .cell) = true
              · simp only [if_pos hcn, List.lookup_cons, (beq_eq_false_iff_ne.mpr hx)] at w; exact w
              · simp only [if_neg hcn, List.lookup_cons, (beq_eq_false_iff_ne.mpr hx)] at w; exact w
        exact this _ e4 h
      · exact .inl h
      · exact .inr h
    · rcases lk with ⟨hk', _⟩ | ⟨_, c, hc', hcell⟩
      · rcases e5 with z | z <;> (rw [z] at hk'; cases hk')
      · obtain ⟨c', hc2⟩ := hcf (x, .free) (PySem.mem_of_lookup e4) rfl
        have := hcl x c' hc2
        rw [hc'] at this; cases this
        obtain ⟨o, eo, ed⟩ := hcell
        exact ⟨c, hc2, o, hk _ _ eo, ed⟩
  · obtain ⟨v, o, eo, ed⟩ := I.cell x c (hcl _ _ e)
    exact ⟨v, o, hk _ _ eo, ed⟩
  · have hp' : p ∈ X.pn ++ pins := by
      have : p ∈ (X.pn ++ pins) ++ [] := hp
      rwa [List.append_nil] at this
    obtain ⟨e, n, ne, nf, dc⟩ := I.pin p hp'
    refine ⟨hk _ _ e, n, Nat.ne_of_lt (Heap.lt_size e), fun hb => ?_, dc⟩
    rcases List.mem_cons.mp (stk _ hb) with z | z
    · exact ne z
    · exact nf z
end
end PV

namespace PV
open PySem PySem.Spec PyProof.Rows L2
/-! ### the tests of a comprehension -/
def PIf (X : Cx) (ifs : List Expr) (t : TT) : Prop :=
  ∀ (pins : List (Addr × Obj)) (s : Shared) (σ : Sg) (H : Hp) (Q : Bool → Hp → Prop), L2.Inv X pins σ H s → t σ H Q →
    wpAny (model X.prog X.w) X.A (forIn ifs true fun c r => if r = true then do let ok ← isTrue c X.env (eval c X.env); pure (ForInStep.yield ok) else pure (ForInStep.yield r)) (TP X pins σ Q) X.xe s
theorem pif_nil {X : Cx} : PIf X [] (fun _ H Q => Q true H) := fun _ _ σ H _ I h => wpAny_tests_nil ⟨H, I, h⟩
theorem pif_one {X : Cx} {c : Expr} {t : TT} (h : PT X c t) : PIf X [c] t := fun pins s σ H Q I q => wpAny_tests_one (h pins s σ H Q I q)
/-- an inner wish that nothing leaves is any wish -/
theorem nothing {α : Type} {M : Model} {A : Around} {m : Sem α} {Q : α → Shared → Prop} {E E' : Value → Shared → Prop} {s : Shared} (hE : E' = fun _ _ => False) (h : wpAny M A m Q E' s) : wpAny M A m Q E s := wpAny_mono h (fun _ _ q => q) fun e s' z => by
  rw [hE] at z; exact z.elim
def CTurn (J : It) (D : Addr) (g : TG) (tt : TT) (te : TE) (fin : Sg → Hp → Prop) (W : Nat → Nat → List V → Sg → Hp → Prop) : Prop :=
  ∀ i m ys σ H, W i m ys σ H → H D = some (.lst ys) ∧ ((J.stop i H ∧ fin σ H) ∨ (J.go i H ∧ ∀ x H2, J.yld i H x H2 → g x σ H2 fun σ3 H3 => tt σ3 H3 fun k H4 =>
    if k = true then te σ3 H4 fun v H5 => H5 D = some (.lst ys) ∧ ys.length < sizeLine ∧ ∃ m', m' < m ∧ W (i + 1) m' (ys ++ [v]) σ3 (upd H5 D (.lst (ys ++ [v]))) else ∃ m', m' < m ∧ W (i + 1) m' ys σ3 H4))
theorem comp_loop {X : Cx} (hx : X.xe = fun _ _ => False) (hc : X.calm = true) {tg iter elt : Expr} {ifs : List Expr} {scope : Scope} {pos : Pos} {J : It} {fp : List Addr} {it : Addr} {tn : Nat → Heap → Prop} (TJ : Turn X.prog X.w X.K tg J fp it tn)
    {g : TG} {tt : TT} {te : TE} (hg : PG X tg g) (ht : PIf X ifs tt) (he : PE X elt te) {D : Addr} {R : Result → Shared → Prop} {fin : Sg → Hp → Prop} (W : Nat → Nat → List V → Sg → Hp → Prop) (turn : CTurn J D g tt te fin W)
    (hR : ∀ s σ H, L2.Inv X [] σ H s → fin σ H → R (.ok .next) s) {m0 : Nat} {σ0 : Sg} {H0 : Hp} {s0 : Shared} (w0 : W 0 m0 [] σ0 H0) (I0 : L2.Inv X [] σ0 H0 s0) (t0 : tn 0 s0.heap) (f0 : ∀ b ∈ fp, FpOk X [] H0 b) :
    codeAny (model X.prog X.w) X.A (.compLoop (.ListComp elt [⟨tg, iter, ifs, 0⟩] scope pos) 0 (.ref it) (.ref D) X.env) R s0 := by
  have stat : ∀ {H' : Hp}, (∀ b ∈ fp, H' b = none) → ∀ b ∈ fp, FpOk X [] H' b := fun hn b hb => ⟨hn b hb, (f0 b hb).2⟩
  refine codeAny_loop rfl (fun n s' => ∃ i ys σ' H', L2.Inv X [] σ' H' s' ∧ tn i s'.heap ∧ (∀ b ∈ fp, H' b = none) ∧ W i n ys σ' H') (fun n s3 h3 => ?_) m0 ⟨0, [], σ0, H0, I0, t0, fun b hb => (f0 b hb).1, w0⟩
  obtain ⟨i, ys, σ3, H3, I3, st3, fr3, w3⟩ := h3
  show wpAny _ X.A ((compTurn (.ListComp elt [⟨tg, iter, ifs, 0⟩] scope pos) 0 (.ref it) (.ref D) X.env).onRaise (fun x => do noteFrame x X.env; theTreesLotGoes x)) _ _ s3
  refine wpAny_noted ?_
  rw [compTurn_list]
  obtain ⟨hD, h⟩ := turn i n ys σ3 H3 w3
  rcases h with ⟨stop, qn⟩ | ⟨go, next⟩
  · refine wpAny_bind (wpAny_standAt (wpAny_bind (thn (TJ.done X rfl rfl rfl hc i [] s3 σ3 H3 _ I3 (stat fr3) st3 stop) fun r s4 ⟨hr, I4⟩ => ?_)))
    subst hr
    exact wpAny_pure (hR s4 σ3 H3 I4 qn)
  · refine wpAny_bind (wpAny_standAt (wpAny_bind (thn (TJ.item X rfl rfl rfl hc i [] s3 σ3 H3 _ I3 (stat fr3) st3 go) fun r s4 ⟨u, hr, h4⟩ => ?_)))
    subst hr
    refine wpAny_bind (thn h4 fun _ s5 ⟨x, H5, I5, r5, y5, st5, fr5⟩ => ?_)
    have I5' := I5.pinned (stat fr5) (TJ.obj _ _ st5)
    refine wpAny_bind (nothing hx (thn (hg _ s5 σ3 H5 x u _ I5' r5 (next x H5 y5)) fun _ s6 ⟨σ6, H6, I6, q6⟩ => ?_))
    have again : ∀ {σ7 : Sg} {H7 : Hp} {s7 : Shared} {ys' : List V}, L2.Inv X ([] ++ pinsAt fp s5.heap) σ7 H7 s7 → (∃ m', m' < n ∧ W (i + 1) m' ys' σ7 H7) → ∃ m, m < n ∧ ∃ i ys σ' H', L2.Inv X [] σ' H' s7 ∧ tn i s7.heap ∧ (∀ b ∈ fp, H' b = none) ∧ W i m ys σ' H' := fun {σ7 H7 s7 ys'} I7 ⟨m', hm, w7⟩ => by
      refine ⟨m', hm, i + 1, ys', σ7, H7, I7.unpinned, TJ.keep _ _ _ st5 fun b hb o e => (I7.pin (b, o) (List.mem_append_right _ (List.mem_append_right _ (mem_pinsAt hb e)))).1, fun b hb => ?_, w7⟩
      obtain ⟨o, e, d⟩ := TJ.obj _ _ st5 b hb
      exact (I7.pin (b, o) (List.mem_append_right _ (List.mem_append_right _ (mem_pinsAt hb e)))).2.1
    refine wpAny_bind (nothing hx (thn (ht _ s6 σ6 H6 _ I6 q6) fun k s7 ⟨H7, I7, q7⟩ => ?_))
    cases k with
    | false => exact wpAny_pure ⟨rfl, again I7 q7⟩
    | true =>
      refine wpAny_bind (wpAny_bind (nothing hx (thn (he _ s7 σ6 H7 _ I7 q7) fun v s8 ⟨y, H8, I8, r8, hD8, hlen, q8⟩ => ?_)))
      refine wpAny_bind (nothing hx (thn (mt_append _ s8 σ6 H8 (.ref D) [y] (.ref D) [v] (fun _ H9 => ∃ m', m' < n ∧ W (i + 1) m' (ys ++ [y]) σ6 H9) I8 rfl (.cons r8 .nil) ⟨D, ys, y, rfl, rfl, hD8, hlen, q8⟩) fun w s9 ⟨_, H9, I9, _, q9⟩ => ?_))
      exact wpAny_pure (wpAny_pure ⟨rfl, again I9 q9⟩)
/-- the slots that the block sees -/
def capS (k : Nat) (js : List Nat) (σ : Sg) : Sg := List.replicate k none ++ js.map fun j => (σ[j]?).getD none
section
variable {X : Cx}
/-- the inner rules, for every block that can come -/
abbrev AllC (X : Cx) (scope : Scope) (N' : List Str) (P : Cx → Prop) : Prop := ∀ cl C s3 H3 fp pins, P (cxC X scope N' cl C s3 H3 fp pins)
def tComp (wi : TI) (k : Nat) (js : List Nat) (g : TG) (tt : TT) (te : TE) (Q : Sg → Hp → VK → Prop → Prop) : TE := fun _ _ _ => True
/-- how N' names the block's slots: k own ones, then the captured -/
structure Caps (X : Cx) (scope : Scope) (N' : List Str) (k : Nat) (js : List Nat) : Prop where
  len : N'.length = k + js.length
  cap : ∀ (i j : Nat), js[i]? = some j → ∃ x, N'[k + i]? = some x ∧ X.N[j]? = some x ∧ Vis X.env.scope x ∧ scope.names.lookup x = some .free ∧ (X.env.kindOf x = some .cell ∨ X.env.kindOf x = some .free)
theorem comp_run {tg iter elt : Expr} {ifs : List Expr} {scope : Scope} {pos pos' : Pos} {N' : List Str} {k : Nat} {js : List Nat} {wi : TI} {g : TG} {tt : TT} {te : TE} {use : Option (Value → Sem Unit)} (S : CSc X scope) (CP : Caps X scope N' k js) (hc : X.calm = true)
    (hi : PI X tg iter wi) (hg : AllC X scope N' fun XC => PG XC tg g) (ht : AllC X scope N' fun XC => PIf XC ifs tt) (he : AllC X scope N' fun XC => PE XC elt te) {pins : List (Addr × Obj)} {σ : Sg} {H : Hp} {s : Shared} {Q : Value → Shared → Prop} {F : Addr → Hp → Prop} (I : L2.Inv X pins σ H s)
    (h : wi σ H fun J H1 => ∀ D, H1 D = none → ∃ W, (∃ m, W 0 m [] (capS k js σ) (upd H1 D (.lst []))) ∧ CTurn J D g tt te (fun _ H' => F D H') W)
    (hQ : ∀ D C H' s', L2.Inv X pins σ H' s' → F D H' → H' C = none → (X.s₀.heap.objs.size ≤ C) → C ≠ X.env.locals → (∀ x c, X.env.cells.lookup x = some c → c ≠ C) → (∀ p ∈ X.pn ++ pins, p.1 ≠ C) → (∃ m, s'.heap.Ns C m) → compPost (model X.prog X.w) X.A X.xe use Q (.ref D) C (.ok .next) s')
    (hs : ∀ x, foldedSetIterable iter X.env x = pure x := by intro _; rfl) :
    wpAny (model X.prog X.w) X.A (comprehension (.ListComp elt [⟨tg, iter, ifs, 0⟩] scope pos) scope X.env pos' (newList []) false (eval iter X.env) use) Q X.xe s := by
  obtain ⟨cl, ecl, hcl, hcf⟩ := clos_of (scope := scope) (env := X.env) fun x hx hf => I.ok.has x.1 (S.fre x hx hf)
  refine wpAny_comprehension_free rfl hs ecl S.kind S.loc ?_
  refine thn (hi pins s σ H _ I h) fun v s1 h1 => thn h1 fun itv s2 h2 => ?_
  obtain ⟨it, fp, tn, J, H2, e, I2, TJ, st2, f2, q2⟩ := h2
  subst e
  refine wpAny_newObj_type ?_
  have hD : H2 s2.heap.objs.size = none := I2.hok.fresh (Nat.le_refl _)
  have I3 : L2.Inv X pins σ (upd H2 s2.heap.objs.size (.lst [])) { s2 with heap := s2.heap.push { cls := .type "list", data := .seq ([] : List Value).toArray } } :=
    I2.laid (t' := s2.toks) (fun b u e => Heap.get?_push_of_some _ e) (Nat.le_refl _) ⟨Nat.zero_le _, [], _, .nil, Heap.get?_push_size _ rfl⟩
  obtain ⟨W, ⟨m0, w0⟩, turn⟩ := q2 s2.heap.objs.size hD
  have f3 : ∀ b ∈ fp, FpOk X pins (upd H2 s2.heap.objs.size (.lst [])) b := fun b hb => by
    obtain ⟨o, eo, _⟩ := TJ.obj _ _ st2 b hb
    exact ⟨by rw [upd_ne (Nat.ne_of_lt (Heap.lt_size eo))]; exact (f2 b hb).1, (f2 b hb).2⟩
  have o3 : ∀ b ∈ fp, ∃ o, (s2.heap.push { cls := .type "list", data := .seq ([] : List Value).toArray }).get? b = some o := fun b hb => by
    obtain ⟨o, eo, _⟩ := TJ.obj _ _ st2 b hb
    exact ⟨o, Heap.get?_push_of_some _ eo⟩
  refine wpAny_newFunctionEnv S.nocell (by intro y hy; simp at hy) (fun h4 hns4 hsb4 => ?_) S.kind
  generalize hG : s2.heap.push { cls := .type "list", data := .seq ([] : List Value).toArray } = G3 at I3 o3 hns4 hsb4 ⊢
  dsimp only at hns4 hsb4 ⊢
  have s3e : ∃ s3 : Shared, s3 = { s2 with heap := G3 } := ⟨_, rfl⟩
  obtain ⟨s3, es3⟩ := s3e
  have hh3 : s3.heap = s2.heap.push { cls := .type "list", data := .seq ([] : List Value).toArray } := by rw [es3, hG]
  have hg3 : G3 = s3.heap := by rw [es3]
  rw [← es3] at I3
  have ht3 : s2.toks = s3.toks := by rw [es3]
  rw [hg3] at hns4 hsb4 o3
  have k4 : ∀ b o, s3.heap.get? b = some o → h4.get? b = some o := fun b o e => hsb4.extBut b o (Nat.ne_of_lt (Heap.lt_size e)) (Heap.get?_push_of_some _ e)
  have IC := inv_block (N' := N') (cl := cl) (fp := fp) (σ' := capS k js σ) (tk := s3.toks + ([] : List (Str × Value)).length) I3 S hc hcl hcf f3 o3 hns4 k4 (by unfold capS; simp [CP.len]) (fun i x v h1 h2 => by
    unfold capS at h2
    by_cases hik : i < k
    · rw [List.getElem?_append_left (by simpa using hik), List.getElem?_replicate, if_pos hik] at h2
      cases h2
    · have hk' : k ≤ i := by omega
      rw [List.getElem?_append_right (by simpa using hk'), List.length_replicate, List.getElem?_map] at h2
      cases ej : js[i - k]? with
      | none => rw [ej] at h2; cases h2
      | some j =>
        rw [ej] at h2
        obtain ⟨y, e1, e2, e3, e4, e5⟩ := CP.cap (i - k) j ej
        have : k + (i - k) = i := by omega
        rw [this, h1] at e1
        cases e1
        refine ⟨j, e2, ?_, e3, e4, e5⟩
        have h2' : some ((σ[j]?).getD none) = some (some v) := h2
        cases ez : σ[j]? with
        | none => rw [ez] at h2'; cases h2'
        | some z => rw [ez] at h2'; exact congrArg some (Option.some.inj h2'))
  have TC : Turn (cxC X scope N' cl s3.heap.objs.size s3 (upd H2 s2.heap.objs.size (.lst [])) fp pins).prog (cxC X scope N' cl s3.heap.objs.size s3 (upd H2 s2.heap.objs.size (.lst [])) fp pins).w (cxC X scope N' cl s3.heap.objs.size s3 (upd H2 s2.heap.objs.size (.lst [])) fp pins).K tg J fp it tn := TJ
  have t4 : tn 0 h4 := TJ.keep _ _ _ st2 fun b hb o e => k4 b o (by rw [hh3]; exact Heap.get?_push_of_some _ e)
  have fC : ∀ b ∈ fp, FpOk (cxC X scope N' cl s3.heap.objs.size s3 (upd H2 s2.heap.objs.size (.lst [])) fp pins) [] (upd H2 s2.heap.objs.size (.lst [])) b := fun b hb => by
    obtain ⟨q0, q1, q2, q3, q4, q5⟩ := f3 b hb
    obtain ⟨o, eo⟩ := o3 b hb
    refine ⟨q0, Nat.ne_of_lt (Heap.lt_size eo), fun hb' => ?_, .inl hb, fun x c e => q4 x c (hcl _ _ e), fun p hp => ?_⟩
    · rcases List.mem_cons.mp (I3.stkSub b hb') with z | z
      · exact q1 z
      · exact q2 z
    · exact q5 p (by
        have : p ∈ (X.pn ++ pins) ++ [] := hp
        rwa [List.append_nil] at this)
  have fin : ∀ (s5 : Shared) (σ5 : Sg) (H5 : Hp), L2.Inv (cxC X scope N' cl s3.heap.objs.size s3 (upd H2 s2.heap.objs.size (.lst [])) fp pins) [] σ5 H5 s5 → F s2.heap.objs.size H5 → compPost (model X.prog X.w) X.A X.xe use Q (.ref s2.heap.objs.size) s3.heap.objs.size (.ok .next) s5 := fun s5 σ5 H5 I5 q5 => by
    have J5 : L2.Inv X pins σ H5 s5 := I3.call' (ch := fp) I5.os I5.base I5.hok I5.bare fun b hb => by
      obtain ⟨q0, q1, q2, q3, q4, q5⟩ := f3 b hb
      exact ⟨q3, q1, q4, q5⟩
    refine hQ _ _ H5 s5 J5 q5 I5.free I3.sz (Nat.ne_of_gt I3.lt) (fun x c e z => ?_) (fun p hp z => ?_) (let ⟨m, hm, _⟩ := I5.loc; ⟨m, hm⟩)
    · obtain ⟨v', o, eo, _⟩ := I3.cell x c e
      exact absurd (Heap.lt_size eo) (by rw [z]; exact Nat.lt_irrefl _)
    · exact absurd (Heap.lt_size (I3.pin p hp).1) (by rw [z]; exact Nat.lt_irrefl _)
  have loop := comp_loop (X := cxC X scope N' cl s3.heap.objs.size s3 (upd H2 s2.heap.objs.size (.lst [])) fp pins) (iter := iter) (scope := scope) (pos := pos) (R := compPost (model X.prog X.w) X.A X.xe use Q (.ref s2.heap.objs.size) s3.heap.objs.size) rfl hc TC (hg _ _ _ _ _ _) (ht _ _ _ _ _ _) (he _ _ _ _ _ _) W turn fin w0 IC t4 fC
  rw [es3] at loop
  exact codeAny_compStart_list loop (TJ.self _ _ _ _ _ t4 loop)
end
end PV

namespace PV
open PySem PySem.Spec PyProof.Rows L2
/-! ### comprehensions as functions -/
def compL (g : T → En → R En) (ft : En → R Bool) (fe : En → R T) : List T → En → R (List T)
  | [], _ => .ok []
  | t :: ts, ρ => (g t ρ).bind fun ρ1 => (ft ρ1).bind fun k => if k = true then (fe ρ1).bind fun v => (compL g ft fe ts ρ1).bind fun vs => .ok (v :: vs) else compL g ft fe ts ρ1
def cap1 : Option Sl → Sl
  | some (.vl t) => .vl t
  | _ => .un
def capE (k : Nat) (js : List Nat) (ρ : En) : En := List.replicate k .un ++ js.map fun j => cap1 ρ[j]?
/-- nothing may be raised within -/
def quiet {α : Type} : R α → R α
  | .ok a => .ok a
  | _ => .bad
def compR (g : T → En → R En) (ft : En → R Bool) (fe : En → R T) (k : Nat) (js : List Nat) (ρ : En) (ts : List T) : R (List T) := if ts.length ≤ bnd then quiet (compL g ft fe ts (capE k js ρ)) else .bad
def compE (fi : En → R (List T)) (g : T → En → R En) (ft : En → R Bool) (fe : En → R T) (k : Nat) (js : List Nat) : En → R T := fun ρ => (fi ρ).bind fun ts => (compR g ft fe k js ρ ts).bind fun vs => .ok (.lst vs)
def GOk (tG : TG) (g : T → En → R En) : Prop := ∀ Y B ρ σ H v x Q, SI Y B ρ σ H → Rep B v x → (match g x ρ with | .ok ρ' => ∀ σ', SI Y B ρ' σ' H → Q σ' H | _ => False) → tG v σ H Q
theorem gok_name (i : Nat) : GOk (gName i) (setG i) := fun Y B ρ σ H v x Q I r q => q _ (I.setV i r)
theorem gok_pair (K : PySem.W.Frag) (i j : Nat) : GOk (gTup K 2 (gCons (gName i) (gCons (gName j) gNil))) (pairG i j) := fun Y B ρ σ H v t Q I r q => by
  cases r with
  | @tup l xs ts h r =>
    cases r with
    | nil => exact q.elim
    | cons r1 rr =>
      cases rr with
      | nil => exact q.elim
      | cons r2 rr =>
        cases rr with
        | cons _ _ => exact q.elim
        | nil => exact ⟨l, _, rfl, SqT.of (I.sB _ _ h), rfl, _, _, rfl, _, _, rfl, rfl, q _ ((I.setV i r1).setV j r2)⟩
  | _ => exact q.elim
theorem SI.block {Y : Fx} {B : Hp} {ρ : En} {σ : Sg} {H H3 : Hp} {D : Addr} (I : SI Y B ρ σ H) (k : Nat) (js : List Nat) (E : XK) (hD : H D = none) (o : HO) : SI ⟨B, H, E, Y.cl⟩ B (capE k js ρ) (capS k js σ) (upd H D o) where
  s0 := I.sB
  sH := Same.new hD _
  sB := I.sB.trans (Same.new hD _)
  old := fun _ _ _ => rfl
  len := by unfold capE capS; simp
  vl := fun i t h => by
    unfold capE at h
    unfold capS
    by_cases hik : i < k
    · rw [List.getElem?_append_left (by simpa using hik), List.getElem?_replicate, if_pos hik] at h; cases h
    · have hk' : k ≤ i := by omega
      rw [List.getElem?_append_right (by simpa using hk'), List.length_replicate, List.getElem?_map] at h ⊢
      cases ej : js[i - k]? with
      | none => rw [ej] at h; cases h
      | some j =>
        rw [ej] at h
        have h' : cap1 ρ[j]? = .vl t := Option.some.inj h
        unfold cap1 at h'
        split at h'
        · rename_i u e
          cases h'
          obtain ⟨v, e1, r⟩ := I.vl j _ e
          exact ⟨v, by show some ((σ[j]?).getD none) = _; rw [e1]; rfl, r⟩
        · cases h'
  ow := fun i ts h => by
    exfalso
    unfold capE at h
    by_cases hik : i < k
    · rw [List.getElem?_append_left (by simpa using hik), List.getElem?_replicate, if_pos hik] at h; cases h
    · have hk' : k ≤ i := by omega
      rw [List.getElem?_append_right (by simpa using hk'), List.length_replicate, List.getElem?_map] at h
      cases ej : js[i - k]? with
      | none => rw [ej] at h; cases h
      | some j =>
        rw [ej] at h
        have h' : cap1 ρ[j]? = .ow ts := Option.some.inj h
        unfold cap1 at h'
        split at h' <;> cases h'
  xc := fun i c h => by
    exfalso
    unfold capE at h
    by_cases hik : i < k
    · rw [List.getElem?_append_left (by simpa using hik), List.getElem?_replicate, if_pos hik] at h; cases h
    · have hk' : k ≤ i := by omega
      rw [List.getElem?_append_right (by simpa using hk'), List.length_replicate, List.getElem?_map] at h
      cases ej : js[i - k]? with
      | none => rw [ej] at h; cases h
      | some j =>
        rw [ej] at h
        have h' : cap1 ρ[j]? = .xc c := Option.some.inj h
        unfold cap1 at h'
        split at h' <;> cases h'
/-- the acc is written -/
theorem SI.acc {Y : Fx} {B : Hp} {ρ : En} {σ : Sg} {H : Hp} {D : Addr} (I : SI Y B ρ σ H) (hb : B D = none) (h0 : Y.H0 D = none) (ho : ∀ (i : Nat) (ts : List T), ρ[i]? = some (Sl.ow ts) → σ[i]? ≠ some (some (V.ref D))) (o : HO) : SI Y B ρ σ (upd H D o) where
  s0 := I.s0
  sH := fun b u h => by
    rw [upd_ne (fun z => by subst z; rw [h0] at h; cases h)]; exact I.sH b u h
  sB := fun b u h => by
    rw [upd_ne (fun z => by subst z; rw [hb] at h; cases h)]; exact I.sB b u h
  old := I.old
  len := I.len
  vl := I.vl
  ow := fun i ts h => by
    obtain ⟨a, xs, e, b0, h0', hh, r, d⟩ := I.ow i ts h
    refine ⟨a, xs, e, b0, h0', ?_, r, d⟩
    rw [upd_ne (fun z => ho i ts h (by rw [e, z]))]; exact hh
  xc := I.xc
/-- no slot owns -/
def NoOw (ρ : En) : Prop := ∀ (i : Nat) (ts : List T), ρ[i]? ≠ some (Sl.ow ts)
theorem noow_cap (k : Nat) (js : List Nat) (ρ : En) : NoOw (capE k js ρ) := fun i ts h => by
  unfold capE at h
  by_cases hik : i < k
  · rw [List.getElem?_append_left (by simpa using hik), List.getElem?_replicate, if_pos hik] at h; cases h
  · have hk' : k ≤ i := by omega
    rw [List.getElem?_append_right (by simpa using hk'), List.length_replicate, List.getElem?_map] at h
    cases ej : js[i - k]? with
    | none => rw [ej] at h; cases h
    | some j =>
      rw [ej] at h
      have h' : cap1 ρ[j]? = .ow ts := Option.some.inj h
      unfold cap1 at h'
      split at h' <;> cases h'
theorem noow_set {ρ : En} {i : Nat} {t : T} (h : NoOw ρ) : NoOw (ρ.set i (.vl t)) := fun j ts e => by
  rcases set_get e with ⟨_, z⟩ | ⟨_, z⟩
  · cases z
  · exact h j ts z
def GNo (g : T → En → R En) : Prop := ∀ t ρ ρ', NoOw ρ → g t ρ = .ok ρ' → NoOw ρ'
theorem gno_name (i : Nat) : GNo (setG i) := fun t ρ ρ' h e => by
  cases e; exact noow_set h
theorem gno_pair (i j : Nat) : GNo (pairG i j) := fun t ρ ρ' h e => by
  unfold pairG at e
  split at e
  · cases e; exact noow_set (noow_set h)
  · cases e
section
variable {X : Cx} {Y : Fx} {tg iter elt : Expr} {ifs : List Expr} {scope : Scope} {pos pos' : Pos} {N' : List Str} {k : Nat} {js : List Nat} {fi : En → R (List T)} {tG : TG} {g : T → En → R En} {ft : En → R Bool} {fe : En → R T}
structure SndIf (X : Cx) (Y : Fx) (ifs : List Expr) (f : En → R Bool) : Prop where
  mk ::
  go : ∀ ρ, PIf X ifs (tS Y rE f ρ)
instance {X : Cx} {Y : Fx} {ifs : List Expr} {f : En → R Bool} : CoeFun (SndIf X Y ifs f) fun _ => ∀ ρ, PIf X ifs (tS Y rE f ρ) := ⟨SndIf.go⟩
theorem PIf.imp {X : Cx} {e : List Expr} {t t' : TT} (h : PIf X e t) (i : ∀ σ H Q, t' σ H Q → t σ H Q) : PIf X e t' := fun pins s σ H Q I q => h pins s σ H Q I (i σ H Q q)
def noIf : En → R Bool := fun _ => .ok true
theorem if_nil {X : Cx} : SndIf X Y [] noIf := .mk fun ρ => PIf.imp pif_nil fun σ H Q ⟨B, I, q⟩ => fin0 I q rfl
theorem if_one {X : Cx} {c : Expr} (h : SndT X Y c ft) : SndIf X Y [c] ft := .mk fun ρ => pif_one (h ρ)
theorem comp_turn {B1 H1 : Hp} {σ : Sg} {ρ : En} {J : It} {ts vs : List T} {D : Addr} (hG : GOk tG g) (hN : GNo g) (I : SI Y B1 ρ σ H1) (rI' : rI B1 H1 J ts) (hl : ts.length ≤ bnd) (ev : compL g ft fe ts (capE k js ρ) = .ok vs) (hD : H1 D = none) {F : Hp → Prop}
    (hF : ∀ H' xs B', Same H1 H' → H' D = some (.lst xs) → Reps B' xs vs → Same B' (Grow B1 H1 H') → B' D = none → Same B1 B' → F H') :
    ∃ W, (∃ m, W 0 m [] (capS k js σ) (upd H1 D (.lst []))) ∧ CTurn J D tG (fun σ H Q => ∃ Y' ρ', Y'.cl = Y.cl ∧ tS Y' rE ft ρ' σ H Q) (fun σ H Q => ∃ Y' ρ', Y'.cl = Y.cl ∧ tS Y' rC fe ρ' σ H Q) (fun _ H' => F H') W := by
  refine ⟨fun i m ys σ' H' => m = ts.length - i ∧ i ≤ ts.length ∧ ys.length ≤ i ∧ H' D = some (.lst ys) ∧ ∃ ρ' B' us ws, SI ⟨B1, H1, fun _ _ _ => False, Y.cl⟩ B' ρ' σ' H' ∧ NoOw ρ' ∧ Same B1 B' ∧ B' D = none ∧ Reps B' ys us ∧ compL g ft fe (ts.drop i) ρ' = .ok ws ∧ us ++ ws = vs,
    ⟨ts.length, by simp, Nat.zero_le _, Nat.zero_le _, upd_same, _, B1, [], vs, I.block (H3 := H1) k js _ hD _, noow_cap k js ρ, Same.refl _, I.sB.free hD, .nil, ev, rfl⟩, ?_⟩
  rintro i m ys σ' H' ⟨rfl, hi, hyl, hDl, ρ', B', us, ws, I', no', s1', bD, r', ew, eall⟩
  refine ⟨hDl, ?_⟩
  obtain ⟨hgo, hyld, hstop⟩ := rI' B' H' s1' I'.sB
  have tD : ∀ H2, Same H' H2 → Grow B' H' H2 D = none := fun H2 s => by rw [Grow_s hDl]; exact bD
  by_cases hlt : i < ts.length
  · refine .inr ⟨hgo i hlt, fun x H2 y => ?_⟩
    obtain ⟨s2, r2⟩ := hyld i _ x H2 (List.getElem?_eq_getElem hlt) y
    rw [List.drop_eq_getElem_cons hlt] at ew
    unfold compL at ew
    have I2 := I'.grow s2
    refine hG _ _ ρ' σ' H2 x _ _ I2 r2 ?_
    cases eg : g ts[i] ρ' with
    | bad => rw [eg] at ew; cases ew
    | ex c => rw [eg] at ew; cases ew
    | ok ρ1 =>
      rw [eg] at ew
      have no1 : NoOw ρ1 := hN _ _ _ no' eg
      intro σ1 J1
      refine ⟨⟨B1, H1, fun _ _ _ => False, Y.cl⟩, ρ1, rfl, _, J1, ?_⟩
      have ew1 : (ft ρ1).bind (fun k => if k = true then (fe ρ1).bind fun v => (compL g ft fe (ts.drop (i + 1)) ρ1).bind fun vs => .ok (v :: vs) else compL g ft fe (ts.drop (i + 1)) ρ1) = .ok ws := ew
      cases ef : ft ρ1 with
      | bad => rw [ef] at ew1; cases ew1
      | ex c => rw [ef] at ew1; cases ew1
      | ok kk =>
        rw [ef] at ew1
        intro b H3 s3 eb
        have eb' : b = kk := eb
        subst eb'
        have ew2 : (if b = true then (fe ρ1).bind fun v => (compL g ft fe (ts.drop (i + 1)) ρ1).bind fun vs => .ok (v :: vs) else compL g ft fe (ts.drop (i + 1)) ρ1) = .ok ws := ew1
        have J2 := J1.grow s3
        have hD3 : H3 D = some (.lst ys) := s3 _ _ (s2 _ _ hDl)
        have bD3 : Grow (Grow B' H' H2) H2 H3 D = none := by rw [Grow_s (s2 _ _ hDl)]; exact tD H2 s2
        have sB3 : Same B' (Grow (Grow B' H' H2) H2 H3) := (Grow.ge I'.sB s2).trans (Grow.ge I2.sB s3)
        cases b with
        | false =>
          have ew3 : compL g ft fe (ts.drop (i + 1)) ρ1 = .ok ws := ew2
          exact ⟨ts.length - (i + 1), by omega, rfl, hlt, by omega, hD3, ρ1, _, us, ws, J2, no1, s1'.trans sB3, bD3, r'.mono sB3, ew3, eall⟩
        | true =>
          refine ⟨⟨B1, H1, fun _ _ _ => False, Y.cl⟩, ρ1, rfl, _, J2, ?_⟩
          have ew3 : (fe ρ1).bind (fun v => (compL g ft fe (ts.drop (i + 1)) ρ1).bind fun vs => .ok (v :: vs)) = .ok ws := ew2
          cases ee : fe ρ1 with
          | bad => rw [ee] at ew3; cases ew3
          | ex c => rw [ee] at ew3; cases ew3
          | ok v =>
            rw [ee] at ew3
            have ew4 : (compL g ft fe (ts.drop (i + 1)) ρ1).bind (fun vs => .ok (v :: vs)) = .ok ws := ew3
            cases el : compL g ft fe (ts.drop (i + 1)) ρ1 with
            | bad => rw [el] at ew4; cases ew4
            | ex c => rw [el] at ew4; cases ew4
            | ok ws' =>
              rw [el] at ew4
              cases ew4
              intro w H4 s4 rw4
              have hD4 : H4 D = some (.lst ys) := s4 _ _ hD3
              have J3 := J2.grow s4
              have bD4 : Grow (Grow (Grow B' H' H2) H2 H3) H3 H4 D = none := by rw [Grow_s hD3]; exact bD3
              have sB4 := sB3.trans (Grow.ge J2.sB s4)
              refine ⟨hD4, Nat.lt_of_lt_of_le (Nat.lt_of_le_of_lt hyl hlt) (bnd_le hl), ts.length - (i + 1), by omega, rfl, hlt, by rw [List.length_append, List.length_singleton]; omega, upd_same, ρ1, _, us ++ [v], ws', ?_, no1, s1'.trans sB4, bD4, (r'.mono sB4).append (.cons rw4 .nil), el, by rw [List.append_assoc]; exact eall⟩
              exact J3.acc bD4 hD (fun j ts' e => (no1 j ts' e).elim) _
  · have e : i = ts.length := by omega
    subst e
    refine .inl ⟨hstop _ (Nat.le_refl _), ?_⟩
    rw [List.drop_length] at ew
    cases ew
    rw [List.append_nil] at eall
    subst eall
    refine hF H' ys B' I'.sH hDl r' (fun b o h => ?_) bD s1'
    cases q : H1 b with
    | none => rw [Grow_n q]; exact I'.sB b o h
    | some u =>
      rw [Grow_s q]
      have z : B' b = B1 b := I'.old b u q
      rw [← z]; exact h
/-- the rules of a block -/
structure CRules (X : Cx) (Y : Fx) (tg iter elt : Expr) (ifs : List Expr) (scope : Scope) (N' : List Str) (k : Nat) (js : List Nat) (fi : En → R (List T)) (tG : TG) (g : T → En → R En) (ft : En → R Bool) (fe : En → R T) : Prop where
  sc : CSc X scope
  cp : Caps X scope N' k js
  cm : X.calm = true
  it : SndI X Y tg iter fi
  gt : AllC X scope N' fun XC => PG XC tg tG
  gk : GOk tG g
  gn : GNo g
  tt : ∀ Y', Y'.cl = Y.cl → AllC X scope N' fun XC => SndIf XC Y' ifs ft
  el : ∀ Y', Y'.cl = Y.cl → AllC X scope N' fun XC => Snd XC Y' elt fe
  hs : ∀ x, foldedSetIterable iter X.env x = pure x
theorem s_comp (C : CRules X Y tg iter elt ifs scope N' k js fi tG g ft fe) : Snd X Y (.ListComp elt [⟨tg, iter, ifs, 0⟩] scope pos) (compE fi g ft fe k js) := .mk fun ρ => by
  intro pins s σ H Q I ⟨B, J, q⟩
  rw [eval_ListComp]
  refine comp_run (use := none) (Q := EP X pins σ Q) (F := fun D H' => Q (.ref D) H') (te := fun σ H Q => ∃ Y' ρ', Y'.cl = Y.cl ∧ tS Y' rC fe ρ' σ H Q) (tt := fun σ H Q => ∃ Y' ρ', Y'.cl = Y.cl ∧ tS Y' rE ft ρ' σ H Q) C.sc C.cp C.cm (C.it ρ) C.gt
    (fun cl Cx' s3 H3 fp pins pins' s σ H Q I ⟨Y', ρ', ey, q⟩ => C.tt Y' ey cl Cx' s3 H3 fp pins ρ' pins' s σ H Q I q) (fun cl Cx' s3 H3 fp pins pins' s σ H Q I ⟨Y', ρ', ey, q⟩ => C.el Y' ey cl Cx' s3 H3 fp pins ρ' pins' s σ H Q I q) I ?_ ?_ C.hs
  · refine step J q fun ts it' H1 _ s1 r1 J1 q1 => ?_
    intro D hD
    unfold compR at q1
    split at q1
    · rename_i hl
      cases ev : compL g ft fe ts (capE k js ρ) with
      | bad => rw [ev] at q1; exact q1.elim
      | ex c => rw [ev] at q1; exact q1.elim
      | ok vs =>
        rw [ev] at q1
        refine comp_turn C.gk C.gn J1 r1 hl ev hD fun H' xs B' s' e' r' l' b' sb' => ?_
        refine (show Po Y rC _ H1 (.ok (.lst vs)) Q from q1) (.ref D) H' s' ?_
        exact .lst (by rw [Grow_n hD]; exact e') (r'.mono l')
    · exact q1.elim
  · intro D Cc H' s' I' q' hC h0 hL hcell hpin hns
    obtain ⟨m, hm⟩ := hns
    refine ⟨m, hm, fun h' hsb => ⟨.ref D, H', ?_, rfl, q'⟩⟩
    exact I'.turned (t' := s'.toks) (fun b o hb e => hsb.extBut b o hb e) hC (Ne.symm hL).symm (.inr h0) hcell hpin
end
end PV

namespace PV
open PySem PySem.Spec PyProof.Rows L2
section
variable {X : Cx} {Y : Fx} {tg iter elt : Expr} {ifs : List Expr} {scope : Scope} {pos pos' : Pos} {N' : List Str} {k : Nat} {js : List Nat} {fi : En → R (List T)} {tG : TG} {g : T → En → R En} {ft : En → R Bool} {fe : En → R T}
/-- x = [..], where the store comes ahead of the block's end -/
theorem s_setC {i : Nat} {x : Str} {pc p' : Pos} (C : CRules X Y tg iter elt ifs scope N' k js fi tG g ft fe) (hN : X.N.Nodup) (hi : X.N[i]? = some x) (hx : L2.Loc X.env.scope x)
    (hsw : swapsWith (.ListComp elt [⟨tg, iter, ifs, 0⟩] scope pc) (some (.Name x p')) pos.line X.env = pure true) (hf : X.fn x = true ∨ X.env.scope.names.lookup x = some .local := by first | exact .inl rfl | exact .inr rfl | assumption) :
    SndS X Y (.Assign [.Name x p'] (.ListComp elt [⟨tg, iter, ifs, 0⟩] scope pc) pos) (setS i (compE fi g ft fe k js)) := .mk fun ρ => by
  intro pins s σ H D I ⟨B, J, q⟩
  rw [exec_Assign_Name_used _ _ _ _ hsw]
  refine wpAny_bind (wpAny_standAt (wpAny_bind ?_))
  show wpAny _ X.A (do let _ ← comprehension (.ListComp elt [⟨tg, iter, ifs, 0⟩] scope pc) scope X.env _ (newList []) false (eval iter X.env) (some (assign (.Name x p') X.env))) _ _ s
  refine wpAny_bind (thn (comp_run (use := some (assign (.Name x p') X.env)) (Q := fun _ s' => SP X pins D .next s') (F := fun D' H' => D.nx (σ.set i (some (.ref D'))) H') (te := fun σ H Q => ∃ Y' ρ', Y'.cl = Y.cl ∧ tS Y' rC fe ρ' σ H Q) (tt := fun σ H Q => ∃ Y' ρ', Y'.cl = Y.cl ∧ tS Y' rE ft ρ' σ H Q) C.sc C.cp C.cm (C.it ρ) C.gt
    (fun cl Cx' s3 H3 fp pins pins' s σ H Q I ⟨Y', ρ', ey, q⟩ => C.tt Y' ey cl Cx' s3 H3 fp pins ρ' pins' s σ H Q I q) (fun cl Cx' s3 H3 fp pins pins' s σ H Q I ⟨Y', ρ', ey, q⟩ => C.el Y' ey cl Cx' s3 H3 fp pins ρ' pins' s σ H Q I q) I ?_ ?_ C.hs) fun _ s' hq => wpAny_pure (wpAny_pure hq))
  · have q' : PoS Y B (((fi ρ).s fun ts => (compR g ft fe k js ρ ts).s fun vs => .nx (ρ.set i (.vl (.lst vs))))) D := by
      unfold setS compE at q
      revert q
      cases fi ρ with
      | bad => exact fun q => q
      | ex c => exact fun q => q
      | ok ts =>
        intro q
        have q2 : PoS Y B (((compR g ft fe k js ρ ts).bind fun vs => R.ok (T.lst vs)).s fun t => RS.nx (List.set ρ i (Sl.vl t))) D := q
        show PoS Y B ((compR g ft fe k js ρ ts).s fun vs => RS.nx (List.set ρ i (Sl.vl (T.lst vs)))) D
        revert q2
        cases compR g ft fe k js ρ ts with
        | bad => exact fun q => q
        | ex c => exact fun q => q
        | ok vs => exact fun q => q
    refine stepS J q' fun ts it' H1 _ s1 r1 J1 q1 => ?_
    intro D' hD
    unfold compR at q1
    split at q1
    · rename_i hl
      cases ev : compL g ft fe ts (capE k js ρ) with
      | bad => rw [ev] at q1; exact q1.elim
      | ex c => rw [ev] at q1; exact q1.elim
      | ok vs =>
        rw [ev] at q1
        refine comp_turn C.gk C.gn J1 r1 hl ev hD fun H' xs B' s' e' r' l' b' sb' => ?_
        have rr : Rep (Grow (Grow B H H1) H1 H') (.ref D') (.lst vs) := .lst (by rw [Grow_n hD]; exact e') (r'.mono l')
        exact q1 _ _ _ (Grow.ge J1.sB s') ((J1.grow s').setV i rr)
    · exact q1.elim
  · intro D' Cc H' s' I' q' hC h0 hL hcell hpin hns
    obtain ⟨m, hm⟩ := hns
    show wpAny _ X.A (assign (.Name x p') X.env (.ref D')) _ _ s'
    refine wpAny_assign_Name (store_ok2 (v := .ref D') I' hN hi hx rfl (fun s'' I'' ⟨a, hsb, ha⟩ => ?_) hf)
    have hne : Cc ≠ a := by
      rcases ha with rfl | ha
      · exact hL
      · exact (hcell x a ha).symm
    refine ⟨m, hm.sameBut hsb hne, fun h' hsb' => ⟨_, H', ?_, q'⟩⟩
    exact I''.turned (t' := s''.toks) (fun b o hb e => hsb'.extBut b o hb e) hC hL (.inr h0) hcell hpin
end
end PV

namespace PV
open PySem PySem.Spec PyProof.Rows L2
/-! ### the signs of a text -/
def Itc (x : Str) : It := ⟨fun i _ => i < x.cps.size, fun i H v H' => H' = H ∧ ∃ c, x.cps[i]? = some c ∧ v = .str ⟨#[c]⟩, fun i _ => x.cps.size ≤ i⟩
theorem turn_signs {P : Program} {w : World} {K : PySem.W.Frag} {tg : Expr} {x : Str} {t : Tok} {ty : String} (it : Addr) (hty : ty = "str_ascii_iterator" ∨ ty = "str_iterator") : Turn P w K tg (Itc x) [it] it (fun i h => h.IsStrIter it ty x t i) := by
  have W : ∀ A : Around, A.handled = none → Walks P w A it [it] [it] x.cps.size (SignAt x) (fun i h => h.IsStrIter it ty x t i) := fun A hA => by
    rcases hty with rfl | rfl
    · exact Walks.strAscii hA it x t
    · exact Walks.strWide hA it x t
  have hn : ["enumerate", "zip", "dict_itemiterator", "dict_reverseitemiterator", "odict_iterator", "itertools.zip_longest", "itertools.pairwise"].contains ty = false := by rcases hty with rfl | rfl <;> decide
  refine ⟨by simp, fun i h st b hb => ?_, fun i h h' st k => ?_, ?_, ?_, fun A i s Q E st h => ?_⟩
  · have e : b = it := by simpa using hb
    subst e
    obtain ⟨o, e, c, d⟩ := st
    exact ⟨o, e, fun v z => by rw [d] at z; cases z⟩
  · obtain ⟨o, e, r⟩ := st
    exact ⟨o, k it (by simp) o e, r⟩
  · intro X hP hw hK hc i pins s σ H E I hf st hg
    subst hP hw hK
    obtain ⟨f0, f1, f2, f3, f4, f5⟩ := hf it (by simp)
    refine (W X.A (I.ok.hd hc)).item i s _ _ hg st fun v h' tk hv st' kk => ?_
    obtain ⟨c, u, hc', rfl⟩ := hv
    have I1 : L2.Inv X pins σ H { s with heap := h', toks := tk } := I.turned (fun b o hb e => kk b o (by simpa using hb) e) f0 f1 f3 f4 f5
    obtain ⟨o, e, cl, d⟩ := id st'
    exact ⟨_, rfl, go_of (s := { s with heap := h', toks := tk }) e cl d hn ⟨.str ⟨#[c]⟩, H, I1, ⟨u, rfl⟩, ⟨rfl, c, hc', rfl⟩, st', fun b hb => (hf b hb).1⟩⟩
  · intro X hP hw hK hc i pins s σ H E I hf st hg
    subst hP hw hK
    obtain ⟨f0, f1, f2, f3, f4, f5⟩ := hf it (by simp)
    have hx : x.cps[i]? = none := Array.getElem?_eq_none hg
    rcases hty with rfl | rfl
    · exact wpAny_pyNext_ascii_end (I.ok.hd hc) st hx fun h' eb => ⟨rfl, I.turned (t' := s.toks) (fun b o hb e => eb b o hb e) f0 f1 f3 f4 f5⟩
    · exact wpAny_pyNext_wide_end (I.ok.hd hc) st hx fun h' eb => ⟨rfl, I.turned (t' := s.toks) (fun b o hb e => eb b o hb e) f0 f1 f3 f4 f5⟩
  · rcases hty with rfl | rfl
    · exact wpAny_pyIter_striter_ascii st h
    · exact wpAny_pyIter_striter_wide st h
def signs (x : Str) : List T := x.cps.toList.map fun c => T.str ⟨#[c]⟩
theorem rI_signs {B1 H1 : Hp} {x : Str} : rI B1 H1 (Itc x) (signs x) := fun B2 H2 s1 s2 => by
  have hl : (signs x).length = x.cps.size := by unfold signs; simp
  refine ⟨fun i hi => by rw [hl] at hi; exact hi, fun i t v H3 e y => ?_, fun i hi => by rw [hl] at hi; exact hi⟩
  obtain ⟨rfl, c, hc, rfl⟩ := y
  refine ⟨Same.refl _, ?_⟩
  unfold signs at e
  rw [List.getElem?_map] at e
  have hc' : x.cps.toList[i]? = some c := by simpa using hc
  rw [hc'] at e
  cases e
  exact .str _
section
variable {X : Cx} {Y : Fx} {a b c d tg : Expr} {fa fb fc fd : En → R T} {pos p : Pos}
/-- a list, a tuple or a text -/
theorem pi_any {l : Expr} {tl : TE} (hl : PE X l tl) : PI X tg l (fun σ H R => tl σ H fun x H1 => (∃ a, x = .ref a ∧ (((∃ xs, SqL X.K H1 a xs) ∧ R (Itl X.K a) H1) ∨ ((∃ xs, SqT X.K H1 a xs) ∧ R (Itt X.K a) H1))) ∨ (∃ z, x = .str z ∧ R (Itc z) H1)) := by
  intro pins s σ H R I h
  refine thn (hl pins s σ H _ I h) fun v s1 ⟨x, H1, I1, r1, q1⟩ => ?_
  have ok : ∀ b ∈ [s1.heap.objs.size], FpOk X pins H1 b := fun b hb => by
    have e : b = s1.heap.objs.size := by simpa using hb
    subst e
    exact I1.fpOk (Nat.le_refl _) (I1.hok.fresh (Nat.le_refl _))
  rcases q1 with ⟨a, e, q⟩ | ⟨z, e, q⟩
  · subst e
    obtain rfl : v = Value.ref a := r1
    rcases q with ⟨⟨xs, hq⟩, q⟩ | ⟨⟨xs, hq⟩, q⟩
    · obtain ⟨its, rv, p, hz⟩ := I1.list hq
      exact wpAny_pyIter_list p.isList ⟨s1.heap.objs.size, [s1.heap.objs.size], _, _, H1, rfl, I1.kept (t' := s1.toks) fun b o e => Heap.get?_push_of_some _ e, turn_list a _, ⟨_, Heap.get?_push_size _ rfl, rfl, rfl⟩, ok, q⟩
    · obtain ⟨its, rv, p, hz⟩ := I1.tuple hq
      exact wpAny_pyIter_tuple (show s1.heap.IsTuple a its.toArray from p) ⟨s1.heap.objs.size, [s1.heap.objs.size], _, _, H1, rfl, I1.kept (t' := s1.toks) fun b o e => Heap.get?_push_of_some _ e, turn_tuple a _, ⟨_, Heap.get?_push_size _ rfl, rfl, rfl⟩, ok, q⟩
  · subst e
    obtain ⟨t, rfl⟩ := r1
    cases ha : z.cps.all (· < 128)
    · exact wpAny_pyIter_wide ha ⟨s1.heap.objs.size, [s1.heap.objs.size], _, _, H1, rfl, I1.kept (t' := s1.toks) fun b o e => Heap.get?_push_of_some _ e, turn_signs _ (.inr rfl), ⟨_, Heap.get?_push_size _ rfl, rfl, rfl⟩, ok, q⟩
    · exact wpAny_pyIter_ascii ha ⟨s1.heap.objs.size, [s1.heap.objs.size], _, _, H1, rfl, I1.kept (t' := s1.toks) fun b o e => Heap.get?_push_of_some _ e, turn_signs _ (.inl rfl), ⟨_, Heap.get?_push_size _ rfl, rfl, rfl⟩, ok, q⟩
def itemsA : T → R (List T)
  | .lst xs => .ok xs
  | .tup xs => .ok xs
  | .str x => .ok (signs x)
  | _ => .bad
def anyI (fa : En → R T) : En → R (List T) := fun ρ => (fa ρ).bind itemsA
theorem i_any (ha : Snd X Y a fa) : SndI X Y tg a (anyI fa) := .mk fun ρ => PI.imp (pi_any (ha ρ)) fun σ H R ⟨B, I, q⟩ => step I q fun t v H1 _ s1 r1 I1 q1 => by
  cases r1 with
  | @tup l xs ts h r =>
    exact .inl ⟨l, rfl, .inr ⟨⟨xs, SqT.of (I1.sB _ _ h)⟩, fin0 I1 (show Po Y rI _ H1 (.ok ts) R from q1) (rI_tup h r)⟩⟩
  | @lst l xs ts h r =>
    exact .inl ⟨l, rfl, .inl ⟨⟨xs, SqL.of (I1.sB _ _ h)⟩, fin0 I1 (show Po Y rI _ H1 (.ok ts) R from q1) (rI_lst h r)⟩⟩
  | str z => exact .inr ⟨z, rfl, fin0 I1 (show Po Y rI _ H1 (.ok (signs z)) R from q1) rI_signs⟩
  | _ => exact q1.elim
end
/-! ### enumerate(list), for k, x -/
/-- a tuple is laid while the records at ch turn -/
theorem Inv.laidT {X : Cx} {pins : List (Addr × Obj)} {σ : Sg} {H : Hp} {s : Shared} {h' : Heap} {tk : Nat} {ch : List Addr} {a : Addr} {xs : List V} (I : L2.Inv X pins σ H s) (hf : ∀ b ∈ ch, FpOk X pins H b) (k : ∀ b o, b ∉ ch → s.heap.get? b = some o → h'.get? b = some o)
    (th : ∀ b o, b ∈ ch → s.heap.get? b = some o → ∃ o', h'.get? b = some o') (ha : s.heap.objs.size ≤ a) (new : ObjOk X.prog X.w (upd H a (.tup xs)) h' a (.tup xs)) : L2.Inv X pins σ (upd H a (.tup xs)) { s with heap := h', toks := tk } := by
  have hn : H a = none := I.hok.fresh ha
  have nch : ∀ b u, H b = some u → b ∉ ch := fun b u e hb => by rw [(hf b hb).1] at e; cases e
  refine I.call' (s' := { s with heap := h', toks := tk }) (ch := ch) rfl ⟨fun b o e n _ hc => k b o hc e, fun b o e n _ hc => ⟨o.slots, k b o hc e⟩, fun b o e n _ => by rw [upd_ne (Nat.ne_of_lt (Nat.lt_of_lt_of_le (Heap.lt_size e) ha))]; exact n, fun b o e hc => ⟨o, k b o hc e⟩,
    fun b ys e => by rw [upd_ne (ne_of_none e hn)]; exact e, fun b o u e => by rw [upd_ne (ne_of_none e hn)]; exact e, fun b ps e => ⟨#[], by rw [upd_ne (ne_of_none e hn), e]; simp⟩⟩ (fun b u e => ?_) I.bare fun b hb => ?_
  · by_cases hb : b = a
    · subst hb; rw [upd_same] at e; cases e; exact new
    · rw [upd_ne hb] at e
      refine (I.hok b u e).stay (fun c v hc q => ?_) (fun c q => by rw [upd_ne (ne_of_none q hn)]; exact q) fun c ys q => by rw [upd_ne (ne_of_none q hn)]; exact q
      rcases hc with rfl | hc
      · exact k c v (nch c u e) q
      · exact k c v (nch c _ hc) q
  · obtain ⟨f0, f1, f2, f3, f4, f5⟩ := hf b hb
    exact ⟨f3, f1, f4, f5⟩
def Ite (K : PySem.W.Frag) (l : Addr) : It :=
  ⟨fun i H => ∃ xs x, SqL K H l xs ∧ xs[i]? = some x, fun i H v H' => ∃ p x, H p = none ∧ v = .ref p ∧ (∀ xs, SqL K H l xs → xs[i]? = some x) ∧ H' = upd H p (.tup [.int i, x]), fun i H => ∃ xs, SqL K H l xs ∧ xs.length ≤ i⟩
theorem turn_enum {P : Program} {w : World} {K : PySem.W.Frag} {elts : List Expr} {kk : Nat} {pt : Pos} (e it l : Addr) (hei : e ≠ it) (hle : l ≠ e) (hli : l ≠ it) :
    Turn P w K (.Tuple elts kk pt) (Ite K l) [e, it] e (fun i h => (∃ old, IsEnum h e it i old) ∧ h.IsListIter it l i) where
  mem := by simp
  obj := fun i h st b hb => by
    obtain ⟨⟨old, he⟩, o, e1, c, d⟩ := st
    rcases List.mem_cons.mp hb with rfl | hb
    · exact ⟨_, he, fun v z => nomatch z⟩
    · have z : b = it := by simpa using hb
      subst z
      exact ⟨o, e1, fun v z => by rw [d] at z; cases z⟩
  keep := fun i h h' st k => by
    obtain ⟨⟨old, he⟩, hit⟩ := st
    exact ⟨⟨old, k e (by simp) _ he⟩, hit.at fun o x => k it (by simp) o x⟩
  item := by
    intro X hP hw hK hc i pins s σ H E I hf st hg
    subst hP hw hK
    obtain ⟨xs, x, hq, hx⟩ := hg
    obtain ⟨its, rv, p, hz⟩ := I.list hq
    obtain ⟨u, hu, ru⟩ := rv.get hx
    obtain ⟨⟨old, he⟩, hit⟩ := st
    have hi : i < its.toArray.size := by
      have := (List.getElem?_eq_some_iff.mp hu).1
      simpa using this
    refine (WalksT.enumerate (prog := X.prog) (w := X.w) (I.ok.hd hc) e it l hei hle hli its.toArray).item i s _ _ hi ⟨⟨old, he⟩, hit, p.isList⟩ fun T vals h' tk hP hT hTup hM hk => ?_
    obtain ⟨t, y, hy, rfl⟩ := hP
    have hyu : y = u := by
      have : its[i]? = some y := by simpa using hy
      rw [hu] at this; exact (Option.some.inj this).symm
    subst hyu
    refine ⟨.ref T, rfl, ?_⟩
    refine (WalksT.enumerate (prog := X.prog) (w := X.w) (I.ok.hd hc) e it l hei hle hli its.toArray).go elts kk pt i T _ _ _ hM fun h2 hst2 hk2 => ?_
    have hTn : H T = none := I.hok.fresh hT
    have hTne : ∀ b ∈ [e, it], b ≠ T := fun b hb z => by
      obtain ⟨_, _, _, h3, h4⟩ := hM
      rcases List.mem_cons.mp hb with rfl | hb
      · exact h3 z.symm
      · have : b = it := by simpa using hb
        subst this; exact h4 z.symm
    have tup2 : IsTup h2 T #[.int i t, y] := by
      obtain ⟨o, eo, r⟩ := hTup
      exact ⟨o, hk2 T o (fun hb => hTne T hb rfl) eo, r⟩
    refine ⟨.ref T, upd H T (.tup [.int i, x]), Inv.laidT (s := s) (h' := h2) (ch := [e, it]) (tk := tk) I hf (fun b o hb e => hk2 b o hb (hk b o hb e)) (fun b o hb _ => ?_) hT ⟨by rw [sizeLine_eq]; show 2 ≤ 16777216; decide, [.int i t, y], .cons ⟨t, rfl⟩ (.cons ru .nil), tup2⟩, rfl, ⟨T, x, hTn, rfl, fun ys hy => by rw [I.list_inj hy hq]; exact hx, rfl⟩, ⟨hst2.1, hst2.2.1⟩, fun b hb => ?_⟩
    · obtain ⟨⟨old2, he2⟩, ⟨o2, eo2, _⟩, _⟩ := hst2
      rcases List.mem_cons.mp hb with rfl | hb
      · exact ⟨_, he2⟩
      · have : b = it := by simpa using hb
        subst this; exact ⟨o2, eo2⟩
    · rw [upd_ne (hTne b hb)]; exact (hf b hb).1
  done := by
    intro X hP hw hK hc i pins s σ H E I hf st hg
    subst hP hw hK
    obtain ⟨xs, hq, hx⟩ := hg
    obtain ⟨its, rv, p, hz⟩ := I.list hq
    obtain ⟨⟨old, he⟩, hit⟩ := st
    have hl := rv.length
    refine wpAny_pyNext_enum_end (I.ok.hd hc) he hit p.isList (Array.getElem?_eq_none (by simp; omega)) fun h' hk => ⟨rfl, ?_⟩
    obtain ⟨f0, f1, f2, f3, f4, f5⟩ := hf it (by simp)
    exact I.turned (t' := s.toks) (fun b o hb e => hk b o hb e) f0 f1 f3 f4 f5
  self := fun _ _ _ _ _ st h => let ⟨⟨_, he⟩, _⟩ := st; wpAny_pyIter_enum he h
def enumT (xs : List T) : List T := (xs.zipIdx).map fun p => T.tup [.int (p.2 : Nat), p.1]
theorem enumT_get {xs : List T} {i : Nat} {t : T} (h : (enumT xs)[i]? = some t) : ∃ x, xs[i]? = some x ∧ t = .tup [.int (i : Nat), x] := by
  unfold enumT at h
  rw [List.getElem?_map, List.getElem?_zipIdx] at h
  cases e : xs[i]? with
  | none => rw [e] at h; cases h
  | some x => rw [e] at h; cases h; exact ⟨x, rfl, by simp⟩
theorem enumT_length (xs : List T) : (enumT xs).length = xs.length := by unfold enumT; simp
theorem rI_enum {K : PySem.W.Frag} {B1 H1 : Hp} {a : Addr} {xs : List V} {ts : List T} (h : B1 a = some (.lst xs)) (r : Reps B1 xs ts) : rI B1 H1 (Ite K a) (enumT ts) := fun B2 H2 s1 s2 => by
  have h2 := s2 _ _ (s1 _ _ h)
  rw [enumT_length]
  refine ⟨fun i hi => ?_, fun i t x H3 e y => ?_, fun i hi => ⟨xs, SqL.of h2, by rw [r.length]; exact hi⟩⟩
  · obtain ⟨v, e, _⟩ := r.get (List.getElem?_eq_getElem hi)
    exact ⟨xs, v, SqL.of h2, e⟩
  · obtain ⟨p, v, hp, rfl, y, rfl⟩ := y
    obtain ⟨t', et, rfl⟩ := enumT_get e
    obtain ⟨v', e1, r1⟩ := r.get et
    have := y xs (SqL.of h2)
    rw [e1] at this; cases this
    refine ⟨Same.new hp _, .tup (Grow_at hp _) (.cons (.int _) (.cons ?_ .nil))⟩
    exact (r1.mono s1).mono (Grow.ge s2 (Same.new hp _))
section
variable {X : Cx} {Y : Fx} {a : Expr} {fa : En → R T} {pos p pt : Pos} {elts : List Expr} {kk : Nat}
theorem pi_enum {ta : TA} (hg : Gl X "enumerate") (hm : X.mg "enumerate" = none) (ha : PA X [a] ta) (hs : St1 X a := by exact st1 rfl) :
    PI X (.Tuple elts kk pt) (.Call (.Name "enumerate" p) [a] [] pos) (fun σ H R => ta σ H fun vs H1 => ∃ l xs, vs = [.ref l] ∧ H1 l = some (.lst xs) ∧ R (Ite X.K l) H1) := by
  intro pins s σ H R I h
  refine Call_ (ld_blt I hg hm PyProof.Rows.Boot.«enumerate» (PyProof.Rows.callWith_type1 (thn (ha pos pins s σ H _ I h) fun us s1 ⟨vs, H1, I1, r1, q1⟩ => ?_) hs rfl))
  obtain ⟨l, xs, e, hl, q⟩ := q1
  subst e
  obtain ⟨u, rfl, ru⟩ := vals1 r1
  obtain rfl : u = Value.ref l := ru
  obtain ⟨_, its, n, rv, eo⟩ := (show ObjOk X.prog X.w H1 s1.heap l (.lst xs) from I1.hok l _ hl)
  have hlt : l < s1.heap.objs.size := Heap.lt_size eo
  refine call_enumerate_1 eo fun h' he hit hsz hk => wpAny_pyIter_enum he ?_
  have f : ∀ b ∈ [s1.heap.objs.size + 1, s1.heap.objs.size], FpOk X pins H1 b := fun b hb => by
    rcases List.mem_cons.mp hb with rfl | hb
    · exact I1.fpOk (Nat.le_succ _) (I1.hok.fresh (Nat.le_succ _))
    · have z : b = s1.heap.objs.size := by simpa using hb
      subst z
      exact I1.fpOk (Nat.le_refl _) (I1.hok.fresh (Nat.le_refl _))
  exact ⟨s1.heap.objs.size + 1, [s1.heap.objs.size + 1, s1.heap.objs.size], _, _, H1, rfl, I1.kept (t' := s1.toks) hk, turn_enum _ _ l (Nat.succ_ne_self _) (Nat.ne_of_lt (Nat.lt_succ_of_lt hlt)) (Nat.ne_of_lt hlt), ⟨⟨_, he⟩, hit⟩, f, q⟩
def enumI (fa : En → R T) : En → R (List T) := fun ρ => (fa ρ).bind fun t => match t with
  | .lst xs => .ok (enumT xs)
  | _ => .bad
theorem i_enum (hg : Gl X "enumerate") (hm : X.mg "enumerate" = none) (ha : Snd X Y a fa) (hs : St1 X a := by exact st1 rfl) : SndI X Y (.Tuple elts kk pt) (.Call (.Name "enumerate" p) [a] [] pos) (enumI fa) := .mk fun ρ =>
  PI.imp (pi_enum hg hm (pa_cons (ha ρ) pa_nil hs) hs) fun σ H R ⟨B, I, q⟩ => step I q fun t v H1 _ s1 r1 I1 q1 => by
    cases r1 with
    | @lst l xs ts h r => exact ⟨l, xs, rfl, I1.sB _ _ h, fin0 I1 (show Po Y rI _ H1 (.ok (enumT ts)) R from q1) (rI_enum h r)⟩
    | _ => exact q1.elim
/-! ### 'sep'.join(list of texts) -/
def txts : List T → Option (List Str)
  | [] => some []
  | .str x :: r => match txts r with | some ys => some (x :: ys) | none => none
  | _ :: _ => none
def joinT (sep : Str) : T → R T
  | .lst ts => match txts ts with
    | some ys => if (ys.map (·.length)).sum + ys.length * sep.length ≤ 16777216 then .ok (.str (Txt.join sep ys)) else .bad
    | none => .bad
  | _ => .bad
theorem txts_are {H : Hp} : ∀ {xs : List V} {ts : List T} {its : List Value} {ys : List Str}, Reps H xs ts → Vals xs its → txts ts = some ys → StrsAre its ys
  | _, _, _, ys, .nil, .nil, h => by
    have h' : some [] = some ys := h
    cases h'; exact .nil
  | _, _, _, ys, .cons (t := t) r rs, .cons (b := u) rv vs, h => by
    cases r with
    | str x =>
      unfold txts at h
      split at h
      · rename_i zs e
        cases h
        obtain ⟨tk, rfl⟩ := rv
        exact .cons x tk (txts_are rs vs e)
      · cases h
    | _ => cases h
theorem mt_join : MtR X "str.join" (fun x xs H Q => ∃ z l zs ts ys, x = .str z ∧ xs = [.ref l] ∧ H l = some (.lst zs) ∧ Reps H zs ts ∧ txts ts = some ys ∧ (ys.map (·.length)).sum + ys.length * z.length ≤ 16777216 ∧ Q (.str (Txt.join z ys)) H) := by
  intro pins s σ H x xs v us Q I rx rv h
  obtain ⟨z, l, zs, ts, ys, rfl, rfl, hl, r, e, hb, q⟩ := h
  obtain ⟨t, rfl⟩ := rx
  obtain ⟨u, rfl, ru⟩ := vals1 rv
  obtain rfl : u = Value.ref l := ru
  obtain ⟨its, rv, p, _⟩ := seq_lst I (.inl hl) r
  exact join_list p (by simpa using txts_are r rv e) hb fun t' k => ⟨.str _, H, I.tok k, ⟨t', rfl⟩, q⟩
theorem s_join {z : Str} {kc : Nat} {pz pa : Pos} (ha : SndB X Y a fa) (hb : attributeBase (.Constant (.str z) kc pz) "join" X.env (eval (.Constant (.str z) kc pz) X.env) = eval (.Constant (.str z) kc pz) X.env := by rfl) (hs : St1 X a := by exact st1 rfl)
    (hz : (pa.endLine == p.line) = true := by rfl) : Snd X Y (.Call (.Attribute (.Constant (.str z) kc pz) "join" pa) [a] [] p) (ap1 (joinT z) fa) := .mk fun ρ => by
  have e1 : (((((backTo p (starEach [a] X.env)).all fun x => !x.fst) && (backToKw p (keywordEach [] X.env)).all fun x => x.fst.isSome) && decide (([a].length + ([] : List Keyword).length + if ([] : List Keyword).isEmpty = true then 0 else 1) < 30)) = true) := by rw [hs]; rfl
  refine PE.imp (pe_bm PySem.F.plainAttrs_str PySem.F.slot_str_join PySem.F.type_str_join mt_join pe_str (pa_cons (ha ρ) pa_nil hs) hb e1 hz hs rfl) fun σ H Q ⟨B, I, q⟩ => ?_
  refine ⟨rfl, step I q fun t v H1 _ s1 r1 I1 q1 => ?_⟩
  cases r1 with
  | @lst l xs ts h r =>
    have q1 : Po Y rC _ H1 (match txts ts with | some ys => if (ys.map (·.length)).sum + ys.length * z.length ≤ 16777216 then .ok (.str (Txt.join z ys)) else .bad | none => .bad) Q := q1
    split at q1
    · rename_i ys e
      split at q1
      · rename_i hl
        exact ⟨z, l, xs, ts, ys, rfl, rfl, h, r, e, hl, po0 I1.sB q1 rfl (.str _)⟩
      · exact q1.elim
    · exact q1.elim
  | _ => exact q1.elim
end
end PV

namespace PV
open PySem PySem.Spec PyProof.Rows L2
/-! ### len(set(list of texts)) -/
def dd : List Str → List Str → List Str
  | acc, [] => acc
  | acc, x :: r => dd (if x ∈ acc then acc else acc ++ [x]) r
section
variable {prog : Program} {w : World} {A : Around} {R : Result → Shared → Prop} {I : Addr} {fp wr : List Addr} {n : Nat} {P : Nat → Value → Prop} {St : Nat → Heap → Prop}
theorem setOf_stay {h h' : Heap} {S : Addr} {f g : Str → Bool} {m k : Nat} (x : h.SetOf (strKind prog w) S f m) (e : ∀ o, h.get? S = some o → h'.get? S = some o) (ef : f = g) (em : m = k) : h'.SetOf (strKind prog w) S g k := by
  subst ef em
  obtain ⟨o, es, ep, t, ho, r⟩ := x
  exact ⟨o, es, ep, t, e o ho, r⟩
theorem set_loop (W : Walks prog w A.in1 I fp wr n P St) (S : Addr) (hSf : S ∉ fp) (val : Nat → Str) (hval : ∀ i v, P i v → ∃ t, v = Value.str (val i) t) (hb : n + 1 < scanBound) :
    ∀ (k i : Nat) (acc : List Str) (s : Shared), n - i = k → i ≤ n → acc.length ≤ i → St i s.heap → s.heap.SetOf (strKind prog w) S (fun x => decide (x ∈ acc)) acc.length →
      (∀ h' tk, (∀ b o, b ∉ S :: wr → s.heap.get? b = some o → h'.get? b = some o) → h'.SetOf (strKind prog w) S (fun x => decide (x ∈ dd acc ((List.range' i k).map val))) (dd acc ((List.range' i k).map val)).length →
        R (.ok (.ret .none)) { s with heap := h', toks := tk }) → codeAny (model prog w) A (.builtin "set.update.loop" ⟨[.ref S, .ref I], []⟩) R s := by
  intro k
  induction k with
  | zero =>
    intro i acc s hk hi hal hst hS hR
    obtain rfl : i = n := by omega
    refine codeAny_builtin F.entry_set_update_loop ?_
    rw [Around.under_plainId F.plain_set_update_loop _]
    refine wpAny_bind (m := pyNext (.ref I)) (W.done s _ _ hst fun h' tk hk' => wpAny_pure ?_)
    exact hR h' tk (fun b o hb e => hk' b o (fun z => hb (List.mem_cons_of_mem _ z)) e) (setOf_stay hS (fun o e => hk' S o (fun z => hSf (W.sub _ z)) e) rfl rfl)
  | succ k ih =>
    intro i acc s hk hi hal hst hS hR
    refine codeAny_builtin F.entry_set_update_loop ?_
    rw [Around.under_plainId F.plain_set_update_loop _]
    refine wpAny_bind (m := pyNext (.ref I)) (W.item i s _ _ (by omega) hst fun v h1 tk1 hP hst1 hk1 => ?_)
    obtain ⟨t, rfl⟩ := hval i v hP
    have hS1 := setOf_stay hS (fun o e => hk1 S o (fun z => hSf (W.sub _ z)) e) rfl rfl
    refine wpAny_bind (m := holding [Value.str (val i) t] (setAdd S (.str (val i) t))) (wpAny_holding ?_)
    unfold setAdd
    have isk : (strKind prog w).is (val i) (.str (val i) t) = true := strKind_is _ _ _ _
    refine wpAny_holding (wpAny_bind ((strKind prog w).pyHash isk ?_))
    refine wpAny_setAddHashed_of (knd := strKind prog w) (s := { s with heap := h1, toks := tk1 + 1 }) isk rfl hS1 (by omega) fun h2 hsb hS2 => ?_
    have e2 : (if decide (val i ∈ acc) = true then acc.length else acc.length + 1) = (if val i ∈ acc then acc else acc ++ [val i]).length := by
      by_cases hm : val i ∈ acc
      · simp [hm]
      · simp [hm]
    have e1 : (fun x => decide (x ∈ acc) || decide (x = val i)) = (fun x => decide (x ∈ (if val i ∈ acc then acc else acc ++ [val i]))) := by
      funext x
      by_cases hm : val i ∈ acc
      · simp only [if_pos hm]
        by_cases hx : x = val i
        · subst hx; simp [hm]
        · simp [hx]
      · simp [hm, Bool.decide_or]
    have hS3 := setOf_stay (h' := h2) hS2 (fun o e => e) e1 e2
    refine wpAny_pure ⟨plainId_quiet F.plain_set_update_loop _, ih (i + 1) _ _ (by omega) (by omega) ?_ (W.frame _ h1 _ hst1 fun b hb o e => ?_) hS3 fun h3 tk3 hk3 hS4 => ?_⟩
    · split
      · omega
      · rw [List.length_append, List.length_singleton]; omega
    · exact (hsb.2 b (fun z : b = S => hSf (z ▸ hb))).trans e
    · rw [List.range'_succ, List.map_cons] at hR
      refine hR h3 tk3 (fun b o hb e => hk3 b o hb ?_) hS4
      exact (hsb.2 b (fun z : b = S => hb (z ▸ List.mem_cons_self))).trans (hk1 b o (fun z => hb (List.mem_cons_of_mem _ z)) e)
end
section
variable {prog : Program} {w : World} {A : Around} {E : Value → Shared → Prop} {s : Shared}
set_option maxHeartbeats 3200000 in
theorem set_texts {l : Addr} {its : List Value} {ys : List Str} {Q : Value → Shared → Prop} (hh : A.handled = none) (hl : s.heap.IsList l its.toArray) (hi : StrsAre its ys) (hb : its.length + 1 < scanBound)
    (h : ∀ (h' : Heap) (tk : Nat), h'.SetOf (strKind prog w) s.heap.objs.size (fun x => decide (x ∈ dd [] ys)) (dd [] ys).length → (∀ b o, b < s.heap.objs.size → s.heap.get? b = some o → h'.get? b = some o) →
      Q (.ref s.heap.objs.size) { s with heap := h', toks := tk }) : wpAny (model prog w) A (call (.type "set") [.ref l]) Q E s := by
  have getv : ∀ {its : List Value} {ys : List Str}, StrsAre its ys → its.length = ys.length ∧ ∀ (i : Nat) (v : Value), its[i]? = some v → ∃ t, v = Value.str (ys.getD i ⟨#[]⟩) t := fun {its ys} hi => by
    induction hi with
    | nil => exact ⟨rfl, fun i v e => by simp at e⟩
    | cons y t _ ih =>
      refine ⟨by simp [ih.1], fun i v e => ?_⟩
      cases i with
      | zero => exact ⟨t, by simpa using e.symm⟩
      | succ i => exact ih.2 i v (by simpa using e)
  obtain ⟨hlen, hget⟩ := getv hi
  have hys : (List.range' 0 its.length).map (fun i => ys.getD i ⟨#[]⟩) = ys := by
    rw [hlen]
    refine List.ext_getElem? fun i => ?_
    rw [List.getElem?_map]
    by_cases hi' : i < ys.length
    · rw [List.getElem?_range' hi', List.getElem?_eq_getElem hi']
      simp [List.getElem?_eq_getElem hi']
    · rw [List.getElem?_eq_none (by simp; omega), List.getElem?_eq_none (by omega)]
      rfl
  obtain ⟨c, tl, hmro⟩ := F.called_set.mro
  have hmade := F.called_set.made
  have hsub := F.called_set.sub
  have h1 := F.called_set.notType
  have h2 := F.called_set.canCreate
  have hct := F.typeCall_set_1 (.ref l)
  refine wpAny_call (codeAny_of_tree (show wpAny _ _ (callAny (.type "set") _) _ _ _ from ?_))
  refine wpAny_pure ⟨Code.quiet_builtin _ (by decide +kernel), codeAny_builtin F.entry_type_call ?_⟩
  rw [Around.under_plain (weight_type_call_type "set" [.ref l] []) rfl]
  repeat any_goals (first | assumption | wp_step)
  refine codeAny_mono (code_set_new_1 (.ref l) (E := E) (Q₁ := fun obj s₁ => ∃ led : Bool, obj = .ref s.heap.objs.size ∧ s₁ = { s with heap := s.heap.push { cls := .type "set", dict := none, data := .set #[] 0 (.fresh 0 0 led) } }) fun led => ⟨led, rfl, rfl⟩) fun r s₁ hr => ?_
  cases r with
  | error e => exact hr
  | ok fl =>
    cases fl with
    | ret obj =>
      obtain ⟨led, rfl, rfl⟩ := hr
      generalize hG : s.heap.push { cls := .type "set", dict := none, data := .set #[] 0 (.fresh 0 0 led) } = G
      have hS : G.get? s.heap.objs.size = some { cls := .type "set", dict := none, data := .set #[] 0 (.fresh 0 0 led) } := by rw [← hG]; exact Heap.get?_push_size _ rfl
      have hGs : G.objs.size = s.heap.objs.size + 1 := by rw [← hG, Heap.size_push]
      have hGk : ∀ b o, s.heap.get? b = some o → G.get? b = some o := fun b o e => by rw [← hG]; exact Heap.get?_push_of_some _ e
      have hT : Shared.TypeIs { s with heap := G } (.ref s.heap.objs.size) "set" := ⟨_, hS, rfl⟩
      have hli := F.called_set.init.lookup
      have hbi := F.called_set.init.bind (.ref s.heap.objs.size)
      repeat any_goals (first | assumption | wp_step)
      refine codeAny_mono (codeAny_call_builtin (R := wants (fun r s₂ => r = .none ∧ ∃ h' tk, s₂ = { s with heap := h', toks := tk } ∧ h'.SetOf (strKind prog w) s.heap.objs.size (fun x => decide (x ∈ dd [] ys)) (dd [] ys).length ∧
          (∀ b o, b < s.heap.objs.size → s.heap.get? b = some o → h'.get? b = some o)) E) F.called_set.init.plain F.entry_set_init (check_set_init_1 hT ?_)) fun r₂ s₂ hr₂ => ?_
      · obtain ⟨⟨ocls, odict, odata, oslots⟩, hol, hcl, nl, hdl⟩ := hl
        simp only at hcl hdl
        subst hcl; subst hdl
        have hol' := hGk _ _ hol
        have hsls := F.sub_list_set
        have hslf := F.sub_list_frozenset
        have hne : (Value.type "list" == Value.type "dict") = false := by decide
        have hl1 : G.IsList l its.toArray := ⟨_, hol', rfl, nl, rfl⟩
        have hlS : l < s.heap.objs.size := Heap.lt_size hol
        unfold Builtin.«set.__init__» noKeywords Builtin.Frozenset.updateFrom
        generalize hPI : pyIter = PI
        wp_walk
        subst hPI
        refine wpAny_pyIter_list hl1 (wpAny_bind (wpAny_runValue ?_))
        have hSf : s.heap.objs.size ∉ [G.objs.size, l] := by
          rw [hGs]
          intro z
          rcases List.mem_cons.mp z with z | z
          · exact absurd z (Nat.ne_of_lt (Nat.lt_succ_self _))
          · exact absurd (List.mem_singleton.mp z) (Nat.ne_of_gt hlS)
        refine set_loop (Walks.list (A := A.in1.in1.in1) (by simp [hh]) G.objs.size l (by rw [hGs]; exact Nat.ne_of_lt (Nat.lt_succ_of_lt hlS)) its.toArray) s.heap.objs.size hSf (fun i => ys.getD i ⟨#[]⟩) (fun i v e => hget i v (by simpa using e)) (by simpa using hb) its.length 0 [] _ (by simp) (Nat.zero_le _) (Nat.le_refl _)
          ⟨⟨_, Heap.get?_push_size _ rfl, rfl, rfl⟩, hl1.push _⟩ ?_ ?_
        · have hget' : (G.push { cls := .type "list_iterator", data := .fields #[.ref l, .int 0 0] }).get? s.heap.objs.size = some { cls := .type "set", dict := none, data := .set #[] 0 (.fresh 0 0 led) } := Heap.get?_push_of_some _ hS
          exact setOf_stay ((PyProof.Rows.setObjOf_fresh (knd := strKind prog w) led).setOf hget' (by unfold scanBound; omega)) (fun o e => e) (by funext x; simp) rfl
        · intro h' tk' hm hS'
          rw [hys] at hS'
          refine wpAny_pure (show wpAny _ _ (ret Value.none) _ _ _ from wpAny_pure ⟨rfl, h', tk', rfl, hS', fun b o hb e => ?_⟩)
          refine hm b o (fun z => ?_) (Heap.get?_push_of_some _ (hGk b o e))
          rcases List.mem_cons.mp z with z | z
          · exact absurd z (Nat.ne_of_lt hb)
          · have z' : b = G.objs.size := List.mem_singleton.mp z
            rw [hGs] at z'
            exact absurd z' (Nat.ne_of_lt (Nat.lt_succ_of_lt hb))
      · cases r₂ with
        | error e => exact hr₂
        | ok fl₂ =>
          cases fl₂ with
          | ret r =>
            obtain ⟨rfl, h', tk, rfl, hS', hk'⟩ := hr₂
            repeat any_goals (first | assumption | wp_step)
            exact h _ _ hS' hk'
          | _ => exact hr₂.elim
    | _ => exact hr.elim
end
end PV

namespace PV
open PySem PySem.Spec PyProof.Rows L2
section
variable {X : Cx} {Y : Fx} {a b : Expr} {fa fb : En → R T} {pos pos' p p' : Pos}
theorem call_setL (hh : X.A.handled = none) : CallR X (.type "set") (fun vs H Q => ∃ l xs ts ys, vs = [.ref l] ∧ H l = some (.lst xs) ∧ Reps H xs ts ∧ txts ts = some ys ∧ ts.length + 1 < 4096 ∧
    ∀ q, H q = none → Q (.ref q) (upd H q (.ext fun h => h.SetOf (strKind X.prog X.w) q (fun x => decide (x ∈ dd [] ys)) (dd [] ys).length))) := by
  intro pins s σ H vs us Q I rv h
  obtain ⟨l, xs, ts, ys, rfl, hl, r, ey, hb, q⟩ := h
  obtain ⟨u, rfl, ru⟩ := vals1 rv
  obtain rfl : u = Value.ref l := ru
  obtain ⟨its, rv, pl, hln, _⟩ := seq_lst I (.inl hl) r
  refine set_texts hh pl (txts_are r rv ey) (by unfold scanBound; omega) fun h' tk hS hk => ?_
  refine ⟨.ref s.heap.objs.size, _, I.laid (t' := tk) (fun b u e => hk b u (Heap.lt_size e) e) (Nat.le_refl _) ?_, rfl, q _ (I.hok.fresh (Nat.le_refl _))⟩
  obtain ⟨o, es, ep, t, ho, rr⟩ := id hS
  exact ⟨hS, ⟨o, ho⟩, fun h1 h2 ⟨o1, es1, ep1, t1, ho1, rr1⟩ e => ⟨o1, es1, ep1, t1, e _ ho1, rr1⟩⟩
theorem call_lenS : CallR X (.builtin "len") (fun vs H Q => ∃ q φ f n, vs = [.ref q] ∧ H q = some (.ext φ) ∧ (∀ h : Heap, φ h → h.SetOf (strKind X.prog X.w) q f n) ∧ Q (.int n) H) := by
  intro pins s σ H vs us Q I rv h
  obtain ⟨l, φ, f, n, rfl, hl, hφ, q⟩ := h
  obtain ⟨u, rfl, ru⟩ := vals1 rv
  obtain rfl : u = Value.ref l := ru
  obtain ⟨h1, _, _⟩ := (show ObjOk X.prog X.w H s.heap l (.ext φ) from I.hok l _ hl)
  obtain ⟨o, es, ep, t, ho, hex, hd, _, _, hb, hf, hn⟩ := hφ _ h1
  refine call_len_set ho hex hd hf ?_ ⟨.int es.size, H, I.tok _, ⟨_, rfl⟩, by rw [hn]; exact q⟩
  have : es.size < 4096 := hb
  omega
def lsetT : T → R T
  | .lst ts => match txts ts with
    | some ys => if ts.length + 1 < 4096 then .ok (.int (dd [] ys).length) else .bad
    | none => .bad
  | _ => .bad
theorem s_lset (hh : X.A.handled = none) (gl : Gl X "len") (mg : X.mg "len" = none) (gl' : Gl X "set") (mg' : X.mg "set" = none) (ha : SndB X Y a fa) (hs : St1 X a := by exact st1 rfl) (hs' : St1 X (.Call (.Name "set" p') [a] [] pos') := by exact st1 rfl) :
    Snd X Y (.Call (.Name "len" p) [.Call (.Name "set" p') [a] [] pos'] [] pos) (ap1 lsetT fa) := .mk fun ρ =>
  PE.imp (pe_callB call_lenS gl mg PySem.boot_len (pa_cons (pe_callTy (call_setL hh) gl' mg' PyProof.Rows.Boot.«set» (pa_cons (ha ρ) pa_nil hs) (by decide) (by decide) hs rfl) pa_nil hs') (by decide) (by decide) hs' rfl) fun σ H Q ⟨B, I, q⟩ =>
    step I q fun t v H1 _ s1 r1 I1 q1 => by
      cases r1 with
      | @lst l xs ts h r =>
        have q1 : Po Y rC _ H1 (match txts ts with | some ys => if ts.length + 1 < 4096 then .ok (.int (dd [] ys).length) else .bad | none => .bad) Q := q1
        split at q1
        · rename_i ys e
          split at q1
          · rename_i hl
            refine ⟨l, xs, ts, ys, rfl, h, r, e, hl, fun z hz => ⟨z, _, _, _, rfl, upd_same, fun h hh => hh, ?_⟩⟩
            exact q1 _ _ (Same.new hz _) (.int _)
          · exact q1.elim
        · exact q1.elim
      | _ => exact q1.elim
/-! ### x, y = (a, b) -/
def parS (i j : Nat) (ga : En → R (List T)) : En → RS := fun ρ => (ga ρ).s fun ts => match ts with
  | [x, y] => .nx ((ρ.set i (.vl x)).set j (.vl y))
  | _ => .bad
theorem s_par {i j : Nat} {x y : Str} {ga : En → R (List T)} {px py pt pt2 : Pos} {kt k2 : Nat} (hc : X.calm = true) (hN : X.N.Nodup) (hi : X.N[i]? = some x) (hj : X.N[j]? = some y) (hij : i ≠ j) (hx : X.env.scope.names.lookup x = some .local) (hy : X.env.scope.names.lookup y = some .local)
    (ha : SndA X Y [a, b] ga) (hs : swappedStores [.Tuple [.Name x px, .Name y py] kt pt] (.Tuple [a, b] k2 pt2) X.env = pure (some [x, y])) (hw : swapsWithSole [.Tuple [.Name x px, .Name y py] kt pt] (.Tuple [a, b] k2 pt2) pos.line X.env = pure false := by rfl) :
    SndS X Y (.Assign [.Tuple [.Name x px, .Name y py] kt pt] (.Tuple [a, b] k2 pt2) pos) (parS i j ga) := .mk fun ρ =>
  PS.imp (ps_par hc hN hi hj hij hx hy (ha ρ) hs hw) fun D σ H ⟨B, I, q⟩ => stepS I q fun ts vs H1 _ s1 r1 I1 q1 => by
    cases r1 with
    | nil => exact q1.elim
    | cons r rr =>
      cases rr with
      | nil => exact q1.elim
      | cons r' rr =>
        cases rr with
        | cons _ _ => exact q1.elim
        | nil => exact ⟨_, _, rfl, q1 _ _ _ (Same.refl _) ((I1.setV i r).setV j r')⟩
end
end PV

namespace PV
open PySem PySem.Spec PyProof.Rows L2
theorem passZ {X : Cx} {E : XK} : Passes CX0 X E := fun _ _ _ _ _ _ _ h => h.elim
section
variable {X : Cx} {Y : Fx} {a b : Expr} {fa fb : En → R T} {pos pos' p p' : Pos}
theorem s_callZ {cl : Nat → Value} {k j n : Nat} {f : Addr} {fd : FuncData} {ps : List Str} {g : List T → R T} {x : Str} {es : List Expr} {ga : En → R (List T)} (hy : Y.cl = cl) (F : FnOk X.prog X.w X.K X.mg X.base CX0 j f fd ps (spP cl n g)) (hr : Room k X.A) (hj : j ≤ k) (gl : Gl X x)
    (mg : X.mg x = some (.ref f)) (kp : PySem.W.keepIn X.K (.ref f) = true) (bd : L2.Binds X.K fd ps []) (ha : SndA X Y (a :: es) ga) (hd : (x == ("__debug__" : Str)) = false := by decide)
    (hs : starEach (a :: es) X.env = (false, eval a X.env) :: starEach es X.env := by exact star_cons rfl) (hz : ((backTo pos (starEach es X.env)).any fun x => x.fst) = false := by exact back_any rfl) : Snd X Y (.Call (.Name x p) (a :: es) [] pos) (callE n g ga) := by
  subst hy
  exact s_call F (hr.mono hj) gl mg kp bd passZ ha hd hs hz
theorem s_globI {x : Str} {i : Int} {u : Value} (gl : Gl X x) (mg : X.mg x = some u) (hu : ∃ t, u = Value.int i t) (hd : (x == ("__debug__" : Str)) = false := by decide) : Snd X Y (.Name x pos) (cE (.int i)) := .mk fun ρ =>
  PE.imp (pe_glob (v := .int i) gl mg hu hd) fun σ H Q ⟨B, I, q⟩ => fin0 I q (.int i)
end
/-! ### a scope, by a look -/
def chkC (scope sc0 : Scope) : Bool := (scope.kind == .function) && scope.names.all (fun x => x.2 != .cell) && scope.names.all (fun x => x.2 != .local || scope.names.lookup x.1 == some .local) &&
  scope.names.all (fun x => x.2 != .free || sc0.names.lookup x.1 == some .cell || sc0.names.lookup x.1 == some .free)
theorem csc_of {X : Cx} {scope : Scope} (sc0 : Scope) (h0 : X.env.scope = sc0) (h : chkC scope sc0 = true) : CSc X scope := by
  unfold chkC at h
  simp only [Bool.and_eq_true, List.all_eq_true] at h
  obtain ⟨⟨⟨h1, h2⟩, h3⟩, h4⟩ := h
  refine ⟨eq_of_beq h1, fun x hx => by simpa using h2 x hx, fun x hx hl => ?_, fun x hx hf => ?_⟩
  · have := h3 x hx
    rw [hl] at this
    simpa using this
  · have := h4 x hx
    rw [hf] at this
    show X.env.scope.names.lookup x.1 = _ ∨ X.env.scope.names.lookup x.1 = _
    rw [h0]
    simpa using this
def chkK (N N' : List Str) (scope sc0 : Scope) (k : Nat) (js : List Nat) : Bool := (N'.length == k + js.length) && (List.range js.length).all fun i => match js[i]? with
  | none => true
  | some j => match N'[k + i]?, N[j]? with
    | some x, some y => (x == y) && (sc0.names.lookup x == some .cell || sc0.names.lookup x == some .free) && (scope.names.lookup x == some .free)
    | _, _ => false
theorem caps_of {X : Cx} {scope : Scope} {N' : List Str} {k : Nat} {js : List Nat} (N : List Str) (sc0 : Scope) (hN : X.N = N) (h0 : X.env.scope = sc0) (h : chkK N N' scope sc0 k js = true) : Caps X scope N' k js := by
  unfold chkK at h
  simp only [Bool.and_eq_true, List.all_eq_true] at h
  obtain ⟨h1, h2⟩ := h
  refine ⟨eq_of_beq h1, fun i j e => ?_⟩
  have hi : i < js.length := (List.getElem?_eq_some_iff.mp e).1
  have q := h2 i (List.mem_range.mpr hi)
  rw [e] at q
  dsimp only at q
  split at q
  · rename_i x y e1 e2
    simp only [Bool.and_eq_true, Bool.or_eq_true, beq_iff_eq] at q
    obtain ⟨⟨rfl, q2⟩, q3⟩ := q
    refine ⟨x, e1, by rw [hN]; exact e2, ?_, q3, ?_⟩
    · unfold Vis
      rw [h0]
      exact .inr q2
    · show X.env.scope.names.lookup x = _ ∨ X.env.scope.names.lookup x = _
      rw [h0]
      exact q2
  · cases q
/-- a block, its parts by look -/
theorem crules {X : Cx} {Y : Fx} {tg iter elt : Expr} {ifs : List Expr} {scope : Scope} {k : Nat} {js : List Nat} {fi : En → R (List T)} {tG : TG} {g : T → En → R En} {ft : En → R Bool} {fe : En → R T} (N' : List Str) (N : List Str) (sc0 : Scope) (hN : X.N = N) (h0 : X.env.scope = sc0)
    (h : (chkC scope sc0 && chkK N N' scope sc0 k js) = true) (cm : X.calm = true) (it : SndI X Y tg iter fi) (gt : AllC X scope N' fun XC => PG XC tg tG) (gk : GOk tG g) (gn : GNo g) (tt : ∀ Y', Y'.cl = Y.cl → AllC X scope N' fun XC => SndIf XC Y' ifs ft)
    (el : ∀ Y', Y'.cl = Y.cl → AllC X scope N' fun XC => Snd XC Y' elt fe) (hs : ∀ x, foldedSetIterable iter X.env x = pure x := by intro _; rfl) : CRules X Y tg iter elt ifs scope N' k js fi tG g ft fe := by
  rw [Bool.and_eq_true] at h
  exact ⟨csc_of sc0 h0 h.1, caps_of N sc0 hN h0 h.2, cm, it, gt, gk, gn, tt, el, hs⟩
end PV

namespace G
open PySem PySem.Spec PyProof.Rows L2 PV
def b__law_cell : En → RS :=
    seqS (ifS (cmpT ltC (vB 1) (ap1 lenT (vB 0))) (retS (binE ixT (vE 0) (vE 1))) (nxS))
    (seqS (ifS (cmpT eqC (vB 0) (lstE (nilA))) (retS (cE (.int 0))) (nxS))
    (retS (binE addT (binE mulT (binE ixT (vE 0) (binE modT (vE 1) (ap1 lenT (vB 0)))) (cE (.int 31))) (vE 1))))
def f__law_cell : List T → R T := fun ts => outR (b__law_cell  (en0 2 ts))
def b__law_pick (c__law_cell : List T → R T) : En → RS :=
    seqS (setS 3 (binE modT (binE mulT (binE addT (callE 2 c__law_cell (consA (vE 0) (consA (vE 1) (nilA)))) (binE mulT (cE (.int 6151)) (binE addT (vE 1) (cE (.int 1))))) (cE (.int 40692))) (cE (.int 2147483399))))
    (retS (binE modT (binE modT (binE addT (binE mulT (vE 3) (vE 3)) (binE fdivT (vE 3) (cE (.int 31)))) (cE (.int 2147483629))) (vE 2)))
def f__law_pick : List T → R T := fun ts => outR (b__law_pick (f__law_cell) (en0 4 ts))
def b__law_word_of (c__law_pick : List T → R T) : En → RS :=
    seqS (setS 2 (cE (.str "abcdefghijklmnopqrstuvwxyz")))
    (seqS (ifS (cmpT gtC (callE 3 c__law_pick (consA (vE 0) (consA (vE 1) (consA (cE (.int 6)) (nilA))))) (cE (.int 0))) (retS (binE ixT (lstE (consA (cE (.str "a")) (consA (cE (.str "b")) (consA (cE (.str "ab")) (consA (cE (.str "cab")) (nilA)))))) (callE 3 c__law_pick (consA (vE 0) (consA (binE addT (vE 1) (cE (.int 1))) (consA (cE (.int 4)) (nilA))))))) (nxS))
    (retS (ap1 (joinT "") (compE (rng1I (binE addT (cE (.int 1)) (callE 3 c__law_pick (consA (vE 0) (consA (binE addT (vE 1) (cE (.int 1))) (consA (cE (.int 3)) (nilA))))))) (setG 0) (noIf) (binE ixT (vE 3) (callE 3 c__law_pick (consA (vE 1) (consA (binE addT (binE addT (vE 2) (cE (.int 2))) (vE 0)) (consA (cE (.int 26)) (nilA)))))) 1 [0, 1, 2]))))
def f__law_word_of : List T → R T := fun ts => outR (b__law_word_of (f__law_pick) (en0 3 ts))
def b__law_leaf_kind (c__law_pick c__law_word_of : List T → R T) : En → RS :=
    seqS (ifS (cmpT gtC (callE 3 c__law_pick (consA (vE 0) (consA (vE 1) (consA (cE (.int 3)) (nilA))))) (cE (.int 0))) (seqS (setS 2 (binE subT (callE 3 c__law_pick (consA (vE 0) (consA (binE addT (vE 1) (cE (.int 1))) (consA (cE (.int 7)) (nilA))))) (cE (.int 3))))
    (seqS (ifS (cmpT eqC (callE 3 c__law_pick (consA (vE 0) (consA (binE addT (vE 1) (cE (.int 3))) (consA (cE (.int 8)) (nilA))))) (cE (.int 0))) (setS 2 (binE ixT (lstE (consA (negE (cE (.int 20))) (consA (cE (.int 17)) (consA (cE (.int 20)) (nilA))))) (callE 3 c__law_pick (consA (vE 0) (consA (binE addT (vE 1) (cE (.int 4))) (consA (cE (.int 3)) (nilA))))))) (nxS))
    (retS (tupE (consA (cE (.str "whole")) (consA (vE 2) (consA (binE min2T (cE (.int 20)) (binE addT (vE 2) (callE 3 c__law_pick (consA (vE 0) (consA (binE addT (vE 1) (cE (.int 2))) (consA (cE (.int 4)) (nilA))))))) (nilA)))))))) (nxS))
    (seqS (setL 3 (nilA))
    (seqS (forS (rng1I (binE addT (cE (.int 1)) (callE 3 c__law_pick (consA (vE 0) (consA (binE addT (vE 1) (cE (.int 1))) (consA (cE (.int 4)) (nilA))))))) (setG 4) (seqS (setS 5 (callE 2 c__law_word_of (consA (vE 0) (consA (binE addT (binE addT (vE 1) (cE (.int 5))) (binE mulT (cE (.int 5)) (vE 4))) (nilA)))))
    (ifS (cmpT ninC (vB 5) (vB 3)) (appS 3 (vE 5)) (nxS))))
    (retS (tupE (consA (cE (.str "pick")) (consA (ap1 tupT (compE (enumI (vE 3)) (pairG 0 1) (noIf) (tupE (consA (vE 1) (consA (binE addT (cE (.int 1)) (callE 3 c__law_pick (consA (vE 2) (consA (binE addT (binE addT (vE 3) (cE (.int 30))) (vE 0)) (consA (cE (.int 20)) (nilA)))))) (nilA)))) 2 [0, 1])) (nilA)))))))
def f__law_leaf_kind : List T → R T := fun ts => outR (b__law_leaf_kind (f__law_pick) (f__law_word_of) (en0 6 ts))
def b__law_kind (c__law_pick c__law_leaf_kind c__law_kind : List T → R T) : En → RS :=
    seqS (setS 3 (callE 3 c__law_pick (consA (vE 0) (consA (vE 1) (consA (cE (.int 5)) (nilA))))))
    (seqS (ifS (orT (cmpT eqC (vB 2) (cE (.int 1))) (cmpT ltC (vB 3) (cE (.int 2)))) (retS (callE 2 c__law_leaf_kind (consA (vE 0) (consA (binE addT (vE 1) (cE (.int 1))) (nilA))))) (nxS))
    (seqS (ifS (cmpT ltC (vB 3) (cE (.int 4))) (seqS (setS 4 (compE (rng1I (binE addT (cE (.int 1)) (callE 3 c__law_pick (consA (vE 0) (consA (binE addT (vE 1) (cE (.int 1))) (consA (cE (.int 3)) (nilA))))))) (setG 0) (noIf) (callE 3 c__law_kind (consA (vE 1) (consA (binE addT (binE addT (binE mulT (cE (.int 3)) (vE 2)) (cE (.int 40))) (binE mulT (cE (.int 50)) (vE 0))) (consA (binE subT (vE 3) (cE (.int 1))) (nilA))))) 1 [0, 1, 2]))
    (retS (tupE (consA (cE (.str "row")) (consA (ap1 tupT (vE 4)) (nilA)))))) (nxS))
    (seqS (setS 5 (callE 3 c__law_pick (consA (vE 0) (consA (binE addT (vE 1) (cE (.int 1))) (consA (cE (.int 3)) (nilA))))))
    (retS (tupE (consA (cE (.str "many")) (consA (callE 3 c__law_kind (consA (vE 0) (consA (binE addT (binE mulT (cE (.int 3)) (vE 1)) (cE (.int 40))) (consA (binE subT (vE 2) (cE (.int 1))) (nilA))))) (consA (vE 5) (consA (binE min2T (cE (.int 3)) (binE addT (vE 5) (callE 3 c__law_pick (consA (vE 0) (consA (binE addT (vE 1) (cE (.int 2))) (consA (cE (.int 3)) (nilA))))))) (nilA))))))))))
def S__law_kind : Nat → Nat → List T → R T
  | 0, _ => fun _ => .bad
  | n + 1, _ => fun ts => outR (b__law_kind (f__law_pick) (f__law_leaf_kind) (S__law_kind n 0) (en0 6 ts))
abbrev f__law_kind (n : Nat) : List T → R T := S__law_kind n 0
def b_is_whole : En → RS :=
    retS (andE (ap1 (isiT "int") (vB 0)) (notE (ap1 (isiT "bool") (vB 0))))
def f_is_whole : List T → R T := fun ts => outR (b_is_whole  (en0 1 ts))
def b_is_span (c_is_whole : List T → R T) : En → RS :=
    retS (andE (callE 1 c_is_whole (consA (vE 0) (nilA))) (andE (callE 1 c_is_whole (consA (vE 1) (nilA))) (ch3E leC leC leC (vB 2) (vB 0) (vB 1) (vB 3))))
def f_is_span : List T → R T := fun ts => outR (b_is_span (f_is_whole) (en0 4 ts))
def b_is_tuple_of : En → RS :=
    retS (andE (ap1 (isiT "tuple") (vB 0)) (chE leC leC (vB 1) (ap1 lenT (vB 0)) (vB 2)))
def f_is_tuple_of : List T → R T := fun ts => outR (b_is_tuple_of  (en0 3 ts))
def b_is_word : En → RS :=
    seqS (ifS (orT (notT (truT (ap1 (isiT "str") (vB 0)))) (notT (chT leC leC (cE (.int 1)) (ap1 lenT (vB 0)) (cE (.int 3))))) (retS (cE (.bl false))) (nxS))
    (retS (ap1 allT (compE (anyI (vE 0)) (setG 0) (noIf) (chE leC leC (cE (.str "a")) (vB 0) (cE (.str "z"))) 1 [])))
def f_is_word : List T → R T := fun ts => outR (b_is_word  (en0 1 ts))
def b_is_choice (c_is_whole c_is_tuple_of c_is_word : List T → R T) : En → RS :=
    retS (andE (callE 3 c_is_tuple_of (consA (vE 0) (consA (cE (.int 2)) (consA (cE (.int 2)) (nilA))))) (andE (callE 1 c_is_word (consA (binE ixT (vE 0) (cE (.int 0))) (nilA))) (andE (callE 1 c_is_whole (consA (binE ixT (vE 0) (cE (.int 1))) (nilA))) (chE leC leC (cE (.int 1)) (binE ixT (vE 0) (cE (.int 1))) (cE (.int 20))))))
def f_is_choice : List T → R T := fun ts => outR (b_is_choice (f_is_whole) (f_is_tuple_of) (f_is_word) (en0 1 ts))
def b_are_choices (c_is_tuple_of c_is_choice : List T → R T) : En → RS :=
    seqS (ifS (orT (notT (truT (callE 3 c_is_tuple_of (consA (vE 0) (consA (cE (.int 1)) (consA (cE (.int 4)) (nilA))))))) (notT (truT (ap1 allT (compE (anyI (vE 0)) (setG 0) (noIf) (callE 1 c_is_choice (consA (vE 0) (nilA))) 1 []))))) (retS (cE (.bl false))) (nxS))
    (seqS (setS 1 (compE (anyI (vE 0)) (setG 0) (noIf) (binE ixT (vE 0) (cE (.int 0))) 1 []))
    (retS (cmpE eqC (ap1 lsetT (vB 1)) (ap1 lenT (vB 1)))))
def f_are_choices : List T → R T := fun ts => outR (b_are_choices (f_is_tuple_of) (f_is_choice) (en0 2 ts))
def b_is_kind_within (c_is_span c_is_kind_within c_are_choices c_are_kinds_within : List T → R T) : En → RS :=
    seqS (ifS (orT (cmpT eqC (vB 1) (cE (.int 0))) (orT (notT (truT (ap1 (isiT "tuple") (vB 0)))) (cmpT eqC (ap1 lenT (vB 0)) (cE (.int 0))))) (retS (cE (.bl false))) (nxS))
    (seqS (ifS (cmpT eqC (binE ixT (vE 0) (cE (.int 0))) (cE (.str "whole"))) (retS (andE (cmpE eqC (ap1 lenT (vB 0)) (cE (.int 3))) (callE 4 c_is_span (consA (binE ixT (vE 0) (cE (.int 1))) (consA (binE ixT (vE 0) (cE (.int 2))) (consA (negE (cE (.int 20))) (consA (cE (.int 20)) (nilA)))))))) (nxS))
    (seqS (ifS (cmpT eqC (binE ixT (vE 0) (cE (.int 0))) (cE (.str "pick"))) (retS (andE (cmpE eqC (ap1 lenT (vB 0)) (cE (.int 2))) (callE 1 c_are_choices (consA (binE ixT (vE 0) (cE (.int 1))) (nilA))))) (nxS))
    (seqS (ifS (cmpT eqC (binE ixT (vE 0) (cE (.int 0))) (cE (.str "row"))) (retS (andE (cmpE eqC (ap1 lenT (vB 0)) (cE (.int 2))) (callE 2 c_are_kinds_within (consA (binE ixT (vE 0) (cE (.int 1))) (consA (binE subT (vE 1) (cE (.int 1))) (nilA)))))) (nxS))
    (seqS (ifS (cmpT eqC (binE ixT (vE 0) (cE (.int 0))) (cE (.str "many"))) (retS (andE (cmpE eqC (ap1 lenT (vB 0)) (cE (.int 4))) (andE (callE 4 c_is_span (consA (binE ixT (vE 0) (cE (.int 2))) (consA (binE ixT (vE 0) (cE (.int 3))) (consA (cE (.int 0)) (consA (cE (.int 3)) (nilA)))))) (callE 2 c_is_kind_within (consA (binE ixT (vE 0) (cE (.int 1))) (consA (binE subT (vE 1) (cE (.int 1))) (nilA))))))) (nxS))
    (retS (cE (.bl false)))))))
def b_are_kinds_within (c_is_tuple_of c_is_kind_within : List T → R T) : En → RS :=
    retS (andE (callE 3 c_is_tuple_of (consA (vE 0) (consA (cE (.int 1)) (consA (cE (.int 3)) (nilA))))) (ap1 allT (compE (anyI (vE 0)) (setG 0) (noIf) (callE 2 c_is_kind_within (consA (vE 0) (consA (vE 1) (nilA)))) 1 [1])))
def S_is_kind_within : Nat → Nat → List T → R T
  | 0, _ => fun _ => .bad
  | n + 1, 0 => fun ts => outR (b_is_kind_within (f_is_span) (S_is_kind_within n 0) (f_are_choices) (S_is_kind_within n 1) (en0 2 ts))
  | n + 1, _ => fun ts => outR (b_are_kinds_within (f_is_tuple_of) (S_is_kind_within n 0) (en0 2 ts))
abbrev f_is_kind_within (n : Nat) : List T → R T := S_is_kind_within n 0
abbrev f_are_kinds_within (n : Nat) : List T → R T := S_is_kind_within n 1
def b_is_kind (c_is_kind_within : List T → R T) : En → RS :=
    retS (callE 2 c_is_kind_within (consA (vE 0) (consA (cE (.int 3)) (nilA))))
def f_is_kind : List T → R T := fun ts => outR (b_is_kind (f_is_kind_within 20) (en0 1 ts))
def b__law_whole : En → RS :=
    retS (andE (ap1 (isiT "int") (vB 0)) (andE (notE (ap1 (isiT "bool") (vB 0))) (chE leC leC (vB 1) (vB 0) (vB 2))))
def f__law_whole : List T → R T := fun ts => outR (b__law_whole  (en0 3 ts))
def b__law_is_word : En → RS :=
    retS (andE (ap1 (isiT "str") (vB 0)) (andE (chE leC leC (cE (.int 1)) (ap1 lenT (vB 0)) (cE (.int 3))) (cmpE eqC (compE (anyI (vE 0)) (setG 0) (notT (chT leC leC (cE (.str "a")) (vB 0) (cE (.str "z")))) (vE 0) 1 []) (lstE (nilA)))))
def f__law_is_word : List T → R T := fun ts => outR (b__law_is_word  (en0 1 ts))
def b__law_is_kind (c__law_whole c__law_is_word c__law_is_kind : List T → R T) : En → RS :=
    seqS (ifS (orT (notT (truT (ap1 (isiT "tuple") (vB 0)))) (orT (cmpT ltC (ap1 lenT (vB 0)) (cE (.int 2))) (orT (notT (truT (ap1 (isiT "str") (binE ixT (vE 0) (cE (.int 0)))))) (cmpT ltC (vB 1) (cE (.int 1)))))) (retS (cE (.bl false))) (nxS))
    (seqS (parS 2 3 (consA (binE ixT (vE 0) (cE (.int 0))) (consA (slE (vE 0) (someO (cE (.int 1))) (noO)) (nilA))))
    (seqS (ifS (cmpT eqC (vB 2) (cE (.str "whole"))) (retS (andE (cmpE eqC (ap1 lenT (vB 3)) (cE (.int 2))) (andE (callE 3 c__law_whole (consA (binE ixT (vE 3) (cE (.int 0))) (consA (negE (cE (.int 20))) (consA (cE (.int 20)) (nilA))))) (callE 3 c__law_whole (consA (binE ixT (vE 3) (cE (.int 1))) (consA (binE ixT (vE 3) (cE (.int 0))) (consA (cE (.int 20)) (nilA)))))))) (nxS))
    (seqS (ifS (cmpT eqC (vB 2) (cE (.str "pick"))) (seqS (ifS (orT (cmpT neC (ap1 lenT (vB 3)) (cE (.int 1))) (orT (notT (truT (ap1 (isiT "tuple") (binE ixT (vE 3) (cE (.int 0)))))) (notT (chT leC leC (cE (.int 1)) (ap1 lenT (binE ixT (vE 3) (cE (.int 0)))) (cE (.int 4)))))) (retS (cE (.bl false))) (nxS))
    (seqS (setS 4 (compE (anyI (binE ixT (vE 3) (cE (.int 0)))) (setG 0) (andT (truT (ap1 (isiT "tuple") (vB 0))) (cmpT eqC (ap1 lenT (vB 0)) (cE (.int 2)))) (vE 0) 1 []))
    (seqS (setS 5 (compE (anyI (vE 4)) (setG 0) (andT (truT (callE 1 c__law_is_word (consA (binE ixT (vE 0) (cE (.int 0))) (nilA)))) (truT (callE 3 c__law_whole (consA (binE ixT (vE 0) (cE (.int 1))) (consA (cE (.int 1)) (consA (cE (.int 20)) (nilA))))))) (binE ixT (vE 0) (cE (.int 0))) 1 []))
    (retS (andE (cmpE eqC (ap1 lenT (vB 5)) (ap1 lenT (binE ixT (vE 3) (cE (.int 0))))) (cmpE eqC (compE (rng1I (ap1 lenT (vB 5))) (setG 0) (cmpT inC (binE ixT (vE 1) (vE 0)) (slE (vE 1) (noO) (someO (vE 0)))) (vE 0) 1 [5]) (lstE (nilA)))))))) (nxS))
    (seqS (ifS (cmpT eqC (vB 2) (cE (.str "row"))) (seqS (ifS (orT (cmpT neC (ap1 lenT (vB 3)) (cE (.int 1))) (orT (notT (truT (ap1 (isiT "tuple") (binE ixT (vE 3) (cE (.int 0)))))) (notT (chT leC leC (cE (.int 1)) (ap1 lenT (binE ixT (vE 3) (cE (.int 0)))) (cE (.int 3)))))) (retS (cE (.bl false))) (nxS))
    (retS (cmpE eqC (compE (anyI (binE ixT (vE 3) (cE (.int 0)))) (setG 0) (notT (truT (callE 2 c__law_is_kind (consA (vE 0) (consA (binE subT (vE 1) (cE (.int 1))) (nilA)))))) (vE 0) 1 [1]) (lstE (nilA))))) (nxS))
    (seqS (ifS (orT (cmpT neC (vB 2) (cE (.str "many"))) (orT (cmpT neC (ap1 lenT (vB 3)) (cE (.int 3))) (orT (notT (truT (callE 3 c__law_whole (consA (binE ixT (vE 3) (cE (.int 1))) (consA (cE (.int 0)) (consA (cE (.int 3)) (nilA))))))) (notT (truT (callE 3 c__law_whole (consA (binE ixT (vE 3) (cE (.int 2))) (consA (binE ixT (vE 3) (cE (.int 1))) (consA (cE (.int 3)) (nilA)))))))))) (retS (cE (.bl false))) (nxS))
    (retS (callE 2 c__law_is_kind (consA (binE ixT (vE 3) (cE (.int 0))) (consA (binE subT (vE 1) (cE (.int 1))) (nilA))))))))))
def S__law_is_kind : Nat → Nat → List T → R T
  | 0, _ => fun _ => .bad
  | n + 1, _ => fun ts => outR (b__law_is_kind (f__law_whole) (f__law_is_word) (S__law_is_kind n 0) (en0 6 ts))
abbrev f__law_is_kind (n : Nat) : List T → R T := S__law_is_kind n 0
def b__law_places (c__law_places : List T → R T) : En → RS :=
    seqS (setL 1 (consA (tupE (nilA)) (nilA)))
    (seqS (ifS (truT (ap1 (isiT "tuple") (vB 0))) (forS (rng1I (ap1 lenT (vB 0))) (setG 2) (extS 1 (compE (anyI (callE 1 c__law_places (consA (binE ixT (vE 0) (vE 2)) (nilA)))) (setG 0) (noIf) (binE addT (tupE (consA (vE 1) (nilA))) (vE 0)) 1 [2]))) (nxS))
    (retS (vE 1)))
def S__law_places : Nat → Nat → List T → R T
  | 0, _ => fun _ => .bad
  | n + 1, _ => fun ts => outR (b__law_places (S__law_places n 0) (en0 3 ts))
abbrev f__law_places (n : Nat) : List T → R T := S__law_places n 0
def b__law_at : En → RS :=
    seqS (forS (anyI (vE 1)) (setG 2) (setS 0 (binE ixT (vE 0) (vE 2))))
    (retS (vE 0))
def f__law_at : List T → R T := fun ts => outR (b__law_at  (en0 3 ts))
def b__law_put (c__law_put : List T → R T) : En → RS :=
    seqS (ifS (cmpT eqC (vB 1) (tupE (nilA))) (retS (vE 2)) (nxS))
    (seqS (setS 3 (binE ixT (vE 1) (cE (.int 0))))
    (retS (binE addT (binE addT (slE (vE 0) (noO) (someO (vE 3))) (tupE (consA (callE 3 c__law_put (consA (binE ixT (vE 0) (vE 3)) (consA (slE (vE 1) (someO (cE (.int 1))) (noO)) (consA (vE 2) (nilA))))) (nilA)))) (slE (vE 0) (someO (binE addT (vE 3) (cE (.int 1)))) (noO)))))
def S__law_put : Nat → Nat → List T → R T
  | 0, _ => fun _ => .bad
  | n + 1, _ => fun ts => outR (b__law_put (S__law_put n 0) (en0 4 ts))
abbrev f__law_put (n : Nat) : List T → R T := S__law_put n 0
def b__law_spoilt_thing (c__law_pick c__law_places c__law_at c__law_put : List T → R T) : En → RS :=
    seqS (setS 3 (callE 1 c__law_places (consA (vE 2) (nilA))))
    (seqS (setS 4 (binE ixT (vE 3) (callE 3 c__law_pick (consA (vE 0) (consA (vE 1) (consA (ap1 lenT (vB 3)) (nilA)))))))
    (seqS (setS 5 (callE 2 c__law_at (consA (vE 2) (consA (vE 4) (nilA)))))
    (seqS (setS 6 (lstE (consA (cE (.int 0)) (consA (cE (.int 1)) (consA (negE (cE (.int 21))) (consA (cE (.int 21)) (consA (cE (.int 3)) (consA (cE (.int 4)) (consA (cE (.bl true)) (consA (cE .non) (consA (cE (.str "a")) (consA (cE (.str "abcd")) (consA (cE (.str "A")) (consA (cE (.str "")) (consA (cE (.str "many")) (consA (cE (.str "row")) (consA (tupE (nilA)) (consA (tupE (consA (vE 5) (nilA))) (consA (lstE (consA (vE 5) (nilA))) (consA (tupE (consA (cE (.str "whole")) (consA (cE (.int 1)) (consA (cE (.int 0)) (nilA))))) (nilA)))))))))))))))))))))
    (seqS (setS 7 (callE 3 c__law_pick (consA (vE 0) (consA (binE addT (vE 1) (cE (.int 1))) (consA (binE addT (ap1 lenT (vB 6)) (cE (.int 5))) (nilA))))))
    (seqS (ifS (cmpT ltC (vB 7) (ap1 lenT (vB 6))) (retS (callE 3 c__law_put (consA (vE 2) (consA (vE 4) (consA (binE ixT (vE 6) (vE 7)) (nilA)))))) (nxS))
    (seqS (ifS (andT (truT (ap1 (isiT "tuple") (vB 5))) (cmpT neC (vB 5) (tupE (nilA)))) (seqS (setS 8 (callE 3 c__law_pick (consA (vE 0) (consA (binE addT (vE 1) (cE (.int 2))) (consA (ap1 lenT (vB 5)) (nilA))))))
    (retS (callE 3 c__law_put (consA (vE 2) (consA (vE 4) (consA (binE ixT (lstE (consA (binE addT (slE (vE 5) (noO) (someO (vE 8))) (slE (vE 5) (someO (binE addT (vE 8) (cE (.int 1)))) (noO))) (consA (binE addT (binE addT (slE (vE 5) (noO) (someO (vE 8))) (slE (vE 5) (someO (vE 8)) (someO (binE addT (vE 8) (cE (.int 1)))))) (slE (vE 5) (someO (vE 8)) (noO))) (nilA)))) (binE modT (vE 7) (cE (.int 2)))) (nilA))))))) (nxS))
    (seqS (ifS (truT (ap1 (isiT "int") (vB 5))) (retS (callE 3 c__law_put (consA (vE 2) (consA (vE 4) (consA (binE subT (binE addT (vE 5) (cE (.int 1))) (binE mulT (cE (.int 2)) (binE modT (vE 7) (cE (.int 2))))) (nilA)))))) (nxS))
    (retS (callE 3 c__law_put (consA (vE 2) (consA (vE 4) (consA (tupE (consA (cE (.str "row")) (consA (tupE (consA (vE 5) (consA (vE 5) (nilA)))) (nilA)))) (nilA)))))))))))))
def f__law_spoilt_thing : List T → R T := fun ts => outR (b__law_spoilt_thing (f__law_pick) (f__law_places 40) (f__law_at) (f__law_put 40) (en0 9 ts))
def b_law (c_is_kind c__law_pick c__law_kind c__law_is_kind c__law_spoilt_thing : List T → R T) : En → RS :=
    seqS (setS 1 (callE 3 c__law_kind (consA (vE 0) (consA (cE (.int 0)) (consA (cE (.int 3)) (nilA))))))
    (seqS (ifS (orT (cmpT isnNC (callE 1 c_is_kind (consA (vE 1) (nilA))) (cE (.bl true))) (cmpT isnNC (callE 2 c__law_is_kind (consA (vE 1) (consA (cE (.int 3)) (nilA)))) (cE (.bl true)))) (retS (cE (.bl false))) (nxS))
    (seqS (setS 2 (tupE (consA (cE (.str "row")) (consA (tupE (consA (callE 3 c__law_kind (consA (vE 0) (consA (cE (.int 900)) (consA (cE (.int 3)) (nilA))))) (consA (tupE (consA (cE (.str "whole")) (consA (cE (.int 0)) (consA (cE (.int 0)) (nilA))))) (nilA)))) (nilA)))))
    (seqS (ifS (cmpT neC (callE 1 c_is_kind (consA (vE 2) (nilA))) (callE 2 c__law_is_kind (consA (vE 2) (consA (cE (.int 3)) (nilA))))) (retS (cE (.bl false))) (nxS))
    (seqS (forS (rng1I (cE (.int 5))) (setG 3) (seqS (setS 4 (callE 3 c__law_spoilt_thing (consA (vE 0) (consA (binE addT (cE (.int 1800)) (binE mulT (cE (.int 20)) (vE 3))) (consA (vE 1) (nilA))))))
    (seqS (ifS (andT (cmpT eqC (callE 3 c__law_pick (consA (vE 0) (consA (binE addT (cE (.int 1810)) (binE mulT (cE (.int 20)) (vE 3))) (consA (cE (.int 3)) (nilA))))) (cE (.int 0))) (truT (ap1 (isiT "tuple") (vB 4)))) (setS 4 (callE 3 c__law_spoilt_thing (consA (vE 0) (consA (binE addT (cE (.int 1812)) (binE mulT (cE (.int 20)) (vE 3))) (consA (vE 4) (nilA)))))) (nxS))
    (seqS (setS 5 (callE 1 c_is_kind (consA (vE 4) (nilA))))
    (ifS (orT (cmpT neC (vB 5) (callE 2 c__law_is_kind (consA (vE 4) (consA (cE (.int 3)) (nilA))))) (notT (truT (ap1 (isiT "bool") (vB 5))))) (retS (cE (.bl false))) (nxS))))))
    (seqS (setL 6 (consA (cE .non) (consA (cE (.int 5)) (consA (cE (.str "whole")) (consA (tupE (nilA)) (consA (lstE (nilA)) (consA (tupE (consA (cE (.str "whole")) (consA (cE (.int 0)) (consA (cE (.int 0)) (consA (cE (.int 0)) (nilA)))))) (consA (tupE (consA (cE (.str "pick")) (consA (tupE (nilA)) (nilA)))) (consA (lstE (consA (cE (.str "whole")) (consA (cE (.int 0)) (consA (cE (.int 1)) (nilA))))) (nilA))))))))))
    (seqS (appS 6 (tupE (consA (cE (.str "many")) (consA (tupE (consA (cE (.str "whole")) (consA (cE (.int 0)) (consA (cE (.int 1)) (nilA))))) (consA (cE (.int 0)) (consA (cE (.bl true)) (nilA)))))))
    (seqS (parS 7 8 (consA (tupE (consA (cE (.str "whole")) (consA (cE (.int 0)) (consA (cE (.int 1)) (nilA))))) (consA (lstE (consA (cE (.str "a")) (consA (cE (.str "b")) (consA (cE (.str "abc")) (consA (cE (.str "z")) (consA (cE (.str "y")) (nilA))))))) (nilA))))
    (seqS (extS 6 (lstE (consA (tupE (consA (cE (.str "pick")) (consA (ap1 tupT (compE (anyI (vE 8)) (setG 0) (noIf) (tupE (consA (vE 0) (consA (cE (.int 1)) (nilA)))) 1 [])) (nilA)))) (consA (tupE (consA (cE (.str "row")) (consA (binE mulT (tupE (consA (vE 7) (nilA))) (cE (.int 4))) (nilA)))) (consA (tupE (consA (cE (.str "row")) (consA (tupE (nilA)) (nilA)))) (consA (tupE (consA (cE (.str "many")) (consA (vE 7) (consA (cE (.int 0)) (consA (cE (.int 4)) (nilA)))))) (nilA)))))))
    (seqS (extS 6 (lstE (consA (tupE (consA (cE (.str "pick")) (consA (tupE (consA (tupE (consA (cE (.str "abcd")) (consA (cE (.int 1)) (nilA)))) (nilA))) (nilA)))) (consA (tupE (consA (cE (.str "pick")) (consA (tupE (consA (tupE (consA (cE (.str "")) (consA (cE (.int 1)) (nilA)))) (nilA))) (nilA)))) (consA (tupE (consA (cE (.str "pick")) (consA (tupE (consA (tupE (consA (cE (.str "a")) (consA (cE (.int 0)) (nilA)))) (nilA))) (nilA)))) (consA (tupE (consA (cE (.str "pick")) (consA (tupE (consA (tupE (consA (cE (.str "a")) (consA (cE (.int 21)) (nilA)))) (nilA))) (nilA)))) (nilA)))))))
    (seqS (extS 6 (lstE (consA (tupE (consA (cE (.str "whole")) (consA (negE (cE (.int 21))) (consA (cE (.int 0)) (nilA))))) (consA (tupE (consA (cE (.str "whole")) (consA (cE (.int 0)) (consA (cE (.int 21)) (nilA))))) (consA (tupE (consA (cE (.str "whole")) (consA (cE (.int 1)) (consA (cE (.int 0)) (nilA))))) (consA (tupE (consA (cE (.str "many")) (consA (vE 7) (consA (cE (.int 2)) (consA (cE (.int 1)) (nilA)))))) (nilA)))))))
    (seqS (extS 6 (lstE (consA (tupE (consA (cE (.str "pick")) (consA (tupE (consA (tupE (consA (cE (.str "a")) (consA (cE (.int 1)) (nilA)))) (consA (tupE (consA (cE (.str "a")) (consA (cE (.int 2)) (nilA)))) (nilA)))) (nilA)))) (consA (tupE (consA (cE (.str "pick")) (consA (tupE (consA (tupE (consA (cE (.str "aB")) (consA (cE (.int 1)) (nilA)))) (nilA))) (nilA)))) (consA (tupE (consA (cE (.str "pick")) (consA (tupE (consA (tupE (consA (cE (.str "a1")) (consA (cE (.int 1)) (nilA)))) (nilA))) (nilA)))) (nilA))))))
    (seqS (setL 9 (consA (tupE (consA (cE (.str "pick")) (consA (ap1 tupT (compE (anyI (slE (vE 8) (noO) (someO (cE (.int 4))))) (setG 0) (noIf) (tupE (consA (vE 0) (consA (cE (.int 20)) (nilA)))) 1 [])) (nilA)))) (consA (tupE (consA (cE (.str "row")) (consA (binE mulT (tupE (consA (vE 7) (nilA))) (cE (.int 3))) (nilA)))) (consA (tupE (consA (cE (.str "many")) (consA (vE 7) (consA (cE (.int 0)) (consA (cE (.int 3)) (nilA)))))) (nilA)))))
    (seqS (appS 9 (tupE (consA (cE (.str "whole")) (consA (negE (cE (.int 20))) (consA (cE (.int 20)) (nilA))))))
    (retS (cmpE eqC (compE (anyI (binE addT (vE 6) (vE 9))) (setG 0) (noIf) (callE 1 c_is_kind (consA (vE 0) (nilA))) 1 []) (binE addT (binE mulT (lstE (consA (cE (.bl false)) (nilA))) (cE (.int 24))) (binE mulT (lstE (consA (cE (.bl true)) (nilA))) (cE (.int 4)))))))))))))))))))
def f_law : List T → R T := fun ts => outR (b_law (f_is_kind) (f__law_pick) (f__law_kind 8) (f__law_is_kind 12) (f__law_spoilt_thing) (en0 10 ts))
end G
namespace G
open PySem L2 PV
abbrev scr (ns : List Int) : T := .fz (ns.map T.int)
theorem cell_ok (ns : List Int) (k : Int) (h0 : 0 ≤ k) : ∃ c, f__law_cell [scr ns, .int k] = .ok (.int c) := by
  have e1 : f__law_cell [scr ns, .int k] = outR (if decide (k < ((ns.map T.int).length : Int)) = true then (atT (ns.map T.int) k).s (fun t => .rt t) else
      match (eqC (scr ns) (.lst [])).s (fun b => if b = true then RS.rt (.int 0) else .nx [.vl (scr ns), .vl (.int k)]) with
      | .nx ρ' => retS (binE addT (binE mulT (binE ixT (vE 0) (binE modT (vE 1) (ap1 lenT (vB 0)))) (cE (.int 31))) (vE 1)) ρ'
      | r => r) := by
    show outR (match (if decide (k < ((ns.map T.int).length : Int)) = true then (atT (ns.map T.int) k).s (fun t => RS.rt t) else .nx [.vl (scr ns), .vl (.int k)]) with
      | .nx ρ' => _
      | r => r) = _
    cases decide (k < ((ns.map T.int).length : Int)) with
    | true =>
      rw [if_pos rfl, if_pos rfl]
      unfold atT
      cases atI (ns.map T.int) k <;> rfl
    | false => rfl
  rw [e1, List.length_map]
  by_cases hk : k < (ns.length : Int)
  · obtain ⟨v, hv⟩ : ∃ v, ns[k.toNat]? = some v := ⟨ns[k.toNat]'(by omega), List.getElem?_eq_getElem (by omega)⟩
    have ea : atI (ns.map T.int) k = some (.int v) := by
      have : k = ((k.toNat : Nat) : Int) := by omega
      rw [this]
      exact atI_nat (by rw [List.getElem?_map, hv]; rfl)
    rw [decide_eq_true hk, if_pos rfl]
    exact ⟨v, by unfold atT; rw [ea]; rfl⟩
  · rw [decide_eq_false hk, if_neg Bool.false_ne_true]
    cases ns with
    | nil => exact ⟨0, rfl⟩
    | cons x xs =>
      have hm0 := Int.emod_nonneg k (show (((x :: xs).length : Nat) : Int) ≠ 0 by simp only [List.length_cons]; omega)
      have hm1 := Int.emod_lt_of_pos k (show (0 : Int) < (((x :: xs).length : Nat) : Int) by simp only [List.length_cons]; omega)
      obtain ⟨v, hv⟩ : ∃ v, (x :: xs)[(k % (((x :: xs).length : Nat) : Int)).toNat]? = some v := ⟨_, List.getElem?_eq_getElem (by omega)⟩
      have ea : atI ((x :: xs).map T.int) (k % (((x :: xs).length : Nat) : Int)) = some (.int v) := by
        have e : k % (((x :: xs).length : Nat) : Int) = (((k % (((x :: xs).length : Nat) : Int)).toNat : Nat) : Int) := by omega
        rw [e]
        exact atI_nat (by rw [List.getElem?_map, hv]; rfl)
      have cm : CMul v 31 := .inr ⟨by decide, by decide⟩
      have hp : (0 : Int) < (((x :: xs).map T.int).length : Int) := by simp only [List.length_map, List.length_cons]; omega
      refine ⟨v * 31 + k, ?_⟩
      show outR (((((if 0 < (((x :: xs).map T.int).length : Int) then R.ok (T.int (k % (((x :: xs).map T.int).length : Int))) else .bad).bind fun y => ixT (scr (x :: xs)) y).bind fun a => mulT a (.int 31)).bind fun a => addT a (.int k)).s fun t => .rt t) = _
      rw [if_pos hp]
      show outR ((((atT ((x :: xs).map T.int) (k % (((x :: xs).map T.int).length : Int))).bind fun a => mulT a (.int 31)).bind fun a => addT a (.int k)).s fun t => .rt t) = _
      rw [List.length_map]
      unfold atT
      rw [ea]
      show outR ((((if CMul v 31 then R.ok (T.int (v * 31)) else .bad)).bind fun a => addT a (.int k)).s fun t => .rt t) = _
      rw [if_pos cm]
      rfl
theorem pick_ok (ns : List Int) (k m : Int) (h0 : 0 ≤ k) (hm : 0 < m) : ∃ p, f__law_pick [scr ns, .int k, .int m] = .ok (.int p) ∧ 0 ≤ p ∧ p < m := by
  obtain ⟨c, hc⟩ := cell_ok ns k h0
  have cm1 : CMul 6151 (k + 1) := .inl ⟨by decide, by decide⟩
  have cm2 : CMul (c + 6151 * (k + 1)) 40692 := .inr ⟨by decide, by decide⟩
  generalize hd : (c + 6151 * (k + 1)) * 40692 % 2147483399 = d
  have hd0 : 0 ≤ d := by rw [← hd]; exact Int.emod_nonneg _ (by decide)
  have hd1 : d < 2147483399 := by rw [← hd]; exact Int.emod_lt_of_pos _ (by decide)
  have cm3 : CMul d d := .inl ⟨by omega, by omega⟩
  refine ⟨(d * d + d / 31) % 2147483629 % m, ?_, Int.emod_nonneg _ (by omega), Int.emod_lt_of_pos _ hm⟩
  have e1 : f__law_pick [scr ns, .int k, .int m] = outR (match ((((((f__law_cell [scr ns, .int k]).bind fun x => (mulT (.int 6151) (.int (k + 1))).bind fun y => addT x y).bind fun x => mulT x (.int 40692)).bind fun x => modT x (.int 2147483399))).s fun t => RS.nx [.vl (scr ns), .vl (.int k), .vl (.int m), .vl t]) with
      | .nx ρ' => retS (binE modT (binE modT (binE addT (binE mulT (vE 3) (vE 3)) (binE fdivT (vE 3) (cE (.int 31)))) (cE (.int 2147483629))) (vE 2)) ρ'
      | r => r) := rfl
  rw [e1, hc]
  show outR (match (((((if CMul 6151 (k + 1) then R.ok (T.int (6151 * (k + 1))) else .bad).bind fun y => addT (.int c) y).bind fun x => mulT x (.int 40692)).bind fun x => modT x (.int 2147483399)).s fun t => RS.nx [.vl (scr ns), .vl (.int k), .vl (.int m), .vl t]) with
      | .nx ρ' => _
      | r => r) = _
  rw [if_pos cm1]
  show outR (match ((((if CMul (c + 6151 * (k + 1)) 40692 then R.ok (T.int ((c + 6151 * (k + 1)) * 40692)) else .bad)).bind fun x => modT x (.int 2147483399)).s fun t => RS.nx [.vl (scr ns), .vl (.int k), .vl (.int m), .vl t]) with
      | .nx ρ' => _
      | r => r) = _
  rw [if_pos cm2]
  show outR (retS (binE modT (binE modT (binE addT (binE mulT (vE 3) (vE 3)) (binE fdivT (vE 3) (cE (.int 31)))) (cE (.int 2147483629))) (vE 2)) [.vl (scr ns), .vl (.int k), .vl (.int m), .vl (.int ((c + 6151 * (k + 1)) * 40692 % 2147483399))]) = _
  rw [hd]
  show outR (((((if CMul d d then R.ok (T.int (d * d)) else .bad).bind fun x => addT x (.int (d / 31))).bind fun x => modT x (.int 2147483629)).bind fun x => modT x (.int m)).s fun t => RS.rt t) = _
  rw [if_pos cm3]
  show outR ((if 0 < m then R.ok (T.int ((d * d + d / 31) % 2147483629 % m)) else .bad).s fun t => RS.rt t) = _
  rw [if_pos hm]
  rfl
end G

namespace G
open PySem L2 PV
/-! ### comprehensions with one name, as maps -/
theorem compL_set {ft : En → R Bool} {fe : En → R T} : ∀ (ts : List T) (ρ : En) (x : Sl), compL (setG 0) ft fe ts (ρ.set 0 x) = compL (setG 0) ft fe ts ρ
  | [], _, _ => rfl
  | t :: ts, ρ, x => by
    unfold compL setG
    rw [List.set_set]
theorem compL_filter {ft : En → R Bool} {fe : En → R T} {p : T → Bool} {h : T → T} : ∀ (ts : List T) (ρ : En), (∀ t ∈ ts, ft (ρ.set 0 (.vl t)) = .ok (p t) ∧ (p t = true → fe (ρ.set 0 (.vl t)) = .ok (h t))) → compL (setG 0) ft fe ts ρ = .ok ((ts.filter p).map h)
  | [], _, _ => rfl
  | t :: ts, ρ, H => by
    obtain ⟨h1, h2⟩ := H t List.mem_cons_self
    have ih := compL_filter ts ρ fun u hu => H u (List.mem_cons_of_mem _ hu)
    have e : compL (setG 0) ft fe (t :: ts) ρ = (ft (ρ.set 0 (.vl t))).bind fun k => if k = true then (fe (ρ.set 0 (.vl t))).bind fun v => (compL (setG 0) ft fe ts (ρ.set 0 (.vl t))).bind fun vs => .ok (v :: vs) else compL (setG 0) ft fe ts (ρ.set 0 (.vl t)) := rfl
    rw [e, h1, compL_set, ih]
    show (if p t = true then _ else _) = _
    cases hp : p t with
    | true => rw [if_pos rfl, h2 hp, List.filter_cons_of_pos hp]; rfl
    | false => rw [if_neg Bool.false_ne_true, List.filter_cons_of_neg (by rw [hp]; exact Bool.false_ne_true)]
theorem compL_map {fe : En → R T} {h : T → T} (ts : List T) (ρ : En) (H : ∀ t ∈ ts, fe (ρ.set 0 (.vl t)) = .ok (h t)) : compL (setG 0) noIf fe ts ρ = .ok (ts.map h) := by
  have := compL_filter (ft := noIf) (fe := fe) (p := fun _ => true) (h := h) ts ρ fun t ht => ⟨rfl, fun _ => H t ht⟩
  rw [this, List.filter_eq_self.mpr (fun _ _ => rfl)]
theorem compR_map {fe : En → R T} {h : T → T} {k : Nat} {js : List Nat} {ρ : En} (ts : List T) (hl : ts.length ≤ bnd) (H : ∀ t ∈ ts, fe ((capE k js ρ).set 0 (.vl t)) = .ok (h t)) : compR (setG 0) noIf fe k js ρ ts = .ok (ts.map h) := by
  unfold compR
  rw [if_pos hl, compL_map ts _ H]
  rfl
theorem allB_map (p : T → Bool) : ∀ ts : List T, allB (ts.map fun t => T.bl (p t)) = some (ts.all p)
  | [] => rfl
  | t :: ts => by
    show (match allB (ts.map fun t => T.bl (p t)) with | some j => some (p t && j) | none => none) = _
    rw [allB_map p ts]; rfl
/-! ### the small looks of the program -/
def isW : T → Bool
  | .int _ => true
  | _ => false
theorem whole_eq (t : T) : f_is_whole [t] = .ok (.bl (isW t)) := by cases t <;> rfl
def isTup (a b : Nat) : T → Bool
  | .tup xs => decide (a ≤ xs.length) && decide (xs.length ≤ b)
  | _ => false
theorem tuple_of_eq (t : T) (a b : Nat) : f_is_tuple_of [t, .int a, .int b] = .ok (.bl (isTup a b t)) := by
  cases t with
  | tup xs =>
    show outR ((if decide ((a : Int) ≤ (xs.length : Int)) = true then R.ok (T.bl (decide ((xs.length : Int) ≤ (b : Int)))) else .ok (.bl false)).s fun t => .rt t) = _
    have e1 : decide ((a : Int) ≤ (xs.length : Int)) = decide (a ≤ xs.length) := by simp
    have e2 : decide ((xs.length : Int) ≤ (b : Int)) = decide (xs.length ≤ b) := by simp
    rw [e1, e2]
    show _ = R.ok (T.bl (decide (a ≤ xs.length) && decide (xs.length ≤ b)))
    cases decide (a ≤ xs.length) <;> rfl
  | _ => rfl
def isSpan (lo hi : Int) : T → T → Bool
  | .int i, .int j => decide (lo ≤ i) && decide (i ≤ j) && decide (j ≤ hi)
  | _, _ => false
theorem span_eq (t u : T) (lo hi : Int) : f_is_span [t, u, .int lo, .int hi] = .ok (.bl (isSpan lo hi t u)) := by
  cases t with
  | int i =>
    cases u with
    | int j =>
      show outR ((if decide (lo ≤ i) = true then (if decide (i ≤ j) = true then R.ok (T.bl (decide (j ≤ hi))) else .ok (.bl false)) else .ok (.bl false)).s fun t => .rt t) = _
      show _ = R.ok (T.bl (decide (lo ≤ i) && decide (i ≤ j) && decide (j ≤ hi)))
      cases decide (lo ≤ i) <;> cases decide (i ≤ j) <;> rfl
    | _ => rfl
  | _ => cases u <;> rfl
def letter (c : Nat) : Bool := decide (97 ≤ c) && decide (c ≤ 122)
def isWord : T → Bool
  | .str x => decide (1 ≤ x.length) && decide (x.length ≤ 3) && x.cps.toList.all letter
  | _ => false
theorem one_lt (a b : Nat) : decide ([a] < [b]) = decide (a < b) := by
  by_cases h : a < b
  · rw [decide_eq_true h]; exact decide_eq_true (List.Lex.rel h)
  · rw [decide_eq_false h]
    refine decide_eq_false fun z => ?_
    cases z with
    | rel h' => exact h h'
    | cons h' => cases h'
theorem sign_eq (c : Nat) (ρ : En) : chE leC leC (cE (.str "a")) (vB 0) (cE (.str "z")) ((Sl.vl (.str ⟨#[c]⟩)) :: ρ) = .ok (.bl (letter c)) := by
  have e1 : leC (.str "a") (.str ⟨#[c]⟩) = .ok (decide (97 ≤ c)) := by
    show R.ok (!decide ([c] < [97])) = _
    rw [one_lt]
    by_cases h : c < 97
    · rw [decide_eq_true h, decide_eq_false (by omega)]; rfl
    · rw [decide_eq_false h, decide_eq_true (by omega)]; rfl
  have e2 : leC (.str ⟨#[c]⟩) (.str "z") = .ok (decide (c ≤ 122)) := by
    show R.ok (!decide ([122] < [c])) = _
    rw [one_lt]
    by_cases h : 122 < c
    · rw [decide_eq_true h, decide_eq_false (by omega)]; rfl
    · rw [decide_eq_false h, decide_eq_true (by omega)]; rfl
  show (leC (.str "a") (.str ⟨#[c]⟩)).bind (fun k => if k = true then (leC (.str ⟨#[c]⟩) (.str "z")).bind fun k' => R.ok (T.bl k') else R.ok (T.bl false)) = _
  rw [e1, e2]
  unfold letter
  show (if decide (97 ≤ c) = true then R.ok (T.bl (decide (c ≤ 122))) else .ok (.bl false)) = _
  cases decide (97 ≤ c) <;> rfl
/-- a text that is short enough to be measured -/
def strOk : T → Prop
  | .str x => x.length ≤ bnd
  | _ => True
theorem word_eq (t : T) (ht : strOk t) : f_is_word [t] = .ok (.bl (isWord t)) := by
  cases t with
  | str x =>
    have hx : x.length ≤ bnd := ht
    have e0 : lenT (.str x) = .ok (.int x.length) := if_pos hx
    have ec : compR (setG 0) noIf (chE leC leC (cE (.str "a")) (vB 0) (cE (.str "z"))) 1 [] [.vl (.str x)] (signs x) = .ok (x.cps.toList.map fun c => T.bl (letter c)) := by
      have hs : (signs x).length ≤ bnd := by unfold signs; rw [List.length_map, Array.length_toList]; exact hx
      have := compR_map (fe := chE leC leC (cE (.str "a")) (vB 0) (cE (.str "z"))) (h := fun t => match t with | .str y => T.bl (letter (y.cps.toList.headD 0)) | t => t) (k := 1) (js := []) (ρ := [.vl (.str x)]) (signs x) hs fun t ht => by
        unfold signs at ht
        obtain ⟨c, _, rfl⟩ := List.mem_map.mp ht
        exact sign_eq c []
      rw [this]
      unfold signs
      rw [List.map_map]
      rfl
    have ea : allB (x.cps.toList.map fun c => T.bl (letter c)) = some (x.cps.toList.all letter) := by
      have := allB_map (fun t => match t with | .str y => letter (y.cps.toList.headD 0) | _ => true) (signs x)
      unfold signs at this
      rw [List.map_map, List.all_map] at this
      exact this
    have e1 : f_is_word [.str x] = outR (match ((((lenT (.str x)).bind fun y => (leC (.int 1) y).bind fun k => if k = true then leC y (.int 3) else .ok false).bind fun b => .ok (!b)).s fun k => if k = true then RS.rt (.bl false) else .nx [.vl (.str x)]) with
        | .nx ρ' => retS (ap1 allT (compE (anyI (vE 0)) (setG 0) (noIf) (chE leC leC (cE (.str "a")) (vB 0) (cE (.str "z"))) 1 [])) ρ'
        | r => r) := rfl
    rw [e1, e0]
    have c1 : decide ((1 : Int) ≤ (x.length : Int)) = decide (1 ≤ x.length) := by
      by_cases h : 1 ≤ x.length
      · rw [decide_eq_true h]; exact decide_eq_true (by omega)
      · rw [decide_eq_false h]; exact decide_eq_false (by omega)
    have c2 : decide ((x.length : Int) ≤ (3 : Int)) = decide (x.length ≤ 3) := by
      by_cases h : x.length ≤ 3
      · rw [decide_eq_true h]; exact decide_eq_true (by omega)
      · rw [decide_eq_false h]; exact decide_eq_false (by omega)
    show outR (match ((((if decide ((1 : Int) ≤ (x.length : Int)) = true then R.ok (decide ((x.length : Int) ≤ (3 : Int))) else .ok false)).bind fun b => .ok (!b)).s fun k => if k = true then RS.rt (.bl false) else .nx [.vl (.str x)]) with
        | .nx ρ' => _
        | r => r) = _
    rw [c1, c2]
    show _ = R.ok (T.bl (decide (1 ≤ x.length) && decide (x.length ≤ 3) && x.cps.toList.all letter))
    cases decide (1 ≤ x.length) with
    | false => rfl
    | true =>
      cases decide (x.length ≤ 3) with
      | false => rfl
      | true =>
        show outR ((((compR (setG 0) noIf (chE leC leC (cE (.str "a")) (vB 0) (cE (.str "z"))) 1 [] [.vl (.str x)] (signs x)).bind fun vs => .ok (.lst vs)).bind allT).s fun t => .rt t) = _
        rw [ec]
        show outR ((match allB (x.cps.toList.map fun c => T.bl (letter c)) with | some k => R.ok (T.bl k) | none => .bad).s fun t => .rt t) = _
        rw [ea]
        rfl
  | _ => rfl
end G

namespace G
open PySem L2 PV
/-! ### running combinators by rows -/
theorem bOk {α β : Type} (a : α) (f : α → R β) : (R.ok a).bind f = f a := rfl
theorem sOkR {α : Type} (a : α) (f : α → RS) : (R.ok a).s f = f a := rfl
theorem out_rt (r : R T) : outR (r.s fun t => .rt t) = r := by cases r <;> rfl
theorem ret_eq (f : En → R T) (ρ : En) : retS f ρ = (f (frz ρ)).s fun t => .rt t := rfl
theorem call1 {g : List T → R T} {f : En → R T} {ρ : En} : callE 1 g (consA f nilA) ρ = (f ρ).bind fun x => g [x] := by
  unfold callE consA nilA
  cases f ρ <;> rfl
theorem call2 {g : List T → R T} {f f' : En → R T} {ρ : En} : callE 2 g (consA f (consA f' nilA)) ρ = (f ρ).bind fun x => (f' ρ).bind fun y => g [x, y] := by
  unfold callE consA nilA
  cases f ρ with
  | ok a => cases f' ρ <;> rfl
  | ex c => rfl
  | bad => rfl
theorem call3 {g : List T → R T} {f f' f'' : En → R T} {ρ : En} : callE 3 g (consA f (consA f' (consA f'' nilA))) ρ = (f ρ).bind fun x => (f' ρ).bind fun y => (f'' ρ).bind fun z => g [x, y, z] := by
  unfold callE consA nilA
  cases f ρ with
  | ok a =>
    cases f' ρ with
    | ok b => cases f'' ρ <;> rfl
    | ex c => rfl
    | bad => rfl
  | ex c => rfl
  | bad => rfl
theorem call4 {g : List T → R T} {f f' f'' f3 : En → R T} {ρ : En} : callE 4 g (consA f (consA f' (consA f'' (consA f3 nilA)))) ρ = (f ρ).bind fun x => (f' ρ).bind fun y => (f'' ρ).bind fun z => (f3 ρ).bind fun w => g [x, y, z, w] := by
  unfold callE consA nilA
  cases f ρ with
  | ok a =>
    cases f' ρ with
    | ok b =>
      cases f'' ρ with
      | ok c => cases f3 ρ <;> rfl
      | ex c => rfl
      | bad => rfl
    | ex c => rfl
    | bad => rfl
  | ex c => rfl
  | bad => rfl
def andB (r k : R T) : R T := r.bind fun x => match x with
  | .bl true => k
  | .bl false => .ok (.bl false)
  | _ => .bad
theorem and_eq (f g : En → R T) (ρ : En) : andE f g ρ = andB (f ρ) (g ρ) := rfl
theorem andB_bl (a : Bool) (k : R T) : andB (.ok (.bl a)) k = if a = true then k else .ok (.bl false) := by cases a <;> rfl
theorem v0 {t : T} {ρ : En} : vE 0 (.vl t :: ρ) = .ok t := rfl
theorem v1 {t : T} {a : Sl} {ρ : En} : vE 1 (a :: .vl t :: ρ) = .ok t := rfl
theorem w0 {t : T} {ρ : En} : vB 0 (.vl t :: ρ) = .ok t := rfl
theorem w1 {t : T} {a : Sl} {ρ : En} : vB 1 (a :: .vl t :: ρ) = .ok t := rfl
theorem c_eq {t : T} {ρ : En} : cE t ρ = .ok t := rfl
theorem bin_eq {g : T → T → R T} {f f' : En → R T} {ρ : En} : binE g f f' ρ = (f ρ).bind fun x => (f' ρ).bind fun y => g x y := rfl
theorem frz_v {t : T} {ρ : En} : frz (.vl t :: ρ) = .vl t :: frz ρ := rfl
theorem frz_u {ρ : En} : frz (.un :: ρ) = .un :: frz ρ := rfl
theorem frz_n : frz [] = [] := rfl
theorem ch_eq {g g' : T → T → R Bool} {fa fb fc : En → R T} {ρ : En} : chE g g' fa fb fc ρ = (fa ρ).bind fun x => (fb ρ).bind fun y => (g x y).bind fun k => if k = true then (fc ρ).bind fun z => (g' y z).bind fun k' => .ok (.bl k') else .ok (.bl false) := rfl
theorem ap_eq {g : T → R T} {f : En → R T} {ρ : En} : ap1 g f ρ = (f ρ).bind g := rfl
theorem le_ii {i j : Int} : leC (.int i) (.int j) = .ok (decide (i ≤ j)) := rfl
theorem cmpE_eq {g : T → T → R Bool} {f f' : En → R T} {ρ : En} : cmpE g f f' ρ = (f ρ).bind fun x => (f' ρ).bind fun y => (g x y).bind fun b => .ok (.bl b) := rfl
theorem len_t {xs : List T} : lenT (.tup xs) = .ok (.int xs.length) := rfl
theorem len_l {xs : List T} : lenT (.lst xs) = .ok (.int xs.length) := rfl
/-! ### all texts are short -/
mutual
def sOk : T → Prop
  | .str x => x.length ≤ bnd
  | .tup xs => sOks xs
  | .lst xs => sOks xs
  | .fz xs => sOks xs
  | _ => True
def sOks : List T → Prop
  | [] => True
  | t :: ts => sOk t ∧ sOks ts
end
theorem sOks_mem : ∀ {ts : List T} {t : T}, sOks ts → t ∈ ts → sOk t
  | u :: ts, t, h, hm => by
    have h' : sOk u ∧ sOks ts := by simpa only [sOks] using h
    rcases List.mem_cons.mp hm with rfl | hm
    · exact h'.1
    · exact sOks_mem h'.2 hm
theorem sOk.str {t : T} (h : sOk t) : strOk t := by
  cases t with
  | str x =>
    have h' : x.length ≤ bnd := by simpa only [sOk] using h
    exact h'
  | _ => trivial
theorem sOk_tup {xs : List T} (h : sOk (.tup xs)) : sOks xs := by simpa only [sOk] using h
def isChoice : T → Bool
  | .tup [w, .int i] => isWord w && decide (1 ≤ i) && decide (i ≤ 20)
  | _ => false
theorem choice_eq (t : T) (ht : sOk t) : f_is_choice [t] = .ok (.bl (isChoice t)) := by
  have e : f_is_choice [t] = outR (b_is_choice f_is_whole f_is_tuple_of f_is_word [.vl t]) := rfl
  rw [e, b_is_choice]
  simp only [ret_eq, out_rt, frz_v, frz_n, and_eq, call3, call1, v0, c_eq, bOk, bin_eq, ch_eq]
  rw [show f_is_tuple_of [t, .int 2, .int 2] = .ok (.bl (isTup 2 2 t)) from tuple_of_eq t 2 2, andB_bl]
  cases t with
  | tup xs =>
    match xs, ht with
    | [], _ => rfl
    | [_], _ => rfl
    | _ :: _ :: _ :: _, _ => simp [isTup, isChoice]
    | [w, n], ht =>
      have hw : sOk w := sOks_mem (sOk_tup ht) (by simp)
      show (if true = true then andB (f_is_word [w]) (andB (f_is_whole [n]) ((leC (.int 1) n).bind fun k => if k = true then (leC n (.int 20)).bind fun k' => R.ok (T.bl k') else .ok (.bl false))) else _) = _
      rw [if_pos rfl, word_eq w hw.str, whole_eq, andB_bl, andB_bl]
      cases n with
      | int i =>
        show (if isWord w = true then (if true = true then (if decide (1 ≤ i) = true then R.ok (T.bl (decide (i ≤ 20))) else .ok (.bl false)) else _) else _) = R.ok (T.bl (isWord w && decide (1 ≤ i) && decide (i ≤ 20)))
        cases isWord w <;> cases decide (1 ≤ i) <;> rfl
      | _ =>
        show (if isWord w = true then (if false = true then _ else R.ok (T.bl false)) else R.ok (T.bl false)) = R.ok (T.bl false)
        cases isWord w <;> rfl
  | _ => rfl
end G

namespace G
open PySem L2 PV
theorem seq_eq (f g : En → RS) (ρ : En) : seqS f g ρ = match f ρ with | .nx ρ' => g ρ' | r => r := rfl
theorem if_eq (g : En → R Bool) (f1 f2 : En → RS) (ρ : En) : ifS g f1 f2 ρ = (g ρ).s fun k => if k = true then f1 ρ else f2 ρ := rfl
theorem or_eq (f g : En → R Bool) (ρ : En) : orT f g ρ = (f ρ).bind fun x => if x = true then .ok true else g ρ := rfl
theorem not_eq (f : En → R Bool) (ρ : En) : notT f ρ = (f ρ).bind fun x => .ok (!x) := rfl
theorem tru_eq (f : En → R T) (ρ : En) : truT f ρ = (f ρ).bind tru := rfl
theorem tru_bl (k : Bool) : tru (.bl k) = .ok k := rfl
theorem set_eq (i : Nat) (f : En → R T) (ρ : En) : setS i f ρ = (f ρ).s fun t => .nx (ρ.set i (.vl t)) := rfl
theorem cmpT_eq {g : T → T → R Bool} {f f' : En → R T} {ρ : En} : cmpT g f f' ρ = (f ρ).bind fun x => (f' ρ).bind fun y => g x y := rfl
theorem comp_eq {fi : En → R (List T)} {g : T → En → R En} {ft : En → R Bool} {fe : En → R T} {k : Nat} {js : List Nat} {ρ : En} : compE fi g ft fe k js ρ = (fi ρ).bind fun ts => (compR g ft fe k js ρ ts).bind fun vs => .ok (.lst vs) := rfl
theorem any_eq {f : En → R T} {ρ : En} : anyI f ρ = (f ρ).bind itemsA := rfl
def wordOf : T → Str
  | .tup (.str w :: _) => w
  | _ => ⟨#[]⟩
def isPick : T → Bool
  | .tup cs => decide (1 ≤ cs.length) && decide (cs.length ≤ 4) && cs.all isChoice && decide ((dd [] (cs.map wordOf)).length = cs.length)
  | _ => false
theorem choice_shape {c : T} (h : isChoice c = true) : ∃ w n, c = .tup [.str w, n] := by
  unfold isChoice at h
  split at h
  · rename_i w i
    cases w with
    | str x => exact ⟨x, _, rfl⟩
    | _ => cases h
  · cases h
theorem txts_words : ∀ {cs : List T}, cs.all isChoice = true → txts (cs.map fun c => T.str (wordOf c)) = some (cs.map wordOf)
  | [], _ => rfl
  | c :: cs, h => by
    rw [List.all_cons, Bool.and_eq_true] at h
    have ih := txts_words h.2
    show (match txts (cs.map fun c => T.str (wordOf c)) with | some ys => some (wordOf c :: ys) | none => none) = _
    rw [ih]; rfl
theorem choices_eq (t : T) (ht : sOk t) : f_are_choices [t] = .ok (.bl (isPick t)) := by
  have e : f_are_choices [t] = outR (b_are_choices f_is_tuple_of f_is_choice [.vl t, .un]) := rfl
  rw [e, b_are_choices]
  simp only [seq_eq, if_eq, or_eq, not_eq, tru_eq, call3, v0, c_eq, bOk]
  rw [show f_is_tuple_of [t, .int 1, .int 4] = .ok (.bl (isTup 1 4 t)) from tuple_of_eq t 1 4]
  simp only [bOk, tru_bl]
  cases t with
  | tup cs =>
    have hl : isTup 1 4 (.tup cs) = (decide (1 ≤ cs.length) && decide (cs.length ≤ 4)) := rfl
    rw [hl]
    show _ = R.ok (T.bl (decide (1 ≤ cs.length) && decide (cs.length ≤ 4) && cs.all isChoice && decide ((dd [] (cs.map wordOf)).length = cs.length)))
    cases h14 : (decide (1 ≤ cs.length) && decide (cs.length ≤ 4)) with
    | false => rfl
    | true =>
      rw [Bool.and_eq_true, decide_eq_true_eq, decide_eq_true_eq] at h14
      have hb : cs.length ≤ bnd := Nat.le_trans h14.2 (by decide)
      have ec : compR (setG 0) noIf (callE 1 f_is_choice (consA (vE 0) nilA)) 1 [] [.vl (.tup cs), .un] cs = .ok (cs.map fun c => T.bl (isChoice c)) :=
        compR_map (h := fun c => T.bl (isChoice c)) cs hb fun c hc => by
          show callE 1 f_is_choice (consA (vE 0) nilA) [.vl c] = _
          rw [call1, v0, bOk]
          exact choice_eq c (sOks_mem (sOk_tup ht) hc)
      simp only [Bool.not_true, Bool.false_eq_true, if_false, ap_eq, comp_eq, any_eq, v0, bOk, itemsA, ec]
      have ea : allT (.lst (cs.map fun c => T.bl (isChoice c))) = .ok (.bl (cs.all isChoice)) := by
        show (match allB (cs.map fun c => T.bl (isChoice c)) with | some k => R.ok (T.bl k) | none => .bad) = _
        rw [allB_map]
      rw [ea]
      simp only [bOk, tru_bl, sOkR]
      cases hall : cs.all isChoice with
      | false => rfl
      | true =>
        have ew : compR (setG 0) noIf (binE ixT (vE 0) (cE (.int 0))) 1 [] [.vl (.tup cs), .un] cs = .ok (cs.map fun c => T.str (wordOf c)) :=
          compR_map (h := fun c => T.str (wordOf c)) cs hb fun c hc => by
            obtain ⟨w, n, rfl⟩ := choice_shape (List.all_eq_true.mp hall c hc)
            rfl
        simp only [Bool.not_true, Bool.false_eq_true, if_false, nxS, set_eq, comp_eq, any_eq, v0, bOk, itemsA, ew, sOkR, ret_eq]
        show outR (((lsetT (.lst (cs.map fun c => T.str (wordOf c)))).bind fun x => (lenT (.lst (cs.map fun c => T.str (wordOf c)))).bind fun y => (eqC x y).bind fun b => R.ok (T.bl b)).s fun t => .rt t) = _
        have el : lsetT (.lst (cs.map fun c => T.str (wordOf c))) = .ok (.int (dd [] (cs.map wordOf)).length) := by
          show (match txts (cs.map fun c => T.str (wordOf c)) with | some ys => if (cs.map fun c => T.str (wordOf c)).length + 1 < 4096 then R.ok (T.int (dd [] ys).length) else .bad | none => .bad) = _
          rw [txts_words hall]
          exact if_pos (by rw [List.length_map]; omega)
        rw [el, len_l, List.length_map, out_rt]
        show R.ok (T.bl (((dd [] (cs.map wordOf)).length : Int) == (cs.length : Int))) = _
        congr 2
        by_cases hq : (dd [] (cs.map wordOf)).length = cs.length
        · rw [decide_eq_true hq, hq]; simp
        · rw [decide_eq_false hq]
          simp only [Bool.true_and, beq_eq_false_iff_ne]
          omega
  | _ => rfl
end G

namespace G
open PySem L2 PV
def isS (w : Str) : T → Bool
  | .str s => s == w
  | _ => false
theorem eqS (h : T) (w : Str) : eqC h (.str w) = .ok (isS w h) := by cases h <;> rfl
theorem eqI (i j : Int) : eqC (.int i) (.int j) = .ok (i == j) := rfl
theorem at0 {h : T} {r : List T} : ixT (.tup (h :: r)) (.int 0) = .ok h := by
  show atT (h :: r) 0 = _
  unfold atT
  rw [show atI (h :: r) 0 = some h from atI_nat (j := 0) rfl]
theorem at1 {h a : T} {r : List T} : ixT (.tup (h :: a :: r)) (.int 1) = .ok a := by
  show atT (h :: a :: r) 1 = _
  unfold atT
  rw [show atI (h :: a :: r) 1 = some a from atI_nat (j := 1) rfl]
theorem at2 {h a b : T} {r : List T} : ixT (.tup (h :: a :: b :: r)) (.int 2) = .ok b := by
  show atT (h :: a :: b :: r) 2 = _
  unfold atT
  rw [show atI (h :: a :: b :: r) 2 = some b from atI_nat (j := 2) rfl]
theorem at3 {h a b c : T} {r : List T} : ixT (.tup (h :: a :: b :: c :: r)) (.int 3) = .ok c := by
  show atT (h :: a :: b :: c :: r) 3 = _
  unfold atT
  rw [show atI (h :: a :: b :: c :: r) 3 = some c from atI_nat (j := 3) rfl]
def isRowOf (k : T → Bool) : T → Bool
  | .tup ks => decide (1 ≤ ks.length) && decide (ks.length ≤ 3) && ks.all k
  | _ => false
def kWhole : List T → Bool
  | [a, b] => isSpan (-20) 20 a b
  | _ => false
def kPick : List T → Bool
  | [c] => isPick c
  | _ => false
def kRow (k : T → Bool) : List T → Bool
  | [c] => isRowOf k c
  | _ => false
def kMany (k : T → Bool) : List T → Bool
  | [c, a, b] => isSpan 0 3 a b && k c
  | _ => false
def kStep (k : T → Bool) : T → Bool
  | .tup (h :: r) => if isS "whole" h = true then kWhole r else if isS "pick" h = true then kPick r else if isS "row" h = true then kRow k r else if isS "many" h = true then kMany k r else false
  | _ => false
def isK : Nat → T → Bool
  | 0, _ => false
  | d + 1, t => kStep (isK d) t
theorem len_is {α : Type} (xs : List α) (n : Nat) : ((xs.length : Int) == (n : Int)) = decide (xs.length = n) := by
  by_cases h : xs.length = n
  · rw [decide_eq_true h, h]; simp
  · rw [decide_eq_false h, beq_eq_false_iff_ne]; omega
theorem neg_eq {f : En → R T} {ρ : En} : negE f ρ = (f ρ).bind fun x => match x with | .int i => .ok (.int (-i)) | _ => .bad := rfl
theorem sub_ii {i j : Int} : subT (.int i) (.int j) = .ok (.int (i - j)) := rfl
set_option maxHeartbeats 1000000 in
theorem step_eq {n : Nat} {d : Nat} {k : T → Bool} (H0 : ∀ t, sOk t → S_is_kind_within n 0 [t, .int d] = .ok (.bl (k t))) (H1 : ∀ t, sOk t → S_is_kind_within n 1 [t, .int d] = .ok (.bl (isRowOf k t))) (t : T) (ht : sOk t) :
    S_is_kind_within (n + 1) 0 [t, .int ((d + 1 : Nat) : Int)] = .ok (.bl (kStep k t)) := by
  have e : S_is_kind_within (n + 1) 0 [t, .int ((d + 1 : Nat) : Int)] = outR (b_is_kind_within f_is_span (S_is_kind_within n 0) f_are_choices (S_is_kind_within n 1) [.vl t, .vl (.int ((d + 1 : Nat) : Int))]) := rfl
  have hL : (((d + 1 : Nat) : Int) == 0) = false := by rw [beq_eq_false_iff_ne]; omega
  have hL1 : ((d + 1 : Nat) : Int) - 1 = (d : Int) := by omega
  rw [e, b_is_kind_within]
  simp only [seq_eq, if_eq, or_eq, not_eq, tru_eq, cmpT_eq, w0, w1, c_eq, bOk, eqI, hL, Bool.false_eq_true, if_false, ap_eq]
  cases t with
  | tup xs =>
    cases xs with
    | nil => rfl
    | cons h r =>
      have hs := sOk_tup ht
      have hm : ∀ u ∈ r, sOk u := fun u hu => sOks_mem hs (List.mem_cons_of_mem _ hu)
      have z0 : (((h :: r).length : Int) == 0) = false := by rw [beq_eq_false_iff_ne]; simp only [List.length_cons]; omega
      have ti : isiT "tuple" (.tup (h :: r)) = .ok (.bl true) := rfl
      simp only [ti, bOk, tru_bl, Bool.not_true, Bool.false_eq_true, if_false, len_t, eqI, z0, sOkR, nxS, bin_eq, v0, v1, c_eq, at0, eqS, ret_eq, frz_v, frz_n, and_eq, cmpE_eq, ap_eq, w0, call4, call1, call2, neg_eq, sub_ii, hL1]
      show _ = R.ok (T.bl (if isS "whole" h = true then kWhole r else if isS "pick" h = true then kPick r else if isS "row" h = true then kRow k r else if isS "many" h = true then kMany k r else false))
      have l3 : (((h :: r).length : Int) == 3) = decide ((h :: r).length = 3) := len_is (h :: r) 3
      have l2 : (((h :: r).length : Int) == 2) = decide ((h :: r).length = 2) := len_is (h :: r) 2
      have l4 : (((h :: r).length : Int) == 4) = decide ((h :: r).length = 4) := len_is (h :: r) 4
      simp only [l2, l3, l4, andB_bl]
      cases isS "whole" h with
      | true =>
        simp only [if_true]
        match r, hm with
        | [], _ => rfl
        | [_], _ => rfl
        | _ :: _ :: _ :: _, _ => simp [kWhole, sOkR, outR]
        | [a, b], _ =>
          simp only [at1, at2, bOk, span_eq]
          rfl
      | false =>
        simp only [Bool.false_eq_true, if_false, v0, v1, w0, bOk, at0, sOkR, frz_v, frz_n, len_t, eqI, l2, l4, andB_bl, sub_ii, hL1]
        cases isS "pick" h with
        | true =>
          simp only [if_true]
          match r, hm with
          | [], _ => rfl
          | _ :: _ :: _, _ => simp [kPick, sOkR, outR]
          | [c], hm =>
            simp only [at1, bOk, choices_eq c (hm c (by simp))]
            rfl
        | false =>
          simp only [Bool.false_eq_true, if_false, v0, v1, w0, bOk, at0, sOkR, frz_v, frz_n, len_t, eqI, l2, l4, andB_bl, sub_ii, hL1]
          cases isS "row" h with
          | true =>
            simp only [if_true]
            match r, hm with
            | [], _ => rfl
            | _ :: _ :: _, _ => simp [kRow, sOkR, outR]
            | [c], hm =>
              simp only [at1, bOk, H1 c (hm c (by simp))]
              rfl
          | false =>
            simp only [Bool.false_eq_true, if_false, v0, v1, w0, bOk, at0, sOkR, frz_v, frz_n, len_t, eqI, l2, l4, andB_bl, sub_ii, hL1]
            cases isS "many" h with
            | true =>
              simp only [if_true]
              match r, hm with
              | [], _ => rfl
              | [_], _ => rfl
              | [_, _], _ => rfl
              | _ :: _ :: _ :: _ :: _, _ => simp [kMany, sOkR, outR]
              | [c, a, b], hm =>
                simp only [at1, at2, at3, bOk, span_eq, H0 c (hm c (by simp)), andB_bl]
                show outR (match (if isSpan 0 3 a b = true then R.ok (T.bl (k c)) else .ok (.bl false)).s (fun t => RS.rt t) with | .nx _ => RS.rt (T.bl false) | r => r) = R.ok (T.bl (isSpan 0 3 a b && k c))
                cases isSpan 0 3 a b <;> rfl
            | false => rfl
  | _ => rfl
theorem row_eq {n : Nat} {d : Nat} {k : T → Bool} (H0 : ∀ t, sOk t → S_is_kind_within n 0 [t, .int d] = .ok (.bl (k t))) (t : T) (ht : sOk t) : S_is_kind_within (n + 1) 1 [t, .int d] = .ok (.bl (isRowOf k t)) := by
  have e : S_is_kind_within (n + 1) 1 [t, .int d] = outR (b_are_kinds_within f_is_tuple_of (S_is_kind_within n 0) [.vl t, .vl (.int d)]) := rfl
  rw [e, b_are_kinds_within]
  simp only [ret_eq, out_rt, frz_v, frz_n, and_eq, call3, v0, c_eq, bOk]
  rw [show f_is_tuple_of [t, .int 1, .int 3] = .ok (.bl (isTup 1 3 t)) from tuple_of_eq t 1 3, andB_bl]
  cases t with
  | tup ks =>
    show (if (decide (1 ≤ ks.length) && decide (ks.length ≤ 3)) = true then _ else _) = R.ok (T.bl (decide (1 ≤ ks.length) && decide (ks.length ≤ 3) && ks.all k))
    cases h13 : (decide (1 ≤ ks.length) && decide (ks.length ≤ 3)) with
    | false => rfl
    | true =>
      rw [Bool.and_eq_true, decide_eq_true_eq, decide_eq_true_eq] at h13
      have hb : ks.length ≤ bnd := Nat.le_trans h13.2 (by decide)
      have ec : compR (setG 0) noIf (callE 2 (S_is_kind_within n 0) (consA (vE 0) (consA (vE 1) nilA))) 1 [1] [.vl (.tup ks), .vl (.int d)] ks = .ok (ks.map fun c => T.bl (k c)) :=
        compR_map (h := fun c => T.bl (k c)) ks hb fun c hc => by
          show callE 2 (S_is_kind_within n 0) (consA (vE 0) (consA (vE 1) nilA)) [.vl c, .vl (.int d)] = _
          rw [call2, v0, v1, bOk, bOk]
          exact H0 c (sOks_mem (sOk_tup ht) hc)
      simp only [if_true, ap_eq, comp_eq, any_eq, v0, bOk, itemsA, ec]
      show (match allB (ks.map fun c => T.bl (k c)) with | some k => R.ok (T.bl k) | none => .bad) = _
      rw [allB_map]
      rfl
  | _ => rfl
theorem kind_eq : ∀ (d n : Nat), 2 * d + 1 ≤ n → ∀ t, sOk t → S_is_kind_within n 0 [t, .int d] = .ok (.bl (isK d t))
  | 0, n + 1, _, t, _ => rfl
  | d + 1, n + 2, h, t, ht => step_eq (n := n + 1) (fun u hu => kind_eq d (n + 1) (by omega) u hu) (fun u hu => row_eq (fun v hv => kind_eq d n (by omega) v hv) u hu) t ht
theorem is_kind_eq (t : T) (ht : sOk t) : f_is_kind [t] = .ok (.bl (isK 3 t)) := by
  have e : f_is_kind [t] = outR (b_is_kind (f_is_kind_within 20) [.vl t]) := rfl
  rw [e, b_is_kind]
  simp only [ret_eq, out_rt, frz_v, frz_n, call2, v0, c_eq, bOk]
  exact kind_eq 3 20 (by omega) t ht
end G

namespace G
open PySem L2 PV
def inR (lo hi : Int) : T → Bool
  | .int i => decide (lo ≤ i) && decide (i ≤ hi)
  | _ => false
theorem law_whole_eq (t : T) (lo hi : Int) : f__law_whole [t, .int lo, .int hi] = .ok (.bl (inR lo hi t)) := by
  cases t with
  | int i =>
    show outR ((if decide (lo ≤ i) = true then R.ok (T.bl (decide (i ≤ hi))) else .ok (.bl false)).s fun t => .rt t) = R.ok (T.bl (decide (lo ≤ i) && decide (i ≤ hi)))
    cases decide (lo ≤ i) <;> rfl
  | _ => rfl
theorem law_whole_no {t u : T} {hi : Int} (h : isW t = false) : f__law_whole [t, u, .int hi] = .ok (.bl false) := by
  cases t with
  | int i => cases h
  | _ => rfl
theorem eq_nil (xs : List T) : eqC (.lst xs) (.lst []) = .ok xs.isEmpty := by cases xs <;> rfl
theorem not_sign (c : Nat) (ρ : En) : notT (chT leC leC (cE (.str "a")) (vB 0) (cE (.str "z"))) ((Sl.vl (.str ⟨#[c]⟩)) :: ρ) = .ok (!letter c) := by
  have e1 : leC (.str "a") (.str ⟨#[c]⟩) = .ok (decide (97 ≤ c)) := by
    show R.ok (!decide ([c] < [97])) = _
    rw [one_lt]
    by_cases h : c < 97
    · rw [decide_eq_true h, decide_eq_false (by omega)]; rfl
    · rw [decide_eq_false h, decide_eq_true (by omega)]; rfl
  have e2 : leC (.str ⟨#[c]⟩) (.str "z") = .ok (decide (c ≤ 122)) := by
    show R.ok (!decide ([122] < [c])) = _
    rw [one_lt]
    by_cases h : 122 < c
    · rw [decide_eq_true h, decide_eq_false (by omega)]; rfl
    · rw [decide_eq_false h, decide_eq_true (by omega)]; rfl
  show ((leC (.str "a") (.str ⟨#[c]⟩)).bind (fun k => if k = true then leC (.str ⟨#[c]⟩) (.str "z") else R.ok false)).bind (fun x => R.ok (!x)) = _
  rw [e1, e2]
  unfold letter
  show (if decide (97 ≤ c) = true then R.ok (decide (c ≤ 122)) else R.ok false).bind (fun x => R.ok (!x)) = _
  cases decide (97 ≤ c) <;> rfl
theorem filter_empty {α : Type} (p : α → Bool) : ∀ xs : List α, (xs.filter fun x => !p x).isEmpty = xs.all p
  | [] => rfl
  | x :: xs => by
    have ih := filter_empty p xs
    rw [List.all_cons]
    cases hp : p x with
    | true => rw [List.filter_cons_of_neg (by simp [hp]), ih]; rfl
    | false => rw [List.filter_cons_of_pos (by simp [hp])]; rfl
def signP : T → Bool
  | .str y => !letter (y.cps.toList.headD 0)
  | _ => false
theorem law_word_eq (t : T) (ht : strOk t) : f__law_is_word [t] = .ok (.bl (isWord t)) := by
  cases t with
  | str x =>
    have hx : x.length ≤ bnd := ht
    have e0 : lenT (.str x) = .ok (.int x.length) := if_pos hx
    have hs : (signs x).length ≤ bnd := by unfold signs; rw [List.length_map, Array.length_toList]; exact hx
    have ec : compR (setG 0) (notT (chT leC leC (cE (.str "a")) (vB 0) (cE (.str "z")))) (vE 0) 1 [] [.vl (.str x)] (signs x) = .ok (((signs x).filter signP).map id) := by
      unfold compR
      rw [if_pos hs]
      have := compL_filter (ft := notT (chT leC leC (cE (.str "a")) (vB 0) (cE (.str "z")))) (fe := vE 0) (p := signP) (h := id) (signs x) (capE 1 [] [.vl (.str x)]) fun t ht => by
        unfold signs at ht
        obtain ⟨c, _, rfl⟩ := List.mem_map.mp ht
        exact ⟨not_sign c [], fun _ => rfl⟩
      rw [this]
      rfl
    have em : (((signs x).filter signP).map id).isEmpty = x.cps.toList.all letter := by
      rw [List.map_id]
      unfold signs
      rw [List.filter_map, List.isEmpty_map]
      exact filter_empty letter x.cps.toList
    have e : f__law_is_word [.str x] = outR (b__law_is_word [.vl (.str x)]) := rfl
    rw [e, b__law_is_word]
    simp only [ret_eq, out_rt, frz_v, frz_n, and_eq, ap_eq, w0, v0, bOk, ch_eq, c_eq, e0, le_ii, cmpE_eq, comp_eq, any_eq, itemsA, ec]
    have c1 : decide ((1 : Int) ≤ (x.length : Int)) = decide (1 ≤ x.length) := by
      by_cases h : 1 ≤ x.length
      · rw [decide_eq_true h]; exact decide_eq_true (by omega)
      · rw [decide_eq_false h]; exact decide_eq_false (by omega)
    have c2 : decide ((x.length : Int) ≤ (3 : Int)) = decide (x.length ≤ 3) := by
      by_cases h : x.length ≤ 3
      · rw [decide_eq_true h]; exact decide_eq_true (by omega)
      · rw [decide_eq_false h]; exact decide_eq_false (by omega)
    rw [c1, c2]
    have el : lstE nilA [Sl.vl (T.str x)] = .ok (.lst []) := rfl
    rw [el]
    simp only [bOk, eq_nil, em]
    show andB (R.ok (T.bl true)) (andB (if decide (1 ≤ x.length) = true then R.ok (T.bl (decide (x.length ≤ 3))) else R.ok (T.bl false)) (R.ok (T.bl (x.cps.toList.all letter)))) = R.ok (T.bl (decide (1 ≤ x.length) && decide (x.length ≤ 3) && x.cps.toList.all letter))
    cases decide (1 ≤ x.length) <;> cases decide (x.length ≤ 3) <;> rfl
  | _ => rfl
/-- nothing comes twice: by the set's size, by a look at what stands ahead -/
theorem dd_length : ∀ (ws acc : List Str), (dd acc ws).length ≤ acc.length + ws.length
  | [], acc => Nat.le_refl _
  | w :: ws, acc => by
    unfold dd
    have := dd_length ws (if w ∈ acc then acc else acc ++ [w])
    by_cases h : w ∈ acc
    · rw [if_pos h] at this ⊢; simp only [List.length_cons]; omega
    · rw [if_neg h] at this ⊢; rw [List.length_append, List.length_singleton] at this; simp only [List.length_cons]; omega
theorem dd_full : ∀ (ws acc : List Str), ((dd acc ws).length = acc.length + ws.length) ↔ ∀ (k : Nat) (w : Str), ws[k]? = some w → w ∉ acc ++ ws.take k
  | [], acc => by simp [dd]
  | w :: ws, acc => by
    unfold dd
    by_cases h : w ∈ acc
    · rw [if_pos h]
      have := dd_length ws acc
      constructor
      · intro e; simp only [List.length_cons] at e; omega
      · intro H; exact absurd (List.mem_append_left _ h) (H 0 w rfl)
    · rw [if_neg h]
      have ih := dd_full ws (acc ++ [w])
      rw [List.length_append, List.length_singleton] at ih
      rw [show acc.length + (w :: ws).length = acc.length + 1 + ws.length by simp only [List.length_cons]; omega, ih]
      constructor
      · intro H k v e
        cases k with
        | zero => simp at e; subst e; simpa using h
        | succ k =>
          have := H k v (by simpa using e)
          simpa [List.append_assoc] using this
      · intro H k v e
        have := H (k + 1) v (by simpa using e)
        simpa [List.append_assoc] using this
end G

namespace G
open PySem L2 PV
theorem cut1 {h : T} {r : List T} : slT (.tup (h :: r)) (some 1) none = .ok (.tup r) := by
  show R.ok (T.tup (cut (h :: r) (some 1) none)) = _
  have : cut (h :: r) (some 1) none = r := by
    unfold cut
    rw [show HT.sIx (h :: r).length 0 (some (1 : Int)) = 1 from by rw [show (1 : Int) = ((1 : Nat) : Int) from rfl, HT.sIx_nat]; simp only [List.length_cons]; omega, HT.sIx_none]
    simp
  rw [this]
theorem neS (h : T) (w : Str) : neC h (.str w) = .ok (!isS w h) := by cases h <;> rfl
theorem neI (i j : Int) : neC (.int i) (.int j) = .ok (!(i == j)) := rfl
theorem ltI (i j : Int) : ltC (.int i) (.int j) = .ok (decide (i < j)) := rfl
theorem v2 {t : T} {a b : Sl} {ρ : En} : vE 2 (a :: b :: .vl t :: ρ) = .ok t := rfl
theorem v3 {t : T} {a b c : Sl} {ρ : En} : vE 3 (a :: b :: c :: .vl t :: ρ) = .ok t := rfl
theorem w2 {t : T} {a b : Sl} {ρ : En} : vB 2 (a :: b :: .vl t :: ρ) = .ok t := rfl
theorem w3 {t : T} {a b c : Sl} {ρ : En} : vB 3 (a :: b :: c :: .vl t :: ρ) = .ok t := rfl
theorem w5 {t : T} {a b c d e : Sl} {ρ : En} : vB 5 (a :: b :: c :: d :: e :: .vl t :: ρ) = .ok t := rfl
theorem v4 {t : T} {a b c d : Sl} {ρ : En} : vE 4 (a :: b :: c :: d :: .vl t :: ρ) = .ok t := rfl
theorem andT_eq (f g : En → R Bool) (ρ : En) : andT f g ρ = (f ρ).bind fun x => if x = true then g ρ else .ok false := rfl
theorem chT_eq {g g' : T → T → R Bool} {fa fb fc : En → R T} {ρ : En} : chT g g' fa fb fc ρ = (fa ρ).bind fun x => (fb ρ).bind fun y => (g x y).bind fun k => if k = true then (fc ρ).bind fun z => g' y z else .ok false := rfl
theorem isi_tup (t : T) : isiT "tuple" t = .ok (.bl (match t with | .tup _ => true | _ => false)) := by cases t <;> rfl
/-! ### row: all parts -/
theorem law_row {n d : Nat} {k : T → Bool} (H0 : ∀ t, sOk t → S__law_is_kind n 0 [t, .int d] = .ok (.bl (k t))) {ks : List T} (hk : ∀ u ∈ ks, sOk u) (hl : ks.length ≤ 3) {x y z : Sl} {L : Int} (hL : L - 1 = (d : Int)) {ρ : En} :
    compR (setG 0) (notT (truT (callE 2 (S__law_is_kind n 0) (consA (vE 0) (consA (binE subT (vE 1) (cE (.int 1))) nilA))))) (vE 0) 1 [1] (x :: .vl (.int L) :: ρ) ks = .ok (ks.filter fun c => !k c) := by
  unfold compR
  rw [if_pos (Nat.le_trans hl (by decide))]
  have := compL_filter (ft := notT (truT (callE 2 (S__law_is_kind n 0) (consA (vE 0) (consA (binE subT (vE 1) (cE (.int 1))) nilA))))) (fe := vE 0) (p := fun c => !k c) (h := id) ks (capE 1 [1] (x :: .vl (.int L) :: ρ)) fun c hc => by
    refine ⟨?_, fun _ => rfl⟩
    show notT (truT (callE 2 (S__law_is_kind n 0) (consA (vE 0) (consA (binE subT (vE 1) (cE (.int 1))) nilA)))) [.vl c, .vl (.int L)] = _
    simp only [not_eq, tru_eq, call2, v0, v1, bOk, bin_eq, c_eq, sub_ii, hL, H0 c (hk c hc), tru_bl]
  rw [this, List.map_id]
  rfl
/-! ### pick -/
def isT2 : T → Bool
  | .tup [_, _] => true
  | _ => false
def headT : T → T
  | .tup (w :: _) => w
  | t => t
theorem pick1 {cs : List T} (hl : cs.length ≤ 4) {ρ : En} : compR (setG 0) (andT (truT (ap1 (isiT "tuple") (vB 0))) (cmpT eqC (ap1 lenT (vB 0)) (cE (.int 2)))) (vE 0) 1 [] ρ cs = .ok (cs.filter isT2) := by
  unfold compR
  rw [if_pos (Nat.le_trans hl (by decide))]
  have := compL_filter (ft := andT (truT (ap1 (isiT "tuple") (vB 0))) (cmpT eqC (ap1 lenT (vB 0)) (cE (.int 2)))) (fe := vE 0) (p := isT2) (h := id) cs (capE 1 [] ρ) fun c _ => by
    refine ⟨?_, fun _ => rfl⟩
    show andT (truT (ap1 (isiT "tuple") (vB 0))) (cmpT eqC (ap1 lenT (vB 0)) (cE (.int 2))) [.vl c] = _
    cases c with
    | tup xs =>
      match xs with
      | [] => rfl
      | [_] => rfl
      | [_, _] => rfl
      | _ :: _ :: _ :: xs =>
        simp only [andT_eq, tru_eq, ap_eq, w0, bOk, isi_tup, tru_bl, if_true, cmpT_eq, len_t, c_eq, eqI, isT2]
        congr 1
        all_goals (rw [beq_eq_false_iff_ne]; simp only [List.length_cons]; omega)
    | _ => rfl
  rw [this, List.map_id]
  rfl
theorem choice_two (c : T) : isChoice c = (isT2 c && (match c with | .tup [w, n] => isWord w && inR 1 20 n | _ => false)) := by
  cases c with
  | tup xs =>
    match xs with
    | [] => rfl
    | [_] => rfl
    | _ :: _ :: _ :: _ => simp [isChoice, isT2]
    | [w, n] =>
      cases n with
      | int i =>
        show (isWord w && decide (1 ≤ i) && decide (i ≤ 20)) = (true && (isWord w && (decide (1 ≤ i) && decide (i ≤ 20))))
        rw [Bool.true_and, Bool.and_assoc]
      | _ =>
        show false = (true && (isWord w && false))
        cases isWord w <;> rfl
  | _ => rfl
theorem pick2 {cs : List T} (hs : ∀ c ∈ cs, sOk c) (hl : cs.length ≤ 4) {ρ : En} :
    compR (setG 0) (andT (truT (callE 1 f__law_is_word (consA (binE ixT (vE 0) (cE (.int 0))) nilA))) (truT (callE 3 f__law_whole (consA (binE ixT (vE 0) (cE (.int 1))) (consA (cE (.int 1)) (consA (cE (.int 20)) nilA)))))) (binE ixT (vE 0) (cE (.int 0))) 1 [] ρ (cs.filter isT2) = .ok ((cs.filter isChoice).map headT) := by
  unfold compR
  have hl' : (cs.filter isT2).length ≤ bnd := Nat.le_trans (List.length_filter_le _ _) (Nat.le_trans hl (by decide))
  rw [if_pos hl']
  have := compL_filter (ft := andT (truT (callE 1 f__law_is_word (consA (binE ixT (vE 0) (cE (.int 0))) nilA))) (truT (callE 3 f__law_whole (consA (binE ixT (vE 0) (cE (.int 1))) (consA (cE (.int 1)) (consA (cE (.int 20)) nilA)))))) (fe := binE ixT (vE 0) (cE (.int 0))) (p := isChoice) (h := headT) (cs.filter isT2) (capE 1 [] ρ) fun c hc => by
    obtain ⟨hc1, hc2⟩ := List.mem_filter.mp hc
    have hso := hs c hc1
    unfold isT2 at hc2
    split at hc2
    · rename_i w n
      have hw : sOk w := sOks_mem (sOk_tup hso) (by simp)
      refine ⟨?_, fun _ => ?_⟩
      · show andT (truT (callE 1 f__law_is_word (consA (binE ixT (vE 0) (cE (.int 0))) nilA))) (truT (callE 3 f__law_whole (consA (binE ixT (vE 0) (cE (.int 1))) (consA (cE (.int 1)) (consA (cE (.int 20)) nilA))))) [.vl (.tup [w, n])] = _
        simp only [andT_eq, tru_eq, call1, call3, bin_eq, v0, c_eq, bOk, at0, at1, law_word_eq w hw.str, law_whole_eq, tru_bl, choice_two]
        show (if isWord w = true then R.ok (inR 1 20 n) else R.ok false) = R.ok (true && (isWord w && inR 1 20 n))
        cases isWord w <;> rfl
      · show binE ixT (vE 0) (cE (.int 0)) [.vl (.tup [w, n])] = _
        simp only [bin_eq, v0, c_eq, bOk, at0]
        rfl
    · cases hc2
  rw [this, List.filter_filter]
  have : (cs.filter fun a => isChoice a && isT2 a) = cs.filter isChoice := by
    refine List.filter_congr fun c _ => ?_
    rw [choice_two]
    cases isT2 c <;> simp
  rw [this]
  rfl
end G

namespace G
open PySem L2 PV
theorem any_strs (w : Str) : ∀ ws : List Str, anyF (fun y => eqF 30 y (.str w)) (ws.map T.str) = some (decide (w ∈ ws))
  | [] => rfl
  | x :: ws => by
    have ih := any_strs w ws
    show (match anyF (fun y => eqF 30 y (.str w)) (ws.map T.str) with | none => none | some c => some ((x == w) || c)) = _
    rw [ih]
    show some ((x == w) || decide (w ∈ ws)) = _
    congr 1
    by_cases h : x = w
    · subst h; simp
    · have h' : ¬ w = x := fun z => h z.symm
      simp [h, h']
theorem cut_take {xs : List T} {k : Nat} : slT (.lst xs) none (some (k : Int)) = .ok (.lst (xs.take k)) := by
  show R.ok (T.lst (cut xs none (some (k : Int)))) = _
  have : cut xs none (some (k : Int)) = xs.take k := by
    unfold cut
    rw [HT.sIx_none, HT.sIx_nat]
    simp only [List.drop_zero, Nat.sub_zero]
    rw [List.take_eq_take_iff]
    omega
  rw [this]
theorem at_lst {xs : List T} {k : Nat} {t : T} (h : xs[k]? = some t) : ixT (.lst xs) (.int k) = .ok t := by
  show atT xs k = _
  unfold atT
  rw [atI_nat h]
/-- the places whose word stands ahead of them -/
theorem pick3 {ws : List Str} (hl : ws.length ≤ 4) {a b c d e : Sl} : ∃ r, compR (setG 0) (cmpT inC (binE ixT (vE 1) (vE 0)) (slE (vE 1) noO (someO (vE 0)))) (vE 0) 1 [5] [a, b, c, d, e, .vl (.lst (ws.map T.str))] (rng 0 ws.length) = .ok r ∧
    (r.isEmpty = true ↔ ∀ (k : Nat) (w : Str), ws[k]? = some w → w ∉ ws.take k) := by
  have hl' : (rng 0 ws.length).length ≤ bnd := by unfold rng; rw [List.length_map, List.length_range]; exact Nat.le_trans hl (by decide)
  let p : T → Bool := fun t => match t with
    | .int i => match ws[i.toNat]? with | some w => decide (w ∈ ws.take i.toNat) | none => false
    | _ => false
  have key := compL_filter (ft := cmpT inC (binE ixT (vE 1) (vE 0)) (slE (vE 1) noO (someO (vE 0)))) (fe := vE 0) (p := p) (h := id) (rng 0 ws.length) (capE 1 [5] [a, b, c, d, e, .vl (.lst (ws.map T.str))]) fun t ht => by
    unfold rng at ht
    obtain ⟨k, hk, rfl⟩ := List.mem_map.mp ht
    have hk' : k < ws.length := List.mem_range.mp hk
    refine ⟨?_, fun _ => rfl⟩
    show cmpT inC (binE ixT (vE 1) (vE 0)) (slE (vE 1) noO (someO (vE 0))) [.vl (.int (0 + (k : Int))), .vl (.lst (ws.map T.str))] = _
    rw [show (0 : Int) + (k : Int) = (k : Int) by omega]
    have e1 : ixT (.lst (ws.map T.str)) (.int k) = .ok (.str ws[k]) := at_lst (by rw [List.getElem?_map, List.getElem?_eq_getElem hk']; rfl)
    have e2 : slE (vE 1) noO (someO (vE 0)) [.vl (.int (k : Int)), .vl (.lst (ws.map T.str))] = slT (.lst (ws.map T.str)) none (some (k : Int)) := rfl
    simp only [cmpT_eq, bin_eq, v1, v0, bOk, e1, e2, cut_take]
    show inC (.str ws[k]) (.lst ((ws.map T.str).take k)) = R.ok (p (.int (k : Int)))
    have e3 : inC (.str ws[k]) (.lst ((ws.map T.str).take k)) = .ok (decide (ws[k] ∈ ws.take k)) := by
      show (match anyF (fun y => eqF 30 y (.str ws[k])) ((ws.map T.str).take k) with | some b => R.ok b | none => .bad) = _
      rw [← List.map_take, any_strs]
    rw [e3]
    show _ = R.ok (match ws[((k : Int)).toNat]? with | some w => decide (w ∈ ws.take ((k : Int)).toNat) | none => false)
    rw [Int.toNat_natCast, List.getElem?_eq_getElem hk']
  refine ⟨((rng 0 ws.length).filter p).map id, ?_, ?_⟩
  · unfold compR
    rw [if_pos hl', key]
    rfl
  · rw [List.map_id, List.isEmpty_iff, List.filter_eq_nil_iff]
    constructor
    · intro H k w e
      have hk : k < ws.length := (List.getElem?_eq_some_iff.mp e).1
      have := H (.int (0 + (k : Int))) (List.mem_map.mpr ⟨k, List.mem_range.mpr hk, rfl⟩)
      rw [show (0 : Int) + (k : Int) = (k : Int) by omega] at this
      have q : p (.int (k : Int)) = decide (w ∈ ws.take k) := by
        show (match ws[((k : Int)).toNat]? with | some w => decide (w ∈ ws.take ((k : Int)).toNat) | none => false) = _
        rw [Int.toNat_natCast, e]
      rw [q] at this
      simpa using this
    · intro H t ht
      unfold rng at ht
      obtain ⟨k, hk, rfl⟩ := List.mem_map.mp ht
      have hk' : k < ws.length := List.mem_range.mp hk
      rw [show (0 : Int) + (k : Int) = (k : Int) by omega]
      have q : p (.int (k : Int)) = decide (ws[k] ∈ ws.take k) := by
        show (match ws[((k : Int)).toNat]? with | some w => decide (w ∈ ws.take ((k : Int)).toNat) | none => false) = _
        rw [Int.toNat_natCast, List.getElem?_eq_getElem hk']
      rw [q]
      simpa using H k ws[k] (List.getElem?_eq_getElem hk')
theorem heads {cs : List T} (h : cs.all isChoice = true) : (cs.filter isChoice).map headT = (cs.map wordOf).map T.str := by
  rw [List.filter_eq_self.mpr (fun c hc => List.all_eq_true.mp h c hc), List.map_map]
  refine List.map_congr_left fun c hc => ?_
  obtain ⟨w, n, rfl⟩ := choice_shape (List.all_eq_true.mp h c hc)
  rfl
theorem filter_full {α : Type} (p : α → Bool) : ∀ xs : List α, ((xs.filter p).length = xs.length) ↔ xs.all p = true
  | [] => by simp
  | x :: xs => by
    have ih := filter_full p xs
    have hl := List.length_filter_le p xs
    cases hp : p x with
    | true => rw [List.filter_cons_of_pos hp, List.all_cons, hp, Bool.true_and, ← ih]; simp
    | false =>
      rw [List.filter_cons_of_neg (by rw [hp]; exact Bool.false_ne_true), List.all_cons, hp, Bool.false_and]
      simp only [List.length_cons]
      constructor
      · intro z; omega
      · intro z; cases z
end G

namespace G
open PySem L2 PV
theorem two_spans (lo hi : Int) (a b : T) : (if inR lo hi a = true then f__law_whole [b, a, .int hi] else R.ok (.bl false)) = .ok (.bl (isSpan lo hi a b)) := by
  cases a with
  | int i =>
    rw [law_whole_eq]
    show (if (decide (lo ≤ i) && decide (i ≤ hi)) = true then R.ok (T.bl (inR i hi b)) else R.ok (T.bl false)) = _
    cases b with
    | int j =>
      show (if (decide (lo ≤ i) && decide (i ≤ hi)) = true then R.ok (T.bl (decide (i ≤ j) && decide (j ≤ hi))) else R.ok (T.bl false)) = R.ok (T.bl (decide (lo ≤ i) && decide (i ≤ j) && decide (j ≤ hi)))
      by_cases h1 : lo ≤ i
      · by_cases h2 : i ≤ hi
        · rw [decide_eq_true h1, decide_eq_true h2]; rfl
        · rw [decide_eq_true h1, decide_eq_false h2]
          show R.ok (T.bl false) = R.ok (T.bl (decide (i ≤ j) && decide (j ≤ hi)))
          by_cases h3 : i ≤ j
          · rw [decide_eq_true h3, decide_eq_false (show ¬ j ≤ hi by omega)]; rfl
          · rw [decide_eq_false h3]; rfl
      · rw [decide_eq_false h1]; rfl
    | _ =>
      show (if (decide (lo ≤ i) && decide (i ≤ hi)) = true then R.ok (T.bl false) else R.ok (T.bl false)) = R.ok (T.bl false)
      cases (decide (lo ≤ i) && decide (i ≤ hi)) <;> rfl
  | _ => cases b <;> rfl
theorem rng_len {xs : List T} (h : xs.length ≤ 4) {a b c d e : Sl} : rng1I (ap1 lenT (vB 5)) [a, b, c, d, e, .vl (.lst xs)] = .ok (rng 0 xs.length) := by
  have e1 : rng1I (ap1 lenT (vB 5)) [a, b, c, d, e, .vl (.lst xs)] = (R.ok (T.int (xs.length : Int))).bind fun t => match t with | .int j => if -1000000 < j ∧ j < 1000000 then .ok (rng 0 j.toNat) else .bad | _ => .bad := rfl
  rw [e1, bOk]
  dsimp only
  rw [if_pos ⟨by omega, by omega⟩, Int.toNat_natCast]
theorem law_pick_part {c : T} (hc : sOk c) {a b d e f : Sl} :
    outR (match (((isiT "tuple" c).bind tru).bind fun x => R.ok (!x)).bind (fun x => if x = true then R.ok true else ((lenT c).bind fun y => (leC (.int 1) y).bind fun k => if k = true then leC y (.int 4) else R.ok false).bind fun x => R.ok (!x)) with
      | .ok k => if k = true then RS.rt (T.bl false) else (retS (andE (cmpE eqC (ap1 lenT (vB 5)) (ap1 lenT (binE ixT (vE 3) (cE (.int 0))))) (cmpE eqC (compE (rng1I (ap1 lenT (vB 5))) (setG 0) (cmpT inC (binE ixT (vE 1) (vE 0)) (slE (vE 1) (noO) (someO (vE 0)))) (vE 0) 1 [5]) (lstE (nilA)))) [a, b, d, .vl (.tup [c]), f, .vl (.lst (match c with | .tup cs => (cs.filter isChoice).map headT | _ => []))])
      | .ex c => .ex c
      | .bad => .bad) = .ok (.bl (isPick c)) := by
  cases c with
  | tup cs =>
    have e1 : (leC (.int 1) (.int (cs.length : Int))).bind (fun k => if k = true then leC (.int (cs.length : Int)) (.int 4) else R.ok false) = .ok (decide (1 ≤ cs.length) && decide (cs.length ≤ 4)) := by
      show (if decide ((1 : Int) ≤ (cs.length : Int)) = true then R.ok (decide ((cs.length : Int) ≤ 4)) else R.ok false) = _
      by_cases h : 1 ≤ cs.length
      · rw [decide_eq_true h, decide_eq_true (show (1 : Int) ≤ (cs.length : Int) by omega)]
        show R.ok (decide ((cs.length : Int) ≤ 4)) = R.ok (decide (cs.length ≤ 4))
        by_cases h4 : cs.length ≤ 4
        · rw [decide_eq_true h4, decide_eq_true (show (cs.length : Int) ≤ 4 by omega)]
        · rw [decide_eq_false h4, decide_eq_false (show ¬ (cs.length : Int) ≤ 4 by omega)]
      · rw [decide_eq_false h, decide_eq_false (show ¬ (1 : Int) ≤ (cs.length : Int) by omega)]; rfl
    simp only [isi_tup, bOk, tru_bl, Bool.not_true, Bool.false_eq_true, if_false, len_t, e1]
    show _ = R.ok (T.bl (decide (1 ≤ cs.length) && decide (cs.length ≤ 4) && cs.all isChoice && decide ((dd [] (cs.map wordOf)).length = cs.length)))
    cases h14 : (decide (1 ≤ cs.length) && decide (cs.length ≤ 4)) with
    | false => rfl
    | true =>
      rw [Bool.and_eq_true, decide_eq_true_eq, decide_eq_true_eq] at h14
      simp only [Bool.not_true, Bool.false_eq_true, if_false, ret_eq, out_rt, frz_v, and_eq, cmpE_eq, ap_eq]
      have ef : frz [a, b, d, .vl (.tup [.tup cs]), f, .vl (.lst ((cs.filter isChoice).map headT))] = [frz1 a, frz1 b, frz1 d, .vl (.tup [.tup cs]), frz1 f, .vl (.lst ((cs.filter isChoice).map headT))] := rfl
      rw [ef]
      simp only [w5, bin_eq, v3, c_eq, bOk, at0, len_l, len_t, eqI, List.length_map, comp_eq]
      rw [len_is, andB_bl]
      by_cases hall : cs.all isChoice = true
      · rw [decide_eq_true ((filter_full isChoice cs).mpr hall), if_pos rfl, hall]
        have hw : (cs.map wordOf).length ≤ 4 := by rw [List.length_map]; exact h14.2
        obtain ⟨r, er, hr⟩ := pick3 hw (a := frz1 a) (b := frz1 b) (c := frz1 d) (d := .vl (.tup [.tup cs])) (e := frz1 f)
        rw [heads hall]
        have ei : rng1I (ap1 lenT (vB 5)) [frz1 a, frz1 b, frz1 d, .vl (.tup [.tup cs]), frz1 f, .vl (.lst ((cs.map wordOf).map T.str))] = .ok (rng 0 (cs.map wordOf).length) := by
          rw [rng_len (by rw [List.length_map]; exact hw), List.length_map]
        rw [ei]
        simp only [bOk, er]
        have el : lstE nilA [frz1 a, frz1 b, frz1 d, .vl (.tup [.tup cs]), frz1 f, .vl (.lst ((cs.map wordOf).map T.str))] = .ok (.lst []) := rfl
        rw [el]
        rw [bOk, eq_nil, bOk]
        rw [Bool.true_and, Bool.true_and]
        refine congrArg (fun z => R.ok (T.bl z)) ?_
        have hdd := dd_full (cs.map wordOf) []
        rw [List.length_nil, Nat.zero_add, List.length_map] at hdd
        simp only [List.nil_append] at hdd
        by_cases hq : (dd [] (cs.map wordOf)).length = cs.length
        · rw [decide_eq_true hq]
          exact hr.mpr (hdd.mp hq)
        · rw [decide_eq_false hq]
          cases hre : r.isEmpty with
          | false => rfl
          | true => exact absurd (hdd.mpr (hr.mp hre)) hq
      · have hn : ¬ (cs.filter isChoice).length = cs.length := fun z => hall ((filter_full isChoice cs).mp z)
        rw [decide_eq_false hn, if_neg Bool.false_ne_true]
        have : cs.all isChoice = false := by simpa using hall
        rw [this]
        rfl
  | _ => rfl
end G

namespace G
open PySem L2 PV
theorem par_eq {i j : Nat} {f f' : En → R T} {ρ : En} : parS i j (consA f (consA f' nilA)) ρ = (f ρ).s fun x => (f' ρ).s fun y => .nx ((ρ.set i (.vl x)).set j (.vl y)) := by
  unfold parS consA nilA
  cases f ρ with
  | ok a => cases f' ρ <;> rfl
  | ex c => rfl
  | bad => rfl
theorem sl_eq {f : En → R T} {l h : En → R (Option Int)} {ρ : En} : slE f l h ρ = (f ρ).bind fun t => (l ρ).bind fun lo => (h ρ).bind fun hi => slT t lo hi := rfl
theorem some_i {i : Int} {ρ : En} : someO (cE (.int i)) ρ = .ok (some i) := rfl
theorem no_o {ρ : En} : noO ρ = .ok none := rfl
theorem isi_str (t : T) : isiT "str" t = .ok (.bl (match t with | .str _ => true | _ => false)) := by cases t <;> rfl
theorem btw {n m : Nat} {M : Int} (hM : M = (m : Int)) : (if decide ((1 : Int) ≤ (n : Int)) = true then R.ok (decide ((n : Int) ≤ M)) else R.ok false) = R.ok (decide (1 ≤ n) && decide (n ≤ m)) := by
  subst hM
  by_cases h : 1 ≤ n
  · rw [decide_eq_true h, decide_eq_true (show (1 : Int) ≤ (n : Int) by omega), if_pos rfl, Bool.true_and]
    by_cases h4 : n ≤ m
    · rw [decide_eq_true h4, decide_eq_true (show (n : Int) ≤ m by omega)]
    · rw [decide_eq_false h4, decide_eq_false (show ¬ (n : Int) ≤ m by omega)]
  · rw [decide_eq_false h, decide_eq_false (show ¬ (1 : Int) ≤ (n : Int) by omega)]; rfl
set_option maxHeartbeats 1000000 in
theorem law_step {n : Nat} {d : Nat} {k : T → Bool} (H0 : ∀ t, sOk t → S__law_is_kind n 0 [t, .int d] = .ok (.bl (k t))) (t : T) (ht : sOk t) :
    S__law_is_kind (n + 1) 0 [t, .int ((d + 1 : Nat) : Int)] = .ok (.bl (kStep k t)) := by
  have e : S__law_is_kind (n + 1) 0 [t, .int ((d + 1 : Nat) : Int)] = outR (b__law_is_kind f__law_whole f__law_is_word (S__law_is_kind n 0) [.vl t, .vl (.int ((d + 1 : Nat) : Int)), .un, .un, .un, .un]) := rfl
  have hL : decide (((d + 1 : Nat) : Int) < 1) = false := decide_eq_false (by omega)
  have hL1 : ((d + 1 : Nat) : Int) - 1 = (d : Int) := by omega
  rw [e, b__law_is_kind]
  simp only [seq_eq, if_eq, or_eq, not_eq, tru_eq, cmpT_eq, w0, w1, v0, c_eq, bOk, ap_eq, isi_tup, tru_bl, bin_eq]
  cases t with
  | tup xs =>
    match xs, ht with
    | [], _ => rfl
    | [h], _ =>
      have : kStep k (.tup [h]) = false := by
        unfold kStep
        simp [kWhole, kPick, kRow, kMany]
      rw [this]
      rfl
    | h :: a :: r, ht =>
      have hs := sOk_tup ht
      have hm : ∀ u ∈ a :: r, sOk u := fun u hu => sOks_mem hs (List.mem_cons_of_mem _ hu)
      have z0 : decide (((h :: a :: r).length : Int) < 2) = false := decide_eq_false (by simp only [List.length_cons]; omega)
      simp only [Bool.not_true, Bool.false_eq_true, if_false, len_t, ltI, z0, bOk, at0, isi_str, tru_bl, hL]
      cases h with
      | str s =>
        simp only [Bool.not_true, Bool.false_eq_true, if_false, sOkR, bOk, hL, par_eq, bin_eq, v0, c_eq, at0, sl_eq, some_i, no_o, cut1, nxS]
        have hset : (([Sl.vl (T.tup (T.str s :: a :: r)), Sl.vl (.int ((d + 1 : Nat) : Int)), .un, .un, .un, .un] : En).set 2 (.vl (.str s))).set 3 (.vl (.tup (a :: r))) = [Sl.vl (T.tup (T.str s :: a :: r)), Sl.vl (.int ((d + 1 : Nat) : Int)), .vl (.str s), .vl (.tup (a :: r)), .un, .un] := rfl
        simp only [hset, w2, c_eq, bOk, eqS, neS, sOkR]
        have l2 : (((a :: r).length : Int) == 2) = decide ((a :: r).length = 2) := len_is (a :: r) 2
        have l1 : (((a :: r).length : Int) == 1) = decide ((a :: r).length = 1) := len_is (a :: r) 1
        have l3 : (((a :: r).length : Int) == 3) = decide ((a :: r).length = 3) := len_is (a :: r) 3
        show _ = R.ok (T.bl (if isS "whole" (.str s) = true then kWhole (a :: r) else if isS "pick" (.str s) = true then kPick (a :: r) else if isS "row" (.str s) = true then kRow k (a :: r) else if isS "many" (.str s) = true then kMany k (a :: r) else false))
        cases hw : isS "whole" (.str s) with
        | true =>
          simp only [if_true, ret_eq, frz_v, frz_u, frz_n, and_eq, cmpE_eq, ap_eq, w3, v3, bOk, len_t, c_eq, eqI, l2, andB_bl, call3, bin_eq, neg_eq]
          match r, hm with
          | [], _ => rfl
          | _ :: _ :: _, _ => simp [kWhole, sOkR, outR]
          | [b], _ =>
            simp only [at0, at1, bOk, law_whole_eq, andB_bl]
            rw [two_spans]
            rfl
        | false =>
          simp only [Bool.false_eq_true, if_false, w2, w3, v3, bOk, sOkR, len_t, neI, l1]
          cases hp : isS "pick" (.str s) with
          | true =>
            simp only [if_true]
            match r, hm with
            | _ :: _, _ => simp [kPick, sOkR, outR, c_eq]; rfl
            | [], hm =>
              simp only [List.length_cons, List.length_nil, decide_true, Bool.not_true, Bool.false_eq_true, if_false, at0, bOk]
              cases a with
              | tup cs =>
                have hc : sOk (.tup cs) := hm _ (by simp)
                have P := law_pick_part hc (a := .vl (.tup [.str s, .tup cs])) (b := .vl (.int ((d + 1 : Nat) : Int))) (d := .vl (.str s)) (e := .un) (f := .vl (.lst (cs.filter isT2)))
                simp only [isi_tup, bOk, tru_bl, Bool.not_true, Bool.false_eq_true, if_false, chT_eq, ap_eq, bin_eq, v3, c_eq, at0, len_t, le_ii, btw (m := 4) (M := 4) rfl] at P ⊢
                cases h14 : (decide (1 ≤ cs.length) && decide (cs.length ≤ 4)) with
                | false =>
                  rw [h14] at P
                  exact P
                | true =>
                  rw [h14] at P
                  have h4 : cs.length ≤ 4 := by
                    rw [Bool.and_eq_true, decide_eq_true_eq, decide_eq_true_eq] at h14
                    exact h14.2
                  simp only [Bool.not_true, Bool.false_eq_true, if_false, sOkR] at P ⊢
                  have s4 : ∀ (x0 x1 x2 : Sl), setS 4 (compE (anyI (binE ixT (vE 3) (cE (T.int 0)))) (setG 0) (andT (truT (ap1 (isiT "tuple") (vB 0))) (cmpT eqC (ap1 lenT (vB 0)) (cE (T.int 2)))) (vE 0) 1 []) [x0, x1, x2, .vl (.tup [.tup cs]), .un, .un] = .nx [x0, x1, x2, .vl (.tup [.tup cs]), .vl (.lst (cs.filter isT2)), .un] := by
                    intro x0 x1 x2
                    simp only [set_eq, comp_eq, any_eq, bin_eq, v3, c_eq, bOk, at0]
                    show ((compR (setG 0) _ _ 1 [] _ cs).bind fun vs => R.ok (T.lst vs)).s _ = _
                    rw [pick1 h4]
                    rfl
                  have s5 : ∀ (x0 x1 x2 : Sl), setS 5 (compE (anyI (vE 4)) (setG 0) (andT (truT (callE 1 f__law_is_word (consA (binE ixT (vE 0) (cE (T.int 0))) nilA))) (truT (callE 3 f__law_whole (consA (binE ixT (vE 0) (cE (T.int 1))) (consA (cE (T.int 1)) (consA (cE (T.int 20)) nilA)))))) (binE ixT (vE 0) (cE (T.int 0))) 1 []) [x0, x1, x2, .vl (.tup [.tup cs]), .vl (.lst (cs.filter isT2)), .un] = .nx [x0, x1, x2, .vl (.tup [.tup cs]), .vl (.lst (cs.filter isT2)), .vl (.lst ((cs.filter isChoice).map headT))] := by
                    intro x0 x1 x2
                    simp only [set_eq, comp_eq, any_eq, v4, bOk]
                    show ((compR (setG 0) _ _ 1 [] _ (cs.filter isT2)).bind fun vs => R.ok (T.lst vs)).s _ = _
                    rw [pick2 (fun c hc' => sOks_mem (sOk_tup hc) hc') h4]
                    rfl
                  simp only [s4, s5]
                  revert P
                  simp only [ret_eq]
                  generalize andE _ _ _ = z
                  intro P
                  cases z with
                  | ok t => exact P
                  | ex c => exact P
                  | bad => exact P
              | _ => rfl
          | false =>
            simp only [Bool.false_eq_true, if_false, w2, w3, v3, bOk, sOkR, len_t, neI, l1]
            cases hr : isS "row" (.str s) with
            | true =>
              simp only [if_true]
              match r, hm with
              | _ :: _, _ => simp [kRow, sOkR, outR, c_eq]; rfl
              | [], hm =>
                simp only [List.length_cons, List.length_nil, decide_true, Bool.not_true, Bool.false_eq_true, if_false, at0, bOk]
                cases a with
                | tup cs =>
                  have hc : sOk (.tup cs) := hm _ (by simp)
                  simp only [isi_tup, bOk, tru_bl, Bool.not_true, Bool.false_eq_true, if_false, chT_eq, ap_eq, bin_eq, v3, c_eq, at0, len_t, le_ii, btw (m := 3) (M := 3) rfl]
                  show _ = R.ok (T.bl (decide (1 ≤ cs.length) && decide (cs.length ≤ 3) && cs.all k))
                  cases h14 : (decide (1 ≤ cs.length) && decide (cs.length ≤ 3)) with
                  | false => rfl
                  | true =>
                    have h4 : cs.length ≤ 3 := by
                      rw [Bool.and_eq_true, decide_eq_true_eq, decide_eq_true_eq] at h14
                      exact h14.2
                    simp only [Bool.not_true, Bool.false_eq_true, if_false, sOkR, ret_eq, frz_v, frz_u, frz_n, cmpE_eq, comp_eq, any_eq, bin_eq, v3, c_eq, bOk, at0, Bool.true_and]
                    have ia : itemsA (.tup cs) = .ok cs := rfl
                    simp only [ia, bOk, law_row H0 (fun u hu => sOks_mem (sOk_tup hc) hu) h4 (x := .vl (.tup [.str s, .tup cs])) (y := .un) (z := .un) hL1]
                    have el : ∀ ρ, lstE nilA ρ = .ok (.lst []) := fun _ => rfl
                    simp only [el, bOk, eq_nil, filter_empty, sOkR, outR]
                | _ => rfl
            | false =>
              simp only [Bool.false_eq_true, if_false, w2, w3, v3, bOk, sOkR, len_t, neI, l3]
              cases hy : isS "many" (.str s) with
              | true =>
                simp only [Bool.not_true, Bool.false_eq_true, if_false, bOk]
                match r, hm with
                | [], _ => rfl
                | [_], _ => rfl
                | _ :: _ :: _ :: _, _ => simp [kMany, sOkR, outR, c_eq]; rfl
                | [b, c], hm =>
                  simp only [call3, call2, bin_eq, v3, c_eq, bOk, at0, at1, at2, law_whole_eq, tru_bl]
                  have S := two_spans 0 3 b c
                  show _ = R.ok (T.bl (isSpan 0 3 b c && k a))
                  cases hb : inR 0 3 b with
                  | false =>
                    rw [hb] at S
                    injection S with S
                    injection S with S
                    rw [← S]
                    rfl
                  | true =>
                    rw [hb, if_pos rfl] at S
                    simp only [S, bOk, tru_bl]
                    cases isSpan 0 3 b c with
                    | false => rfl
                    | true =>
                      have hk := H0 a (hm a (by simp))
                      simp only [ret_eq, frz_v, frz_u, frz_n, v1, v3, sub_ii, bOk, at0, hL1, hk, Bool.not_true, Bool.false_eq_true, if_false, sOkR, outR, List.length_cons, List.length_nil, decide_true, Bool.true_and, call2, bin_eq, c_eq]
              | false => rfl
      | _ => rfl
  | _ => rfl
theorem law_step0 {n : Nat} (t : T) : S__law_is_kind (n + 1) 0 [t, .int 0] = .ok (.bl false) := by
  have e : S__law_is_kind (n + 1) 0 [t, .int 0] = outR (b__law_is_kind f__law_whole f__law_is_word (S__law_is_kind n 0) [.vl t, .vl (.int 0), .un, .un, .un, .un]) := rfl
  rw [e, b__law_is_kind]
  simp only [seq_eq, if_eq, or_eq, not_eq, tru_eq, cmpT_eq, w0, w1, v0, c_eq, bOk, ap_eq, isi_tup, tru_bl, bin_eq]
  cases t with
  | tup xs =>
    match xs with
    | [] => rfl
    | [h] => rfl
    | h :: a :: r =>
      have z0 : decide (((h :: a :: r).length : Int) < 2) = false := decide_eq_false (by simp only [List.length_cons]; omega)
      have hL : decide ((0 : Int) < 1) = true := rfl
      simp only [Bool.not_true, Bool.false_eq_true, if_false, len_t, ltI, z0, bOk, at0, isi_str, tru_bl, hL]
      cases h <;> rfl
  | _ => rfl
theorem law_kind_eq : ∀ (d n : Nat), d + 1 ≤ n → ∀ t, sOk t → S__law_is_kind n 0 [t, .int d] = .ok (.bl (isK d t))
  | 0, n + 1, _, t, _ => law_step0 t
  | d + 1, n + 1, h, t, ht => law_step (fun t ht => law_kind_eq d n (by omega) t ht) t ht
theorem law_is_kind_eq (t : T) (ht : sOk t) : f__law_is_kind 12 [t, .int 3] = .ok (.bl (isK 3 t)) := law_kind_eq 3 12 (by omega) t ht
end G

namespace G
open PySem L2 PV
theorem gtI (i j : Int) : gtC (.int i) (.int j) = .ok (decide (i > j)) := rfl
theorem add_ii (i j : Int) : addT (.int i) (.int j) = .ok (.int (i + j)) := rfl
theorem abc_at (p : Int) (h0 : 0 ≤ p) (h1 : p < 26) : ixT (.str "abcdefghijklmnopqrstuvwxyz") (.int p) = .ok (.str ⟨#[97 + p.toNat]⟩) := by
  have h : p = 0 ∨ p = 1 ∨ p = 2 ∨ p = 3 ∨ p = 4 ∨ p = 5 ∨ p = 6 ∨ p = 7 ∨ p = 8 ∨ p = 9 ∨ p = 10 ∨ p = 11 ∨ p = 12 ∨ p = 13 ∨ p = 14 ∨ p = 15 ∨ p = 16 ∨ p = 17 ∨ p = 18 ∨ p = 19 ∨ p = 20 ∨ p = 21 ∨ p = 22 ∨ p = 23 ∨ p = 24 ∨ p = 25 := by omega
  rcases h with rfl|rfl|rfl|rfl|rfl|rfl|rfl|rfl|rfl|rfl|rfl|rfl|rfl|rfl|rfl|rfl|rfl|rfl|rfl|rfl|rfl|rfl|rfl|rfl|rfl|rfl <;> rfl
abbrev letE : En → R T := binE ixT (vE 3) (callE 3 f__law_pick (consA (vE 1) (consA (binE addT (binE addT (vE 2) (cE (.int 2))) (vE 0)) (consA (cE (.int 26)) (nilA)))))
theorem let_ok (ns : List Int) (k : Int) (h0 : 0 ≤ k) (j : Nat) : ∃ c : Nat, (97 ≤ c ∧ c ≤ 122) ∧ letE [.vl (.int (j : Int)), .vl (scr ns), .vl (.int k), .vl (.str "abcdefghijklmnopqrstuvwxyz")] = .ok (.str ⟨#[c]⟩) := by
  obtain ⟨p, e, p0, p1⟩ := pick_ok ns (k + 2 + j) 26 (by omega) (by omega)
  refine ⟨97 + p.toNat, ⟨by omega, by omega⟩, ?_⟩
  simp only [letE, bin_eq, v3, bOk, call3, v1, v2, v0, c_eq, add_ii, e]
  exact abc_at p p0 p1
theorem word_of_ok (ns : List Int) (k : Int) (h0 : 0 ≤ k) : ∃ w : Str, f__law_word_of [scr ns, .int k] = .ok (.str w) ∧ isWord (.str w) = true := by
  have e : f__law_word_of [scr ns, .int k] = outR (b__law_word_of f__law_pick [.vl (scr ns), .vl (.int k), .un]) := rfl
  obtain ⟨p, e0, p0, p1⟩ := pick_ok ns k 6 h0 (by omega)
  have hset : ∀ t, ([Sl.vl (scr ns), Sl.vl (.int k), .un] : En).set 2 (.vl t) = [Sl.vl (scr ns), Sl.vl (.int k), .vl t] := fun _ => rfl
  rw [e, b__law_word_of]
  simp only [seq_eq, if_eq, set_eq, c_eq, sOkR, hset, cmpT_eq, call3, v0, v1, bOk, e0, gtI]
  cases hp : decide (p > 0) with
  | true =>
    obtain ⟨q, e1, q0, q1⟩ := pick_ok ns (k + 1) 4 (by omega) (by omega)
    simp only [if_true, ret_eq, frz_v, frz_n, bin_eq, call3, v0, v1, c_eq, bOk, add_ii, e1]
    have hq : q = 0 ∨ q = 1 ∨ q = 2 ∨ q = 3 := by omega
    rcases hq with rfl | rfl | rfl | rfl
    · exact ⟨"a", rfl, by decide⟩
    · exact ⟨"b", rfl, by decide⟩
    · exact ⟨"ab", rfl, by decide⟩
    · exact ⟨"cab", rfl, by decide⟩
  | false =>
    obtain ⟨q, e1, q0, q1⟩ := pick_ok ns (k + 1) 3 (by omega) (by omega)
    simp only [Bool.false_eq_true, if_false, nxS, ret_eq, out_rt, frz_v, frz_n, ap_eq, comp_eq]
    obtain ⟨g, hg⟩ := Classical.skolem.mp (let_ok ns k h0)
    have ei : rng1I (binE addT (cE (.int 1)) (callE 3 f__law_pick (consA (vE 0) (consA (binE addT (vE 1) (cE (.int 1))) (consA (cE (.int 3)) (nilA)))))) [Sl.vl (scr ns), Sl.vl (.int k), .vl (.str "abcdefghijklmnopqrstuvwxyz")] = .ok (rng 0 (1 + q).toNat) := by
      unfold rng1I
      simp only [bin_eq, call3, v0, v1, c_eq, bOk, add_ii, e1]
      rw [if_pos ⟨by omega, by omega⟩]
    have ec : ∀ n : Nat, n ≤ 3 → compR (setG 0) noIf letE 1 [0, 1, 2] [Sl.vl (scr ns), Sl.vl (.int k), .vl (.str "abcdefghijklmnopqrstuvwxyz")] (rng 0 n) = .ok ((rng 0 n).map fun t => match t with | .int j => .str ⟨#[g j.toNat]⟩ | t => t) := fun n hn =>
      compR_map (rng 0 n) (by unfold rng; rw [List.length_map, List.length_range]; exact Nat.le_trans hn (by decide)) fun t ht => by
        unfold rng at ht
        obtain ⟨j, _, rfl⟩ := List.mem_map.mp ht
        show letE [.vl (.int (0 + (j : Int))), .vl (scr ns), .vl (.int k), .vl (.str "abcdefghijklmnopqrstuvwxyz")] = .ok (.str ⟨#[g (0 + (j : Int)).toNat]⟩)
        rw [Int.zero_add, Int.toNat_natCast]
        exact (hg j).2
    rw [ei, bOk, ec _ (by omega), bOk, bOk]
    have hw : ∀ j, letter (g j) = true := fun j => by
      obtain ⟨a, b⟩ := (hg j).1
      unfold letter
      rw [decide_eq_true a, decide_eq_true b]; rfl
    have hq : q = 0 ∨ q = 1 ∨ q = 2 := by omega
    rcases hq with rfl | rfl | rfl
    · refine ⟨⟨#[g 0]⟩, rfl, ?_⟩
      show (letter (g 0) && true) = true
      rw [hw 0]; rfl
    · refine ⟨⟨#[g 0, g 1]⟩, rfl, ?_⟩
      show (letter (g 0) && (letter (g 1) && true)) = true
      rw [hw 0, hw 1]; rfl
    · refine ⟨⟨#[g 0, g 1, g 2]⟩, rfl, ?_⟩
      show (letter (g 0) && (letter (g 1) && (letter (g 2) && true))) = true
      rw [hw 0, hw 1, hw 2]; rfl
end G

namespace G
open PySem L2 PV
theorem mul_5 (j : Int) : mulT (.int 5) (.int j) = .ok (.int (5 * j)) := by
  show (if CMul 5 j then R.ok (T.int (5 * j)) else .bad) = _
  rw [if_pos (.inl ⟨by decide, by decide⟩)]
theorem tup2 {f g : En → R T} {ρ : En} {x y : T} (hf : f ρ = .ok x) (hg : g ρ = .ok y) : tupE (consA f (consA g nilA)) ρ = .ok (.tup [x, y]) := by
  unfold tupE consA nilA
  rw [hf, hg]; rfl
theorem tup3 {f g h : En → R T} {ρ : En} {x y z : T} (hf : f ρ = .ok x) (hg : g ρ = .ok y) (hh : h ρ = .ok z) : tupE (consA f (consA g (consA h nilA))) ρ = .ok (.tup [x, y, z]) := by
  unfold tupE consA nilA
  rw [hf, hg, hh]; rfl
theorem tup4 {f g h i : En → R T} {ρ : En} {x y z w : T} (hf : f ρ = .ok x) (hg : g ρ = .ok y) (hh : h ρ = .ok z) (hi : i ρ = .ok w) : tupE (consA f (consA g (consA h (consA i nilA)))) ρ = .ok (.tup [x, y, z, w]) := by
  unfold tupE consA nilA
  rw [hf, hg, hh, hi]; rfl
/-- no word twice -/
def Dst (ws : List Str) : Prop := ∀ (k : Nat) (w : Str), ws[k]? = some w → w ∉ ws.take k
theorem Dst.add {ws : List Str} (h : Dst ws) {w : Str} (hw : w ∉ ws) : Dst (ws ++ [w]) := fun k x hx => by
  by_cases hk : k < ws.length
  · rw [List.getElem?_append_left hk] at hx
    rw [List.take_append_of_le_length (by omega)]
    exact h k x hx
  · rw [List.getElem?_append_right (by omega)] at hx
    have hk' : k = ws.length := by
      rcases Nat.lt_or_ge (k - ws.length) 1 with z | z
      · omega
      · rw [List.getElem?_eq_none (by simpa using z)] at hx; cases hx
    subst hk'
    rw [Nat.sub_self] at hx
    cases hx
    rw [List.take_left']
    · exact hw
    · rfl
abbrev leafB : En → RS := seqS (setS 5 (callE 2 f__law_word_of (consA (vE 0) (consA (binE addT (binE addT (vE 1) (cE (.int 5))) (binE mulT (cE (.int 5)) (vE 4))) (nilA)))))
    (ifS (cmpT ninC (vB 5) (vB 3)) (appS 3 (vE 5)) (nxS))
theorem leaf_loop (ns : List Int) (k : Int) (h0 : 0 ≤ k) : ∀ (js : List Nat) (ws : List Str) (x4 x5 : Sl), js.length + ws.length ≤ 4 → Dst ws → (∀ w ∈ ws, isWord (.str w) = true) →
    ∃ ws' y4 y5, forL (setG 4) leafB (js.map fun (j : Nat) => T.int (0 + (j : Int))) [.vl (scr ns), .vl (.int k), .un, .ow (ws.map T.str), x4, x5] = .nx [.vl (scr ns), .vl (.int k), .un, .ow (ws'.map T.str), y4, y5] ∧ ws'.length ≤ 4 ∧ Dst ws' ∧ (∀ w ∈ ws', isWord (.str w) = true) ∧ (0 < js.length + ws.length → 0 < ws'.length)
  | [], ws, x4, x5, hl, hd, hw => ⟨ws, x4, x5, rfl, by simpa using hl, hd, hw, fun h => by simpa using h⟩
  | j :: js, ws, x4, x5, hl, hd, hw => by
    obtain ⟨w, ew, hw'⟩ := word_of_ok ns (k + 5 + 5 * (0 + (j : Int))) (by omega)
    have hl' : js.length + ws.length + 1 ≤ 4 := by simpa [List.length_cons, Nat.add_right_comm] using hl
    have e : forL (setG 4) leafB ((j :: js).map fun (j : Nat) => T.int (0 + (j : Int))) [.vl (scr ns), .vl (.int k), .un, .ow (ws.map T.str), x4, x5] = match leafB [.vl (scr ns), .vl (.int k), .un, .ow (ws.map T.str), .vl (.int (0 + (j : Int))), x5] with
      | .nx ρ2 => forL (setG 4) leafB (js.map fun (j : Nat) => T.int (0 + (j : Int))) ρ2
      | .ct ρ2 => forL (setG 4) leafB (js.map fun (j : Nat) => T.int (0 + (j : Int))) ρ2
      | .bk ρ2 => .nx ρ2
      | r => r := rfl
    have eb : leafB [.vl (scr ns), .vl (.int k), .un, .ow (ws.map T.str), .vl (.int (0 + (j : Int))), x5] = .nx [.vl (scr ns), .vl (.int k), .un, .ow ((if w ∈ ws then ws else ws ++ [w]).map T.str), .vl (.int (0 + (j : Int))), .vl (.str w)] := by
      have w3o : ∀ (a b c : Sl) (ts : List T) (ρ : En), vB 3 (a :: b :: c :: .ow ts :: ρ) = .ok (.lst ts) := fun _ _ _ _ _ => rfl
      have hset : ∀ t, ([.vl (scr ns), .vl (.int k), .un, .ow (ws.map T.str), .vl (.int (0 + (j : Int))), x5] : En).set 5 (.vl t) = [.vl (scr ns), .vl (.int k), .un, .ow (ws.map T.str), .vl (.int (0 + (j : Int))), .vl t] := fun _ => rfl
      have en : ninC (.str w) (.lst (ws.map T.str)) = .ok (!decide (w ∈ ws)) := by
        show ((match anyF (fun y => eqF 30 y (.str w)) (ws.map T.str) with | some b => R.ok b | none => .bad)).bind (fun b => R.ok (!b)) = _
        rw [any_strs]; rfl
      simp only [leafB, seq_eq, set_eq, call2, v0, v1, v4, bin_eq, c_eq, bOk, add_ii, mul_5, ew, sOkR, hset, if_eq, cmpT_eq, w5, w3o, en]
      by_cases hm : w ∈ ws
      · rw [decide_eq_true hm, if_pos hm]; rfl
      · rw [decide_eq_false hm, if_neg hm]
        have hb : (ws.map T.str).length < bnd := by rw [List.length_map]; exact Nat.lt_of_le_of_lt (show ws.length ≤ 4 by omega) (by decide)
        show (if (ws.map T.str).length < bnd then RS.nx _ else .bad) = _
        rw [if_pos hb, List.map_append]
        rfl
    rw [e, eb]
    by_cases hm : w ∈ ws
    · rw [if_pos hm]
      obtain ⟨ws', y4, y5, r1, r2, r3, r4, r5⟩ := leaf_loop ns k h0 js ws (.vl (.int (0 + (j : Int)))) (.vl (.str w)) (by omega) hd hw
      exact ⟨ws', y4, y5, r1, r2, r3, r4, fun _ => r5 (by have := List.length_pos_of_mem hm; omega)⟩
    · rw [if_neg hm]
      obtain ⟨ws', y4, y5, r1, r2, r3, r4, r5⟩ := leaf_loop ns k h0 js (ws ++ [w]) (.vl (.int (0 + (j : Int)))) (.vl (.str w)) (by simp only [List.length_append, List.length_cons, List.length_nil]; omega) (hd.add hm) (fun x hx => by
        rcases List.mem_append.mp hx with z | z
        · exact hw x z
        · rw [List.mem_singleton.mp z]; exact hw')
      exact ⟨ws', y4, y5, r1, r2, r3, r4, fun _ => r5 (by simp only [List.length_append, List.length_cons, List.length_nil]; omega)⟩
abbrev chcE : En → R T := tupE (consA (vE 1) (consA (binE addT (cE (.int 1)) (callE 3 f__law_pick (consA (vE 2) (consA (binE addT (binE addT (vE 3) (cE (.int 30))) (vE 0)) (consA (cE (.int 20)) (nilA)))))) (nilA)))
theorem chc_comp (ns : List Int) (k : Int) (h0 : 0 ≤ k) : ∀ (ws : List Str) (i : Nat) (x0 x1 : Sl), (∀ w ∈ ws, isWord (.str w) = true) → ∃ cs : List T, compL (pairG 0 1) noIf chcE (((ws.map T.str).zipIdx i).map fun p => T.tup [.int (p.2 : Nat), p.1]) [x0, x1, .vl (scr ns), .vl (.int k)] = .ok cs ∧ cs.all isChoice = true ∧ cs.map wordOf = ws
  | [], i, x0, x1, _ => ⟨[], rfl, rfl, rfl⟩
  | w :: ws, i, x0, x1, hw => by
    obtain ⟨p, e, p0, p1⟩ := pick_ok ns (k + 30 + i) 20 (by omega) (by omega)
    obtain ⟨cs, r1, r2, r3⟩ := chc_comp ns k h0 ws (i + 1) (.vl (.int (i : Int))) (.vl (.str w)) fun x hx => hw x (List.mem_cons_of_mem _ hx)
    have ec : chcE [.vl (.int (i : Int)), .vl (.str w), .vl (scr ns), .vl (.int k)] = .ok (.tup [.str w, .int (1 + p)]) := by
      have ea : callE 3 f__law_pick (consA (vE 2) (consA (binE addT (binE addT (vE 3) (cE (.int 30))) (vE 0)) (consA (cE (.int 20)) (nilA)))) [.vl (.int (i : Int)), .vl (.str w), .vl (scr ns), .vl (.int k)] = .ok (.int p) := by
        simp only [call3, v2, v3, v0, bin_eq, c_eq, bOk, add_ii, e]
      have eb : binE addT (cE (.int 1)) (callE 3 f__law_pick (consA (vE 2) (consA (binE addT (binE addT (vE 3) (cE (.int 30))) (vE 0)) (consA (cE (.int 20)) (nilA))))) [.vl (.int (i : Int)), .vl (.str w), .vl (scr ns), .vl (.int k)] = .ok (.int (1 + p)) := by
        rw [bin_eq, ea]; rfl
      exact tup2 v1 eb
    refine ⟨.tup [.str w, .int (1 + p)] :: cs, ?_, ?_, ?_⟩
    · show ((chcE [.vl (.int (i : Int)), .vl (.str w), .vl (scr ns), .vl (.int k)]).bind fun v => (compL (pairG 0 1) noIf chcE (((ws.map T.str).zipIdx (i + 1)).map fun p => T.tup [.int (p.2 : Nat), p.1]) [.vl (.int (i : Int)), .vl (.str w), .vl (scr ns), .vl (.int k)]).bind fun vs => R.ok (v :: vs)) = _
      rw [ec, r1]; rfl
    · rw [List.all_cons, r2, Bool.and_true]
      show (isWord (.str w) && decide (1 ≤ 1 + p) && decide (1 + p ≤ 20)) = true
      rw [hw w List.mem_cons_self, decide_eq_true (by omega), decide_eq_true (by omega)]; rfl
    · rw [List.map_cons, r3]; rfl
end G

namespace G
open PySem L2 PV
theorem min_ii (i j : Int) : min2T (.int i) (.int j) = .ok (.int (if j < i then j else i)) := rfl
theorem leaf_ok (ns : List Int) (k : Int) (h0 : 0 ≤ k) : ∃ t, f__law_leaf_kind [scr ns, .int k] = .ok t ∧ ∀ d, isK (d + 1) t = true := by
  have e : f__law_leaf_kind [scr ns, .int k] = outR (b__law_leaf_kind f__law_pick f__law_word_of [.vl (scr ns), .vl (.int k), .un, .un, .un, .un]) := rfl
  obtain ⟨p, e0, p0, p1⟩ := pick_ok ns k 3 h0 (by omega)
  rw [e, b__law_leaf_kind, seq_eq]
  simp only [if_eq, cmpT_eq, call3, v0, v1, c_eq, bOk, e0, gtI, sOkR]
  cases hp : decide (p > 0) with
  | true =>
    obtain ⟨q, e1, q0, q1⟩ := pick_ok ns (k + 1) 7 (by omega) (by omega)
    obtain ⟨q3, e3, _, _⟩ := pick_ok ns (k + 3) 8 (by omega) (by omega)
    obtain ⟨q4, e4, a4, b4⟩ := pick_ok ns (k + 4) 3 (by omega) (by omega)
    obtain ⟨q2, e2, a2, b2⟩ := pick_ok ns (k + 2) 4 (by omega) (by omega)
    have hset : ∀ t x, ([.vl (scr ns), .vl (.int k), x, .un, .un, .un] : En).set 2 (.vl t) = [.vl (scr ns), .vl (.int k), .vl t, .un, .un, .un] := fun _ _ => rfl
    have fin : ∀ low : Int, -20 ≤ low → low ≤ 20 → ∃ t, outR (retS (tupE (consA (cE (.str "whole")) (consA (vE 2) (consA (binE min2T (cE (.int 20)) (binE addT (vE 2) (callE 3 f__law_pick (consA (vE 0) (consA (binE addT (vE 1) (cE (.int 2))) (consA (cE (.int 4)) (nilA))))))) (nilA))))) [.vl (scr ns), .vl (.int k), .vl (.int low), .un, .un, .un]) = .ok t ∧ ∀ d, isK (d + 1) t = true := by
      intro low hl1 hl2
      refine ⟨.tup [.str "whole", .int low, .int (if low + q2 < 20 then low + q2 else 20)], ?_, fun d => ?_⟩
      · rw [ret_eq, out_rt]
        refine tup3 rfl rfl ?_
        simp only [frz_v, frz_u, frz_n, bin_eq, v2, v0, v1, call3, c_eq, bOk, add_ii, e2, min_ii]
      · show (decide (-20 ≤ low) && decide (low ≤ _) && decide (_ ≤ (20 : Int))) = true
        rw [decide_eq_true hl1, decide_eq_true (by split <;> omega), decide_eq_true (by split <;> omega)]; rfl
    simp only [if_true, seq_eq, set_eq, if_eq, bin_eq, call3, v0, v1, c_eq, bOk, add_ii, e1, sub_ii, sOkR, hset, cmpT_eq, e3, eqI]
    cases hq : (q3 == 0) with
    | true =>
      have h3 : q4 = 0 ∨ q4 = 1 ∨ q4 = 2 := by omega
      rcases h3 with rfl | rfl | rfl
      · obtain ⟨t, r, s⟩ := fin (-20) (by omega) (by omega)
        refine ⟨t, ?_, s⟩
        rw [← r]
        simp only [if_true, e4, bOk]
        have hv : ∀ ρ, (lstE (consA (negE (cE (.int 20))) (consA (cE (.int 17)) (consA (cE (.int 20)) (nilA)))) ρ) = .ok (.lst [.int (-20), .int 17, .int 20]) := fun _ => rfl
        simp only [hv, bOk]
        have hx : ixT (.lst [.int (-20), .int 17, .int 20]) (.int 0) = .ok (.int (-20)) := rfl
        simp only [hx, sOkR, hset, ret_eq]
        generalize tupE _ _ = z
        cases z <;> rfl
      · obtain ⟨t, r, s⟩ := fin (17) (by omega) (by omega)
        refine ⟨t, ?_, s⟩
        rw [← r]
        simp only [if_true, e4, bOk]
        have hv : ∀ ρ, (lstE (consA (negE (cE (.int 20))) (consA (cE (.int 17)) (consA (cE (.int 20)) (nilA)))) ρ) = .ok (.lst [.int (-20), .int 17, .int 20]) := fun _ => rfl
        simp only [hv, bOk]
        have hx : ixT (.lst [.int (-20), .int 17, .int 20]) (.int 1) = .ok (.int (17)) := rfl
        simp only [hx, sOkR, hset, ret_eq]
        generalize tupE _ _ = z
        cases z <;> rfl
      · obtain ⟨t, r, s⟩ := fin (20) (by omega) (by omega)
        refine ⟨t, ?_, s⟩
        rw [← r]
        simp only [if_true, e4, bOk]
        have hv : ∀ ρ, (lstE (consA (negE (cE (.int 20))) (consA (cE (.int 17)) (consA (cE (.int 20)) (nilA)))) ρ) = .ok (.lst [.int (-20), .int 17, .int 20]) := fun _ => rfl
        simp only [hv, bOk]
        have hx : ixT (.lst [.int (-20), .int 17, .int 20]) (.int 2) = .ok (.int (20)) := rfl
        simp only [hx, sOkR, hset, ret_eq]
        generalize tupE _ _ = z
        cases z <;> rfl
    | false =>
      obtain ⟨t, r, s⟩ := fin (q - 3) (by omega) (by omega)
      refine ⟨t, ?_, s⟩
      rw [← r]
      simp only [Bool.false_eq_true, if_false, nxS, ret_eq]
      generalize tupE _ _ = z
      cases z <;> rfl
  | false =>
    obtain ⟨q, e1, q0, q1⟩ := pick_ok ns (k + 1) 4 (by omega) (by omega)
    simp only [Bool.false_eq_true, if_false, nxS, seq_eq]
    have ei : rng1I (binE addT (cE (.int 1)) (callE 3 f__law_pick (consA (vE 0) (consA (binE addT (vE 1) (cE (.int 1))) (consA (cE (.int 4)) (nilA)))))) [.vl (scr ns), .vl (.int k), .un, .ow [], .un, .un] = .ok (rng 0 (1 + q).toNat) := by
      unfold rng1I
      simp only [bin_eq, call3, v0, v1, c_eq, bOk, add_ii, e1]
      rw [if_pos ⟨by omega, by omega⟩]
    have el : setL 3 nilA [.vl (scr ns), .vl (.int k), .un, .un, .un, .un] = .nx [.vl (scr ns), .vl (.int k), .un, .ow [], .un, .un] := rfl
    rw [el]
    have hn : (List.range (1 + q).toNat).length = (1 + q).toNat := List.length_range
    obtain ⟨ws, y4, y5, r1, r2, r3, r4, r5⟩ := leaf_loop ns k h0 (List.range (1 + q).toNat) [] .un .un (by rw [hn, List.length_nil]; omega) (fun k w h => by cases h) (fun w h => by cases h)
    have hpos : 0 < ws.length := r5 (by rw [hn, List.length_nil]; omega)
    have ef : forS (rng1I (binE addT (cE (.int 1)) (callE 3 f__law_pick (consA (vE 0) (consA (binE addT (vE 1) (cE (.int 1))) (consA (cE (.int 4)) (nilA))))))) (setG 4) leafB [.vl (scr ns), .vl (.int k), .un, .ow [], .un, .un] = .nx [.vl (scr ns), .vl (.int k), .un, .ow (ws.map T.str), y4, y5] := by
      unfold forS
      rw [ei, sOkR]
      exact r1
    obtain ⟨cs, s1, s2, s3⟩ := chc_comp ns k h0 ws 0 .un .un r4
    have hcl : cs.length = ws.length := by rw [← s3, List.length_map]
    refine ⟨.tup [.str "pick", .tup cs], ?_, fun d => ?_⟩
    · dsimp only
      rw [ef]
      dsimp only
      rw [ret_eq, out_rt]
      refine tup2 rfl ?_
      rw [ap_eq, comp_eq]
      have ee : enumI (vE 3) (frz [.vl (scr ns), .vl (.int k), .un, .ow (ws.map T.str), y4, y5]) = .ok (enumT (ws.map T.str)) := rfl
      rw [ee, bOk]
      unfold compR
      rw [if_pos (by unfold enumT; rw [List.length_map, List.length_zipIdx, List.length_map]; exact Nat.le_trans r2 (by decide))]
      have ec : compL (pairG 0 1) noIf chcE (enumT (ws.map T.str)) (capE 2 [0, 1] (frz [.vl (scr ns), .vl (.int k), .un, .ow (ws.map T.str), y4, y5])) = .ok cs := s1
      rw [ec]
      rfl
    · show (decide (1 ≤ cs.length) && decide (cs.length ≤ 4) && cs.all isChoice && decide ((dd [] (cs.map wordOf)).length = cs.length)) = true
      have hd : (dd [] (cs.map wordOf)).length = cs.length := by
        rw [s3, hcl]
        have := (dd_full ws []).mpr (fun k w h => by simpa using r3 k w h)
        simpa using this
      rw [decide_eq_true (by omega), decide_eq_true (by omega), s2, decide_eq_true hd]; rfl
end G

namespace G
open PySem L2 PV
theorem mul_c (c : Int) (j : Int) (hc : CMul c j) : mulT (.int c) (.int j) = .ok (.int (c * j)) := by
  show (if CMul c j then R.ok (T.int (c * j)) else .bad) = _
  rw [if_pos hc]
theorem mul_3 (j : Int) : mulT (.int 3) (.int j) = .ok (.int (3 * j)) := mul_c _ _ (.inl ⟨by decide, by decide⟩)
theorem mul_50 (j : Int) : mulT (.int 50) (.int j) = .ok (.int (50 * j)) := mul_c _ _ (.inl ⟨by decide, by decide⟩)
abbrev subE (c : List T → R T) : En → R T := callE 3 c (consA (vE 1) (consA (binE addT (binE addT (binE mulT (cE (.int 3)) (vE 2)) (cE (.int 40))) (binE mulT (cE (.int 50)) (vE 0))) (consA (binE subT (vE 3) (cE (.int 1))) (nilA))))
theorem isK_leaf {t : T} (h : ∀ d, isK (d + 1) t = true) (d : Nat) (hd : 1 ≤ d) : isK d t = true := by
  cases d with
  | zero => omega
  | succ d => exact h d
theorem kind_ok (ns : List Int) : ∀ (d n : Nat), d ≤ n → 1 ≤ d → ∀ k : Int, 0 ≤ k → ∃ t, S__law_kind n 0 [scr ns, .int k, .int (d : Int)] = .ok t ∧ isK d t = true
  | d + 1, n + 1, hn, _, k, h0 => by
    have e : S__law_kind (n + 1) 0 [scr ns, .int k, .int ((d + 1 : Nat) : Int)] = outR (b__law_kind f__law_pick f__law_leaf_kind (S__law_kind n 0) [.vl (scr ns), .vl (.int k), .vl (.int ((d + 1 : Nat) : Int)), .un, .un, .un]) := rfl
    obtain ⟨p, e0, p0, p1⟩ := pick_ok ns k 5 h0 (by omega)
    obtain ⟨l, el, hl⟩ := leaf_ok ns (k + 1) (by omega)
    have hset : ([.vl (scr ns), .vl (.int k), .vl (.int ((d + 1 : Nat) : Int)), .un, .un, .un] : En).set 3 (.vl (.int p)) = [.vl (scr ns), .vl (.int k), .vl (.int ((d + 1 : Nat) : Int)), .vl (.int p), .un, .un] := rfl
    rw [e, b__law_kind]
    simp only [seq_eq, set_eq, if_eq, or_eq, cmpT_eq, call3, call2, v0, v1, v2, c_eq, bOk, e0, sOkR, hset, w2, w3, eqI, ltI, add_ii, ret_eq, frz_v, frz_u, frz_n, bin_eq, el]
    have hd1 : ((((d + 1 : Nat) : Int) == 1)) = decide (d = 0) := by
      by_cases h : d = 0
      · subst h; rfl
      · rw [decide_eq_false h, beq_eq_false_iff_ne]; omega
    rw [hd1]
    by_cases hleaf : d = 0 ∨ p < 2
    · refine ⟨l, ?_, hl d⟩
      rcases hleaf with h | h
      · rw [decide_eq_true h]; rfl
      · rw [decide_eq_true h]
        cases decide (d = 0) <;> rfl
    · have hd0 : ¬ d = 0 := fun z => hleaf (.inl z)
      have hp2 : ¬ p < 2 := fun z => hleaf (.inr z)
      have hsub : ((d + 1 : Nat) : Int) - 1 = (d : Int) := by omega
      rw [decide_eq_false hd0, decide_eq_false hp2]
      simp only [Bool.false_eq_true, if_false, sOkR, nxS, w3, v0, v1, v2, bOk, ltI, c_eq]
      cases hp : decide (p < 4) with
      | true =>
        obtain ⟨q, e1, q0, q1⟩ := pick_ok ns (k + 1) 3 (by omega) (by omega)
        have hj : ∀ j : Nat, ∃ t, subE (S__law_kind n 0) [.vl (.int (0 + (j : Int))), .vl (scr ns), .vl (.int k), .vl (.int ((d + 1 : Nat) : Int))] = .ok t ∧ isK d t = true := fun j => by
          obtain ⟨t, r, s⟩ := kind_ok ns d n (by omega) (by omega) (3 * k + 40 + 50 * (0 + (j : Int))) (by omega)
          refine ⟨t, ?_, s⟩
          simp only [subE, call3, v0, v1, v2, v3, bin_eq, c_eq, bOk, mul_3, mul_50, add_ii, sub_ii, hsub, r]
        obtain ⟨g, hg⟩ := Classical.skolem.mp hj
        have ei : rng1I (binE addT (cE (.int 1)) (callE 3 f__law_pick (consA (vE 0) (consA (binE addT (vE 1) (cE (.int 1))) (consA (cE (.int 3)) (nilA)))))) [.vl (scr ns), .vl (.int k), .vl (.int ((d + 1 : Nat) : Int)), .vl (.int p), .un, .un] = .ok (rng 0 (1 + q).toNat) := by
          unfold rng1I
          simp only [bin_eq, call3, v0, v1, c_eq, bOk, add_ii, e1]
          rw [if_pos ⟨by omega, by omega⟩]
        have ec : compR (setG 0) noIf (subE (S__law_kind n 0)) 1 [0, 1, 2] [.vl (scr ns), .vl (.int k), .vl (.int ((d + 1 : Nat) : Int)), .vl (.int p), .un, .un] (rng 0 (1 + q).toNat) = .ok ((rng 0 (1 + q).toNat).map fun t => match t with | .int j => g j.toNat | t => t) :=
          compR_map (rng 0 (1 + q).toNat) (by unfold rng; rw [List.length_map, List.length_range]; exact Nat.le_trans (show (1 + q).toNat ≤ 3 by omega) (by decide)) fun t ht => by
            unfold rng at ht
            obtain ⟨j, _, rfl⟩ := List.mem_map.mp ht
            show subE (S__law_kind n 0) [.vl (.int (0 + (j : Int))), .vl (scr ns), .vl (.int k), .vl (.int ((d + 1 : Nat) : Int))] = .ok (g (0 + (j : Int)).toNat)
            rw [(hg j).1, Int.zero_add, Int.toNat_natCast]
        generalize hcs : ((rng 0 (1 + q).toNat).map fun t => match t with | .int j => g j.toNat | t => t) = cs at ec
        have hlen : cs.length = (1 + q).toNat := by rw [← hcs]; unfold rng; rw [List.length_map, List.length_map, List.length_range]
        have hall : ∀ t ∈ cs, isK d t = true := fun t ht => by
          rw [← hcs] at ht
          obtain ⟨u, hu, rfl⟩ := List.mem_map.mp ht
          unfold rng at hu
          obtain ⟨j, _, rfl⟩ := List.mem_map.mp hu
          exact (hg _).2
        refine ⟨.tup [.str "row", .tup cs], ?_, ?_⟩
        · have hs4 : ([.vl (scr ns), .vl (.int k), .vl (.int ((d + 1 : Nat) : Int)), .vl (.int p), .un, .un] : En).set 4 (.vl (.lst cs)) = [.vl (scr ns), .vl (.int k), .vl (.int ((d + 1 : Nat) : Int)), .vl (.int p), .vl (.lst cs), .un] := rfl
          simp only [if_true, comp_eq, ei, bOk, ec, sOkR, hs4, frz_v, frz_u, frz_n]
          rfl
        · show (decide (1 ≤ cs.length) && decide (cs.length ≤ 3) && cs.all (isK d)) = true
          rw [decide_eq_true (by omega), decide_eq_true (by omega), List.all_eq_true.mpr hall]; rfl
      | false =>
        obtain ⟨q, e1, q0, q1⟩ := pick_ok ns (k + 1) 3 (by omega) (by omega)
        obtain ⟨q2, e2, _, _⟩ := pick_ok ns (k + 2) 3 (by omega) (by omega)
        obtain ⟨t, r, s⟩ := kind_ok ns d n (by omega) (by omega) (3 * k + 40) (by omega)
        refine ⟨.tup [.str "many", t, .int q, .int (if q + q2 < 3 then q + q2 else 3)], ?_, ?_⟩
        · have hs5 : ([.vl (scr ns), .vl (.int k), .vl (.int ((d + 1 : Nat) : Int)), .vl (.int p), .un, .un] : En).set 5 (.vl (.int q)) = [.vl (scr ns), .vl (.int k), .vl (.int ((d + 1 : Nat) : Int)), .vl (.int p), .un, .vl (.int q)] := rfl
          simp only [Bool.false_eq_true, if_false, v0, v1, bin_eq, c_eq, bOk, add_ii, e1, sOkR, hs5, frz_v, frz_u, frz_n, out_rt]
          refine tup4 rfl ?_ rfl ?_
          · simp only [call3, v0, v1, v2, bin_eq, c_eq, bOk, mul_3, add_ii, sub_ii, hsub, r]
          · have v5 : ∀ {t : T} {a b c d e : Sl} {ρ : En}, vE 5 (a :: b :: c :: d :: e :: .vl t :: ρ) = .ok t := rfl
            simp only [call3, v0, v1, v5, bin_eq, c_eq, bOk, add_ii, e2, min_ii]
        · show (isSpan 0 3 (.int q) (.int _) && isK d t) = true
          rw [s, Bool.and_true]
          show (decide (0 ≤ q) && decide (q ≤ _) && decide (_ ≤ (3 : Int))) = true
          rw [decide_eq_true (by omega), decide_eq_true (by split <;> omega), decide_eq_true (by split <;> omega)]; rfl
end G

namespace G
open PySem L2 PV
mutual
def dep : T → Nat
  | .tup xs => deps xs + 1
  | .lst xs => deps xs + 1
  | _ => 1
def deps : List T → Nat
  | [] => 0
  | t :: ts => max (dep t) (deps ts)
end
mutual
def siz : T → Nat
  | .tup xs => sizs xs + 1
  | .lst xs => sizs xs + 1
  | _ => 1
def sizs : List T → Nat
  | [] => 0
  | t :: ts => siz t + sizs ts
end
theorem isS_eq {w : Str} {t : T} (h : isS w t = true) : t = .str w := by
  cases t with
  | str s =>
    have : (s == w) = true := h
    rw [eq_of_beq this]
  | _ => cases h
theorem inR_int {lo hi : Int} {t : T} (h : inR lo hi t = true) : ∃ i, t = .int i := by
  cases t with
  | int i => exact ⟨i, rfl⟩
  | _ => cases h
theorem span_int {lo hi : Int} {a b : T} (h : isSpan lo hi a b = true) : ∃ i j, a = .int i ∧ b = .int j := by
  cases a with
  | int i =>
    cases b with
    | int j => exact ⟨i, j, rfl, rfl⟩
    | _ => cases h
  | _ => cases h
/-- what is fit to be walked -/
structure Fit (D S : Nat) (t : T) : Prop where
  so : sOk t
  dp : dep t ≤ D
  sz : siz t ≤ S
theorem choice_fit {c : T} (h : isChoice c = true) : Fit 2 3 c := by
  unfold isChoice at h
  split at h
  · rename_i w i
    have hw : isWord w = true := by
      rw [Bool.and_eq_true, Bool.and_eq_true] at h
      exact h.1.1
    cases w with
    | str x =>
      have hx : (decide (1 ≤ x.length) && decide (x.length ≤ 3) && x.cps.toList.all letter) = true := hw
      rw [Bool.and_eq_true, Bool.and_eq_true, decide_eq_true_eq, decide_eq_true_eq] at hx
      refine ⟨?_, ?_, ?_⟩
      · simp only [sOk, sOks, and_true]
        exact Nat.le_trans hx.1.2 (by decide)
      · simp [dep, deps]
      · simp [siz, sizs]
    | _ => cases hw
  · cases h
theorem fits {D S : Nat} : ∀ {cs : List T}, (∀ c ∈ cs, Fit D S c) → sOks cs ∧ deps cs ≤ D ∧ sizs cs ≤ S * cs.length
  | [], _ => ⟨by simp only [sOks], Nat.zero_le _, Nat.zero_le _⟩
  | c :: cs, h => by
    obtain ⟨a, b, d⟩ := fits (cs := cs) fun x hx => h x (List.mem_cons_of_mem _ hx)
    obtain ⟨x, y, z⟩ := h c List.mem_cons_self
    refine ⟨?_, ?_, ?_⟩
    · simp only [sOks]; exact ⟨x, a⟩
    · simp only [deps]; omega
    · simp only [sizs, List.length_cons, Nat.mul_add, Nat.mul_one]; omega
theorem kind_fit : ∀ (d : Nat) (t : T), isK d t = true → Fit (2 * d + 2) (15 * 4 ^ d) t
  | 0, _, h => by cases h
  | d + 1, t, h => by
    have hpow : 4 ^ (d + 1) = 4 * 4 ^ d := by rw [Nat.pow_succ, Nat.mul_comm]
    have hone : 1 ≤ 4 ^ d := Nat.pow_pos (by omega)
    have h : kStep (isK d) t = true := h
    unfold kStep at h
    split at h
    · rename_i hd r
      split at h
      · rename_i e
        rw [isS_eq e]
        unfold kWhole at h
        split at h
        · obtain ⟨i, j, rfl, rfl⟩ := span_int h
          refine ⟨by simp only [sOk, sOks, and_true]; decide, by simp only [dep, deps]; omega, by simp only [siz, sizs]; omega⟩
        · cases h
      · split at h
        · rename_i e
          rw [isS_eq e]
          unfold kPick at h
          split at h
          · rename_i c
            unfold isPick at h
            split at h
            · rename_i cs
              rw [Bool.and_eq_true, Bool.and_eq_true, Bool.and_eq_true, decide_eq_true_eq, decide_eq_true_eq] at h
              obtain ⟨a, b, z⟩ := fits (D := 2) (S := 3) (cs := cs) fun c hc => choice_fit (List.all_eq_true.mp h.1.2 c hc)
              refine ⟨by simp only [sOk, sOks, and_true]; exact ⟨by decide, a⟩, by simp only [dep, deps]; omega, by simp only [siz, sizs]; omega⟩
            · cases h
          · cases h
        · split at h
          · rename_i e
            rw [isS_eq e]
            unfold kRow at h
            split at h
            · rename_i c
              unfold isRowOf at h
              split at h
              · rename_i cs
                rw [Bool.and_eq_true, Bool.and_eq_true, decide_eq_true_eq, decide_eq_true_eq] at h
                obtain ⟨a, b, z⟩ := fits (D := 2 * d + 2) (S := 15 * 4 ^ d) (cs := cs) fun c hc => kind_fit d c (List.all_eq_true.mp h.2 c hc)
                have : 15 * 4 ^ d * cs.length ≤ 15 * 4 ^ d * 3 := Nat.mul_le_mul_left _ h.1.2
                refine ⟨by simp only [sOk, sOks, and_true]; exact ⟨by decide, a⟩, by simp only [dep, deps]; omega, by simp only [siz, sizs]; omega⟩
              · cases h
            · cases h
          · split at h
            · rename_i e
              rw [isS_eq e]
              unfold kMany at h
              split at h
              · rename_i c a b
                rw [Bool.and_eq_true] at h
                obtain ⟨i, j, rfl, rfl⟩ := span_int h.1
                obtain ⟨x, y, z⟩ := kind_fit d c h.2
                refine ⟨by simp only [sOk, sOks, and_true]; exact ⟨by decide, x⟩, by simp only [dep, deps]; omega, by simp only [siz, sizs]; omega⟩
              · cases h
            · cases h
    · cases h
end G

namespace G
open PySem L2 PV
def getP : T → List Nat → Option T
  | t, [] => some t
  | .tup xs, i :: r => match xs[i]? with | some x => getP x r | none => none
  | _, _ :: _ => none
abbrev pth (p : List Nat) : T := .tup (p.map fun (i : Nat) => T.int (i : Int))
abbrev plcE (c : List T → R T) : En → RS := extS 1 (compE (anyI (callE 1 c (consA (binE ixT (vE 0) (vE 2)) (nilA)))) (setG 0) (noIf) (binE addT (tupE (consA (vE 1) (nilA))) (vE 0)) 1 [2])
def sizAt (xs : List T) (j : Nat) : Nat := match xs[j]? with | some x => siz x | none => 0
theorem siz_sum : ∀ xs : List T, ((List.range xs.length).map (sizAt xs)).sum = sizs xs
  | [] => rfl
  | x :: xs => by
    rw [List.length_cons, List.range_succ_eq_map, List.map_cons, List.sum_cons, List.map_map]
    show siz x + ((List.range xs.length).map (sizAt xs)).sum = siz x + sizs xs
    rw [siz_sum xs]
theorem siz_mem : ∀ {xs : List T} {x : T}, x ∈ xs → siz x ≤ sizs xs
  | y :: ys, x, h => by
    simp only [sizs]
    rcases List.mem_cons.mp h with rfl | h
    · omega
    · have := siz_mem h; omega
theorem siz_pos (t : T) : 1 ≤ siz t := by cases t <;> simp [siz]
theorem getP_len : ∀ {t u : T} (p : List Nat), getP t p = some u → p.length < siz t
  | t, _, [], _ => siz_pos t
  | .tup xs, u, i :: r, h => by
    have h : (match xs[i]? with | some x => getP x r | none => none) = some u := h
    cases hx : xs[i]? with
    | none => rw [hx] at h; cases h
    | some x =>
      rw [hx] at h
      have a := getP_len r h
      have b := siz_mem (List.mem_of_getElem? hx)
      simp only [siz, List.length_cons]
      omega
  | .non, _, _ :: _, h => by cases h
  | .bl _, _, _ :: _, h => by cases h
  | .int _, _, _ :: _, h => by cases h
  | .str _, _, _ :: _, h => by cases h
  | .lst _, _, _ :: _, h => by cases h
  | .fz _, _, _ :: _, h => by cases h
theorem tup1 {f : En → R T} {ρ : En} {x : T} (hf : f ρ = .ok x) : tupE (consA f nilA) ρ = .ok (.tup [x]) := by
  unfold tupE consA nilA
  rw [hf]; rfl
theorem plc_loop {c : List T → R T} {xs : List T} (H : ∀ x ∈ xs, ∃ ps : List (List Nat), c [x] = .ok (.lst (ps.map pth)) ∧ ps.length ≤ siz x ∧ ∀ p ∈ ps, ∃ u, getP x p = some u) :
    ∀ (js : List Nat), (∀ j ∈ js, j < xs.length) → ∀ (acc : List (List Nat)) (x2 : Sl), (∀ p ∈ acc, ∃ u, getP (.tup xs) p = some u) → acc.length + (js.map (sizAt xs)).sum ≤ bnd →
    ∃ (acc' : List (List Nat)) (y2 : Sl), forL (setG 2) (plcE c) (js.map fun (j : Nat) => T.int (0 + (j : Int))) [.vl (.tup xs), .ow (acc.map pth), x2] = .nx [.vl (.tup xs), .ow (acc'.map pth), y2] ∧ acc.length ≤ acc'.length ∧ acc'.length ≤ acc.length + (js.map (sizAt xs)).sum ∧ ∀ p ∈ acc', ∃ u, getP (.tup xs) p = some u
  | [], _, acc, x2, ha, hl => ⟨acc, x2, rfl, Nat.le_refl _, by simp, ha⟩
  | j :: js, hj, acc, x2, ha, hl => by
    have hjl : j < xs.length := hj j List.mem_cons_self
    have hx : xs[j]? = some xs[j] := List.getElem?_eq_getElem hjl
    obtain ⟨ps, e1, e2, e3⟩ := H xs[j] (List.getElem_mem hjl)
    have hsz : sizAt xs j = siz xs[j] := by unfold sizAt; rw [hx]
    rw [List.map_cons, List.sum_cons, hsz] at hl
    have e : forL (setG 2) (plcE c) ((j :: js).map fun (j : Nat) => T.int (0 + (j : Int))) [.vl (.tup xs), .ow (acc.map pth), x2] = match plcE c [.vl (.tup xs), .ow (acc.map pth), .vl (.int (0 + (j : Int)))] with
      | .nx ρ2 => forL (setG 2) (plcE c) (js.map fun (j : Nat) => T.int (0 + (j : Int))) ρ2
      | .ct ρ2 => forL (setG 2) (plcE c) (js.map fun (j : Nat) => T.int (0 + (j : Int))) ρ2
      | .bk ρ2 => .nx ρ2
      | r => r := rfl
    have eb : plcE c [.vl (.tup xs), .ow (acc.map pth), .vl (.int (0 + (j : Int)))] = .nx [.vl (.tup xs), .ow ((acc ++ ps.map (j :: ·)).map pth), .vl (.int (0 + (j : Int)))] := by
      have ex : ixT (.tup xs) (.int (0 + (j : Int))) = .ok xs[j] := by
        rw [Int.zero_add]
        show atT xs j = _
        unfold atT
        rw [atI_nat hx]
      have ei : anyI (callE 1 c (consA (binE ixT (vE 0) (vE 2)) (nilA))) [.vl (.tup xs), .ow (acc.map pth), .vl (.int (0 + (j : Int)))] = .ok (ps.map pth) := by
        simp only [any_eq, call1, bin_eq, v0, v2, bOk, ex, e1]
        rfl
      have ec : compR (setG 0) noIf (binE addT (tupE (consA (vE 1) (nilA))) (vE 0)) 1 [2] [.vl (.tup xs), .ow (acc.map pth), .vl (.int (0 + (j : Int)))] (ps.map pth) = .ok ((ps.map pth).map fun t => match t with | .tup q => .tup (.int (0 + (j : Int)) :: q) | t => t) :=
        compR_map _ (by rw [List.length_map]; omega) fun t ht => by
          obtain ⟨p, hp, rfl⟩ := List.mem_map.mp ht
          show binE addT (tupE (consA (vE 1) (nilA))) (vE 0) [.vl (pth p), .vl (.int (0 + (j : Int)))] = _
          rw [bin_eq, tup1 v1, bOk, v0, bOk]
          obtain ⟨u, hu⟩ := e3 p hp
          have hpl := getP_len p hu
          show (if [T.int (0 + (j : Int))].length + (p.map fun (i : Nat) => T.int (i : Int)).length ≤ bnd then R.ok (T.tup _) else .bad) = _
          rw [if_pos (by rw [List.length_map, List.length_singleton]; omega)]
          rfl
      show ((compE _ _ _ _ _ _ _).s fun t => match t with | .lst us => if (acc.map pth).length + us.length ≤ bnd then RS.nx _ else .bad | _ => .bad) = _
      rw [comp_eq, ei, bOk, ec, bOk, sOkR]
      show (if _ then _ else _) = _
      rw [if_pos (by simp only [List.length_map]; omega)]
      rw [List.map_append, List.map_map, List.map_map]
      show RS.nx [.vl (.tup xs), .ow (acc.map pth ++ _), .vl (.int (0 + (j : Int)))] = _
      have hm : List.map ((fun t => match t with | .tup q => T.tup (.int (0 + (j : Int)) :: q) | t => t) ∘ pth) ps = List.map (pth ∘ fun x => j :: x) ps := by
        refine List.map_congr_left fun p _ => ?_
        show T.tup (T.int (0 + (j : Int)) :: _) = T.tup (T.int (j : Int) :: _)
        rw [Int.zero_add]
      rw [← hm]
    rw [e, eb]
    obtain ⟨acc', y2, r1, r2, r3, r4⟩ := plc_loop H js (fun i hi => hj i (List.mem_cons_of_mem _ hi)) (acc ++ ps.map (j :: ·)) (.vl (.int (0 + (j : Int)))) (fun p hp => by
      rcases List.mem_append.mp hp with z | z
      · exact ha p z
      · obtain ⟨q, hq, rfl⟩ := List.mem_map.mp z
        obtain ⟨u, hu⟩ := e3 q hq
        refine ⟨u, ?_⟩
        show (match xs[j]? with | some x => getP x q | none => none) = some u
        rw [hx]; exact hu) (by rw [List.length_append, List.length_map]; omega)
    rw [List.length_append, List.length_map] at r2 r3
    refine ⟨acc', y2, r1, by omega, ?_, r4⟩
    rw [List.map_cons, List.sum_cons, hsz]
    omega
end G

namespace G
open PySem L2 PV
theorem dep_mem : ∀ {xs : List T} {x : T}, x ∈ xs → dep x ≤ deps xs
  | y :: ys, x, h => by
    simp only [deps]
    rcases List.mem_cons.mp h with rfl | h
    · omega
    · have := dep_mem h; omega
theorem not_tup {t : T} (h : ∀ xs, t ≠ .tup xs) : isiT "tuple" t = .ok (.bl false) := by
  cases t with
  | tup xs => exact (h xs rfl).elim
  | _ => rfl
def lim : Nat := 900000
theorem lim_bnd : lim + lim + lim + 10 ≤ bnd := by decide
theorem lim_mil : (lim : Int) + 10 < 1000000 := by decide
abbrev PlcOk (c : List T → R T) (t : T) : Prop := ∃ ps : List (List Nat), c [t] = .ok (.lst (ps.map pth)) ∧ 0 < ps.length ∧ ps.length ≤ siz t ∧ ∀ p ∈ ps, ∃ u, getP t p = some u
theorem sizs_len : ∀ xs : List T, xs.length ≤ sizs xs
  | [] => Nat.zero_le _
  | x :: xs => by
    have := siz_pos x
    have := sizs_len xs
    simp only [sizs, List.length_cons]
    omega
theorem plc_ei {xs : List T} {a b : Sl} (h : (xs.length : Int) < 1000000) : rng1I (ap1 lenT (vB 0)) [.vl (.tup xs), a, b] = .ok (rng 0 xs.length) := by
  unfold rng1I
  rw [ap_eq, w0, bOk, len_t, bOk]
  dsimp only
  rw [if_pos ⟨by omega, by omega⟩, Int.toNat_natCast]
theorem plc_fin (t : T) (ps : List (List Nat)) (y : Sl) : outR (retS (vE 1) [.vl t, .ow (ps.map pth), y]) = .ok (.lst (ps.map pth)) := rfl
theorem plc_e0 (t : T) : setL 1 (consA (tupE nilA) nilA) [.vl t, .un, .un] = .nx [.vl t, .ow [.tup []], .un] := rfl
theorem plc_un {c : List T → R T} (t : T) : outR (b__law_places c (en0 3 [t])) = outR (match (tru (.bl (isT "tuple" t))).s fun k => if k = true then forS (rng1I (ap1 lenT (vB 0))) (setG 2) (plcE c) [.vl t, .ow [.tup []], .un] else nxS [.vl t, .ow [.tup []], .un] with | .nx ρ => retS (vE 1) ρ | r => r) := by
  have e : outR (b__law_places c (en0 3 [t])) = outR (b__law_places c [.vl t, .un, .un]) := rfl
  rw [e, b__law_places, seq_eq, plc_e0]
  dsimp only
  rw [seq_eq, if_eq, tru_eq, ap_eq, w0, bOk]
  rfl
theorem places_tup {c : List T → R T} (xs : List T) (hs : sizs xs + 1 ≤ lim) (H : ∀ x ∈ xs, PlcOk c x) : PlcOk (fun ts => outR (b__law_places c (en0 3 ts))) (.tup xs) := by
  have hb := lim_bnd
  have hm := lim_mil
  have H : ∀ x ∈ xs, ∃ ps : List (List Nat), c [x] = .ok (.lst (ps.map pth)) ∧ ps.length ≤ siz x ∧ ∀ p ∈ ps, ∃ u, getP x p = some u := fun x hx => by
    obtain ⟨ps, r1, r2, r3, r4⟩ := H x hx
    exact ⟨ps, r1, r3, r4⟩
  have hlen := sizs_len xs
  obtain ⟨acc, y, r1, r2, r3, r4⟩ := plc_loop H (List.range xs.length) (fun j hj => List.mem_range.mp hj) [[]] .un (fun p hp => by
    rw [List.mem_singleton.mp hp]; exact ⟨_, rfl⟩) (by rw [siz_sum, List.length_singleton]; omega)
  rw [siz_sum, List.length_singleton] at r3
  rw [List.length_singleton] at r2
  refine ⟨acc, ?_, by omega, by simp only [siz]; omega, r4⟩
  have ef : forS (rng1I (ap1 lenT (vB 0))) (setG 2) (plcE c) [.vl (.tup xs), .ow [.tup []], .un] = .nx [.vl (.tup xs), .ow (acc.map pth), y] := by
    unfold forS
    rw [plc_ei (by omega), sOkR]
    exact r1
  dsimp only
  rw [plc_un, show isT "tuple" (.tup xs) = true from rfl, tru_bl, sOkR, if_pos rfl, ef]
  exact plc_fin _ acc y
theorem places_not {c : List T → R T} (t : T) (ht : ∀ xs, t ≠ .tup xs) : PlcOk (fun ts => outR (b__law_places c (en0 3 ts))) t := by
  have e : isT "tuple" t = false := by
    cases t with
    | tup xs => exact (ht xs rfl).elim
    | _ => rfl
  refine ⟨[[]], ?_, by decide, siz_pos t, fun p hp => ?_⟩
  · dsimp only
    rw [plc_un, e, tru_bl, sOkR, if_neg Bool.false_ne_true]
    exact plc_fin t [[]] .un
  rw [List.mem_singleton.mp hp]; exact ⟨t, by cases t <;> rfl⟩
theorem places_step {c : List T → R T} (t : T) (hs : siz t ≤ lim) (H : ∀ xs, t = .tup xs → ∀ x ∈ xs, PlcOk c x) : PlcOk (fun ts => outR (b__law_places c (en0 3 ts))) t := by
  by_cases ht : ∃ xs, t = .tup xs
  · obtain ⟨xs, rfl⟩ := ht
    simp only [siz] at hs
    exact places_tup xs hs (H xs rfl)
  · exact places_not t fun xs z => ht ⟨xs, z⟩
theorem places_ok (n : Nat) : ∀ (t : T), dep t ≤ n → siz t ≤ lim → PlcOk (S__law_places n 0) t := by
  induction n with
  | zero => intro t h; cases t <;> simp [dep] at h
  | succ n ih =>
    intro t h hs
    exact places_step t hs fun xs e x hx => by
      subst e
      simp only [dep, siz] at h hs
      have a := dep_mem hx
      have b := siz_mem hx
      exact ih x (by omega) (by omega)
end G

namespace G
open PySem L2 PV
/-! ### the part at a place -/
theorem ix_nat {xs : List T} {j : Nat} {x : T} (h : xs[j]? = some x) : ixT (.tup xs) (.int (j : Int)) = .ok x := by
  show atT xs j = _
  unfold atT
  rw [atI_nat h]
theorem getP_cons {xs : List T} {i : Nat} {r : List Nat} {u : T} (h : getP (.tup xs) (i :: r) = some u) : ∃ x, xs[i]? = some x ∧ getP x r = some u := by
  have h : (match xs[i]? with | some x => getP x r | none => none) = some u := h
  cases hx : xs[i]? with
  | none => rw [hx] at h; cases h
  | some x => rw [hx] at h; exact ⟨x, rfl, h⟩
theorem getP_tup {t : T} {i : Nat} {r : List Nat} {u : T} (h : getP t (i :: r) = some u) : ∃ xs, t = .tup xs := by
  cases t with
  | tup xs => exact ⟨xs, rfl⟩
  | _ => cases h
theorem getP_nil (t : T) : getP t [] = some t := by cases t <;> rfl
theorem at_loop {X : Sl} : ∀ (p : List Nat) (t u : T) (y : Sl), getP t p = some u → ∃ y', forL (setG 2) (setS 0 (binE ixT (vE 0) (vE 2))) (p.map fun (i : Nat) => T.int (i : Int)) [.vl t, X, y] = .nx [.vl u, X, y']
  | [], t, u, y, h => by
    rw [getP_nil] at h
    cases h
    exact ⟨y, rfl⟩
  | i :: r, t, u, y, h => by
    obtain ⟨xs, rfl⟩ := getP_tup h
    obtain ⟨x, hx, hr⟩ := getP_cons h
    obtain ⟨y', e⟩ := at_loop (X := X) r x u (.vl (.int (i : Int))) hr
    refine ⟨y', ?_⟩
    have e1 : forL (setG 2) (setS 0 (binE ixT (vE 0) (vE 2))) ((i :: r).map fun (i : Nat) => T.int (i : Int)) [.vl (.tup xs), X, y] = match setS 0 (binE ixT (vE 0) (vE 2)) [.vl (.tup xs), X, .vl (.int (i : Int))] with
      | .nx ρ2 => forL (setG 2) (setS 0 (binE ixT (vE 0) (vE 2))) (r.map fun (j : Nat) => T.int (j : Int)) ρ2
      | .ct ρ2 => forL (setG 2) (setS 0 (binE ixT (vE 0) (vE 2))) (r.map fun (j : Nat) => T.int (j : Int)) ρ2
      | .bk ρ2 => .nx ρ2
      | r => r := rfl
    rw [e1, set_eq, bin_eq, v0, bOk, v2, bOk, ix_nat hx, sOkR]
    exact e
theorem at_ok {t u : T} {p : List Nat} (h : getP t p = some u) : f__law_at [t, pth p] = .ok u := by
  obtain ⟨y', e⟩ := at_loop (X := .vl (pth p)) p t u .un h
  have e0 : f__law_at [t, pth p] = outR (b__law_at [.vl t, .vl (pth p), .un]) := rfl
  have ef : forS (anyI (vE 1)) (setG 2) (setS 0 (binE ixT (vE 0) (vE 2))) [.vl t, .vl (pth p), .un] = .nx [.vl u, .vl (pth p), y'] := e
  rw [e0, b__law_at, seq_eq, ef]
  rfl
/-! ### what is put -/
def putP : T → List Nat → T → T
  | _, [], v => v
  | .tup xs, i :: r, v => match xs[i]? with
    | some x => .tup (xs.take i ++ [putP x r v] ++ xs.drop (i + 1))
    | none => .tup xs
  | t, _ :: _, _ => t
theorem cut_hi {xs : List T} {i : Nat} (h : i < xs.length) : slT (.tup xs) none (some (i : Int)) = .ok (.tup (xs.take i)) := by
  show R.ok (T.tup (cut xs none (some (i : Int)))) = _
  have : cut xs none (some (i : Int)) = xs.take i := by
    unfold cut
    rw [HT.sIx_none, HT.sIx_nat, Nat.min_eq_left (by omega), Nat.sub_zero, List.drop_zero]
  rw [this]
theorem cut_lo {xs : List T} {i : Nat} (h : i ≤ xs.length) : slT (.tup xs) (some (i : Int)) none = .ok (.tup (xs.drop i)) := by
  show R.ok (T.tup (cut xs (some (i : Int)) none)) = _
  have : cut xs (some (i : Int)) none = xs.drop i := by
    unfold cut
    rw [HT.sIx_none, HT.sIx_nat, Nat.min_eq_left h]
    exact List.take_of_length_le (by rw [List.length_drop]; omega)
  rw [this]
theorem cut_both {xs : List T} {i j : Nat} (hi : i ≤ xs.length) (hj : j ≤ xs.length) : slT (.tup xs) (some (i : Int)) (some (j : Int)) = .ok (.tup ((xs.drop i).take (j - i))) := by
  show R.ok (T.tup (cut xs (some (i : Int)) (some (j : Int)))) = _
  have : cut xs (some (i : Int)) (some (j : Int)) = (xs.drop i).take (j - i) := by
    unfold cut
    rw [HT.sIx_nat, HT.sIx_nat, Nat.min_eq_left hi, Nat.min_eq_left hj]
  rw [this]
theorem add_tt {xs ys : List T} (h : xs.length + ys.length ≤ bnd) : addT (.tup xs) (.tup ys) = .ok (.tup (xs ++ ys)) := if_pos h
theorem some_v {f : En → R T} {ρ : En} {i : Int} (h : f ρ = .ok (.int i)) : someO f ρ = .ok (some i) := by
  unfold someO; rw [h]; rfl
theorem put_step {c : List T → R T} {xs : List T} {i : Nat} {r : List Nat} {v x w : T} (hx : xs[i]? = some x) (hl : xs.length ≤ lim) (hc : c [x, pth r, v] = .ok w) :
    outR (b__law_put c (en0 4 [.tup xs, pth (i :: r), v])) = .ok (.tup (xs.take i ++ [w] ++ xs.drop (i + 1))) := by
  have hi : i < xs.length := (List.getElem?_eq_some_iff.mp hx).1
  have hb := lim_bnd
  have e : outR (b__law_put c (en0 4 [.tup xs, pth (i :: r), v])) = outR (b__law_put c [.vl (.tup xs), .vl (pth (i :: r)), .vl v, .un]) := rfl
  have e1 : cmpT eqC (vB 1) (tupE nilA) [.vl (.tup xs), .vl (pth (i :: r)), .vl v, .un] = .ok false := rfl
  have e2 : setS 3 (binE ixT (vE 1) (cE (.int 0))) [.vl (.tup xs), .vl (pth (i :: r)), .vl v, .un] = .nx [.vl (.tup xs), .vl (pth (i :: r)), .vl v, .vl (.int (i : Int))] := by
    rw [set_eq, bin_eq, v1, bOk, c_eq, bOk, show ixT (pth (i :: r)) (.int 0) = .ok (.int (i : Int)) from at0, sOkR]; rfl
  rw [e, b__law_put, seq_eq, if_eq, e1, sOkR, if_neg Bool.false_ne_true]
  unfold nxS
  dsimp only
  rw [seq_eq, e2]
  dsimp only
  rw [ret_eq, frz_v, frz_v, frz_v, frz_v, frz_n, out_rt]
  have ep : slE (vE 1) (someO (cE (.int 1))) noO [.vl (.tup xs), .vl (pth (i :: r)), .vl v, .vl (.int (i : Int))] = .ok (pth r) := by
    rw [sl_eq, v1, bOk, some_i, bOk, no_o, bOk]
    exact cut1
  have ec : callE 3 c (consA (binE ixT (vE 0) (vE 3)) (consA (slE (vE 1) (someO (cE (.int 1))) (noO)) (consA (vE 2) (nilA)))) [.vl (.tup xs), .vl (pth (i :: r)), .vl v, .vl (.int (i : Int))] = .ok w := by
    rw [call3, bin_eq, v0, bOk, v3, bOk, ix_nat hx, bOk, ep, bOk, v2, bOk, hc]
  have ea : addT (.int (i : Int)) (.int 1) = .ok (.int ((i + 1 : Nat) : Int)) := by
    rw [add_ii, Int.natCast_add]; rfl
  have eb : binE addT (vE 3) (cE (.int 1)) [.vl (.tup xs), .vl (pth (i :: r)), .vl v, .vl (.int (i : Int))] = .ok (.int ((i + 1 : Nat) : Int)) := by
    rw [bin_eq, v3, bOk, c_eq, bOk, ea]
  rw [bin_eq, bin_eq, sl_eq, v0, bOk, no_o, bOk, some_v v3, bOk, cut_hi hi, bOk, tup1 ec, bOk, add_tt (by rw [List.length_take, List.length_singleton]; omega), bOk, sl_eq, v0, bOk, some_v eb, bOk, no_o, bOk, cut_lo (by omega), bOk]
  exact add_tt (by rw [List.length_append, List.length_take, List.length_singleton, List.length_drop]; omega)
theorem put_ok (n : Nat) : ∀ (p : List Nat) (t u v : T), p.length < n → siz t ≤ lim → getP t p = some u → S__law_put n 0 [t, pth p, v] = .ok (putP t p v) := by
  induction n with
  | zero => intro p t u v h; omega
  | succ n ih =>
    intro p t u v h hs hg
    cases p with
    | nil =>
      have : putP t [] v = v := by cases t <;> rfl
      rw [this]
      rfl
    | cons i r =>
      obtain ⟨xs, rfl⟩ := getP_tup hg
      obtain ⟨x, hx, hr⟩ := getP_cons hg
      simp only [siz] at hs
      have hl := sizs_len xs
      have hz := siz_mem (List.mem_of_getElem? hx)
      rw [List.length_cons] at h
      have hc := ih r x u v (by omega) (by omega) hr
      have := put_step (c := S__law_put n 0) (r := r) hx (by omega) hc
      have e : putP (.tup xs) (i :: r) v = .tup (xs.take i ++ [putP x r v] ++ xs.drop (i + 1)) := by
        show (match xs[i]? with | some x => T.tup (xs.take i ++ [putP x r v] ++ xs.drop (i + 1)) | none => .tup xs) = _
        rw [hx]
      rw [e]
      exact this
end G

namespace G
open PySem L2 PV
theorem sizs_app : ∀ (xs ys : List T), sizs (xs ++ ys) = sizs xs + sizs ys
  | [], ys => by simp [sizs]
  | x :: xs, ys => by simp only [List.cons_append, sizs, sizs_app xs ys]; omega
theorem deps_app : ∀ (xs ys : List T), deps (xs ++ ys) = max (deps xs) (deps ys)
  | [], ys => by simp [deps]
  | x :: xs, ys => by simp only [List.cons_append, deps, deps_app xs ys]; omega
theorem sOks_app : ∀ {xs ys : List T}, sOks (xs ++ ys) ↔ sOks xs ∧ sOks ys
  | [], ys => by simp [sOks]
  | x :: xs, ys => by simp only [List.cons_append, sOks, sOks_app (xs := xs) (ys := ys), and_assoc]
theorem split_at {xs : List T} {i : Nat} {x : T} (h : xs[i]? = some x) : xs = xs.take i ++ ([x] ++ xs.drop (i + 1)) := by
  obtain ⟨hi, rfl⟩ := List.getElem?_eq_some_iff.mp h
  rw [List.singleton_append, ← List.drop_eq_getElem_cons, List.take_append_drop]
/-- what the three parts of a row have -/
theorem parts_fit {xs : List T} {i : Nat} {x : T} (h : xs[i]? = some x) : (sOks xs → sOks (xs.take i) ∧ sOk x ∧ sOks (xs.drop (i + 1))) ∧ deps (xs.take i) ≤ deps xs ∧ dep x ≤ deps xs ∧ deps (xs.drop (i + 1)) ≤ deps xs ∧ sizs (xs.take i) + siz x + sizs (xs.drop (i + 1)) = sizs xs := by
  have e := split_at h
  have e1 : sOks xs ↔ sOks (xs.take i) ∧ sOks [x] ∧ sOks (xs.drop (i + 1)) := by
    conv => lhs; rw [e, sOks_app, sOks_app]
  have e2 : deps xs = max (deps (xs.take i)) (max (deps [x]) (deps (xs.drop (i + 1)))) := by
    conv => lhs; rw [e, deps_app, deps_app]
  have e3 : sizs xs = sizs (xs.take i) + (sizs [x] + sizs (xs.drop (i + 1))) := by
    conv => lhs; rw [e, sizs_app, sizs_app]
  simp only [deps, sizs, Nat.add_zero, Nat.max_zero] at e2 e3
  refine ⟨fun q => ?_, by omega, by omega, by omega, by omega⟩
  have := e1.mp q
  simp only [sOks, and_true] at this
  exact this
theorem put_fit : ∀ (p : List Nat) (t v : T), sOk t → sOk v → sOk (putP t p v) ∧ dep (putP t p v) ≤ dep t + dep v ∧ siz (putP t p v) ≤ siz t + siz v
  | [], t, v, ht, hv => by
    have : putP t [] v = v := by cases t <;> rfl
    rw [this]
    exact ⟨hv, by omega, by omega⟩
  | i :: r, t, v, ht, hv => by
    by_cases hx : ∃ xs x, t = .tup xs ∧ xs[i]? = some x
    · obtain ⟨xs, x, rfl, hx⟩ := hx
      have e : putP (.tup xs) (i :: r) v = .tup (xs.take i ++ [putP x r v] ++ xs.drop (i + 1)) := by
        show (match xs[i]? with | some x => T.tup (xs.take i ++ [putP x r v] ++ xs.drop (i + 1)) | none => .tup xs) = _
        rw [hx]
      obtain ⟨q1, q2, q3, q4, q5⟩ := parts_fit hx
      obtain ⟨s1, s2, s3⟩ := q1 (sOk_tup ht)
      obtain ⟨i1, i2, i3⟩ := put_fit r x v s2 hv
      rw [e]
      refine ⟨?_, ?_, ?_⟩
      · simp only [sOk, sOks_app, sOks, and_true]
        exact ⟨⟨s1, i1⟩, s3⟩
      · simp only [dep, deps_app, deps, Nat.max_zero]
        omega
      · simp only [siz, sizs_app, sizs, Nat.add_zero]
        omega
    · have : putP t (i :: r) v = t := by
        cases t with
        | tup xs =>
          show (match xs[i]? with | some x => T.tup (xs.take i ++ [putP x r v] ++ xs.drop (i + 1)) | none => .tup xs) = _
          cases hi : xs[i]? with
          | none => rfl
          | some x => exact (hx ⟨xs, x, rfl, hi⟩).elim
        | _ => rfl
      rw [this]
      exact ⟨ht, by omega, by omega⟩
theorem get_fit : ∀ (p : List Nat) (t u : T), getP t p = some u → (sOk t → sOk u) ∧ dep u + p.length ≤ dep t ∧ siz u ≤ siz t
  | [], t, u, h => by
    rw [getP_nil] at h
    cases h
    exact ⟨id, Nat.le_refl _, Nat.le_refl _⟩
  | i :: r, t, u, h => by
    obtain ⟨xs, rfl⟩ := getP_tup h
    obtain ⟨x, hx, hr⟩ := getP_cons h
    obtain ⟨q1, q2, q3, q4, q5⟩ := parts_fit hx
    obtain ⟨i1, i2, i3⟩ := get_fit r x u hr
    refine ⟨fun q => i1 (q1 (sOk_tup q)).2.1, ?_, ?_⟩
    · simp only [dep, List.length_cons]; omega
    · simp only [siz]; omega
theorem dep_pos (t : T) : 1 ≤ dep t := by cases t <;> simp [dep]
theorem ixl_nat {xs : List T} {j : Nat} {x : T} (h : xs[j]? = some x) : ixT (.lst xs) (.int (j : Int)) = .ok x := by
  show atT xs j = _
  unfold atT
  rw [atI_nat h]
theorem ixl {xs : List T} {i : Int} (h0 : 0 ≤ i) (h1 : i < (xs.length : Int)) : ∃ x, ixT (.lst xs) (.int i) = .ok x ∧ x ∈ xs := by
  have hj : i.toNat < xs.length := by omega
  have e : i = ((i.toNat : Nat) : Int) := by omega
  have q := ixl_nat (List.getElem?_eq_getElem hj)
  rw [← e] at q
  exact ⟨xs[i.toNat], q, List.getElem_mem hj⟩
/-- the written things that are put -/
def some18 (u : T) : List T := [.int 0, .int 1, .int (-21), .int 21, .int 3, .int 4, .bl true, .non, .str "a", .str "abcd", .str "A", .str "", .str "many", .str "row", .tup [], .tup [u], .lst [u], .tup [.str "whole", .int 1, .int 0]]
theorem some18_fit {u : T} {D S : Nat} (h : Fit D S u) : ∀ v ∈ some18 u, Fit (D + 2) (2 * S + 4) v := by
  obtain ⟨h1, h2, h3⟩ := h
  have hl : ∀ n : Nat, n ≤ 10 → n ≤ bnd := fun n h => Nat.le_trans h (by decide)
  intro v hv
  unfold some18 at hv
  simp only [List.mem_cons, List.not_mem_nil, or_false] at hv
  rcases hv with rfl | rfl | rfl | rfl | rfl | rfl | rfl | rfl | rfl | rfl | rfl | rfl | rfl | rfl | rfl | rfl | rfl | rfl
  all_goals first
    | exact ⟨by simp only [sOk, sOks, and_true]; first | decide | exact h1, by simp only [dep, deps]; omega, by simp only [siz, sizs]; omega⟩
    | exact ⟨by simp only [sOk, sOks], by simp only [dep, deps]; omega, by simp only [siz, sizs]; omega⟩
    | exact ⟨hl _ (by decide), by simp only [dep, deps]; omega, by simp only [siz, sizs]; omega⟩
end G

namespace G
open PySem L2 PV
theorem ret_put {a b t d p e g h i : T} {j : Sl} {f : En → R T} {v w : T} (hj : frz1 j = j) (hf : f [.vl a, .vl b, .vl t, .vl d, .vl p, .vl e, .vl g, .vl h, j] = .ok v) (hw : f__law_put 40 [t, p, v] = .ok w) :
    outR (retS (callE 3 (f__law_put 40) (consA (vE 2) (consA (vE 4) (consA f nilA)))) [.vl a, .vl b, .vl t, .vl d, .vl p, .vl e, .vl g, .vl h, j]) = .ok w := by
  have ez : frz [.vl a, .vl b, .vl t, .vl d, .vl p, .vl e, .vl g, .vl h, j] = [.vl a, .vl b, .vl t, .vl d, .vl p, .vl e, .vl g, .vl h, j] := by
    show [Sl.vl a, .vl b, .vl t, .vl d, .vl p, .vl e, .vl g, .vl h, frz1 j] = _
    rw [hj]
  rw [ret_eq, ez, out_rt, call3, v2, bOk, v4, bOk, hf, bOk]
  exact hw
theorem int_v {f : En → R T} {ρ : En} {x : T} (h : f ρ = .ok x) : f ρ = .ok x := h
theorem mod2 (w : Int) : modT (.int w) (.int 2) = .ok (.int (w % 2)) := rfl
theorem mul_2 (j : Int) : mulT (.int 2) (.int j) = .ok (.int (2 * j)) := mul_c _ _ (.inl ⟨by decide, by decide⟩)
theorem ne_nil (xs : List T) : neC (.tup xs) (.tup []) = .ok (!xs.isEmpty) := by cases xs <;> rfl
abbrev lessE : En → R T := binE addT (slE (vE 5) (noO) (someO (vE 8))) (slE (vE 5) (someO (binE addT (vE 8) (cE (.int 1)))) (noO))
abbrev moreE : En → R T := binE addT (binE addT (slE (vE 5) (noO) (someO (vE 8))) (slE (vE 5) (someO (vE 8)) (someO (binE addT (vE 8) (cE (.int 1)))))) (slE (vE 5) (someO (vE 8)) (noO))
abbrev en9 (a : T) (k : Int) (t d p e : T) (g : List T) (w : Int) (j : Sl) : En := [.vl a, .vl (.int k), .vl t, .vl d, .vl p, .vl e, .vl (.lst g), .vl (.int w), j]
theorem drop_cons {xs : List T} {i : Nat} {x : T} (h : xs[i]? = some x) : xs.drop i = x :: xs.drop (i + 1) := by
  obtain ⟨hi, rfl⟩ := List.getElem?_eq_some_iff.mp h
  exact List.drop_eq_getElem_cons hi
theorem cutE_ok {a t d p : T} {g xs : List T} {k w : Int} {i : Nat} {x : T} (hx : xs[i]? = some x) (hl : xs.length ≤ lim) :
    lessE (en9 a k t d p (.tup xs) g w (.vl (.int (i : Int)))) = .ok (.tup (xs.take i ++ xs.drop (i + 1))) ∧
    moreE (en9 a k t d p (.tup xs) g w (.vl (.int (i : Int)))) = .ok (.tup (xs.take i ++ [x] ++ (x :: xs.drop (i + 1)))) := by
  have hi : i < xs.length := (List.getElem?_eq_some_iff.mp hx).1
  have hb := lim_bnd
  have e5 : vE 5 (en9 a k t d p (.tup xs) g w (.vl (.int (i : Int)))) = .ok (.tup xs) := rfl
  have e8 : vE 8 (en9 a k t d p (.tup xs) g w (.vl (.int (i : Int)))) = .ok (.int (i : Int)) := rfl
  have ea : addT (.int (i : Int)) (.int 1) = .ok (.int ((i + 1 : Nat) : Int)) := by
    rw [add_ii, Int.natCast_add]; rfl
  have eb : binE addT (vE 8) (cE (.int 1)) (en9 a k t d p (.tup xs) g w (.vl (.int (i : Int)))) = .ok (.int ((i + 1 : Nat) : Int)) := by
    rw [bin_eq, e8, bOk, c_eq, bOk, ea]
  have em : (xs.drop i).take (i + 1 - i) = [x] := by
    rw [drop_cons hx, show i + 1 - i = 1 from by omega]; rfl
  constructor
  · unfold lessE
    rw [bin_eq, sl_eq, e5, bOk, no_o, bOk, some_v e8, bOk, cut_hi hi, bOk, sl_eq, e5, bOk, some_v eb, bOk, no_o, bOk, cut_lo (by omega), bOk]
    exact add_tt (by rw [List.length_take, List.length_drop]; omega)
  · unfold moreE
    rw [bin_eq, bin_eq, sl_eq, e5, bOk, no_o, bOk, some_v e8, bOk, cut_hi hi, bOk, sl_eq, e5, bOk, some_v e8, bOk, some_v eb, bOk, cut_both (by omega) (by omega), bOk, em, add_tt (by rw [List.length_take, List.length_singleton]; omega), bOk, sl_eq, e5, bOk, some_v e8, bOk, no_o, bOk, cut_lo (by omega), bOk, ← drop_cons hx]
    exact add_tt (by rw [List.length_append, List.length_take, List.length_singleton, List.length_drop]; omega)
theorem cut_fit {D S : Nat} {xs : List T} {i : Nat} {x : T} (hx : xs[i]? = some x) (h : Fit D S (.tup xs)) : Fit (D + 2) (2 * S + 4) (.tup (xs.take i ++ xs.drop (i + 1))) ∧ Fit (D + 2) (2 * S + 4) (.tup (xs.take i ++ [x] ++ (x :: xs.drop (i + 1)))) := by
  obtain ⟨h1, h2, h3⟩ := h
  obtain ⟨q1, q2, q3, q4, q5⟩ := parts_fit hx
  obtain ⟨s1, s2, s3⟩ := q1 (sOk_tup h1)
  simp only [dep, siz] at h2 h3
  refine ⟨⟨?_, ?_, ?_⟩, ⟨?_, ?_, ?_⟩⟩
  · simp only [sOk, sOks_app]; exact ⟨s1, s3⟩
  · simp only [dep, deps_app]; omega
  · simp only [siz, sizs_app]; omega
  · simp only [sOk, sOks_app, sOks, and_true]; exact ⟨⟨s1, s2⟩, s2, s3⟩
  · simp only [dep, deps_app, deps]; omega
  · simp only [siz, sizs_app, sizs]; omega
/-- the last rows of the def: what is put when nothing written is -/
abbrev tailS (cp : List T → R T) (cput : List T → R T) : En → RS :=
    (seqS (ifS (andT (truT (ap1 (isiT "tuple") (vB 5))) (cmpT neC (vB 5) (tupE (nilA)))) (seqS (setS 8 (callE 3 cp (consA (vE 0) (consA (binE addT (vE 1) (cE (.int 2))) (consA (ap1 lenT (vB 5)) (nilA))))))
    (retS (callE 3 cput (consA (vE 2) (consA (vE 4) (consA (binE ixT (lstE (consA lessE (consA moreE (nilA)))) (binE modT (vE 7) (cE (.int 2)))) (nilA))))))) (nxS))
    (seqS (ifS (truT (ap1 (isiT "int") (vB 5))) (retS (callE 3 cput (consA (vE 2) (consA (vE 4) (consA (binE subT (binE addT (vE 5) (cE (.int 1))) (binE mulT (cE (.int 2)) (binE modT (vE 7) (cE (.int 2))))) (nilA)))))) (nxS))
    (retS (callE 3 cput (consA (vE 2) (consA (vE 4) (consA (tupE (consA (cE (.str "row")) (consA (tupE (consA (vE 5) (consA (vE 5) (nilA)))) (nilA)))) (nilA))))))))
theorem lst2 {f g : En → R T} {ρ : En} {x y : T} (hf : f ρ = .ok x) (hg : g ρ = .ok y) : lstE (consA f (consA g nilA)) ρ = .ok (.lst [x, y]) := by
  unfold lstE consA nilA
  rw [hf, hg]; rfl
theorem tail_tup (ns : List Int) {t d p : T} {g xs : List T} {k w : Int} (h0 : 0 ≤ k) {D S : Nat} (hl : S ≤ lim) (hF : Fit D S (.tup xs)) (hne : xs ≠ []) (H : ∀ v, Fit (D + 2) (2 * S + 4) v → ∃ r, f__law_put 40 [t, p, v] = .ok r) :
    ∃ v r, Fit (D + 2) (2 * S + 4) v ∧ f__law_put 40 [t, p, v] = .ok r ∧ outR (tailS f__law_pick (f__law_put 40) (en9 (scr ns) k t d p (.tup xs) g w .un)) = .ok r := by
  have hxl := sizs_len xs
  have hz := hF.sz
  simp only [siz] at hz
  have hpos : 0 < xs.length := List.length_pos_iff.mpr hne
  obtain ⟨q, hq, q0, q1⟩ := pick_ok ns (k + 2) (xs.length : Int) (by omega) (by omega)
  have hqi : q = ((q.toNat : Nat) : Int) := by omega
  have hqx : xs[q.toNat]? = some (xs[q.toNat]'(by omega)) := List.getElem?_eq_getElem (by omega)
  generalize xs[q.toNat]'(by omega) = x at hqx
  generalize q.toNat = i at hqi hqx
  subst hqi
  obtain ⟨c1, c2⟩ := cutE_ok (a := scr ns) (t := t) (d := d) (p := p) (g := g) (k := k) (w := w) hqx (by omega)
  obtain ⟨f1, f2⟩ := cut_fit hqx hF
  have ec : andT (truT (ap1 (isiT "tuple") (vB 5))) (cmpT neC (vB 5) (tupE (nilA))) (en9 (scr ns) k t d p (.tup xs) g w .un) = .ok true := by
    cases xs with
    | nil => exact (hne rfl).elim
    | cons _ _ => rfl
  have es : setS 8 (callE 3 f__law_pick (consA (vE 0) (consA (binE addT (vE 1) (cE (.int 2))) (consA (ap1 lenT (vB 5)) (nilA))))) (en9 (scr ns) k t d p (.tup xs) g w .un) = .nx (en9 (scr ns) k t d p (.tup xs) g w (.vl (.int (i : Int)))) := by
    rw [set_eq, call3, v0, bOk, bin_eq, v1, bOk, c_eq, bOk, add_ii, bOk, ap_eq, show vB 5 (en9 (scr ns) k t d p (.tup xs) g w .un) = .ok (.tup xs) from rfl, bOk, len_t, bOk, hq, sOkR]
    rfl
  have em : binE modT (vE 7) (cE (.int 2)) (en9 (scr ns) k t d p (.tup xs) g w (.vl (.int (i : Int)))) = .ok (.int (w % 2)) := rfl
  have hm : w % 2 = 0 ∨ w % 2 = 1 := by omega
  have go : ∀ v, binE ixT (lstE (consA lessE (consA moreE (nilA)))) (binE modT (vE 7) (cE (.int 2))) (en9 (scr ns) k t d p (.tup xs) g w (.vl (.int (i : Int)))) = .ok v → Fit (D + 2) (2 * S + 4) v → ∃ v r, Fit (D + 2) (2 * S + 4) v ∧ f__law_put 40 [t, p, v] = .ok r ∧ outR (tailS f__law_pick (f__law_put 40) (en9 (scr ns) k t d p (.tup xs) g w .un)) = .ok r := fun v hv fv => by
    obtain ⟨r, hr⟩ := H v fv
    refine ⟨v, r, fv, hr, ?_⟩
    have e1 := ret_put (i := .non) (j := .vl (.int (i : Int))) rfl hv hr
    unfold tailS
    rw [seq_eq, if_eq, ec, sOkR, if_pos rfl, seq_eq, es]
    dsimp only
    rw [ret_eq] at e1 ⊢
    rw [out_rt] at e1
    rw [e1]
    rfl
  rcases hm with hm | hm
  · exact go _ (by rw [bin_eq, lst2 c1 c2, bOk, em, bOk, hm]; rfl) f1
  · exact go _ (by rw [bin_eq, lst2 c1 c2, bOk, em, bOk, hm]; rfl) f2
end G

namespace G
open PySem L2 PV
abbrev intE : En → R T := binE subT (binE addT (vE 5) (cE (.int 1))) (binE mulT (cE (.int 2)) (binE modT (vE 7) (cE (.int 2))))
abbrev rowE : En → R T := tupE (consA (cE (.str "row")) (consA (tupE (consA (vE 5) (consA (vE 5) (nilA)))) (nilA)))
theorem fit_int {D S : Nat} (i : Int) : Fit (D + 2) (2 * S + 4) (.int i) := ⟨by simp only [sOk], by simp only [dep]; omega, by simp only [siz]; omega⟩
theorem fit_row {D S : Nat} {u : T} (h : Fit D S u) : Fit (D + 2) (2 * S + 4) (.tup [.str "row", .tup [u, u]]) := by
  obtain ⟨h1, h2, h3⟩ := h
  have hd := dep_pos u
  refine ⟨?_, ?_, ?_⟩
  · simp only [sOk, sOks, and_true]; exact ⟨by decide, h1, h1⟩
  · simp only [dep, deps]; omega
  · simp only [siz, sizs]; omega
theorem tail_row {cp : List T → R T} {a t d p u : T} {g : List T} {k w : Int} {r : T} (ht : andT (truT (ap1 (isiT "tuple") (vB 5))) (cmpT neC (vB 5) (tupE (nilA))) (en9 a k t d p u g w .un) = .ok false) (hi : isT "int" u = false)
    (hr : f__law_put 40 [t, p, .tup [.str "row", .tup [u, u]]] = .ok r) : outR (tailS cp (f__law_put 40) (en9 a k t d p u g w .un)) = .ok r := by
  have e1 := ret_put (f := rowE) (a := a) (b := .int k) (t := t) (d := d) (p := p) (e := u) (g := .lst g) (h := .int w) (i := .non) (j := .un) rfl (tup2 c_eq (tup2 rfl rfl)) hr
  have ei : truT (ap1 (isiT "int") (vB 5)) (en9 a k t d p u g w .un) = .ok false := by
    show tru (.bl (isT "int" u)) = _
    rw [hi]; rfl
  unfold tailS
  rw [seq_eq, if_eq, ht, sOkR, if_neg Bool.false_ne_true]
  unfold nxS
  dsimp only
  rw [seq_eq, if_eq, ei, sOkR, if_neg Bool.false_ne_true]
  exact e1
theorem tail_int {cp : List T → R T} {a t d p u : T} {g : List T} {k w i : Int} {r : T} (ht : isT "tuple" u = false) (hi : isT "int" u = true) (ha : addT u (.int 1) = .ok (.int i))
    (hr : f__law_put 40 [t, p, .int (i - 2 * (w % 2))] = .ok r) : outR (tailS cp (f__law_put 40) (en9 a k t d p u g w .un)) = .ok r := by
  have e0 : intE (en9 a k t d p u g w .un) = .ok (.int (i - 2 * (w % 2))) := by
    show ((addT u (.int 1)).bind fun x => (mulT (.int 2) (.int (w % 2))).bind fun y => subT x y) = _
    rw [ha, mul_2]
    rfl
  have e1 := ret_put (f := intE) (a := a) (b := .int k) (t := t) (d := d) (p := p) (e := u) (g := .lst g) (h := .int w) (i := .non) (j := .un) rfl e0 hr
  have et : andT (truT (ap1 (isiT "tuple") (vB 5))) (cmpT neC (vB 5) (tupE (nilA))) (en9 a k t d p u g w .un) = .ok false := by
    show (tru (.bl (isT "tuple" u))).bind (fun x => if x = true then _ else R.ok false) = _
    rw [ht]; rfl
  have ei : truT (ap1 (isiT "int") (vB 5)) (en9 a k t d p u g w .un) = .ok true := by
    show tru (.bl (isT "int" u)) = _
    rw [hi]; rfl
  unfold tailS
  rw [seq_eq, if_eq, et, sOkR, if_neg Bool.false_ne_true]
  unfold nxS
  dsimp only
  rw [seq_eq, if_eq, ei, sOkR, if_pos rfl]
  rw [ret_eq] at e1 ⊢
  rw [out_rt] at e1
  rw [e1]
  rfl
theorem tail_ok (ns : List Int) {t d p u : T} {g : List T} {k w : Int} (h0 : 0 ≤ k) {D S : Nat} (hl : S ≤ lim) (hF : Fit D S u) (H : ∀ v, Fit (D + 2) (2 * S + 4) v → ∃ r, f__law_put 40 [t, p, v] = .ok r) :
    ∃ v r, Fit (D + 2) (2 * S + 4) v ∧ f__law_put 40 [t, p, v] = .ok r ∧ outR (tailS f__law_pick (f__law_put 40) (en9 (scr ns) k t d p u g w .un)) = .ok r := by
  have row : andT (truT (ap1 (isiT "tuple") (vB 5))) (cmpT neC (vB 5) (tupE (nilA))) (en9 (scr ns) k t d p u g w .un) = .ok false → isT "int" u = false → ∃ v r, Fit (D + 2) (2 * S + 4) v ∧ f__law_put 40 [t, p, v] = .ok r ∧ outR (tailS f__law_pick (f__law_put 40) (en9 (scr ns) k t d p u g w .un)) = .ok r := fun e1 e2 => by
    obtain ⟨r, hr⟩ := H _ (fit_row hF)
    exact ⟨_, r, fit_row hF, hr, tail_row e1 e2 hr⟩
  have num : ∀ i, isT "tuple" u = false → isT "int" u = true → addT u (.int 1) = .ok (.int i) → ∃ v r, Fit (D + 2) (2 * S + 4) v ∧ f__law_put 40 [t, p, v] = .ok r ∧ outR (tailS f__law_pick (f__law_put 40) (en9 (scr ns) k t d p u g w .un)) = .ok r := fun i e1 e2 e3 => by
    obtain ⟨r, hr⟩ := H _ (fit_int (i - 2 * (w % 2)))
    exact ⟨_, r, fit_int _, hr, tail_int e1 e2 e3 hr⟩
  cases u with
  | tup xs =>
    by_cases hx : xs = []
    · subst hx; exact row rfl rfl
    · exact tail_tup ns h0 hl hF hx H
  | int i => exact num (i + 1) rfl rfl rfl
  | bl b => exact num (b2 b + 1) rfl rfl rfl
  | non => exact row rfl rfl
  | str x => exact row rfl rfl
  | lst x => exact row rfl rfl
  | fz x => exact row rfl rfl
theorem spoilt_ok (ns : List Int) (k : Int) (h0 : 0 ≤ k) {D S : Nat} (hD : D ≤ 40) (hS : S ≤ lim) {t : T} (hF : Fit D S t) :
    ∃ r, f__law_spoilt_thing [scr ns, .int k, t] = .ok r ∧ Fit (2 * D + 2) (3 * S + 4) r := by
  obtain ⟨ht, hd, hs⟩ := hF
  have hs' := Nat.le_trans hs hS
  obtain ⟨ps, hp, hp0, hpl, hpv⟩ := places_ok 40 t (Nat.le_trans hd hD) hs'
  have hp : f__law_places 40 [t] = .ok (.lst (ps.map pth)) := hp
  obtain ⟨q, hq, q0, q1⟩ := pick_ok ns k (ps.length : Int) h0 (by omega)
  obtain ⟨x, ex, hx⟩ := ixl (xs := ps.map pth) q0 (by rw [List.length_map]; exact q1)
  obtain ⟨p, hpm, rfl⟩ := List.mem_map.mp hx
  obtain ⟨u, hu⟩ := hpv p hpm
  obtain ⟨g1, g2, g3⟩ := get_fit p t u hu
  have hdu := dep_pos u
  have hUF : Fit D S u := ⟨g1 ht, by omega, by omega⟩
  have hput : ∀ v, f__law_put 40 [t, pth p, v] = .ok (putP t p v) := fun v => put_ok 40 p t u v (by omega) hs' hu
  have fin : ∀ v, Fit (D + 2) (2 * S + 4) v → Fit (2 * D + 2) (3 * S + 4) (putP t p v) := fun v hv => by
    obtain ⟨a, b, c⟩ := put_fit p t v ht hv.so
    have := hv.dp
    have := hv.sz
    exact ⟨a, by omega, by omega⟩
  obtain ⟨w, hw, w0', w1⟩ := pick_ok ns (k + 1) 23 (by omega) (by omega)
  have e : f__law_spoilt_thing [scr ns, .int k, t] = outR (b__law_spoilt_thing f__law_pick (f__law_places 40) f__law_at (f__law_put 40) [.vl (scr ns), .vl (.int k), .vl t, .un, .un, .un, .un, .un, .un]) := rfl
  have e1 : setS 3 (callE 1 (f__law_places 40) (consA (vE 2) (nilA))) [.vl (scr ns), .vl (.int k), .vl t, .un, .un, .un, .un, .un, .un] = .nx [.vl (scr ns), .vl (.int k), .vl t, .vl (.lst (ps.map pth)), .un, .un, .un, .un, .un] := by
    rw [set_eq, call1, v2, bOk, hp, sOkR]; rfl
  have e2 : setS 4 (binE ixT (vE 3) (callE 3 f__law_pick (consA (vE 0) (consA (vE 1) (consA (ap1 lenT (vB 3)) (nilA)))))) [.vl (scr ns), .vl (.int k), .vl t, .vl (.lst (ps.map pth)), .un, .un, .un, .un, .un] = .nx [.vl (scr ns), .vl (.int k), .vl t, .vl (.lst (ps.map pth)), .vl (pth p), .un, .un, .un, .un] := by
    rw [set_eq, bin_eq, v3, bOk, call3, v0, bOk, v1, bOk, ap_eq, w3, bOk, len_l, bOk, List.length_map, hq, bOk, ex, sOkR]; rfl
  have e3 : setS 5 (callE 2 f__law_at (consA (vE 2) (consA (vE 4) (nilA)))) [.vl (scr ns), .vl (.int k), .vl t, .vl (.lst (ps.map pth)), .vl (pth p), .un, .un, .un, .un] = .nx [.vl (scr ns), .vl (.int k), .vl t, .vl (.lst (ps.map pth)), .vl (pth p), .vl u, .un, .un, .un] := by
    rw [set_eq, call2, v2, bOk, v4, bOk, at_ok hu, sOkR]; rfl
  rw [e, b__law_spoilt_thing, seq_eq, e1]
  dsimp only
  rw [seq_eq, e2]
  dsimp only
  rw [seq_eq, e3]
  dsimp only
  rw [seq_eq]
  have e4 : setS 6 (lstE (consA (cE (.int 0)) (consA (cE (.int 1)) (consA (negE (cE (.int 21))) (consA (cE (.int 21)) (consA (cE (.int 3)) (consA (cE (.int 4)) (consA (cE (.bl true)) (consA (cE .non) (consA (cE (.str "a")) (consA (cE (.str "abcd")) (consA (cE (.str "A")) (consA (cE (.str "")) (consA (cE (.str "many")) (consA (cE (.str "row")) (consA (tupE (nilA)) (consA (tupE (consA (vE 5) (nilA))) (consA (lstE (consA (vE 5) (nilA))) (consA (tupE (consA (cE (.str "whole")) (consA (cE (.int 1)) (consA (cE (.int 0)) (nilA))))) (nilA)))))))))))))))))))) [.vl (scr ns), .vl (.int k), .vl t, .vl (.lst (ps.map pth)), .vl (pth p), .vl u, .un, .un, .un] = .nx [.vl (scr ns), .vl (.int k), .vl t, .vl (.lst (ps.map pth)), .vl (pth p), .vl u, .vl (.lst (some18 u)), .un, .un] := rfl
  rw [e4]
  dsimp only
  have e5 : setS 7 (callE 3 f__law_pick (consA (vE 0) (consA (binE addT (vE 1) (cE (.int 1))) (consA (binE addT (ap1 lenT (vB 6)) (cE (.int 5))) (nilA))))) [.vl (scr ns), .vl (.int k), .vl t, .vl (.lst (ps.map pth)), .vl (pth p), .vl u, .vl (.lst (some18 u)), .un, .un] = .nx (en9 (scr ns) k t (.lst (ps.map pth)) (pth p) u (some18 u) w .un) := by
    rw [set_eq, call3, v0, bOk, bin_eq, v1, bOk, c_eq, bOk, add_ii, bOk]
    rw [show binE addT (ap1 lenT (vB 6)) (cE (.int 5)) [.vl (scr ns), .vl (.int k), .vl t, .vl (.lst (ps.map pth)), .vl (pth p), .vl u, .vl (.lst (some18 u)), .un, .un] = .ok (.int 23) from rfl, bOk, hw, sOkR]
    rfl
  rw [seq_eq, e5]
  dsimp only
  rw [seq_eq, if_eq]
  have e6 : cmpT ltC (vB 7) (ap1 lenT (vB 6)) (en9 (scr ns) k t (.lst (ps.map pth)) (pth p) u (some18 u) w .un) = .ok (decide (w < 18)) := rfl
  rw [e6, sOkR]
  by_cases h18 : w < 18
  · rw [decide_eq_true h18, if_pos rfl]
    obtain ⟨v, ev, hv⟩ := ixl (xs := some18 u) w0' (by show w < 18; exact h18)
    have hfv := some18_fit hUF v hv
    have er := ret_put (f := binE ixT (vE 6) (vE 7)) (a := scr ns) (b := .int k) (t := t) (d := .lst (ps.map pth)) (p := pth p) (e := u) (g := .lst (some18 u)) (h := .int w) (i := .non) (j := .un) rfl (show ixT (.lst (some18 u)) (.int w) = .ok v from ev) (hput v)
    refine ⟨_, ?_, fin v hfv⟩
    rw [ret_eq] at er ⊢
    rw [out_rt] at er
    rw [er]
    rfl
  · rw [decide_eq_false h18, if_neg Bool.false_ne_true]
    obtain ⟨v, r, hfv, hr, et⟩ := tail_ok ns (t := t) (d := .lst (ps.map pth)) (p := pth p) (u := u) (g := some18 u) (k := k) (w := w) h0 hS hUF fun v _ => ⟨_, hput v⟩
    rw [hput v] at hr
    cases hr
    exact ⟨_, et, fin v hfv⟩
end G

namespace G
open PySem L2 PV
theorem mul_20 (j : Int) : mulT (.int 20) (.int j) = .ok (.int (20 * j)) := mul_c _ _ (.inl ⟨by decide, by decide⟩)
theorem ne_bl (b : Bool) : neC (.bl b) (.bl b) = .ok false := by cases b <;> rfl
abbrev loopB (ck cp cl cs : List T → R T) : En → RS := (seqS (setS 4 (callE 3 cs (consA (vE 0) (consA (binE addT (cE (.int 1800)) (binE mulT (cE (.int 20)) (vE 3))) (consA (vE 1) (nilA))))))
    (seqS (ifS (andT (cmpT eqC (callE 3 cp (consA (vE 0) (consA (binE addT (cE (.int 1810)) (binE mulT (cE (.int 20)) (vE 3))) (consA (cE (.int 3)) (nilA))))) (cE (.int 0))) (truT (ap1 (isiT "tuple") (vB 4)))) (setS 4 (callE 3 cs (consA (vE 0) (consA (binE addT (cE (.int 1812)) (binE mulT (cE (.int 20)) (vE 3))) (consA (vE 4) (nilA)))))) (nxS))
    (seqS (setS 5 (callE 1 ck (consA (vE 4) (nilA))))
    (ifS (orT (cmpT neC (vB 5) (callE 2 cl (consA (vE 4) (consA (cE (.int 3)) (nilA))))) (notT (truT (ap1 (isiT "bool") (vB 5))))) (retS (cE (.bl false))) (nxS)))))
abbrev en10 (ns : List Int) (a b : T) (x y z : Sl) : En := [.vl (scr ns), .vl a, .vl b, x, y, z, .un, .un, .un, .un]
theorem ar_20 (ns : List Int) {a b : T} {y z : Sl} {j c : Int} : binE addT (cE (.int c)) (binE mulT (cE (.int 20)) (vE 3)) (en10 ns a b (.vl (.int j)) y z) = .ok (.int (c + 20 * j)) := by
  rw [bin_eq, c_eq, bOk, bin_eq, c_eq, bOk, v3, bOk, mul_20, bOk, add_ii]
theorem loop_turn (ns : List Int) {a b : T} {D S : Nat} (hD : D ≤ 19) (hS : 3 * S + 4 ≤ lim) (hF : Fit D S a) (j : Nat) (y z : Sl) :
    ∃ y' z', loopB f_is_kind f__law_pick (f__law_is_kind 12) f__law_spoilt_thing (en10 ns a b (.vl (.int (0 + (j : Int)))) y z) = .nx (en10 ns a b (.vl (.int (0 + (j : Int)))) y' z') := by
  generalize hj : (0 + (j : Int)) = jj
  have hj0 : 0 ≤ jj := by omega
  obtain ⟨r1, h1, f1⟩ := spoilt_ok ns (1800 + 20 * jj) (by omega) (by omega) (by omega) hF
  obtain ⟨r2, h2, f2⟩ := spoilt_ok ns (1812 + 20 * jj) (by omega) (by omega) hS f1
  obtain ⟨q, hq, _, _⟩ := pick_ok ns (1810 + 20 * jj) 3 (by omega) (by omega)
  have e1 : setS 4 (callE 3 f__law_spoilt_thing (consA (vE 0) (consA (binE addT (cE (.int 1800)) (binE mulT (cE (.int 20)) (vE 3))) (consA (vE 1) (nilA))))) (en10 ns a b (.vl (.int jj)) y z) = .nx (en10 ns a b (.vl (.int jj)) (.vl r1) z) := by
    rw [set_eq, call3, v0, bOk, ar_20, bOk, v1, bOk, h1, sOkR]; rfl
  have e2 : ∃ r, sOk r ∧ ifS (andT (cmpT eqC (callE 3 f__law_pick (consA (vE 0) (consA (binE addT (cE (.int 1810)) (binE mulT (cE (.int 20)) (vE 3))) (consA (cE (.int 3)) (nilA))))) (cE (.int 0))) (truT (ap1 (isiT "tuple") (vB 4)))) (setS 4 (callE 3 f__law_spoilt_thing (consA (vE 0) (consA (binE addT (cE (.int 1812)) (binE mulT (cE (.int 20)) (vE 3))) (consA (vE 4) (nilA)))))) (nxS) (en10 ns a b (.vl (.int jj)) (.vl r1) z) = .nx (en10 ns a b (.vl (.int jj)) (.vl r) z) := by
    have ec : andT (cmpT eqC (callE 3 f__law_pick (consA (vE 0) (consA (binE addT (cE (.int 1810)) (binE mulT (cE (.int 20)) (vE 3))) (consA (cE (.int 3)) (nilA))))) (cE (.int 0))) (truT (ap1 (isiT "tuple") (vB 4))) (en10 ns a b (.vl (.int jj)) (.vl r1) z) = .ok ((q == 0) && isT "tuple" r1) := by
      rw [andT_eq, cmpT_eq, call3, v0, bOk, ar_20, bOk, c_eq, bOk, hq, bOk, c_eq, bOk, eqI, bOk]
      rw [show truT (ap1 (isiT "tuple") (vB 4)) (en10 ns a b (.vl (.int jj)) (.vl r1) z) = .ok (isT "tuple" r1) from rfl]
      cases (q == 0) <;> rfl
    rw [if_eq, ec, sOkR]
    cases hk : ((q == 0) && isT "tuple" r1) with
    | true =>
      refine ⟨r2, f2.so, ?_⟩
      rw [if_pos rfl, set_eq, call3, v0, bOk, ar_20, bOk, v4, bOk, h2, sOkR]; rfl
    | false => exact ⟨r1, f1.so, by rw [if_neg Bool.false_ne_true]; rfl⟩
  obtain ⟨r, hr, e2⟩ := e2
  have e3 : setS 5 (callE 1 f_is_kind (consA (vE 4) (nilA))) (en10 ns a b (.vl (.int jj)) (.vl r) z) = .nx (en10 ns a b (.vl (.int jj)) (.vl r) (.vl (.bl (isK 3 r)))) := by
    rw [set_eq, call1, v4, bOk, is_kind_eq r hr, sOkR]; rfl
  have e4 : orT (cmpT neC (vB 5) (callE 2 (f__law_is_kind 12) (consA (vE 4) (consA (cE (.int 3)) (nilA))))) (notT (truT (ap1 (isiT "bool") (vB 5)))) (en10 ns a b (.vl (.int jj)) (.vl r) (.vl (.bl (isK 3 r)))) = .ok false := by
    rw [or_eq, cmpT_eq, w5, bOk, call2, v4, bOk, c_eq, bOk, law_is_kind_eq r hr, bOk, ne_bl, bOk, if_neg Bool.false_ne_true]
    rfl
  refine ⟨.vl r, .vl (.bl (isK 3 r)), ?_⟩
  unfold loopB
  rw [seq_eq, e1]
  dsimp only
  rw [seq_eq, e2]
  dsimp only
  rw [seq_eq, e3]
  dsimp only
  rw [if_eq, e4, sOkR, if_neg Bool.false_ne_true]
  rfl
theorem loop_ok (ns : List Int) {a b : T} {D S : Nat} (hD : D ≤ 19) (hS : 3 * S + 4 ≤ lim) (hF : Fit D S a) : ∀ (js : List Nat) (x y z : Sl),
    ∃ x' y' z', forL (setG 3) (loopB f_is_kind f__law_pick (f__law_is_kind 12) f__law_spoilt_thing) (js.map fun (j : Nat) => T.int (0 + (j : Int))) (en10 ns a b x y z) = .nx (en10 ns a b x' y' z')
  | [], x, y, z => ⟨x, y, z, rfl⟩
  | j :: js, x, y, z => by
    obtain ⟨y1, z1, h⟩ := loop_turn ns (b := b) hD hS hF j y z
    obtain ⟨x', y', z', ih⟩ := loop_ok ns (b := b) hD hS hF js (.vl (.int (0 + (j : Int)))) y1 z1
    refine ⟨x', y', z', ?_⟩
    have e : forL (setG 3) (loopB f_is_kind f__law_pick (f__law_is_kind 12) f__law_spoilt_thing) ((j :: js).map fun (j : Nat) => T.int (0 + (j : Int))) (en10 ns a b x y z) = match loopB f_is_kind f__law_pick (f__law_is_kind 12) f__law_spoilt_thing (en10 ns a b (.vl (.int (0 + (j : Int)))) y z) with
      | .nx ρ2 => forL (setG 3) (loopB f_is_kind f__law_pick (f__law_is_kind 12) f__law_spoilt_thing) (js.map fun (j : Nat) => T.int (0 + (j : Int))) ρ2
      | .ct ρ2 => forL (setG 3) (loopB f_is_kind f__law_pick (f__law_is_kind 12) f__law_spoilt_thing) (js.map fun (j : Nat) => T.int (0 + (j : Int))) ρ2
      | .bk ρ2 => .nx ρ2
      | r => r := rfl
    rw [e, h]
    exact ih
end G

namespace G
open PySem L2 PV
abbrev preS (K : En → RS) : En → RS := (seqS (setL 6 (consA (cE .non) (consA (cE (.int 5)) (consA (cE (.str "whole")) (consA (tupE (nilA)) (consA (lstE (nilA)) (consA (tupE (consA (cE (.str "whole")) (consA (cE (.int 0)) (consA (cE (.int 0)) (consA (cE (.int 0)) (nilA)))))) (consA (tupE (consA (cE (.str "pick")) (consA (tupE (nilA)) (nilA)))) (consA (lstE (consA (cE (.str "whole")) (consA (cE (.int 0)) (consA (cE (.int 1)) (nilA))))) (nilA))))))))))
    (seqS (appS 6 (tupE (consA (cE (.str "many")) (consA (tupE (consA (cE (.str "whole")) (consA (cE (.int 0)) (consA (cE (.int 1)) (nilA))))) (consA (cE (.int 0)) (consA (cE (.bl true)) (nilA)))))))
    (seqS (parS 7 8 (consA (tupE (consA (cE (.str "whole")) (consA (cE (.int 0)) (consA (cE (.int 1)) (nilA))))) (consA (lstE (consA (cE (.str "a")) (consA (cE (.str "b")) (consA (cE (.str "abc")) (consA (cE (.str "z")) (consA (cE (.str "y")) (nilA))))))) (nilA))))
    (seqS (extS 6 (lstE (consA (tupE (consA (cE (.str "pick")) (consA (ap1 tupT (compE (anyI (vE 8)) (setG 0) (noIf) (tupE (consA (vE 0) (consA (cE (.int 1)) (nilA)))) 1 [])) (nilA)))) (consA (tupE (consA (cE (.str "row")) (consA (binE mulT (tupE (consA (vE 7) (nilA))) (cE (.int 4))) (nilA)))) (consA (tupE (consA (cE (.str "row")) (consA (tupE (nilA)) (nilA)))) (consA (tupE (consA (cE (.str "many")) (consA (vE 7) (consA (cE (.int 0)) (consA (cE (.int 4)) (nilA)))))) (nilA)))))))
    (seqS (extS 6 (lstE (consA (tupE (consA (cE (.str "pick")) (consA (tupE (consA (tupE (consA (cE (.str "abcd")) (consA (cE (.int 1)) (nilA)))) (nilA))) (nilA)))) (consA (tupE (consA (cE (.str "pick")) (consA (tupE (consA (tupE (consA (cE (.str "")) (consA (cE (.int 1)) (nilA)))) (nilA))) (nilA)))) (consA (tupE (consA (cE (.str "pick")) (consA (tupE (consA (tupE (consA (cE (.str "a")) (consA (cE (.int 0)) (nilA)))) (nilA))) (nilA)))) (consA (tupE (consA (cE (.str "pick")) (consA (tupE (consA (tupE (consA (cE (.str "a")) (consA (cE (.int 21)) (nilA)))) (nilA))) (nilA)))) (nilA)))))))
    (seqS (extS 6 (lstE (consA (tupE (consA (cE (.str "whole")) (consA (negE (cE (.int 21))) (consA (cE (.int 0)) (nilA))))) (consA (tupE (consA (cE (.str "whole")) (consA (cE (.int 0)) (consA (cE (.int 21)) (nilA))))) (consA (tupE (consA (cE (.str "whole")) (consA (cE (.int 1)) (consA (cE (.int 0)) (nilA))))) (consA (tupE (consA (cE (.str "many")) (consA (vE 7) (consA (cE (.int 2)) (consA (cE (.int 1)) (nilA)))))) (nilA)))))))
    (seqS (extS 6 (lstE (consA (tupE (consA (cE (.str "pick")) (consA (tupE (consA (tupE (consA (cE (.str "a")) (consA (cE (.int 1)) (nilA)))) (consA (tupE (consA (cE (.str "a")) (consA (cE (.int 2)) (nilA)))) (nilA)))) (nilA)))) (consA (tupE (consA (cE (.str "pick")) (consA (tupE (consA (tupE (consA (cE (.str "aB")) (consA (cE (.int 1)) (nilA)))) (nilA))) (nilA)))) (consA (tupE (consA (cE (.str "pick")) (consA (tupE (consA (tupE (consA (cE (.str "a1")) (consA (cE (.int 1)) (nilA)))) (nilA))) (nilA)))) (nilA))))))
    (seqS (setL 9 (consA (tupE (consA (cE (.str "pick")) (consA (ap1 tupT (compE (anyI (slE (vE 8) (noO) (someO (cE (.int 4))))) (setG 0) (noIf) (tupE (consA (vE 0) (consA (cE (.int 20)) (nilA)))) 1 [])) (nilA)))) (consA (tupE (consA (cE (.str "row")) (consA (binE mulT (tupE (consA (vE 7) (nilA))) (cE (.int 3))) (nilA)))) (consA (tupE (consA (cE (.str "many")) (consA (vE 7) (consA (cE (.int 0)) (consA (cE (.int 3)) (nilA)))))) (nilA)))))
    (seqS (appS 9 (tupE (consA (cE (.str "whole")) (consA (negE (cE (.int 20))) (consA (cE (.int 20)) (nilA))))))
    K)))))))))
abbrev lastS (c_is_kind : List T → R T) : En → RS := (retS (cmpE eqC (compE (anyI (binE addT (vE 6) (vE 9))) (setG 0) (noIf) (callE 1 c_is_kind (consA (vE 0) (nilA))) 1 []) (binE addT (binE mulT (lstE (consA (cE (.bl false)) (nilA))) (cE (.int 24))) (binE mulT (lstE (consA (cE (.bl true)) (nilA))) (cE (.int 4))))))
def one1 : T := .tup [.str "whole", .int 0, .int 1]
def wd (w : Str) (i : Int) : T := .tup [.str w, .int i]
def pk (cs : List T) : T := .tup [.str "pick", .tup cs]
def wh (i j : Int) : T := .tup [.str "whole", .int i, .int j]
def mn (t : T) (i j : Int) : T := .tup [.str "many", t, .int i, .int j]
def rw' (ts : List T) : T := .tup [.str "row", .tup ts]
def odd24 : List T := [.non, .int 5, .str "whole", .tup [], .lst [], .tup [.str "whole", .int 0, .int 0, .int 0], pk [], .lst [.str "whole", .int 0, .int 1],
  .tup [.str "many", one1, .int 0, .bl true],
  pk [wd "a" 1, wd "b" 1, wd "abc" 1, wd "z" 1, wd "y" 1], rw' [one1, one1, one1, one1], rw' [], mn one1 0 4,
  pk [wd "abcd" 1], pk [wd "" 1], pk [wd "a" 0], pk [wd "a" 21],
  wh (-21) 0, wh 0 21, wh 1 0, mn one1 2 1,
  pk [wd "a" 1, wd "a" 2], pk [wd "aB" 1], pk [wd "a1" 1]]
def good4 : List T := [pk [wd "a" 20, wd "b" 20, wd "abc" 20, wd "z" 20], rw' [one1, one1, one1], mn one1 0 3, wh (-20) 20]
def words5 : T := .lst [.str "a", .str "b", .str "abc", .str "z", .str "y"]
theorem pre_ok (K : En → RS) (ns : List Int) (a b : T) (x y z : Sl) : preS K (en10 ns a b x y z) = K [.vl (scr ns), .vl a, .vl b, x, y, z, .ow odd24, .vl one1, .vl words5, .ow good4] := rfl
theorem kinds28 : (odd24 ++ good4).map (isK 3) = List.replicate 24 false ++ List.replicate 4 true := by decide +kernel
theorem so28 : sOks (odd24 ++ good4) := by
  simp only [odd24, good4, one1, wd, pk, wh, mn, rw', List.cons_append, List.nil_append, sOks, sOk, and_true, true_and]
  decide +kernel
end G

namespace G
open PySem L2 PV
theorem last_ok (a b c d e f h i : Sl) : outR (lastS f_is_kind [a, b, c, d, e, f, .ow odd24, h, i, .ow good4]) = .ok (.bl true) := by
  have hz : frz [a, b, c, d, e, f, .ow odd24, h, i, .ow good4] = [frz1 a, frz1 b, frz1 c, frz1 d, frz1 e, frz1 f, .vl (.lst odd24), frz1 h, frz1 i, .vl (.lst good4)] := rfl
  unfold lastS
  rw [ret_eq, hz, out_rt, cmpE_eq, comp_eq]
  generalize frz1 a = a
  generalize frz1 b = b
  generalize frz1 c = c
  generalize frz1 d = d
  generalize frz1 e = e
  generalize frz1 f = f
  generalize frz1 h = h
  generalize frz1 i = i
  have e1 : anyI (binE addT (vE 6) (vE 9)) [a, b, c, d, e, f, .vl (.lst odd24), h, i, .vl (.lst good4)] = .ok (odd24 ++ good4) := rfl
  have e2 : compR (setG 0) noIf (callE 1 f_is_kind (consA (vE 0) (nilA))) 1 [] [a, b, c, d, e, f, .vl (.lst odd24), h, i, .vl (.lst good4)] (odd24 ++ good4) = .ok ((odd24 ++ good4).map fun t => T.bl (isK 3 t)) :=
    compR_map (h := fun t => T.bl (isK 3 t)) _ (by decide +kernel) fun t ht => by
      show callE 1 f_is_kind (consA (vE 0) (nilA)) [.vl t] = _
      rw [call1, v0, bOk]
      exact is_kind_eq t (sOks_mem so28 ht)
  have e3 : ((odd24 ++ good4).map fun t => T.bl (isK 3 t)) = (List.replicate 24 false ++ List.replicate 4 true).map T.bl := by
    rw [← kinds28, List.map_map]; rfl
  rw [e1, bOk, e2, bOk, e3]
  rfl
theorem deep_ok (ns : List Int) : ∃ t, sOk t ∧ ∀ a x y z : Sl, setS 2 (tupE (consA (cE (.str "row")) (consA (tupE (consA (callE 3 (f__law_kind 8) (consA (vE 0) (consA (cE (.int 900)) (consA (cE (.int 3)) (nilA))))) (consA (tupE (consA (cE (.str "whole")) (consA (cE (.int 0)) (consA (cE (.int 0)) (nilA))))) (nilA)))) (nilA)))) [.vl (scr ns), a, x, y, z, .un, .un, .un, .un, .un] = .nx [.vl (scr ns), a, .vl t, y, z, .un, .un, .un, .un, .un] := by
  obtain ⟨k, hk, hi⟩ := kind_ok ns 3 8 (by omega) (by omega) 900 (by omega)
  have hk : f__law_kind 8 [scr ns, .int 900, .int 3] = .ok k := hk
  have hso := (kind_fit 3 k hi).so
  refine ⟨.tup [.str "row", .tup [k, .tup [.str "whole", .int 0, .int 0]]], ?_, fun a x y z => ?_⟩
  · simp only [sOk, sOks, and_true]
    exact ⟨by decide, hso, by decide⟩
  · have ec : callE 3 (f__law_kind 8) (consA (vE 0) (consA (cE (.int 900)) (consA (cE (.int 3)) (nilA)))) [.vl (scr ns), a, x, y, z, .un, .un, .un, .un, .un] = .ok k := by
      rw [call3, v0, bOk, c_eq, bOk, c_eq, bOk, hk]
    rw [set_eq, tup2 c_eq (tup2 ec (tup3 c_eq c_eq c_eq)), sOkR]
    rfl
theorem nxS_eq (ρ : En) : nxS ρ = .nx ρ := rfl
theorem law_ok (ns : List Int) (h : ns.length ≤ 63) : f_law [.fz (ns.map T.int)] = .ok (.bl true) := by
  obtain ⟨a, ha, hi⟩ := kind_ok ns 3 8 (by omega) (by omega) 0 (by omega)
  have ha : f__law_kind 8 [scr ns, .int 0, .int 3] = .ok a := ha
  have hF := kind_fit 3 a hi
  obtain ⟨b, hb, eb⟩ := deep_ok ns
  have hb' := lim_bnd
  obtain ⟨x, y, z, el⟩ := loop_ok ns (b := b) (D := 8) (S := 15 * 4 ^ 3) (by omega) (by decide) hF (List.range 5) .un .un .un
  have e : f_law [scr ns] = outR (b_law f_is_kind f__law_pick (f__law_kind 8) (f__law_is_kind 12) f__law_spoilt_thing [.vl (scr ns), .un, .un, .un, .un, .un, .un, .un, .un, .un]) := rfl
  have e1 : setS 1 (callE 3 (f__law_kind 8) (consA (vE 0) (consA (cE (.int 0)) (consA (cE (.int 3)) (nilA))))) [.vl (scr ns), .un, .un, .un, .un, .un, .un, .un, .un, .un] = .nx [.vl (scr ns), .vl a, .un, .un, .un, .un, .un, .un, .un, .un] := by
    rw [set_eq, call3, v0, bOk, c_eq, bOk, c_eq, bOk, ha, sOkR]; rfl
  have e2 : orT (cmpT isnNC (callE 1 f_is_kind (consA (vE 1) (nilA))) (cE (.bl true))) (cmpT isnNC (callE 2 (f__law_is_kind 12) (consA (vE 1) (consA (cE (.int 3)) (nilA)))) (cE (.bl true))) [.vl (scr ns), .vl a, .un, .un, .un, .un, .un, .un, .un, .un] = .ok false := by
    rw [or_eq, cmpT_eq, call1, v1, bOk, is_kind_eq a hF.so, hi, bOk, c_eq, bOk, cmpT_eq, call2, v1, bOk, c_eq, bOk, law_is_kind_eq a hF.so, hi, bOk, c_eq, bOk]
    rfl
  have e4 : cmpT neC (callE 1 f_is_kind (consA (vE 2) (nilA))) (callE 2 (f__law_is_kind 12) (consA (vE 2) (consA (cE (.int 3)) (nilA)))) [.vl (scr ns), .vl a, .vl b, .un, .un, .un, .un, .un, .un, .un] = .ok false := by
    rw [cmpT_eq, call1, v2, bOk, is_kind_eq b hb, bOk, call2, v2, bOk, c_eq, bOk, law_is_kind_eq b hb, bOk, ne_bl]
  have e5 : forS (rng1I (cE (.int 5))) (setG 3) (loopB f_is_kind f__law_pick (f__law_is_kind 12) f__law_spoilt_thing) [.vl (scr ns), .vl a, .vl b, .un, .un, .un, .un, .un, .un, .un] = .nx (en10 ns a b x y z) := el
  show f_law [scr ns] = _
  rw [e, b_law, seq_eq, e1]
  dsimp only
  rw [seq_eq, if_eq, e2, sOkR, if_neg Bool.false_ne_true, nxS_eq]
  dsimp only
  rw [seq_eq, eb]
  dsimp only
  rw [seq_eq, if_eq, e4, sOkR, if_neg Bool.false_ne_true, nxS_eq]
  dsimp only
  rw [seq_eq, e5]
  dsimp only
  have ep := pre_ok (lastS f_is_kind) ns a b x y z
  unfold preS at ep
  rw [ep]
  exact last_ok _ _ _ _ _ _ _ _
end G

namespace G
open PySem PySem.Spec PyProof.Rows L2 PV
def top (i : Nat) : Stmt := PySem.Challenge.pw_worthkinds_k01_kinds.main.body.getD i (.Pass ⟨0, 0, 0, 0⟩)
abbrev s__law_cell : Stmt := top 12
abbrev N__law_cell : List Str := ["_law_script", "_law_k"]
theorem sc__law_cell : FnScope N__law_cell ["_law_script", "_law_k"] (defScope s__law_cell) := ⟨rfl, rfl, rfl, by decide +kernel, rfl, by decide +kernel, by decide +kernel⟩
abbrev s__law_pick : Stmt := top 13
abbrev N__law_pick : List Str := ["_law_script", "_law_k", "_law_many", "_law_drawn"]
theorem sc__law_pick : FnScope N__law_pick ["_law_script", "_law_k", "_law_many"] (defScope s__law_pick) := ⟨rfl, rfl, rfl, by decide +kernel, rfl, by decide +kernel, by decide +kernel⟩
abbrev s__law_word_of : Stmt := top 14
abbrev N__law_word_of : List Str := ["_law_script", "_law_at_here", "_law_letters"]
theorem sc__law_word_of : FnScope N__law_word_of ["_law_script", "_law_at_here"] (defScope s__law_word_of) := ⟨rfl, rfl, rfl, by decide +kernel, rfl, by decide +kernel, by decide +kernel⟩
abbrev s__law_leaf_kind : Stmt := top 15
abbrev N__law_leaf_kind : List Str := ["_law_script", "_law_at_here", "_law_low", "_law_words", "_law_k", "_law_word"]
theorem sc__law_leaf_kind : FnScope N__law_leaf_kind ["_law_script", "_law_at_here"] (defScope s__law_leaf_kind) := ⟨rfl, rfl, rfl, by decide +kernel, rfl, by decide +kernel, by decide +kernel⟩
abbrev s__law_kind : Stmt := top 16
abbrev N__law_kind : List Str := ["_law_script", "_law_at_here", "_law_deep", "_law_way", "_law_some", "_law_low"]
theorem sc__law_kind : FnScope N__law_kind ["_law_script", "_law_at_here", "_law_deep"] (defScope s__law_kind) := ⟨rfl, rfl, rfl, by decide +kernel, rfl, by decide +kernel, by decide +kernel⟩
abbrev s_is_whole : Stmt := top 3
abbrev N_is_whole : List Str := ["thing"]
theorem sc_is_whole : FnScope N_is_whole ["thing"] (defScope s_is_whole) := ⟨rfl, rfl, rfl, by decide +kernel, rfl, by decide +kernel, by decide +kernel⟩
abbrev s_is_span : Stmt := top 6
abbrev N_is_span : List Str := ["low", "high", "least", "most"]
theorem sc_is_span : FnScope N_is_span ["low", "high", "least", "most"] (defScope s_is_span) := ⟨rfl, rfl, rfl, by decide +kernel, rfl, by decide +kernel, by decide +kernel⟩
abbrev s_is_tuple_of : Stmt := top 4
abbrev N_is_tuple_of : List Str := ["thing", "least", "most"]
theorem sc_is_tuple_of : FnScope N_is_tuple_of ["thing", "least", "most"] (defScope s_is_tuple_of) := ⟨rfl, rfl, rfl, by decide +kernel, rfl, by decide +kernel, by decide +kernel⟩
abbrev s_is_word : Stmt := top 5
abbrev N_is_word : List Str := ["thing"]
theorem sc_is_word : FnScope N_is_word ["thing"] (defScope s_is_word) := ⟨rfl, rfl, rfl, by decide +kernel, rfl, by decide +kernel, by decide +kernel⟩
abbrev s_is_choice : Stmt := top 9
abbrev N_is_choice : List Str := ["thing"]
theorem sc_is_choice : FnScope N_is_choice ["thing"] (defScope s_is_choice) := ⟨rfl, rfl, rfl, by decide +kernel, rfl, by decide +kernel, by decide +kernel⟩
abbrev s_are_choices : Stmt := top 8
abbrev N_are_choices : List Str := ["thing", "words"]
theorem sc_are_choices : FnScope N_are_choices ["thing"] (defScope s_are_choices) := ⟨rfl, rfl, rfl, by decide +kernel, rfl, by decide +kernel, by decide +kernel⟩
abbrev s_is_kind_within : Stmt := top 7
abbrev N_is_kind_within : List Str := ["thing", "levels"]
theorem sc_is_kind_within : FnScope N_is_kind_within ["thing", "levels"] (defScope s_is_kind_within) := ⟨rfl, rfl, rfl, by decide +kernel, rfl, by decide +kernel, by decide +kernel⟩
abbrev s_are_kinds_within : Stmt := top 10
abbrev N_are_kinds_within : List Str := ["thing", "levels"]
theorem sc_are_kinds_within : FnScope N_are_kinds_within ["thing", "levels"] (defScope s_are_kinds_within) := ⟨rfl, rfl, rfl, by decide +kernel, rfl, by decide +kernel, by decide +kernel⟩
abbrev s_is_kind : Stmt := top 2
abbrev N_is_kind : List Str := ["thing"]
theorem sc_is_kind : FnScope N_is_kind ["thing"] (defScope s_is_kind) := ⟨rfl, rfl, rfl, by decide +kernel, rfl, by decide +kernel, by decide +kernel⟩
abbrev s__law_whole : Stmt := top 21
abbrev N__law_whole : List Str := ["_law_thing", "_law_low", "_law_high"]
theorem sc__law_whole : FnScope N__law_whole ["_law_thing", "_law_low", "_law_high"] (defScope s__law_whole) := ⟨rfl, rfl, rfl, by decide +kernel, rfl, by decide +kernel, by decide +kernel⟩
abbrev s__law_is_word : Stmt := top 22
abbrev N__law_is_word : List Str := ["_law_thing"]
theorem sc__law_is_word : FnScope N__law_is_word ["_law_thing"] (defScope s__law_is_word) := ⟨rfl, rfl, rfl, by decide +kernel, rfl, by decide +kernel, by decide +kernel⟩
abbrev s__law_is_kind : Stmt := top 23
abbrev N__law_is_kind : List Str := ["_law_thing", "_law_deep", "_law_word", "_law_rest", "_law_some", "_law_words"]
theorem sc__law_is_kind : FnScope N__law_is_kind ["_law_thing", "_law_deep"] (defScope s__law_is_kind) := ⟨rfl, rfl, rfl, by decide +kernel, rfl, by decide +kernel, by decide +kernel⟩
abbrev s__law_places : Stmt := top 24
abbrev N__law_places : List Str := ["_law_thing", "_law_made", "_law_k"]
theorem sc__law_places : FnScope N__law_places ["_law_thing"] (defScope s__law_places) := ⟨rfl, rfl, rfl, by decide +kernel, rfl, by decide +kernel, by decide +kernel⟩
abbrev s__law_at : Stmt := top 25
abbrev N__law_at : List Str := ["_law_thing", "_law_place", "_law_k"]
theorem sc__law_at : FnScope N__law_at ["_law_thing", "_law_place"] (defScope s__law_at) := ⟨rfl, rfl, rfl, by decide +kernel, rfl, by decide +kernel, by decide +kernel⟩
abbrev s__law_put : Stmt := top 26
abbrev N__law_put : List Str := ["_law_thing", "_law_place", "_law_new", "_law_k"]
theorem sc__law_put : FnScope N__law_put ["_law_thing", "_law_place", "_law_new"] (defScope s__law_put) := ⟨rfl, rfl, rfl, by decide +kernel, rfl, by decide +kernel, by decide +kernel⟩
abbrev s__law_spoilt_thing : Stmt := top 27
abbrev N__law_spoilt_thing : List Str := ["_law_script", "_law_at_here", "_law_thing", "_law_places_here", "_law_place", "_law_here", "_law_some", "_law_way", "_law_k"]
theorem sc__law_spoilt_thing : FnScope N__law_spoilt_thing ["_law_script", "_law_at_here", "_law_thing"] (defScope s__law_spoilt_thing) := ⟨rfl, rfl, rfl, by decide +kernel, rfl, by decide +kernel, by decide +kernel⟩
abbrev s_law : Stmt := top 28
abbrev N_law : List Str := ["_law_script", "_law_kind_here", "_law_deep", "_law_k", "_law_thing", "_law_told", "_law_odd", "_law_one", "_law_words", "_law_good"]
theorem sc_law : FnScope N_law ["_law_script"] (defScope s_law) := ⟨rfl, rfl, rfl, by decide +kernel, rfl, by decide +kernel, by decide +kernel⟩
structure Fn (K : PySem.W.Frag) (mg : Str → Option Value) (x : Str) (st : Stmt) (ps : List Str) (f : Addr) (fd : FuncData) : Prop where
  F : Fun K x x st f fd
  b : L2.Binds K fd ps []
  m : mg x = some (.ref f)
section
variable {P : Program} {w : World} {K : PySem.W.Frag} {mg : Str → Option Value} {base : Heap} {cl : Nat → Value}
set_option maxHeartbeats 4000000 in
theorem ok__law_cell {a__law_cell : Addr} {d__law_cell : FuncData} (C__law_cell : Fn K mg "_law_cell" s__law_cell ["_law_script", "_law_k"] a__law_cell d__law_cell)  (z_len : mg "len" = none)  : FnOk P w K mg base CX0 1 a__law_cell d__law_cell ["_law_script", "_law_k"] (spP cl 2 (fun ts => outR (b__law_cell  (en0 2 ts)))) := by
  refine fn_ok C__law_cell.F sc__law_cell rfl (fun cdv A outer s H E Y hy hr => ?_) (fun ts h => rfl)
  refine l_cons ?_ ?_
  refine s_ifS ?_ ?_ ?_
  refine t_cmp nx_lt op_ltC ?_ ?_ (nomark _)
  exact s_varB 1 (pv 1)
  refine Snd.b ?_
  refine s_len (by rfl) z_len ?_
  exact s_varB 0 (pv 0)
  refine l_one ?_
  refine s_ret ?_
  refine s_ix ?_ ?_
  exact s_var 0 (pv 0)
  exact s_var 1 (pv 1)
  exact l_nil
  refine l_cons ?_ ?_
  refine s_ifS ?_ ?_ ?_
  refine t_cmp nx_eq (op_eqC hr.units) ?_ ?_ (nomark _)
  exact s_varB 0 (pv 0)
  refine Snd.b ?_
  refine s_lst ?_
  exact a_nil
  refine l_one ?_
  refine s_ret ?_
  exact s_int
  exact l_nil
  refine l_one ?_
  refine s_ret ?_
  refine s_add ?_ ?_
  refine s_mul ?_ ?_
  refine s_ix ?_ ?_
  exact s_var 0 (pv 0)
  refine s_mod ?_ ?_
  exact s_var 1 (pv 1)
  refine s_len (by rfl) z_len ?_
  exact s_varB 0 (pv 0)
  exact s_int
  exact s_var 1 (pv 1)
set_option maxHeartbeats 4000000 in
theorem ok__law_pick {a__law_cell a__law_pick : Addr} {d__law_cell d__law_pick : FuncData} {c__law_cell : List T → R T} (C__law_cell : Fn K mg "_law_cell" s__law_cell ["_law_script", "_law_k"] a__law_cell d__law_cell) (C__law_pick : Fn K mg "_law_pick" s__law_pick ["_law_script", "_law_k", "_law_many"] a__law_pick d__law_pick) (O__law_cell : FnOk P w K mg base CX0 1 a__law_cell d__law_cell ["_law_script", "_law_k"] (spP cl 2 (c__law_cell)))   : FnOk P w K mg base CX0 2 a__law_pick d__law_pick ["_law_script", "_law_k", "_law_many"] (spP cl 3 (fun ts => outR (b__law_pick c__law_cell (en0 4 ts)))) := by
  refine fn_ok C__law_pick.F sc__law_pick rfl (fun cdv A outer s H E Y hy hr => ?_) (fun ts h => rfl)
  refine l_cons ?_ ?_
  refine s_set (i := 3) sc__law_pick.nd (by rfl) (.inl (by rfl)) ?_
  refine s_mod ?_ ?_
  refine s_mul ?_ ?_
  refine s_add ?_ ?_
  refine s_callZ hy O__law_cell hr (by omega) (by rfl) C__law_cell.m C__law_cell.F.kp C__law_cell.b ?_
  refine a_cons ?_ ?_
  exact s_var 0 (pv 0)
  refine a_cons ?_ ?_
  exact s_var 1 (pv 1)
  exact a_nil
  refine s_mul ?_ ?_
  exact s_int
  refine s_add ?_ ?_
  exact s_var 1 (pv 1)
  exact s_int
  exact s_int
  exact s_int
  refine l_one ?_
  refine s_ret ?_
  refine s_mod ?_ ?_
  refine s_mod ?_ ?_
  refine s_add ?_ ?_
  refine s_mul ?_ ?_
  exact s_var 3 (pv 3)
  exact s_var 3 (pv 3)
  refine s_fdiv ?_ ?_
  exact s_var 3 (pv 3)
  exact s_int
  exact s_int
  exact s_var 2 (pv 2)
set_option maxHeartbeats 4000000 in
theorem ok__law_word_of {a__law_pick a__law_word_of : Addr} {d__law_pick d__law_word_of : FuncData} {c__law_pick : List T → R T} (C__law_pick : Fn K mg "_law_pick" s__law_pick ["_law_script", "_law_k", "_law_many"] a__law_pick d__law_pick) (C__law_word_of : Fn K mg "_law_word_of" s__law_word_of ["_law_script", "_law_at_here"] a__law_word_of d__law_word_of) (O__law_pick : FnOk P w K mg base CX0 2 a__law_pick d__law_pick ["_law_script", "_law_k", "_law_many"] (spP cl 3 (c__law_pick))) (z_range : mg "range" = none)  : FnOk P w K mg base CX0 3 a__law_word_of d__law_word_of ["_law_script", "_law_at_here"] (spP cl 2 (fun ts => outR (b__law_word_of c__law_pick (en0 3 ts)))) := by
  refine fn_ok C__law_word_of.F sc__law_word_of rfl (fun cdv A outer s H E Y hy hr => ?_) (fun ts h => rfl)
  refine l_cons ?_ ?_
  refine s_set (i := 2) sc__law_word_of.nd (by rfl) (.inr (by rfl)) ?_
  exact s_str
  refine l_cons ?_ ?_
  refine s_ifS ?_ ?_ ?_
  refine t_cmp nx_gt op_gtC ?_ ?_ (nomark _)
  refine Snd.b ?_
  refine s_callZ hy O__law_pick hr (by omega) (by rfl) C__law_pick.m C__law_pick.F.kp C__law_pick.b ?_
  refine a_cons ?_ ?_
  exact s_var 0 (pv 0)
  refine a_cons ?_ ?_
  exact s_var 1 (pv 1)
  refine a_cons ?_ ?_
  exact s_int
  exact a_nil
  refine Snd.b ?_
  exact s_int
  refine l_one ?_
  refine s_ret ?_
  refine s_ix ?_ ?_
  refine s_lst ?_
  refine a_cons ?_ ?_
  exact s_str
  refine a_cons ?_ ?_
  exact s_str
  refine a_cons ?_ ?_
  exact s_str
  refine a_cons ?_ ?_
  exact s_str
  exact a_nil
  refine s_callZ hy O__law_pick hr (by omega) (by rfl) C__law_pick.m C__law_pick.F.kp C__law_pick.b ?_
  refine a_cons ?_ ?_
  exact s_var 0 (pv 0)
  refine a_cons ?_ ?_
  refine s_add ?_ ?_
  exact s_var 1 (pv 1)
  exact s_int
  refine a_cons ?_ ?_
  exact s_int
  exact a_nil
  exact l_nil
  refine l_one ?_
  refine s_ret ?_
  refine s_join ?_
  refine Snd.b ?_
  refine s_comp (crules ["_law_k", "_law_script", "_law_at_here", "_law_letters"] N__law_word_of (defScope s__law_word_of) (by rfl) (by rfl) (by decide +kernel) (by rfl) ?_ (fun _ _ _ _ _ _ => pg_name (show List.Nodup (["_law_k", "_law_script", "_law_at_here", "_law_letters"] : List Str) by decide +kernel) (by rfl) (.inl (by rfl)) (.inr (by rfl))) (gok_name 0) (gno_name 0) (fun Y' hy' _ _ _ _ _ _ => ?_) (fun Y' hy' _ _ _ _ _ _ => ?_))
  refine i_rng1 (by rfl) z_range ?_
  refine s_add ?_ ?_
  exact s_int
  refine s_callZ hy O__law_pick hr (by omega) (by rfl) C__law_pick.m C__law_pick.F.kp C__law_pick.b ?_
  refine a_cons ?_ ?_
  exact s_var 0 (pv 0)
  refine a_cons ?_ ?_
  refine s_add ?_ ?_
  exact s_var 1 (pv 1)
  exact s_int
  refine a_cons ?_ ?_
  exact s_int
  exact a_nil
  exact if_nil
  refine s_ix ?_ ?_
  exact s_var 3 (pv 3)
  refine s_callZ (hy'.trans hy) O__law_pick hr (by omega) (by rfl) C__law_pick.m C__law_pick.F.kp C__law_pick.b ?_
  refine a_cons ?_ ?_
  exact s_var 1 (pv 1)
  refine a_cons ?_ ?_
  refine s_add ?_ ?_
  refine s_add ?_ ?_
  exact s_var 2 (pv 2)
  exact s_int
  exact s_var 0 (pv 0)
  refine a_cons ?_ ?_
  exact s_int
  exact a_nil
set_option maxHeartbeats 4000000 in
theorem ok__law_leaf_kind {a__law_pick a__law_word_of a__law_leaf_kind : Addr} {d__law_pick d__law_word_of d__law_leaf_kind : FuncData} {c__law_pick c__law_word_of : List T → R T} (C__law_pick : Fn K mg "_law_pick" s__law_pick ["_law_script", "_law_k", "_law_many"] a__law_pick d__law_pick) (C__law_word_of : Fn K mg "_law_word_of" s__law_word_of ["_law_script", "_law_at_here"] a__law_word_of d__law_word_of) (C__law_leaf_kind : Fn K mg "_law_leaf_kind" s__law_leaf_kind ["_law_script", "_law_at_here"] a__law_leaf_kind d__law_leaf_kind) (O__law_pick : FnOk P w K mg base CX0 2 a__law_pick d__law_pick ["_law_script", "_law_k", "_law_many"] (spP cl 3 (c__law_pick))) (O__law_word_of : FnOk P w K mg base CX0 3 a__law_word_of d__law_word_of ["_law_script", "_law_at_here"] (spP cl 2 (c__law_word_of))) (z_enumerate : mg "enumerate" = none) (z_min : mg "min" = none) (z_range : mg "range" = none) (z_tuple : mg "tuple" = none)  : FnOk P w K mg base CX0 4 a__law_leaf_kind d__law_leaf_kind ["_law_script", "_law_at_here"] (spP cl 2 (fun ts => outR (b__law_leaf_kind c__law_pick c__law_word_of (en0 6 ts)))) := by
  refine fn_ok C__law_leaf_kind.F sc__law_leaf_kind rfl (fun cdv A outer s H E Y hy hr => ?_) (fun ts h => rfl)
  refine l_cons ?_ ?_
  refine s_ifS ?_ ?_ ?_
  refine t_cmp nx_gt op_gtC ?_ ?_ (nomark _)
  refine Snd.b ?_
  refine s_callZ hy O__law_pick hr (by omega) (by rfl) C__law_pick.m C__law_pick.F.kp C__law_pick.b ?_
  refine a_cons ?_ ?_
  exact s_var 0 (pv 0)
  refine a_cons ?_ ?_
  exact s_var 1 (pv 1)
  refine a_cons ?_ ?_
  exact s_int
  exact a_nil
  refine Snd.b ?_
  exact s_int
  refine l_cons ?_ ?_
  refine s_set (i := 2) sc__law_leaf_kind.nd (by rfl) (.inl (by rfl)) ?_
  refine s_sub ?_ ?_
  refine s_callZ hy O__law_pick hr (by omega) (by rfl) C__law_pick.m C__law_pick.F.kp C__law_pick.b ?_
  refine a_cons ?_ ?_
  exact s_var 0 (pv 0)
  refine a_cons ?_ ?_
  refine s_add ?_ ?_
  exact s_var 1 (pv 1)
  exact s_int
  refine a_cons ?_ ?_
  exact s_int
  exact a_nil
  exact s_int
  refine l_cons ?_ ?_
  refine s_ifS ?_ ?_ ?_
  refine t_cmp nx_eq (op_eqC hr.units) ?_ ?_ (nomark _)
  refine Snd.b ?_
  refine s_callZ hy O__law_pick hr (by omega) (by rfl) C__law_pick.m C__law_pick.F.kp C__law_pick.b ?_
  refine a_cons ?_ ?_
  exact s_var 0 (pv 0)
  refine a_cons ?_ ?_
  refine s_add ?_ ?_
  exact s_var 1 (pv 1)
  exact s_int
  refine a_cons ?_ ?_
  exact s_int
  exact a_nil
  refine Snd.b ?_
  exact s_int
  refine l_one ?_
  refine s_set (i := 2) sc__law_leaf_kind.nd (by rfl) (.inl (by rfl)) ?_
  refine s_ix ?_ ?_
  refine s_lst ?_
  refine a_cons ?_ ?_
  refine s_neg ?_
  exact s_int
  refine a_cons ?_ ?_
  exact s_int
  refine a_cons ?_ ?_
  exact s_int
  exact a_nil
  refine s_callZ hy O__law_pick hr (by omega) (by rfl) C__law_pick.m C__law_pick.F.kp C__law_pick.b ?_
  refine a_cons ?_ ?_
  exact s_var 0 (pv 0)
  refine a_cons ?_ ?_
  refine s_add ?_ ?_
  exact s_var 1 (pv 1)
  exact s_int
  refine a_cons ?_ ?_
  exact s_int
  exact a_nil
  exact l_nil
  refine l_one ?_
  refine s_ret ?_
  refine s_tup ?_
  refine a_cons ?_ ?_
  exact s_str
  refine a_cons ?_ ?_
  exact s_var 2 (pv 2)
  refine a_cons ?_ ?_
  refine s_min2 (by rfl) (by rfl) z_min ?_ ?_
  exact s_int
  refine s_add ?_ ?_
  exact s_var 2 (pv 2)
  refine s_callZ hy O__law_pick hr (by omega) (by rfl) C__law_pick.m C__law_pick.F.kp C__law_pick.b ?_
  refine a_cons ?_ ?_
  exact s_var 0 (pv 0)
  refine a_cons ?_ ?_
  refine s_add ?_ ?_
  exact s_var 1 (pv 1)
  exact s_int
  refine a_cons ?_ ?_
  exact s_int
  exact a_nil
  exact a_nil
  exact l_nil
  refine l_cons ?_ ?_
  refine s_setL (i := 3) sc__law_leaf_kind.nd (by rfl) (.inl (by rfl)) ?_
  exact a_nil
  refine l_cons ?_ ?_
  refine s_for PassesOwn.never (by rfl) ?_ ?_ ?_
  refine i_rng1 (by rfl) z_range ?_
  refine s_add ?_ ?_
  exact s_int
  refine s_callZ hy O__law_pick hr (by omega) (by rfl) C__law_pick.m C__law_pick.F.kp C__law_pick.b ?_
  refine a_cons ?_ ?_
  exact s_var 0 (pv 0)
  refine a_cons ?_ ?_
  refine s_add ?_ ?_
  exact s_var 1 (pv 1)
  exact s_int
  refine a_cons ?_ ?_
  exact s_int
  exact a_nil
  exact g_name (i := 4) sc__law_leaf_kind.nd (by rfl) (.inl (by rfl))
  refine l_cons ?_ ?_
  refine s_set (i := 5) sc__law_leaf_kind.nd (by rfl) (.inl (by rfl)) ?_
  refine s_callZ hy O__law_word_of hr (by omega) (by rfl) C__law_word_of.m C__law_word_of.F.kp C__law_word_of.b ?_
  refine a_cons ?_ ?_
  exact s_var 0 (pv 0)
  refine a_cons ?_ ?_
  refine s_add ?_ ?_
  refine s_add ?_ ?_
  exact s_var 1 (pv 1)
  exact s_int
  refine s_mul ?_ ?_
  exact s_int
  exact s_var 4 (pv 4)
  exact a_nil
  refine l_one ?_
  refine s_ifS ?_ ?_ ?_
  refine t_cmp nx_nin (op_ninC hr.units) ?_ ?_ (by rfl)
  exact s_varB 5 (pv 5)
  exact s_varB 3 (pv 3)
  refine l_one ?_
  refine s_app (i := 3) (pv 3) ?_
  exact s_var 5 (pv 5)
  exact l_nil
  refine l_one ?_
  refine s_ret ?_
  refine s_tup ?_
  refine a_cons ?_ ?_
  exact s_str
  refine a_cons ?_ ?_
  refine s_tuple (by rfl) z_tuple ?_
  refine s_comp (crules ["_law_k", "_law_word", "_law_script", "_law_at_here"] N__law_leaf_kind (defScope s__law_leaf_kind) (by rfl) (by rfl) (by decide +kernel) (by rfl) ?_ (fun _ _ _ _ _ _ => pg_tup (by rfl) (pgs_cons (pg_name (show List.Nodup (["_law_k", "_law_word", "_law_script", "_law_at_here"] : List Str) by decide +kernel) (by rfl) (.inl (by rfl)) (.inr (by rfl))) (pgs_cons (pg_name (show List.Nodup (["_law_k", "_law_word", "_law_script", "_law_at_here"] : List Str) by decide +kernel) (by rfl) (.inl (by rfl)) (.inr (by rfl))) pgs_nil))) (gok_pair _ 0 1) (gno_pair 0 1) (fun Y' hy' _ _ _ _ _ _ => ?_) (fun Y' hy' _ _ _ _ _ _ => ?_))
  refine i_enum (by rfl) z_enumerate ?_
  exact s_var 3 (pv 3)
  exact if_nil
  refine s_tup ?_
  refine a_cons ?_ ?_
  exact s_var 1 (pv 1)
  refine a_cons ?_ ?_
  refine s_add ?_ ?_
  exact s_int
  refine s_callZ (hy'.trans hy) O__law_pick hr (by omega) (by rfl) C__law_pick.m C__law_pick.F.kp C__law_pick.b ?_
  refine a_cons ?_ ?_
  exact s_var 2 (pv 2)
  refine a_cons ?_ ?_
  refine s_add ?_ ?_
  refine s_add ?_ ?_
  exact s_var 3 (pv 3)
  exact s_int
  exact s_var 0 (pv 0)
  refine a_cons ?_ ?_
  exact s_int
  exact a_nil
  exact a_nil
  exact a_nil
set_option maxHeartbeats 4000000 in
theorem ok__law_kind {a__law_pick a__law_leaf_kind a__law_kind : Addr} {d__law_pick d__law_leaf_kind d__law_kind : FuncData} {j : Nat} (hj : 4 ≤ j) {c__law_pick c__law_leaf_kind c__law_kind : List T → R T} (C__law_pick : Fn K mg "_law_pick" s__law_pick ["_law_script", "_law_k", "_law_many"] a__law_pick d__law_pick) (C__law_leaf_kind : Fn K mg "_law_leaf_kind" s__law_leaf_kind ["_law_script", "_law_at_here"] a__law_leaf_kind d__law_leaf_kind) (C__law_kind : Fn K mg "_law_kind" s__law_kind ["_law_script", "_law_at_here", "_law_deep"] a__law_kind d__law_kind) (O__law_pick : FnOk P w K mg base CX0 2 a__law_pick d__law_pick ["_law_script", "_law_k", "_law_many"] (spP cl 3 (c__law_pick))) (O__law_leaf_kind : FnOk P w K mg base CX0 4 a__law_leaf_kind d__law_leaf_kind ["_law_script", "_law_at_here"] (spP cl 2 (c__law_leaf_kind))) (O__law_kind : FnOk P w K mg base CX0 j a__law_kind d__law_kind ["_law_script", "_law_at_here", "_law_deep"] (spP cl 3 (c__law_kind))) (z_min : mg "min" = none) (z_range : mg "range" = none) (z_tuple : mg "tuple" = none)  : FnOk P w K mg base CX0 (j + 1) a__law_kind d__law_kind ["_law_script", "_law_at_here", "_law_deep"] (spP cl 3 (fun ts => outR (b__law_kind c__law_pick c__law_leaf_kind c__law_kind (en0 6 ts)))) := by
  refine fn_ok C__law_kind.F sc__law_kind rfl (fun cdv A outer s H E Y hy hr => ?_) (fun ts h => rfl)
  refine l_cons ?_ ?_
  refine s_set (i := 3) sc__law_kind.nd (by rfl) (.inl (by rfl)) ?_
  refine s_callZ hy O__law_pick hr (by omega) (by rfl) C__law_pick.m C__law_pick.F.kp C__law_pick.b ?_
  refine a_cons ?_ ?_
  exact s_var 0 (pv 0)
  refine a_cons ?_ ?_
  exact s_var 1 (pv 1)
  refine a_cons ?_ ?_
  exact s_int
  exact a_nil
  refine l_cons ?_ ?_
  refine s_ifS ?_ ?_ ?_
  refine SndW.t ?_
  refine w_or ?_ ?_
  refine t_cmp nx_eq (op_eqC hr.units) ?_ ?_ (nomark _)
  exact s_varB 2 (pv 2)
  refine Snd.b ?_
  exact s_int
  refine w_or1 ?_
  refine t_cmp nx_lt op_ltC ?_ ?_ (nomark _)
  exact s_varB 3 (pv 3)
  refine Snd.b ?_
  exact s_int
  refine l_one ?_
  refine s_ret ?_
  refine s_callZ hy O__law_leaf_kind hr (by omega) (by rfl) C__law_leaf_kind.m C__law_leaf_kind.F.kp C__law_leaf_kind.b ?_
  refine a_cons ?_ ?_
  exact s_var 0 (pv 0)
  refine a_cons ?_ ?_
  refine s_add ?_ ?_
  exact s_var 1 (pv 1)
  exact s_int
  exact a_nil
  exact l_nil
  refine l_cons ?_ ?_
  refine s_ifS ?_ ?_ ?_
  refine t_cmp nx_lt op_ltC ?_ ?_ (nomark _)
  exact s_varB 3 (pv 3)
  refine Snd.b ?_
  exact s_int
  refine l_cons ?_ ?_
  refine s_setC (i := 4) (crules ["_law_k", "_law_script", "_law_at_here", "_law_deep"] N__law_kind (defScope s__law_kind) (by rfl) (by rfl) (by decide +kernel) (by rfl) ?_ (fun _ _ _ _ _ _ => pg_name (show List.Nodup (["_law_k", "_law_script", "_law_at_here", "_law_deep"] : List Str) by decide +kernel) (by rfl) (.inl (by rfl)) (.inr (by rfl))) (gok_name 0) (gno_name 0) (fun Y' hy' _ _ _ _ _ _ => ?_) (fun Y' hy' _ _ _ _ _ _ => ?_)) sc__law_kind.nd (by rfl) (.inl (by rfl)) (by rfl)
  refine i_rng1 (by rfl) z_range ?_
  refine s_add ?_ ?_
  exact s_int
  refine s_callZ hy O__law_pick hr (by omega) (by rfl) C__law_pick.m C__law_pick.F.kp C__law_pick.b ?_
  refine a_cons ?_ ?_
  exact s_var 0 (pv 0)
  refine a_cons ?_ ?_
  refine s_add ?_ ?_
  exact s_var 1 (pv 1)
  exact s_int
  refine a_cons ?_ ?_
  exact s_int
  exact a_nil
  exact if_nil
  refine s_callZ (hy'.trans hy) O__law_kind hr (by omega) (by rfl) C__law_kind.m C__law_kind.F.kp C__law_kind.b ?_
  refine a_cons ?_ ?_
  exact s_var 1 (pv 1)
  refine a_cons ?_ ?_
  refine s_add ?_ ?_
  refine s_add ?_ ?_
  refine s_mul ?_ ?_
  exact s_int
  exact s_var 2 (pv 2)
  exact s_int
  refine s_mul ?_ ?_
  exact s_int
  exact s_var 0 (pv 0)
  refine a_cons ?_ ?_
  refine s_sub ?_ ?_
  exact s_var 3 (pv 3)
  exact s_int
  exact a_nil
  refine l_one ?_
  refine s_ret ?_
  refine s_tup ?_
  refine a_cons ?_ ?_
  exact s_str
  refine a_cons ?_ ?_
  refine s_tuple (by rfl) z_tuple ?_
  exact s_var 4 (pv 4)
  exact a_nil
  exact l_nil
  refine l_cons ?_ ?_
  refine s_set (i := 5) sc__law_kind.nd (by rfl) (.inl (by rfl)) ?_
  refine s_callZ hy O__law_pick hr (by omega) (by rfl) C__law_pick.m C__law_pick.F.kp C__law_pick.b ?_
  refine a_cons ?_ ?_
  exact s_var 0 (pv 0)
  refine a_cons ?_ ?_
  refine s_add ?_ ?_
  exact s_var 1 (pv 1)
  exact s_int
  refine a_cons ?_ ?_
  exact s_int
  exact a_nil
  refine l_one ?_
  refine s_ret ?_
  refine s_tup ?_
  refine a_cons ?_ ?_
  exact s_str
  refine a_cons ?_ ?_
  refine s_callZ hy O__law_kind hr (by omega) (by rfl) C__law_kind.m C__law_kind.F.kp C__law_kind.b ?_
  refine a_cons ?_ ?_
  exact s_var 0 (pv 0)
  refine a_cons ?_ ?_
  refine s_add ?_ ?_
  refine s_mul ?_ ?_
  exact s_int
  exact s_var 1 (pv 1)
  exact s_int
  refine a_cons ?_ ?_
  refine s_sub ?_ ?_
  exact s_var 2 (pv 2)
  exact s_int
  exact a_nil
  refine a_cons ?_ ?_
  exact s_var 5 (pv 5)
  refine a_cons ?_ ?_
  refine s_min2 (by rfl) (by rfl) z_min ?_ ?_
  exact s_int
  refine s_add ?_ ?_
  exact s_var 5 (pv 5)
  refine s_callZ hy O__law_pick hr (by omega) (by rfl) C__law_pick.m C__law_pick.F.kp C__law_pick.b ?_
  refine a_cons ?_ ?_
  exact s_var 0 (pv 0)
  refine a_cons ?_ ?_
  refine s_add ?_ ?_
  exact s_var 1 (pv 1)
  exact s_int
  refine a_cons ?_ ?_
  exact s_int
  exact a_nil
  exact a_nil
set_option maxHeartbeats 4000000 in
theorem ok_is_whole {a_is_whole : Addr} {d_is_whole : FuncData} (C_is_whole : Fn K mg "is_whole" s_is_whole ["thing"] a_is_whole d_is_whole)  (z_bool : mg "bool" = none) (z_int : mg "int" = none) (z_isinstance : mg "isinstance" = none)  : FnOk P w K mg base CX0 1 a_is_whole d_is_whole ["thing"] (spP cl 1 (fun ts => outR (b_is_whole  (en0 1 ts)))) := by
  refine fn_ok C_is_whole.F sc_is_whole rfl (fun cdv A outer s H E Y hy hr => ?_) (fun ts h => rfl)
  refine l_one ?_
  refine s_ret ?_
  refine s_and ?_ ?_
  refine s_isi (n := "int") (kit_int _) (by rfl) z_isinstance (by rfl) z_int PyProof.Rows.Boot.«int» ?_
  exact s_varB 0 (pv 0)
  refine s_one ?_
  refine s_not ?_
  refine s_isi (n := "bool") (kit_bool _) (by rfl) z_isinstance (by rfl) z_bool PyProof.Rows.Boot.«bool» ?_
  exact s_varB 0 (pv 0)
set_option maxHeartbeats 4000000 in
theorem ok_is_span {a_is_whole a_is_span : Addr} {d_is_whole d_is_span : FuncData} {c_is_whole : List T → R T} (C_is_whole : Fn K mg "is_whole" s_is_whole ["thing"] a_is_whole d_is_whole) (C_is_span : Fn K mg "is_span" s_is_span ["low", "high", "least", "most"] a_is_span d_is_span) (O_is_whole : FnOk P w K mg base CX0 1 a_is_whole d_is_whole ["thing"] (spP cl 1 (c_is_whole)))   : FnOk P w K mg base CX0 2 a_is_span d_is_span ["low", "high", "least", "most"] (spP cl 4 (fun ts => outR (b_is_span c_is_whole (en0 4 ts)))) := by
  refine fn_ok C_is_span.F sc_is_span rfl (fun cdv A outer s H E Y hy hr => ?_) (fun ts h => rfl)
  refine l_one ?_
  refine s_ret ?_
  refine s_and ?_ ?_
  refine s_callZ hy O_is_whole hr (by omega) (by rfl) C_is_whole.m C_is_whole.F.kp C_is_whole.b ?_
  refine a_cons ?_ ?_
  exact s_var 0 (pv 0)
  exact a_nil
  refine s_and ?_ ?_
  refine s_callZ hy O_is_whole hr (by omega) (by rfl) C_is_whole.m C_is_whole.F.kp C_is_whole.b ?_
  refine a_cons ?_ ?_
  exact s_var 1 (pv 1)
  exact a_nil
  refine s_one ?_
  refine s_chain3 nx_le nx_le nx_le op_leC op_leC op_leC ?_ ?_ ?_ ?_
  exact s_varB 2 (pv 2)
  exact s_varB 0 (pv 0)
  exact s_varB 1 (pv 1)
  exact s_varB 3 (pv 3)
set_option maxHeartbeats 4000000 in
theorem ok_is_tuple_of {a_is_tuple_of : Addr} {d_is_tuple_of : FuncData} (C_is_tuple_of : Fn K mg "is_tuple_of" s_is_tuple_of ["thing", "least", "most"] a_is_tuple_of d_is_tuple_of)  (z_isinstance : mg "isinstance" = none) (z_len : mg "len" = none) (z_tuple : mg "tuple" = none)  : FnOk P w K mg base CX0 1 a_is_tuple_of d_is_tuple_of ["thing", "least", "most"] (spP cl 3 (fun ts => outR (b_is_tuple_of  (en0 3 ts)))) := by
  refine fn_ok C_is_tuple_of.F sc_is_tuple_of rfl (fun cdv A outer s H E Y hy hr => ?_) (fun ts h => rfl)
  refine l_one ?_
  refine s_ret ?_
  refine s_and ?_ ?_
  refine s_isi (n := "tuple") (kit_tuple _) (by rfl) z_isinstance (by rfl) z_tuple PyProof.Rows.Boot.«tuple» ?_
  exact s_varB 0 (pv 0)
  refine s_one ?_
  refine s_chain nx_le nx_le op_leC op_leC ?_ ?_ ?_
  exact s_varB 1 (pv 1)
  refine Snd.b ?_
  refine s_len (by rfl) z_len ?_
  exact s_varB 0 (pv 0)
  exact s_varB 2 (pv 2)
set_option maxHeartbeats 4000000 in
theorem ok_is_word {a_is_word : Addr} {d_is_word : FuncData} (C_is_word : Fn K mg "is_word" s_is_word ["thing"] a_is_word d_is_word)  (z_all : mg "all" = none) (z_isinstance : mg "isinstance" = none) (z_len : mg "len" = none) (z_str : mg "str" = none)  : FnOk P w K mg base CX0 1 a_is_word d_is_word ["thing"] (spP cl 1 (fun ts => outR (b_is_word  (en0 1 ts)))) := by
  refine fn_ok C_is_word.F sc_is_word rfl (fun cdv A outer s H E Y hy hr => ?_) (fun ts h => rfl)
  refine l_cons ?_ ?_
  refine s_ifS ?_ ?_ ?_
  refine SndW.t ?_
  refine w_or ?_ ?_
  refine t_not ?_
  refine t_val ?_
  refine Snd.b ?_
  refine s_isi (n := "str") (kit_str _) (by rfl) z_isinstance (by rfl) z_str PyProof.Rows.Boot.«str» ?_
  exact s_varB 0 (pv 0)
  refine w_or1 ?_
  refine t_not ?_
  refine t_chain nx_le nx_le op_leC op_leC ?_ ?_ ?_
  refine Snd.b ?_
  exact s_int
  refine Snd.b ?_
  refine s_len (by rfl) z_len ?_
  exact s_varB 0 (pv 0)
  refine Snd.b ?_
  exact s_int
  refine l_one ?_
  refine s_ret ?_
  exact s_bl
  exact l_nil
  refine l_one ?_
  refine s_ret ?_
  refine s_all hr.hd (by rfl) z_all ?_
  refine Snd.b ?_
  refine s_comp (crules ["sign"] N_is_word (defScope s_is_word) (by rfl) (by rfl) (by decide +kernel) (by rfl) ?_ (fun _ _ _ _ _ _ => pg_name (show List.Nodup (["sign"] : List Str) by decide +kernel) (by rfl) (.inl (by rfl)) (.inr (by rfl))) (gok_name 0) (gno_name 0) (fun Y' hy' _ _ _ _ _ _ => ?_) (fun Y' hy' _ _ _ _ _ _ => ?_))
  refine i_any ?_
  exact s_var 0 (pv 0)
  exact if_nil
  refine s_chain nx_le nx_le op_leC op_leC ?_ ?_ ?_
  refine Snd.b ?_
  exact s_str
  exact s_varB 0 (pv 0)
  refine Snd.b ?_
  exact s_str
set_option maxHeartbeats 4000000 in
theorem ok_is_choice {a_is_whole a_is_tuple_of a_is_word a_is_choice : Addr} {d_is_whole d_is_tuple_of d_is_word d_is_choice : FuncData} {c_is_whole c_is_tuple_of c_is_word : List T → R T} (C_is_whole : Fn K mg "is_whole" s_is_whole ["thing"] a_is_whole d_is_whole) (C_is_tuple_of : Fn K mg "is_tuple_of" s_is_tuple_of ["thing", "least", "most"] a_is_tuple_of d_is_tuple_of) (C_is_word : Fn K mg "is_word" s_is_word ["thing"] a_is_word d_is_word) (C_is_choice : Fn K mg "is_choice" s_is_choice ["thing"] a_is_choice d_is_choice) (O_is_whole : FnOk P w K mg base CX0 1 a_is_whole d_is_whole ["thing"] (spP cl 1 (c_is_whole))) (O_is_tuple_of : FnOk P w K mg base CX0 1 a_is_tuple_of d_is_tuple_of ["thing", "least", "most"] (spP cl 3 (c_is_tuple_of))) (O_is_word : FnOk P w K mg base CX0 1 a_is_word d_is_word ["thing"] (spP cl 1 (c_is_word)))   : FnOk P w K mg base CX0 2 a_is_choice d_is_choice ["thing"] (spP cl 1 (fun ts => outR (b_is_choice c_is_whole c_is_tuple_of c_is_word (en0 1 ts)))) := by
  refine fn_ok C_is_choice.F sc_is_choice rfl (fun cdv A outer s H E Y hy hr => ?_) (fun ts h => rfl)
  refine l_one ?_
  refine s_ret ?_
  refine s_and ?_ ?_
  refine s_callZ hy O_is_tuple_of hr (by omega) (by rfl) C_is_tuple_of.m C_is_tuple_of.F.kp C_is_tuple_of.b ?_
  refine a_cons ?_ ?_
  exact s_var 0 (pv 0)
  refine a_cons ?_ ?_
  exact s_int
  refine a_cons ?_ ?_
  exact s_int
  exact a_nil
  refine s_and ?_ ?_
  refine s_callZ hy O_is_word hr (by omega) (by rfl) C_is_word.m C_is_word.F.kp C_is_word.b ?_
  refine a_cons ?_ ?_
  refine s_ix ?_ ?_
  exact s_var 0 (pv 0)
  exact s_int
  exact a_nil
  refine s_and ?_ ?_
  refine s_callZ hy O_is_whole hr (by omega) (by rfl) C_is_whole.m C_is_whole.F.kp C_is_whole.b ?_
  refine a_cons ?_ ?_
  refine s_ix ?_ ?_
  exact s_var 0 (pv 0)
  exact s_int
  exact a_nil
  refine s_one ?_
  refine s_chain nx_le nx_le op_leC op_leC ?_ ?_ ?_
  refine Snd.b ?_
  exact s_int
  refine Snd.b ?_
  refine s_ix ?_ ?_
  exact s_var 0 (pv 0)
  exact s_int
  refine Snd.b ?_
  exact s_int
set_option maxHeartbeats 4000000 in
theorem ok_are_choices {a_is_tuple_of a_are_choices a_is_choice : Addr} {d_is_tuple_of d_are_choices d_is_choice : FuncData} {c_is_tuple_of c_is_choice : List T → R T} (C_is_tuple_of : Fn K mg "is_tuple_of" s_is_tuple_of ["thing", "least", "most"] a_is_tuple_of d_is_tuple_of) (C_are_choices : Fn K mg "are_choices" s_are_choices ["thing"] a_are_choices d_are_choices) (C_is_choice : Fn K mg "is_choice" s_is_choice ["thing"] a_is_choice d_is_choice) (O_is_tuple_of : FnOk P w K mg base CX0 1 a_is_tuple_of d_is_tuple_of ["thing", "least", "most"] (spP cl 3 (c_is_tuple_of))) (O_is_choice : FnOk P w K mg base CX0 2 a_is_choice d_is_choice ["thing"] (spP cl 1 (c_is_choice))) (z_all : mg "all" = none) (z_len : mg "len" = none) (z_set : mg "set" = none)  : FnOk P w K mg base CX0 3 a_are_choices d_are_choices ["thing"] (spP cl 1 (fun ts => outR (b_are_choices c_is_tuple_of c_is_choice (en0 2 ts)))) := by
  refine fn_ok C_are_choices.F sc_are_choices rfl (fun cdv A outer s H E Y hy hr => ?_) (fun ts h => rfl)
  refine l_cons ?_ ?_
  refine s_ifS ?_ ?_ ?_
  refine SndW.t ?_
  refine w_or ?_ ?_
  refine t_not ?_
  refine t_val ?_
  refine Snd.b ?_
  refine s_callZ hy O_is_tuple_of hr (by omega) (by rfl) C_is_tuple_of.m C_is_tuple_of.F.kp C_is_tuple_of.b ?_
  refine a_cons ?_ ?_
  exact s_var 0 (pv 0)
  refine a_cons ?_ ?_
  exact s_int
  refine a_cons ?_ ?_
  exact s_int
  exact a_nil
  refine w_or1 ?_
  refine t_not ?_
  refine t_val ?_
  refine Snd.b ?_
  refine s_all hr.hd (by rfl) z_all ?_
  refine Snd.b ?_
  refine s_comp (crules ["part"] N_are_choices (defScope s_are_choices) (by rfl) (by rfl) (by decide +kernel) (by rfl) ?_ (fun _ _ _ _ _ _ => pg_name (show List.Nodup (["part"] : List Str) by decide +kernel) (by rfl) (.inl (by rfl)) (.inr (by rfl))) (gok_name 0) (gno_name 0) (fun Y' hy' _ _ _ _ _ _ => ?_) (fun Y' hy' _ _ _ _ _ _ => ?_))
  refine i_any ?_
  exact s_var 0 (pv 0)
  exact if_nil
  refine s_callZ (hy'.trans hy) O_is_choice hr (by omega) (by rfl) C_is_choice.m C_is_choice.F.kp C_is_choice.b ?_
  refine a_cons ?_ ?_
  exact s_var 0 (pv 0)
  exact a_nil
  refine l_one ?_
  refine s_ret ?_
  exact s_bl
  exact l_nil
  refine l_cons ?_ ?_
  refine s_setC (i := 1) (crules ["choice"] N_are_choices (defScope s_are_choices) (by rfl) (by rfl) (by decide +kernel) (by rfl) ?_ (fun _ _ _ _ _ _ => pg_name (show List.Nodup (["choice"] : List Str) by decide +kernel) (by rfl) (.inl (by rfl)) (.inr (by rfl))) (gok_name 0) (gno_name 0) (fun Y' hy' _ _ _ _ _ _ => ?_) (fun Y' hy' _ _ _ _ _ _ => ?_)) sc_are_choices.nd (by rfl) (.inl (by rfl)) (by rfl)
  refine i_any ?_
  exact s_var 0 (pv 0)
  exact if_nil
  refine s_ix ?_ ?_
  exact s_var 0 (pv 0)
  exact s_int
  refine l_one ?_
  refine s_ret ?_
  refine s_cmp nx_eq (op_eqC hr.units) ?_ ?_ (nomark _)
  refine Snd.b ?_
  refine s_lset hr.hd (by rfl) z_len (by rfl) z_set ?_
  exact s_varB 1 (pv 1)
  refine Snd.b ?_
  refine s_len (by rfl) z_len ?_
  exact s_varB 1 (pv 1)
set_option maxHeartbeats 4000000 in
theorem ok_is_kind_within {a_is_span a_is_kind_within a_are_choices a_are_kinds_within : Addr} {d_is_span d_is_kind_within d_are_choices d_are_kinds_within : FuncData} {j : Nat} (hj : 3 ≤ j) {c_is_span c_is_kind_within c_are_choices c_are_kinds_within : List T → R T} (C_is_span : Fn K mg "is_span" s_is_span ["low", "high", "least", "most"] a_is_span d_is_span) (C_is_kind_within : Fn K mg "is_kind_within" s_is_kind_within ["thing", "levels"] a_is_kind_within d_is_kind_within) (C_are_choices : Fn K mg "are_choices" s_are_choices ["thing"] a_are_choices d_are_choices) (C_are_kinds_within : Fn K mg "are_kinds_within" s_are_kinds_within ["thing", "levels"] a_are_kinds_within d_are_kinds_within) (O_is_span : FnOk P w K mg base CX0 2 a_is_span d_is_span ["low", "high", "least", "most"] (spP cl 4 (c_is_span))) (O_is_kind_within : FnOk P w K mg base CX0 j a_is_kind_within d_is_kind_within ["thing", "levels"] (spP cl 2 (c_is_kind_within))) (O_are_choices : FnOk P w K mg base CX0 3 a_are_choices d_are_choices ["thing"] (spP cl 1 (c_are_choices))) (O_are_kinds_within : FnOk P w K mg base CX0 j a_are_kinds_within d_are_kinds_within ["thing", "levels"] (spP cl 2 (c_are_kinds_within))) (z_isinstance : mg "isinstance" = none) (z_len : mg "len" = none) (z_tuple : mg "tuple" = none)  : FnOk P w K mg base CX0 (j + 1) a_is_kind_within d_is_kind_within ["thing", "levels"] (spP cl 2 (fun ts => outR (b_is_kind_within c_is_span c_is_kind_within c_are_choices c_are_kinds_within (en0 2 ts)))) := by
  refine fn_ok C_is_kind_within.F sc_is_kind_within rfl (fun cdv A outer s H E Y hy hr => ?_) (fun ts h => rfl)
  refine l_cons ?_ ?_
  refine s_ifS ?_ ?_ ?_
  refine SndW.t ?_
  refine w_or ?_ ?_
  refine t_cmp nx_eq (op_eqC hr.units) ?_ ?_ (nomark _)
  exact s_varB 1 (pv 1)
  refine Snd.b ?_
  exact s_int
  refine w_or ?_ ?_
  refine t_not ?_
  refine t_val ?_
  refine Snd.b ?_
  refine s_isi (n := "tuple") (kit_tuple _) (by rfl) z_isinstance (by rfl) z_tuple PyProof.Rows.Boot.«tuple» ?_
  exact s_varB 0 (pv 0)
  refine w_or1 ?_
  refine t_cmp nx_eq (op_eqC hr.units) ?_ ?_ (nomark _)
  refine Snd.b ?_
  refine s_len (by rfl) z_len ?_
  exact s_varB 0 (pv 0)
  refine Snd.b ?_
  exact s_int
  refine l_one ?_
  refine s_ret ?_
  exact s_bl
  exact l_nil
  refine l_cons ?_ ?_
  refine s_ifS ?_ ?_ ?_
  refine t_cmp nx_eq (op_eqC hr.units) ?_ ?_ (nomark _)
  refine Snd.b ?_
  refine s_ix ?_ ?_
  exact s_var 0 (pv 0)
  exact s_int
  refine Snd.b ?_
  exact s_str
  refine l_one ?_
  refine s_ret ?_
  refine s_and ?_ ?_
  refine s_cmp nx_eq (op_eqC hr.units) ?_ ?_ (nomark _)
  refine Snd.b ?_
  refine s_len (by rfl) z_len ?_
  exact s_varB 0 (pv 0)
  refine Snd.b ?_
  exact s_int
  refine s_one ?_
  refine s_callZ hy O_is_span hr (by omega) (by rfl) C_is_span.m C_is_span.F.kp C_is_span.b ?_
  refine a_cons ?_ ?_
  refine s_ix ?_ ?_
  exact s_var 0 (pv 0)
  exact s_int
  refine a_cons ?_ ?_
  refine s_ix ?_ ?_
  exact s_var 0 (pv 0)
  exact s_int
  refine a_cons ?_ ?_
  refine s_neg ?_
  exact s_int
  refine a_cons ?_ ?_
  exact s_int
  exact a_nil
  exact l_nil
  refine l_cons ?_ ?_
  refine s_ifS ?_ ?_ ?_
  refine t_cmp nx_eq (op_eqC hr.units) ?_ ?_ (nomark _)
  refine Snd.b ?_
  refine s_ix ?_ ?_
  exact s_var 0 (pv 0)
  exact s_int
  refine Snd.b ?_
  exact s_str
  refine l_one ?_
  refine s_ret ?_
  refine s_and ?_ ?_
  refine s_cmp nx_eq (op_eqC hr.units) ?_ ?_ (nomark _)
  refine Snd.b ?_
  refine s_len (by rfl) z_len ?_
  exact s_varB 0 (pv 0)
  refine Snd.b ?_
  exact s_int
  refine s_one ?_
  refine s_callZ hy O_are_choices hr (by omega) (by rfl) C_are_choices.m C_are_choices.F.kp C_are_choices.b ?_
  refine a_cons ?_ ?_
  refine s_ix ?_ ?_
  exact s_var 0 (pv 0)
  exact s_int
  exact a_nil
  exact l_nil
  refine l_cons ?_ ?_
  refine s_ifS ?_ ?_ ?_
  refine t_cmp nx_eq (op_eqC hr.units) ?_ ?_ (nomark _)
  refine Snd.b ?_
  refine s_ix ?_ ?_
  exact s_var 0 (pv 0)
  exact s_int
  refine Snd.b ?_
  exact s_str
  refine l_one ?_
  refine s_ret ?_
  refine s_and ?_ ?_
  refine s_cmp nx_eq (op_eqC hr.units) ?_ ?_ (nomark _)
  refine Snd.b ?_
  refine s_len (by rfl) z_len ?_
  exact s_varB 0 (pv 0)
  refine Snd.b ?_
  exact s_int
  refine s_one ?_
  refine s_callZ hy O_are_kinds_within hr (by omega) (by rfl) C_are_kinds_within.m C_are_kinds_within.F.kp C_are_kinds_within.b ?_
  refine a_cons ?_ ?_
  refine s_ix ?_ ?_
  exact s_var 0 (pv 0)
  exact s_int
  refine a_cons ?_ ?_
  refine s_sub ?_ ?_
  exact s_var 1 (pv 1)
  exact s_int
  exact a_nil
  exact l_nil
  refine l_cons ?_ ?_
  refine s_ifS ?_ ?_ ?_
  refine t_cmp nx_eq (op_eqC hr.units) ?_ ?_ (nomark _)
  refine Snd.b ?_
  refine s_ix ?_ ?_
  exact s_var 0 (pv 0)
  exact s_int
  refine Snd.b ?_
  exact s_str
  refine l_one ?_
  refine s_ret ?_
  refine s_and ?_ ?_
  refine s_cmp nx_eq (op_eqC hr.units) ?_ ?_ (nomark _)
  refine Snd.b ?_
  refine s_len (by rfl) z_len ?_
  exact s_varB 0 (pv 0)
  refine Snd.b ?_
  exact s_int
  refine s_and ?_ ?_
  refine s_callZ hy O_is_span hr (by omega) (by rfl) C_is_span.m C_is_span.F.kp C_is_span.b ?_
  refine a_cons ?_ ?_
  refine s_ix ?_ ?_
  exact s_var 0 (pv 0)
  exact s_int
  refine a_cons ?_ ?_
  refine s_ix ?_ ?_
  exact s_var 0 (pv 0)
  exact s_int
  refine a_cons ?_ ?_
  exact s_int
  refine a_cons ?_ ?_
  exact s_int
  exact a_nil
  refine s_one ?_
  refine s_callZ hy O_is_kind_within hr (by omega) (by rfl) C_is_kind_within.m C_is_kind_within.F.kp C_is_kind_within.b ?_
  refine a_cons ?_ ?_
  refine s_ix ?_ ?_
  exact s_var 0 (pv 0)
  exact s_int
  refine a_cons ?_ ?_
  refine s_sub ?_ ?_
  exact s_var 1 (pv 1)
  exact s_int
  exact a_nil
  exact l_nil
  refine l_one ?_
  refine s_ret ?_
  exact s_bl
set_option maxHeartbeats 4000000 in
theorem ok_are_kinds_within {a_is_tuple_of a_is_kind_within a_are_kinds_within : Addr} {d_is_tuple_of d_is_kind_within d_are_kinds_within : FuncData} {j : Nat} (hj : 3 ≤ j) {c_is_tuple_of c_is_kind_within : List T → R T} (C_is_tuple_of : Fn K mg "is_tuple_of" s_is_tuple_of ["thing", "least", "most"] a_is_tuple_of d_is_tuple_of) (C_is_kind_within : Fn K mg "is_kind_within" s_is_kind_within ["thing", "levels"] a_is_kind_within d_is_kind_within) (C_are_kinds_within : Fn K mg "are_kinds_within" s_are_kinds_within ["thing", "levels"] a_are_kinds_within d_are_kinds_within) (O_is_tuple_of : FnOk P w K mg base CX0 1 a_is_tuple_of d_is_tuple_of ["thing", "least", "most"] (spP cl 3 (c_is_tuple_of))) (O_is_kind_within : FnOk P w K mg base CX0 j a_is_kind_within d_is_kind_within ["thing", "levels"] (spP cl 2 (c_is_kind_within))) (z_all : mg "all" = none)  : FnOk P w K mg base CX0 (j + 1) a_are_kinds_within d_are_kinds_within ["thing", "levels"] (spP cl 2 (fun ts => outR (b_are_kinds_within c_is_tuple_of c_is_kind_within (en0 2 ts)))) := by
  refine fn_ok C_are_kinds_within.F sc_are_kinds_within rfl (fun cdv A outer s H E Y hy hr => ?_) (fun ts h => rfl)
  refine l_one ?_
  refine s_ret ?_
  refine s_and ?_ ?_
  refine s_callZ hy O_is_tuple_of hr (by omega) (by rfl) C_is_tuple_of.m C_is_tuple_of.F.kp C_is_tuple_of.b ?_
  refine a_cons ?_ ?_
  exact s_var 0 (pv 0)
  refine a_cons ?_ ?_
  exact s_int
  refine a_cons ?_ ?_
  exact s_int
  exact a_nil
  refine s_one ?_
  refine s_all hr.hd (by rfl) z_all ?_
  refine Snd.b ?_
  refine s_comp (crules ["part", "levels"] N_are_kinds_within (defScope s_are_kinds_within) (by rfl) (by rfl) (by decide +kernel) (by rfl) ?_ (fun _ _ _ _ _ _ => pg_name (show List.Nodup (["part", "levels"] : List Str) by decide +kernel) (by rfl) (.inl (by rfl)) (.inr (by rfl))) (gok_name 0) (gno_name 0) (fun Y' hy' _ _ _ _ _ _ => ?_) (fun Y' hy' _ _ _ _ _ _ => ?_))
  refine i_any ?_
  exact s_var 0 (pv 0)
  exact if_nil
  refine s_callZ (hy'.trans hy) O_is_kind_within hr (by omega) (by rfl) C_is_kind_within.m C_is_kind_within.F.kp C_is_kind_within.b ?_
  refine a_cons ?_ ?_
  exact s_var 0 (pv 0)
  refine a_cons ?_ ?_
  exact s_var 1 (pv 1)
  exact a_nil
set_option maxHeartbeats 4000000 in
theorem ok_is_kind {a_is_kind a_is_kind_within : Addr} {d_is_kind d_is_kind_within : FuncData} {c_is_kind_within : List T → R T} (C_is_kind : Fn K mg "is_kind" s_is_kind ["thing"] a_is_kind d_is_kind) (C_is_kind_within : Fn K mg "is_kind_within" s_is_kind_within ["thing", "levels"] a_is_kind_within d_is_kind_within) (O_is_kind_within : FnOk P w K mg base CX0 23 a_is_kind_within d_is_kind_within ["thing", "levels"] (spP cl 2 (c_is_kind_within)))  (c_DEEPEST : ∃ u, mg "DEEPEST" = some u ∧ ∃ t, u = Value.int 3 t) : FnOk P w K mg base CX0 24 a_is_kind d_is_kind ["thing"] (spP cl 1 (fun ts => outR (b_is_kind c_is_kind_within (en0 1 ts)))) := by
  obtain ⟨u_DEEPEST, c_DEEPEST⟩ := c_DEEPEST
  refine fn_ok C_is_kind.F sc_is_kind rfl (fun cdv A outer s H E Y hy hr => ?_) (fun ts h => rfl)
  refine l_one ?_
  refine s_ret ?_
  refine s_callZ hy O_is_kind_within hr (by omega) (by rfl) C_is_kind_within.m C_is_kind_within.F.kp C_is_kind_within.b ?_
  refine a_cons ?_ ?_
  exact s_var 0 (pv 0)
  refine a_cons ?_ ?_
  exact s_globI (by rfl) c_DEEPEST.1 c_DEEPEST.2
  exact a_nil
set_option maxHeartbeats 4000000 in
theorem ok__law_whole {a__law_whole : Addr} {d__law_whole : FuncData} (C__law_whole : Fn K mg "_law_whole" s__law_whole ["_law_thing", "_law_low", "_law_high"] a__law_whole d__law_whole)  (z_bool : mg "bool" = none) (z_int : mg "int" = none) (z_isinstance : mg "isinstance" = none)  : FnOk P w K mg base CX0 1 a__law_whole d__law_whole ["_law_thing", "_law_low", "_law_high"] (spP cl 3 (fun ts => outR (b__law_whole  (en0 3 ts)))) := by
  refine fn_ok C__law_whole.F sc__law_whole rfl (fun cdv A outer s H E Y hy hr => ?_) (fun ts h => rfl)
  refine l_one ?_
  refine s_ret ?_
  refine s_and ?_ ?_
  refine s_isi (n := "int") (kit_int _) (by rfl) z_isinstance (by rfl) z_int PyProof.Rows.Boot.«int» ?_
  exact s_varB 0 (pv 0)
  refine s_and ?_ ?_
  refine s_not ?_
  refine s_isi (n := "bool") (kit_bool _) (by rfl) z_isinstance (by rfl) z_bool PyProof.Rows.Boot.«bool» ?_
  exact s_varB 0 (pv 0)
  refine s_one ?_
  refine s_chain nx_le nx_le op_leC op_leC ?_ ?_ ?_
  exact s_varB 1 (pv 1)
  exact s_varB 0 (pv 0)
  exact s_varB 2 (pv 2)
set_option maxHeartbeats 4000000 in
theorem ok__law_is_word {a__law_is_word : Addr} {d__law_is_word : FuncData} (C__law_is_word : Fn K mg "_law_is_word" s__law_is_word ["_law_thing"] a__law_is_word d__law_is_word)  (z_isinstance : mg "isinstance" = none) (z_len : mg "len" = none) (z_str : mg "str" = none)  : FnOk P w K mg base CX0 1 a__law_is_word d__law_is_word ["_law_thing"] (spP cl 1 (fun ts => outR (b__law_is_word  (en0 1 ts)))) := by
  refine fn_ok C__law_is_word.F sc__law_is_word rfl (fun cdv A outer s H E Y hy hr => ?_) (fun ts h => rfl)
  refine l_one ?_
  refine s_ret ?_
  refine s_and ?_ ?_
  refine s_isi (n := "str") (kit_str _) (by rfl) z_isinstance (by rfl) z_str PyProof.Rows.Boot.«str» ?_
  exact s_varB 0 (pv 0)
  refine s_and ?_ ?_
  refine s_chain nx_le nx_le op_leC op_leC ?_ ?_ ?_
  refine Snd.b ?_
  exact s_int
  refine Snd.b ?_
  refine s_len (by rfl) z_len ?_
  exact s_varB 0 (pv 0)
  refine Snd.b ?_
  exact s_int
  refine s_one ?_
  refine s_cmp nx_eq (op_eqC hr.units) ?_ ?_ (nomark _)
  refine Snd.b ?_
  refine s_comp (crules ["_law_sign"] N__law_is_word (defScope s__law_is_word) (by rfl) (by rfl) (by decide +kernel) (by rfl) ?_ (fun _ _ _ _ _ _ => pg_name (show List.Nodup (["_law_sign"] : List Str) by decide +kernel) (by rfl) (.inl (by rfl)) (.inr (by rfl))) (gok_name 0) (gno_name 0) (fun Y' hy' _ _ _ _ _ _ => ?_) (fun Y' hy' _ _ _ _ _ _ => ?_))
  refine i_any ?_
  exact s_var 0 (pv 0)
  refine if_one ?_
  refine t_not ?_
  refine t_chain nx_le nx_le op_leC op_leC ?_ ?_ ?_
  refine Snd.b ?_
  exact s_str
  exact s_varB 0 (pv 0)
  refine Snd.b ?_
  exact s_str
  exact s_var 0 (pv 0)
  refine Snd.b ?_
  refine s_lst ?_
  exact a_nil
set_option maxHeartbeats 4000000 in
theorem ok__law_is_kind {a__law_whole a__law_is_word a__law_is_kind : Addr} {d__law_whole d__law_is_word d__law_is_kind : FuncData} {j : Nat} (hj : 1 ≤ j) {c__law_whole c__law_is_word c__law_is_kind : List T → R T} (C__law_whole : Fn K mg "_law_whole" s__law_whole ["_law_thing", "_law_low", "_law_high"] a__law_whole d__law_whole) (C__law_is_word : Fn K mg "_law_is_word" s__law_is_word ["_law_thing"] a__law_is_word d__law_is_word) (C__law_is_kind : Fn K mg "_law_is_kind" s__law_is_kind ["_law_thing", "_law_deep"] a__law_is_kind d__law_is_kind) (O__law_whole : FnOk P w K mg base CX0 1 a__law_whole d__law_whole ["_law_thing", "_law_low", "_law_high"] (spP cl 3 (c__law_whole))) (O__law_is_word : FnOk P w K mg base CX0 1 a__law_is_word d__law_is_word ["_law_thing"] (spP cl 1 (c__law_is_word))) (O__law_is_kind : FnOk P w K mg base CX0 j a__law_is_kind d__law_is_kind ["_law_thing", "_law_deep"] (spP cl 2 (c__law_is_kind))) (z_isinstance : mg "isinstance" = none) (z_len : mg "len" = none) (z_range : mg "range" = none) (z_str : mg "str" = none) (z_tuple : mg "tuple" = none)  : FnOk P w K mg base CX0 (j + 1) a__law_is_kind d__law_is_kind ["_law_thing", "_law_deep"] (spP cl 2 (fun ts => outR (b__law_is_kind c__law_whole c__law_is_word c__law_is_kind (en0 6 ts)))) := by
  refine fn_ok C__law_is_kind.F sc__law_is_kind rfl (fun cdv A outer s H E Y hy hr => ?_) (fun ts h => rfl)
  refine l_cons ?_ ?_
  refine s_ifS ?_ ?_ ?_
  refine SndW.t ?_
  refine w_or ?_ ?_
  refine t_not ?_
  refine t_val ?_
  refine Snd.b ?_
  refine s_isi (n := "tuple") (kit_tuple _) (by rfl) z_isinstance (by rfl) z_tuple PyProof.Rows.Boot.«tuple» ?_
  exact s_varB 0 (pv 0)
  refine w_or ?_ ?_
  refine t_cmp nx_lt op_ltC ?_ ?_ (nomark _)
  refine Snd.b ?_
  refine s_len (by rfl) z_len ?_
  exact s_varB 0 (pv 0)
  refine Snd.b ?_
  exact s_int
  refine w_or ?_ ?_
  refine t_not ?_
  refine t_val ?_
  refine Snd.b ?_
  refine s_isi (n := "str") (kit_str _) (by rfl) z_isinstance (by rfl) z_str PyProof.Rows.Boot.«str» ?_
  refine Snd.b ?_
  refine s_ix ?_ ?_
  exact s_var 0 (pv 0)
  exact s_int
  refine w_or1 ?_
  refine t_cmp nx_lt op_ltC ?_ ?_ (nomark _)
  exact s_varB 1 (pv 1)
  refine Snd.b ?_
  exact s_int
  refine l_one ?_
  refine s_ret ?_
  exact s_bl
  exact l_nil
  refine l_cons ?_ ?_
  refine s_par (i := 2) (j := 3) (by rfl) sc__law_is_kind.nd (by rfl) (by rfl) (by decide) (by rfl) (by rfl) ?_ (by rfl)
  refine a_cons ?_ ?_
  refine s_ix ?_ ?_
  exact s_var 0 (pv 0)
  exact s_int
  refine a_cons ?_ ?_
  refine s_slice ?_ ?_ ?_
  exact s_var 0 (pv 0)
  refine o_some ?_
  exact s_int
  exact o_none
  exact a_nil
  refine l_cons ?_ ?_
  refine s_ifS ?_ ?_ ?_
  refine t_cmp nx_eq (op_eqC hr.units) ?_ ?_ (nomark _)
  exact s_varB 2 (pv 2)
  refine Snd.b ?_
  exact s_str
  refine l_one ?_
  refine s_ret ?_
  refine s_and ?_ ?_
  refine s_cmp nx_eq (op_eqC hr.units) ?_ ?_ (nomark _)
  refine Snd.b ?_
  refine s_len (by rfl) z_len ?_
  exact s_varB 3 (pv 3)
  refine Snd.b ?_
  exact s_int
  refine s_and ?_ ?_
  refine s_callZ hy O__law_whole hr (by omega) (by rfl) C__law_whole.m C__law_whole.F.kp C__law_whole.b ?_
  refine a_cons ?_ ?_
  refine s_ix ?_ ?_
  exact s_var 3 (pv 3)
  exact s_int
  refine a_cons ?_ ?_
  refine s_neg ?_
  exact s_int
  refine a_cons ?_ ?_
  exact s_int
  exact a_nil
  refine s_one ?_
  refine s_callZ hy O__law_whole hr (by omega) (by rfl) C__law_whole.m C__law_whole.F.kp C__law_whole.b ?_
  refine a_cons ?_ ?_
  refine s_ix ?_ ?_
  exact s_var 3 (pv 3)
  exact s_int
  refine a_cons ?_ ?_
  refine s_ix ?_ ?_
  exact s_var 3 (pv 3)
  exact s_int
  refine a_cons ?_ ?_
  exact s_int
  exact a_nil
  exact l_nil
  refine l_cons ?_ ?_
  refine s_ifS ?_ ?_ ?_
  refine t_cmp nx_eq (op_eqC hr.units) ?_ ?_ (nomark _)
  exact s_varB 2 (pv 2)
  refine Snd.b ?_
  exact s_str
  refine l_cons ?_ ?_
  refine s_ifS ?_ ?_ ?_
  refine SndW.t ?_
  refine w_or ?_ ?_
  refine t_cmp nx_ne (op_neC hr.units) ?_ ?_ (nomark _)
  refine Snd.b ?_
  refine s_len (by rfl) z_len ?_
  exact s_varB 3 (pv 3)
  refine Snd.b ?_
  exact s_int
  refine w_or ?_ ?_
  refine t_not ?_
  refine t_val ?_
  refine Snd.b ?_
  refine s_isi (n := "tuple") (kit_tuple _) (by rfl) z_isinstance (by rfl) z_tuple PyProof.Rows.Boot.«tuple» ?_
  refine Snd.b ?_
  refine s_ix ?_ ?_
  exact s_var 3 (pv 3)
  exact s_int
  refine w_or1 ?_
  refine t_not ?_
  refine t_chain nx_le nx_le op_leC op_leC ?_ ?_ ?_
  refine Snd.b ?_
  exact s_int
  refine Snd.b ?_
  refine s_len (by rfl) z_len ?_
  refine Snd.b ?_
  refine s_ix ?_ ?_
  exact s_var 3 (pv 3)
  exact s_int
  refine Snd.b ?_
  exact s_int
  refine l_one ?_
  refine s_ret ?_
  exact s_bl
  exact l_nil
  refine l_cons ?_ ?_
  refine s_setC (i := 4) (crules ["_law_one"] N__law_is_kind (defScope s__law_is_kind) (by rfl) (by rfl) (by decide +kernel) (by rfl) ?_ (fun _ _ _ _ _ _ => pg_name (show List.Nodup (["_law_one"] : List Str) by decide +kernel) (by rfl) (.inl (by rfl)) (.inr (by rfl))) (gok_name 0) (gno_name 0) (fun Y' hy' _ _ _ _ _ _ => ?_) (fun Y' hy' _ _ _ _ _ _ => ?_)) sc__law_is_kind.nd (by rfl) (.inl (by rfl)) (by rfl)
  refine i_any ?_
  refine s_ix ?_ ?_
  exact s_var 3 (pv 3)
  exact s_int
  refine if_one ?_
  refine SndW.t ?_
  refine w_and ?_ ?_
  refine t_val ?_
  refine Snd.b ?_
  refine s_isi (n := "tuple") (kit_tuple _) (by rfl) z_isinstance (by rfl) z_tuple PyProof.Rows.Boot.«tuple» ?_
  exact s_varB 0 (pv 0)
  refine w_and1 ?_
  refine t_cmp nx_eq (op_eqC hr.units) ?_ ?_ (nomark _)
  refine Snd.b ?_
  refine s_len (by rfl) z_len ?_
  exact s_varB 0 (pv 0)
  refine Snd.b ?_
  exact s_int
  exact s_var 0 (pv 0)
  refine l_cons ?_ ?_
  refine s_set (i := 5) sc__law_is_kind.nd (by rfl) (.inr (by rfl)) (s_comp (crules ["_law_one"] N__law_is_kind (defScope s__law_is_kind) (by rfl) (by rfl) (by decide +kernel) (by rfl) ?_ (fun _ _ _ _ _ _ => pg_name (show List.Nodup (["_law_one"] : List Str) by decide +kernel) (by rfl) (.inl (by rfl)) (.inr (by rfl))) (gok_name 0) (gno_name 0) (fun Y' hy' _ _ _ _ _ _ => ?_) (fun Y' hy' _ _ _ _ _ _ => ?_)))
  refine i_any ?_
  exact s_var 4 (pv 4)
  refine if_one ?_
  refine SndW.t ?_
  refine w_and ?_ ?_
  refine t_val ?_
  refine Snd.b ?_
  refine s_callZ (hy'.trans hy) O__law_is_word hr (by omega) (by rfl) C__law_is_word.m C__law_is_word.F.kp C__law_is_word.b ?_
  refine a_cons ?_ ?_
  refine s_ix ?_ ?_
  exact s_var 0 (pv 0)
  exact s_int
  exact a_nil
  refine w_and1 ?_
  refine t_val ?_
  refine Snd.b ?_
  refine s_callZ (hy'.trans hy) O__law_whole hr (by omega) (by rfl) C__law_whole.m C__law_whole.F.kp C__law_whole.b ?_
  refine a_cons ?_ ?_
  refine s_ix ?_ ?_
  exact s_var 0 (pv 0)
  exact s_int
  refine a_cons ?_ ?_
  exact s_int
  refine a_cons ?_ ?_
  exact s_int
  exact a_nil
  refine s_ix ?_ ?_
  exact s_var 0 (pv 0)
  exact s_int
  refine l_one ?_
  refine s_ret ?_
  refine s_and ?_ ?_
  refine s_cmp nx_eq (op_eqC hr.units) ?_ ?_ (nomark _)
  refine Snd.b ?_
  refine s_len (by rfl) z_len ?_
  exact s_varB 5 (pv 5)
  refine Snd.b ?_
  refine s_len (by rfl) z_len ?_
  refine Snd.b ?_
  refine s_ix ?_ ?_
  exact s_var 3 (pv 3)
  exact s_int
  refine s_one ?_
  refine s_cmp nx_eq (op_eqC hr.units) ?_ ?_ (nomark _)
  refine Snd.b ?_
  refine s_comp (crules ["_law_k", "_law_words"] N__law_is_kind (defScope s__law_is_kind) (by rfl) (by rfl) (by decide +kernel) (by rfl) ?_ (fun _ _ _ _ _ _ => pg_name (show List.Nodup (["_law_k", "_law_words"] : List Str) by decide +kernel) (by rfl) (.inl (by rfl)) (.inr (by rfl))) (gok_name 0) (gno_name 0) (fun Y' hy' _ _ _ _ _ _ => ?_) (fun Y' hy' _ _ _ _ _ _ => ?_))
  refine i_rng1 (by rfl) z_range ?_
  refine s_len (by rfl) z_len ?_
  exact s_varB 5 (pv 5)
  refine if_one ?_
  refine t_cmp nx_in (op_inC hr.units) ?_ ?_ (by rfl)
  refine Snd.b ?_
  refine s_ix ?_ ?_
  exact s_var 1 (pv 1)
  exact s_var 0 (pv 0)
  refine Snd.b ?_
  refine s_slice ?_ ?_ ?_
  exact s_var 1 (pv 1)
  exact o_none
  refine o_some ?_
  exact s_var 0 (pv 0)
  exact s_var 0 (pv 0)
  refine Snd.b ?_
  refine s_lst ?_
  exact a_nil
  exact l_nil
  refine l_cons ?_ ?_
  refine s_ifS ?_ ?_ ?_
  refine t_cmp nx_eq (op_eqC hr.units) ?_ ?_ (nomark _)
  exact s_varB 2 (pv 2)
  refine Snd.b ?_
  exact s_str
  refine l_cons ?_ ?_
  refine s_ifS ?_ ?_ ?_
  refine SndW.t ?_
  refine w_or ?_ ?_
  refine t_cmp nx_ne (op_neC hr.units) ?_ ?_ (nomark _)
  refine Snd.b ?_
  refine s_len (by rfl) z_len ?_
  exact s_varB 3 (pv 3)
  refine Snd.b ?_
  exact s_int
  refine w_or ?_ ?_
  refine t_not ?_
  refine t_val ?_
  refine Snd.b ?_
  refine s_isi (n := "tuple") (kit_tuple _) (by rfl) z_isinstance (by rfl) z_tuple PyProof.Rows.Boot.«tuple» ?_
  refine Snd.b ?_
  refine s_ix ?_ ?_
  exact s_var 3 (pv 3)
  exact s_int
  refine w_or1 ?_
  refine t_not ?_
  refine t_chain nx_le nx_le op_leC op_leC ?_ ?_ ?_
  refine Snd.b ?_
  exact s_int
  refine Snd.b ?_
  refine s_len (by rfl) z_len ?_
  refine Snd.b ?_
  refine s_ix ?_ ?_
  exact s_var 3 (pv 3)
  exact s_int
  refine Snd.b ?_
  exact s_int
  refine l_one ?_
  refine s_ret ?_
  exact s_bl
  exact l_nil
  refine l_one ?_
  refine s_ret ?_
  refine s_cmp nx_eq (op_eqC hr.units) ?_ ?_ (nomark _)
  refine Snd.b ?_
  refine s_comp (crules ["_law_one", "_law_deep"] N__law_is_kind (defScope s__law_is_kind) (by rfl) (by rfl) (by decide +kernel) (by rfl) ?_ (fun _ _ _ _ _ _ => pg_name (show List.Nodup (["_law_one", "_law_deep"] : List Str) by decide +kernel) (by rfl) (.inl (by rfl)) (.inr (by rfl))) (gok_name 0) (gno_name 0) (fun Y' hy' _ _ _ _ _ _ => ?_) (fun Y' hy' _ _ _ _ _ _ => ?_))
  refine i_any ?_
  refine s_ix ?_ ?_
  exact s_var 3 (pv 3)
  exact s_int
  refine if_one ?_
  refine t_not ?_
  refine t_val ?_
  refine Snd.b ?_
  refine s_callZ (hy'.trans hy) O__law_is_kind hr (by omega) (by rfl) C__law_is_kind.m C__law_is_kind.F.kp C__law_is_kind.b ?_
  refine a_cons ?_ ?_
  exact s_var 0 (pv 0)
  refine a_cons ?_ ?_
  refine s_sub ?_ ?_
  exact s_var 1 (pv 1)
  exact s_int
  exact a_nil
  exact s_var 0 (pv 0)
  refine Snd.b ?_
  refine s_lst ?_
  exact a_nil
  exact l_nil
  refine l_cons ?_ ?_
  refine s_ifS ?_ ?_ ?_
  refine SndW.t ?_
  refine w_or ?_ ?_
  refine t_cmp nx_ne (op_neC hr.units) ?_ ?_ (nomark _)
  exact s_varB 2 (pv 2)
  refine Snd.b ?_
  exact s_str
  refine w_or ?_ ?_
  refine t_cmp nx_ne (op_neC hr.units) ?_ ?_ (nomark _)
  refine Snd.b ?_
  refine s_len (by rfl) z_len ?_
  exact s_varB 3 (pv 3)
  refine Snd.b ?_
  exact s_int
  refine w_or ?_ ?_
  refine t_not ?_
  refine t_val ?_
  refine Snd.b ?_
  refine s_callZ hy O__law_whole hr (by omega) (by rfl) C__law_whole.m C__law_whole.F.kp C__law_whole.b ?_
  refine a_cons ?_ ?_
  refine s_ix ?_ ?_
  exact s_var 3 (pv 3)
  exact s_int
  refine a_cons ?_ ?_
  exact s_int
  refine a_cons ?_ ?_
  exact s_int
  exact a_nil
  refine w_or1 ?_
  refine t_not ?_
  refine t_val ?_
  refine Snd.b ?_
  refine s_callZ hy O__law_whole hr (by omega) (by rfl) C__law_whole.m C__law_whole.F.kp C__law_whole.b ?_
  refine a_cons ?_ ?_
  refine s_ix ?_ ?_
  exact s_var 3 (pv 3)
  exact s_int
  refine a_cons ?_ ?_
  refine s_ix ?_ ?_
  exact s_var 3 (pv 3)
  exact s_int
  refine a_cons ?_ ?_
  exact s_int
  exact a_nil
  refine l_one ?_
  refine s_ret ?_
  exact s_bl
  exact l_nil
  refine l_one ?_
  refine s_ret ?_
  refine s_callZ hy O__law_is_kind hr (by omega) (by rfl) C__law_is_kind.m C__law_is_kind.F.kp C__law_is_kind.b ?_
  refine a_cons ?_ ?_
  refine s_ix ?_ ?_
  exact s_var 3 (pv 3)
  exact s_int
  refine a_cons ?_ ?_
  refine s_sub ?_ ?_
  exact s_var 1 (pv 1)
  exact s_int
  exact a_nil
set_option maxHeartbeats 4000000 in
theorem ok__law_places {a__law_places : Addr} {d__law_places : FuncData} {j : Nat} (hj : 0 ≤ j) {c__law_places : List T → R T} (C__law_places : Fn K mg "_law_places" s__law_places ["_law_thing"] a__law_places d__law_places) (O__law_places : FnOk P w K mg base CX0 j a__law_places d__law_places ["_law_thing"] (spP cl 1 (c__law_places))) (z_isinstance : mg "isinstance" = none) (z_len : mg "len" = none) (z_range : mg "range" = none) (z_tuple : mg "tuple" = none)  : FnOk P w K mg base CX0 (j + 1) a__law_places d__law_places ["_law_thing"] (spP cl 1 (fun ts => outR (b__law_places c__law_places (en0 3 ts)))) := by
  refine fn_ok C__law_places.F sc__law_places rfl (fun cdv A outer s H E Y hy hr => ?_) (fun ts h => rfl)
  refine l_cons ?_ ?_
  refine s_setL (i := 1) sc__law_places.nd (by rfl) (.inl (by rfl)) ?_
  refine a_cons ?_ ?_
  refine s_tup ?_
  exact a_nil
  exact a_nil
  refine l_cons ?_ ?_
  refine s_ifS ?_ ?_ ?_
  refine t_val ?_
  refine Snd.b ?_
  refine s_isi (n := "tuple") (kit_tuple _) (by rfl) z_isinstance (by rfl) z_tuple PyProof.Rows.Boot.«tuple» ?_
  exact s_varB 0 (pv 0)
  refine l_one ?_
  refine s_for PassesOwn.never (by rfl) ?_ ?_ ?_
  refine i_rng1 (by rfl) z_range ?_
  refine s_len (by rfl) z_len ?_
  exact s_varB 0 (pv 0)
  exact g_name (i := 2) sc__law_places.nd (by rfl) (.inr (by rfl))
  refine l_one ?_
  refine s_ext (i := 1) (pv 1) ?_
  refine s_comp (crules ["_law_place", "_law_k"] N__law_places (defScope s__law_places) (by rfl) (by rfl) (by decide +kernel) (by rfl) ?_ (fun _ _ _ _ _ _ => pg_name (show List.Nodup (["_law_place", "_law_k"] : List Str) by decide +kernel) (by rfl) (.inl (by rfl)) (.inr (by rfl))) (gok_name 0) (gno_name 0) (fun Y' hy' _ _ _ _ _ _ => ?_) (fun Y' hy' _ _ _ _ _ _ => ?_))
  refine i_any ?_
  refine s_callZ hy O__law_places hr (by omega) (by rfl) C__law_places.m C__law_places.F.kp C__law_places.b ?_
  refine a_cons ?_ ?_
  refine s_ix ?_ ?_
  exact s_var 0 (pv 0)
  exact s_var 2 (pv 2)
  exact a_nil
  exact if_nil
  refine s_add ?_ ?_
  refine s_tup ?_
  refine a_cons ?_ ?_
  exact s_var 1 (pv 1)
  exact a_nil
  exact s_var 0 (pv 0)
  exact l_nil
  refine l_one ?_
  refine s_ret ?_
  exact s_var 1 (pv 1)
set_option maxHeartbeats 4000000 in
theorem ok__law_at {a__law_at : Addr} {d__law_at : FuncData} (C__law_at : Fn K mg "_law_at" s__law_at ["_law_thing", "_law_place"] a__law_at d__law_at)    : FnOk P w K mg base CX0 1 a__law_at d__law_at ["_law_thing", "_law_place"] (spP cl 2 (fun ts => outR (b__law_at  (en0 3 ts)))) := by
  refine fn_ok C__law_at.F sc__law_at rfl (fun cdv A outer s H E Y hy hr => ?_) (fun ts h => rfl)
  refine l_cons ?_ ?_
  refine s_for PassesOwn.never (by rfl) ?_ ?_ ?_
  refine i_any ?_
  exact s_var 1 (pv 1)
  exact g_name (i := 2) sc__law_at.nd (by rfl) (.inl (by rfl))
  refine l_one ?_
  refine s_set (i := 0) sc__law_at.nd (by rfl) (.inl (by rfl)) ?_
  refine s_ix ?_ ?_
  exact s_var 0 (pv 0)
  exact s_var 2 (pv 2)
  refine l_one ?_
  refine s_ret ?_
  exact s_var 0 (pv 0)
set_option maxHeartbeats 4000000 in
theorem ok__law_put {a__law_put : Addr} {d__law_put : FuncData} {j : Nat} (hj : 0 ≤ j) {c__law_put : List T → R T} (C__law_put : Fn K mg "_law_put" s__law_put ["_law_thing", "_law_place", "_law_new"] a__law_put d__law_put) (O__law_put : FnOk P w K mg base CX0 j a__law_put d__law_put ["_law_thing", "_law_place", "_law_new"] (spP cl 3 (c__law_put)))   : FnOk P w K mg base CX0 (j + 1) a__law_put d__law_put ["_law_thing", "_law_place", "_law_new"] (spP cl 3 (fun ts => outR (b__law_put c__law_put (en0 4 ts)))) := by
  refine fn_ok C__law_put.F sc__law_put rfl (fun cdv A outer s H E Y hy hr => ?_) (fun ts h => rfl)
  refine l_cons ?_ ?_
  refine s_ifS ?_ ?_ ?_
  refine t_cmp nx_eq (op_eqC hr.units) ?_ ?_ (nomark _)
  exact s_varB 1 (pv 1)
  refine Snd.b ?_
  refine s_tup ?_
  exact a_nil
  refine l_one ?_
  refine s_ret ?_
  exact s_var 2 (pv 2)
  exact l_nil
  refine l_cons ?_ ?_
  refine s_set (i := 3) sc__law_put.nd (by rfl) (.inl (by rfl)) ?_
  refine s_ix ?_ ?_
  exact s_var 1 (pv 1)
  exact s_int
  refine l_one ?_
  refine s_ret ?_
  refine s_add ?_ ?_
  refine s_add ?_ ?_
  refine s_slice ?_ ?_ ?_
  exact s_var 0 (pv 0)
  exact o_none
  refine o_some ?_
  exact s_var 3 (pv 3)
  refine s_tup ?_
  refine a_cons ?_ ?_
  refine s_callZ hy O__law_put hr (by omega) (by rfl) C__law_put.m C__law_put.F.kp C__law_put.b ?_
  refine a_cons ?_ ?_
  refine s_ix ?_ ?_
  exact s_var 0 (pv 0)
  exact s_var 3 (pv 3)
  refine a_cons ?_ ?_
  refine s_slice ?_ ?_ ?_
  exact s_var 1 (pv 1)
  refine o_some ?_
  exact s_int
  exact o_none
  refine a_cons ?_ ?_
  exact s_var 2 (pv 2)
  exact a_nil
  exact a_nil
  refine s_slice ?_ ?_ ?_
  exact s_var 0 (pv 0)
  refine o_some ?_
  refine s_add ?_ ?_
  exact s_var 3 (pv 3)
  exact s_int
  exact o_none
set_option maxHeartbeats 4000000 in
theorem ok__law_spoilt_thing {a__law_pick a__law_places a__law_at a__law_put a__law_spoilt_thing : Addr} {d__law_pick d__law_places d__law_at d__law_put d__law_spoilt_thing : FuncData} {c__law_pick c__law_places c__law_at c__law_put : List T → R T} (C__law_pick : Fn K mg "_law_pick" s__law_pick ["_law_script", "_law_k", "_law_many"] a__law_pick d__law_pick) (C__law_places : Fn K mg "_law_places" s__law_places ["_law_thing"] a__law_places d__law_places) (C__law_at : Fn K mg "_law_at" s__law_at ["_law_thing", "_law_place"] a__law_at d__law_at) (C__law_put : Fn K mg "_law_put" s__law_put ["_law_thing", "_law_place", "_law_new"] a__law_put d__law_put) (C__law_spoilt_thing : Fn K mg "_law_spoilt_thing" s__law_spoilt_thing ["_law_script", "_law_at_here", "_law_thing"] a__law_spoilt_thing d__law_spoilt_thing) (O__law_pick : FnOk P w K mg base CX0 2 a__law_pick d__law_pick ["_law_script", "_law_k", "_law_many"] (spP cl 3 (c__law_pick))) (O__law_places : FnOk P w K mg base CX0 40 a__law_places d__law_places ["_law_thing"] (spP cl 1 (c__law_places))) (O__law_at : FnOk P w K mg base CX0 1 a__law_at d__law_at ["_law_thing", "_law_place"] (spP cl 2 (c__law_at))) (O__law_put : FnOk P w K mg base CX0 40 a__law_put d__law_put ["_law_thing", "_law_place", "_law_new"] (spP cl 3 (c__law_put))) (z_int : mg "int" = none) (z_isinstance : mg "isinstance" = none) (z_len : mg "len" = none) (z_tuple : mg "tuple" = none)  : FnOk P w K mg base CX0 41 a__law_spoilt_thing d__law_spoilt_thing ["_law_script", "_law_at_here", "_law_thing"] (spP cl 3 (fun ts => outR (b__law_spoilt_thing c__law_pick c__law_places c__law_at c__law_put (en0 9 ts)))) := by
  refine fn_ok C__law_spoilt_thing.F sc__law_spoilt_thing rfl (fun cdv A outer s H E Y hy hr => ?_) (fun ts h => rfl)
  refine l_cons ?_ ?_
  refine s_set (i := 3) sc__law_spoilt_thing.nd (by rfl) (.inl (by rfl)) ?_
  refine s_callZ hy O__law_places hr (by omega) (by rfl) C__law_places.m C__law_places.F.kp C__law_places.b ?_
  refine a_cons ?_ ?_
  exact s_var 2 (pv 2)
  exact a_nil
  refine l_cons ?_ ?_
  refine s_set (i := 4) sc__law_spoilt_thing.nd (by rfl) (.inl (by rfl)) ?_
  refine s_ix ?_ ?_
  exact s_var 3 (pv 3)
  refine s_callZ hy O__law_pick hr (by omega) (by rfl) C__law_pick.m C__law_pick.F.kp C__law_pick.b ?_
  refine a_cons ?_ ?_
  exact s_var 0 (pv 0)
  refine a_cons ?_ ?_
  exact s_var 1 (pv 1)
  refine a_cons ?_ ?_
  refine s_len (by rfl) z_len ?_
  exact s_varB 3 (pv 3)
  exact a_nil
  refine l_cons ?_ ?_
  refine s_set (i := 5) sc__law_spoilt_thing.nd (by rfl) (.inl (by rfl)) ?_
  refine s_callZ hy O__law_at hr (by omega) (by rfl) C__law_at.m C__law_at.F.kp C__law_at.b ?_
  refine a_cons ?_ ?_
  exact s_var 2 (pv 2)
  refine a_cons ?_ ?_
  exact s_var 4 (pv 4)
  exact a_nil
  refine l_cons ?_ ?_
  refine s_set (i := 6) sc__law_spoilt_thing.nd (by rfl) (.inl (by rfl)) ?_
  refine s_lst ?_
  refine a_cons ?_ ?_
  exact s_int
  refine a_cons ?_ ?_
  exact s_int
  refine a_cons ?_ ?_
  refine s_neg ?_
  exact s_int
  refine a_cons ?_ ?_
  exact s_int
  refine a_cons ?_ ?_
  exact s_int
  refine a_cons ?_ ?_
  exact s_int
  refine a_cons ?_ ?_
  exact s_bl
  refine a_cons ?_ ?_
  exact s_non
  refine a_cons ?_ ?_
  exact s_str
  refine a_cons ?_ ?_
  exact s_str
  refine a_cons ?_ ?_
  exact s_str
  refine a_cons ?_ ?_
  exact s_str
  refine a_cons ?_ ?_
  exact s_str
  refine a_cons ?_ ?_
  exact s_str
  refine a_cons ?_ ?_
  refine s_tup ?_
  exact a_nil
  refine a_cons ?_ ?_
  refine s_tup ?_
  refine a_cons ?_ ?_
  exact s_var 5 (pv 5)
  exact a_nil
  refine a_cons ?_ ?_
  refine s_lst ?_
  refine a_cons ?_ ?_
  exact s_var 5 (pv 5)
  exact a_nil
  refine a_cons ?_ ?_
  refine s_tup ?_
  refine a_cons ?_ ?_
  exact s_str
  refine a_cons ?_ ?_
  exact s_int
  refine a_cons ?_ ?_
  exact s_int
  exact a_nil
  exact a_nil
  refine l_cons ?_ ?_
  refine s_set (i := 7) sc__law_spoilt_thing.nd (by rfl) (.inl (by rfl)) ?_
  refine s_callZ hy O__law_pick hr (by omega) (by rfl) C__law_pick.m C__law_pick.F.kp C__law_pick.b ?_
  refine a_cons ?_ ?_
  exact s_var 0 (pv 0)
  refine a_cons ?_ ?_
  refine s_add ?_ ?_
  exact s_var 1 (pv 1)
  exact s_int
  refine a_cons ?_ ?_
  refine s_add ?_ ?_
  refine s_len (by rfl) z_len ?_
  exact s_varB 6 (pv 6)
  exact s_int
  exact a_nil
  refine l_cons ?_ ?_
  refine s_ifS ?_ ?_ ?_
  refine t_cmp nx_lt op_ltC ?_ ?_ (nomark _)
  exact s_varB 7 (pv 7)
  refine Snd.b ?_
  refine s_len (by rfl) z_len ?_
  exact s_varB 6 (pv 6)
  refine l_one ?_
  refine s_ret ?_
  refine s_callZ hy O__law_put hr (by omega) (by rfl) C__law_put.m C__law_put.F.kp C__law_put.b ?_
  refine a_cons ?_ ?_
  exact s_var 2 (pv 2)
  refine a_cons ?_ ?_
  exact s_var 4 (pv 4)
  refine a_cons ?_ ?_
  refine s_ix ?_ ?_
  exact s_var 6 (pv 6)
  exact s_var 7 (pv 7)
  exact a_nil
  exact l_nil
  refine l_cons ?_ ?_
  refine s_ifS ?_ ?_ ?_
  refine SndW.t ?_
  refine w_and ?_ ?_
  refine t_val ?_
  refine Snd.b ?_
  refine s_isi (n := "tuple") (kit_tuple _) (by rfl) z_isinstance (by rfl) z_tuple PyProof.Rows.Boot.«tuple» ?_
  exact s_varB 5 (pv 5)
  refine w_and1 ?_
  refine t_cmp nx_ne (op_neC hr.units) ?_ ?_ (nomark _)
  exact s_varB 5 (pv 5)
  refine Snd.b ?_
  refine s_tup ?_
  exact a_nil
  refine l_cons ?_ ?_
  refine s_set (i := 8) sc__law_spoilt_thing.nd (by rfl) (.inl (by rfl)) ?_
  refine s_callZ hy O__law_pick hr (by omega) (by rfl) C__law_pick.m C__law_pick.F.kp C__law_pick.b ?_
  refine a_cons ?_ ?_
  exact s_var 0 (pv 0)
  refine a_cons ?_ ?_
  refine s_add ?_ ?_
  exact s_var 1 (pv 1)
  exact s_int
  refine a_cons ?_ ?_
  refine s_len (by rfl) z_len ?_
  exact s_varB 5 (pv 5)
  exact a_nil
  refine l_one ?_
  refine s_ret ?_
  refine s_callZ hy O__law_put hr (by omega) (by rfl) C__law_put.m C__law_put.F.kp C__law_put.b ?_
  refine a_cons ?_ ?_
  exact s_var 2 (pv 2)
  refine a_cons ?_ ?_
  exact s_var 4 (pv 4)
  refine a_cons ?_ ?_
  refine s_ix ?_ ?_
  refine s_lst ?_
  refine a_cons ?_ ?_
  refine s_add ?_ ?_
  refine s_slice ?_ ?_ ?_
  exact s_var 5 (pv 5)
  exact o_none
  refine o_some ?_
  exact s_var 8 (pv 8)
  refine s_slice ?_ ?_ ?_
  exact s_var 5 (pv 5)
  refine o_some ?_
  refine s_add ?_ ?_
  exact s_var 8 (pv 8)
  exact s_int
  exact o_none
  refine a_cons ?_ ?_
  refine s_add ?_ ?_
  refine s_add ?_ ?_
  refine s_slice ?_ ?_ ?_
  exact s_var 5 (pv 5)
  exact o_none
  refine o_some ?_
  exact s_var 8 (pv 8)
  refine s_slice ?_ ?_ ?_
  exact s_var 5 (pv 5)
  refine o_some ?_
  exact s_var 8 (pv 8)
  refine o_some ?_
  refine s_add ?_ ?_
  exact s_var 8 (pv 8)
  exact s_int
  refine s_slice ?_ ?_ ?_
  exact s_var 5 (pv 5)
  refine o_some ?_
  exact s_var 8 (pv 8)
  exact o_none
  exact a_nil
  refine s_mod ?_ ?_
  exact s_var 7 (pv 7)
  exact s_int
  exact a_nil
  exact l_nil
  refine l_cons ?_ ?_
  refine s_ifS ?_ ?_ ?_
  refine t_val ?_
  refine Snd.b ?_
  refine s_isi (n := "int") (kit_int _) (by rfl) z_isinstance (by rfl) z_int PyProof.Rows.Boot.«int» ?_
  exact s_varB 5 (pv 5)
  refine l_one ?_
  refine s_ret ?_
  refine s_callZ hy O__law_put hr (by omega) (by rfl) C__law_put.m C__law_put.F.kp C__law_put.b ?_
  refine a_cons ?_ ?_
  exact s_var 2 (pv 2)
  refine a_cons ?_ ?_
  exact s_var 4 (pv 4)
  refine a_cons ?_ ?_
  refine s_sub ?_ ?_
  refine s_add ?_ ?_
  exact s_var 5 (pv 5)
  exact s_int
  refine s_mul ?_ ?_
  exact s_int
  refine s_mod ?_ ?_
  exact s_var 7 (pv 7)
  exact s_int
  exact a_nil
  exact l_nil
  refine l_one ?_
  refine s_ret ?_
  refine s_callZ hy O__law_put hr (by omega) (by rfl) C__law_put.m C__law_put.F.kp C__law_put.b ?_
  refine a_cons ?_ ?_
  exact s_var 2 (pv 2)
  refine a_cons ?_ ?_
  exact s_var 4 (pv 4)
  refine a_cons ?_ ?_
  refine s_tup ?_
  refine a_cons ?_ ?_
  exact s_str
  refine a_cons ?_ ?_
  refine s_tup ?_
  refine a_cons ?_ ?_
  exact s_var 5 (pv 5)
  refine a_cons ?_ ?_
  exact s_var 5 (pv 5)
  exact a_nil
  exact a_nil
  exact a_nil
set_option maxHeartbeats 4000000 in
theorem ok_law {a_is_kind a__law_pick a__law_kind a__law_is_kind a__law_spoilt_thing a_law : Addr} {d_is_kind d__law_pick d__law_kind d__law_is_kind d__law_spoilt_thing d_law : FuncData} {c_is_kind c__law_pick c__law_kind c__law_is_kind c__law_spoilt_thing : List T → R T} (C_is_kind : Fn K mg "is_kind" s_is_kind ["thing"] a_is_kind d_is_kind) (C__law_pick : Fn K mg "_law_pick" s__law_pick ["_law_script", "_law_k", "_law_many"] a__law_pick d__law_pick) (C__law_kind : Fn K mg "_law_kind" s__law_kind ["_law_script", "_law_at_here", "_law_deep"] a__law_kind d__law_kind) (C__law_is_kind : Fn K mg "_law_is_kind" s__law_is_kind ["_law_thing", "_law_deep"] a__law_is_kind d__law_is_kind) (C__law_spoilt_thing : Fn K mg "_law_spoilt_thing" s__law_spoilt_thing ["_law_script", "_law_at_here", "_law_thing"] a__law_spoilt_thing d__law_spoilt_thing) (C_law : Fn K mg "law" s_law ["_law_script"] a_law d_law) (O_is_kind : FnOk P w K mg base CX0 24 a_is_kind d_is_kind ["thing"] (spP cl 1 (c_is_kind))) (O__law_pick : FnOk P w K mg base CX0 2 a__law_pick d__law_pick ["_law_script", "_law_k", "_law_many"] (spP cl 3 (c__law_pick))) (O__law_kind : FnOk P w K mg base CX0 12 a__law_kind d__law_kind ["_law_script", "_law_at_here", "_law_deep"] (spP cl 3 (c__law_kind))) (O__law_is_kind : FnOk P w K mg base CX0 13 a__law_is_kind d__law_is_kind ["_law_thing", "_law_deep"] (spP cl 2 (c__law_is_kind))) (O__law_spoilt_thing : FnOk P w K mg base CX0 41 a__law_spoilt_thing d__law_spoilt_thing ["_law_script", "_law_at_here", "_law_thing"] (spP cl 3 (c__law_spoilt_thing))) (z_bool : mg "bool" = none) (z_isinstance : mg "isinstance" = none) (z_range : mg "range" = none) (z_tuple : mg "tuple" = none)  : FnOk P w K mg base CX0 42 a_law d_law ["_law_script"] (spP cl 1 (fun ts => outR (b_law c_is_kind c__law_pick c__law_kind c__law_is_kind c__law_spoilt_thing (en0 10 ts)))) := by
  refine fn_ok C_law.F sc_law rfl (fun cdv A outer s H E Y hy hr => ?_) (fun ts h => rfl)
  refine l_cons ?_ ?_
  refine s_set (i := 1) sc_law.nd (by rfl) (.inl (by rfl)) ?_
  refine s_callZ hy O__law_kind hr (by omega) (by rfl) C__law_kind.m C__law_kind.F.kp C__law_kind.b ?_
  refine a_cons ?_ ?_
  exact s_var 0 (pv 0)
  refine a_cons ?_ ?_
  exact s_int
  refine a_cons ?_ ?_
  exact s_int
  exact a_nil
  refine l_cons ?_ ?_
  refine s_ifS ?_ ?_ ?_
  refine SndW.t ?_
  refine w_or ?_ ?_
  refine t_cmp nx_isn op_isnC ?_ ?_ (nomark _)
  refine Snd.b ?_
  refine s_callZ hy O_is_kind hr (by omega) (by rfl) C_is_kind.m C_is_kind.F.kp C_is_kind.b ?_
  refine a_cons ?_ ?_
  exact s_var 1 (pv 1)
  exact a_nil
  refine Snd.b ?_
  exact s_bl
  refine w_or1 ?_
  refine t_cmp nx_isn op_isnC ?_ ?_ (nomark _)
  refine Snd.b ?_
  refine s_callZ hy O__law_is_kind hr (by omega) (by rfl) C__law_is_kind.m C__law_is_kind.F.kp C__law_is_kind.b ?_
  refine a_cons ?_ ?_
  exact s_var 1 (pv 1)
  refine a_cons ?_ ?_
  exact s_int
  exact a_nil
  refine Snd.b ?_
  exact s_bl
  refine l_one ?_
  refine s_ret ?_
  exact s_bl
  exact l_nil
  refine l_cons ?_ ?_
  refine s_set (i := 2) sc_law.nd (by rfl) (.inl (by rfl)) ?_
  refine s_tup ?_
  refine a_cons ?_ ?_
  exact s_str
  refine a_cons ?_ ?_
  refine s_tup ?_
  refine a_cons ?_ ?_
  refine s_callZ hy O__law_kind hr (by omega) (by rfl) C__law_kind.m C__law_kind.F.kp C__law_kind.b ?_
  refine a_cons ?_ ?_
  exact s_var 0 (pv 0)
  refine a_cons ?_ ?_
  exact s_int
  refine a_cons ?_ ?_
  exact s_int
  exact a_nil
  refine a_cons ?_ ?_
  refine s_tup ?_
  refine a_cons ?_ ?_
  exact s_str
  refine a_cons ?_ ?_
  exact s_int
  refine a_cons ?_ ?_
  exact s_int
  exact a_nil
  exact a_nil
  exact a_nil
  refine l_cons ?_ ?_
  refine s_ifS ?_ ?_ ?_
  refine t_cmp nx_ne (op_neC hr.units) ?_ ?_ (nomark _)
  refine Snd.b ?_
  refine s_callZ hy O_is_kind hr (by omega) (by rfl) C_is_kind.m C_is_kind.F.kp C_is_kind.b ?_
  refine a_cons ?_ ?_
  exact s_var 2 (pv 2)
  exact a_nil
  refine Snd.b ?_
  refine s_callZ hy O__law_is_kind hr (by omega) (by rfl) C__law_is_kind.m C__law_is_kind.F.kp C__law_is_kind.b ?_
  refine a_cons ?_ ?_
  exact s_var 2 (pv 2)
  refine a_cons ?_ ?_
  exact s_int
  exact a_nil
  refine l_one ?_
  refine s_ret ?_
  exact s_bl
  exact l_nil
  refine l_cons ?_ ?_
  refine s_for PassesOwn.never (by rfl) ?_ ?_ ?_
  refine i_rng1 (by rfl) z_range ?_
  exact s_int
  exact g_name (i := 3) sc_law.nd (by rfl) (.inl (by rfl))
  refine l_cons ?_ ?_
  refine s_set (i := 4) sc_law.nd (by rfl) (.inl (by rfl)) ?_
  refine s_callZ hy O__law_spoilt_thing hr (by omega) (by rfl) C__law_spoilt_thing.m C__law_spoilt_thing.F.kp C__law_spoilt_thing.b ?_
  refine a_cons ?_ ?_
  exact s_var 0 (pv 0)
  refine a_cons ?_ ?_
  refine s_add ?_ ?_
  exact s_int
  refine s_mul ?_ ?_
  exact s_int
  exact s_var 3 (pv 3)
  refine a_cons ?_ ?_
  exact s_var 1 (pv 1)
  exact a_nil
  refine l_cons ?_ ?_
  refine s_ifS ?_ ?_ ?_
  refine SndW.t ?_
  refine w_and ?_ ?_
  refine t_cmp nx_eq (op_eqC hr.units) ?_ ?_ (nomark _)
  refine Snd.b ?_
  refine s_callZ hy O__law_pick hr (by omega) (by rfl) C__law_pick.m C__law_pick.F.kp C__law_pick.b ?_
  refine a_cons ?_ ?_
  exact s_var 0 (pv 0)
  refine a_cons ?_ ?_
  refine s_add ?_ ?_
  exact s_int
  refine s_mul ?_ ?_
  exact s_int
  exact s_var 3 (pv 3)
  refine a_cons ?_ ?_
  exact s_int
  exact a_nil
  refine Snd.b ?_
  exact s_int
  refine w_and1 ?_
  refine t_val ?_
  refine Snd.b ?_
  refine s_isi (n := "tuple") (kit_tuple _) (by rfl) z_isinstance (by rfl) z_tuple PyProof.Rows.Boot.«tuple» ?_
  exact s_varB 4 (pv 4)
  refine l_one ?_
  refine s_set (i := 4) sc_law.nd (by rfl) (.inl (by rfl)) ?_
  refine s_callZ hy O__law_spoilt_thing hr (by omega) (by rfl) C__law_spoilt_thing.m C__law_spoilt_thing.F.kp C__law_spoilt_thing.b ?_
  refine a_cons ?_ ?_
  exact s_var 0 (pv 0)
  refine a_cons ?_ ?_
  refine s_add ?_ ?_
  exact s_int
  refine s_mul ?_ ?_
  exact s_int
  exact s_var 3 (pv 3)
  refine a_cons ?_ ?_
  exact s_var 4 (pv 4)
  exact a_nil
  exact l_nil
  refine l_cons ?_ ?_
  refine s_set (i := 5) sc_law.nd (by rfl) (.inl (by rfl)) ?_
  refine s_callZ hy O_is_kind hr (by omega) (by rfl) C_is_kind.m C_is_kind.F.kp C_is_kind.b ?_
  refine a_cons ?_ ?_
  exact s_var 4 (pv 4)
  exact a_nil
  refine l_one ?_
  refine s_ifS ?_ ?_ ?_
  refine SndW.t ?_
  refine w_or ?_ ?_
  refine t_cmp nx_ne (op_neC hr.units) ?_ ?_ (nomark _)
  exact s_varB 5 (pv 5)
  refine Snd.b ?_
  refine s_callZ hy O__law_is_kind hr (by omega) (by rfl) C__law_is_kind.m C__law_is_kind.F.kp C__law_is_kind.b ?_
  refine a_cons ?_ ?_
  exact s_var 4 (pv 4)
  refine a_cons ?_ ?_
  exact s_int
  exact a_nil
  refine w_or1 ?_
  refine t_not ?_
  refine t_val ?_
  refine Snd.b ?_
  refine s_isi (n := "bool") (kit_bool _) (by rfl) z_isinstance (by rfl) z_bool PyProof.Rows.Boot.«bool» ?_
  exact s_varB 5 (pv 5)
  refine l_one ?_
  refine s_ret ?_
  exact s_bl
  exact l_nil
  refine l_cons ?_ ?_
  refine s_setL (i := 6) sc_law.nd (by rfl) (.inl (by rfl)) ?_
  refine a_cons ?_ ?_
  exact s_non
  refine a_cons ?_ ?_
  exact s_int
  refine a_cons ?_ ?_
  exact s_str
  refine a_cons ?_ ?_
  refine s_tup ?_
  exact a_nil
  refine a_cons ?_ ?_
  refine s_lst ?_
  exact a_nil
  refine a_cons ?_ ?_
  refine s_tup ?_
  refine a_cons ?_ ?_
  exact s_str
  refine a_cons ?_ ?_
  exact s_int
  refine a_cons ?_ ?_
  exact s_int
  refine a_cons ?_ ?_
  exact s_int
  exact a_nil
  refine a_cons ?_ ?_
  refine s_tup ?_
  refine a_cons ?_ ?_
  exact s_str
  refine a_cons ?_ ?_
  refine s_tup ?_
  exact a_nil
  exact a_nil
  refine a_cons ?_ ?_
  refine s_lst ?_
  refine a_cons ?_ ?_
  exact s_str
  refine a_cons ?_ ?_
  exact s_int
  refine a_cons ?_ ?_
  exact s_int
  exact a_nil
  exact a_nil
  refine l_cons ?_ ?_
  refine s_app (i := 6) (pv 6) ?_
  refine s_tup ?_
  refine a_cons ?_ ?_
  exact s_str
  refine a_cons ?_ ?_
  refine s_tup ?_
  refine a_cons ?_ ?_
  exact s_str
  refine a_cons ?_ ?_
  exact s_int
  refine a_cons ?_ ?_
  exact s_int
  exact a_nil
  refine a_cons ?_ ?_
  exact s_int
  refine a_cons ?_ ?_
  exact s_bl
  exact a_nil
  refine l_cons ?_ ?_
  refine s_par (i := 7) (j := 8) (by rfl) sc_law.nd (by rfl) (by rfl) (by decide) (by rfl) (by rfl) ?_ (by rfl)
  refine a_cons ?_ ?_
  refine s_tup ?_
  refine a_cons ?_ ?_
  exact s_str
  refine a_cons ?_ ?_
  exact s_int
  refine a_cons ?_ ?_
  exact s_int
  exact a_nil
  refine a_cons ?_ ?_
  refine s_lst ?_
  refine a_cons ?_ ?_
  exact s_str
  refine a_cons ?_ ?_
  exact s_str
  refine a_cons ?_ ?_
  exact s_str
  refine a_cons ?_ ?_
  exact s_str
  refine a_cons ?_ ?_
  exact s_str
  exact a_nil
  exact a_nil
  refine l_cons ?_ ?_
  refine s_ext (i := 6) (pv 6) ?_
  refine s_lst ?_
  refine a_cons ?_ ?_
  refine s_tup ?_
  refine a_cons ?_ ?_
  exact s_str
  refine a_cons ?_ ?_
  refine s_tuple (by rfl) z_tuple ?_
  refine s_comp (crules ["_law_word"] N_law (defScope s_law) (by rfl) (by rfl) (by decide +kernel) (by rfl) ?_ (fun _ _ _ _ _ _ => pg_name (show List.Nodup (["_law_word"] : List Str) by decide +kernel) (by rfl) (.inl (by rfl)) (.inr (by rfl))) (gok_name 0) (gno_name 0) (fun Y' hy' _ _ _ _ _ _ => ?_) (fun Y' hy' _ _ _ _ _ _ => ?_))
  refine i_any ?_
  exact s_var 8 (pv 8)
  exact if_nil
  refine s_tup ?_
  refine a_cons ?_ ?_
  exact s_var 0 (pv 0)
  refine a_cons ?_ ?_
  exact s_int
  exact a_nil
  exact a_nil
  refine a_cons ?_ ?_
  refine s_tup ?_
  refine a_cons ?_ ?_
  exact s_str
  refine a_cons ?_ ?_
  refine s_mul ?_ ?_
  refine s_tup ?_
  refine a_cons ?_ ?_
  exact s_var 7 (pv 7)
  exact a_nil
  exact s_int
  exact a_nil
  refine a_cons ?_ ?_
  refine s_tup ?_
  refine a_cons ?_ ?_
  exact s_str
  refine a_cons ?_ ?_
  refine s_tup ?_
  exact a_nil
  exact a_nil
  refine a_cons ?_ ?_
  refine s_tup ?_
  refine a_cons ?_ ?_
  exact s_str
  refine a_cons ?_ ?_
  exact s_var 7 (pv 7)
  refine a_cons ?_ ?_
  exact s_int
  refine a_cons ?_ ?_
  exact s_int
  exact a_nil
  exact a_nil
  refine l_cons ?_ ?_
  refine s_ext (i := 6) (pv 6) ?_
  refine s_lst ?_
  refine a_cons ?_ ?_
  refine s_tup ?_
  refine a_cons ?_ ?_
  exact s_str
  refine a_cons ?_ ?_
  refine s_tup ?_
  refine a_cons ?_ ?_
  refine s_tup ?_
  refine a_cons ?_ ?_
  exact s_str
  refine a_cons ?_ ?_
  exact s_int
  exact a_nil
  exact a_nil
  exact a_nil
  refine a_cons ?_ ?_
  refine s_tup ?_
  refine a_cons ?_ ?_
  exact s_str
  refine a_cons ?_ ?_
  refine s_tup ?_
  refine a_cons ?_ ?_
  refine s_tup ?_
  refine a_cons ?_ ?_
  exact s_str
  refine a_cons ?_ ?_
  exact s_int
  exact a_nil
  exact a_nil
  exact a_nil
  refine a_cons ?_ ?_
  refine s_tup ?_
  refine a_cons ?_ ?_
  exact s_str
  refine a_cons ?_ ?_
  refine s_tup ?_
  refine a_cons ?_ ?_
  refine s_tup ?_
  refine a_cons ?_ ?_
  exact s_str
  refine a_cons ?_ ?_
  exact s_int
  exact a_nil
  exact a_nil
  exact a_nil
  refine a_cons ?_ ?_
  refine s_tup ?_
  refine a_cons ?_ ?_
  exact s_str
  refine a_cons ?_ ?_
  refine s_tup ?_
  refine a_cons ?_ ?_
  refine s_tup ?_
  refine a_cons ?_ ?_
  exact s_str
  refine a_cons ?_ ?_
  exact s_int
  exact a_nil
  exact a_nil
  exact a_nil
  exact a_nil
  refine l_cons ?_ ?_
  refine s_ext (i := 6) (pv 6) ?_
  refine s_lst ?_
  refine a_cons ?_ ?_
  refine s_tup ?_
  refine a_cons ?_ ?_
  exact s_str
  refine a_cons ?_ ?_
  refine s_neg ?_
  exact s_int
  refine a_cons ?_ ?_
  exact s_int
  exact a_nil
  refine a_cons ?_ ?_
  refine s_tup ?_
  refine a_cons ?_ ?_
  exact s_str
  refine a_cons ?_ ?_
  exact s_int
  refine a_cons ?_ ?_
  exact s_int
  exact a_nil
  refine a_cons ?_ ?_
  refine s_tup ?_
  refine a_cons ?_ ?_
  exact s_str
  refine a_cons ?_ ?_
  exact s_int
  refine a_cons ?_ ?_
  exact s_int
  exact a_nil
  refine a_cons ?_ ?_
  refine s_tup ?_
  refine a_cons ?_ ?_
  exact s_str
  refine a_cons ?_ ?_
  exact s_var 7 (pv 7)
  refine a_cons ?_ ?_
  exact s_int
  refine a_cons ?_ ?_
  exact s_int
  exact a_nil
  exact a_nil
  refine l_cons ?_ ?_
  refine s_ext (i := 6) (pv 6) ?_
  refine s_lst ?_
  refine a_cons ?_ ?_
  refine s_tup ?_
  refine a_cons ?_ ?_
  exact s_str
  refine a_cons ?_ ?_
  refine s_tup ?_
  refine a_cons ?_ ?_
  refine s_tup ?_
  refine a_cons ?_ ?_
  exact s_str
  refine a_cons ?_ ?_
  exact s_int
  exact a_nil
  refine a_cons ?_ ?_
  refine s_tup ?_
  refine a_cons ?_ ?_
  exact s_str
  refine a_cons ?_ ?_
  exact s_int
  exact a_nil
  exact a_nil
  exact a_nil
  refine a_cons ?_ ?_
  refine s_tup ?_
  refine a_cons ?_ ?_
  exact s_str
  refine a_cons ?_ ?_
  refine s_tup ?_
  refine a_cons ?_ ?_
  refine s_tup ?_
  refine a_cons ?_ ?_
  exact s_str
  refine a_cons ?_ ?_
  exact s_int
  exact a_nil
  exact a_nil
  exact a_nil
  refine a_cons ?_ ?_
  refine s_tup ?_
  refine a_cons ?_ ?_
  exact s_str
  refine a_cons ?_ ?_
  refine s_tup ?_
  refine a_cons ?_ ?_
  refine s_tup ?_
  refine a_cons ?_ ?_
  exact s_str
  refine a_cons ?_ ?_
  exact s_int
  exact a_nil
  exact a_nil
  exact a_nil
  exact a_nil
  refine l_cons ?_ ?_
  refine s_setL (i := 9) sc_law.nd (by rfl) (.inl (by rfl)) ?_
  refine a_cons ?_ ?_
  refine s_tup ?_
  refine a_cons ?_ ?_
  exact s_str
  refine a_cons ?_ ?_
  refine s_tuple (by rfl) z_tuple ?_
  refine s_comp (crules ["_law_word"] N_law (defScope s_law) (by rfl) (by rfl) (by decide +kernel) (by rfl) ?_ (fun _ _ _ _ _ _ => pg_name (show List.Nodup (["_law_word"] : List Str) by decide +kernel) (by rfl) (.inl (by rfl)) (.inr (by rfl))) (gok_name 0) (gno_name 0) (fun Y' hy' _ _ _ _ _ _ => ?_) (fun Y' hy' _ _ _ _ _ _ => ?_))
  refine i_any ?_
  refine s_slice ?_ ?_ ?_
  exact s_var 8 (pv 8)
  exact o_none
  refine o_some ?_
  exact s_int
  exact if_nil
  refine s_tup ?_
  refine a_cons ?_ ?_
  exact s_var 0 (pv 0)
  refine a_cons ?_ ?_
  exact s_int
  exact a_nil
  exact a_nil
  refine a_cons ?_ ?_
  refine s_tup ?_
  refine a_cons ?_ ?_
  exact s_str
  refine a_cons ?_ ?_
  refine s_mul ?_ ?_
  refine s_tup ?_
  refine a_cons ?_ ?_
  exact s_var 7 (pv 7)
  exact a_nil
  exact s_int
  exact a_nil
  refine a_cons ?_ ?_
  refine s_tup ?_
  refine a_cons ?_ ?_
  exact s_str
  refine a_cons ?_ ?_
  exact s_var 7 (pv 7)
  refine a_cons ?_ ?_
  exact s_int
  refine a_cons ?_ ?_
  exact s_int
  exact a_nil
  exact a_nil
  refine l_cons ?_ ?_
  refine s_app (i := 9) (pv 9) ?_
  refine s_tup ?_
  refine a_cons ?_ ?_
  exact s_str
  refine a_cons ?_ ?_
  refine s_neg ?_
  exact s_int
  refine a_cons ?_ ?_
  exact s_int
  exact a_nil
  refine l_one ?_
  refine s_ret ?_
  refine s_cmp nx_eq (op_eqC hr.units) ?_ ?_ (nomark _)
  refine Snd.b ?_
  refine s_comp (crules ["_law_thing"] N_law (defScope s_law) (by rfl) (by rfl) (by decide +kernel) (by rfl) ?_ (fun _ _ _ _ _ _ => pg_name (show List.Nodup (["_law_thing"] : List Str) by decide +kernel) (by rfl) (.inl (by rfl)) (.inr (by rfl))) (gok_name 0) (gno_name 0) (fun Y' hy' _ _ _ _ _ _ => ?_) (fun Y' hy' _ _ _ _ _ _ => ?_))
  refine i_any ?_
  refine s_add ?_ ?_
  exact s_var 6 (pv 6)
  exact s_var 9 (pv 9)
  exact if_nil
  refine s_callZ (hy'.trans hy) O_is_kind hr (by omega) (by rfl) C_is_kind.m C_is_kind.F.kp C_is_kind.b ?_
  refine a_cons ?_ ?_
  exact s_var 0 (pv 0)
  exact a_nil
  refine Snd.b ?_
  refine s_add ?_ ?_
  refine s_mul ?_ ?_
  refine s_lst ?_
  refine a_cons ?_ ?_
  exact s_bl
  exact a_nil
  exact s_int
  refine s_mul ?_ ?_
  refine s_lst ?_
  refine a_cons ?_ ?_
  exact s_bl
  exact a_nil
  exact s_int
end
end G

namespace G
open PySem PySem.Spec PyProof.Rows L2 PV
theorem fn_bad {P : Program} {w : World} {K : PySem.W.Frag} {mg : Str → Option Value} {base : Heap} {cl : Nat → Value} {k n : Nat} {f : Addr} {fd : FuncData} {ps : List Str} (hn : n = ps.length) : FnOk P w K mg base CX0 k f fd ps (spP cl n (fun _ => .bad)) :=
  ⟨fun vs H Q E h => by rw [← hn]; exact spP.len vs H Q E h, fun A outer s H args us vs Q E _ _ _ _ ⟨B, ts, _, _, _, q⟩ => q.elim⟩
section
variable {P : Program} {w : World} {K : PySem.W.Frag} {mg : Str → Option Value} {base : Heap} {cl : Nat → Value}
theorem ok_all {a__law_cell : Addr} {d__law_cell : FuncData} (C__law_cell : Fn K mg "_law_cell" s__law_cell ["_law_script", "_law_k"] a__law_cell d__law_cell) {a__law_pick : Addr} {d__law_pick : FuncData} (C__law_pick : Fn K mg "_law_pick" s__law_pick ["_law_script", "_law_k", "_law_many"] a__law_pick d__law_pick) {a__law_word_of : Addr} {d__law_word_of : FuncData} (C__law_word_of : Fn K mg "_law_word_of" s__law_word_of ["_law_script", "_law_at_here"] a__law_word_of d__law_word_of) {a__law_leaf_kind : Addr} {d__law_leaf_kind : FuncData} (C__law_leaf_kind : Fn K mg "_law_leaf_kind" s__law_leaf_kind ["_law_script", "_law_at_here"] a__law_leaf_kind d__law_leaf_kind) {a__law_kind : Addr} {d__law_kind : FuncData} (C__law_kind : Fn K mg "_law_kind" s__law_kind ["_law_script", "_law_at_here", "_law_deep"] a__law_kind d__law_kind) {a_is_whole : Addr} {d_is_whole : FuncData} (C_is_whole : Fn K mg "is_whole" s_is_whole ["thing"] a_is_whole d_is_whole) {a_is_span : Addr} {d_is_span : FuncData} (C_is_span : Fn K mg "is_span" s_is_span ["low", "high", "least", "most"] a_is_span d_is_span) {a_is_tuple_of : Addr} {d_is_tuple_of : FuncData} (C_is_tuple_of : Fn K mg "is_tuple_of" s_is_tuple_of ["thing", "least", "most"] a_is_tuple_of d_is_tuple_of) {a_is_word : Addr} {d_is_word : FuncData} (C_is_word : Fn K mg "is_word" s_is_word ["thing"] a_is_word d_is_word) {a_is_choice : Addr} {d_is_choice : FuncData} (C_is_choice : Fn K mg "is_choice" s_is_choice ["thing"] a_is_choice d_is_choice) {a_are_choices : Addr} {d_are_choices : FuncData} (C_are_choices : Fn K mg "are_choices" s_are_choices ["thing"] a_are_choices d_are_choices) {a_is_kind_within : Addr} {d_is_kind_within : FuncData} (C_is_kind_within : Fn K mg "is_kind_within" s_is_kind_within ["thing", "levels"] a_is_kind_within d_is_kind_within) {a_are_kinds_within : Addr} {d_are_kinds_within : FuncData} (C_are_kinds_within : Fn K mg "are_kinds_within" s_are_kinds_within ["thing", "levels"] a_are_kinds_within d_are_kinds_within) {a_is_kind : Addr} {d_is_kind : FuncData} (C_is_kind : Fn K mg "is_kind" s_is_kind ["thing"] a_is_kind d_is_kind) {a__law_whole : Addr} {d__law_whole : FuncData} (C__law_whole : Fn K mg "_law_whole" s__law_whole ["_law_thing", "_law_low", "_law_high"] a__law_whole d__law_whole) {a__law_is_word : Addr} {d__law_is_word : FuncData} (C__law_is_word : Fn K mg "_law_is_word" s__law_is_word ["_law_thing"] a__law_is_word d__law_is_word) {a__law_is_kind : Addr} {d__law_is_kind : FuncData} (C__law_is_kind : Fn K mg "_law_is_kind" s__law_is_kind ["_law_thing", "_law_deep"] a__law_is_kind d__law_is_kind) {a__law_places : Addr} {d__law_places : FuncData} (C__law_places : Fn K mg "_law_places" s__law_places ["_law_thing"] a__law_places d__law_places) {a__law_at : Addr} {d__law_at : FuncData} (C__law_at : Fn K mg "_law_at" s__law_at ["_law_thing", "_law_place"] a__law_at d__law_at) {a__law_put : Addr} {d__law_put : FuncData} (C__law_put : Fn K mg "_law_put" s__law_put ["_law_thing", "_law_place", "_law_new"] a__law_put d__law_put) {a__law_spoilt_thing : Addr} {d__law_spoilt_thing : FuncData} (C__law_spoilt_thing : Fn K mg "_law_spoilt_thing" s__law_spoilt_thing ["_law_script", "_law_at_here", "_law_thing"] a__law_spoilt_thing d__law_spoilt_thing) {a_law : Addr} {d_law : FuncData} (C_law : Fn K mg "law" s_law ["_law_script"] a_law d_law) (z_all : mg "all" = none) (z_bool : mg "bool" = none) (z_enumerate : mg "enumerate" = none) (z_int : mg "int" = none) (z_isinstance : mg "isinstance" = none) (z_len : mg "len" = none) (z_min : mg "min" = none) (z_range : mg "range" = none) (z_set : mg "set" = none) (z_str : mg "str" = none) (z_tuple : mg "tuple" = none) (c_DEEPEST : ∃ u, mg "DEEPEST" = some u ∧ ∃ t, u = Value.int 3 t) : FnOk P w K mg base CX0 42 a_law d_law ["_law_script"] (spP cl 1 f_law) := by
  have O__law_cell : FnOk P w K mg base CX0 1 a__law_cell d__law_cell ["_law_script", "_law_k"] (spP cl 2 (f__law_cell)) := ok__law_cell C__law_cell z_len
  have O__law_pick : FnOk P w K mg base CX0 2 a__law_pick d__law_pick ["_law_script", "_law_k", "_law_many"] (spP cl 3 (f__law_pick)) := ok__law_pick C__law_cell C__law_pick O__law_cell
  have O__law_word_of : FnOk P w K mg base CX0 3 a__law_word_of d__law_word_of ["_law_script", "_law_at_here"] (spP cl 2 (f__law_word_of)) := ok__law_word_of C__law_pick C__law_word_of O__law_pick z_range
  have O__law_leaf_kind : FnOk P w K mg base CX0 4 a__law_leaf_kind d__law_leaf_kind ["_law_script", "_law_at_here"] (spP cl 2 (f__law_leaf_kind)) := ok__law_leaf_kind C__law_pick C__law_word_of C__law_leaf_kind O__law_pick O__law_word_of z_enumerate z_min z_range z_tuple
  have R__law_kind : ∀ n : Nat, FnOk P w K mg base CX0 (4 + n) a__law_kind d__law_kind ["_law_script", "_law_at_here", "_law_deep"] (spP cl 3 (S__law_kind n 0)) := by
    intro n
    induction n with
    | zero => exact fn_bad rfl
    | succ n ih =>
      exact ok__law_kind (j := 4 + n) (by omega) C__law_pick C__law_leaf_kind C__law_kind O__law_pick O__law_leaf_kind ih z_min z_range z_tuple
  have O__law_kind : FnOk P w K mg base CX0 12 a__law_kind d__law_kind ["_law_script", "_law_at_here", "_law_deep"] (spP cl 3 (f__law_kind 8)) := (R__law_kind 8)
  have O_is_whole : FnOk P w K mg base CX0 1 a_is_whole d_is_whole ["thing"] (spP cl 1 (f_is_whole)) := ok_is_whole C_is_whole z_bool z_int z_isinstance
  have O_is_span : FnOk P w K mg base CX0 2 a_is_span d_is_span ["low", "high", "least", "most"] (spP cl 4 (f_is_span)) := ok_is_span C_is_whole C_is_span O_is_whole
  have O_is_tuple_of : FnOk P w K mg base CX0 1 a_is_tuple_of d_is_tuple_of ["thing", "least", "most"] (spP cl 3 (f_is_tuple_of)) := ok_is_tuple_of C_is_tuple_of z_isinstance z_len z_tuple
  have O_is_word : FnOk P w K mg base CX0 1 a_is_word d_is_word ["thing"] (spP cl 1 (f_is_word)) := ok_is_word C_is_word z_all z_isinstance z_len z_str
  have O_is_choice : FnOk P w K mg base CX0 2 a_is_choice d_is_choice ["thing"] (spP cl 1 (f_is_choice)) := ok_is_choice C_is_whole C_is_tuple_of C_is_word C_is_choice O_is_whole O_is_tuple_of O_is_word
  have O_are_choices : FnOk P w K mg base CX0 3 a_are_choices d_are_choices ["thing"] (spP cl 1 (f_are_choices)) := ok_are_choices C_is_tuple_of C_are_choices C_is_choice O_is_tuple_of O_is_choice z_all z_len z_set
  have R_is_kind_within : ∀ n : Nat, FnOk P w K mg base CX0 (3 + n) a_is_kind_within d_is_kind_within ["thing", "levels"] (spP cl 2 (S_is_kind_within n 0)) ∧ FnOk P w K mg base CX0 (3 + n) a_are_kinds_within d_are_kinds_within ["thing", "levels"] (spP cl 2 (S_is_kind_within n 1)) := by
    intro n
    induction n with
    | zero => exact ⟨fn_bad rfl, fn_bad rfl⟩
    | succ n ih =>
      exact ⟨ok_is_kind_within (j := 3 + n) (by omega) C_is_span C_is_kind_within C_are_choices C_are_kinds_within O_is_span ih.1 O_are_choices ih.2 z_isinstance z_len z_tuple, ok_are_kinds_within (j := 3 + n) (by omega) C_is_tuple_of C_is_kind_within C_are_kinds_within O_is_tuple_of ih.1 z_all⟩
  have O_is_kind_within : FnOk P w K mg base CX0 23 a_is_kind_within d_is_kind_within ["thing", "levels"] (spP cl 2 (f_is_kind_within 20)) := (R_is_kind_within 20).1
  have O_are_kinds_within : FnOk P w K mg base CX0 23 a_are_kinds_within d_are_kinds_within ["thing", "levels"] (spP cl 2 (f_are_kinds_within 20)) := (R_is_kind_within 20).2
  have O_is_kind : FnOk P w K mg base CX0 24 a_is_kind d_is_kind ["thing"] (spP cl 1 (f_is_kind)) := ok_is_kind C_is_kind C_is_kind_within O_is_kind_within c_DEEPEST
  have O__law_whole : FnOk P w K mg base CX0 1 a__law_whole d__law_whole ["_law_thing", "_law_low", "_law_high"] (spP cl 3 (f__law_whole)) := ok__law_whole C__law_whole z_bool z_int z_isinstance
  have O__law_is_word : FnOk P w K mg base CX0 1 a__law_is_word d__law_is_word ["_law_thing"] (spP cl 1 (f__law_is_word)) := ok__law_is_word C__law_is_word z_isinstance z_len z_str
  have R__law_is_kind : ∀ n : Nat, FnOk P w K mg base CX0 (1 + n) a__law_is_kind d__law_is_kind ["_law_thing", "_law_deep"] (spP cl 2 (S__law_is_kind n 0)) := by
    intro n
    induction n with
    | zero => exact fn_bad rfl
    | succ n ih =>
      exact ok__law_is_kind (j := 1 + n) (by omega) C__law_whole C__law_is_word C__law_is_kind O__law_whole O__law_is_word ih z_isinstance z_len z_range z_str z_tuple
  have O__law_is_kind : FnOk P w K mg base CX0 13 a__law_is_kind d__law_is_kind ["_law_thing", "_law_deep"] (spP cl 2 (f__law_is_kind 12)) := (R__law_is_kind 12)
  have R__law_places : ∀ n : Nat, FnOk P w K mg base CX0 (0 + n) a__law_places d__law_places ["_law_thing"] (spP cl 1 (S__law_places n 0)) := by
    intro n
    induction n with
    | zero => exact fn_bad rfl
    | succ n ih =>
      exact ok__law_places (j := 0 + n) (by omega) C__law_places ih z_isinstance z_len z_range z_tuple
  have O__law_places : FnOk P w K mg base CX0 40 a__law_places d__law_places ["_law_thing"] (spP cl 1 (f__law_places 40)) := (R__law_places 40)
  have O__law_at : FnOk P w K mg base CX0 1 a__law_at d__law_at ["_law_thing", "_law_place"] (spP cl 2 (f__law_at)) := ok__law_at C__law_at
  have R__law_put : ∀ n : Nat, FnOk P w K mg base CX0 (0 + n) a__law_put d__law_put ["_law_thing", "_law_place", "_law_new"] (spP cl 3 (S__law_put n 0)) := by
    intro n
    induction n with
    | zero => exact fn_bad rfl
    | succ n ih =>
      exact ok__law_put (j := 0 + n) (by omega) C__law_put ih
  have O__law_put : FnOk P w K mg base CX0 40 a__law_put d__law_put ["_law_thing", "_law_place", "_law_new"] (spP cl 3 (f__law_put 40)) := (R__law_put 40)
  have O__law_spoilt_thing : FnOk P w K mg base CX0 41 a__law_spoilt_thing d__law_spoilt_thing ["_law_script", "_law_at_here", "_law_thing"] (spP cl 3 (f__law_spoilt_thing)) := ok__law_spoilt_thing C__law_pick C__law_places C__law_at C__law_put C__law_spoilt_thing O__law_pick O__law_places O__law_at O__law_put z_int z_isinstance z_len z_tuple
  have O_law : FnOk P w K mg base CX0 42 a_law d_law ["_law_script"] (spP cl 1 (f_law)) := ok_law C_is_kind C__law_pick C__law_kind C__law_is_kind C__law_spoilt_thing C_law O_is_kind O__law_pick O__law_kind O__law_is_kind O__law_spoilt_thing z_bool z_isinstance z_range z_tuple
  exact O_law
end
set_option maxHeartbeats 4000000 in
theorem all_mk {l : PySem.W.OpenLaw} {w : World} {K : PySem.W.Frag} {h : Heap} {mg : Str → Option Value} {cl : Nat → Value} {fa : Addr} (X : K.In h) (G : h.Ns mainGlobals mg) (hfa : mg "law" = some (.ref fa)) {f0 : Addr} {od0 an0 : Option Addr} {sl0 : Array (Option Value)} {oc0 kV0 dc0 pm0 cd0 ct0 : Value} {f1 : Addr} {od1 an1 : Option Addr} {sl1 : Array (Option Value)} {oc1 kV1 dc1 pm1 cd1 ct1 : Value} {f2 : Addr} {od2 an2 : Option Addr} {sl2 : Array (Option Value)} {oc2 kV2 dc2 pm2 cd2 ct2 : Value} {f3 : Addr} {od3 an3 : Option Addr} {sl3 : Array (Option Value)} {oc3 kV3 dc3 pm3 cd3 ct3 : Value} {f4 : Addr} {od4 an4 : Option Addr} {sl4 : Array (Option Value)} {oc4 kV4 dc4 pm4 cd4 ct4 : Value} {f5 : Addr} {od5 an5 : Option Addr} {sl5 : Array (Option Value)} {oc5 kV5 dc5 pm5 cd5 ct5 : Value} {f6 : Addr} {od6 an6 : Option Addr} {sl6 : Array (Option Value)} {oc6 kV6 dc6 pm6 cd6 ct6 : Value} {f7 : Addr} {od7 an7 : Option Addr} {sl7 : Array (Option Value)} {oc7 kV7 dc7 pm7 cd7 ct7 : Value} {f8 : Addr} {od8 an8 : Option Addr} {sl8 : Array (Option Value)} {oc8 kV8 dc8 pm8 cd8 ct8 : Value} {f9 : Addr} {od9 an9 : Option Addr} {sl9 : Array (Option Value)} {oc9 kV9 dc9 pm9 cd9 ct9 : Value} {f10 : Addr} {od10 an10 : Option Addr} {sl10 : Array (Option Value)} {oc10 kV10 dc10 pm10 cd10 ct10 : Value} {f11 : Addr} {od11 an11 : Option Addr} {sl11 : Array (Option Value)} {oc11 kV11 dc11 pm11 cd11 ct11 : Value} {f12 : Addr} {od12 an12 : Option Addr} {sl12 : Array (Option Value)} {oc12 kV12 dc12 pm12 cd12 ct12 : Value} {f13 : Addr} {od13 an13 : Option Addr} {sl13 : Array (Option Value)} {oc13 kV13 dc13 pm13 cd13 ct13 : Value} {f14 : Addr} {od14 an14 : Option Addr} {sl14 : Array (Option Value)} {oc14 kV14 dc14 pm14 cd14 ct14 : Value} {f15 : Addr} {od15 an15 : Option Addr} {sl15 : Array (Option Value)} {oc15 kV15 dc15 pm15 cd15 ct15 : Value} {f16 : Addr} {od16 an16 : Option Addr} {sl16 : Array (Option Value)} {oc16 kV16 dc16 pm16 cd16 ct16 : Value} {f17 : Addr} {od17 an17 : Option Addr} {sl17 : Array (Option Value)} {oc17 kV17 dc17 pm17 cd17 ct17 : Value} {f18 : Addr} {od18 an18 : Option Addr} {sl18 : Array (Option Value)} {oc18 kV18 dc18 pm18 cd18 ct18 : Value} {f19 : Addr} {od19 an19 : Option Addr} {sl19 : Array (Option Value)} {oc19 kV19 dc19 pm19 cd19 ct19 : Value} {f20 : Addr} {od20 an20 : Option Addr} {sl20 : Array (Option Value)} {oc20 kV20 dc20 pm20 cd20 ct20 : Value} {f21 : Addr} {od21 an21 : Option Addr} {sl21 : Array (Option Value)} {oc21 kV21 dc21 pm21 cd21 ct21 : Value}
    (e0 : PySem.W.nsIn K mainGlobals "_law_cell" = some (some (.ref f0))) (l0 : K.lookup f0 = some ⟨oc0, od0, .func (PySem.W.fnOf "_law_cell" "_law_cell" (defArgs s__law_cell) (defBody s__law_cell) (defScope s__law_cell) .none kV0 dc0 pm0 an0 cd0 ct0), sl0⟩) (g0 : PySem.W.codeIn K cd0 "_law_cell" = true) (k0 : PySem.W.keepIn K (.ref f0) = true)
    (e1 : PySem.W.nsIn K mainGlobals "_law_pick" = some (some (.ref f1))) (l1 : K.lookup f1 = some ⟨oc1, od1, .func (PySem.W.fnOf "_law_pick" "_law_pick" (defArgs s__law_pick) (defBody s__law_pick) (defScope s__law_pick) .none kV1 dc1 pm1 an1 cd1 ct1), sl1⟩) (g1 : PySem.W.codeIn K cd1 "_law_pick" = true) (k1 : PySem.W.keepIn K (.ref f1) = true)
    (e2 : PySem.W.nsIn K mainGlobals "_law_word_of" = some (some (.ref f2))) (l2 : K.lookup f2 = some ⟨oc2, od2, .func (PySem.W.fnOf "_law_word_of" "_law_word_of" (defArgs s__law_word_of) (defBody s__law_word_of) (defScope s__law_word_of) .none kV2 dc2 pm2 an2 cd2 ct2), sl2⟩) (g2 : PySem.W.codeIn K cd2 "_law_word_of" = true) (k2 : PySem.W.keepIn K (.ref f2) = true)
    (e3 : PySem.W.nsIn K mainGlobals "_law_leaf_kind" = some (some (.ref f3))) (l3 : K.lookup f3 = some ⟨oc3, od3, .func (PySem.W.fnOf "_law_leaf_kind" "_law_leaf_kind" (defArgs s__law_leaf_kind) (defBody s__law_leaf_kind) (defScope s__law_leaf_kind) .none kV3 dc3 pm3 an3 cd3 ct3), sl3⟩) (g3 : PySem.W.codeIn K cd3 "_law_leaf_kind" = true) (k3 : PySem.W.keepIn K (.ref f3) = true)
    (e4 : PySem.W.nsIn K mainGlobals "_law_kind" = some (some (.ref f4))) (l4 : K.lookup f4 = some ⟨oc4, od4, .func (PySem.W.fnOf "_law_kind" "_law_kind" (defArgs s__law_kind) (defBody s__law_kind) (defScope s__law_kind) .none kV4 dc4 pm4 an4 cd4 ct4), sl4⟩) (g4 : PySem.W.codeIn K cd4 "_law_kind" = true) (k4 : PySem.W.keepIn K (.ref f4) = true)
    (e5 : PySem.W.nsIn K mainGlobals "is_whole" = some (some (.ref f5))) (l5 : K.lookup f5 = some ⟨oc5, od5, .func (PySem.W.fnOf "is_whole" "is_whole" (defArgs s_is_whole) (defBody s_is_whole) (defScope s_is_whole) .none kV5 dc5 pm5 an5 cd5 ct5), sl5⟩) (g5 : PySem.W.codeIn K cd5 "is_whole" = true) (k5 : PySem.W.keepIn K (.ref f5) = true)
    (e6 : PySem.W.nsIn K mainGlobals "is_span" = some (some (.ref f6))) (l6 : K.lookup f6 = some ⟨oc6, od6, .func (PySem.W.fnOf "is_span" "is_span" (defArgs s_is_span) (defBody s_is_span) (defScope s_is_span) .none kV6 dc6 pm6 an6 cd6 ct6), sl6⟩) (g6 : PySem.W.codeIn K cd6 "is_span" = true) (k6 : PySem.W.keepIn K (.ref f6) = true)
    (e7 : PySem.W.nsIn K mainGlobals "is_tuple_of" = some (some (.ref f7))) (l7 : K.lookup f7 = some ⟨oc7, od7, .func (PySem.W.fnOf "is_tuple_of" "is_tuple_of" (defArgs s_is_tuple_of) (defBody s_is_tuple_of) (defScope s_is_tuple_of) .none kV7 dc7 pm7 an7 cd7 ct7), sl7⟩) (g7 : PySem.W.codeIn K cd7 "is_tuple_of" = true) (k7 : PySem.W.keepIn K (.ref f7) = true)
    (e8 : PySem.W.nsIn K mainGlobals "is_word" = some (some (.ref f8))) (l8 : K.lookup f8 = some ⟨oc8, od8, .func (PySem.W.fnOf "is_word" "is_word" (defArgs s_is_word) (defBody s_is_word) (defScope s_is_word) .none kV8 dc8 pm8 an8 cd8 ct8), sl8⟩) (g8 : PySem.W.codeIn K cd8 "is_word" = true) (k8 : PySem.W.keepIn K (.ref f8) = true)
    (e9 : PySem.W.nsIn K mainGlobals "is_choice" = some (some (.ref f9))) (l9 : K.lookup f9 = some ⟨oc9, od9, .func (PySem.W.fnOf "is_choice" "is_choice" (defArgs s_is_choice) (defBody s_is_choice) (defScope s_is_choice) .none kV9 dc9 pm9 an9 cd9 ct9), sl9⟩) (g9 : PySem.W.codeIn K cd9 "is_choice" = true) (k9 : PySem.W.keepIn K (.ref f9) = true)
    (e10 : PySem.W.nsIn K mainGlobals "are_choices" = some (some (.ref f10))) (l10 : K.lookup f10 = some ⟨oc10, od10, .func (PySem.W.fnOf "are_choices" "are_choices" (defArgs s_are_choices) (defBody s_are_choices) (defScope s_are_choices) .none kV10 dc10 pm10 an10 cd10 ct10), sl10⟩) (g10 : PySem.W.codeIn K cd10 "are_choices" = true) (k10 : PySem.W.keepIn K (.ref f10) = true)
    (e11 : PySem.W.nsIn K mainGlobals "is_kind_within" = some (some (.ref f11))) (l11 : K.lookup f11 = some ⟨oc11, od11, .func (PySem.W.fnOf "is_kind_within" "is_kind_within" (defArgs s_is_kind_within) (defBody s_is_kind_within) (defScope s_is_kind_within) .none kV11 dc11 pm11 an11 cd11 ct11), sl11⟩) (g11 : PySem.W.codeIn K cd11 "is_kind_within" = true) (k11 : PySem.W.keepIn K (.ref f11) = true)
    (e12 : PySem.W.nsIn K mainGlobals "are_kinds_within" = some (some (.ref f12))) (l12 : K.lookup f12 = some ⟨oc12, od12, .func (PySem.W.fnOf "are_kinds_within" "are_kinds_within" (defArgs s_are_kinds_within) (defBody s_are_kinds_within) (defScope s_are_kinds_within) .none kV12 dc12 pm12 an12 cd12 ct12), sl12⟩) (g12 : PySem.W.codeIn K cd12 "are_kinds_within" = true) (k12 : PySem.W.keepIn K (.ref f12) = true)
    (e13 : PySem.W.nsIn K mainGlobals "is_kind" = some (some (.ref f13))) (l13 : K.lookup f13 = some ⟨oc13, od13, .func (PySem.W.fnOf "is_kind" "is_kind" (defArgs s_is_kind) (defBody s_is_kind) (defScope s_is_kind) .none kV13 dc13 pm13 an13 cd13 ct13), sl13⟩) (g13 : PySem.W.codeIn K cd13 "is_kind" = true) (k13 : PySem.W.keepIn K (.ref f13) = true)
    (e14 : PySem.W.nsIn K mainGlobals "_law_whole" = some (some (.ref f14))) (l14 : K.lookup f14 = some ⟨oc14, od14, .func (PySem.W.fnOf "_law_whole" "_law_whole" (defArgs s__law_whole) (defBody s__law_whole) (defScope s__law_whole) .none kV14 dc14 pm14 an14 cd14 ct14), sl14⟩) (g14 : PySem.W.codeIn K cd14 "_law_whole" = true) (k14 : PySem.W.keepIn K (.ref f14) = true)
    (e15 : PySem.W.nsIn K mainGlobals "_law_is_word" = some (some (.ref f15))) (l15 : K.lookup f15 = some ⟨oc15, od15, .func (PySem.W.fnOf "_law_is_word" "_law_is_word" (defArgs s__law_is_word) (defBody s__law_is_word) (defScope s__law_is_word) .none kV15 dc15 pm15 an15 cd15 ct15), sl15⟩) (g15 : PySem.W.codeIn K cd15 "_law_is_word" = true) (k15 : PySem.W.keepIn K (.ref f15) = true)
    (e16 : PySem.W.nsIn K mainGlobals "_law_is_kind" = some (some (.ref f16))) (l16 : K.lookup f16 = some ⟨oc16, od16, .func (PySem.W.fnOf "_law_is_kind" "_law_is_kind" (defArgs s__law_is_kind) (defBody s__law_is_kind) (defScope s__law_is_kind) .none kV16 dc16 pm16 an16 cd16 ct16), sl16⟩) (g16 : PySem.W.codeIn K cd16 "_law_is_kind" = true) (k16 : PySem.W.keepIn K (.ref f16) = true)
    (e17 : PySem.W.nsIn K mainGlobals "_law_places" = some (some (.ref f17))) (l17 : K.lookup f17 = some ⟨oc17, od17, .func (PySem.W.fnOf "_law_places" "_law_places" (defArgs s__law_places) (defBody s__law_places) (defScope s__law_places) .none kV17 dc17 pm17 an17 cd17 ct17), sl17⟩) (g17 : PySem.W.codeIn K cd17 "_law_places" = true) (k17 : PySem.W.keepIn K (.ref f17) = true)
    (e18 : PySem.W.nsIn K mainGlobals "_law_at" = some (some (.ref f18))) (l18 : K.lookup f18 = some ⟨oc18, od18, .func (PySem.W.fnOf "_law_at" "_law_at" (defArgs s__law_at) (defBody s__law_at) (defScope s__law_at) .none kV18 dc18 pm18 an18 cd18 ct18), sl18⟩) (g18 : PySem.W.codeIn K cd18 "_law_at" = true) (k18 : PySem.W.keepIn K (.ref f18) = true)
    (e19 : PySem.W.nsIn K mainGlobals "_law_put" = some (some (.ref f19))) (l19 : K.lookup f19 = some ⟨oc19, od19, .func (PySem.W.fnOf "_law_put" "_law_put" (defArgs s__law_put) (defBody s__law_put) (defScope s__law_put) .none kV19 dc19 pm19 an19 cd19 ct19), sl19⟩) (g19 : PySem.W.codeIn K cd19 "_law_put" = true) (k19 : PySem.W.keepIn K (.ref f19) = true)
    (e20 : PySem.W.nsIn K mainGlobals "_law_spoilt_thing" = some (some (.ref f20))) (l20 : K.lookup f20 = some ⟨oc20, od20, .func (PySem.W.fnOf "_law_spoilt_thing" "_law_spoilt_thing" (defArgs s__law_spoilt_thing) (defBody s__law_spoilt_thing) (defScope s__law_spoilt_thing) .none kV20 dc20 pm20 an20 cd20 ct20), sl20⟩) (g20 : PySem.W.codeIn K cd20 "_law_spoilt_thing" = true) (k20 : PySem.W.keepIn K (.ref f20) = true)
    (e21 : PySem.W.nsIn K mainGlobals "law" = some (some (.ref f21))) (l21 : K.lookup f21 = some ⟨oc21, od21, .func (PySem.W.fnOf "law" "law" (defArgs s_law) (defBody s_law) (defScope s_law) .none kV21 dc21 pm21 an21 cd21 ct21), sl21⟩) (g21 : PySem.W.codeIn K cd21 "law" = true) (k21 : PySem.W.keepIn K (.ref f21) = true)
    (z_all : PySem.W.nsIn K mainGlobals "all" = some none) (z_bool : PySem.W.nsIn K mainGlobals "bool" = some none) (z_enumerate : PySem.W.nsIn K mainGlobals "enumerate" = some none) (z_int : PySem.W.nsIn K mainGlobals "int" = some none) (z_isinstance : PySem.W.nsIn K mainGlobals "isinstance" = some none) (z_len : PySem.W.nsIn K mainGlobals "len" = some none) (z_min : PySem.W.nsIn K mainGlobals "min" = some none) (z_range : PySem.W.nsIn K mainGlobals "range" = some none) (z_set : PySem.W.nsIn K mainGlobals "set" = some none) (z_str : PySem.W.nsIn K mainGlobals "str" = some none) (z_tuple : PySem.W.nsIn K mainGlobals "tuple" = some none) {t_DEEPEST : Tok} (c_DEEPEST : PySem.W.nsIn K mainGlobals "DEEPEST" = some (some (.int 3 t_DEEPEST))) :
    ∃ fd : FuncData, (∀ (s : Shared) (v : Value), BindsTo s fd ⟨[v], []⟩ [("_law_script", v)]) ∧ ∀ base : Heap, K.In base → base.Ns mainGlobals mg → FnOk l.prog w K mg base CX0 42 fa fd ["_law_script"] (spP cl 1 f_law) := by
  have e := hfa.symm.trans (PySem.W.mg_of X G e21)
  cases e
  have F0 := fun_mk (st := s__law_cell) l0 g0 k0
  have C0 : Fn K mg "_law_cell" s__law_cell ["_law_script", "_law_k"] _ _ := ⟨F0, F0.binds (ps := ["_law_script", "_law_k"]) fun _ _ _ _ _ _ us hl => match us, hl with | [_, _], _ => rfl, PySem.W.mg_of X G e0⟩
  have F1 := fun_mk (st := s__law_pick) l1 g1 k1
  have C1 : Fn K mg "_law_pick" s__law_pick ["_law_script", "_law_k", "_law_many"] _ _ := ⟨F1, F1.binds (ps := ["_law_script", "_law_k", "_law_many"]) fun _ _ _ _ _ _ us hl => match us, hl with | [_, _, _], _ => rfl, PySem.W.mg_of X G e1⟩
  have F2 := fun_mk (st := s__law_word_of) l2 g2 k2
  have C2 : Fn K mg "_law_word_of" s__law_word_of ["_law_script", "_law_at_here"] _ _ := ⟨F2, F2.binds (ps := ["_law_script", "_law_at_here"]) fun _ _ _ _ _ _ us hl => match us, hl with | [_, _], _ => rfl, PySem.W.mg_of X G e2⟩
  have F3 := fun_mk (st := s__law_leaf_kind) l3 g3 k3
  have C3 : Fn K mg "_law_leaf_kind" s__law_leaf_kind ["_law_script", "_law_at_here"] _ _ := ⟨F3, F3.binds (ps := ["_law_script", "_law_at_here"]) fun _ _ _ _ _ _ us hl => match us, hl with | [_, _], _ => rfl, PySem.W.mg_of X G e3⟩
  have F4 := fun_mk (st := s__law_kind) l4 g4 k4
  have C4 : Fn K mg "_law_kind" s__law_kind ["_law_script", "_law_at_here", "_law_deep"] _ _ := ⟨F4, F4.binds (ps := ["_law_script", "_law_at_here", "_law_deep"]) fun _ _ _ _ _ _ us hl => match us, hl with | [_, _, _], _ => rfl, PySem.W.mg_of X G e4⟩
  have F5 := fun_mk (st := s_is_whole) l5 g5 k5
  have C5 : Fn K mg "is_whole" s_is_whole ["thing"] _ _ := ⟨F5, F5.binds (ps := ["thing"]) fun _ _ _ _ _ _ us hl => match us, hl with | [_], _ => rfl, PySem.W.mg_of X G e5⟩
  have F6 := fun_mk (st := s_is_span) l6 g6 k6
  have C6 : Fn K mg "is_span" s_is_span ["low", "high", "least", "most"] _ _ := ⟨F6, F6.binds (ps := ["low", "high", "least", "most"]) fun _ _ _ _ _ _ us hl => match us, hl with | [_, _, _, _], _ => rfl, PySem.W.mg_of X G e6⟩
  have F7 := fun_mk (st := s_is_tuple_of) l7 g7 k7
  have C7 : Fn K mg "is_tuple_of" s_is_tuple_of ["thing", "least", "most"] _ _ := ⟨F7, F7.binds (ps := ["thing", "least", "most"]) fun _ _ _ _ _ _ us hl => match us, hl with | [_, _, _], _ => rfl, PySem.W.mg_of X G e7⟩
  have F8 := fun_mk (st := s_is_word) l8 g8 k8
  have C8 : Fn K mg "is_word" s_is_word ["thing"] _ _ := ⟨F8, F8.binds (ps := ["thing"]) fun _ _ _ _ _ _ us hl => match us, hl with | [_], _ => rfl, PySem.W.mg_of X G e8⟩
  have F9 := fun_mk (st := s_is_choice) l9 g9 k9
  have C9 : Fn K mg "is_choice" s_is_choice ["thing"] _ _ := ⟨F9, F9.binds (ps := ["thing"]) fun _ _ _ _ _ _ us hl => match us, hl with | [_], _ => rfl, PySem.W.mg_of X G e9⟩
  have F10 := fun_mk (st := s_are_choices) l10 g10 k10
  have C10 : Fn K mg "are_choices" s_are_choices ["thing"] _ _ := ⟨F10, F10.binds (ps := ["thing"]) fun _ _ _ _ _ _ us hl => match us, hl with | [_], _ => rfl, PySem.W.mg_of X G e10⟩
  have F11 := fun_mk (st := s_is_kind_within) l11 g11 k11
  have C11 : Fn K mg "is_kind_within" s_is_kind_within ["thing", "levels"] _ _ := ⟨F11, F11.binds (ps := ["thing", "levels"]) fun _ _ _ _ _ _ us hl => match us, hl with | [_, _], _ => rfl, PySem.W.mg_of X G e11⟩
  have F12 := fun_mk (st := s_are_kinds_within) l12 g12 k12
  have C12 : Fn K mg "are_kinds_within" s_are_kinds_within ["thing", "levels"] _ _ := ⟨F12, F12.binds (ps := ["thing", "levels"]) fun _ _ _ _ _ _ us hl => match us, hl with | [_, _], _ => rfl, PySem.W.mg_of X G e12⟩
  have F13 := fun_mk (st := s_is_kind) l13 g13 k13
  have C13 : Fn K mg "is_kind" s_is_kind ["thing"] _ _ := ⟨F13, F13.binds (ps := ["thing"]) fun _ _ _ _ _ _ us hl => match us, hl with | [_], _ => rfl, PySem.W.mg_of X G e13⟩
  have F14 := fun_mk (st := s__law_whole) l14 g14 k14
  have C14 : Fn K mg "_law_whole" s__law_whole ["_law_thing", "_law_low", "_law_high"] _ _ := ⟨F14, F14.binds (ps := ["_law_thing", "_law_low", "_law_high"]) fun _ _ _ _ _ _ us hl => match us, hl with | [_, _, _], _ => rfl, PySem.W.mg_of X G e14⟩
  have F15 := fun_mk (st := s__law_is_word) l15 g15 k15
  have C15 : Fn K mg "_law_is_word" s__law_is_word ["_law_thing"] _ _ := ⟨F15, F15.binds (ps := ["_law_thing"]) fun _ _ _ _ _ _ us hl => match us, hl with | [_], _ => rfl, PySem.W.mg_of X G e15⟩
  have F16 := fun_mk (st := s__law_is_kind) l16 g16 k16
  have C16 : Fn K mg "_law_is_kind" s__law_is_kind ["_law_thing", "_law_deep"] _ _ := ⟨F16, F16.binds (ps := ["_law_thing", "_law_deep"]) fun _ _ _ _ _ _ us hl => match us, hl with | [_, _], _ => rfl, PySem.W.mg_of X G e16⟩
  have F17 := fun_mk (st := s__law_places) l17 g17 k17
  have C17 : Fn K mg "_law_places" s__law_places ["_law_thing"] _ _ := ⟨F17, F17.binds (ps := ["_law_thing"]) fun _ _ _ _ _ _ us hl => match us, hl with | [_], _ => rfl, PySem.W.mg_of X G e17⟩
  have F18 := fun_mk (st := s__law_at) l18 g18 k18
  have C18 : Fn K mg "_law_at" s__law_at ["_law_thing", "_law_place"] _ _ := ⟨F18, F18.binds (ps := ["_law_thing", "_law_place"]) fun _ _ _ _ _ _ us hl => match us, hl with | [_, _], _ => rfl, PySem.W.mg_of X G e18⟩
  have F19 := fun_mk (st := s__law_put) l19 g19 k19
  have C19 : Fn K mg "_law_put" s__law_put ["_law_thing", "_law_place", "_law_new"] _ _ := ⟨F19, F19.binds (ps := ["_law_thing", "_law_place", "_law_new"]) fun _ _ _ _ _ _ us hl => match us, hl with | [_, _, _], _ => rfl, PySem.W.mg_of X G e19⟩
  have F20 := fun_mk (st := s__law_spoilt_thing) l20 g20 k20
  have C20 : Fn K mg "_law_spoilt_thing" s__law_spoilt_thing ["_law_script", "_law_at_here", "_law_thing"] _ _ := ⟨F20, F20.binds (ps := ["_law_script", "_law_at_here", "_law_thing"]) fun _ _ _ _ _ _ us hl => match us, hl with | [_, _, _], _ => rfl, PySem.W.mg_of X G e20⟩
  have F21 := fun_mk (st := s_law) l21 g21 k21
  have C21 : Fn K mg "law" s_law ["_law_script"] _ _ := ⟨F21, F21.binds (ps := ["_law_script"]) fun _ _ _ _ _ _ us hl => match us, hl with | [_], _ => rfl, PySem.W.mg_of X G e21⟩
  refine ⟨PySem.W.fnOf "law" "law" (defArgs s_law) (defBody s_law) (defScope s_law) .none kV21 dc21 pm21 an21 cd21 ct21, fun s v => .of_eq rfl, fun base _ _ => ?_⟩
  exact ok_all C0 C1 C2 C3 C4 C5 C6 C7 C8 C9 C10 C11 C12 C13 C14 C15 C16 C17 C18 C19 C20 C21 (PySem.W.mg_none_of X G z_all) (PySem.W.mg_none_of X G z_bool) (PySem.W.mg_none_of X G z_enumerate) (PySem.W.mg_none_of X G z_int) (PySem.W.mg_none_of X G z_isinstance) (PySem.W.mg_none_of X G z_len) (PySem.W.mg_none_of X G z_min) (PySem.W.mg_none_of X G z_range) (PySem.W.mg_none_of X G z_set) (PySem.W.mg_none_of X G z_str) (PySem.W.mg_none_of X G z_tuple) ⟨_, PySem.W.mg_of X G c_DEEPEST, _, rfl⟩
def noLists (K : PySem.W.Frag) : Bool := K.all fun p => !(p.2.cls == Value.type "list")
theorem no_list {K : PySem.W.Frag} (h : noLists K = true) {a : Addr} {o : Obj} (e : K.lookup a = some o) (c : o.cls = Value.type "list") : False := by
  have hm : (a, o) ∈ K := by
    clear h
    induction K with
    | nil => cases e
    | cons p r ih =>
      obtain ⟨b, u⟩ := p
      by_cases hb : a = b
      · subst hb
        have e' : some u = some o := by simpa [List.lookup_cons] using e
        cases e'; exact List.mem_cons_self
      · have e' : r.lookup a = some o := by rw [List.lookup_cons, (beq_eq_false_iff_ne.mpr hb)] at e; exact e
        exact List.mem_cons_of_mem _ (ih e')
  have := List.all_eq_true.mp h _ hm
  rw [c] at this
  simp at this
theorem law_sp {cl : Nat → Value} {K : PySem.W.Frag} {H : Hp} {a : Addr} {ns : List Int} (hL : f_law [.fz (ns.map T.int)] = .ok (.bl true)) (hK : noLists K = true) (hO : Only H) (hS : SqL K H a (ns.map V.int)) : spP cl 1 f_law [.ref a] H (fun v _ => v = .bl true) fun _ _ _ => False := by
  have scrR : ∀ ns : List Int, Reps H (ns.map V.int) (ns.map T.int) := fun ns => by
    induction ns with
    | nil => exact .nil
    | cons n r ih => exact .cons (.int n) ih
  rcases hS with (h | ⟨o, h⟩) | ⟨o, its, n, e, c, _⟩
  · rcases hO a with z | ⟨ob, xs, z⟩ <;> (rw [h] at z; cases z)
  · refine ⟨H, [.fz (ns.map T.int)], rfl, Same.refl H, .cons (.fz h (scrR ns)) .nil, ?_⟩
    rw [hL]
    intro v H' _ r
    cases r; rfl
  · exact (no_list hK e c).elim
theorem walk {l : PySem.W.OpenLaw} {q : Program} {loose : List Str} {XP : (Str → Option Value) → Heap → Prop} {YP : World → Heap → Prop} {d : DefRec} {K : Params → PySem.W.Frag} (hn : l.most = some 63) (hdf : d.params.defaults = [])
    (hL : ∀ ns : List Int, ns.length ≤ 63 → f_law [.fz (ns.map T.int)] = .ok (.bl true)) (hK : ∀ p, noLists (K p) = true)
    (hY : ∀ (w : World) (h : Heap), YP w h → (K w.params).In h)
    (F : ∀ (w : World) (mg : Str → Option Value) (fa : Addr) (h : Heap), (K w.params).In h → h.Ns mainGlobals mg → mg d.name = some (.ref fa) →
      ∃ fd : FuncData, (∀ (s : Shared) (u : Value), BindsTo s fd ⟨[u], []⟩ [("_law_script", u)]) ∧ ∀ base : Heap, (K w.params).In base → base.Ns mainGlobals mg → FnOk l.prog w (K w.params) mg base CX0 42 fa fd ["_law_script"] (spP (fun _ => .none) 1 f_law)) :
    PySem.W.WalkO q loose XP YP l.row.toRowW d [] (fun f vs => PySem.call f vs) :=
  L2.walk_of (n := 63) (k := 42) (x := "_law_script") (CX := fun _ => CX0) (sp := fun _ => spP (fun _ => .none) 1 f_law) hn (by decide) hdf ⟨rfl, by decide, by decide⟩ hY F (fun w H a ns hl hO hS => law_sp (hL ns hl) (hK w.params) hO hS) fun _ _ _ _ _ z => z
end G
open PySem PySem.W PyProof.Rows
set_option maxRecDepth 100000 in
set_option maxHeartbeats 0 in
theorem PySem.Challenge.cw_worthkinds_k01_kinds_holds : PySem.Challenge.rw_worthkinds_k01_kinds.Holds := by
  w_on; o_law; k_head; (case hw => w_witness2)
  k_fill
  refine G.walk (l := PySem.Challenge.rw_worthkinds_k01_kinds) rfl rfl G.law_ok ?nl (fun w h Y => PySem.W.kIn_of Y) ?F
  case nl => intro p; kernel_rfl
  case F =>
    intro w mg fa h KX G0 hmg
    refine' G.all_mk KX G0 hmg ?qe0 ?ql0 ?qg0 ?qk0 ?qe1 ?ql1 ?qg1 ?qk1 ?qe2 ?ql2 ?qg2 ?qk2 ?qe3 ?ql3 ?qg3 ?qk3 ?qe4 ?ql4 ?qg4 ?qk4 ?qe5 ?ql5 ?qg5 ?qk5 ?qe6 ?ql6 ?qg6 ?qk6 ?qe7 ?ql7 ?qg7 ?qk7 ?qe8 ?ql8 ?qg8 ?qk8 ?qe9 ?ql9 ?qg9 ?qk9 ?qe10 ?ql10 ?qg10 ?qk10 ?qe11 ?ql11 ?qg11 ?qk11 ?qe12 ?ql12 ?qg12 ?qk12 ?qe13 ?ql13 ?qg13 ?qk13 ?qe14 ?ql14 ?qg14 ?qk14 ?qe15 ?ql15 ?qg15 ?qk15 ?qe16 ?ql16 ?qg16 ?qk16 ?qe17 ?ql17 ?qg17 ?qk17 ?qe18 ?ql18 ?qg18 ?qk18 ?qe19 ?ql19 ?qg19 ?qk19 ?qe20 ?ql20 ?qg20 ?qk20 ?qe21 ?ql21 ?qg21 ?qk21 ?qz0 ?qz1 ?qz2 ?qz3 ?qz4 ?qz5 ?qz6 ?qz7 ?qz8 ?qz9 ?qz10 ?qc0
    (case qe0 => k_is)
    (case ql0 => k_is)
    (case qg0 => k_is)
    (case qk0 => k_is)
    (case qe1 => k_is)
    (case ql1 => k_is)
    (case qg1 => k_is)
    (case qk1 => k_is)
    (case qe2 => k_is)
    (case ql2 => k_is)
    (case qg2 => k_is)
    (case qk2 => k_is)
    (case qe3 => k_is)
    (case ql3 => k_is)
    (case qg3 => k_is)
    (case qk3 => k_is)
    (case qe4 => k_is)
    (case ql4 => k_is)
    (case qg4 => k_is)
    (case qk4 => k_is)
    (case qe5 => k_is)
    (case ql5 => k_is)
    (case qg5 => k_is)
    (case qk5 => k_is)
    (case qe6 => k_is)
    (case ql6 => k_is)
    (case qg6 => k_is)
    (case qk6 => k_is)
    (case qe7 => k_is)
    (case ql7 => k_is)
    (case qg7 => k_is)
    (case qk7 => k_is)
    (case qe8 => k_is)
    (case ql8 => k_is)
    (case qg8 => k_is)
    (case qk8 => k_is)
    (case qe9 => k_is)
    (case ql9 => k_is)
    (case qg9 => k_is)
    (case qk9 => k_is)
    (case qe10 => k_is)
    (case ql10 => k_is)
    (case qg10 => k_is)
    (case qk10 => k_is)
    (case qe11 => k_is)
    (case ql11 => k_is)
    (case qg11 => k_is)
    (case qk11 => k_is)
    (case qe12 => k_is)
    (case ql12 => k_is)
    (case qg12 => k_is)
    (case qk12 => k_is)
    (case qe13 => k_is)
    (case ql13 => k_is)
    (case qg13 => k_is)
    (case qk13 => k_is)
    (case qe14 => k_is)
    (case ql14 => k_is)
    (case qg14 => k_is)
    (case qk14 => k_is)
    (case qe15 => k_is)
    (case ql15 => k_is)
    (case qg15 => k_is)
    (case qk15 => k_is)
    (case qe16 => k_is)
    (case ql16 => k_is)
    (case qg16 => k_is)
    (case qk16 => k_is)
    (case qe17 => k_is)
    (case ql17 => k_is)
    (case qg17 => k_is)
    (case qk17 => k_is)
    (case qe18 => k_is)
    (case ql18 => k_is)
    (case qg18 => k_is)
    (case qk18 => k_is)
    (case qe19 => k_is)
    (case ql19 => k_is)
    (case qg19 => k_is)
    (case qk19 => k_is)
    (case qe20 => k_is)
    (case ql20 => k_is)
    (case qg20 => k_is)
    (case qk20 => k_is)
    (case qe21 => k_is)
    (case ql21 => k_is)
    (case qg21 => k_is)
    (case qk21 => k_is)
    (case qz0 => k_is)
    (case qz1 => k_is)
    (case qz2 => k_is)
    (case qz3 => k_is)
    (case qz4 => k_is)
    (case qz5 => k_is)
    (case qz6 => k_is)
    (case qz7 => k_is)
    (case qz8 => k_is)
    (case qz9 => k_is)
    (case qz10 => k_is)
    (case qc0 => k_is)

