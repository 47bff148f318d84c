import PyProof.Rows.All
import Wide.All
import OpenK.AllK
import Wide.FinOn
import Lean
import PyProof.EqAt
import PyProof.EqKinds
import PyProof.TupleCall
import KE.KSortTup
import KE.KStateDown
import PyProof.ExcBaseAll.ValueError
import PyProof.ExcClass3
import PyProof.ExcArgsOwn
import OpenK.Peek
import OpenK.KMake
import OpenK.KDescr
import KE.KIsAll
import OpenK.KOwn
import KE.KNest
import PyProof.ListStr
import PyProof.StrBlock
import PyProof.Rows.SeqMore2
import PyProof.ListMulRoad
import PyProof.TupleOps
import PySem.Challenge.RW_cranefloor_k01_floors
set_option Elab.async false
set_option linter.all false
set_option maxRecDepth 100000
/-! THE HAND LAYER, for ints, bools, texts, own classes, LISTS and tuples (index, slices, in, append, pop ..), calls, loops. Paste it whole ahead of your own text; what your proof does not reach may be deleted. -/
namespace L2
open PySem PySem.Spec PyProof.Rows

/-- a key: an int or a str -/
abbrev Key := Sum Int Str
def keyIs : Key → Value → Bool
  | .inl k, v => Value.isInt k v
  | .inr x, v => Value.isStrOf x v
def keyH (w : World) : Key → Int
  | .inl k => hashInt k
  | .inr x => hashStr w x
theorem keyIs_shape : ∀ {k : Key} {v : Value}, keyIs k v = true → (∃ i t, k = Sum.inl i ∧ v = Value.int i t) ∨ (∃ x t, k = Sum.inr x ∧ v = Value.str x t)
  | .inl i, v, h => by
    obtain ⟨t, e⟩ := Value.isInt_shape (k := i) (v := v) h
    exact .inl ⟨i, t, rfl, e⟩
  | .inr x, v, h => by
    obtain ⟨t, e⟩ := Value.isStrOf_shape (x := x) (v := v) h
    exact .inr ⟨x, t, rfl, e⟩
theorem key_ll (a b : Int) : decide ((Sum.inl a : Key) = Sum.inl b) = (a == b) := by
  by_cases e : a = b
  · subst e; simp
  · have h : ¬ (Sum.inl a : Key) = Sum.inl b := fun q => e (Sum.inl.inj q)
    rw [decide_eq_false h]
    exact (beq_eq_false_iff_ne.mpr e).symm
theorem key_rr (a b : Str) : decide ((Sum.inr a : Key) = Sum.inr b) = decide (a = b) := by
  by_cases e : a = b
  · subst e; simp
  · have h : ¬ (Sum.inr a : Key) = Sum.inr b := fun q => e (Sum.inr.inj q)
    rw [decide_eq_false h, decide_eq_false e]
theorem key_lr (a : Int) (b : Str) : decide ((Sum.inl a : Key) = Sum.inr b) = false := decide_eq_false (fun q => nomatch q)
theorem key_rl (a : Str) (b : Int) : decide ((Sum.inr a : Key) = Sum.inl b) = false := decide_eq_false (fun q => nomatch q)

def mixKind (prog : Program) (w : World) : PySem.KeyKind prog w Key where
  is := keyIs
  hash := keyH w
  inj := fun v a b ha hb => by
    rcases keyIs_shape ha with ⟨i, t, rfl, rfl⟩ | ⟨x, t, rfl, rfl⟩
    · rcases keyIs_shape hb with ⟨j, u, rfl, e⟩ | ⟨y, u, rfl, e⟩
      · injection e with e1 _; rw [e1]
      · exact nomatch e
    · rcases keyIs_shape hb with ⟨j, u, rfl, e⟩ | ⟨y, u, rfl, e⟩
      · exact nomatch e
      · injection e with e1 _; rw [e1]
  byValue := fun k v h => by
    rcases keyIs_shape h with ⟨i, t, rfl, rfl⟩ | ⟨x, t, rfl, rfl⟩ <;> rfl
  pyHash := fun hv h => by
    rcases keyIs_shape hv with ⟨i, t, rfl, rfl⟩ | ⟨x, t, rfl, rfl⟩
    · exact wpAny_pyHash_int h
    · exact wpAny_pyHash_str h
  eqBool := fun hu hv h => by
    rcases keyIs_shape hu with ⟨i, t, rfl, rfl⟩ | ⟨x, t, rfl, rfl⟩
    · rcases keyIs_shape hv with ⟨j, u, rfl, rfl⟩ | ⟨y, u, rfl, rfl⟩
      · rw [key_ll] at h; exact wpAny_eqBool_int h
      · rw [key_lr] at h; exact SeqAt.EqAt.int_str i t y u _ _ _ _ h
    · rcases keyIs_shape hv with ⟨j, u, rfl, rfl⟩ | ⟨y, u, rfl, rfl⟩
      · rw [key_rl] at h; exact SeqAt.EqAt.str_int x t j u _ _ _ _ h
      · rw [key_rr] at h; exact wpAny_eqBool_str h
  «strs» := fun k x t v h => by
    rcases keyIs_shape h with ⟨i, u, rfl, e⟩ | ⟨y, u, rfl, e⟩
    · exact nomatch e
    · injection e with e1 _
      subst e1
      cases v <;> rfl

end L2

namespace L2
open PySem PySem.Spec PyProof.Rows

/-- a value, without the heap -/
inductive V where
  | non | bl (b : Bool) | int (i : Int) | str (x : Str) | byt (b : Array UInt8) | flt (b : UInt64) | ref (a : Addr) | ty (n : String)
  deriving DecidableEq

def RelV : V → Value → Prop
  | .non, u => u = Value.none
  | .bl b, u => u = Value.bool b
  | .int i, u => ∃ t, u = Value.int i t
  | .str x, u => ∃ t, u = Value.str x t
  | .byt b, u => ∃ t, u = Value.bytes b t
  | .flt b, u => ∃ t, u = Value.float b t
  | .ref a, u => u = Value.ref a
  | .ty n, u => u = Value.type n

abbrev Vals : List V → List Value → Prop := Paired RelV
theorem Vals.length {xs : List V} {us : List Value} (r : Vals xs us) : xs.length = us.length := Paired.length r
theorem Vals.get : ∀ {xs : List V} {us : List Value} {i : Nat} {x : V}, Vals xs us → xs[i]? = some x → ∃ u, us[i]? = some u ∧ RelV x u
  | _, _, _, _, .nil, e => by simp at e
  | _, _, 0, _, .cons r _, e => by simp at e; subst e; exact ⟨_, rfl, r⟩
  | _, _, i + 1, x, .cons _ t, e => by
    obtain ⟨u, h1, h2⟩ := Vals.get (i := i) (x := x) t (by simpa using e)
    exact ⟨u, by simpa using h1, h2⟩
theorem Vals.set {x : V} {u : Value} (r : RelV x u) : ∀ {xs : List V} {us : List Value} (i : Nat), Vals xs us → Vals (xs.set i x) (us.set i u)
  | _, _, _, .nil => .nil
  | _, _, 0, .cons _ t => .cons r t
  | _, _, i + 1, .cons q t => .cons q (Vals.set r i t)
theorem Vals.append : ∀ {xs ys : List V} {us ws : List Value}, Vals xs us → Vals ys ws → Vals (xs ++ ys) (us ++ ws)
  | _, _, _, _, .nil, s => s
  | _, _, _, _, .cons r t, s => .cons r (Vals.append t s)
theorem Vals.take : ∀ {xs : List V} {us : List Value} (n : Nat), Vals xs us → Vals (xs.take n) (us.take n)
  | _, _, 0, _ => .nil
  | _, _, _ + 1, .nil => .nil
  | _, _, n + 1, .cons r t => .cons r (Vals.take n t)
theorem Vals.drop : ∀ {xs : List V} {us : List Value} (n : Nat), Vals xs us → Vals (xs.drop n) (us.drop n)
  | _, _, 0, r => r
  | _, _, _ + 1, .nil => .nil
  | _, _, n + 1, .cons _ t => Vals.drop n t

def RelO : Option V → Option Value → Prop
  | some v, some u => RelV v u
  | none, none => True
  | _, _ => False
def KV {κ : Type} : List (κ × V) → List (κ × Value) → Prop := Paired fun (p : κ × V) (q : κ × Value) => p.1 = q.1 ∧ RelV p.2 q.2

/-- a key of a dict (00_mix): an int or a text -/
def kV : Key → V
  | .inl i => .int i
  | .inr x => .str x

/-- what stands at a tracked address -/
inductive HO where
  /-- a list -/
  | lst (xs : List V)
  /-- a tuple (never changes) -/
  | tup (xs : List V)
  /-- a dict whose keys are ints and texts; one whose keys are tuples of ints and texts (the empty one is both) -/
  | dK (kvs : List (Key × V)) | dT (kvs : List (List Key × V))
  /-- a set of ints: its members, its size -/
  | set (S : Int → Bool) (n : Nat)
  /-- an instance of the class at C, its dict at dx, its attributes -/
  | ins (C dx : Addr) (fs : List (Str × V))
  /-- the dict of the instance at x -/
  | own (x : Addr)
  /-- the dict of an exception -/
  | xd (fs : List (Str × V))
  /-- a bound method, f of x -/
  | met (f x : Addr)
  /-- a range object lo, lo + 1, .. below hi -/
  | rng (lo hi : Int)
  /-- a thing that is known to the object (the script; a dict while a loop walks it): read, never written while it is so -/
  | frz (o : Obj) (u : HO)
  /-- a code object's table -/
  | tbl (ps : Array Value)
  /-- any other thing, by what is true of its one object (a def of one's own: SetO a S n := HO.ext fun h => ..) -/
  | ext (φ : Heap → Prop)

abbrev Hp := Addr → Option HO
def upd (H : Hp) (a : Addr) (o : HO) : Hp := fun b => if b = a then some o else H b
theorem upd_same {H : Hp} {a : Addr} {o : HO} : upd H a o a = some o := by unfold upd; rw [if_pos rfl]
theorem upd_ne {H : Hp} {a b : Addr} {o : HO} (h : b ≠ a) : upd H a o b = H b := by unfold upd; rw [if_neg h]
theorem ne_of_none {H : Hp} {a b : Addr} {o : HO} (h : H a = some o) (h' : H b = none) : a ≠ b := by
  intro e; subst e; rw [h] at h'; cases h'

section
variable (P : Program) (w : World)
def ObjOk (H : Hp) (h : Heap) (a : Addr) : HO → Prop
  | .lst xs => xs.length ≤ sizeLine ∧ ∃ (its : List Value) (n : Nat), Vals xs its ∧ h.get? a = some { cls := .type "list", data := .seq its.toArray n }
  | .tup xs => xs.length ≤ sizeLine ∧ ∃ its : List Value, Vals xs its ∧ IsTup h a its.toArray
  | .dK kvs => kvs.length ≤ sizeLine ∧ (a == sysModules) = false ∧ ∃ vs, KV kvs vs ∧ h.DictOf (mixKind P w) a vs
  | .dT kvs => kvs.length ≤ sizeLine ∧ (a == sysModules) = false ∧ ∃ xs : List (List Key × Addr × Value),
      Paired (fun (p : List Key × V) (q : List Key × Addr × Value) => p.1 = q.1 ∧ H q.2.1 = some (.tup (p.1.map kV)) ∧ RelV p.2 q.2.2) kvs xs ∧
      ∃ o es ep, h.get? a = some o ∧ o.ExactDict ∧ o.data = .dict es ep ∧ es.toList = xs.map (entryOfKey (tupleKind (mixKind P w))) ∧ (xs.map (·.1)).Nodup
  | .set S n => h.SetOf (intKind P w) a S n
  | .ins C dx fs => H dx = some (.own a) ∧ fs.length ≤ 1000 ∧ dx ≠ a ∧ h.get? a = some (PySem.W.instObj C dx) ∧
      ∃ mA, h.Ns1 dx mA ∧ (∀ f, RelO (fs.lookup f) (mA f)) ∧ PySem.Within mA (fs.map (·.1))
  | .own _ => ∃ o, h.get? a = some o
  | .xd fs => ∃ mA, h.Ns1 a mA ∧ ∀ f, RelO (fs.lookup f) (mA f)
  | .rng lo hi => ∃ t u v, h.get? a = some { cls := .type "range", data := .fields #[.int lo t, .int hi u, .int 1 v] }
  | .frz o u => h.get? a = some o ∧ ObjOk H h a u
  | .tbl ps => h.get? a = some { cls := .none, data := .fields ps }
  | .met f x => h.get? a = some (PySem.W.methodObj (.ref f) (.ref x))
  | .ext φ => φ h ∧ (∃ o, h.get? a = some o) ∧ ∀ h1 h2 : Heap, φ h1 → (∀ o, h1.get? a = some o → h2.get? a = some o) → φ h2
/-- the abstract heap is held -/
def HOk (H : Hp) (h : Heap) : Prop := ∀ a o, H a = some o → ObjOk P w H h a o
end

section
variable {P : Program} {w : World} {H H' : Hp} {h h' : Heap} {a : Addr} {o : HO}
theorem ObjOk.lt (x : ObjOk P w H h a o) : a < h.objs.size := by
  cases o with
  | lst xs => obtain ⟨_, _, _, _, e⟩ := x; exact Heap.lt_size e
  | tup xs => obtain ⟨_, _, _, p⟩ := x; exact p.lt
  | dK kvs => obtain ⟨_, _, _, _, o, _, _, e, _⟩ := x; exact Heap.lt_size e
  | dT kvs => obtain ⟨_, _, _, _, o, _, _, e, _⟩ := x; exact Heap.lt_size e
  | set S n => obtain ⟨o, _, _, _, e, _⟩ := x; exact Heap.lt_size e
  | ins C dx fs => obtain ⟨_, _, _, e, _⟩ := x; exact Heap.lt_size e
  | own y => obtain ⟨_, e⟩ := x; exact Heap.lt_size e
  | xd fs => obtain ⟨_, ⟨_, _, _, e, _⟩, _⟩ := x; exact Heap.lt_size e
  | rng lo hi => obtain ⟨_, _, _, e⟩ := x; exact Heap.lt_size e
  | frz ob u => obtain ⟨e, _⟩ := x; exact Heap.lt_size e
  | tbl ps => exact Heap.lt_size (show h.get? a = some _ from x)
  | met f y => exact Heap.lt_size (show h.get? a = some _ from x)
  | ext φ => obtain ⟨_, ⟨_, e⟩, _⟩ := x; exact Heap.lt_size e
theorem Paired.mapP {α β : Type} {F G : α → β → Prop} : ∀ {l₁ : List α} {l₂ : List β}, Paired F l₁ l₂ → (∀ a b, F a b → G a b) → Paired G l₁ l₂
  | _, _, .nil, _ => .nil
  | _, _, .cons r t, f => .cons (f _ _ r) (Paired.mapP t f)
/-- what an object's description leans on: its own object, its own dict, the tuples -/
theorem ObjOk.stay (x : ObjOk P w H h a o) (k : ∀ b u, (b = a ∨ H b = some (.own a)) → h.get? b = some u → h'.get? b = some u)
    (ho : ∀ b, H b = some (.own a) → H' b = some (.own a)) (ht : ∀ b xs, H b = some (.tup xs) → H' b = some (.tup xs)) : ObjOk P w H' h' a o := by
  induction o with
  | lst xs => obtain ⟨z, its, n, r, e⟩ := x; exact ⟨z, its, n, r, k _ _ (.inl rfl) e⟩
  | tup xs => obtain ⟨z, its, r, ob, e, c⟩ := x; exact ⟨z, its, r, ob, k _ _ (.inl rfl) e, c⟩
  | dK kvs => obtain ⟨z, y, vs, r, ob, es, ep, e, c⟩ := x; exact ⟨z, y, vs, r, ob, es, ep, k _ _ (.inl rfl) e, c⟩
  | dT kvs =>
    obtain ⟨z, y, xs, r, ob, es, ep, e, c⟩ := x
    exact ⟨z, y, xs, Paired.mapP r fun p q z => ⟨z.1, ht _ _ z.2.1, z.2.2⟩, ob, es, ep, k _ _ (.inl rfl) e, c⟩
  | set S n => obtain ⟨ob, es, ep, t, e, c⟩ := x; exact ⟨ob, es, ep, t, k _ _ (.inl rfl) e, c⟩
  | ins C dx fs =>
    obtain ⟨d, z, ne, e, mA, ⟨od, es, ep, e2, c⟩, r⟩ := x
    exact ⟨ho _ d, z, ne, k _ _ (.inl rfl) e, mA, ⟨od, es, ep, k _ _ (.inr d) e2, c⟩, r⟩
  | own y => obtain ⟨ob, e⟩ := x; exact ⟨ob, k _ _ (.inl rfl) e⟩
  | xd fs => obtain ⟨mA, ⟨od, es, ep, e, c⟩, r⟩ := x; exact ⟨mA, ⟨od, es, ep, k _ _ (.inl rfl) e, c⟩, r⟩
  | rng lo hi => obtain ⟨t, u, v, e⟩ := x; exact ⟨t, u, v, k _ _ (.inl rfl) e⟩
  | frz ob u ih => obtain ⟨e, q⟩ := x; exact ⟨k _ _ (.inl rfl) e, ih q⟩
  | tbl ps =>
    have e : h.get? a = some { cls := .none, data := .fields ps } := x
    show h'.get? a = some { cls := .none, data := .fields ps }
    exact k a _ (.inl rfl) e
  | met f y =>
    have e : h.get? a = some (PySem.W.methodObj (.ref f) (.ref y)) := x
    show h'.get? a = some (PySem.W.methodObj (.ref f) (.ref y))
    exact k a _ (.inl rfl) e
  | ext φ => obtain ⟨p, ⟨o, e⟩, st⟩ := x; exact ⟨st _ _ p fun o q => k _ _ (.inl rfl) q, ⟨o, k _ _ (.inl rfl) e⟩, st⟩
theorem HOk.lt (x : HOk P w H h) (e : H a = some o) : a < h.objs.size := (x a o e).lt
theorem HOk.fresh (x : HOk P w H h) (e : h.objs.size ≤ a) : H a = none := by
  cases q : H a with
  | none => rfl
  | some u => exact absurd (Nat.lt_of_lt_of_le (x.lt q) e) (Nat.lt_irrefl _)
/-- every object of the heap is kept -/
theorem HOk.kept (x : HOk P w H h) (k : ∀ b u, h.get? b = some u → h'.get? b = some u) : HOk P w H h' := fun a o e =>
  (x a o e).stay (fun b u _ q => k b u q) (fun _ q => q) fun _ _ q => q
/-- a new object is laid and tracked -/
theorem HOk.laid (x : HOk P w H h) (k : ∀ b u, h.get? b = some u → h'.get? b = some u) (hp : h.objs.size ≤ a) (new : ObjOk P w (upd H a o) h' a o) : HOk P w (upd H a o) h' := fun b u e => by
  have hn := x.fresh hp
  by_cases hb : b = a
  · subst hb; rw [upd_same] at e; cases e; exact new
  · rw [upd_ne hb] at e
    exact (x b u e).stay (fun c v _ q => k c v q) (fun c q => by rw [upd_ne (ne_of_none q hn)]; exact q) fun c xs q => by rw [upd_ne (ne_of_none q hn)]; exact q
end

/-- what may be read as u: it is u, or a known u -/
def Rd (H : Hp) (a : Addr) (u : HO) : Prop := H a = some u ∨ ∃ o, H a = some (.frz o u)
theorem Rd.ok {P : Program} {w : World} {H : Hp} {h : Heap} {a : Addr} {u : HO} (r : Rd H a u) (x : HOk P w H h) : ObjOk P w H h a u := by
  rcases r with r | ⟨o, r⟩
  · exact x a u r
  · obtain ⟨_, q⟩ := x a _ r
    exact q
/-- what may be written -/
def Mut : Option HO → Prop
  | some (.lst _) => True
  | some (.dK _) => True
  | some (.dT _) => True
  | some (.set _ _) => True
  | some (.ins _ _ _) => True
  | some (.ext _) => True
  | _ => False
section
variable {P : Program} {w : World} {H : Hp} {h h' : Heap} {x e : Addr} {o' : HO}
/-- the object at e is changed: x itself, or the dict of the instance x -/
theorem HOk.write (ok : HOk P w H h) (mu : Mut (H x)) (he : e = x ∨ H e = some (.own x)) (k : ∀ b u, b ≠ e → h.get? b = some u → h'.get? b = some u) (heo : ∃ u, h'.get? e = some u)
    (new : ObjOk P w (upd H x o') h' x o') : HOk P w (upd H x o') h' := fun b u q => by
  have nown : ∀ c y, H c = some (.own y) → c ≠ x := fun c y r z => by subst z; rw [r] at mu; exact mu
  have ntup : ∀ c xs, H c = some (.tup xs) → c ≠ x := fun c xs r z => by subst z; rw [r] at mu; exact mu
  by_cases hb : b = x
  · subst hb; rw [upd_same] at q; cases q; exact new
  · rw [upd_ne hb] at q
    by_cases hbe : b = e
    · have q' : H b = some (.own x) := by
        rcases he with z | z
        · exact absurd (hbe.trans z) hb
        · rw [hbe]; exact z
      rw [q] at q'; cases q'
      obtain ⟨v, hv⟩ := heo
      exact ⟨v, by rw [hbe]; exact hv⟩
    · refine (ok b u q).stay (fun c v hc r => k c v ?_ r) (fun c r => by rw [upd_ne (nown c b r)]; exact r) fun c xs r => by rw [upd_ne (ntup c xs r)]; exact r
      rcases hc with rfl | hc
      · exact hbe
      · rintro rfl
        rcases he with z | z
        · exact nown c b hc z
        · rw [hc] at z; cases z; exact hb rfl
end

/-! ### kept unless tracked; of the frames at fs (the callers') the slots may change (an exception that passes writes there); of the records at ex (iterators) nothing is said -/
structure Un (fs ex : List Addr) (H H' : Hp) (h h' : Heap) : Prop where
  keep : ∀ b o, h.get? b = some o → H b = none → b ∉ fs → b ∉ ex → h'.get? b = some o
  slot : ∀ b o, h.get? b = some o → H b = none → b ∈ fs → b ∉ ex → ∃ sl, h'.get? b = some { o with slots := sl }
  free : ∀ b o, h.get? b = some o → H b = none → b ∉ ex → H' b = none
  there : ∀ b o, h.get? b = some o → b ∉ ex → ∃ o', h'.get? b = some o'
  tups : ∀ b xs, H b = some (.tup xs) → H' b = some (.tup xs)
  frzs : ∀ b o u, H b = some (.frz o u) → H' b = some (.frz o u)
  tbls : ∀ b ps, H b = some (.tbl ps) → ∃ more, H' b = some (.tbl (ps ++ more))
section
variable {fs fs' ex ex' : List Addr} {H H1 H2 : Hp} {h h1 h2 h' : Heap} {a x e : Addr} {o : HO}
theorem Un.any (u : Un fs ex H H1 h h1) {b : Addr} {ob : Obj} (q : h.get? b = some ob) (n : H b = none) (hx : b ∉ ex) : ∃ sl, h1.get? b = some { ob with slots := sl } := by
  by_cases hb : b ∈ fs
  · exact u.slot b ob q n hb hx
  · exact ⟨ob.slots, u.keep b ob q n hb hx⟩
theorem Un.kept (k : ∀ b u, h.get? b = some u → h'.get? b = some u) : Un fs ex H H h h' :=
  ⟨fun b ob q _ _ _ => k b ob q, fun b ob q _ _ _ => ⟨ob.slots, k b ob q⟩, fun _ _ _ n _ => n, fun b ob q _ => ⟨ob, k b ob q⟩, fun _ _ q => q, fun _ _ _ q => q, fun _ ps q => ⟨#[], by rw [q]; simp⟩⟩
theorem Un.refl : Un fs ex H H h h := Un.kept fun _ _ q => q
theorem Un.laid (k : ∀ b u, h.get? b = some u → h'.get? b = some u) (hp : h.objs.size ≤ a) (hn : H a = none) : Un fs ex H (upd H a o) h h' where
  keep := fun b u q _ _ _ => k b u q
  slot := fun b u q _ _ _ => ⟨u.slots, k b u q⟩
  free := fun b u q n _ => by rw [upd_ne (Nat.ne_of_lt (Nat.lt_of_lt_of_le (Heap.lt_size q) hp))]; exact n
  there := fun b u q _ => ⟨u, k b u q⟩
  tups := fun b xs q => by rw [upd_ne (ne_of_none q hn)]; exact q
  frzs := fun b u xs q => by rw [upd_ne (ne_of_none q hn)]; exact q
  tbls := fun b ps q => ⟨#[], by rw [upd_ne (ne_of_none q hn), q]; simp⟩
theorem Un.write (mu : Mut (H x)) (he : e = x ∨ H e = some (.own x)) (k : ∀ b u, b ≠ e → h.get? b = some u → h'.get? b = some u) (heo : ∃ u, h'.get? e = some u) : Un fs ex H (upd H x o) h h' := by
  have hx : ∀ b, H b = none → b ≠ x := fun b n z => by subst z; rw [n] at mu; exact mu
  have hb : ∀ b, H b = none → b ≠ e := fun b n z => by
    subst z
    rcases he with r | r
    · exact hx b n r
    · rw [n] at r; cases r
  have hm : ∀ b u, H b = some u → ¬ Mut (some u) → b ≠ x := fun b u q nm z => by subst z; rw [q] at mu; exact nm mu
  refine ⟨fun b u q n _ _ => k b u (hb b n) q, fun b u q n _ _ => ⟨u.slots, k b u (hb b n) q⟩, fun b u q n _ => by rw [upd_ne (hx b n)]; exact n, fun b u q _ => ?_,
    fun b xs q => by rw [upd_ne (hm b _ q fun z => z)]; exact q, fun b u xs q => by rw [upd_ne (hm b _ q fun z => z)]; exact q, fun b ps q => ⟨#[], by rw [upd_ne (hm b _ q fun z => z), q]; simp⟩⟩
  by_cases hbe : b = e
  · subst hbe; exact heo
  · exact ⟨u, k b u hbe q⟩
end

/-! ### the heap without what is tracked -/
def trk (h : Heap) (H : Hp) : List Addr := (List.range h.objs.size).filter fun a => (H a).isSome
def hidT (h : Heap) (H : Hp) : Heap := PySem.W.hideAll h (trk h H)
theorem hidT_size (h : Heap) (H : Hp) : (hidT h H).objs.size = h.objs.size := PySem.W.hideAll_size _ _
theorem hidT_get {h : Heap} {H : Hp} {b : Addr} {o : Obj} (e : h.get? b = some o) (n : H b = none) : (hidT h H).get? b = some o :=
  PySem.W.hideAll_get _ e fun hm => by
    have q : (H b).isSome = true := (List.mem_filter.mp hm).2
    rw [n] at q; simp at q
theorem of_hidT {h : Heap} {H : Hp} {b : Addr} {o : Obj} (e : (hidT h H).get? b = some o) : h.get? b = some o ∧ H b = none := by
  have e' : h.get? b = some o := PySem.W.of_hideAll (trk h H) e
  refine ⟨e', ?_⟩
  cases q : H b with
  | none => rfl
  | some x =>
    have hm : b ∈ trk h H := List.mem_filter.mpr ⟨List.mem_range.mpr (Heap.lt_size e'), by simp [q]⟩
    have z : (hidT h H).get? b = none := PySem.W.hideAll_none (trk h H) hm
    rw [z] at e; cases e

/-! ### OpenK's ledger, filled with every new object but one -/
def allNews (g h : Heap) (L : Addr) : List (Addr × Obj) := (List.range h.objs.size).filterMap fun a => if a = L ∨ (g.get? a).isSome = true then none else (h.get? a).map fun o => (a, o)
def rest (g h : Heap) (L d : Addr) : List (Addr × Obj) := (allNews g h L).filter fun p => decide (p.1 ≠ d)
end L2

namespace L2
open PySem PySem.Spec PyProof.Rows

/-- the module's facts, over the base: the heap at the law's entry without what is tracked there -/
structure Mod (K : PySem.W.Frag) (mg : Str → Option Value) (base : Heap) : Prop where
  kin : K.In base
  glob : base.Ns mainGlobals mg
  blt : ∃ mb, base.Ns builtinsNs mb ∧ ∀ x : Str, x ≠ "__name__" → mb x = bootBuiltins x
  nolimit : base.NoLimit

/-- the context: a def's body (or a comprehension's block) running. base: fixed through the whole law; s₀, H₀: the entry; outer: the frames whose slots others may change (a def's callers); stack: all frames that run;
   ex: iterators that were made ahead of the entry and are walked here (a comprehension's); fn: the names whose cells were made at the entry (a def: all; a comprehension's block: its own); calm: not within an except suite; pn: pins that every state bears; xe: what is wanted of an exception that leaves the code -/
structure Cx where
  prog : Program
  w : World
  K : PySem.W.Frag
  mg : Str → Option Value
  base : Heap
  A : Around
  N : List Str
  s₀ : Shared
  H₀ : Hp
  env : Env
  outer : List Env
  stack : List Env
  ex : List Addr
  fn : Str → Bool
  calm : Bool
  pn : List (Addr × Obj)
  xe : Value → Shared → Prop
/-- the callers' frames -/
def frs (l : List Env) : List Addr := l.filterMap (·.frame)
abbrev Cx.fs (X : Cx) : List Addr := frs X.outer

def Vis (sc : Scope) (x : Str) : Prop := sc.names.lookup x = some .local ∨ sc.names.lookup x = some .cell ∨ sc.names.lookup x = some .free
def Loc (sc : Scope) (x : Str) : Prop := sc.names.lookup x = some .local ∨ sc.names.lookup x = some .cell
def Look (env : Env) (h : Heap) (m : Str → Option Value) (x : Str) (u : Value) : Prop :=
  (env.kindOf x = some .local ∧ m x = some u) ∨ ((env.kindOf x = some .cell ∨ env.kindOf x = some .free) ∧ ∃ c, env.cells.lookup x = some c ∧ h.IsCell c (some u))

structure Cx.Ok (X : Cx) : Prop where
  mod : Mod X.K X.mg X.base
  kind : X.env.scope.kind = .function
  glob : X.env.globals = mainGlobals
  blt : X.env.builtins = builtinsNs
  above : X.s₀.heap.objs.size ≤ X.env.locals
  inj : ∀ x y c, X.env.cells.lookup x = some c → X.env.cells.lookup y = some c → x = y
  has : ∀ x, (X.env.kindOf x = some .cell ∨ X.env.kindOf x = some .free) → ∃ c, X.env.cells.lookup x = some c
  cab : ∀ x c, X.fn x = true → X.env.cells.lookup x = some c → X.s₀.heap.objs.size ≤ c
  hd : X.calm = true → X.A.handled = none
  frames : X.A.frames = some X.stack
  stk : X.stack = X.outer ∨ (X.stack = X.env :: X.outer ∧ X.env.frame = some X.env.locals)
  exf : ∀ b ∈ X.ex, b ≠ X.env.locals ∧ ∀ x c, X.env.cells.lookup x = some c → c ≠ b
  bs : ∀ b o, X.base.get? b = some o → X.s₀.heap.get? b = some o ∧ X.H₀ b = none
  bsz : X.base.objs.size ≤ X.s₀.heap.objs.size
  noex : ∀ b o, X.base.get? b = some o → b ∉ X.ex
  exfs : ∀ b ∈ X.ex, b ∉ X.fs
  funs : X.s₀.heap.FunFrames X.base X.outer
  frf : ∀ b ∈ X.fs, X.H₀ b = none

structure Inv (X : Cx) (pins : List (Addr × Obj)) (σ : List (Option V)) (H : Hp) (s : Shared) : Prop where
  ok : X.Ok
  os : s.os = X.s₀.os
  bare : AllBare s.gens
  base : Un X.fs X.ex X.H₀ H X.s₀.heap s.heap
  loc : ∃ m, s.heap.Ns X.env.locals m ∧ ∀ (i : Nat) (x : Str) (v : V), X.N[i]? = some x → σ[i]? = some (some v) → Vis X.env.scope x → ∃ u, RelV v u ∧ Look X.env s.heap m x u
  cell : ∀ x c, X.env.cells.lookup x = some c → ∃ v, s.heap.IsCell c v
  free : H X.env.locals = none
  freeC : ∀ x c, X.env.cells.lookup x = some c → H c = none
  pin : ∀ p ∈ X.pn ++ pins, s.heap.get? p.1 = some p.2 ∧ H p.1 = none ∧ p.1 ≠ X.env.locals ∧ p.1 ∉ X.fs ∧ ∀ v, p.2.data ≠ .cell v
  hok : HOk X.prog X.w H s.heap
  len : σ.length = X.N.length

section
variable {X : Cx} {pins : List (Addr × Obj)} {σ : List (Option V)} {H H' : Hp} {s : Shared} {h' : Heap}

theorem Cx.Ok.nofr (ok : X.Ok) {b : Addr} {o : Obj} (e : X.base.get? b = some o) : b ∉ X.fs := fun hb => by
  have := (ok.funs.mem hb).1
  rw [e] at this; cases this
theorem Inv.bs (I : Inv X pins σ H s) : ∀ b o, X.base.get? b = some o → s.heap.get? b = some o ∧ H b = none := fun b o e =>
  ⟨I.base.keep b o (I.ok.bs b o e).1 (I.ok.bs b o e).2 (I.ok.nofr e) (I.ok.noex b o e), I.base.free b o (I.ok.bs b o e).1 (I.ok.bs b o e).2 (I.ok.noex b o e)⟩
theorem Inv.bk (I : Inv X pins σ H s) : ∀ b o, X.base.get? b = some o → s.heap.get? b = some o := fun b o e => (I.bs b o e).1
theorem Inv.mod (I : Inv X pins σ H s) : Mod X.K X.mg X.base := I.ok.mod
theorem Inv.kIn (I : Inv X pins σ H s) : X.K.In s.heap := I.ok.mod.kin.keeps I.bk
theorem Inv.lt (I : Inv X pins σ H s) : X.env.locals < s.heap.objs.size := let ⟨_, hn, _⟩ := I.loc; hn.lt
theorem Inv.sz (I : Inv X pins σ H s) : X.s₀.heap.objs.size ≤ s.heap.objs.size := Nat.le_trans I.ok.above (Nat.le_of_lt I.lt)
theorem Inv.nofs (I : Inv X pins σ H s) {a : Addr} (h : s.heap.objs.size ≤ a) : a ∉ X.fs := fun hb => by
  obtain ⟨_, o, ho, _⟩ := I.ok.funs.mem hb
  exact absurd (Nat.lt_of_lt_of_le (Heap.lt_size ho) (Nat.le_trans I.sz h)) (Nat.lt_irrefl _)
theorem Inv.cne (I : Inv X pins σ H s) : ∀ x c, X.env.cells.lookup x = some c → c ≠ X.env.locals := fun x c e z => by
  obtain ⟨v, o, ho, hd⟩ := I.cell x c e
  obtain ⟨m, ⟨o', es, ep, ho', hd', _⟩, _⟩ := I.loc
  rw [z, ho'] at ho; cases ho; rw [hd'] at hd; cases hd
theorem Inv.funs (I : Inv X pins σ H s) : s.heap.FunFrames X.base X.outer := by
  have all : ∀ (l : List Env), (∀ b ∈ frs l, b ∈ X.fs) → X.s₀.heap.FunFrames X.base l → s.heap.FunFrames X.base l := by
    intro l
    induction l with
    | nil => intro _ _; trivial
    | cons env r ih =>
      intro hs hl
      obtain ⟨hk, ⟨L, o, hf, hn, ho, hd⟩, hr⟩ := hl
      have hL : L ∈ X.fs := hs L (by unfold frs; rw [List.filterMap_cons, hf]; exact List.mem_cons_self)
      obtain ⟨sl, e⟩ := I.base.slot L o ho (I.ok.frf L hL) hL fun z => I.ok.exfs L z hL
      exact ⟨hk, ⟨L, _, hf, hn, e, hd⟩, ih (fun b hb => hs b (by unfold frs; rw [List.filterMap_cons, hf]; exact List.mem_cons_of_mem _ hb)) hr⟩
  exact all X.outer (fun _ hb => hb) I.ok.funs

/-- the frames that run, for a call -/
theorem Inv.stack (I : Inv X pins σ H s) : s.heap.FunFrames X.base X.stack := by
  rcases I.ok.stk with e | ⟨e, hf⟩
  · rw [e]; exact I.funs
  · rw [e]
    obtain ⟨m, hn, _⟩ := I.loc
    refine .cons (by rw [I.ok.kind]; decide) hf hn ?_ I.funs
    exact Heap.get?_none_of_le (Nat.le_trans I.ok.bsz I.ok.above)
theorem Inv.stkSub (I : Inv X pins σ H s) : ∀ b ∈ frs X.stack, b ∈ X.env.locals :: X.fs := fun b hb => by
  rcases I.ok.stk with e | ⟨e, hf⟩
  · rw [e] at hb; exact List.mem_cons_of_mem _ hb
  · rw [e] at hb
    unfold frs at hb
    rw [List.filterMap_cons, hf] at hb
    exact hb
theorem Inv.stkFree (I : Inv X pins σ H s) : ∀ b ∈ frs X.stack, H b = none := fun b hb => by
  rcases List.mem_cons.mp (I.stkSub b hb) with e | hb
  · rw [e]; exact I.free
  · obtain ⟨_, o, ho, _⟩ := I.ok.funs.mem hb
    exact I.base.free b o ho (I.ok.frf b hb) fun z => I.ok.exfs b z hb

/-- THE STEP: the untracked objects but the frame and the records at ch are kept (the callers' frames up to slots), the frame's map is kept, the new abstract heap is held -/
theorem Inv.step {g' : Array GenState} {t' : Nat} {d' : Drawn} {ch : List Addr} (I : Inv X pins σ H s)
    (hch : ∀ b ∈ ch, (b ∈ X.ex ∨ X.s₀.heap.objs.size ≤ b) ∧ b ≠ X.env.locals ∧ (∀ x c, X.env.cells.lookup x = some c → c ≠ b) ∧ ∀ p ∈ X.pn ++ pins, p.1 ≠ b)
    (keep : ∀ b o, b ≠ X.env.locals → b ∉ X.fs → b ∉ ch → s.heap.get? b = some o → H b = none → h'.get? b = some o)
    (slot : ∀ b o, b ≠ X.env.locals → b ∈ X.fs → b ∉ ch → s.heap.get? b = some o → H b = none → ∃ sl, h'.get? b = some { o with slots := sl }) (free : ∀ b o, b ∉ ch → s.heap.get? b = some o → H b = none → H' b = none)
    (there : ∀ b o, b ∉ ch → s.heap.get? b = some o → ∃ o', h'.get? b = some o')
    (tups : ∀ b xs, H b = some (.tup xs) → H' b = some (.tup xs)) (frzs : ∀ b o u, H b = some (.frz o u) → H' b = some (.frz o u)) (tbls : ∀ b ps, H b = some (.tbl ps) → ∃ more, H' b = some (.tbl (ps ++ more)))
    (ns : ∀ m, s.heap.Ns X.env.locals m → h'.Ns X.env.locals m) (hok : HOk X.prog X.w H' h') (hg : AllBare g') :
    Inv X pins σ H' { s with heap := h', gens := g', drawn := d', toks := t' } := by
  have neL : ∀ b o, X.s₀.heap.get? b = some o → b ≠ X.env.locals := fun b o e => Nat.ne_of_lt (Nat.lt_of_lt_of_le (Heap.lt_size e) I.ok.above)
  have neC : ∀ b o, X.s₀.heap.get? b = some o → b ∉ X.ex → b ∉ ch := fun b o e hx hb => by
    rcases (hch b hb).1 with z | z
    · exact hx z
    · exact absurd (Nat.lt_of_lt_of_le (Heap.lt_size e) z) (Nat.lt_irrefl _)
  have cellK : ∀ x c, X.env.cells.lookup x = some c → ∀ v, s.heap.IsCell c v → h'.IsCell c v := fun x c e v ⟨o, ho, hd⟩ => by
    have nch : c ∉ ch := fun z => (hch c z).2.2.1 x c e rfl
    by_cases hc : c ∈ X.fs
    · obtain ⟨sl, q⟩ := slot c o (I.cne x c e) hc nch ho (I.freeC x c e)
      exact ⟨_, q, hd⟩
    · exact ⟨o, keep c o (I.cne x c e) hc nch ho (I.freeC x c e), hd⟩
  refine ⟨I.ok, I.os, hg, ⟨fun b o e n hb hx => ?_, fun b o e n hb hx => ?_, fun b o e n hx => ?_, fun b o e hx => ?_, fun b xs e => tups b xs (I.base.tups b xs e), fun b o xs e => frzs b o xs (I.base.frzs b o xs e), fun b ps e => ?_⟩, ?_, fun x c e => ?_, ?_, fun x c e => ?_, fun p hp => ?_, hok, I.len⟩
  · exact keep b o (neL b o e) hb (neC b o e hx) (I.base.keep b o e n hb hx) (I.base.free b o e n hx)
  · obtain ⟨sl, e1⟩ := I.base.slot b o e n hb hx
    obtain ⟨sl', e2⟩ := slot b _ (neL b o e) hb (neC b o e hx) e1 (I.base.free b o e n hx)
    exact ⟨sl', e2⟩
  · obtain ⟨o', e1⟩ := I.base.there b o e hx
    exact free b o' (neC b o e hx) e1 (I.base.free b o e n hx)
  · obtain ⟨o', e1⟩ := I.base.there b o e hx
    exact there b o' (neC b o e hx) e1
  · obtain ⟨m1, e1⟩ := I.base.tbls b ps e
    obtain ⟨m2, e2⟩ := tbls b _ e1
    exact ⟨m1 ++ m2, by rw [e2, Array.append_assoc]⟩
  · obtain ⟨m, hn, hl⟩ := I.loc
    refine ⟨m, ns m hn, fun i x v e1 e2 e3 => ?_⟩
    obtain ⟨u, r, l⟩ := hl i x v e1 e2 e3
    refine ⟨u, r, ?_⟩
    rcases l with l | ⟨k, c, e, z⟩
    · exact .inl l
    · exact .inr ⟨k, c, e, cellK x c e _ z⟩
  · obtain ⟨v, z⟩ := I.cell x c e
    exact ⟨v, cellK x c e v z⟩
  · obtain ⟨m, ⟨o, _, _, ho, _⟩, _⟩ := I.loc
    exact free _ o (fun z => (hch _ z).2.1 rfl) ho I.free
  · obtain ⟨v, o, ho, hd⟩ := I.cell x c e
    exact free c o (fun z => (hch c z).2.2.1 x c e rfl) ho (I.freeC x c e)
  · obtain ⟨e, n, ne, nf, d⟩ := I.pin p hp
    have nch : p.1 ∉ ch := fun z => (hch p.1 z).2.2.2 p hp rfl
    exact ⟨keep p.1 p.2 ne nf nch e n, free p.1 p.2 nch e n, ne, nf, d⟩
/-- .. where the frame's own object is kept too -/
theorem Inv.un {t' : Nat} (I : Inv X pins σ H s) (u : Un X.fs [] H H' s.heap h') (hok : HOk X.prog X.w H' h') : Inv X pins σ H' { s with heap := h', toks := t' } := by
  obtain ⟨m, ⟨o, es, ep, ho, r⟩, _⟩ := id I.loc
  obtain ⟨sl, hL⟩ := u.any ho I.free (by simp)
  exact I.step (g' := s.gens) (d' := s.drawn) (ch := []) (fun _ z => nomatch z) (fun b o _ hb _ e n => u.keep b o e n hb (by simp)) (fun b o _ hb _ e n => u.slot b o e n hb (by simp)) (fun b o _ e n => u.free b o e n (by simp)) (fun b o _ e => u.there b o e (by simp)) u.tups u.frzs u.tbls (fun m' hm => by
    obtain ⟨o', es', ep', ho', r'⟩ := hm
    rw [ho] at ho'; cases ho'
    exact ⟨_, es', ep', hL, r'⟩) hok I.bare
/-- behind a call (or a comprehension's block): the slots of this frame may have changed too, the records at ch may have turned -/
theorem Inv.call {g' : Array GenState} {t' : Nat} {d' : Drawn} {ch : List Addr} (I : Inv X pins σ H s) (u : Un (frs X.stack) ch H H' s.heap h') (hok : HOk X.prog X.w H' h') (hg : AllBare g')
    (hch : ∀ b ∈ ch, (b ∈ X.ex ∨ X.s₀.heap.objs.size ≤ b) ∧ b ≠ X.env.locals ∧ (∀ x c, X.env.cells.lookup x = some c → c ≠ b) ∧ ∀ p ∈ X.pn ++ pins, p.1 ≠ b) :
    Inv X pins σ H' { s with heap := h', gens := g', drawn := d', toks := t' } := by
  obtain ⟨m, ⟨o, es, ep, ho, r⟩, _⟩ := id I.loc
  obtain ⟨sl, hL⟩ := u.any ho I.free fun z => (hch _ z).2.1 rfl
  exact I.step (ch := ch) hch (fun b o hL hb hc e n => u.keep b o e n (fun z => (List.mem_cons.mp (I.stkSub b z)).elim hL hb) hc) (fun b o _ _ hc e n => u.any e n hc) (fun b o hc e n => u.free b o e n hc) (fun b o hc e => u.there b o e hc) u.tups u.frzs u.tbls (fun m' hm => by
    obtain ⟨o', es', ep', ho', r'⟩ := hm
    rw [ho] at ho'; cases ho'
    exact ⟨_, es', ep', hL, r'⟩) hok hg
/-- an untracked record of ours (an iterator) has turned -/
theorem Inv.turned {t' : Nat} {it : Addr} (I : Inv X pins σ H s) (k : ∀ b o, b ≠ it → s.heap.get? b = some o → h'.get? b = some o) (hn : H it = none) (hL : it ≠ X.env.locals)
    (h1 : it ∈ X.ex ∨ X.s₀.heap.objs.size ≤ it) (h2 : ∀ x c, X.env.cells.lookup x = some c → c ≠ it) (h3 : ∀ p ∈ X.pn ++ pins, p.1 ≠ it) : Inv X pins σ H { s with heap := h', toks := t' } := by
  have nit : ∀ b u, H b = some u → b ≠ it := fun b u e z => by rw [z, hn] at e; cases e
  refine I.step (g' := s.gens) (d' := s.drawn) (ch := [it]) (fun b hb => ?_) (fun b o _ _ hc e _ => k b o (fun z => hc (by simp [z])) e) (fun b o _ _ hc e _ => ⟨o.slots, k b o (fun z => hc (by simp [z])) e⟩) (fun _ _ _ _ n => n)
    (fun b o hc e => ⟨o, k b o (fun z => hc (by simp [z])) e⟩) (fun _ _ e => e) (fun _ _ _ e => e) (fun b ps e => ⟨#[], by rw [e]; simp⟩) (fun m hm => ?_) (fun b u e => ?_) I.bare
  · have e : b = it := by simpa using hb
    subst e
    exact ⟨h1, hL, h2, h3⟩
  · obtain ⟨o, es, ep, ho, r⟩ := hm
    exact ⟨o, es, ep, k _ o (Ne.symm hL) ho, r⟩
  · refine (I.hok b u e).stay (fun c v hc q => k c v ?_ q) (fun _ q => q) fun _ _ q => q
    rcases hc with z | z
    · rw [z]; exact nit b u e
    · exact nit c _ z
theorem Inv.tok (I : Inv X pins σ H s) (t : Nat) : Inv X pins σ H { s with toks := t } := I.un (h' := s.heap) (t' := t) Un.refl I.hok
/-- all objects kept -/
theorem Inv.kept {t' : Nat} (I : Inv X pins σ H s) (k : ∀ b u, s.heap.get? b = some u → h'.get? b = some u) : Inv X pins σ H { s with heap := h', toks := t' } := I.un (Un.kept k) (I.hok.kept k)
/-- a new object laid and tracked -/
theorem Inv.laid {a : Addr} {o : HO} {t' : Nat} (I : Inv X pins σ H s) (k : ∀ b u, s.heap.get? b = some u → h'.get? b = some u) (hp : s.heap.objs.size ≤ a) (new : ObjOk X.prog X.w (upd H a o) h' a o) :
    Inv X pins σ (upd H a o) { s with heap := h', toks := t' } := I.un (Un.laid k hp (I.hok.fresh hp)) (I.hok.laid k hp new)
/-- an object written -/
theorem Inv.write {x e : Addr} {o : HO} {t' : Nat} (I : Inv X pins σ H s) (mu : Mut (H x)) (he : e = x ∨ H e = some (.own x)) (k : ∀ b u, b ≠ e → s.heap.get? b = some u → h'.get? b = some u) (heo : ∃ u, h'.get? e = some u)
    (new : ObjOk X.prog X.w (upd H x o) h' x o) : Inv X pins σ (upd H x o) { s with heap := h', toks := t' } := I.un (Un.write mu he k heo) (I.hok.write mu he k heo new)
theorem Inv.pins_of {pins' : List (Addr × Obj)} (I : Inv X pins σ H s) (h : ∀ p ∈ pins', s.heap.get? p.1 = some p.2 ∧ H p.1 = none ∧ p.1 ≠ X.env.locals ∧ p.1 ∉ X.fs ∧ ∀ v, p.2.data ≠ .cell v) : Inv X pins' σ H s :=
  ⟨I.ok, I.os, I.bare, I.base, I.loc, I.cell, I.free, I.freeC, fun p hp => (List.mem_append.mp hp).elim (fun z => I.pin p (List.mem_append_left _ z)) (h p), I.hok, I.len⟩

theorem nodup_ix {N : List Str} (hN : N.Nodup) {i j : Nat} {x : Str} (a : N[i]? = some x) (b : N[j]? = some x) : i = j := by
  obtain ⟨h1, e1⟩ := List.getElem?_eq_some_iff.mp a
  obtain ⟨h2, e2⟩ := List.getElem?_eq_some_iff.mp b
  exact (List.getElem_inj hN).mp (e1.trans e2.symm)

/-- a name is stored; what changed -/
theorem store_ok2 {M : Model} {A : Around} {E : Value → Shared → Prop} {i : Nat} {x : Str} {v : V} {u : Value} {Q : Unit → Shared → Prop} (I : Inv X pins σ H s) (hN : X.N.Nodup) (hi : X.N[i]? = some x) (hx : Loc X.env.scope x) (r : RelV v u)
    (h : ∀ s', Inv X pins (σ.set i (some v)) H s' → (∃ a, Heap.SameBut a s.heap s'.heap ∧ (a = X.env.locals ∨ X.env.cells.lookup x = some a)) → Q () s') (hf : X.fn x = true ∨ X.env.scope.names.lookup x = some .local := by first | exact .inl rfl | exact .inr rfl | assumption) : wpAny M A (storeName X.env x u) Q E s := by
  obtain ⟨m, hn, hl⟩ := id I.loc
  have hcls : (X.env.scope.kind == .class || (X.env.scope.kind == .module && X.env.locals != X.env.globals)) = false := by rw [I.ok.kind]; rfl
  have hiσ : i < σ.length := by rw [I.len]; exact (List.getElem?_eq_some_iff.mp hi).1
  have cne := I.cne
  have tracked : ∀ {a : Addr} {h' : Heap}, (∃ o, s.heap.get? a = some o ∧ H a = none) → Heap.SameBut a s.heap h' → HOk X.prog X.w H h' := fun {a h'} ha hs b ob e => by
    obtain ⟨_, _, hfree⟩ := ha
    refine (I.hok b ob e).stay (fun c w' hc q => (hs.2 c ?_).trans q) (fun _ q => q) fun _ _ q => q
    rintro rfl
    rcases hc with rfl | hc
    · rw [hfree] at e; cases e
    · rw [hfree] at hc; cases hc
  rcases hx with hk | hk
  · refine wpAny_storeName_local hk hn (fun h' hn' hs => ?_) hcls
    obtain ⟨oL, _, _, hoL, _⟩ := id hn
    refine h _ ⟨I.ok, I.os, I.bare, ⟨fun b o e n hb hx => ?_, fun b o e n hb hx => ?_, I.base.free, fun b o e hx => ?_, I.base.tups, I.base.frzs, I.base.tbls⟩, ⟨_, hn', fun j y v' e1 e2 e3 => ?_⟩, fun y c e => ?_, I.free, I.freeC, fun p hp => ?_, tracked ⟨oL, hoL, I.free⟩ hs, by simpa using I.len⟩ ⟨_, hs, .inl rfl⟩
    · exact (hs.2 b (Nat.ne_of_lt (Nat.lt_of_lt_of_le (Heap.lt_size e) I.ok.above))).trans (I.base.keep b o e n hb hx)
    · obtain ⟨sl, e1⟩ := I.base.slot b o e n hb hx
      exact ⟨sl, (hs.2 b (Nat.ne_of_lt (Nat.lt_of_lt_of_le (Heap.lt_size e) I.ok.above))).trans e1⟩
    · obtain ⟨o', e1⟩ := I.base.there b o e hx
      exact ⟨o', (hs.2 b (Nat.ne_of_lt (Nat.lt_of_lt_of_le (Heap.lt_size e) I.ok.above))).trans e1⟩
    · by_cases hj : j = i
      · subst hj
        rw [hi] at e1; cases e1
        rw [List.getElem?_set_self hiσ] at e2
        cases e2
        exact ⟨u, r, .inl ⟨hk, by simp⟩⟩
      · rw [List.getElem?_set_ne (Ne.symm hj)] at e2
        obtain ⟨u', r', q⟩ := hl j y v' e1 e2 e3
        refine ⟨u', r', ?_⟩
        rcases q with ⟨k, e⟩ | ⟨k, c, e, z⟩
        · refine .inl ⟨k, ?_⟩
          have : y ≠ x := fun e => hj (nodup_ix hN e1 (e ▸ hi))
          simp [this, e]
        · exact .inr ⟨k, c, e, z.sameBut hs (cne y c e)⟩
    · obtain ⟨w', z⟩ := I.cell y c e
      exact ⟨w', z.sameBut hs (cne y c e)⟩
    · obtain ⟨e, n, ne, nf, d⟩ := I.pin p hp
      exact ⟨(hs.2 p.1 ne).trans e, n, ne, nf, d⟩
  · have hfn : X.fn x = true := by
      rcases hf with z | z
      · exact z
      · rw [z] at hk; cases hk
    obtain ⟨c, hc⟩ := I.ok.has x (.inl hk)
    obtain ⟨w', z⟩ := I.cell x c hc
    refine wpAny_storeName_cell I.ok.kind hk hc z (fun h' hc' hs => ?_)
    obtain ⟨oc, hoc, hocd⟩ := id z
    refine h { s with heap := h' } ⟨I.ok, I.os, I.bare, ⟨fun b o e n hb hx => ?_, fun b o e n hb hx => ?_, I.base.free, fun b o e hx => ?_, I.base.tups, I.base.frzs, I.base.tbls⟩, ⟨m, hn.sameBut hs (Ne.symm (cne x c hc)), fun j y v' e1 e2 e3 => ?_⟩, fun y c' e => ?_, I.free, I.freeC, fun p hp => ?_, tracked ⟨oc, hoc, I.freeC x c hc⟩ hs, by simpa using I.len⟩ ⟨c, hs, .inr hc⟩
    · exact (hs.2 b (Nat.ne_of_lt (Nat.lt_of_lt_of_le (Heap.lt_size e) (I.ok.cab x c hfn hc)))).trans (I.base.keep b o e n hb hx)
    · obtain ⟨sl, e1⟩ := I.base.slot b o e n hb hx
      exact ⟨sl, (hs.2 b (Nat.ne_of_lt (Nat.lt_of_lt_of_le (Heap.lt_size e) (I.ok.cab x c hfn hc)))).trans e1⟩
    · obtain ⟨o', e1⟩ := I.base.there b o e hx
      exact ⟨o', (hs.2 b (Nat.ne_of_lt (Nat.lt_of_lt_of_le (Heap.lt_size e) (I.ok.cab x c hfn hc)))).trans e1⟩
    · by_cases hj : j = i
      · subst hj
        rw [hi] at e1; cases e1
        rw [List.getElem?_set_self hiσ] at e2
        cases e2
        exact ⟨u, r, .inr ⟨.inl hk, c, hc, hc'⟩⟩
      · rw [List.getElem?_set_ne (Ne.symm hj)] at e2
        obtain ⟨u', r', q⟩ := hl j y v' e1 e2 e3
        refine ⟨u', r', ?_⟩
        rcases q with q | ⟨k, c', e, z'⟩
        · exact .inl q
        · refine .inr ⟨k, c', e, z'.sameBut hs ?_⟩
          rintro rfl
          exact hj (nodup_ix hN e1 (I.ok.inj _ _ _ e hc ▸ hi))
    · by_cases hcc : c' = c
      · subst hcc; exact ⟨_, hc'⟩
      · obtain ⟨w2, z2⟩ := I.cell y c' e
        exact ⟨w2, z2.sameBut hs hcc⟩
    · obtain ⟨e, n, ne, nf, d⟩ := I.pin p hp
      refine ⟨(hs.2 p.1 ?_).trans e, n, ne, nf, d⟩
      intro q
      rw [q, hoc] at e
      have q' : oc = p.2 := Option.some.inj e
      exact d w' (by rw [← q']; exact hocd)
theorem store_ok {M : Model} {A : Around} {E : Value → Shared → Prop} {i : Nat} {x : Str} {v : V} {u : Value} {Q : Unit → Shared → Prop} (I : Inv X pins σ H s) (hN : X.N.Nodup) (hi : X.N[i]? = some x) (hx : Loc X.env.scope x) (r : RelV v u)
    (h : ∀ s', Inv X pins (σ.set i (some v)) H s' → Q () s') (hf : X.fn x = true ∨ X.env.scope.names.lookup x = some .local := by first | exact .inl rfl | exact .inr rfl | assumption) : wpAny M A (storeName X.env x u) Q E s :=
  store_ok2 I hN hi hx r (fun s' I' _ => h s' I') hf
/-- behind a call or a block, the state as it is -/
theorem Inv.call' {s' : Shared} {ch : List Addr} (I : Inv X pins σ H s) (ho : s'.os = s.os) (u : Un (frs X.stack) ch H H' s.heap s'.heap) (hok : HOk X.prog X.w H' s'.heap) (hg : AllBare s'.gens)
    (hch : ∀ b ∈ ch, (b ∈ X.ex ∨ X.s₀.heap.objs.size ≤ b) ∧ b ≠ X.env.locals ∧ (∀ x c, X.env.cells.lookup x = some c → c ≠ b) ∧ ∀ p ∈ X.pn ++ pins, p.1 ≠ b) : Inv X pins σ H' s' := by
  obtain ⟨h', g', d', t', o'⟩ := s'
  have e : o' = s.os := ho
  subst e
  exact I.call (g' := g') (t' := t') (d' := d') u hok hg hch
end

/-! ### the judgements -/
/-- an exception: its class, its own dict's address (where it has one), the abstract heap behind it -/
abbrev XK := Value → Option Addr → Hp → Prop
abbrev St := List (Option V)
abbrev VK := V → Hp → Prop
/-- an expression's reading; a test's; an argument list's -/
abbrev TE := St → Hp → VK → Prop
abbrev TT := St → Hp → (Bool → Hp → Prop) → Prop
abbrev TA := St → Hp → (List V → Hp → Prop) → Prop
/-- what is wanted behind a statement -/
structure Ends where
  nx : St → Hp → Prop
  rt : VK
  bk : St → Hp → Prop := fun _ _ => False
  ct : St → Hp → Prop := fun _ _ => False
abbrev TS := Ends → St → Hp → Prop

def EP (X : Cx) (pins : List (Addr × Obj)) (σ : St) (Q : VK) (u : Value) (s' : Shared) : Prop := ∃ v H', Inv X pins σ H' s' ∧ RelV v u ∧ Q v H'
def TP (X : Cx) (pins : List (Addr × Obj)) (σ : St) (Q : Bool → Hp → Prop) (b : Bool) (s' : Shared) : Prop := ∃ H', Inv X pins σ H' s' ∧ Q b H'
def AP (X : Cx) (pins : List (Addr × Obj)) (σ : St) (Q : List V → Hp → Prop) (us : List Value) (s' : Shared) : Prop := ∃ vs H', Inv X pins σ H' s' ∧ Vals vs us ∧ Q vs H'
def SP (X : Cx) (pins : List (Addr × Obj)) (D : Ends) (f : Flow) (s' : Shared) : Prop :=
  match f with
  | .next => ∃ σ' H', Inv X pins σ' H' s' ∧ D.nx σ' H'
  | .brk => ∃ σ' H', Inv X pins σ' H' s' ∧ D.bk σ' H'
  | .cont => ∃ σ' H', Inv X pins σ' H' s' ∧ D.ct σ' H'
  | .ret u => ∃ v σ' H', Inv X pins σ' H' s' ∧ RelV v u ∧ D.rt v H'

def PE (X : Cx) (e : Expr) (t : TE) : Prop :=
  ∀ (pins : List (Addr × Obj)) (s : Shared) (σ : St) (H : Hp) (Q : VK), Inv X pins σ H s → t σ H Q → wpAny (model X.prog X.w) X.A (eval e X.env) (EP X pins σ Q) X.xe s
def PT (X : Cx) (e : Expr) (t : TT) : Prop :=
  ∀ (pins : List (Addr × Obj)) (s : Shared) (σ : St) (H : Hp) (Q : Bool → Hp → Prop), Inv X pins σ H s → t σ H Q → wpAny (model X.prog X.w) X.A (isTrue e X.env (eval e X.env)) (TP X pins σ Q) X.xe s
/-- a test whatever its 'whole' is (and, or) -/
def PW (X : Cx) (e : Expr) (t : TT) : Prop :=
  ∀ (whole : Sem Value) (pins : List (Addr × Obj)) (s : Shared) (σ : St) (H : Hp) (Q : Bool → Hp → Prop), Inv X pins σ H s → t σ H Q → wpAny (model X.prog X.w) X.A (isTrue e X.env whole) (TP X pins σ Q) X.xe s
theorem PW.pt {X : Cx} {e : Expr} {t : TT} (h : PW X e t) : PT X e t := h _
/-- an argument list (no star), from the left -/
def PA (X : Cx) (es : List Expr) (t : TA) : Prop :=
  ∀ (pos : Pos) (pins : List (Addr × Obj)) (s : Shared) (σ : St) (H : Hp) (Q : List V → Hp → Prop), Inv X pins σ H s → t σ H Q → wpAny (model X.prog X.w) X.A (spliced (backTo pos (starEach es X.env))) (AP X pins σ Q) X.xe s
def PS (X : Cx) (st : Stmt) (t : TS) : Prop :=
  ∀ (pins : List (Addr × Obj)) (s : Shared) (σ : St) (H : Hp) (D : Ends), Inv X pins σ H s → t D σ H → wpAny (model X.prog X.w) X.A (exec st X.env) (SP X pins D) X.xe s
def PSs (X : Cx) (st : List Stmt) (t : TS) : Prop :=
  ∀ (pins : List (Addr × Obj)) (s : Shared) (σ : St) (H : Hp) (D : Ends), Inv X pins σ H s → t D σ H → wpAny (model X.prog X.w) X.A (execs st X.env) (SP X pins D) X.xe s
/-- weaken the end -/
theorem thn {α : Type} {t : Sem α} {Q Q' : α → Shared → Prop} {M : Model} {A : Around} {E : Value → Shared → Prop} {s : Shared} (h : wpAny M A t Q E s) (hQ : ∀ a s, Q a s → Q' a s) : wpAny M A t Q' E s := wpAny_mono h hQ fun _ _ x => x
end L2

namespace L2
open PySem PySem.Spec PyProof.Rows
section
variable {X : Cx}

/-- two expressions in a row -/
theorem bin {a b : Expr} {ta tb : TE} (ha : PE X a ta) (hb : PE X b tb) {pins : List (Addr × Obj)} {s : Shared} {σ : St} {H : Hp} {R : V → V → Hp → Prop} (I : Inv X pins σ H s) (h : ta σ H fun x H1 => tb σ H1 fun y H2 => R x y H2)
    {α : Type} {Q : α → Shared → Prop} {f : Value → Value → Sem α}
    (hf : ∀ v u s2 x y H2, Inv X pins σ H2 s2 → RelV x v → RelV y u → R x y H2 → wpAny (model X.prog X.w) X.A (f v u) Q X.xe s2) :
    wpAny (model X.prog X.w) X.A (eval a X.env) (fun v s₁ => wpAny (model X.prog X.w) X.A (eval b X.env) (fun u s₂ => wpAny (model X.prog X.w) X.A (f v u) Q X.xe s₂) X.xe s₁) X.xe s := by
  refine thn (ha pins s σ H _ I h) fun v s1 ⟨x, H1, I1, r1, q1⟩ => ?_
  refine thn (hb pins s1 σ H1 _ I1 q1) fun u s2 ⟨y, H2, I2, r2, q2⟩ => ?_
  exact hf v u s2 x y H2 I2 r1 r2 q2

/-! ### names and constants -/
def tVar (i : Nat) : TE := fun σ H Q => ∃ v, σ[i]? = some (some v) ∧ Q v H
def tC (v : V) : TE := fun _ H Q => Q v H
theorem pe_var {i : Nat} {x : Str} {pos : Pos} (hN : X.N[i]? = some x) (hv : Vis X.env.scope x) (hd : (x == ("__debug__" : Str)) = false := by decide) (hcd : (x == ("__classdict__" : Str)) = false := by decide) : PE X (.Name x pos) (tVar i) := by
  intro pins s σ H Q I h
  obtain ⟨v, e, h⟩ := h
  obtain ⟨m, hn, hl⟩ := I.loc
  obtain ⟨u, r, l⟩ := hl i x v hN e hv
  have fin : EP X pins σ Q u s := ⟨v, H, I, r, h⟩
  rcases l with ⟨hk, hm⟩ | ⟨hk, c, hc, hcell⟩
  · exact wpAny_Name (wpAny_loadName_local I.ok.kind hk hn hm fin) hd
  · rcases hk with hk | hk
    · exact wpAny_Name (wpAny_loadName_cell I.ok.kind hk hc hcell fin) hd
    · exact wpAny_Name (wpAny_loadName_free I.ok.kind hk hc hcell fin hcd) hd
theorem pe_int {i j pos} : PE X (.Constant (.int i) j pos) (tC (.int i)) := fun _ _ _ H _ I h => wpAny_Constant_int ⟨.int i, H, I.tok _, ⟨_, rfl⟩, h⟩
theorem pe_bl {b j pos} : PE X (.Constant (.bool b) j pos) (tC (.bl b)) := fun _ _ _ H _ I h => Constant_bool ⟨.bl b, H, I, rfl, h⟩
theorem pe_non {j pos} : PE X (.Constant .none j pos) (tC .non) := fun _ _ _ H _ I h => Constant_none ⟨.non, H, I, rfl, h⟩
theorem pe_str {x j pos} : PE X (.Constant (.str x) j pos) (tC (.str x)) := fun _ _ _ H _ I h => Calls.Constant_str ⟨.str x, H, I.tok _, ⟨_, rfl⟩, h⟩

/-- a global name of the def -/
def Gl (X : Cx) (x : Str) : Prop := X.env.kindOf x = some .globalImplicit
theorem ld_glob {E : Value → Shared → Prop} {pins : List (Addr × Obj)} {s : Shared} {σ : St} {H : Hp} {x : Str} {u : Value} {pos : Pos} {Q : Value → Shared → Prop} (I : Inv X pins σ H s) (hg : Gl X x) (hm : X.mg x = some u) (h : Q u s)
    (hd : (x == ("__debug__" : Str)) = false := by decide) : wpAny (model X.prog X.w) X.A (eval (.Name x pos) X.env) Q E s :=
  Calls.Name_function_global I.ok.kind hg (Calls.loadGlobal_global (by rw [I.ok.glob]; exact I.mod.glob.keeps I.bk) hm h) hd
theorem ld_blt {E : Value → Shared → Prop} {pins : List (Addr × Obj)} {s : Shared} {σ : St} {H : Hp} {x : Str} {u : Value} {pos : Pos} {Q : Value → Shared → Prop} (I : Inv X pins σ H s) (hg : Gl X x) (hm : X.mg x = none) (hv : bootBuiltins x = some u) (h : Q u s)
    (hn : x ≠ "__name__" := by decide) (hd : (x == ("__debug__" : Str)) = false := by decide) : wpAny (model X.prog X.w) X.A (eval (.Name x pos) X.env) Q E s := by
  obtain ⟨mb, h1, h2⟩ := I.mod.blt
  exact Calls.Name_function_global I.ok.kind hg (Calls.loadGlobal_builtin (by rw [I.ok.glob]; exact I.mod.glob.keeps I.bk) hm (by rw [I.ok.blt]; exact h1.keeps I.bk) ((h2 x hn).trans hv) h) hd
/-- a module's constant, a class, a function, as a value -/
theorem pe_glob {x : Str} {v : V} {u : Value} {pos : Pos} (hg : Gl X x) (hm : X.mg x = some u) (r : RelV v u) (hd : (x == ("__debug__" : Str)) = false := by decide) : PE X (.Name x pos) (tC v) :=
  fun _ _ _ H _ I h => ld_glob I hg hm ⟨v, H, I, r, h⟩ hd
theorem pe_bltn {x : Str} {v : V} {u : Value} {pos : Pos} (hg : Gl X x) (hm : X.mg x = none) (hv : bootBuiltins x = some u) (r : RelV v u) (hn : x ≠ "__name__" := by decide) (hd : (x == ("__debug__" : Str)) = false := by decide) : PE X (.Name x pos) (tC v) :=
  fun _ _ _ H _ I h => ld_blt I hg hm hv ⟨v, H, I, r, h⟩ hn hd

/-! ### arithmetic -/
/-- two ints -/
def t2I (ta tb : TE) (k : Int → Int → Hp → Prop) : St → Hp → Prop := fun σ H => ta σ H fun x H1 => tb σ H1 fun y H2 => ∃ i j, x = .int i ∧ y = .int j ∧ k i j H2
def tAdd (ta tb : TE) : TE := fun σ H Q => t2I ta tb (fun i j H2 => Q (.int (i + j)) H2) σ H
def tSub (ta tb : TE) : TE := fun σ H Q => t2I ta tb (fun i j H2 => Q (.int (i - j)) H2) σ H
/-- the left factor below 2^64 -/
def tMul (ta tb : TE) : TE := fun σ H Q => t2I ta tb (fun i j H2 => (-(2 ^ 64) < i ∧ i < 2 ^ 64) ∧ Q (.int (i * j)) H2) σ H
variable {a b : Expr} {ta tb : TE} {pos : Pos}

/-! ### comparisons -/
def PC (X : Cx) (op : CmpOp) (a b : Expr) (t : TE) : Prop :=
  ∀ (pins : List (Addr × Obj)) (s : Shared) (σ : St) (H : Hp) (Q : VK), Inv X pins σ H s → t σ H Q →
    wpAny (model X.prog X.w) X.A (eval a X.env) (fun v s₁ => wpAny (model X.prog X.w) X.A (eval b X.env) (fun u s₂ => wpAny (model X.prog X.w) X.A (compareOp op v u) (EP X pins σ Q) X.xe s₂) X.xe s₁) X.xe s
def tCmp (p : Int → Int → Bool) (ta tb : TE) : TE := fun σ H Q => t2I ta tb (fun i j H2 => Q (.bl (p i j)) H2) σ H
abbrev tLt : TE → TE → TE := tCmp fun i j => decide (i < j)
abbrev tLe : TE → TE → TE := tCmp fun i j => decide (i ≤ j)
abbrev tGt : TE → TE → TE := tCmp fun i j => decide (j < i)
abbrev tGe : TE → TE → TE := tCmp fun i j => decide (j ≤ i)
abbrev tEqI : TE → TE → TE := tCmp fun i j => decide (i = j)
abbrev tNeI : TE → TE → TE := tCmp fun i j => !decide (i = j)
/-- is None -/
def tIsN (ta : TE) : TE := fun σ H Q => ta σ H fun x H1 => Q (.bl (decide (x = .non))) H1
def tNotN (ta : TE) : TE := fun σ H Q => ta σ H fun x H1 => Q (.bl (!decide (x = .non))) H1
/-- a comparison as a value, as a test -/
def tB (t : TE) : TT := fun σ H Q => t σ H fun x H1 => ∃ c, x = .bl c ∧ Q c H1
theorem pt_cmp {op : CmpOp} {t : TE} (h : PC X op a b t) (h1 : behindInMarks op b = false := by first | exact nobehind _ (by decide) (by decide) | rfl) : PT X (.Compare a [op] [b] pos) (tB t) := by
  intro pins s σ H Q I hw
  refine wpAny_isTrue_Compare1 (thn (h pins s σ H _ I hw) fun v s1 h1 => thn h1 fun u s2 h2 => thn h2 fun c s3 ⟨x, H1, I1, r1, q1⟩ => ?_) h1
  obtain ⟨d, rfl, q⟩ := q1
  cases r1
  exact wpAny_truthy_bool ⟨H1, I1, q⟩
/-- an expression whose value is a bool, as a test -/
theorem pt_val {e : Expr} {t : TE} (h : PE X e t) (he : ∀ whole, isTrue e X.env whole = (do let v ← whole; standAt e.pos; holding [v] (truthy v)) := by intro _; rfl) : PT X e (tB t) := by
  intro pins s σ H Q I hw
  refine isTrue_plain (thn (h pins s σ H _ I hw) fun v s1 ⟨x, H1, I1, r1, q1⟩ => ?_) (he _)
  obtain ⟨d, rfl, q⟩ := q1
  cases r1
  exact wpAny_truthy_bool ⟨H1, I1, q⟩

/-! ### and, or, not -/
variable {tA tB' : TT} {rest : List Expr}
def tAnd (t u : TT) : TT := fun σ H Q => t σ H fun c H1 => if c = true then u σ H1 Q else Q false H1
def tOr (t u : TT) : TT := fun σ H Q => t σ H fun c H1 => if c = true then Q true H1 else u σ H1 Q
def tNot (t : TT) : TT := fun σ H Q => t σ H fun c H1 => Q (!c) H1
theorem pw_and1 (ha : PT X a tA) : PW X (.BoolOp .And [a] pos) tA := by
  intro wh pins s σ H Q I h
  refine isTrue_and (thn (ha pins s σ H Q I h) fun c s1 e => ?_)
  cases c with
  | true => exact isTrue_and_nil e
  | false => exact e
theorem pw_or1 (ha : PT X a tA) : PW X (.BoolOp .Or [a] pos) tA := by
  intro wh pins s σ H Q I h
  refine isTrue_or (thn (ha pins s σ H Q I h) fun c s1 e => ?_)
  cases c with
  | false => exact isTrue_or_nil e
  | true => exact e
theorem pw_and (ha : PT X a tA) (hb : PW X (.BoolOp .And (b :: rest) pos) tB') : PW X (.BoolOp .And (a :: b :: rest) pos) (tAnd tA tB') := by
  intro wh pins s σ H Q I h
  refine isTrue_and (thn (ha pins s σ H _ I h) fun c s1 ⟨H1, I1, q1⟩ => ?_)
  cases c with
  | true => exact hb wh pins s1 σ H1 Q I1 q1
  | false => exact ⟨H1, I1, q1⟩
theorem pw_or (ha : PT X a tA) (hb : PW X (.BoolOp .Or (b :: rest) pos) tB') : PW X (.BoolOp .Or (a :: b :: rest) pos) (tOr tA tB') := by
  intro wh pins s σ H Q I h
  refine isTrue_or (thn (ha pins s σ H _ I h) fun c s1 ⟨H1, I1, q1⟩ => ?_)
  cases c with
  | true => exact ⟨H1, I1, q1⟩
  | false => exact hb wh pins s1 σ H1 Q I1 q1
theorem pt_not (ha : PT X a tA) : PT X (.UnaryOp .Not a pos) (tNot tA) := by
  intro pins s σ H Q I h
  exact isTrue_not (ha pins s σ H (fun c H1 => Q (!c) H1) I h)
/-- .. as values (bools) -/
def tAndV (ta tb : TE) : TE := fun σ H Q => ta σ H fun x H1 => ∃ c, x = .bl c ∧ if c = true then tb σ H1 Q else Q (.bl false) H1
def tOrV (ta tb : TE) : TE := fun σ H Q => ta σ H fun x H1 => ∃ c, x = .bl c ∧ if c = true then Q (.bl true) H1 else tb σ H1 Q
def tNotV (ta : TE) : TE := fun σ H Q => ta σ H fun x H1 => ∃ c, x = .bl c ∧ Q (.bl (!c)) H1
theorem pe_one {op} {t : TE} (h : PE X a t) : PE X (.BoolOp op [a] pos) t := fun pins s σ H Q I hw => BoolOp_one (h pins s σ H Q I hw)
theorem pe_and (ha : PE X a ta) (hb : PE X (.BoolOp .And (b :: rest) pos) tb) : PE X (.BoolOp .And (a :: b :: rest) pos) (tAndV ta tb) := by
  intro pins s σ H Q I h
  refine BoolOp_and (thn (ha pins s σ H _ I h) fun v s1 ⟨x, H1, I1, r1, q1⟩ => ?_)
  obtain ⟨c, rfl, q1⟩ := q1
  cases r1
  refine wpAny_truthy_bool ?_
  cases c with
  | true => exact hb pins s1 σ H1 Q I1 q1
  | false => exact ⟨.bl false, H1, I1, rfl, q1⟩
theorem pe_or (ha : PE X a ta) (hb : PE X (.BoolOp .Or (b :: rest) pos) tb) : PE X (.BoolOp .Or (a :: b :: rest) pos) (tOrV ta tb) := by
  intro pins s σ H Q I h
  refine BoolOp_or (thn (ha pins s σ H _ I h) fun v s1 ⟨x, H1, I1, r1, q1⟩ => ?_)
  obtain ⟨c, rfl, q1⟩ := q1
  cases r1
  refine wpAny_truthy_bool ?_
  cases c with
  | false => exact hb pins s1 σ H1 Q I1 q1
  | true => exact ⟨.bl true, H1, I1, rfl, q1⟩
theorem pe_not (ha : PE X a ta) : PE X (.UnaryOp .Not a pos) (tNotV ta) := by
  intro pins s σ H Q I h
  refine UnaryOp_ (thn (ha pins s σ H _ I h) fun v s1 ⟨x, H1, I1, r1, q1⟩ => ?_)
  obtain ⟨c, rfl, q1⟩ := q1
  cases r1
  exact not_of (wpAny_truthy_bool ⟨.bl (!c), H1, I1, rfl, q1⟩)
/-- a if t else b -/
def tIf (t : TT) (ta tb : TE) : TE := fun σ H Q => t σ H fun c H1 => if c = true then ta σ H1 Q else tb σ H1 Q
end
end L2

namespace L2
open PySem PySem.Spec PyProof.Rows

/-! ### a list, a tuple that is read: tracked, frozen, or an object of the module -/
def SqL (K : PySem.W.Frag) (H : Hp) (a : Addr) (xs : List V) : Prop :=
  Rd H a (.lst xs) ∨
    ∃ (o : Obj) (its : Array Value) (n : Nat), K.lookup a = some o ∧ o.cls = .type "list" ∧ o.dict = none ∧ o.data = .seq its n ∧ its.size ≤ sizeLine ∧ Vals xs its.toList
def SqT (K : PySem.W.Frag) (H : Hp) (a : Addr) (xs : List V) : Prop :=
  Rd H a (.tup xs) ∨
    ∃ (o : Obj) (its : Array Value) (n : Nat), K.lookup a = some o ∧ o.cls = .type "tuple" ∧ o.data = .seq its n ∧ its.size ≤ sizeLine ∧ Vals xs its.toList
def absV : Value → Option V
  | .none => some .non
  | .bool b => some (.bl b)
  | .int i _ => some (.int i)
  | .str x _ => some (.str x)
  | .bytes b _ => some (.byt b)
  | .float b _ => some (.flt b)
  | .ref a => some (.ref a)
  | .type n => some (.ty n)
  | _ => none
theorem RelV.abs {x : V} {u : Value} (r : RelV x u) : absV u = some x := by
  cases x with
  | non => cases r; rfl
  | bl _ => cases r; rfl
  | int _ => obtain ⟨t, rfl⟩ := r; rfl
  | str _ => obtain ⟨t, rfl⟩ := r; rfl
  | byt _ => obtain ⟨t, rfl⟩ := r; rfl
  | flt _ => obtain ⟨t, rfl⟩ := r; rfl
  | ref _ => cases r; rfl
  | ty _ => cases r; rfl
theorem RelV.inj {x y : V} {u : Value} (r : RelV x u) (q : RelV y u) : x = y := Option.some.inj (r.abs.symm.trans q.abs)
theorem Vals.inj : ∀ {xs ys : List V} {us : List Value}, Vals xs us → Vals ys us → xs = ys
  | _, _, _, .nil, .nil => rfl
  | _, _, _, .cons r t, .cons r' t' => by rw [r.inj r', Vals.inj t t']
section
variable {X : Cx} {pins : List (Addr × Obj)} {σ : St} {H : Hp} {s : Shared} {a : Addr} {xs ys : List V}
theorem SqL.of {K : PySem.W.Frag} (h : H a = some (.lst xs)) : SqL K H a xs := .inl (.inl h)
theorem SqT.of {K : PySem.W.Frag} (h : H a = some (.tup xs)) : SqT K H a xs := .inl (.inl h)
theorem Inv.list (I : Inv X pins σ H s) (h : SqL X.K H a xs) : ∃ its : List Value, Vals xs its ∧ PlainL s.heap a its.toArray ∧ xs.length ≤ sizeLine := by
  rcases h with h | ⟨o, its, n, hk, hc, hd, hs, hz, r⟩
  · obtain ⟨z, its, n, r, e⟩ := h.ok I.hok
    exact ⟨its, r, ⟨_, n, e, rfl, rfl, rfl⟩, z⟩
  · refine ⟨its.toList, r, ⟨o, n, I.kIn a o hk, hc, hd, by simpa using hs⟩, ?_⟩
    have e := r.length
    simp only [Array.length_toList] at e
    omega
theorem Inv.tuple (I : Inv X pins σ H s) (h : SqT X.K H a xs) : ∃ its : List Value, Vals xs its ∧ IsTup s.heap a its.toArray ∧ xs.length ≤ sizeLine := by
  rcases h with h | ⟨o, its, n, hk, hc, hs, hz, r⟩
  · obtain ⟨z, its, r, p⟩ := h.ok I.hok
    exact ⟨its, r, p, z⟩
  · refine ⟨its.toList, r, ⟨o, I.kIn a o hk, hc, n, by simpa using hs⟩, ?_⟩
    have e := r.length
    simp only [Array.length_toList] at e
    omega
theorem Inv.list_inj (I : Inv X pins σ H s) (h : SqL X.K H a xs) (h' : SqL X.K H a ys) : xs = ys := by
  obtain ⟨its, r, ⟨o, n, e, _, _, d⟩, _⟩ := I.list h
  obtain ⟨its', r', ⟨o', n', e', _, _, d'⟩, _⟩ := I.list h'
  rw [e] at e'; cases e'
  rw [d] at d'
  injection d' with d1 _
  have : its = its' := by simpa using congrArg Array.toList d1
  subst this
  exact r.inj r'
theorem Inv.tuple_inj (I : Inv X pins σ H s) (h : SqT X.K H a xs) (h' : SqT X.K H a ys) : xs = ys := by
  obtain ⟨its, r, ⟨o, e, _, n, d⟩, _⟩ := I.tuple h
  obtain ⟨its', r', ⟨o', e', _, n', d'⟩, _⟩ := I.tuple h'
  rw [e] at e'; cases e'
  rw [d] at d'
  injection d' with d1 _
  have : its = its' := by simpa using congrArg Array.toList d1
  subst this
  exact r.inj r'
end

/-! ### another wish about exceptions -/
abbrev Cx.wish (X : Cx) (E : Value → Shared → Prop) : Cx := { X with xe := E }
/-- no exception leaves -/
abbrev Cx.nox (X : Cx) : Cx := X.wish fun _ _ => False
theorem Cx.Ok.wish {X : Cx} (ok : X.Ok) (E : Value → Shared → Prop) : (X.wish E).Ok :=
  ⟨ok.mod, ok.kind, ok.glob, ok.blt, ok.above, ok.inj, ok.has, ok.cab, ok.hd, ok.frames, ok.stk, ok.exf, ok.bs, ok.bsz, ok.noex, ok.exfs, ok.funs, ok.frf⟩
theorem Cx.Ok.unwish {X : Cx} {E : Value → Shared → Prop} (ok : (X.wish E).Ok) : X.Ok :=
  ⟨ok.mod, ok.kind, ok.glob, ok.blt, ok.above, ok.inj, ok.has, ok.cab, ok.hd, ok.frames, ok.stk, ok.exf, ok.bs, ok.bsz, ok.noex, ok.exfs, ok.funs, ok.frf⟩
section
variable {X : Cx} {pins : List (Addr × Obj)} {σ : St} {H : Hp} {s : Shared} {E : Value → Shared → Prop}
theorem Inv.wish (I : Inv X pins σ H s) (E : Value → Shared → Prop) : Inv (X.wish E) pins σ H s := ⟨I.ok.wish E, I.os, I.bare, I.base, I.loc, I.cell, I.free, I.freeC, I.pin, I.hok, I.len⟩
theorem Inv.unwish (I : Inv (X.wish E) pins σ H s) : Inv X pins σ H s := ⟨I.ok.unwish, I.os, I.bare, I.base, I.loc, I.cell, I.free, I.freeC, I.pin, I.hok, I.len⟩
theorem SP.unwish {D : Ends} {f : Flow} {s' : Shared} (h : SP (X.wish E) pins D f s') : SP X pins D f s' := by
  cases f with
  | next => obtain ⟨σ', H', I, q⟩ := h; exact ⟨σ', H', I.unwish, q⟩
  | brk => obtain ⟨σ', H', I, q⟩ := h; exact ⟨σ', H', I.unwish, q⟩
  | cont => obtain ⟨σ', H', I, q⟩ := h; exact ⟨σ', H', I.unwish, q⟩
  | ret u => obtain ⟨v, σ', H', I, r, q⟩ := h; exact ⟨v, σ', H', I.unwish, r, q⟩
theorem PSs.nox {st : List Stmt} {t : TS} (h : PSs X.nox st t) : PSs X st t := fun pins s σ H D I hw =>
  wpAny_mono (h pins s σ H D (I.wish _) hw) (fun _ _ q => q.unwish) fun _ _ z => False.elim z
end

/-! ### blocks and small statements -/
section
variable {X : Cx} {st : Stmt} {rest : List Stmt} {t u : TS} {e : Expr} {te : TE} {pos : Pos}
def tNext : TS := fun D σ H => D.nx σ H
def tSeq (t u : TS) : TS := fun D σ H => t { D with nx := u D } σ H
theorem pss_nil : PSs X [] tNext := fun _ _ σ H _ I h => wpAny_execs_nil ⟨σ, H, I, h⟩
theorem pss_cons (h1 : PS X st t) (h2 : PSs X rest u) : PSs X (st :: rest) (tSeq t u) := by
  intro pins s σ H D I h
  refine wpAny_execs_cons (thn (h1 pins s σ H { D with nx := u D } I h) fun f s1 q => ?_)
  cases f with
  | next =>
    obtain ⟨σ', H', I', q⟩ := q
    exact h2 pins s1 σ' H' D I' q
  | ret v => exact q
  | brk => exact q
  | cont => exact q
theorem pss_one (h1 : PS X st t) : PSs X [st] t := by
  intro pins s σ H D I h
  refine wpAny_execs_cons (thn (h1 pins s σ H D I h) fun f s1 q => ?_)
  cases f with
  | next => exact wpAny_execs_nil q
  | ret v => exact q
  | brk => exact q
  | cont => exact q
def tBreak : TS := fun D σ H => D.bk σ H
def tCont : TS := fun D σ H => D.ct σ H
/-- in a def's body nothing is shown -/
theorem Inv.quiet {pins : List (Addr × Obj)} {σ : St} {H : Hp} {s : Shared} (I : Inv X pins σ H s) : interactive X.env = false := by simp [interactive, I.ok.kind]
/-- an expression whose value is dropped -/
def tDrop (te : TE) : TS := fun D σ H => te σ H fun _ H1 => D.nx σ H1
theorem ps_expr (he : PE X e te) (hs : swapsWith e none pos.line X.env = pure false := by rfl) : PS X (.Expr e pos) (tDrop te) := by
  intro pins s σ H D I h
  exact wpAny_Expr_any (thn (he pins s σ H _ I h) fun v s1 ⟨x, H1, I1, r1, q1⟩ => ⟨σ, H1, I1, q1⟩) I.quiet hs
def tRet (te : TE) : TS := fun D σ H => te σ H D.rt
theorem ps_ret (he : PE X e te) : PS X (.Return (some e) pos) (tRet te) := by
  intro pins s σ H D I h
  exact wpAny_Return_some (thn (he pins s σ H _ I h) fun v s1 ⟨x, H1, I1, r1, q1⟩ => ⟨x, σ, H1, I1, r1, q1⟩)
def tRetN : TS := fun D _ H => D.rt .non H
def tIfS (c : TT) (t u : TS) : TS := fun D σ H => c σ H fun b H1 => if b = true then t D σ H1 else u D σ H1
theorem ps_if {c : Expr} {a b : List Stmt} {tc : TT} (hc : PT X c tc) (ha : PSs X a t) (hb : PSs X b u) : PS X (.If c a b pos) (tIfS tc t u) := by
  intro pins s σ H D I h
  refine wpAny_If (thn (hc pins s σ H _ I h) fun d s1 ⟨H1, I1, q1⟩ => ?_)
  cases d with
  | true => exact ha pins s1 σ H1 D I1 q1
  | false => exact hb pins s1 σ H1 D I1 q1
/-- code that the proof never comes to -/
def tNever : TS := fun _ _ _ => False
end

/-! ### targets -/
abbrev TG := V → St → Hp → (St → Hp → Prop) → Prop
abbrev TGs := List V → St → Hp → (St → Hp → Prop) → Prop
def PG (X : Cx) (target : Expr) (t : TG) : Prop :=
  ∀ (pins : List (Addr × Obj)) (s : Shared) (σ : St) (H : Hp) (v : V) (u : Value) (Q : St → Hp → Prop), Inv X pins σ H s → RelV v u → t v σ H Q →
    wpAny (model X.prog X.w) X.A (assign target X.env u) (fun _ s' => ∃ σ' H', Inv X pins σ' H' s' ∧ Q σ' H') X.xe s
/-- several targets, one after another -/
def PGs (X : Cx) (ts : List Expr) (t : TGs) : Prop :=
  ∀ (pins : List (Addr × Obj)) (s : Shared) (σ : St) (H : Hp) (vs : List V) (us : List Value) (Q : St → Hp → Prop), Inv X pins σ H s → Vals vs us → t vs σ H Q →
    wpAny (model X.prog X.w) X.A (assignInOrder ((assignEach ts X.env).map (·.2)) us) (fun _ s' => ∃ σ' H', Inv X pins σ' H' s' ∧ Q σ' H') X.xe s
/-- o[i] = v, by values -/
abbrev TSet := V → V → V → Hp → (Hp → Prop) → Prop
def PSet (X : Cx) (t : TSet) : Prop :=
  ∀ (pins : List (Addr × Obj)) (s : Shared) (σ : St) (H : Hp) (o i v : V) (ov iv u : Value) (Q : Hp → Prop), Inv X pins σ H s → RelV o ov → RelV i iv → RelV v u → t o i v H Q →
    wpAny (model X.prog X.w) X.A (setItem ov iv u) (fun _ s' => ∃ H', Inv X pins σ H' s' ∧ Q H') X.xe s
/-- a op= b, by values -/
abbrev TIp := V → V → Hp → VK → Prop
def PIp (X : Cx) (op : Operator) (t : TIp) : Prop :=
  ∀ (pins : List (Addr × Obj)) (s : Shared) (σ : St) (H : Hp) (x y : V) (v u : Value) (Q : VK), Inv X pins σ H s → RelV x v → RelV y u → t x y H Q →
    wpAny (model X.prog X.w) X.A (inplaceOp op v u) (EP X pins σ Q) X.xe s
section
variable {X : Cx} {pos : Pos}
def gName (i : Nat) : TG := fun v σ H Q => Q (σ.set i (some v)) H
theorem pg_name {i : Nat} {x : Str} (hN : X.N.Nodup) (hi : X.N[i]? = some x) (hx : Loc X.env.scope x) (hf : X.fn x = true ∨ X.env.scope.names.lookup x = some .local := by first | exact .inl rfl | exact .inr rfl | assumption) : PG X (.Name x pos) (gName i) := by
  intro pins s σ H v u Q I r h
  exact wpAny_assign_Name (store_ok I hN hi hx r (fun s' I' => ⟨_, H, I', h⟩) hf)
def gNil : TGs := fun vs σ H Q => vs = [] ∧ Q σ H
def gCons (t : TG) (u : TGs) : TGs := fun vs σ H Q => ∃ v r, vs = v :: r ∧ t v σ H fun σ' H' => u r σ' H' Q
theorem pgs_nil : PGs X [] gNil := by
  intro pins s σ H vs us Q I r h
  obtain ⟨e, h⟩ := h
  subst e
  cases r
  exact assignInOrder_nil ⟨σ, H, I, h⟩
theorem pgs_cons {e : Expr} {es : List Expr} {t : TG} {u : TGs} (h1 : PG X e t) (h2 : PGs X es u)
    (hs : (assignEach (e :: es) X.env).map (·.2) = assign e X.env :: (assignEach es X.env).map (·.2) := by rfl) : PGs X (e :: es) (gCons t u) := by
  intro pins s σ H vs us Q I r h
  obtain ⟨v, vr, e1, h⟩ := h
  subst e1
  cases r with
  | cons r rr =>
    rw [hs]
    refine assignInOrder_cons (thn (h1 pins s σ H _ _ _ I r h) fun _ s1 ⟨σ1, H1, I1, q1⟩ => ?_)
    exact h2 pins s1 σ1 H1 _ _ Q I1 rr q1
/-- (a, b, ..) = a tuple of that length -/
def gTup (K : PySem.W.Frag) (n : Nat) (t : TGs) : TG := fun v σ H Q => ∃ a xs, v = .ref a ∧ SqT K H a xs ∧ xs.length = n ∧ t xs σ H Q
theorem pg_tup {es : List Expr} {k : Nat} {t : TGs} {n : Nat} (hc : X.calm = true) (h : PGs X es t)
    (hn : (assignEach es X.env).length = n := by rfl) (hst : (assignEach es X.env).findIdx? (·.1) = none := by rfl) : PG X (.Tuple es k pos) (gTup X.K n t) := by
  intro pins s σ H v u Q I r hw
  obtain ⟨a, xs, e1, hq, hl, hw⟩ := hw
  subst e1
  cases r
  obtain ⟨its, rv, ht, hz⟩ := I.tuple hq
  refine assign_Tuple_tuple (I.ok.hd hc) ht (by simp [hn, ← hl, rv.length]) hst fun h' hx => ?_
  have I1 : Inv X pins σ H { s with heap := h' } := I.kept (t' := s.toks) fun b o e => hx b o (Nat.ne_of_lt (Heap.lt_size e)) e
  exact h pins _ σ H xs _ Q I1 (by simpa using rv) hw
/-- o[i] = .. -/
def gSub (to ti : TE) (t : TSet) : TG := fun v σ H Q => to σ H fun o H1 => ti σ H1 fun i H2 => t o i v H2 fun H3 => Q σ H3
theorem pg_sub {o i : Expr} {to ti : TE} {t : TSet} (ho : PE X o to) (hi : PE X i ti) (hs : PSet X t)
    (ha : ∀ v, assign (.Subscript o i pos) X.env v = (do
      let ov ← holding [v] (eval o X.env)
      let iv ← holding [v, ov] (eval i X.env)
      standAt pos
      holding [v, ov, iv] (setItem ov iv v)
      release [v, ov, iv] []) := by intro _; rfl) : PG X (.Subscript o i pos) (gSub to ti t) := by
  intro pins s σ H v u Q I r h
  rw [ha]
  refine wpAny_bind (wpAny_holding (thn (ho pins s σ H _ I h) fun ov s1 ⟨x, H1, I1, r1, q1⟩ => ?_))
  refine wpAny_bind (wpAny_holding (thn (hi pins s1 σ H1 _ I1 q1) fun iv s2 ⟨y, H2, I2, r2, q2⟩ => ?_))
  refine wpAny_bind (wpAny_standAt (wpAny_bind (wpAny_holding (thn (hs pins s2 σ H2 x y v ov iv u _ I2 r1 r2 r q2) fun _ s3 ⟨H3, I3, q3⟩ => ?_))))
  exact wpAny_release ⟨σ, H3, I3, q3⟩
/-- target = value -/
def tAsg (te : TE) (g : TG) : TS := fun D σ H => te σ H fun x H1 => g x σ H1 D.nx
theorem ps_asg {tg e : Expr} {te : TE} {g : TG} (he : PE X e te) (hg : PG X tg g) (hs : swapsWithSole [tg] e pos.line X.env = pure false := by rfl) (hw : swappedStores [tg] e X.env = pure none := by rfl)
    (h1 : (assignEach [tg] X.env).map (·.2) = [assign tg X.env] := by rfl) : PS X (.Assign [tg] e pos) (tAsg te g) := by
  intro pins s σ H D I h
  refine wpAny_Assign_stores (thn (he pins s σ H _ I h) fun v s1 ⟨x, H1, I1, r1, q1⟩ => ?_) hs hw
  rw [h1]
  exact thn (hg pins s1 σ H1 x v _ I1 r1 q1) fun _ s2 q => q
/-- name = value -/
theorem ps_set {i : Nat} {x : Str} {e : Expr} {te : TE} {pos' : Pos} (hN : X.N.Nodup) (hi : X.N[i]? = some x) (hx : Loc X.env.scope x) (he : PE X e te) (hs : swapsWith e (some (.Name x pos')) pos.line X.env = pure false := by rfl) (hf : X.fn x = true ∨ X.env.scope.names.lookup x = some .local := by first | exact .inl rfl | exact .inr rfl | assumption) :
    PS X (.Assign [.Name x pos'] e pos) (tAsg te (gName i)) := by
  intro pins s σ H D I h
  refine wpAny_Assign_Name (thn (he pins s σ H _ I h) fun v s1 ⟨y, H1, I1, r1, q1⟩ => ?_) hs
  exact store_ok I1 hN hi hx r1 (fun s2 I2 => ⟨_, H1, I2, q1⟩) hf
/-- a, b = x, y with plain local names: stored from the right; the pair itself is not tracked (the opening rows as in PyProof/Rows/TupAssign.lean:23) -/
def tPar (i j : Nat) (ta : TA) : TS := fun D σ H => ta σ H fun vs H1 => ∃ v w, vs = [v, w] ∧ D.nx ((σ.set i (some v)).set j (some w)) H1
/-- name op= e -/
def tAug (i : Nat) (te : TE) (ti : TIp) : TS := fun D σ H => ∃ x, σ[i]? = some (some x) ∧ te σ H fun y H1 => ti x y H1 fun z H2 => D.nx (σ.set i (some z)) H2
/-- o[i] op= e -/
def tAugS (to ti te : TE) (tget : V → V → Hp → VK → Prop) (tip : TIp) (tset : TSet) : TS := fun D σ H => to σ H fun o H1 => ti σ H1 fun i H2 => tget o i H2 fun x H3 => te σ H3 fun y H4 => tip x y H4 fun z H5 => tset o i z H5 fun H6 => D.nx σ H6
/-- o[i], by values -/
def PGet (X : Cx) (t : V → V → Hp → VK → Prop) : Prop :=
  ∀ (pins : List (Addr × Obj)) (s : Shared) (σ : St) (H : Hp) (o i : V) (ov iv : Value) (Q : VK), Inv X pins σ H s → RelV o ov → RelV i iv → t o i H Q →
    wpAny (model X.prog X.w) X.A (getItem ov iv) (EP X pins σ Q) X.xe s
/-- ints -/
def ipI (f : Int → Int → Int) : TIp := fun x y H Q => ∃ i j, x = .int i ∧ y = .int j ∧ Q (.int (f i j)) H
end

/-! ### while -/
section
variable {X : Cx} {pos : Pos}
/-- the invariant W with its measure -/
def tWhile (c : TT) (tb : TS) : TS := fun D σ H => ∃ W : Nat → St → Hp → Prop, (∃ m, W m σ H) ∧ ∀ m σ H, W m σ H →
  c σ H fun b H1 => if b = true then ∃ N : St → Hp → Prop, (∀ σ' H', N σ' H' → ∃ m', m' < m ∧ W m' σ' H') ∧ tb { D with nx := N, ct := N, bk := D.nx } σ H1 else D.nx σ H1
end

/-! ### what a loop or a comprehension walks -/
/-- at turn i: it yields x (the heap may grow), or it stops -/
structure It where
  go : Nat → Hp → Prop
  yld : Nat → Hp → V → Hp → Prop
  stop : Nat → Hp → Prop
/-- the iterator's own objects may turn: they are not the frame's, not pinned, younger than the entry (or a comprehension's own) -/
def FpOk (X : Cx) (pins : List (Addr × Obj)) (H : Hp) (b : Addr) : Prop :=
  H b = none ∧ b ≠ X.env.locals ∧ b ∉ X.fs ∧ (b ∈ X.ex ∨ X.s₀.heap.objs.size ≤ b) ∧ (∀ x c, X.env.cells.lookup x = some c → c ≠ b) ∧ ∀ p ∈ X.pn ++ pins, p.1 ≠ b
theorem Inv.fpOk {X : Cx} {pins : List (Addr × Obj)} {σ : St} {H H' : Hp} {s : Shared} {b : Addr} (I : Inv X pins σ H s) (hb : s.heap.objs.size ≤ b) (hn : H' b = none) : FpOk X pins H' b := by
  refine ⟨hn, Nat.ne_of_gt (Nat.lt_of_lt_of_le I.lt hb), I.nofs hb, .inr (Nat.le_trans I.sz hb), fun x c e z => ?_, fun p hp z => ?_⟩
  · obtain ⟨v, q⟩ := I.cell x c e
    exact absurd (Nat.lt_of_lt_of_le q.lt (by rw [z]; exact hb)) (Nat.lt_irrefl _)
  · exact absurd (Nat.lt_of_lt_of_le (Heap.lt_size (I.pin p hp).1) (by rw [z]; exact hb)) (Nat.lt_irrefl _)
structure Turn (P : Program) (w : World) (K : PySem.W.Frag) (tg : Expr) (J : It) (fp : List Addr) (it : Addr) (tn : Nat → Heap → Prop) : Prop where
  mem : it ∈ fp
  obj : ∀ i h, tn i h → ∀ b ∈ fp, ∃ o, h.get? b = some o ∧ ∀ v, o.data ≠ .cell v
  keep : ∀ i h h', tn i h → (∀ b ∈ fp, ∀ o, h.get? b = some o → h'.get? b = some o) → tn i h'
  item : ∀ (X : Cx), X.prog = P → X.w = w → X.K = K → X.calm = true → ∀ (i : Nat) (pins : List (Addr × Obj)) (s : Shared) (σ : St) (H : Hp) (E : Value → Shared → Prop), Inv X pins σ H s → (∀ b ∈ fp, FpOk X pins H b) → tn i s.heap → J.go i H →
    wpAny (model P w) X.A (pyNext (.ref it)) (fun r s1 => ∃ u, r = some u ∧
      wpAny (model P w) X.A (letOwnedTupleGo tg (.ref it) u) (fun _ s2 => ∃ x H', Inv X pins σ H' s2 ∧ RelV x u ∧ J.yld i H x H' ∧ tn (i + 1) s2.heap ∧ ∀ b ∈ fp, H' b = none) E s1) E s
  done : ∀ (X : Cx), X.prog = P → X.w = w → X.K = K → X.calm = true → ∀ (i : Nat) (pins : List (Addr × Obj)) (s : Shared) (σ : St) (H : Hp) (E : Value → Shared → Prop), Inv X pins σ H s → (∀ b ∈ fp, FpOk X pins H b) → tn i s.heap → J.stop i H →
    wpAny (model P w) X.A (pyNext (.ref it)) (fun r s1 => r = none ∧ Inv X pins σ H s1) E s
  self : ∀ (A : Around) (i : Nat) (s : Shared) (Q : Value → Shared → Prop) (E : Value → Shared → Prop), tn i s.heap → Q (.ref it) s → wpAny (model P w) A (pyIter (.ref it)) Q E s
abbrev TI := St → Hp → (It → Hp → Prop) → Prop
/-- an iterator has come -/
def PIE (X : Cx) (pins : List (Addr × Obj)) (σ : St) (tg : Expr) (R : It → Hp → Prop) (itv : Value) (s2 : Shared) : Prop :=
  ∃ (it : Addr) (fp : List Addr) (tn : Nat → Heap → Prop) (J : It) (H' : Hp), itv = .ref it ∧ Inv X pins σ H' s2 ∧ Turn X.prog X.w X.K tg J fp it tn ∧ tn 0 s2.heap ∧ (∀ b ∈ fp, FpOk X pins H' b) ∧ R J H'
def PI (X : Cx) (tg iter : Expr) (wi : TI) : Prop :=
  ∀ (pins : List (Addr × Obj)) (s : Shared) (σ : St) (H : Hp) (R : It → Hp → Prop), Inv X pins σ H s → wi σ H R →
    wpAny (model X.prog X.w) X.A (eval iter X.env) (fun v s1 => wpAny (model X.prog X.w) X.A (pyIter v) (PIE X pins σ tg R) X.xe s1) X.xe s

/-- the step ahead of the store is nothing for an iterator that keeps no tuple -/
theorem go_of {M : Model} {A : Around} {E : Value → Shared → Prop} {s : Shared} {tg : Expr} {it : Addr} {u : Value} {o : Obj} {n : String} {vs : Array Value} {Q : Unit → Shared → Prop} (ho : s.heap.get? it = some o) (hc : o.cls = .type n) (hd : o.data = .fields vs)
    (hn : ["enumerate", "zip", "dict_itemiterator", "dict_reverseitemiterator", "odict_iterator", "itertools.zip_longest", "itertools.pairwise"].contains n = false) (hQ : Q () s) : wpAny M A (letOwnedTupleGo tg (.ref it) u) Q E s := by
  unfold letOwnedTupleGo
  cases tg <;> first
    | exact wpAny_pure hQ
    | (cases u <;> first
        | exact wpAny_pure hQ
        | (refine wpAny_bind (wpAny_load ho ?_)
           rw [hc, hd]
           show wpAny M A (if (["enumerate", "zip", "dict_itemiterator", "dict_reverseitemiterator", "odict_iterator", "itertools.zip_longest", "itertools.pairwise"].contains n && vs[0]? == some (rawInt _)) = true then _ else _) Q E s
           rw [if_neg (by intro h; rw [hn, Bool.false_and] at h; cases h)]
           exact wpAny_pure hQ))

/-- the list at a, as it stands at each turn (a loop may append to it) -/
def Itl (K : PySem.W.Frag) (a : Addr) : It :=
  ⟨fun i H => ∃ xs x, SqL K H a xs ∧ xs[i]? = some x, fun i H x H' => H' = H ∧ ∀ xs, SqL K H a xs → xs[i]? = some x, fun i H => ∃ xs, SqL K H a xs ∧ xs.length ≤ i⟩
def Itt (K : PySem.W.Frag) (a : Addr) : It :=
  ⟨fun i H => ∃ xs x, SqT K H a xs ∧ xs[i]? = some x, fun i H x H' => H' = H ∧ ∀ xs, SqT K H a xs → xs[i]? = some x, fun i H => ∃ xs, SqT K H a xs ∧ xs.length ≤ i⟩
/-- lo, lo + 1, .. (n of them) -/
def Itr (lo : Int) (n : Nat) : It := ⟨fun i _ => i < n, fun i H x H' => H' = H ∧ x = .int (lo + i), fun i _ => n ≤ i⟩
theorem turn_list {P : Program} {w : World} {K : PySem.W.Frag} {tg : Expr} (a it : Addr) : Turn P w K tg (Itl K a) [it] it (fun i h => h.IsListIter it a i) where
  mem := by simp
  obj := fun i h st b hb => by
    have e : b = it := by simpa using hb
    subst e
    obtain ⟨o, e, c, d⟩ := st
    exact ⟨o, e, fun v z => by rw [d] at z; cases z⟩
  keep := fun i h h' st k => st.at fun o e => k it (by simp) o e
  item := by
    intro X hP hw hK hc i pins s σ H E I hf st hg
    subst hP hw hK
    obtain ⟨xs, x, hq, hx⟩ := hg
    obtain ⟨its, rv, p, hz⟩ := I.list hq
    obtain ⟨u, hu, ru⟩ := rv.get hx
    obtain ⟨f0, f1, f2, f3, f4, f5⟩ := hf it (by simp)
    refine wpAny_pyNext_list_item st p.isList (x := u) (by simpa using hu) fun h' st' sb => ?_
    have I1 : Inv X pins σ H { s with heap := h' } := I.turned (t' := s.toks) (fun b o hb e => (sb.2 b hb).trans e) f0 f1 f3 f4 f5
    obtain ⟨o, e, c, d⟩ := id st'
    exact ⟨u, rfl, go_of (s := { s with heap := h' }) e c d (by decide) ⟨x, H, I1, ru, ⟨rfl, fun ys hy => by rw [I.list_inj hy hq]; exact hx⟩, st', fun b hb => (hf b hb).1⟩⟩
  done := by
    intro X hP hw hK hc i pins s σ H E I hf st hg
    subst hP hw hK
    obtain ⟨xs, hq, hx⟩ := hg
    obtain ⟨its, rv, p, hz⟩ := I.list hq
    obtain ⟨f0, f1, f2, f3, f4, f5⟩ := hf it (by simp)
    have hl := rv.length
    exact wpAny_pyNext_list_end (I.ok.hd hc) st p.isList (by simp; omega) fun h' eb => ⟨rfl, I.turned (t' := s.toks) (fun b o hb e => eb b o hb e) f0 f1 f3 f4 f5⟩
  self := fun _ _ _ _ _ st h => wpAny_pyIter_listiter st h
theorem turn_tuple {P : Program} {w : World} {K : PySem.W.Frag} {tg : Expr} (a it : Addr) : Turn P w K tg (Itt K a) [it] it (fun i h => h.IsTupleIter it a i) where
  mem := by simp
  obj := fun i h st b hb => by
    have e : b = it := by simpa using hb
    subst e
    obtain ⟨o, e, c, d⟩ := st
    exact ⟨o, e, fun v z => by rw [d] at z; cases z⟩
  keep := fun i h h' st k => st.at fun o e => k it (by simp) o e
  item := by
    intro X hP hw hK hc i pins s σ H E I hf st hg
    subst hP hw hK
    obtain ⟨xs, x, hq, hx⟩ := hg
    obtain ⟨its, rv, p, hz⟩ := I.tuple hq
    obtain ⟨u, hu, ru⟩ := rv.get hx
    obtain ⟨f0, f1, f2, f3, f4, f5⟩ := hf it (by simp)
    refine wpAny_pyNext_tuple_item st (show s.heap.IsTuple a its.toArray from p) (x := u) (by simpa using hu) fun h' st' sb => ?_
    have I1 : Inv X pins σ H { s with heap := h' } := I.turned (t' := s.toks) (fun b o hb e => (sb.2 b hb).trans e) f0 f1 f3 f4 f5
    obtain ⟨o, e, c, d⟩ := id st'
    exact ⟨u, rfl, go_of (s := { s with heap := h' }) e c d (by decide) ⟨x, H, I1, ru, ⟨rfl, fun ys hy => by rw [I.tuple_inj hy hq]; exact hx⟩, st', fun b hb => (hf b hb).1⟩⟩
  done := by
    intro X hP hw hK hc i pins s σ H E I hf st hg
    subst hP hw hK
    obtain ⟨xs, hq, hx⟩ := hg
    obtain ⟨its, rv, p, hz⟩ := I.tuple hq
    obtain ⟨f0, f1, f2, f3, f4, f5⟩ := hf it (by simp)
    have hl := rv.length
    exact wpAny_pyNext_tuple_end (I.ok.hd hc) st (show s.heap.IsTuple a its.toArray from p) (by simp; omega) fun h' eb => ⟨rfl, I.turned (t' := s.toks) (fun b o hb e => eb b o hb e) f0 f1 f3 f4 f5⟩
  self := fun _ _ _ _ _ st h => wpAny_pyIter_tupleiter st h
theorem turn_range {P : Program} {w : World} {K : PySem.W.Frag} {tg : Expr} (it : Addr) (lo : Int) (n : Nat) : Turn P w K tg (Itr lo n) [it] it (fun i h => IsRangeIter h it (lo + (i : Nat) * 1) ((n : Int) - (i : Nat)) 1) where
  mem := by simp
  obj := fun i h st b hb => by
    have e : b = it := by simpa using hb
    subst e
    exact ⟨_, st, fun v z => by
      have z' : Data.fields _ = Data.cell v := z
      cases z'⟩
  keep := fun i h h' st k => k it (by simp) _ st
  item := by
    intro X hP hw hK hc i pins s σ H E I hf st hg
    subst hP hw hK
    obtain ⟨f0, f1, f2, f3, f4, f5⟩ := hf it (by simp)
    have W := Walks.range (prog := X.prog) (w := X.w) (I.ok.hd hc) it lo 1 n
    refine W.item i s _ _ hg st fun v h' tk hv st' kk => ?_
    obtain ⟨t, rfl⟩ := hv
    have I1 : Inv X pins σ H { s with heap := h', toks := tk } := I.turned (fun b o hb e => kk b o (by simpa using hb) e) f0 f1 f3 f4 f5
    refine ⟨_, rfl, go_of (s := { s with heap := h', toks := tk }) (n := "range_iterator") st' rfl rfl (by decide) ⟨.int (lo + i), H, I1, ⟨t, ?_⟩, ⟨rfl, rfl⟩, st', fun b hb => (hf b hb).1⟩⟩
    rw [Int.mul_one]
  done := by
    intro X hP hw hK hc i pins s σ H E I hf st hg
    subst hP hw hK
    obtain ⟨f0, f1, f2, f3, f4, f5⟩ := hf it (by simp)
    exact wpAny_pyNext_range_end (I.ok.hd hc) st (by have : n ≤ i := hg; omega) fun h' eb => ⟨rfl, I.turned (t' := s.toks) (fun b o hb e => eb b o hb e) f0 f1 f3 f4 f5⟩
  self := fun _ _ _ _ _ st h => wpAny_pyIter_rangeiter st h
end L2

namespace L2
open PySem PySem.Spec PyProof.Rows
section
variable {X : Cx} {tg : Expr}
def iList (K : PySem.W.Frag) (tl : TE) : TI := fun σ H R => tl σ H fun x H1 => ∃ a, x = .ref a ∧ (∃ xs, SqL K H1 a xs) ∧ R (Itl K a) H1
def iTup (K : PySem.W.Frag) (tl : TE) : TI := fun σ H R => tl σ H fun x H1 => ∃ a, x = .ref a ∧ (∃ xs, SqT K H1 a xs) ∧ R (Itt K a) H1
theorem pi_list {l : Expr} {tl : TE} (hl : PE X l tl) : PI X tg l (iList X.K tl) := by
  intro pins s σ H R I h
  refine thn (hl pins s σ H _ I h) fun v s1 ⟨x, H1, I1, r1, q1⟩ => ?_
  obtain ⟨a, e, ⟨xs, hq⟩, q⟩ := q1
  subst e
  cases r1
  obtain ⟨its, rv, p, hz⟩ := I1.list hq
  refine wpAny_pyIter_list p.isList ?_
  refine ⟨s1.heap.objs.size, [s1.heap.objs.size], _, _, H1, rfl, I1.kept (t' := s1.toks) fun b o e => Heap.get?_push_of_some _ e, turn_list a _, ⟨_, Heap.get?_push_size _ rfl, rfl, rfl⟩, fun b hb => ?_, q⟩
  have e : b = s1.heap.objs.size := by simpa using hb
  subst e
  exact I1.fpOk (Nat.le_refl _) (I1.hok.fresh (Nat.le_refl _))
theorem pi_tup {l : Expr} {tl : TE} (hl : PE X l tl) : PI X tg l (iTup X.K tl) := by
  intro pins s σ H R I h
  refine thn (hl pins s σ H _ I h) fun v s1 ⟨x, H1, I1, r1, q1⟩ => ?_
  obtain ⟨a, e, ⟨xs, hq⟩, q⟩ := q1
  subst e
  cases r1
  obtain ⟨its, rv, p, hz⟩ := I1.tuple hq
  refine wpAny_pyIter_tuple (show s1.heap.IsTuple a its.toArray from p) ?_
  refine ⟨s1.heap.objs.size, [s1.heap.objs.size], _, _, H1, rfl, I1.kept (t' := s1.toks) fun b o e => Heap.get?_push_of_some _ e, turn_tuple a _, ⟨_, Heap.get?_push_size _ rfl, rfl, rfl⟩, fun b hb => ?_, q⟩
  have e : b = s1.heap.objs.size := by simpa using hb
  subst e
  exact I1.fpOk (Nat.le_refl _) (I1.hok.fresh (Nat.le_refl _))
/-- a range object just made, walked -/
theorem range_it {pins : List (Addr × Obj)} {σ : St} {H : Hp} {s : Shared} {R : It → Hp → Prop} {E : Value → Shared → Prop} {lo hi : Int} {t u v : Tok} {tk : Nat} (I : Inv X pins σ H s) (h1 : -(2 ^ 62) ≤ lo) (h2 : lo < 2 ^ 62) (h3 : -(2 ^ 62) ≤ hi) (h4 : hi < 2 ^ 62)
    (q : R (Itr lo (hi - lo).toNat) H) : wpAny (model X.prog X.w) X.A (pyIter (.ref s.heap.objs.size)) (PIE X pins σ tg R) E { s with heap := s.heap.push { cls := .type "range", data := .fields #[.int lo t, .int hi u, .int 1 v] }, toks := tk } := by
  refine wpAny_pyIter_range (IsRange.new ..) (small_one h1 h2 h3 h4) ?_
  have I1 : Inv X pins σ H { s with heap := s.heap.push { cls := .type "range", data := .fields #[.int lo t, .int hi u, .int 1 v] }, toks := tk } := I.kept fun b o e => Heap.get?_push_of_some _ e
  refine ⟨(s.heap.push { cls := .type "range", data := .fields #[.int lo t, .int hi u, .int 1 v] }).objs.size, [(s.heap.push { cls := .type "range", data := .fields #[.int lo t, .int hi u, .int 1 v] }).objs.size], _, _, H, rfl,
    I1.kept (t' := tk) fun b o e => Heap.get?_push_of_some _ e, turn_range _ lo (hi - lo).toNat, ?_, fun b hb => ?_, q⟩
  · have e1 : lo + ((0 : Nat) : Int) * 1 = lo := by simp
    have e2 : (((hi - lo).toNat : Nat) : Int) - ((0 : Nat) : Int) = Builtin.Range.rangeSize lo hi 1 := by rw [rangeSize_one]; split <;> omega
    show IsRangeIter _ _ (lo + ((0 : Nat) : Int) * 1) ((((hi - lo).toNat : Nat) : Int) - ((0 : Nat) : Int)) 1
    rw [e1, e2]
    exact Heap.get?_push_size _ rfl
  · have e : b = (s.heap.push { cls := .type "range", data := .fields #[.int lo t, .int hi u, .int 1 v] }).objs.size := by simpa using hb
    subst e
    exact I1.fpOk (Nat.le_refl _) (I1.hok.fresh (Nat.le_refl _))
def iRng1 (ta : TA) : TI := fun σ H R => ta σ H fun vs H1 => ∃ j : Int, vs = [.int j] ∧ -(2 ^ 62) ≤ j ∧ j < 2 ^ 62 ∧ R (Itr 0 j.toNat) H1
def iRng2 (ta : TA) : TI := fun σ H R => ta σ H fun vs H1 => ∃ i j : Int, vs = [.int i, .int j] ∧ (-(2 ^ 62) ≤ i ∧ i < 2 ^ 62 ∧ -(2 ^ 62) ≤ j ∧ j < 2 ^ 62) ∧ R (Itr i (j - i).toNat) H1
theorem pi_range1 {a : Expr} {ta : TA} {p pos : Pos} (hg : Gl X "range") (hm : X.mg "range" = none) (ha : PA X [a] ta) (hs : starEach [a] X.env = [(false, eval a X.env)] := by rfl) : PI X tg (.Call (.Name "range" p) [a] [] pos) (iRng1 ta) := by
  intro pins s σ H R I h
  refine Call_ (ld_blt I hg hm boot_range (PyProof.Rows.callWith_type1 (thn (ha pos pins s σ H _ I h) fun us s1 ⟨vs, H1, I1, r1, q1⟩ => ?_) hs rfl))
  obtain ⟨j, e, q1, q2, q⟩ := q1
  subst e
  cases r1 with
  | cons r rr =>
    cases rr
    obtain ⟨t, rfl⟩ := r
    exact call_range_1 (range_it I1 (by omega) (by omega) q1 q2 (by simpa using q))

/-! ### for -/
/-- W: the invariant by the turn and a measure; N: what the body is to reach -/
def tFor (wi : TI) (g : TG) (tb : TS) : TS := fun D σ H => wi σ H fun J H1 => ∃ W : Nat → Nat → St → Hp → Prop, (∃ m, W 0 m σ H1) ∧ ∀ i m σ H, W i m σ H →
  (J.stop i H ∧ D.nx σ H) ∨ (J.go i H ∧ ∃ N : St → Hp → Prop, (∀ σ' H', N σ' H' → ∃ m', m' < m ∧ W (i + 1) m' σ' H') ∧ ∀ x H', J.yld i H x H' → g x σ H' fun σ2 H2 => tb { D with nx := N, ct := N, bk := D.nx } σ2 H2)
/-- the records at fp as they stand -/
def pinsAt (fp : List Addr) (h : Heap) : List (Addr × Obj) := fp.filterMap fun b => (h.get? b).map fun o => (b, o)
theorem mem_pinsAt {fp : List Addr} {h : Heap} {b : Addr} {o : Obj} (hb : b ∈ fp) (e : h.get? b = some o) : (b, o) ∈ pinsAt fp h := List.mem_filterMap.mpr ⟨b, hb, by rw [e]; rfl⟩
theorem of_pinsAt {fp : List Addr} {h : Heap} {p : Addr × Obj} (hp : p ∈ pinsAt fp h) : p.1 ∈ fp ∧ h.get? p.1 = some p.2 := by
  obtain ⟨b, hb, e⟩ := List.mem_filterMap.mp hp
  cases q : h.get? b with
  | none => rw [q] at e; cases e
  | some o =>
    rw [q] at e
    have e' : (b, o) = p := Option.some.inj e
    subst e'
    exact ⟨hb, q⟩
theorem Inv.pinned {pins : List (Addr × Obj)} {σ : St} {H : Hp} {s : Shared} {fp : List Addr} (I : Inv X pins σ H s) (hf : ∀ b ∈ fp, FpOk X pins H b) (ho : ∀ b ∈ fp, ∃ o, s.heap.get? b = some o ∧ ∀ v, o.data ≠ .cell v) : Inv X (pins ++ pinsAt fp s.heap) σ H s :=
  I.pins_of fun p hp => (List.mem_append.mp hp).elim (fun z => I.pin p (List.mem_append_right _ z)) fun z => by
    obtain ⟨hb, e⟩ := of_pinsAt z
    obtain ⟨f0, f1, f2, _⟩ := hf p.1 hb
    obtain ⟨o, e', d⟩ := ho p.1 hb
    rw [e] at e'; cases e'
    exact ⟨e, f0, f1, f2, d⟩
theorem Inv.unpinned {pins pl : List (Addr × Obj)} {σ : St} {H : Hp} {s : Shared} (I : Inv X (pins ++ pl) σ H s) : Inv X pins σ H s := I.pins_of fun p hp => I.pin p (List.mem_append_right _ (List.mem_append_left _ hp))
theorem ps_for {iter : Expr} {body : List Stmt} {wi : TI} {g : TG} {tb : TS} {pos : Pos} (hp : PassesOwn (model X.prog X.w) X.A X.env X.xe) (hc : X.calm = true) (hi : PI X tg iter wi) (hg : PG X tg g) (hb : PSs X body tb)
    (hs : ∀ x, foldedSetIterable iter X.env x = pure x := by intro _; rfl) : PS X (.For tg iter body [] pos) (tFor wi g tb) := by
  intro pins s σ H D I h
  refine wpAny_For (thn (hi pins s σ H _ I h) fun v s1 h1 => thn h1 fun itv s2 h2 => ?_) hs
  obtain ⟨it, fp, tn, J, H2, e, I2, T, st2, f2, W, ⟨m0, w0⟩, turn⟩ := h2
  subst e
  -- what stays true of the iterator's objects through the loop
  have stat : ∀ {H' : Hp}, (∀ b ∈ fp, H' b = none) → ∀ b ∈ fp, FpOk X pins H' b := fun hn b hb => ⟨hn b hb, (f2 b hb).2⟩
  refine codeAny_forLoop_any (fun n s' => ∃ i σ' H', Inv X pins σ' H' s' ∧ tn i s'.heap ∧ (∀ b ∈ fp, H' b = none) ∧ W i n σ' H') ?_ m0 ⟨0, σ, H2, I2, st2, fun b hb => (f2 b hb).1, w0⟩
  rintro n s3 ⟨i, σ3, H3, I3, st3, fr3, w3⟩
  rcases turn i n σ3 H3 w3 with ⟨stop, qn⟩ | ⟨go, N, hN, step⟩
  · refine wpAny_passesOwn hp (thn (T.done X rfl rfl rfl hc i pins s3 σ3 H3 X.xe I3 (stat fr3) st3 stop) fun r s4 ⟨hr, I4⟩ => ?_)
    subst hr
    exact wpAny_execs_nil ⟨σ3, H3, I4, qn⟩
  · refine wpAny_passesOwn hp (thn (T.item X rfl rfl rfl hc i pins s3 σ3 H3 X.xe I3 (stat fr3) st3 go) fun r s4 ⟨u, hr, h4⟩ => ?_)
    subst hr
    refine wpAny_passesOwn hp (thn h4 fun _ s5 ⟨x, H5, I5, r5, y5, st5, fr5⟩ => ?_)
    have I5' := I5.pinned (stat fr5) (T.obj _ _ st5)
    refine wpAny_passesOwn hp (thn (hg _ s5 σ3 H5 x u _ I5' r5 (step x H5 y5)) fun _ s6 ⟨σ6, H6, I6, q6⟩ => ?_)
    refine wpAny_passesOwn hp (thn (hb _ s6 σ6 H6 _ I6 q6) fun f s7 q7 => ?_)
    have again : ∀ {σ7 : St} {H7 : Hp}, Inv X (pins ++ pinsAt fp s5.heap) σ7 H7 s7 → N σ7 H7 → ∃ m, m < n ∧ ∃ i σ' H', Inv X pins σ' H' s7 ∧ tn i s7.heap ∧ (∀ b ∈ fp, H' b = none) ∧ W i m σ' H' := fun {σ7 H7} I7 n7 => by
      obtain ⟨m', hm, w7⟩ := hN σ7 H7 n7
      refine ⟨m', hm, i + 1, σ7, H7, I7.unpinned, T.keep _ _ _ st5 fun b hb o e => (I7.pin (b, o) (List.mem_append_right _ (List.mem_append_right _ (mem_pinsAt hb e)))).1, fun b hb => ?_, w7⟩
      obtain ⟨o, e, d⟩ := T.obj _ _ st5 b hb
      exact (I7.pin (b, o) (List.mem_append_right _ (List.mem_append_right _ (mem_pinsAt hb e)))).2.1
    cases f with
    | next => obtain ⟨σ7, H7, I7, n7⟩ := q7; exact again I7 n7
    | cont => obtain ⟨σ7, H7, I7, n7⟩ := q7; exact again I7 n7
    | brk => obtain ⟨σ7, H7, I7, q7⟩ := q7; exact ⟨σ7, H7, I7.unpinned, q7⟩
    | ret v => obtain ⟨x7, σ7, H7, I7, r7, q7⟩ := q7; exact ⟨x7, σ7, H7, I7.unpinned, r7, q7⟩
end

/-! ### the forms one uses -/
end L2

namespace L2
open PySem PySem.Spec PyProof.Rows

abbrev R2 := V → V → Hp → VK → Prop
/-- a two-place operation on values: f is binaryOp op, inplaceOp op or compareOp op -/
def OpR (X : Cx) (f : Value → Value → Sem Value) (r : R2) : Prop :=
  ∀ (pins : List (Addr × Obj)) (s : Shared) (σ : St) (H : Hp) (x y : V) (v u : Value) (Q : VK), Inv X pins σ H s → RelV x v → RelV y u → r x y H Q →
    wpAny (model X.prog X.w) X.A (f v u) (EP X pins σ Q) X.xe s
/-- a one-place operation -/
def UnR (X : Cx) (f : Value → Sem Value) (r : V → Hp → VK → Prop) : Prop :=
  ∀ (pins : List (Addr × Obj)) (s : Shared) (σ : St) (H : Hp) (x : V) (v : Value) (Q : VK), Inv X pins σ H s → RelV x v → r x H Q →
    wpAny (model X.prog X.w) X.A (f v) (EP X pins σ Q) X.xe s
/-- a call of a value that is known (a builtin, a type) with values -/
def CallR (X : Cx) (f : Value) (r : List V → Hp → VK → Prop) : Prop :=
  ∀ (pins : List (Addr × Obj)) (s : Shared) (σ : St) (H : Hp) (xs : List V) (us : List Value) (Q : VK), Inv X pins σ H s → Vals xs us → r xs H Q →
    wpAny (model X.prog X.w) X.A (call f us) (EP X pins σ Q) X.xe s
/-- a value's truth -/
def TruR (X : Cx) (r : V → Hp → (Bool → Hp → Prop) → Prop) : Prop :=
  ∀ (pins : List (Addr × Obj)) (s : Shared) (σ : St) (H : Hp) (x : V) (v : Value) (Q : Bool → Hp → Prop), Inv X pins σ H s → RelV x v → r x H Q →
    wpAny (model X.prog X.w) X.A (truthy v) (TP X pins σ Q) X.xe s

def tOp (r : R2) (ta tb : TE) : TE := fun σ H Q => ta σ H fun x H1 => tb σ H1 fun y H2 => r x y H2 Q
def tUn (r : V → Hp → VK → Prop) (ta : TE) : TE := fun σ H Q => ta σ H fun x H1 => r x H1 Q
/-- ints in, under C, and a value out -/
def rI (C : Int → Int → Prop) (g : Int → Int → V) : R2 := fun x y H Q => ∃ i j, x = .int i ∧ y = .int j ∧ C i j ∧ Q (g i j) H
def rI0 (g : Int → Int → V) : R2 := fun x y H Q => ∃ i j, x = .int i ∧ y = .int j ∧ Q (g i j) H
def rU (g : Int → V) : V → Hp → VK → Prop := fun x H Q => ∃ i, x = .int i ∧ Q (g i) H

section
variable {X : Cx} {a b c : Expr} {ta tb tc : TE} {pos : Pos}

theorem binT (ha : PE X a ta) (hb : PE X b tb) {pins : List (Addr × Obj)} {s : Shared} {σ : St} {H : Hp} {R : V → V → Hp → Prop} (I : Inv X pins σ H s)
    (h : ta σ H fun x H1 => tb σ H1 fun y H2 => R x y H2) {Q : Value → Shared → Prop} {f : Value → Value → Sem Value}
    (hf : ∀ v u s2 x y H2, Inv X pins σ H2 s2 → RelV x v → RelV y u → R x y H2 → wpAny (model X.prog X.w) X.A (f v u) Q X.xe s2) :
    wpAny (model X.prog X.w) X.A (eval a X.env) (fun v s₁ => wpAny (model X.prog X.w) X.A (eval b X.env) (fun u s₂ => wpAny (model X.prog X.w) X.A (f v u) Q X.xe s₂) X.xe s₁) X.xe s := by
  refine thn (ha pins s σ H _ I h) fun v s1 ⟨x, H1, I1, r1, q1⟩ => ?_
  refine thn (hb pins s1 σ H1 _ I1 q1) fun u s2 ⟨y, H2, I2, r2, q2⟩ => ?_
  exact hf v u s2 x y H2 I2 r1 r2 q2

theorem pe_op {op : Operator} {r : R2} (ho : OpR X (binaryOp op) r) (ha : PE X a ta) (hb : PE X b tb) : PE X (.BinOp a op b pos) (tOp r ta tb) := by
  intro pins s σ H Q I h
  exact wpAny_BinOp (binT ha hb I h fun v u s2 x y H2 I2 rx ry q => ho pins s2 σ H2 x y v u Q I2 rx ry q)
theorem pe_un {op : UnaryOp} {r : V → Hp → VK → Prop} (ho : UnR X (unaryOp op) r) (ha : PE X a ta) : PE X (.UnaryOp op a pos) (tUn r ta) := by
  intro pins s σ H Q I h
  exact UnaryOp_ (thn (ha pins s σ H _ I h) fun v s1 ⟨x, H1, I1, r1, q1⟩ => ho pins s1 σ H1 x v Q I1 r1 q1)

/-! ### ints -/
theorem opI {f : Value → Value → Sem Value} {C : Int → Int → Prop} {g : Int → Int → Int}
    (rule : ∀ (i j : Int) (t u : Tok) (s : Shared) (Q : Value → Shared → Prop) (E : Value → Shared → Prop), C i j → Q (.int (g i j) s.toks) { s with toks := s.toks + 1 } → wpAny (model X.prog X.w) X.A (f (.int i t) (.int j u)) Q E s) :
    OpR X f (rI C fun i j => .int (g i j)) := by
  intro pins s σ H x y v u Q I rx ry h
  obtain ⟨i, j, rfl, rfl, hc, q⟩ := h
  obtain ⟨t, rfl⟩ := rx
  obtain ⟨t', rfl⟩ := ry
  exact rule i j t t' s _ _ hc ⟨.int (g i j), H, I.tok _, ⟨_, rfl⟩, q⟩
theorem opI0 {f : Value → Value → Sem Value} {g : Int → Int → Int}
    (rule : ∀ (i j : Int) (t u : Tok) (s : Shared) (Q : Value → Shared → Prop) (E : Value → Shared → Prop), Q (.int (g i j) s.toks) { s with toks := s.toks + 1 } → wpAny (model X.prog X.w) X.A (f (.int i t) (.int j u)) Q E s) :
    OpR X f (rI0 fun i j => .int (g i j)) := by
  intro pins s σ H x y v u Q I rx ry h
  obtain ⟨i, j, rfl, rfl, q⟩ := h
  obtain ⟨t, rfl⟩ := rx
  obtain ⟨t', rfl⟩ := ry
  exact rule i j t t' s _ _ ⟨.int (g i j), H, I.tok _, ⟨_, rfl⟩, q⟩
theorem opB0 {f : Value → Value → Sem Value} {g : Int → Int → Bool}
    (rule : ∀ (i j : Int) (t u : Tok) (s : Shared) (Q : Value → Shared → Prop) (E : Value → Shared → Prop), Q (.bool (g i j)) s → wpAny (model X.prog X.w) X.A (f (.int i t) (.int j u)) Q E s) :
    OpR X f (rI0 fun i j => .bl (g i j)) := by
  intro pins s σ H x y v u Q I rx ry h
  obtain ⟨i, j, rfl, rfl, q⟩ := h
  obtain ⟨t, rfl⟩ := rx
  obtain ⟨t', rfl⟩ := ry
  exact rule i j t t' s _ _ ⟨.bl (g i j), H, I, rfl, q⟩

def CDiv (i j : Int) : Prop := 0 < j ∧ j < 1073741824
def CDivN (i j : Int) : Prop := j ≠ 0 ∧ j.natAbs < 1073741824
def CPow (i j : Int) : Prop := 0 ≤ j ∧ j ≤ 1000000 ∧ i.natAbs < 2 ^ 64
def CMul (i j : Int) : Prop := (-(2 ^ 64) < i ∧ i < 2 ^ 64) ∨ (-(2 ^ 64) < j ∧ j < 2 ^ 64)

theorem op_add : OpR X (binaryOp .Add) (rI0 fun i j => .int (i + j)) := opI0 fun _ _ _ _ _ _ _ q => add_int q
theorem op_sub : OpR X (binaryOp .Sub) (rI0 fun i j => .int (i - j)) := opI0 fun _ _ _ _ _ _ _ q => sub_int q
/-- // by a positive divisor -/
theorem op_fdiv : OpR X (binaryOp .FloorDiv) (rI CDiv fun i j => .int (i / j)) := opI fun i j _ _ _ _ _ hc q => by
  have h1 : (0 : Int) < j := hc.1
  have h2 : j < 1073741824 := hc.2
  exact floordiv_int (by omega) (by rw [Int.fdiv_eq_ediv_of_nonneg i (by omega)]; exact q) (.inl (PyProof.noPylong_small (by omega)))
/-- % by a positive divisor of any size -/
theorem op_mod : OpR X (binaryOp .Mod) (rI (fun _ j => 0 < j) fun i j => .int (i % j)) := opI fun i j _ _ _ _ _ hc q => by
  have h1 : (0 : Int) < j := hc
  exact mod_int' (by omega) (by rw [Int.fmod_eq_emod_of_nonneg i (by omega)]; exact q)


theorem unI {f : Value → Sem Value} {g : Int → Int}
    (rule : ∀ (i : Int) (t : Tok) (s : Shared) (Q : Value → Shared → Prop) (E : Value → Shared → Prop), Q (.int (g i) s.toks) { s with toks := s.toks + 1 } → wpAny (model X.prog X.w) X.A (f (.int i t)) Q E s) :
    UnR X f (rU fun i => .int (g i)) := by
  intro pins s σ H x v Q I rx h
  obtain ⟨i, rfl, q⟩ := h
  obtain ⟨t, rfl⟩ := rx
  exact rule i t s _ _ ⟨.int (g i), H, I.tok _, ⟨_, rfl⟩, q⟩
theorem un_neg : UnR X (unaryOp .USub) (rU fun i => .int (-i)) := unI fun _ _ _ _ _ q => neg_int q

/-! ### bools among ints: n += (a < b) -/
end

/-! ### comparisons -/
/-- the scalars that == tells apart as data does -/
def scal : V → V → Bool
  | .non, .non => true | .non, .int _ => true | .int _, .non => true | .non, .bl _ => true | .bl _, .non => true | .non, .str _ => true | .str _, .non => true
  | .int _, .int _ => true | .bl _, .bl _ => true | .str _, .str _ => true | .byt _, .byt _ => true
  | .int _, .str _ => true | .str _, .int _ => true | .bl _, .str _ => true | .str _, .bl _ => true
  | _, _ => false
def rEq : R2 := fun x y H Q => scal x y = true ∧ Q (.bl (decide (x = y))) H
def rNe : R2 := fun x y H Q => scal x y = true ∧ Q (.bl (!decide (x = y))) H

theorem dec_int {i j : Int} : decide (V.int i = V.int j) = (i == j) := by
  rw [Bool.eq_iff_iff]
  simp
theorem dec_bl {i j : Bool} : decide (V.bl i = V.bl j) = (i == j) := by
  rw [Bool.eq_iff_iff]
  simp
theorem dec_str {i j : Str} : decide (V.str i = V.str j) = (i == j) := by
  rw [Bool.eq_iff_iff]
  simp
theorem dec_byt {i j : Array UInt8} : decide (V.byt i = V.byt j) = (i.toList == j.toList) := by
  rw [Bool.eq_iff_iff]
  cases i
  cases j
  simp

section
variable {X : Cx} {a b c : Expr} {ta tb tc : TE} {pos : Pos}
theorem fin_bl {pins : List (Addr × Obj)} {σ : St} {H : Hp} {s : Shared} {Q : VK} {k k' : Bool} (I : Inv X pins σ H s) (q : Q (.bl k) H) (e : k = k') : EP X pins σ Q (.bool k') s := by
  subst e
  exact ⟨.bl k, H, I, rfl, q⟩
theorem op_eq : OpR X (compareOp .Eq) rEq := by
  intro pins s σ H x y v u Q I rx ry h
  obtain ⟨hs, q⟩ := h
  cases x with
  | non =>
    cases rx
    cases y with
    | non => cases ry; exact PySem.EqNone.eq_none_none (fin_bl I q (by simp))
    | bl j => cases ry; exact PySem.EqNone.eq_none_bool (fin_bl I q (by simp))
    | int j => obtain ⟨t', rfl⟩ := ry; exact PySem.EqNone.eq_none_int (fin_bl I q (by simp))
    | str j => obtain ⟨t', rfl⟩ := ry; exact PySem.EqNone.eq_none_str (fin_bl I q (by simp))
    | _ => exact absurd (show false = true from hs) Bool.false_ne_true
  | bl i =>
    cases rx
    cases y with
    | non => cases ry; exact PySem.EqNone.eq_bool_none (fin_bl I q (by simp))
    | bl j => cases ry; exact eq_bool (fin_bl I q dec_bl)
    | str j => obtain ⟨t', rfl⟩ := ry; exact PySem.EqMixed.eq_bool_str (fin_bl I q (by simp))
    | _ => exact absurd (show false = true from hs) Bool.false_ne_true
  | int i =>
    obtain ⟨t, rfl⟩ := rx
    cases y with
    | non => cases ry; exact PySem.EqNone.eq_int_none (fin_bl I q (by simp))
    | int j => obtain ⟨t', rfl⟩ := ry; exact eq_int (fin_bl I q dec_int)
    | str j => obtain ⟨t', rfl⟩ := ry; exact PySem.EqMixed.eq_int_str (fin_bl I q (by simp))
    | _ => exact absurd (show false = true from hs) Bool.false_ne_true
  | str i =>
    obtain ⟨t, rfl⟩ := rx
    cases y with
    | non => cases ry; exact PySem.EqNone.eq_str_none (fin_bl I q (by simp))
    | bl j => cases ry; exact PySem.EqMixed.eq_str_bool (fin_bl I q (by simp))
    | int j => obtain ⟨t', rfl⟩ := ry; exact PySem.EqMixed.eq_str_int (fin_bl I q (by simp))
    | str j => obtain ⟨t', rfl⟩ := ry; exact eq_str (fin_bl I q dec_str)
    | _ => exact absurd (show false = true from hs) Bool.false_ne_true
  | byt i =>
    obtain ⟨t, rfl⟩ := rx
    cases y with
    | byt j => obtain ⟨t', rfl⟩ := ry; exact PySem.W.eq_bytes (fin_bl I q dec_byt)
    | _ => exact absurd (show false = true from hs) Bool.false_ne_true
  | _ => cases y <;> exact absurd (show false = true from hs) Bool.false_ne_true
theorem op_ne : OpR X (compareOp .NotEq) rNe := by
  intro pins s σ H x y v u Q I rx ry h
  obtain ⟨hs, q⟩ := h
  cases x with
  | non =>
    cases rx
    cases y with
    | non => cases ry; exact PySem.EqNone.ne_none_none (fin_bl I q (by simp))
    | bl j => cases ry; exact PySem.EqNone.ne_none_bool (fin_bl I q (by simp))
    | int j => obtain ⟨t', rfl⟩ := ry; exact PySem.EqNone.ne_none_int (fin_bl I q (by simp))
    | str j => obtain ⟨t', rfl⟩ := ry; exact PySem.EqNone.ne_none_str (fin_bl I q (by simp))
    | _ => exact absurd (show false = true from hs) Bool.false_ne_true
  | bl i =>
    cases rx
    cases y with
    | non => cases ry; exact PySem.EqNone.ne_bool_none (fin_bl I q (by simp))
    | bl j => cases ry; exact ne_bool (fin_bl I q (congrArg not dec_bl))
    | str j => obtain ⟨t', rfl⟩ := ry; exact PySem.EqMixed.ne_bool_str (fin_bl I q (by simp))
    | _ => exact absurd (show false = true from hs) Bool.false_ne_true
  | int i =>
    obtain ⟨t, rfl⟩ := rx
    cases y with
    | non => cases ry; exact PySem.EqNone.ne_int_none (fin_bl I q (by simp))
    | int j => obtain ⟨t', rfl⟩ := ry; exact ne_int (fin_bl I q (congrArg not dec_int))
    | str j => obtain ⟨t', rfl⟩ := ry; exact PySem.EqMixed.ne_int_str (fin_bl I q (by simp))
    | _ => exact absurd (show false = true from hs) Bool.false_ne_true
  | str i =>
    obtain ⟨t, rfl⟩ := rx
    cases y with
    | non => cases ry; exact PySem.EqNone.ne_str_none (fin_bl I q (by simp))
    | bl j => cases ry; exact PySem.EqMixed.ne_str_bool (fin_bl I q (by simp))
    | int j => obtain ⟨t', rfl⟩ := ry; exact PySem.EqMixed.ne_str_int (fin_bl I q (by simp))
    | str j => obtain ⟨t', rfl⟩ := ry; exact ne_str (fin_bl I q (congrArg not dec_str))
    | _ => exact absurd (show false = true from hs) Bool.false_ne_true
  | byt i =>
    obtain ⟨t, rfl⟩ := rx
    cases y with
    | byt j => obtain ⟨t', rfl⟩ := ry; exact PySem.W.ne_bytes (fin_bl I q (congrArg not dec_byt))
    | _ => exact absurd (show false = true from hs) Bool.false_ne_true
  | _ => cases y <;> exact absurd (show false = true from hs) Bool.false_ne_true

theorem op_lt : OpR X (compareOp .Lt) (rI0 fun i j => .bl (decide (i < j))) := opB0 fun _ _ _ _ _ _ _ q => lt_int q
theorem op_le : OpR X (compareOp .LtE) (rI0 fun i j => .bl (decide (i ≤ j))) := opB0 fun _ _ _ _ _ _ _ q => le_int q
theorem op_gt : OpR X (compareOp .Gt) (rI0 fun i j => .bl (decide (j < i))) := opB0 fun _ _ _ _ _ _ _ q => gt_int q
theorem op_ge : OpR X (compareOp .GtE) (rI0 fun i j => .bl (decide (j ≤ i))) := opB0 fun _ _ _ _ _ _ _ q => ge_int q


/-- is, is not of two objects that are tracked lists or instances -/
def isObj : HO → Bool
  | .lst _ => true
  | .ins _ _ _ => true
  | _ => false


theorem nomark (b : Expr) {op : CmpOp} (h : op ≠ .In := by decide) (h2 : op ≠ .NotIn := by decide) : behindInMarks op b = false := by
  have e1 : (op == CmpOp.In) = false := by cases op <;> first | rfl | exact absurd rfl h
  have e2 : (op == CmpOp.NotIn) = false := by cases op <;> first | rfl | exact absurd rfl h2
  cases b <;> simp [behindInMarks, e1, e2]
/-- a comparison as a value; hm: nomark b, or (for in, not in) by with_unfolding_all rfl -/
theorem pe_cmpR {op : CmpOp} {r : R2} (ho : OpR X (compareOp op) r) (ha : PE X a ta) (hb : PE X b tb) (hm : behindInMarks op b = false) : PE X (.Compare a [op] [b] pos) (tOp r ta tb) := by
  intro pins s σ H Q I h
  exact wpAny_Compare1 (binT ha hb I h fun v u s2 x y H2 I2 rx ry q => ho pins s2 σ H2 x y v u Q I2 rx ry q) hm
/-- a reading of a value as a test -/
def tTest (t : TE) : TT := fun σ H Q => t σ H fun x H' => ∃ k, x = .bl k ∧ Q k H'
theorem pt_cmpR {op : CmpOp} {r : R2} (ho : OpR X (compareOp op) r) (ha : PE X a ta) (hb : PE X b tb) (hm : behindInMarks op b = false) : PT X (.Compare a [op] [b] pos) (tTest (tOp r ta tb)) := by
  intro pins s σ H Q I h
  refine wpAny_isTrue_Compare1 (thn (ha pins s σ H _ I h) fun v s1 ⟨x, H1, I1, r1, q1⟩ => thn (hb pins s1 σ H1 _ I1 q1) fun u s2 ⟨y, H2, I2, r2, q2⟩ =>
    thn (ho pins s2 σ H2 x y v u _ I2 r1 r2 q2) fun c s3 ⟨z, H3, I3, r3, k, e, q3⟩ => ?_) hm
  subst e
  cases r3
  exact wpAny_truthy_bool ⟨H3, I3, q3⟩
/-- a op1 b op2 c -/
def tChain (r r' : R2) (ta tb tc : TE) : TE := fun σ H Q => ta σ H fun x H1 => tb σ H1 fun y H2 => r x y H2 fun z H3 => ∃ k, z = .bl k ∧
  (if k = true then tc σ H3 fun w' H4 => r' y w' H4 Q else Q (.bl false) H3)
theorem pe_chain {op op' : CmpOp} {r r' : R2} (ho : OpR X (compareOp op) r) (ho' : OpR X (compareOp op') r') (ha : PE X a ta) (hb : PE X b tb) (hc : PE X c tc)
    (hm : lastMarks [op, op'] [b, c] = false := by with_unfolding_all rfl) : PE X (.Compare a [op, op'] [b, c] pos) (tChain r r' ta tb tc) := by
  intro pins s σ H Q I h
  refine Compare_chain (thn (ha pins s σ H _ I h) fun v s1 ⟨x, H1, I1, r1, q1⟩ => chain_link (thn (hb pins s1 σ H1 _ I1 q1) fun u s2 ⟨y, H2, I2, r2, q2⟩ =>
    thn (ho pins s2 σ H2 x y v u _ I2 r1 r2 q2) fun d s3 ⟨z, H3, I3, r3, k, e, q3⟩ => ?_)) hm
  subst e
  cases r3
  refine wpAny_truthy_bool ?_
  cases k with
  | false => exact ite_ff ⟨.bl false, H3, I3, rfl, q3⟩
  | true => exact ite_tt (chain_last (thn (hc pins s3 σ H3 _ I3 q3) fun w' s4 ⟨z', H4, I4, r4, q4⟩ => ho' pins s4 σ H4 y z' u w' Q I4 r2 r4 q4))

/-! ### truth -/
/-- a value's truth by the abstract heap -/
def TruV (K : PySem.W.Frag) (x : V) (H : Hp) (k : Bool) : Prop :=
  match x with
  | .non => k = false
  | .bl b => k = b
  | .int i => k = (i != 0)
  | .str y => y.length ≤ sizeLine ∧ k = ((y.length : Int) != 0)
  | .byt y => y.size ≤ sizeLine ∧ k = ((y.size : Int) != 0)
  | .ref p => (∃ xs, SqL K H p xs ∧ k = !xs.isEmpty) ∨ (∃ xs, SqT K H p xs ∧ k = !xs.isEmpty) ∨ ∃ kvs, H p = some (.dK kvs) ∧ k = !kvs.isEmpty
  | _ => False
theorem line63 : (sizeLine : Nat) < 2 ^ 63 := by rw [sizeLine_eq]; decide

/-! ### strs and bytes -/

def PlainIxT (b : Expr) : Prop := ∀ o i, subscripted b false o i = operate [o, i] (getItem o i)

/-! ### scalar builtins, by CallR -/
theorem vals1 {x : V} {us : List Value} (r : Vals [x] us) : ∃ u, us = [u] ∧ RelV x u := by
  cases r with
  | cons r1 r2 => cases r2; exact ⟨_, rfl, r1⟩
theorem vals2 {x y : V} {us : List Value} (r : Vals [x, y] us) : ∃ u w', us = [u, w'] ∧ RelV x u ∧ RelV y w' := by
  cases r with
  | cons r1 r2 =>
    cases r2 with
    | cons r3 r4 => cases r4; exact ⟨_, _, rfl, r1, r3⟩
theorem call_max2 (hc : X.calm = true) : CallR X (.builtin "max") (fun xs H Q => ∃ i j, xs = [.int i, .int j] ∧ Q (.int (if j > i then j else i)) H) := by
  intro pins s σ H xs us Q I r h
  obtain ⟨i, j, rfl, q⟩ := h
  obtain ⟨u, w', rfl, ⟨t, rfl⟩, ⟨t', rfl⟩⟩ := vals2 r
  refine max_two_ints (I.ok.hd hc) fun h' tk k => ⟨_, H, I.kept k, ?_, q⟩
  by_cases hj : j > i
  · rw [if_pos hj, if_pos hj]; exact ⟨_, rfl⟩
  · rw [if_neg hj, if_neg hj]; exact ⟨_, rfl⟩
theorem call_min2 (hc : X.calm = true) : CallR X (.builtin "min") (fun xs H Q => ∃ i j, xs = [.int i, .int j] ∧ Q (.int (if j < i then j else i)) H) := by
  intro pins s σ H xs us Q I r h
  obtain ⟨i, j, rfl, q⟩ := h
  obtain ⟨u, w', rfl, ⟨t, rfl⟩, ⟨t', rfl⟩⟩ := vals2 r
  refine min_two_ints (I.ok.hd hc) fun h' tk k => ⟨_, H, I.kept k, ?_, q⟩
  by_cases hj : j < i
  · rw [if_pos hj, if_pos hj]; exact ⟨_, rfl⟩
  · rw [if_neg hj, if_neg hj]; exact ⟨_, rfl⟩
/-- len of a str, a bytes, a list, a tuple -/
def LenV (K : PySem.W.Frag) (x : V) (H : Hp) (n : Nat) : Prop :=
  match x with
  | .str y => y.length ≤ sizeLine ∧ n = y.length
  | .byt y => y.size ≤ sizeLine ∧ n = y.size
  | .ref p => (∃ xs, SqL K H p xs ∧ n = xs.length) ∨ ∃ xs, SqT K H p xs ∧ n = xs.length
  | _ => False
end
end L2

namespace L2
open PySem PySem.Spec PyProof.Rows

/-! ### an instance, its attributes a map -/
structure ObjM (h : Heap) (x dx C : Addr) (mA : Str → Option Value) : Prop where
  obj : h.get? x = some (PySem.W.instObj C dx)
  ns : h.Ns1 dx mA
  ne : dx ≠ x

theorem lookIn_ns {h : Heap} {dx : Addr} {mA : Str → Option Value} (n : h.Ns1 dx mA) : ∃ od, h.get? dx = some od ∧ ∀ name, PySem.W.lookIn name od = some (mA name) := by
  obtain ⟨o, es, ep, ho, hd, hk, _, hm⟩ := n
  refine ⟨o, ho, fun name => ?_⟩
  have e := hm name
  unfold nsFind findBy at e
  rw [← Array.find?_toList] at e
  unfold PySem.W.lookIn
  rw [hd]
  dsimp only
  split
  · rename_i y q
    rw [q] at e
    exact congrArg some e
  · rename_i q
    rw [q] at e
    have a : es.toList.any (·.refKey) = false := by
      rw [List.any_eq_false]
      intro y hy
      obtain ⟨z, t, hkey⟩ := hk y (Array.mem_toList_iff.mp hy)
      simp [DictEntry.refKey, hkey]
    have a' : ¬ es.toList.any (·.refKey) = true := by rw [a]; exact Bool.false_ne_true
    rw [if_neg a']
    exact congrArg some e

theorem ObjM.look {h : Heap} {x dx C : Addr} {mA : Str → Option Value} (I : ObjM h x dx C mA) : ∃ od, PySem.W.InstAt h x (PySem.W.instObj C dx) C (some od) ∧ ∀ name, PySem.W.lookIn name od = some (mA name) :=
  let ⟨od, ho, hl⟩ := lookIn_ns I.ns
  ⟨od, ⟨I.obj, rfl, rfl, ho⟩, hl⟩

section
variable {prog : Program} {w : World} {A : Around} {E : Value → Shared → Prop} {s : Shared} {K : PySem.W.Frag} {x dx C f : Addr} {mA : Str → Option Value} {name : Str} {v : Value}

theorem get_map {expr : Bool} {Q : Value → Shared → Prop} (X : K.In s.heap) (I : ObjM s.heap x dx C mA) (hg : PySem.W.plainGet K C name = true) (hh : PySem.W.hasDictIn K C = true)
    (ha : PySem.W.findIn K (.ref C) name = some none) (hv : mA name = some v) (hv' : PySem.W.handedIn v = true) (h : Q v { s with toks := s.toks + 1 }) :
    wpAny (model prog w) A (getAttr (.ref x) name expr) Q E s := by
  obtain ⟨od, J, hl⟩ := I.look
  exact PySem.W.get_value X J (PySem.W.plainGet_of hg).1 (PySem.W.findObj_own hh ha rfl (by rw [hl, hv])) hv' h


theorem get_meth {pl : Sem Bool} {Q : Value × List Value → Shared → Prop} (X : K.In s.heap) (I : ObjM s.heap x dx C mA) (hg : PySem.W.plainGet K C name = true)
    (hf : PySem.W.findIn K (.ref C) name = some (some (.ref f))) (ht : PySem.W.isFn K (.ref f) = true) (hv : mA name = none) (h : Q (.ref f, [.ref x]) s) :
    wpAny (model prog w) A (getMethod (.ref x) name pl) Q E s := by
  obtain ⟨od, J, hl⟩ := I.look
  exact PySem.W.method_fn X J (PySem.W.plainGet_of hg).1 (PySem.W.plainGet_of hg).2 hf (beq_iff_eq.mp ht) (by show (PySem.W.lookIn name od).map (·.isSome) = some false; rw [hl, hv]; rfl) h

theorem set_map {ns : List Str} {Q : Unit → Shared → Prop} (X : K.In s.heap) (I : ObjM s.heap x dx C mA)
    (hs : PySem.W.findIn K (.ref C) "__setattr__" = some (some (.builtin "object.__setattr__"))) (hp : PySem.W.plainOver K C = true) (ht : PySem.W.takerIn K C name = some none) (hh : PySem.W.hasDictIn K C = true)
    (hw : PySem.Within mA ns) (hsz : ns.length ≤ sizeLine)
    (h : ∀ h', ObjM h' x dx C (fun y => if y = name then some v else mA y) → Heap.SameBut dx s.heap h' → Q () { s with heap := h', toks := s.toks + 2 }) :
    wpAny (model prog w) A (setAttr (.ref x) name v) Q E s := by
  obtain ⟨od, J, hl⟩ := I.look
  refine PySem.W.set_plain X J hs (PySem.W.osa_open (s := { s with toks := s.toks + 1 }) (r := none) X J hp ht fun b => ?_)
  obtain ⟨cd, hc, hd'⟩ := PySem.W.any_some hh
  have hx : s.heap.get? x = some ⟨.ref C, some dx, .plain, #[]⟩ := I.obj
  refine wpAny_bind (wpAny_pure (wpAny_bind (wpAny_bind (wpAny_loadPart hx (wpAny_bind (PySem.W.Looks.here (s := { s with toks := s.toks + 1 }) (PySem.W.looks_clsIn X hc) ?_))))))
  rw [hd']
  refine wpAny_pure (a := some dx) (wpAny_bind (wpAny_pure (wpAny_bind ?_)))
  refine wpAny_nsSet1 (s := { s with toks := s.toks + 1 }) I.ns fun h' hn2 hs2 => ?_
  obtain ⟨oD, esD, epD, hoD, hdD, hcD⟩ := hn2.count (PySem.Within.cons name v hw)
  refine wpAny_bind (wpAny_lookBehind hoD (by rw [hdD]; exact pastItsLine_dict (Nat.le_trans hcD (by rw [List.length_cons]; omega))) ?_)
  exact wpAny_pure (h _ ⟨(hs2.2 _ (Ne.symm I.ne)).trans I.obj, hn2, I.ne⟩ hs2)

/-- C(..): the dict at the heap's end, the instance behind it; then its __init__ -/
theorem make_map {R : Result → Shared → Prop} {vs : List Value} {kw : List (Str × Value)} (X : K.In s.heap) (hm : PySem.W.makesIn K C = true)
    (hi : PySem.W.findIn K (.ref C) "__init__" = some (some (.ref f))) (hf : PySem.W.typeIn K (.ref f) = some (.type "function"))
    (h : codeAny (model prog w) (A.under (.builtin "type.__call__" ⟨.ref C :: vs, kw⟩)) (.call (.ref f) ⟨.ref (s.heap.objs.size + 1) :: vs, kw⟩) (PySem.W.InitBack (s.heap.objs.size + 1) R)
      { s with heap := (s.heap.push PySem.W.emptyDict).push (PySem.W.instObj C s.heap.objs.size) }) :
    codeAny (model prog w) A (.call (.ref C) ⟨vs, kw⟩) R s := by
  obtain ⟨hh, g, d, t, os⟩ := s
  exact PySem.W.make_core (PySem.W.makes_of X hm) (PySem.W.looks_findIn X hi) (fun self => PySem.W.bind_fn X self hf) (.inl rfl) h
end

/-! ### the attributes as a list of pairs -/
def putF (f : Str) (v : V) : List (Str × V) → List (Str × V)
  | [] => [(f, v)]
  | (g, x) :: r => if g = f then (g, v) :: r else (g, x) :: putF f v r
theorem lookup_putF (f g : Str) (v : V) : ∀ fs : List (Str × V), (putF f v fs).lookup g = if g = f then some v else fs.lookup g
  | [] => by
    show List.lookup g [(f, v)] = _
    by_cases h : g = f
    · have hb : (g == f) = true := beq_iff_eq.mpr h
      simp only [List.lookup, hb, if_pos h]
    · have hb : (g == f) = false := beq_eq_false_iff_ne.mpr h
      simp only [List.lookup, hb, if_neg h]
  | (k, x) :: r => by
    have ih := lookup_putF f g v r
    rw [show putF f v ((k, x) :: r) = (if k = f then (k, v) :: r else (k, x) :: putF f v r) from rfl]
    by_cases hk : k = f
    · rw [if_pos hk]
      by_cases h : g = k
      · have hb : (g == k) = true := beq_iff_eq.mpr h
        simp only [List.lookup, hb, if_pos (h.trans hk)]
      · have hb : (g == k) = false := beq_eq_false_iff_ne.mpr h
        simp only [List.lookup, hb, if_neg (fun e : g = f => h (e.trans hk.symm))]
    · rw [if_neg hk]
      by_cases h : g = k
      · have hb : (g == k) = true := beq_iff_eq.mpr h
        simp only [List.lookup, hb, if_neg (fun e : g = f => hk (h.symm.trans e))]
      · have hb : (g == k) = false := beq_eq_false_iff_ne.mpr h
        simp only [List.lookup, hb]
        exact ih
theorem keys_putF (f : Str) (v : V) : ∀ fs : List (Str × V), f ∈ (putF f v fs).map (·.1) ∧ ∀ g, g ∈ fs.map (·.1) → g ∈ (putF f v fs).map (·.1)
  | [] => ⟨by simp [putF], fun g h => by simp at h⟩
  | (k, x) :: r => by
    obtain ⟨i1, i2⟩ := keys_putF f v r
    rw [show putF f v ((k, x) :: r) = (if k = f then (k, v) :: r else (k, x) :: putF f v r) from rfl]
    by_cases hk : k = f
    · rw [if_pos hk]
      subst hk
      exact ⟨by simp, fun g h => by simpa using h⟩
    · rw [if_neg hk]
      refine ⟨?_, fun g h => ?_⟩
      · rw [List.map_cons]
        exact List.mem_cons_of_mem _ i1
      · rw [List.map_cons] at h ⊢
        rcases List.mem_cons.mp h with e | e
        · exact List.mem_cons.mpr (.inl e)
        · exact List.mem_cons_of_mem _ (i2 g e)
theorem length_putF (f : Str) (v : V) : ∀ fs : List (Str × V), (putF f v fs).length ≤ fs.length + 1
  | [] => by simp [putF]
  | (k, x) :: r => by
    have ih := length_putF f v r
    rw [show putF f v ((k, x) :: r) = (if k = f then (k, v) :: r else (k, x) :: putF f v r) from rfl]
    by_cases hk : k = f
    · rw [if_pos hk, List.length_cons, List.length_cons]; omega
    · rw [if_neg hk, List.length_cons, List.length_cons]; omega

theorem RelO.some_of {v : V} {o : Option Value} (r : RelO (some v) o) : ∃ u, o = some u ∧ RelV v u := by
  cases o with
  | none => exact (show False from r).elim
  | some u => exact ⟨u, rfl, r⟩
theorem RelO.none_of {o : Option Value} (r : RelO none o) : o = none := by
  cases o with
  | none => rfl
  | some u => exact (show False from r).elim
theorem handed_of {v : V} {u : Value} (r : RelV v u) : PySem.W.handedIn u = true := by
  cases v with
  | non => cases (show u = Value.none from r); rfl
  | bl b => cases (show u = Value.bool b from r); rfl
  | int i => obtain ⟨t, e⟩ := (show ∃ t, u = Value.int i t from r); cases e; rfl
  | str x => obtain ⟨t, e⟩ := (show ∃ t, u = Value.str x t from r); cases e; rfl
  | byt b => obtain ⟨t, e⟩ := (show ∃ t, u = Value.bytes b t from r); cases e; rfl
  | flt b => obtain ⟨t, e⟩ := (show ∃ t, u = Value.float b t from r); cases e; rfl
  | ref a => cases (show u = Value.ref a from r); rfl
  | ty n => cases (show u = Value.type n from r); rfl

section
variable {P : Program} {w : World} {H H' : Hp} {h h' : Heap} {a C dx : Addr} {fs fs' : List (Str × V)}
theorem ins_get (hok : HOk P w H h) (e : H a = some (.ins C dx fs)) : ∃ mA, ObjM h a dx C mA ∧ (∀ f, RelO (fs.lookup f) (mA f)) ∧ PySem.Within mA (fs.map (·.1)) ∧ fs.length ≤ 1000 ∧ H dx = some (.own a) := by
  obtain ⟨d, z, ne, ob, mA, n, r, q⟩ := (show ObjOk P w H h a (.ins C dx fs) from hok a _ e)
  exact ⟨mA, ⟨ob, n, ne⟩, r, q, z, d⟩
end

/-! ### what of the text a class must have -/
structure Cls (K : PySem.W.Frag) (C : Addr) : Prop where
  pg : PySem.W.plainGet K C Str.empty = true
  hd : PySem.W.hasDictIn K C = true
  po : PySem.W.plainOver K C = true
  sa : PySem.W.findIn K (.ref C) "__setattr__" = some (some (.builtin "object.__setattr__"))
theorem Cls.get {K : PySem.W.Frag} {C : Addr} (c : Cls K C) (f : Str) : PySem.W.plainGet K C f = true := c.pg
/-- no class of it has the name -/
def NoAttr (K : PySem.W.Frag) (C : Addr) (f : Str) : Prop := PySem.W.findIn K (.ref C) f = some none
theorem NoAttr.taker {K : PySem.W.Frag} {C : Addr} {f : Str} (n : NoAttr K C f) : PySem.W.takerIn K C f = some none := by
  unfold PySem.W.takerIn
  rw [show PySem.W.findIn K (.ref C) f = some none from n]
  rfl
/-- a constant of the class -/
structure Con (K : PySem.W.Frag) (C : Addr) (f : Str) (v : V) (u : Value) : Prop where
  at_ : PySem.W.findIn K (.ref C) f = some (some u)
  rel : RelV v u
  get : PySem.W.specialIn K u "__get__" = some none
  cp : PySem.W.copiedNames.contains f = false
/-- a method: a plain def of the class or of one above it -/
structure Meth (K : PySem.W.Frag) (C : Addr) (m : Str) (f : Addr) : Prop where
  at_ : PySem.W.findIn K (.ref C) m = some (some (.ref f))
  fn : PySem.W.isFn K (.ref f) = true
  kp : PySem.W.keepIn K (.ref f) = true

section
variable {X : Cx} {pins : List (Addr × Obj)} {σ : St} {H : Hp} {s : Shared} {a C dx : Addr} {fs : List (Str × V)} {f : Str} {v : V} {A : Around} {E : Value → Shared → Prop}

theorem getattr_ok {b : Bool} {Q : Value → Shared → Prop} (I : Inv X pins σ H s) (e : H a = some (.ins C dx fs)) (c : Cls X.K C) (n : NoAttr X.K C f) (l : fs.lookup f = some v)
    (h : ∀ u s', Inv X pins σ H s' → RelV v u → Q u s') : wpAny (model X.prog X.w) A (getAttr (.ref a) f b) Q E s := by
  obtain ⟨mA, O, r, _, _, _⟩ := ins_get I.hok e
  obtain ⟨u, hu, ru⟩ := RelO.some_of (v := v) (o := mA f) (by rw [← l]; exact r f)
  exact get_map I.kIn O (c.get f) c.hd n hu (handed_of ru) (h u _ (I.tok _) ru)


theorem getmeth_ok {m : Str} {g : Addr} {pl : Sem Bool} {Q : Value × List Value → Shared → Prop} (I : Inv X pins σ H s) (e : H a = some (.ins C dx fs)) (c : Cls X.K C) (k : Meth X.K C m g) (l : fs.lookup m = none)
    (h : Q (.ref g, [.ref a]) s) : wpAny (model X.prog X.w) A (getMethod (.ref a) m pl) Q E s := by
  obtain ⟨mA, O, r, _, _, _⟩ := ins_get I.hok e
  have hn : mA m = none := RelO.none_of (by rw [← l]; exact r m)
  exact get_meth I.kIn O (c.get m) k.at_ k.fn hn h

theorem setattr_ok {y : V} {u : Value} {Q : Unit → Shared → Prop} (I : Inv X pins σ H s) (e : H a = some (.ins C dx fs)) (c : Cls X.K C) (n : NoAttr X.K C f) (hl : fs.length < 1000) (ry : RelV y u)
    (h : ∀ s', Inv X pins σ (upd H a (.ins C dx (putF f y fs))) s' → Q () s') : wpAny (model X.prog X.w) A (setAttr (.ref a) f u) Q E s := by
  obtain ⟨mA, O, r, wi, _, ho⟩ := ins_get I.hok e
  have hz : (fs.map (·.1)).length ≤ sizeLine := by rw [List.length_map, sizeLine_eq]; omega
  refine set_map I.kIn O c.sa c.po n.taker c.hd wi hz fun h' O' sb => h _ ?_
  have hd : ∃ o, h'.get? dx = some o := let ⟨o, _, _, e', _⟩ := O'.ns; ⟨o, e'⟩
  refine I.write (x := a) (e := dx) (by rw [e]; exact True.intro) (.inr ho) (fun b q hb z => (sb.2 b hb).trans z) hd ?_
  refine ⟨by rw [upd_ne O.ne]; exact ho, ?_, O.ne, O'.obj, _, O'.ns, fun g => ?_, fun g hg => ?_⟩
  · have := length_putF f y fs; omega
  · show RelO ((putF f y fs).lookup g) (if g = f then some u else mA g)
    rw [lookup_putF]
    by_cases q : g = f
    · rw [if_pos q, if_pos q]; exact ry
    · rw [if_neg q, if_neg q]; exact r g
  · by_cases q : g = f
    · rw [q]; exact (keys_putF f y fs).1
    · refine (keys_putF f y fs).2 g (wi g fun z => hg ?_)
      show (if g = f then some u else mA g) = none
      rw [if_neg q]; exact z

/-- a new instance, tracked, without attributes -/
theorem Inv.made (I : Inv X pins σ H s) : Inv X pins σ (upd (upd H s.heap.objs.size (.own (s.heap.objs.size + 1))) (s.heap.objs.size + 1) (.ins C s.heap.objs.size []))
    { s with heap := (s.heap.push PySem.W.emptyDict).push (PySem.W.instObj C s.heap.objs.size) } := by
  have e1 : (s.heap.push PySem.W.emptyDict).get? s.heap.objs.size = some PySem.W.emptyDict := Heap.get?_push_size s.heap rfl
  have e2 : ((s.heap.push PySem.W.emptyDict).push (PySem.W.instObj C s.heap.objs.size)).get? (s.heap.objs.size + 1) = some (PySem.W.instObj C s.heap.objs.size) := by
    have := Heap.get?_push_size (s.heap.push PySem.W.emptyDict) (o := PySem.W.instObj C s.heap.objs.size) rfl
    rwa [Heap.size_push] at this
  have e3 : (s.heap.push PySem.W.emptyDict).Ns s.heap.objs.size (fun _ => none) := ⟨PySem.W.emptyDict, #[], _, e1, rfl, (fun e he => absurd he (by simp)), fun _ => rfl⟩
  have I1 := I.laid (a := s.heap.objs.size) (o := .own (s.heap.objs.size + 1)) (h' := s.heap.push PySem.W.emptyDict) (t' := s.toks) (fun b u q => Heap.get?_push_of_some _ q) (Nat.le_refl _) ⟨_, e1⟩
  refine I1.laid (a := s.heap.objs.size + 1) (o := .ins C s.heap.objs.size []) (t' := s.toks) (fun b u q => Heap.get?_push_of_some _ q) (Nat.le_of_eq (Heap.size_push _ _)) ?_
  have ne : s.heap.objs.size ≠ s.heap.objs.size + 1 := Nat.ne_of_lt (Nat.lt_succ_self _)
  refine ⟨by rw [upd_ne ne, upd_same], Nat.zero_le _, ne, e2, fun _ => none, (Heap.Ns1.of_empty e3).at fun o q => Heap.get?_push_of_some _ q, fun _ => True.intro, fun y hy => absurd rfl hy⟩

/-- e.f where nothing but the object is asked: through attributeBase (super) and the last hold -/
theorem attr_of {prog : Program} {w : World} {env : Env} {e : Expr} {f : Str} {pos : Pos} {s : Shared} {Q : Value → Shared → Prop} (hb : attributeBase e f env (eval e env) = eval e env)
    (h : wpAny (model prog w) A (eval e env) (fun o s₁ => wpAny (model prog w) A (getAttr o f true) Q E s₁) E s) : wpAny (model prog w) A (eval (.Attribute e f pos) env) Q E s :=
  Attribute_any_ h (by rw [arm_eval_Attribute, hb])
end

/-! ### readings and rules -/
/-- e.f, an attribute of the instance -/
def tFld (K : PySem.W.Frag) (ta : TE) (f : Str) : TE := fun σ H Q => ta σ H fun x H1 => ∃ a C dx fs v, x = .ref a ∧ H1 a = some (.ins C dx fs) ∧ Cls K C ∧ NoAttr K C f ∧ fs.lookup f = some v ∧ Q v H1
/-- e.f, a constant of the class -/
def tCon (K : PySem.W.Frag) (ta : TE) (f : Str) : TE := fun σ H Q => ta σ H fun x H1 => ∃ a C dx fs v u, x = .ref a ∧ H1 a = some (.ins C dx fs) ∧ Cls K C ∧ Con K C f v u ∧ fs.lookup f = none ∧ Q v H1
/-- e.f = value -/
def sFld (K : PySem.W.Frag) (ta tv : TE) (f : Str) : TS := fun D σ H => tv σ H fun y H1 => ta σ H1 fun x H2 => ∃ a C dx fs, x = .ref a ∧ H2 a = some (.ins C dx fs) ∧ Cls K C ∧ NoAttr K C f ∧ fs.length < 1000 ∧
  D.nx σ (upd H2 a (.ins C dx (putF f y fs)))
/-- an augmented operator on two values -/
def InOp (X : Cx) (op : Operator) (rd : V → V → Hp → VK → Prop) : Prop :=
  ∀ (pins : List (Addr × Obj)) (s : Shared) (σ : St) (H : Hp) (x y : V) (u v : Value) (Q : VK), Inv X pins σ H s → RelV x u → RelV y v → rd x y H Q → wpAny (model X.prog X.w) X.A (inplaceOp op u v) (EP X pins σ Q) X.xe s
/-- e.f op= value -/
def sFldAug (K : PySem.W.Frag) (ta tv : TE) (rd : V → V → Hp → VK → Prop) (f : Str) : TS := fun D σ H => ta σ H fun x H1 => ∃ a C dx fs v, x = .ref a ∧ H1 a = some (.ins C dx fs) ∧ Cls K C ∧ NoAttr K C f ∧ fs.lookup f = some v ∧
  tv σ H1 fun y H2 => rd v y H2 fun z H3 => ∃ dx' fs', H3 a = some (.ins C dx' fs') ∧ fs'.length < 1000 ∧ D.nx σ (upd H3 a (.ins C dx' (putF f z fs')))

section
variable {X : Cx} {o e value : Expr} {f : Str} {pos pos' tpos : Pos} {ta tv : TE}
theorem pe_fld (he : PE X e ta) (hb : attributeBase e f X.env (eval e X.env) = eval e X.env) : PE X (.Attribute e f pos) (tFld X.K ta f) := by
  intro pins s σ H Q I h
  refine attr_of hb (thn (he pins s σ H _ I h) fun u s1 ⟨x, H1, I1, rx, a, C, dx, fs, v, ex, ea, c, n, l, q⟩ => ?_)
  subst ex
  obtain rfl : u = Value.ref a := rx
  exact getattr_ok I1 ea c n l fun u' s2 I2 ru => ⟨v, H1, I2, ru, q⟩
theorem ps_fld (ha : PE X o ta) (hv : PE X value tv) (hs : swapsWith value (some (.Attribute o f pos')) pos.line X.env = pure false) : PS X (.Assign [.Attribute o f pos'] value pos) (sFld X.K ta tv f) := by
  intro pins s σ H D I h
  refine plainObj_wpAny_Assign_Attribute (thn (hv pins s σ H _ I h) fun u s1 ⟨y, H1, I1, ry, q⟩ => thn (ha pins s1 σ H1 _ I1 q) fun ov s2 ⟨x, H2, I2, rx, a, C, dx, fs, ex, ea, c, n, l, q2⟩ => ?_) hs
  subst ex
  obtain rfl : ov = Value.ref a := rx
  exact setattr_ok I2 ea c n l ry fun s3 I3 => ⟨σ, _, I3, q2⟩
def rAdd : V → V → Hp → VK → Prop := fun x y H Q => ∃ i j, x = .int i ∧ y = .int j ∧ Q (.int (i + j)) H
def rSub : V → V → Hp → VK → Prop := fun x y H Q => ∃ i j, x = .int i ∧ y = .int j ∧ Q (.int (i - j)) H

/-- what is between an instance and its method: the tree of a method call -/
theorem methcall_of {pl : Sem Bool} {m : Str} {apos : Pos} {args : List Expr} {pins : List (Addr × Obj)} {s : Shared} {σ : St} {H : Hp} {Q : Value → Shared → Prop} {te : TE} (he : PE X e te) (I : Inv X pins σ H s)
    (h : te σ H fun x H1 => ∃ a C dx fs g, x = .ref a ∧ H1 a = some (.ins C dx fs) ∧ Cls X.K C ∧ Meth X.K C m g ∧ fs.lookup m = none ∧
      ∀ s1, Inv X pins σ H1 s1 → wpAny (model X.prog X.w) X.A (callWith pos (.ref g) [.ref a] (backTo pos (starEach args X.env)) (backToKw pos (keywordEach [] X.env))) Q X.xe s1)
    (ht : eval (.Call (.Attribute e m apos) args [] pos) X.env = (do
      let ov ← eval e X.env
      standAt apos.atName
      let (f, first) ← holding [ov] (getMethod ov m pl)
      callWith pos f first (backTo pos (starEach args X.env)) (backToKw pos (keywordEach [] X.env)))) :
    wpAny (model X.prog X.w) X.A (eval (.Call (.Attribute e m apos) args [] pos) X.env) Q X.xe s := by
  refine PySem.W.methodCall_KW (pl := pl) (thn (he pins s σ H _ I h) fun u s1 ⟨x, H1, I1, rx, a, C, dx, fs, g, ex, ea, c, k, l, q⟩ => ?_) ht
  subst ex
  obtain rfl : u = Value.ref a := rx
  exact getmeth_ok I1 ea c k l (q s1 I1)
end

/-! ### isinstance -/
section
variable {X : Cx} {pins : List (Addr × Obj)} {σ : St} {H : Hp} {s : Shared} {A : Around} {E : Value → Shared → Prop} {Q : Value → Shared → Prop} {c : Value} {b : Bool}
/-- the type of a value, as the fragment's deciders take it; for an instance its class -/
inductive TyOf (K : PySem.W.Frag) (H : Hp) : V → Value → Prop where
  | non : TyOf K H .non (.type "NoneType")
  | bl (x : Bool) : TyOf K H (.bl x) (.type "bool")
  | int (i : Int) : TyOf K H (.int i) (.type "int")
  | str (x : Str) : TyOf K H (.str x) (.type "str")
  | flt (x : UInt64) : TyOf K H (.flt x) (.type "float")
  | lst {a : Addr} {xs : List V} (e : H a = some (.lst xs)) : TyOf K H (.ref a) (.type "list")
  | frz {a : Addr} {o : Obj} {xs : List V} (e : H a = some (.frz o (.lst xs))) : TyOf K H (.ref a) (.type "list")
  | tup {a : Addr} {xs : List V} (e : H a = some (.tup xs)) : TyOf K H (.ref a) (.type "tuple")
  | dK {a : Addr} {kvs : List (Key × V)} (e : H a = some (.dK kvs)) : TyOf K H (.ref a) (.type "dict")
  | dT {a : Addr} {kvs : List (List Key × V)} (e : H a = some (.dT kvs)) : TyOf K H (.ref a) (.type "dict")
  | ins {a C dx : Addr} {fs : List (Str × V)} (e : H a = some (.ins C dx fs)) (cl : Cls K C) (ha : PySem.W.findIn K (.ref C) "__class__" = some (some (.builtin "object.__class__")))
      (hn : PySem.W.specialIn K (.builtin "object.__class__") "__get__" = some (some (.builtin "getset_descriptor.__get__"))) (htk : PySem.W.takesIn K (.builtin "object.__class__") = some true)
      (hm : PySem.W.mroIn K C (.type "object") = some true) : TyOf K H (.ref a) (.ref C)
end
end L2

namespace L2
open PySem PySem.Spec PyProof.Rows

/-! ### room -/
structure Room (k : Nat) (A : Around) : Prop where
  hd : A.handled = none
  dp : A.depth + 3 * k + 5 < recursionLimit
  un : A.units + 16 * k + 200 < cLine
theorem Room.mono {j k : Nat} {A : Around} (r : Room k A) (h : j ≤ k) : Room j A := ⟨r.hd, by have := r.dp; omega, by have := r.un; omega⟩
theorem Room.deeper {k : Nat} {A : Around} (r : Room (k + 1) A) (env : Env) : Room k (A.deeper env) :=
  ⟨r.hd, by have := r.dp; show A.depth + 1 + 3 * k + 5 < _; omega, by have := r.un; show A.units + 3 + 16 * k + 200 < _; omega⟩
theorem make_depth {A : Around} {C : Addr} {us : List Value} {kw : List (Str × Value)} : (A.under (.builtin "type.__call__" ⟨.ref C :: us, kw⟩)).depth = A.depth + 1 := by
  first | rfl | simp [Around.under, Code.weight, Code.isCreation, Code.isGuard, Code.isCaller, Code.frames, Code.isFrame, guardIds]
theorem make_units {A : Around} {C : Addr} {us : List Value} {kw : List (Str × Value)} : (A.under (.builtin "type.__call__" ⟨.ref C :: us, kw⟩)).units = A.units + 1 := by
  first | rfl | simp [Around.under, Code.cUnits, Code.frames, Code.isFrame]
theorem Room.make {k : Nat} {A : Around} (r : Room (k + 1) A) (C : Addr) (us : List Value) (kw : List (Str × Value)) : Room k (A.under (.builtin "type.__call__" ⟨.ref C :: us, kw⟩)) :=
  ⟨r.hd, by have := r.dp; rw [make_depth]; omega, by have := r.un; rw [make_units]; omega⟩
theorem Room.depth {k : Nat} {A : Around} (r : Room k A) : A.depth < recursionLimit := by have := r.dp; omega

/-! ### argument lists and displays -/
def tNil : TA := fun _ H Q => Q [] H
def tCons (ta : TE) (tr : TA) : TA := fun σ H Q => ta σ H fun x H1 => tr σ H1 fun xs H2 => Q (x :: xs) H2
section
variable {X : Cx} {e : Expr} {es : List Expr} {te : TE} {t : TA} {pos : Pos}
theorem pa_nil : PA X [] tNil := fun _ _ _ _ H Q I h => Calls.spliced_nil ⟨[], H, I, .nil, h⟩
theorem pa_cons (ha : PE X e te) (hr : PA X es t) (hs : starEach (e :: es) X.env = (false, eval e X.env) :: starEach es X.env := by rfl) : PA X (e :: es) (tCons te t) := by
  intro pos pins s σ H Q I h
  rw [hs]
  show wpAny _ _ (spliced ((false, eval e X.env) :: backTo pos (starEach es X.env))) _ _ s
  refine Calls.spliced_cons (thn (ha pins s σ H _ I h) fun u s1 ⟨x, H1, I1, r1, q1⟩ => ?_)
  exact thn (hr pos pins s1 σ H1 _ I1 q1) fun us s2 ⟨xs, H2, I2, r2, q2⟩ => ⟨x :: xs, H2, I2, .cons r1 r2, q2⟩

/-- a tuple, a list of written items -/
def tTup (t : TA) : TE := fun σ H Q => t σ H fun xs H1 => xs.length ≤ sizeLine ∧ ∀ p, H1 p = none → Q (.ref p) (upd H1 p (.tup xs))
def tLst (t : TA) : TE := fun σ H Q => t σ H fun xs H1 => xs.length ≤ sizeLine ∧ ∀ p, H1 p = none → Q (.ref p) (upd H1 p (.lst xs))
theorem pe_tup {x1} (h : PA X es t) : PE X (.Tuple es x1 pos) (tTup t) := by
  intro pins s σ H Q I hq
  refine wpAny_Tuple_spliced (thn (h pos pins s σ H _ I hq) fun us s1 ⟨xs, H1, I1, r, z, q⟩ => ⟨by rw [← r.length]; exact z, ?_⟩)
  have hf : H1 s1.heap.objs.size = none := I1.hok.fresh (Nat.le_refl _)
  refine ⟨.ref s1.heap.objs.size, upd H1 s1.heap.objs.size (.tup xs), I1.laid (t' := s1.toks) (fun b u e => Heap.get?_push_of_some _ e) (Nat.le_refl _) ?_, rfl, q _ hf⟩
  exact ⟨z, us, r, ⟨_, Heap.get?_push_size _ rfl, rfl, _, rfl⟩⟩
theorem pe_lst (h : PA X es t) : PE X (.List es pos) (tLst t) := by
  intro pins s σ H Q I hq
  refine wpAny_List_spliced (thn (h pos pins s σ H _ I hq) fun us s1 ⟨xs, H1, I1, r, z, q⟩ => ⟨by rw [← r.length]; exact z, ?_⟩)
  have hf : H1 s1.heap.objs.size = none := I1.hok.fresh (Nat.le_refl _)
  refine ⟨.ref s1.heap.objs.size, upd H1 s1.heap.objs.size (.lst xs), I1.laid (t' := s1.toks) (fun b u e => Heap.get?_push_of_some _ e) (Nat.le_refl _) ?_, rfl, q _ hf⟩
  exact ⟨z, us, 0, r, Heap.get?_push_size _ rfl⟩
end

/-! ### what a def promises -/
/-- a def's promise: the bound arguments in the parameters' order, the heap, the wanted end, the wanted exception -/
abbrev Sp := List V → Hp → VK → XK → Prop
/-- how an exception lies behind a call (file 08 gives it): the callers' frames, abstract heap and state ahead of the call, the wish, the exception, the state -/
abbrev CXT := List Env → Hp → Shared → XK → Value → Shared → Prop

/-- the state at a call -/
structure Env0 (P : Program) (w : World) (K : PySem.W.Frag) (mg : Str → Option Value) (base : Heap) (A : Around) (outer : List Env) (s : Shared) (H : Hp) : Prop where
  frames : A.frames = some outer
  mod : Mod K mg base
  bs : ∀ b o, base.get? b = some o → s.heap.get? b = some o ∧ H b = none
  bsz : base.objs.size ≤ s.heap.objs.size
  funs : s.heap.FunFrames base outer
  frf : ∀ b ∈ frs outer, H b = none
  hok : HOk P w H s.heap
  bare : AllBare s.gens
/-- a call's end -/
def CE (outer : List Env) (P : Program) (w : World) (H : Hp) (s : Shared) (Q : VK) (u : Value) (s' : Shared) : Prop :=
  ∃ v H', s'.os = s.os ∧ AllBare s'.gens ∧ Un (frs outer) [] H H' s.heap s'.heap ∧ HOk P w H' s'.heap ∧ RelV v u ∧ Q v H'
def CR (CX : CXT) (outer : List Env) (P : Program) (w : World) (H : Hp) (s : Shared) (Q : VK) (E : XK) (r : Result) (s' : Shared) : Prop :=
  match r with
  | .ok (.ret u) => CE outer P w H s Q u s'
  | .ok _ => False
  | .error e => CX outer H s E e s'
structure FnOk (P : Program) (w : World) (K : PySem.W.Frag) (mg : Str → Option Value) (base : Heap) (CX : CXT) (k : Nat) (f : Addr) (fd : FuncData) (ps : List Str) (sp : Sp) : Prop where
  len : ∀ vs H Q E, sp vs H Q E → vs.length = ps.length
  run : ∀ (A : Around) (outer : List Env) (s : Shared) (H : Hp) (args : Args) (us : List Value) (vs : List V) (Q : VK) (E : XK), Room k A → Env0 P w K mg base A outer s H → BindsTo s fd args (ps.zip us) → Vals vs us → sp vs H Q E →
    codeAny (model P w) A (.call (.ref f) args) (CR CX outer P w H s Q E) s

theorem Env0.make {P : Program} {w : World} {K : PySem.W.Frag} {mg : Str → Option Value} {base : Heap} {A : Around} {outer : List Env} {s : Shared} {H : Hp} (e : Env0 P w K mg base A outer s H) (C : Addr) (us : List Value) (kw : List (Str × Value)) :
    Env0 P w K mg base (A.under (.builtin "type.__call__" ⟨.ref C :: us, kw⟩)) outer s H := ⟨by first | exact e.frames | (simpa [Around.under, Code.envs, Code.isFrame, pushEnvs] using e.frames), e.mod, e.bs, e.bsz, e.funs, e.frf, e.hok, e.bare⟩

section
variable {X : Cx} {pins : List (Addr × Obj)} {σ : St} {H : Hp} {s s' : Shared}
/-- from a body: what a callee wants -/
theorem Inv.env0 (I : Inv X pins σ H s) : Env0 X.prog X.w X.K X.mg X.base X.A X.stack s H :=
  ⟨I.ok.frames, I.ok.mod, I.bs, Nat.le_trans I.ok.bsz I.sz, I.stack, I.stkFree, I.hok, I.bare⟩
/-- behind a call -/
theorem Inv.after {Q : VK} {u : Value} (I : Inv X pins σ H s) (h : CE X.stack X.prog X.w H s Q u s') : EP X pins σ Q u s' := by
  obtain ⟨v, H', os, bare, un, hok, r, q⟩ := h
  obtain ⟨hh, g, d, t, os'⟩ := s'
  obtain rfl : os' = s.os := os
  exact ⟨v, H', I.call (h' := hh) (g' := g) (d' := d) (t' := t) (ch := []) un hok bare (fun b z => absurd z (by simp)), r, q⟩
end

/-! ### calls -/
/-- f(..): the written arguments, then the defaults dvs; E: what is wanted of an exception -/
def tCall (sp : Sp) (dvs : List V) (E : XK) (t : TA) : TE := fun σ H Q => t σ H fun vs H1 => sp (vs ++ dvs) H1 Q E
/-- o.m(..) of an instance of the class at C -/
def tMeth (C : Addr) (m : Str) (sp : Sp) (dvs : List V) (E : XK) (ta : TE) (t : TA) : TE := fun σ H Q => ta σ H fun x H1 => ∃ a dx fs, x = .ref a ∧ H1 a = some (.ins C dx fs) ∧ fs.lookup m = none ∧
  t σ H1 fun vs H2 => sp (x :: (vs ++ dvs)) H2 Q E
/-- C(..): a new instance and its dict, then __init__ -/
def tMake (C : Addr) (sp : Sp) (dvs : List V) (E : XK) (t : TA) : TE := fun σ H Q => t σ H fun vs H1 => ∀ x dx, H1 x = none → H1 dx = none → dx ≠ x →
  sp (.ref x :: (vs ++ dvs)) (upd (upd H1 dx (.own x)) x (.ins C dx [])) (fun v H2 => v = .non ∧ Q (.ref x) H2) E

/-- how the parameters are bound: us the positional arguments, kw the keywords' values by name, ds the defaults that fill up -/
def Binds (K : PySem.W.Frag) (fd : FuncData) (ps : List Str) (ds : List Value) : Prop :=
  ∀ (s : Shared) (us : List Value), K.In s.heap → (us ++ ds).length = ps.length → BindsTo s fd ⟨us, []⟩ (ps.zip (us ++ ds))
/-- every parameter is given -/
theorem Binds.all {K : PySem.W.Frag} {fd : FuncData} {ps : List Str} (h : ∀ us : List Value, us.length = ps.length → bindArgs fd ⟨us, []⟩ = pure (ps.zip us)) : Binds K fd ps [] := fun s us _ hl => by
  rw [List.append_nil] at hl ⊢
  exact .of_eq (h us hl)

/-- an exception of a callee reaches what this body wants of exceptions -/
def Passes (CX : CXT) (X : Cx) (E : XK) : Prop := ∀ (pins : List (Addr × Obj)) (σ : St) (H : Hp) (s : Shared) (e : Value) (s' : Shared), Inv X pins σ H s → CX X.stack H s E e s' → X.xe e s'

section
variable {X : Cx} {CX : CXT} {k : Nat} {f C : Addr} {fd : FuncData} {ps : List Str} {sp : Sp} {dvs : List V} {ds : List Value} {E : XK} {x m : Str} {p pos apos : Pos} {e o : Expr} {es : List Expr} {ta : TE} {t : TA}

/-- the callee runs -/
theorem run_fn {pins : List (Addr × Obj)} {σ : St} {H : Hp} {s : Shared} {Q : VK} {us : List Value} {vs : List V} (F : FnOk X.prog X.w X.K X.mg X.base CX k f fd ps sp) (hr : Room k X.A) (hb : Binds X.K fd ps ds) (hd : Vals dvs ds) (hx : Passes CX X E)
    (I : Inv X pins σ H s) (r : Vals vs us) (h : sp (vs ++ dvs) H Q E) : wpAny (model X.prog X.w) X.A (call (.ref f) us) (EP X pins σ Q) X.xe s := by
  have r2 : Vals (vs ++ dvs) (us ++ ds) := r.append hd
  have hl : (us ++ ds).length = ps.length := by rw [← r2.length]; exact F.len _ _ _ _ h
  refine wpAny_call (codeAny_mono (F.run X.A X.stack s H ⟨us, []⟩ (us ++ ds) (vs ++ dvs) Q E hr I.env0 (hb s us I.kIn hl) r2 h) fun r s' hq => ?_)
  cases r with
  | error e => exact hx pins σ H s e s' I hq
  | ok fl =>
    cases fl with
    | ret u => exact I.after hq
    | next => exact False.elim hq
    | brk => exact False.elim hq
    | cont => exact False.elim hq

theorem pe_call (F : FnOk X.prog X.w X.K X.mg X.base CX k f fd ps sp) (hr : Room k X.A) (hg : Gl X x) (hm : X.mg x = some (.ref f)) (hk : PySem.W.keepIn X.K (.ref f) = true) (hb : Binds X.K fd ps ds) (hd : Vals dvs ds) (hx : Passes CX X E)
    (ha : PA X (e :: es) t) (hdb : (x == ("__debug__" : Str)) = false := by decide) (he : starEach (e :: es) X.env = (false, eval e X.env) :: starEach es X.env := by rfl) (hpl : (backTo pos (starEach es X.env)).any (·.1) = false := by rfl) :
    PE X (.Call (.Name x p) (e :: es) [] pos) (tCall sp dvs E t) := by
  intro pins s σ H Q I h
  refine wpAny_Call_Name_kw (ld_glob I hg hm ?_ hdb)
  refine PySem.W.callWith_K (h₀ := X.base) I.ok.mod.kin hk (thn (ha pos pins s σ H _ I h) fun us s1 ⟨vs, H1, I1, r, q⟩ => ⟨I1.kIn, ?_⟩) he hpl
  exact run_fn F hr hb hd hx I1 r q

/-- o.m() -/
theorem pe_meth0 {pl : Sem Bool} (he : PE X o ta) (c : Cls X.K C) (hm : Meth X.K C m f) (F : FnOk X.prog X.w X.K X.mg X.base CX k f fd ps sp) (hr : Room k X.A) (hb : Binds X.K fd ps ds) (hd : Vals dvs ds) (hx : Passes CX X E)
    (ht : eval (.Call (.Attribute o m apos) [] [] pos) X.env = (do
      let ov ← eval o X.env
      standAt apos.atName
      let (f, first) ← holding [ov] (getMethod ov m pl)
      callWith pos f first (backTo pos (starEach [] X.env)) (backToKw pos (keywordEach [] X.env))) := by rfl) :
    PE X (.Call (.Attribute o m apos) [] [] pos) (tMeth C m sp dvs E ta tNil) := by
  intro pins s σ H Q I h
  refine PySem.W.methodCall_KW (pl := pl) (thn (he pins s σ H _ I h) fun u s1 ⟨x, H1, I1, rx, a, dx, fs, ex, ea, l, q⟩ => ?_) ht
  subst ex
  obtain rfl : u = Value.ref a := rx
  refine getmeth_ok I1 ea c hm l ?_
  exact PySem.W.callWith_K0 (first := [.ref a]) I1.kIn hm.kp (run_fn (us := [.ref a]) (vs := [.ref a]) F hr hb hd hx I1 (.cons rfl .nil) q)

/-- what a class must have to be made -/
structure Mk (K : PySem.W.Frag) (C f : Addr) : Prop where
  makes : PySem.W.makesIn K C = true
  init : PySem.W.findIn K (.ref C) "__init__" = some (some (.ref f))
  fn : PySem.W.isFn K (.ref f) = true
  kp : PySem.W.keepIn K (.ref C) = true

theorem run_make {pins : List (Addr × Obj)} {σ : St} {H : Hp} {s : Shared} {Q : VK} {us : List Value} {vs : List V} (M : Mk X.K C f) (F : FnOk X.prog X.w X.K X.mg X.base CX k f fd ps sp) (hr : Room (k + 1) X.A) (hb : Binds X.K fd ps ds) (hd : Vals dvs ds)
    (hx : Passes CX X E) (I : Inv X pins σ H s) (r : Vals vs us)
    (h : ∀ x dx, H x = none → H dx = none → dx ≠ x → sp (.ref x :: (vs ++ dvs)) (upd (upd H dx (.own x)) x (.ins C dx [])) (fun v H2 => v = .non ∧ Q (.ref x) H2) E) :
    wpAny (model X.prog X.w) X.A (call (.ref C) us) (EP X pins σ Q) X.xe s := by
  have hq := h (s.heap.objs.size + 1) s.heap.objs.size (I.hok.fresh (Nat.le_succ _)) (I.hok.fresh (Nat.le_refl _)) (Nat.ne_of_lt (Nat.lt_succ_self _))
  have I2 := Inv.made (C := C) I
  have r2 : Vals (V.ref (s.heap.objs.size + 1) :: (vs ++ dvs)) (Value.ref (s.heap.objs.size + 1) :: (us ++ ds)) := .cons rfl (r.append hd)
  have hl : (Value.ref (s.heap.objs.size + 1) :: us ++ ds).length = ps.length := by
    have e := r2.length
    rw [F.len _ _ _ _ hq] at e
    exact e.symm
  refine wpAny_call (make_map (f := f) I.kIn M.makes M.init (beq_iff_eq.mp M.fn) (codeAny_mono (F.run _ X.stack _ _ ⟨Value.ref (s.heap.objs.size + 1) :: us, []⟩ (Value.ref (s.heap.objs.size + 1) :: (us ++ ds)) _ _ E (hr.make C us [])
    (I2.env0.make C us []) (hb _ (Value.ref (s.heap.objs.size + 1) :: us) I2.kIn hl) r2 hq) fun r s' hq' => ?_))
  cases r with
  | error e => exact hx pins σ _ _ e s' I2 hq'
  | ok fl =>
    cases fl with
    | ret u =>
      obtain ⟨v, H', I3, rv, ev, q3⟩ := I2.after hq'
      subst ev
      exact ⟨rv, ⟨V.ref (s.heap.objs.size + 1), H', I3, rfl, q3⟩⟩
    | next => exact False.elim hq'
    | brk => exact False.elim hq'
    | cont => exact False.elim hq'
theorem pe_make (M : Mk X.K C f) (F : FnOk X.prog X.w X.K X.mg X.base CX k f fd ps sp) (hr : Room (k + 1) X.A) (hg : Gl X x) (hm : X.mg x = some (.ref C)) (hb : Binds X.K fd ps ds) (hd : Vals dvs ds) (hx : Passes CX X E)
    (ha : PA X (e :: es) t) (hdb : (x == ("__debug__" : Str)) = false := by decide) (he : starEach (e :: es) X.env = (false, eval e X.env) :: starEach es X.env := by rfl) (hpl : (backTo pos (starEach es X.env)).any (·.1) = false := by rfl) :
    PE X (.Call (.Name x p) (e :: es) [] pos) (tMake C sp dvs E t) := by
  intro pins s σ H Q I h
  refine wpAny_Call_Name_kw (ld_glob I hg hm ?_ hdb)
  refine PySem.W.callWith_K (h₀ := X.base) I.ok.mod.kin M.kp (thn (ha pos pins s σ H _ I h) fun us s1 ⟨vs, H1, I1, r, q⟩ => ⟨I1.kIn, ?_⟩) he hpl
  exact run_make M F hr hb hd hx I1 r q
end

/-! ### keywords -/
/-- the values of the keywords, from the left -/
def PK (X : Cx) (kws : List Keyword) (t : TA) : Prop :=
  ∀ (pos : Pos) (pins : List (Addr × Obj)) (s : Shared) (σ : St) (H : Hp) (Q : List V → Hp → Prop), Inv X pins σ H s → t σ H Q → wpAny (model X.prog X.w) X.A (evalAll ((backToKw pos (keywordEach kws X.env)).map (·.2))) (AP X pins σ Q) X.xe s
section
variable {X : Cx} {CX : CXT} {k : Nat} {f C : Addr} {fd : FuncData} {ps ks : List Str} {sp : Sp} {E : XK} {x m : Str} {p pos apos kpos : Pos} {e o : Expr} {es : List Expr} {kws : List Keyword} {te ta : TE} {t tk : TA} {nm : Option Str}

/-- how a call with keywords binds: g puts the positional values us and the keywords' values ws (names ks) in the parameters' order, defaults among them -/
structure KBinds (K : PySem.W.Frag) (fd : FuncData) (ps ks : List Str) (g : List Value → List Value → List Value) (gV : List V → List V → List V) : Prop where
  to : ∀ (s : Shared) (us ws : List Value), K.In s.heap → (g us ws).length = ps.length → BindsTo s fd ⟨us, ks.zip ws⟩ (ps.zip (g us ws))
  rel : ∀ {vs : List V} {us : List Value} {zs : List V} {ws : List Value}, Vals vs us → Vals zs ws → Vals (gV vs zs) (g us ws)
def tCallK (sp : Sp) (gV : List V → List V → List V) (E : XK) (t tk : TA) : TE := fun σ H Q => t σ H fun vs H1 => tk σ H1 fun zs H2 => sp (gV vs zs) H2 Q E
variable {g : List Value → List Value → List Value} {gV : List V → List V → List V}
end

/-! ### a def's body keeps its promise -/
/-- names: the parameters first -/
structure FnScope (N P : List Str) (sc : Scope) : Prop where
  kind : sc.kind = .function
  co : sc.isCoroutine = false
  gen : sc.isGenerator = false
  nd : N.Nodup
  pre : N.take P.length = P
  par : ∀ x ∈ P, sc.names.lookup x = some .local ∨ sc.names.lookup x = some .cell
  nofree : ∀ y ∈ sc.names, y.2 ≠ .free

theorem bindL_out {kindOf : Str → Option NameKind} {x : Str} : ∀ {binds : List (Str × Value)} {m : Str → Option Value}, (∀ v, (x, v) ∉ binds) → bindL kindOf binds m x = m x
  | [], _, _ => rfl
  | (n, v) :: r, m, h => by
    unfold bindL
    rw [bindL_out fun w hw => h w (List.mem_cons_of_mem _ hw)]
    split
    · have : x ≠ n := by rintro rfl; exact h v List.mem_cons_self
      simp [this]
    · rfl
theorem bindC_out {kindOf : Str → Option NameKind} {x : Str} : ∀ {binds : List (Str × Value)} {m : Str → Option Value}, (∀ v, (x, v) ∉ binds) → bindC kindOf binds m x = m x
  | [], _, _ => rfl
  | (n, v) :: r, m, h => by
    unfold bindC
    rw [bindC_out fun w hw => h w (List.mem_cons_of_mem _ hw)]
    split
    · rfl
    · have : x ≠ n := by rintro rfl; exact h v List.mem_cons_self
      simp [this]
theorem bindL_get {kindOf : Str → Option NameKind} {x : Str} {v : Value} : ∀ {P : List Str} {vs : List Value} {i : Nat} {m : Str → Option Value}, P.Nodup → P[i]? = some x → vs[i]? = some v → kindOf x = some .local →
    bindL kindOf (P.zip vs) m x = some v
  | [], _, _, _, _, h, _, _ => by simp at h
  | _ :: _, [], _, _, _, _, h, _ => by simp at h
  | p :: P, w :: vs, 0, m, nd, h1, h2, hk => by
    simp at h1 h2; subst h1; subst h2
    show bindL kindOf ((p, w) :: P.zip vs) m p = _
    unfold bindL
    rw [bindL_out fun v hv => (List.nodup_cons.mp nd).1 (List.of_mem_zip hv).1, if_pos hk]
    simp
  | p :: P, w :: vs, i + 1, m, nd, h1, h2, hk => by
    show bindL kindOf ((p, w) :: P.zip vs) m x = _
    unfold bindL
    exact bindL_get (i := i) (List.nodup_cons.mp nd).2 (by simpa using h1) (by simpa using h2) hk
theorem bindC_get {kindOf : Str → Option NameKind} {x : Str} {v : Value} : ∀ {P : List Str} {vs : List Value} {i : Nat} {m : Str → Option Value}, P.Nodup → P[i]? = some x → vs[i]? = some v → kindOf x ≠ some .local →
    bindC kindOf (P.zip vs) m x = some v
  | [], _, _, _, _, h, _, _ => by simp at h
  | _ :: _, [], _, _, _, _, h, _ => by simp at h
  | p :: P, w :: vs, 0, m, nd, h1, h2, hk => by
    simp at h1 h2; subst h1; subst h2
    show bindC kindOf ((p, w) :: P.zip vs) m p = _
    unfold bindC
    rw [bindC_out fun v hv => (List.nodup_cons.mp nd).1 (List.of_mem_zip hv).1, if_neg hk]
    simp
  | p :: P, w :: vs, i + 1, m, nd, h1, h2, hk => by
    show bindC kindOf ((p, w) :: P.zip vs) m x = _
    unfold bindC
    exact bindC_get (i := i) (List.nodup_cons.mp nd).2 (by simpa using h1) (by simpa using h2) hk

/-- the names' values at the entry -/
def start (N : List Str) (vs : List V) : St := vs.map some ++ List.replicate (N.length - vs.length) none

/-- the context of a def's body, at its entry; an exception leaves the frame, then lies as CX says -/
def cxOf (CX : CXT) (P : Program) (w : World) (K : PySem.W.Frag) (mg : Str → Option Value) (base : Heap) (N : List Str) (qual : Str) (scope : Scope) (f : Addr) (cd : Value) (A : Around) (outer : List Env) (s : Shared) (H : Hp) (E : XK) : Cx where
  prog := P
  w := w
  K := K
  mg := mg
  base := base
  A := A.deeper (envOfC qual scope s.heap.objs.size f cd)
  N := N
  s₀ := s
  H₀ := H
  env := envOfC qual scope s.heap.objs.size f cd
  outer := outer
  stack := envOfC qual scope s.heap.objs.size f cd :: outer
  ex := []
  calm := true
  fn := fun _ => true
  pn := []
  xe := fun e s' => wpAny (model P w) (A.deeper (envOfC qual scope s.heap.objs.size f cd)) (leaving (envOfC qual scope s.heap.objs.size f cd) e) (fun _ s'' => CX outer H s E e s'') (fun e' s'' => CX outer H s E e' s'') s'

theorem cell_has {sc : Scope} {n : Nat} {x : Str} (h : sc.names.lookup x = some .cell) : ∃ c, (cellsFrom n sc.names []).lookup x = some c := by
  have q := PySem.W.cellsFrom_some sc.names n [] (.inl h)
  exact Option.isSome_iff_exists.mp q

theorem inv_start {CX : CXT} {P : Program} {w : World} {K : PySem.W.Frag} {mg : Str → Option Value} {base : Heap} {N ps : List Str} {qual : Str} {scope : Scope} {f : Addr} {cd : Value} {A : Around} {outer : List Env} {s s1 : Shared} {H : Hp} {E : XK} {us : List Value} {vs : List V}
    (S : FnScope N ps scope) (hd : A.handled = none) (e0 : Env0 P w K mg base A outer s H) (hl : vs.length = ps.length) (r : Vals vs us)
    (x : InCallC s s.heap.objs.size (bindL (envOfC qual scope s.heap.objs.size f cd).kindOf (ps.zip us) fun _ => none) (cellsFrom (s.heap.objs.size + 1) scope.names []) (bindC (envOfC qual scope s.heap.objs.size f cd).kindOf (ps.zip us) fun _ => none) s1) :
    Inv (cxOf CX P w K mg base N qual scope f cd A outer s H E) [] (start N vs) H s1 := by
  have hpl : ps.length ≤ N.length := by have := congrArg List.length S.pre; rw [List.length_take] at this; omega
  obtain ⟨h1, tk, rfl, hk⟩ := x.done
  have noA : ∀ b : Addr, b ∉ (cxOf CX P w K mg base N qual scope f cd A outer s H E).ex := fun b z => absurd (show b ∈ ([] : List Addr) from z) (by simp)
  refine ⟨⟨e0.mod, S.kind, rfl, rfl, Nat.le_refl _, fun y z c h1 h2 => ?_, fun y hy => ?_, fun y c _ h => ?_, fun _ => hd, Around.frames_deeper e0.frames, .inr ⟨rfl, rfl⟩, fun b z => absurd z (noA b), e0.bs, e0.bsz, fun b _ _ => noA b, fun b z => absurd z (noA b), e0.funs, e0.frf⟩,
    rfl, e0.bare, Un.kept hk, ⟨_, x.toInCall.ns, fun i y v h1 h2 h3 => ?_⟩, fun y c h => ⟨_, x.cell y c h⟩, e0.hok.fresh (Nat.le_refl _), fun y c h => ?_, fun p hp => absurd (show p ∈ ([] : List (Addr × Obj)) from hp) (by simp), e0.hok.kept hk, ?_⟩
  · exact name_of_addr x.apart (PySem.mem_of_lookup h1) (PySem.mem_of_lookup h2)
  · have hy : scope.names.lookup y = some .cell ∨ scope.names.lookup y = some .free := hy
    rcases hy with hy | hy
    · exact cell_has hy
    · exact absurd rfl (S.nofree _ (PySem.mem_of_lookup hy))
  · exact Nat.le_of_lt (x.above y c (PySem.mem_of_lookup h))
  · have hi : i < vs.length := by
      unfold start at h2
      by_cases hi : i < vs.length
      · exact hi
      · rw [List.getElem?_append_right (by simpa using hi)] at h2
        rw [List.getElem?_replicate] at h2
        split at h2 <;> cases h2
    have ha : vs[i]? = some v := by
      unfold start at h2
      rw [List.getElem?_append_left (by simpa using hi), List.getElem?_map] at h2
      cases e : vs[i]? with
      | none => rw [e] at h2; cases h2
      | some a => rw [e] at h2; cases h2; rfl
    obtain ⟨u, hu, rv⟩ := r.get ha
    have hp : ps[i]? = some y := by
      rw [← S.pre, List.getElem?_take_of_lt (by omega)]; exact h1
    have ndP : ps.Nodup := by rw [← S.pre]; exact S.nd.sublist (List.take_sublist _ _)
    refine ⟨u, rv, ?_⟩
    rcases S.par y (List.mem_of_getElem? hp) with k | k
    · exact .inl ⟨k, bindL_get ndP hp hu k⟩
    · obtain ⟨c, e⟩ := cell_has (n := s.heap.objs.size + 1) k
      refine .inr ⟨.inl k, c, e, ?_⟩
      have q := x.cell y c e
      rw [bindC_get ndP hp hu (by show scope.names.lookup y ≠ _; rw [k]; decide)] at q
      exact q
  · exact e0.hok.fresh (Nat.le_of_lt (x.above y c (PySem.mem_of_lookup h)))
  · unfold start
    show _ = N.length
    rw [List.length_append, List.length_map, List.length_replicate]
    omega

/-- THE RULE: a def (or a method) of the text, by its body. The body's reading t is chosen for each entry; it is run at the parameters' values -/
theorem fn_of {CX : CXT} {P : Program} {w : World} {K : PySem.W.Frag} {mg : Str → Option Value} {base : Heap} {k : Nat} {f : Addr} {name qual : Str} {params : Arguments} {body : List Stmt} {scope : Scope} {dV kV doc pm cdv ct oc : Value} {an od : Option Addr}
    {osl : Array (Option Value)} {N ps : List Str} {sp : Sp} (lk : K.lookup f = some ⟨oc, od, .func (PySem.W.fnOf name qual params body scope dV kV doc pm an cdv ct), osl⟩) (hcd : PySem.W.codeIn K cdv qual = true) (S : FnScope N ps scope)
    (len : ∀ vs H Q E, sp vs H Q E → vs.length = ps.length)
    (hbody : ∀ (A : Around) (outer : List Env) (s : Shared) (H : Hp) (vs : List V) (Q : VK) (E : XK), Room k (A.deeper (envOfC qual scope s.heap.objs.size f cdv)) → sp vs H Q E →
      ∃ t, PSs (cxOf CX P w K mg base N qual scope f cdv A outer s H E) body t ∧ t { nx := fun _ H' => Q .non H', rt := Q } (start N vs) H) :
    FnOk P w K mg base CX (k + 1) f (PySem.W.fnOf name qual params body scope dV kV doc pm an cdv ct) ps sp := by
  refine ⟨len, fun A outer s H args us vs Q E hr e0 hb r hsp => ?_⟩
  have hl := len _ _ _ _ hsp
  have KX : K.In s.heap := e0.mod.kin.keeps fun b o e => (e0.bs b o e).1
  have lim : s.heap.NoLimit := e0.mod.nolimit.keeps fun b o e => (e0.bs b o e).1
  have hkind : ∀ y ∈ ps.zip us, scope.names.lookup y.1 = some .local ∨ (scope.names.lookup y.1 = some .cell ∧ ((cellsFrom (s.heap.objs.size + 1) scope.names []).lookup y.1).isSome = true) := fun ⟨n, v⟩ hy => by
    rcases S.par n (List.of_mem_zip hy).1 with q | q
    · exact .inl q
    · exact .inr ⟨q, PySem.W.cellsFrom_some _ _ _ (.inl q)⟩
  refine codeAny_call_function hr.depth (KX _ _ lk) rfl S.co S.gen rfl (PySem.W.codeRec_of KX hcd) (hb _ _ _ _ ?_)
  refine wpAny_newFunctionEnv_cells S.kind hkind fun env he s1 x => ?_
  subst he
  refine ⟨lim.keeps x.toInCall.keep, codeAny_func ?_⟩
  obtain ⟨t, ht, hq⟩ := hbody A outer s H vs Q E (hr.deeper _) hsp
  have I : Inv (cxOf CX P w K mg base N qual scope f cdv A outer s H E) [] (start N vs) H s1 := inv_start S hr.hd e0 hl r x
  refine wpAny_mono (ht [] s1 (start N vs) H _ I hq) (fun fl s' hs => ?_) fun e s' hs => hs
  have fin : ∀ {σ' : St} {H' : Hp} {v : V} {u : Value}, Inv (cxOf CX P w K mg base N qual scope f cdv A outer s H E) [] σ' H' s' → RelV v u → Q v H' → CE outer P w H s Q u s' :=
    fun {σ' H' v u} J rv q => ⟨v, H', J.os, J.bare, J.base, J.hok, rv, q⟩
  cases fl with
  | ret u =>
    obtain ⟨v, σ', H', J, rv, q⟩ := hs
    exact fin J rv q
  | next =>
    obtain ⟨σ', H', J, q⟩ := hs
    exact fin (v := V.non) (u := Value.none) J rfl q
  | brk =>
    obtain ⟨_, _, _, q⟩ := hs
    exact False.elim q
  | cont =>
    obtain ⟨_, _, _, q⟩ := hs
    exact False.elim q
end L2

namespace L2
open PySem PySem.Spec PyProof.Rows
section
variable {X : Cx} {x : Str} {p pos : Pos} {e : Expr} {es : List Expr} {t : TA} {id T : String} {r : List V → Hp → VK → Prop}

def tCB (r : List V → Hp → VK → Prop) (t : TA) : TE := fun σ H Q => t σ H fun vs H1 => r vs H1 Q
/-- f(e, ..), f a built-in function -/
theorem pe_callB (hc : CallR X (.builtin id) r) (hg : Gl X x) (hm : X.mg x = none) (hv : bootBuiltins x = some (.builtin id)) (ha : PA X (e :: es) t) (hn : x ≠ "__name__" := by decide) (hdb : (x == ("__debug__" : Str)) = false := by decide)
    (he : starEach (e :: es) X.env = (false, eval e X.env) :: starEach es X.env := by rfl) (hpl : (backTo pos (starEach es X.env)).any (·.1) = false := by rfl) : PE X (.Call (.Name x p) (e :: es) [] pos) (tCB r t) := by
  intro pins s σ H Q I h
  refine wpAny_Call_Name_kw (ld_blt I hg hm hv ?_ hn hdb)
  exact PyProof.Rows.callWith_builtin1 (thn (ha pos pins s σ H _ I h) fun us s1 ⟨vs, H1, I1, r1, q1⟩ => hc pins s1 σ H1 vs us Q I1 r1 q1) he hpl
/-- T(e, ..), T a built-in type -/
theorem pe_callTy (hc : CallR X (.type T) r) (hg : Gl X x) (hm : X.mg x = none) (hv : bootBuiltins x = some (.type T)) (ha : PA X (e :: es) t) (hn : x ≠ "__name__" := by decide) (hdb : (x == ("__debug__" : Str)) = false := by decide)
    (he : starEach (e :: es) X.env = (false, eval e X.env) :: starEach es X.env := by rfl) (hpl : (backTo pos (starEach es X.env)).any (·.1) = false := by rfl) : PE X (.Call (.Name x p) (e :: es) [] pos) (tCB r t) := by
  intro pins s σ H Q I h
  refine wpAny_Call_Name_kw (ld_blt I hg hm hv ?_ hn hdb)
  exact PyProof.Rows.callWith_type1 (thn (ha pos pins s σ H _ I h) fun us s1 ⟨vs, H1, I1, r1, q1⟩ => hc pins s1 σ H1 vs us Q I1 r1 q1) he hpl
end
end L2

namespace HT
open PySem PyProof.Rows

/-- t < u of tuples of ints -/
def lexLt : List Int → List Int → Bool
  | [], [] => false
  | [], _ :: _ => true
  | _ :: _, [] => false
  | x :: xs, y :: ys => if x = y then lexLt xs ys else decide (x < y)


section
open PySem.SeqAt
open PySem.AutoSeq1 (wpAny_loadPart')
open PySem.MeetsSeq PySem.MeetsSeq2 PySem.MeetsSeq3

end

section
variable {prog : Program} {w : World} {A : Around} {E : Value → Shared → Prop} {s : Shared}


/-- t + u, t not empty -/
theorem cat_tup {t b : Addr} {vs ws : List Value} {Q : Value → Shared → Prop} (ht : IsTup s.heap t vs.toArray) (hb : IsTup s.heap b ws.toArray) (hv : vs ≠ [])
    (h1 : ws = [] → Q (.ref t) s) (h2 : ws ≠ [] → Q (.ref s.heap.objs.size) { s with heap := s.heap.push { cls := .type "tuple", data := .seq (vs ++ ws).toArray } })
    (hsz : vs.length + ws.length ≤ sizeLine) : wpAny (model prog w) A (binaryOp .Add (.ref t) (.ref b)) Q E s := by
  obtain ⟨⟨cls, dd, data, sl⟩, ho, hc, n, hd⟩ := id ht
  obtain ⟨⟨cls2, dd2, data2, sl2⟩, ho2, hc2, n2, hd2⟩ := id hb
  simp only at hc hd hc2 hd2
  subst hc hd hc2 hd2
  have e : vs.toArray ++ ws.toArray = (vs ++ ws).toArray := by simp
  by_cases hw : ws = []
  · exact concat_meets ⟨_, ho, rfl⟩ ⟨_, ho2, rfl⟩ noFill_tuple_add seq_tuple_add PySem.F.slot_tuple_add PySem.F.entry_tuple_add (PySem.F.args_tuple_add_2 _ _)
      (tuple_addW1 t b vs.toArray ws.toArray n n2 dd dd2 sl sl2 (by simpa using hv) (by simp [hw])) ⟨ho, ho2, h1 hw⟩
  · refine concat_meets ⟨_, ho, rfl⟩ ⟨_, ho2, rfl⟩ noFill_tuple_add seq_tuple_add PySem.F.slot_tuple_add PySem.F.entry_tuple_add (PySem.F.args_tuple_add_2 _ _)
      (tuple_addW2 t b vs.toArray ws.toArray n n2 dd dd2 sl sl2 (by simpa using hv) (by simpa using hw) (by rw [List.size_toArray, List.size_toArray]; exact hsz)) ⟨ho, ho2, ?_⟩
    rw [e]
    exact h2 hw

/-! ### t[a:b], not the whole -/
/-- a slice's bound as a place among n (d where it is left out) -/
def sIx (n d : Nat) : Option Int → Nat
  | none => d
  | some v => if v < 0 then (v + (n : Int)).toNat else min v.toNat n
theorem sIx_le (n d : Nat) (hd : d ≤ n) (o : Option Int) : sIx n d o ≤ n := by
  cases o with
  | none => exact hd
  | some v =>
    show (if v < 0 then (v + (n : Int)).toNat else min v.toNat n) ≤ n
    by_cases hv : v < 0
    · rw [if_pos hv]; omega
    · rw [if_neg hv]; exact Nat.min_le_right _ _
theorem clip_eq (v : Int) (n d : Nat) : (if v < 0 then max (v + (n : Int)) 0 else min v (n : Int)) = ((sIx n d (some v) : Nat) : Int) := by
  show (if v < 0 then max (v + (n : Int)) 0 else min v (n : Int)) = (((if v < 0 then (v + (n : Int)).toNat else min v.toNat n) : Nat) : Int)
  by_cases hv : v < 0
  · simp only [if_pos hv]; omega
  · simp only [if_neg hv]; omega
theorem adjust_gen (lo hi : Option Int) (n : Nat) : Builtin.Slice.sliceAdjust lo hi 1 (n : Int) = (((sIx n 0 lo : Nat) : Int), ((sIx n n hi : Nat) : Int)) := by
  have h1 : ¬ ((1 : Int) < 0) := by omega
  unfold Builtin.Slice.sliceAdjust
  simp only [h1, if_false]
  refine Prod.ext ?_ ?_
  · cases lo with
    | none => rfl
    | some v => exact clip_eq v n 0
  · cases hi with
    | none => rfl
    | some v => exact clip_eq v n n
theorem places_gen (i j : Nat) : Builtin.Slice.slicePlaces (i : Int) (j : Int) 1 = j - i := by
  unfold Builtin.Slice.slicePlaces
  have h1 : (1 : Int) > 0 := by omega
  simp only [h1, if_true, Int.ediv_one]
  split <;> omega
theorem slicePart_ {v : Value} {o : Option Int} {Q : Option Int → Shared → Prop} (p : IsPart v o) (h : Q o s) : wpAny (model prog w) A (Builtin.Slice.slicePartIndex v) Q E s := by
  cases p with
  | none => exact slicePart_none h
  | int i t => exact slicePart_int h
theorem sliceApplied_gen {sl : Addr} {vl vu : Value} {lo hi : Option Int} {n : Nat} {Q : Int × Int × Nat → Shared → Prop} (hs : s.heap.IsSliceOf sl vl vu .none) (pl : IsPart vl lo) (pu : IsPart vu hi)
    (h : Q (((sIx n 0 lo : Nat) : Int), 1, sIx n n hi - sIx n 0 lo) s) : wpAny (model prog w) A (Builtin.Slice.sliceApplied (.ref sl) (pure (n : Int))) Q E s := by
  obtain ⟨os, hos, hcs, hds⟩ := id hs
  unfold Builtin.Slice.sliceApplied Builtin.Slice.sliceFields
  refine wpAny_bind (wpAny_bind (wpAny_field hos hds (x := vl) rfl (wpAny_bind (wpAny_field hos hds (x := vu) rfl (wpAny_bind (wpAny_field hos hds (x := .none) rfl (wpAny_pure ?_)))))))
  refine wpAny_bind (slicePart_none ?_)
  show wpAny _ _ (if ((1 : Int) == 0) = true then _ else _) _ _ s
  rw [if_neg (by decide)]
  refine wpAny_bind (slicePart_ pl (wpAny_bind (slicePart_ pu (wpAny_bind (wpAny_pure ?_)))))
  show wpAny _ _ (match Builtin.Slice.sliceAdjust lo hi 1 (n : Int) with | (lo, hi) => pure (lo, (1 : Int), Builtin.Slice.slicePlaces lo hi 1)) _ _ s
  rw [adjust_gen lo hi n]
  show wpAny _ _ (pure (((sIx n 0 lo : Nat) : Int), (1 : Int), Builtin.Slice.slicePlaces ((sIx n 0 lo : Nat) : Int) ((sIx n n hi : Nat) : Int) 1)) _ _ s
  rw [places_gen]
  exact wpAny_pure h
theorem pick_gen (xs : Array Value) (i k : Nat) : ((List.range k).filterMap fun (m : Nat) => xs[((i : Int) + (m : Int) * 1).toNat]?).toArray = ((xs.toList.drop i).take k).toArray := by
  have e : (fun (m : Nat) => xs[((i : Int) + (m : Int) * 1).toNat]?) = fun m => xs[i + m]? := by
    funext m
    have : ((i : Int) + (m : Int) * 1).toNat = i + m := by omega
    rw [this]
  rw [e]
  have := pick_run xs i k
  rw [List.filterMap_map] at this
  have e2 : ((fun x => xs[x]?) ∘ fun x => i + x) = fun m => xs[i + m]? := rfl
  rw [e2] at this
  rw [this]

theorem getItem_tuple_cut {t sl : Addr} {items : Array Value} {vl vu : Value} {lo hi : Option Int} {Q : Value → Shared → Prop} (ht : IsTup s.heap t items) (hs : s.heap.IsSliceOf sl vl vu .none) (pl : IsPart vl lo) (pu : IsPart vu hi)
    (hw : ¬ (sIx items.size 0 lo = 0 ∧ sIx items.size items.size hi = items.size))
    (h : Q (.ref s.heap.objs.size) { s with heap := s.heap.push { cls := .type "tuple", data := .seq ((items.toList.drop (sIx items.size 0 lo)).take (sIx items.size items.size hi - sIx items.size 0 lo)).toArray } })
    (hsz : items.size ≤ sizeLine) : wpAny (model prog w) A (getItem (.ref t) (.ref sl)) Q E s := by
  have htake : sizeOk (.seq ((items.toList.drop (sIx items.size 0 lo)).take (sIx items.size items.size hi - sIx items.size 0 lo)).toArray) := by
    show ((items.toList.drop (sIx items.size 0 lo)).take (sIx items.size items.size hi - sIx items.size 0 lo)).toArray.size ≤ sizeLine
    rw [List.size_toArray, List.length_take, List.length_drop, Array.length_toList]
    omega
  have hj : sIx items.size items.size hi ≤ items.size := sIx_le _ _ (Nat.le_refl _) hi
  obtain ⟨os, hos, hcs, hds⟩ := id hs
  have hTs : s.TypeIs (.ref sl) "slice" := ⟨os, hos, hcs⟩
  unfold getItem
  try with_reducible refine wpAny_holding ?_
  first | refine wpAny_bind (wpAny_pure ?_) | skip
  refine wpAny_bind (wpAny_sequenceKey ht.typeIs (by decide) ?_)
  refine wpAny_bind (wpAny_callSpecial?_slot (name := Str.ofString "__getitem__") ht.typeIs PyProof.Rows.slot_tuple_getitem
    (wpAny_call_entry PyProof.Rows.slot_tuple_getitem ht.typeIs entry_tuple_getitem ?_ (args_tuple_getitem _ _)))
  show wpAny _ _ (Builtin.Tuple.tupleItemsOf (.ref t) >>= _) _ _ s
  refine wpAny_bind (tupleItemsOf_ ht ?_)
  refine wpAny_bind (wpAny_typeOf hTs ?_)
  rw [if_pos (by decide)]
  refine wpAny_bind (sliceApplied_gen hs pl pu ?_)
  have hno : ¬ ((((sIx items.size 0 lo : Nat) : Int) == 0 && (1 : Int) == 1 && (sIx items.size items.size hi - sIx items.size 0 lo) == items.size) = true) := by
    intro q
    rw [Bool.and_eq_true, Bool.and_eq_true] at q
    have q1 : ((sIx items.size 0 lo : Nat) : Int) = 0 := eq_of_beq q.1.1
    have q2 : sIx items.size items.size hi - sIx items.size 0 lo = items.size := eq_of_beq q.2
    exact hw ⟨by omega, by omega⟩
  show wpAny _ _ (if (((sIx items.size 0 lo : Nat) : Int) == 0 && (1 : Int) == 1 && (sIx items.size items.size hi - sIx items.size 0 lo) == items.size) = true then _ else _) _ _ s
  rw [if_neg hno, pick_gen]
  first
    | exact wpAny_bind (m := Builtin.Tuple.tupleExact _) (wpAny_newObj_type (wpAny_pure ⟨_, rfl, wpAny_pure h⟩) htake)
    | exact wpAny_bind (m := Builtin.Tuple.tupleExact _) (wpAny_newObj_type (wpAny_bind (wpAny_pure (wpAny_pure ⟨_, rfl, wpAny_pure h⟩))) htake)
    | exact wpAny_bind (wpAny_bind (m := Builtin.Tuple.tupleExact _) (wpAny_newObj_type (wpAny_pure (wpAny_pure ⟨_, rfl, wpAny_pure h⟩)) htake))
    | exact wpAny_bind (wpAny_bind (m := Builtin.Tuple.tupleExact _) (wpAny_newObj_type (wpAny_pure ⟨_, rfl, wpAny_pure h⟩) htake))
end
end HT

namespace L2
open PySem PySem.Spec PyProof.Rows

/-! ### the parts of a slice -/
abbrev TO := St → Hp → (Option Int → Hp → Prop) → Prop
/-- a slice's part (left out, or an int) -/
def PO (X : Cx) (e : Option Expr) (t : TO) : Prop :=
  ∀ (pins : List (Addr × Obj)) (s : Shared) (σ : St) (H : Hp) (Q : Option Int → Hp → Prop), Inv X pins σ H s → t σ H Q →
    wpAny (model X.prog X.w) X.A (evalPart e X.env) (fun u s' => ∃ o H', Inv X pins σ H' s' ∧ IsPart u o ∧ Q o H') X.xe s
def tNoPart : TO := fun _ H Q => Q none H
def tPart (t : TE) : TO := fun σ H Q => t σ H fun x H1 => ∃ i, x = .int i ∧ Q (some i) H1

theorem intsAre_of {ns : List Int} : ∀ {us : List Value}, Vals (ns.map V.int) us → IntsAre us ns := by
  induction ns with
  | nil => intro us r; rw [List.map_nil] at r; cases r; exact .nil
  | cons n ns ih =>
    intro us r
    rw [List.map_cons] at r
    cases r with
    | cons r1 r2 =>
      obtain ⟨t, e⟩ := r1
      subst e
      exact .cons n t (ih r2)

section
variable {X : Cx} {e : Expr} {te : TE} {lo hi : Option Expr} {tl th : TO} {pos p2 : Pos}

theorem po_none : PO X none tNoPart := by
  intro pins s σ H Q I h
  rw [evalPart_none]
  exact wpAny_pure ⟨none, H, I, .none, h⟩
theorem po_some (h : PE X e te) : PO X (some e) (tPart te) := by
  intro pins s σ H Q I hw
  rw [evalPart_some]
  refine thn (h pins s σ H _ I hw) fun u s1 ⟨x, H1, I1, r1, q1⟩ => ?_
  obtain ⟨i, rfl, q⟩ := q1
  obtain ⟨t, rfl⟩ := r1
  exact ⟨some i, H1, I1, .int i t, q⟩

/-- what a slice of a value is, by values: the slice object stands at sl -/
def SlR (X : Cx) (r : V → Option Int → Option Int → Hp → VK → Prop) : Prop :=
  ∀ (pins : List (Addr × Obj)) (s : Shared) (σ : St) (H : Hp) (x : V) (v vl vu : Value) (lo hi : Option Int) (sl : Addr) (Q : VK), Inv X pins σ H s → RelV x v → s.heap.IsSliceOf sl vl vu .none → IsPart vl lo → IsPart vu hi → r x lo hi H Q →
    ∃ T id, typeLookup (.type T) "__getitem__" = pure (some (.builtin id)) ∧ s.TypeIs v T ∧ wpAny (model X.prog X.w) X.A (getItem v (.ref sl)) (EP X pins σ Q) X.xe s
def tSl (r : V → Option Int → Option Int → Hp → VK → Prop) (te : TE) (tl th : TO) : TE := fun σ H Q => te σ H fun x H1 => tl σ H1 fun l H2 => th σ H2 fun u H3 => r x l u H3 Q
/-- a[lo:hi], any a -/
theorem pe_slice {r : V → Option Int → Option Int → Hp → VK → Prop} (hr : SlR X r) (he : PE X e te) (hl : PO X lo tl) (hu : PO X hi th) : PE X (.Subscript e (.Slice lo hi none p2) pos) (tSl r te tl th) := by
  intro pins s σ H Q I h
  refine Subscript_ (thn (he pins s σ H _ I h) fun v s1 ⟨x, H1, I1, r1, q1⟩ => ?_)
  refine wpAny_Slice (thn (hl pins s1 σ H1 _ I1 q1) fun vl s2 ⟨l, H2, I2, pl, q2⟩ => thn (hu pins s2 σ H2 _ I2 q2) fun vu s3 ⟨u, H3, I3, pu, q3⟩ => ?_)
  rw [evalPart_none]
  refine wpAny_pure ?_
  have I4 : Inv X pins σ H3 { s3 with heap := s3.heap.push { cls := .type "slice", data := .fields #[vl, vu, .none] } } := I3.kept (t' := s3.toks) fun b ob q => Heap.get?_push_of_some _ q
  obtain ⟨T, id, hT, ht, hg⟩ := hr pins { s3 with heap := s3.heap.push { cls := .type "slice", data := .fields #[vl, vu, .none] } } σ H3 x v vl vu l u s3.heap.objs.size Q I4 r1 (Heap.IsSliceOf.new ..) pl pu q3
  show wpAny (model X.prog X.w) X.A (subscriptTail e (.Slice lo hi none p2) v (.ref s3.heap.objs.size)) (EP X pins σ Q) X.xe { s3 with heap := s3.heap.push { cls := .type "slice", data := .fields #[vl, vu, .none] } }
  exact tail_any (ops := [.ref s3.heap.objs.size, v]) ht hT hg (by with_unfolding_all rfl)

/-- the items of xs[lo:hi] -/
def cutV (xs : List V) (lo hi : Option Int) : List V := (xs.drop (HT.sIx xs.length 0 lo)).take (HT.sIx xs.length xs.length hi - HT.sIx xs.length 0 lo)
theorem cutV_length (xs : List V) (lo hi : Option Int) : (cutV xs lo hi).length ≤ xs.length := by
  unfold cutV
  rw [List.length_take, List.length_drop]
  omega
/-- t[lo:hi], not the whole of it (the whole would be t itself) -/
def rSlT (K : PySem.W.Frag) : V → Option Int → Option Int → Hp → VK → Prop := fun x lo hi H Q => ∃ a xs, x = .ref a ∧ SqT K H a xs ∧
  ¬ (HT.sIx xs.length 0 lo = 0 ∧ HT.sIx xs.length xs.length hi = xs.length) ∧ ∀ p, H p = none → Q (.ref p) (upd H p (.tup (cutV xs lo hi)))
theorem sl_tup : SlR X (rSlT X.K) := by
  intro pins s σ H x v vl vu lo hi sl Q I rx hs pl pu h
  obtain ⟨a, xs, rfl, hx, hw, q⟩ := h
  cases rx
  obtain ⟨its, r, ht, hz⟩ := I.tuple hx
  have hlen : its.toArray.size = xs.length := by rw [List.size_toArray]; exact r.length.symm
  refine ⟨"tuple", _, PyProof.Rows.slot_tuple_getitem.lookup, ht.typeIs, ?_⟩
  refine HT.getItem_tuple_cut ht hs pl pu (by rw [hlen]; exact hw) ?_ (by rw [hlen]; exact hz)
  rw [hlen]
  refine ⟨.ref s.heap.objs.size, _, I.laid (t' := s.toks) (o := .tup (cutV xs lo hi)) (fun b ob q => Heap.get?_push_of_some _ q) (Nat.le_refl _) ?_, rfl, q _ (I.hok.fresh (Nat.le_refl _))⟩
  exact ⟨Nat.le_trans (cutV_length xs lo hi) hz, _, (r.drop (HT.sIx xs.length 0 lo)).take (HT.sIx xs.length xs.length hi - HT.sIx xs.length 0 lo), IsTup.new _ _⟩

/-! ### t < u, t + u -/
def rLtT (K : PySem.W.Frag) : R2 := fun x y H Q => ∃ a b ns ms, x = .ref a ∧ y = .ref b ∧ SqT K H a (ns.map V.int) ∧ SqT K H b (ms.map V.int) ∧ Q (.bl (HT.lexLt ns ms)) H
/-- t + u, t not empty: u empty gives t itself -/
def rCatT (K : PySem.W.Frag) : R2 := fun x y H Q => ∃ a b xs ys, x = .ref a ∧ y = .ref b ∧ SqT K H a xs ∧ SqT K H b ys ∧ xs ≠ [] ∧ xs.length + ys.length ≤ sizeLine ∧
  (ys = [] → Q (.ref a) H) ∧ (ys ≠ [] → ∀ p, H p = none → Q (.ref p) (upd H p (.tup (xs ++ ys))))
theorem Vals.nil_iff {xs : List V} {us : List Value} (r : Vals xs us) : us = [] ↔ xs = [] := by
  cases r with
  | nil => simp
  | cons _ _ => simp
theorem op_catT : OpR X (binaryOp .Add) (rCatT X.K) := by
  intro pins s σ H x y v u Q I rx ry h
  obtain ⟨a, b, xs, ys, rfl, rfl, ha, hb, hx, hz, q1, q2⟩ := h
  cases rx
  cases ry
  obtain ⟨its, r1, p1, _⟩ := I.tuple ha
  obtain ⟨its2, r2, p2, _⟩ := I.tuple hb
  refine HT.cat_tup p1 p2 (fun z => hx (r1.nil_iff.mp z)) (fun z => ⟨.ref a, H, I, rfl, q1 (r2.nil_iff.mp z)⟩) (fun z => ?_) (by rw [← r1.length, ← r2.length]; exact hz)
  refine ⟨.ref s.heap.objs.size, _, I.laid (t' := s.toks) (o := .tup (xs ++ ys)) (fun b ob q => Heap.get?_push_of_some _ q) (Nat.le_refl _) ?_, rfl, q2 (fun w => z (r2.nil_iff.mpr w)) _ (I.hok.fresh (Nat.le_refl _))⟩
  exact ⟨by rw [List.length_append]; exact hz, _, r1.append r2, IsTup.new _ _⟩
end
end L2

namespace L2
open PySem PySem.Spec PyProof.Rows

/-! ### places -/
/-- the place that an index of any sign means -/
def ixN (n : Nat) (i : Int) : Option Nat := if 0 ≤ i then (if i < n then some i.toNat else none) else if -(n : Int) ≤ i then some (i + n).toNat else none
def atI {α : Type} (xs : List α) (i : Int) : Option α := (ixN xs.length i).bind fun j => xs[j]?
theorem ixN_seq {n : Nat} {i : Int} {j : Nat} (h : ixN n i = some j) : seqIndex? i n = some j ∧ j < n ∧ -(n : Int) ≤ i ∧ i < n := by
  unfold ixN at h
  by_cases h0 : 0 ≤ i
  · rw [if_pos h0] at h
    by_cases h1 : i < n
    · rw [if_pos h1] at h
      have e : i.toNat = j := Option.some.inj h
      exact ⟨by rw [seqIndex_of h0 h1, e], by omega, by omega, h1⟩
    · rw [if_neg h1] at h; cases h
  · rw [if_neg h0] at h
    by_cases h1 : -(n : Int) ≤ i
    · rw [if_pos h1] at h
      have e : (i + n).toNat = j := Option.some.inj h
      exact ⟨by rw [seqIndex_neg (by omega) h1, e], by omega, h1, by omega⟩
    · rw [if_neg h1] at h; cases h
theorem atI_get {α : Type} {xs : List α} {i : Int} {v : α} (h : atI xs i = some v) : ∃ j, seqIndex? i xs.length = some j ∧ xs[j]? = some v ∧ j < xs.length ∧ -(xs.length : Int) ≤ i ∧ i < xs.length := by
  unfold atI at h
  cases e : ixN xs.length i with
  | none => rw [e] at h; cases h
  | some j =>
    rw [e] at h
    obtain ⟨h1, h2, h3, h4⟩ := ixN_seq e
    exact ⟨j, h1, h, h2, h3, h4⟩
theorem atI_nat {α : Type} {xs : List α} {j : Nat} {v : α} (h : xs[j]? = some v) : atI xs (j : Int) = some v := by
  have hj : j < xs.length := (List.getElem?_eq_some_iff.mp h).1
  have e : ixN xs.length (j : Int) = some j := by
    unfold ixN
    rw [if_pos (by omega), if_pos (by omega)]; simp
  unfold atI; rw [e]; exact h

/-! ### what may be subscripted -/
/-- what stands as an index of a plain subscript -/
def PlainIx (b : Expr) : Prop := ∀ o i, subscripted b false o i = operate [o, i] (getItem o i)
/-- a subscript by values -/
def IxR (X : Cx) (r : R2) : Prop :=
  ∀ (value slice : Expr) (pins : List (Addr × Obj)) (s : Shared) (σ : St) (H : Hp) (x y : V) (v u : Value) (Q : VK), Inv X pins σ H s → RelV x v → RelV y u → r x y H Q →
    subscripted slice false v u = operate [v, u] (getItem v u) → wpAny (model X.prog X.w) X.A (subscriptTail value slice v u) (EP X pins σ Q) X.xe s
/-- a call of a builtin's method by values: the receiver, the arguments -/
def MtR (X : Cx) (id : String) (r : V → List V → Hp → VK → Prop) : Prop :=
  ∀ (pins : List (Addr × Obj)) (s : Shared) (σ : St) (H : Hp) (x : V) (xs : List V) (v : Value) (us : List Value) (Q : VK), Inv X pins σ H s → RelV x v → Vals xs us → r x xs H Q →
    wpAny (model X.prog X.w) X.A (call (.builtin id) (v :: us)) (EP X pins σ Q) X.xe s
section
variable {X : Cx} {a b : Expr} {ta tb : TE} {pos : Pos}
/-- a[b] -/
theorem pe_ix {r : R2} (hr : IxR X r) (ha : PE X a ta) (hb : PE X b tb) (hs : PlainIx b) : PE X (.Subscript a b pos) (tOp r ta tb) := by
  intro pins s σ H Q I h
  exact Subscript_ (binT ha hb I h fun v u s2 x y H2 I2 rx ry q => hr a b pins s2 σ H2 x y v u Q I2 rx ry q (hs _ _))

def rIxL (K : PySem.W.Frag) : R2 := fun x y H Q => ∃ p xs i v, x = .ref p ∧ y = .int i ∧ SqL K H p xs ∧ atI xs i = some v ∧ Q v H
def rIxT (K : PySem.W.Frag) : R2 := fun x y H Q => ∃ p xs i v, x = .ref p ∧ y = .int i ∧ SqT K H p xs ∧ atI xs i = some v ∧ Q v H
def rIxS : R2 := fun x y H Q => ∃ z i c, x = .str z ∧ y = .int i ∧ z.length ≤ sizeLine ∧ atI z.cps.toList i = some c ∧ Q (.str ⟨#[c]⟩) H
theorem ix_list : IxR X (rIxL X.K) := by
  intro value slice pins s σ H x y v u Q I rx ry h hs
  obtain ⟨p, xs, i, z, rfl, rfl, hq, he, q⟩ := h
  cases rx
  obtain ⟨t, rfl⟩ := ry
  obtain ⟨its, r, pl, hz⟩ := I.list hq
  obtain ⟨j, h1, h2, h3, h4, h5⟩ := atI_get he
  obtain ⟨w, ew, rw'⟩ := r.get h2
  have hl := r.length
  have hn := line63
  have fin : EP X pins σ Q w s := ⟨z, H, I, rw', q⟩
  by_cases h0 : 0 ≤ i
  · have hj : i.toNat = j := by
      rw [seqIndex_of h0 h5] at h1
      exact Option.some.inj h1
    exact item_listR pl.isList h0 (by omega) (by rw [hj]; simpa using ew) fin hs
  · have hj : (i + (its.toArray.size : Int)).toNat = j := by
      rw [seqIndex_neg (by omega) h4] at h1
      rw [List.size_toArray, ← hl]
      exact Option.some.inj h1
    exact subscriptTail_builtinR (x := w) pl.isList.typeIs slot_list_getitem.lookup
      (wpAny_getItem_list_neg (Q := fun r s' => r = w ∧ EP X pins σ Q r s') pl.isList (by omega) (by rw [List.size_toArray] <;> omega) (by omega) (by rw [hj]; simpa using ew) ⟨rfl, fin⟩) hs
theorem ix_tup : IxR X (rIxT X.K) := by
  intro value slice pins s σ H x y v u Q I rx ry h hs
  obtain ⟨p, xs, i, z, rfl, rfl, hq, he, q⟩ := h
  cases rx
  obtain ⟨t, rfl⟩ := ry
  obtain ⟨its, r, pl, hz⟩ := I.tuple hq
  obtain ⟨j, h1, h2, h3, h4, h5⟩ := atI_get he
  obtain ⟨w, ew, rw'⟩ := r.get h2
  have hl := r.length
  have hn := line63
  have fin : EP X pins σ Q w s := ⟨z, H, I, rw', q⟩
  exact subscriptTail_builtinR (x := w) pl.typeIs slot_tuple_getitem.lookup
    (getItem_tuple (j := j) (Q := fun r s' => r = w ∧ EP X pins σ Q r s') pl (by omega) (by omega) (by rw [List.size_toArray, ← hl]; exact h1) (by simpa using ew) ⟨rfl, fin⟩) hs
/-- list, tuple or str -/
def rIx (K : PySem.W.Frag) : R2 := fun x y H Q => rIxL K x y H Q ∨ rIxT K x y H Q ∨ rIxS x y H Q

/-! ### xs[i] = v, any sign -/
/-- the list's object behind a store -/
theorem mapSeq_set (its : List Value) (n j : Nat) (u : Value) : Obj.mapSeq (·.setIfInBounds j u) { cls := .type "list", data := .seq its.toArray n } = { cls := .type "list", data := .seq (its.set j u).toArray n } := by
  simp [Obj.mapSeq]
theorem Inv.lst {pins : List (Addr × Obj)} {σ : St} {H : Hp} {s : Shared} {p : Addr} {xs : List V} (I : Inv X pins σ H s) (h : H p = some (.lst xs)) :
    ∃ (its : List Value) (n : Nat), Vals xs its ∧ s.heap.get? p = some { cls := .type "list", data := .seq its.toArray n } ∧ xs.length ≤ sizeLine := by
  obtain ⟨z, its, n, r, e⟩ := I.hok p _ h
  exact ⟨its, n, r, e, z⟩
/-- the list at p is written by an update of its object -/
theorem Inv.lstUpd {pins : List (Addr × Obj)} {σ : St} {H : Hp} {s : Shared} {p : Addr} {xs ys : List V} {its its' : List Value} {n n' : Nat} {f : Obj → Obj} (I : Inv X pins σ H s) (h : H p = some (.lst xs))
    (ho : s.heap.get? p = some { cls := .type "list", data := .seq its.toArray n }) (hf : f { cls := .type "list", data := .seq its.toArray n } = { cls := .type "list", data := .seq its'.toArray n' }) (r : Vals ys its') (hz : ys.length ≤ sizeLine) (t : Nat) :
    Inv X pins σ (upd H p (.lst ys)) { s with heap := s.heap.update p f, toks := t } := by
  have e : (s.heap.update p f).get? p = some { cls := .type "list", data := .seq its'.toArray n' } := by
    rw [Heap.get?_update_self f ho (by rw [hf] <;> rfl), hf]
  refine I.write (x := p) (e := p) (by rw [h]; trivial) (.inl rfl) (fun b u hb q => (Heap.get?_update_other _ _ (Ne.symm hb)).trans q) ⟨_, e⟩ ?_
  exact ⟨hz, its', n', r, e⟩
def rSetL : V → V → V → Hp → (Hp → Prop) → Prop := fun o i v H Q => ∃ p xs k j, o = .ref p ∧ i = .int k ∧ H p = some (.lst xs) ∧ ixN xs.length k = some j ∧ Q (upd H p (.lst (xs.set j v)))
theorem set_list : PSet X rSetL := by
  intro pins s σ H o i v ov iv u Q I ro ri rv h
  obtain ⟨p, xs, k, j, rfl, rfl, hp, hj, q⟩ := h
  cases ro
  obtain ⟨t, rfl⟩ := ri
  obtain ⟨its, n, r, ho, hz⟩ := I.lst hp
  obtain ⟨h1, h2, h3, h4⟩ := ixN_seq hj
  have hl := r.length
  have hn := line63
  have I' : Inv X pins σ (upd H p (.lst (xs.set j v))) { s with heap := s.heap.update p (Obj.mapSeq (·.setIfInBounds j u)) } :=
    I.lstUpd hp ho (mapSeq_set its n j u) (r.set rv j) (by rw [List.length_set]; exact hz) s.toks
  by_cases h0 : 0 ≤ k
  · have hk : k.toNat = j := by
      rw [seqIndex_of h0 h4] at h1
      exact Option.some.inj h1
    exact PySem.W.ki_setAt ho h0 (by omega) (by rw [List.size_toArray, ← hl]; exact h4) (by rw [hk]; exact ⟨_, I', q⟩)
  · have hk : (k + (its.toArray.size : Int)).toNat = j := by
      rw [seqIndex_neg (by omega) h3] at h1
      rw [List.size_toArray, ← hl]
      exact Option.some.inj h1
    exact PySem.W.ki_setBack ho (by omega) (by rw [List.size_toArray, ← hl]; exact h3) (by omega) (by rw [hk]; exact ⟨_, I', q⟩)

/-! ### slices -/
theorem slice_bounds (lo hi : Option Int) (n : Nat) : (sliceBounds lo hi none n).1 = ((HT.sIx n 0 lo : Nat) : Int) ∧ (sliceBounds lo hi none n).2.1 = ((HT.sIx n n hi : Nat) : Int) ∧ (sliceBounds lo hi none n).2.2 = 1 := by
  refine ⟨?_, ?_, rfl⟩
  · cases lo with
    | none => simp [sliceBounds, HT.sIx]
    | some i =>
      simp only [sliceBounds, HT.sIx, Option.getD_none, show (1 : Int) > 0 by decide, if_true]
      by_cases h : i < 0
      · simp only [h, if_true] <;> omega
      · simp only [h, if_false] <;> omega
  · cases hi with
    | none => simp [sliceBounds, HT.sIx]
    | some i =>
      simp only [sliceBounds, HT.sIx, Option.getD_none, show (1 : Int) > 0 by decide, if_true]
      by_cases h : i < 0
      · simp only [h, if_true] <;> omega
      · simp only [h, if_false] <;> omega
theorem slicePick_cut (its : List Value) (lo hi : Option Int) : slicePick its.toArray lo hi none = ((its.drop (HT.sIx its.length 0 lo)).take (HT.sIx its.length its.length hi - HT.sIx its.length 0 lo)).toArray := by
  obtain ⟨h1, h2, h3⟩ := slice_bounds lo hi its.toArray.size
  unfold slicePick
  rw [h1, h2, h3]
  simp only [sliceRange_one, pick_run, List.size_toArray] <;> rfl
/-- xs[lo:hi] of a list: a new list -/
def rSlL (K : PySem.W.Frag) : V → Option Int → Option Int → Hp → VK → Prop := fun x lo hi H Q => ∃ a xs, x = .ref a ∧ SqL K H a xs ∧ ∀ p, H p = none → Q (.ref p) (upd H p (.lst (cutV xs lo hi)))
theorem sl_list : SlR X (rSlL X.K) := by
  intro pins s σ H x v vl vu lo hi sl Q I rx hs pl pu h
  obtain ⟨a, xs, rfl, hx, q⟩ := h
  cases rx
  obtain ⟨its, r, ht, hz⟩ := I.list hx
  have hlen := r.length
  refine ⟨"list", _, slot_list_getitem.lookup, ht.isList.typeIs, ?_⟩
  refine wpAny_getItem_list_slice ht.isList hs pl pu .none (by simp) ?_ (by rw [List.size_toArray] <;> omega)
  rw [slicePick_cut, ← hlen]
  refine ⟨.ref s.heap.objs.size, _, I.laid (t' := s.toks) (o := .lst (cutV xs lo hi)) (fun b ob q => Heap.get?_push_of_some _ q) (Nat.le_refl _) ?_, rfl, q _ (I.hok.fresh (Nat.le_refl _))⟩
  exact ⟨Nat.le_trans (cutV_length xs lo hi) hz, _, 0, (r.drop (HT.sIx xs.length 0 lo)).take (HT.sIx xs.length xs.length hi - HT.sIx xs.length 0 lo), Heap.get?_push_size _ rfl⟩

/-! ### in, not in: flat items -/
def flatV : V → Bool
  | .non => true
  | .bl _ => true
  | .int _ => true
  | .str _ => true
  | _ => false
/-- == of flat values -/
def eqV : V → V → Bool
  | .non, .non => true
  | .bl a, .bl b => a == b
  | .bl a, .int b => (if a then 1 else 0) == b
  | .int a, .bl b => a == (if b then 1 else 0)
  | .int a, .int b => a == b
  | .str a, .str b => a == b
  | _, _ => false
/-- the items' answers, read off the values (a value's own answer does not lean on its token) -/
def eqU (x : V) (u : Value) : Bool := match u with
  | .none => eqV .non x
  | .bool b => eqV (.bl b) x
  | .int i _ => eqV (.int i) x
  | .str z _ => eqV (.str z) x
  | _ => false
def inV (x : V) (xs : List V) : Bool := xs.any fun y => eqV y x
/-- x in a list or tuple of flat items -/
def rIn (K : PySem.W.Frag) (neg : Bool) : R2 := fun x y H Q => ∃ p xs, y = .ref p ∧ (SqL K H p xs ∨ SqT K H p xs) ∧ flatV x = true ∧ xs.all flatV = true ∧ Q (.bl (if neg then !inV x xs else inV x xs)) H

/-! ### len, list(x), tuple(x) of any list or tuple that is read -/
theorem call_len_seq : CallR X (.builtin "len") (fun xs H Q => ∃ p ys, xs = [.ref p] ∧ (SqL X.K H p ys ∨ SqT X.K H p ys) ∧ Q (.int ys.length) H) := by
  intro pins s σ H xs us Q I r h
  obtain ⟨p, ys, rfl, hq, q⟩ := h
  obtain ⟨u, rfl, rx⟩ := vals1 r
  cases rx
  have hn := line63
  rcases hq with hq | hq
  · obtain ⟨its, r', pl, hz⟩ := I.list hq
    have hlen := r'.length
    exact Calls.call_len_list pl.isList (by simp only [List.size_toArray] <;> omega) ⟨.int ys.length, H, I.tok _, ⟨s.toks + 1, by rw [List.size_toArray, hlen]⟩, q⟩
  · obtain ⟨its, r', pl, hz⟩ := I.tuple hq
    have hlen := r'.length
    exact len_tuple pl (by simp only [List.size_toArray] <;> omega) ⟨.int ys.length, H, I.tok _, ⟨s.toks + 1, by rw [List.size_toArray, hlen]⟩, q⟩
theorem call_list_of : CallR X (.type "list") (fun xs H Q => ∃ p ys, xs = [.ref p] ∧ (SqL X.K H p ys ∨ SqT X.K H p ys) ∧ ∀ l, H l = none → Q (.ref l) (upd H l (.lst ys))) := by
  intro pins s σ H xs us Q I r h
  obtain ⟨p, ys, rfl, hq, q⟩ := h
  obtain ⟨u, rfl, rx⟩ := vals1 r
  cases rx
  have fin : ∀ (its : List Value), Vals ys its → ys.length ≤ sizeLine → ∀ (h' : Heap) (c' : Nat), (∀ b o', s.heap.get? b = some o' → h'.get? b = some o') →
      h'.get? s.heap.objs.size = some { cls := .type "list", dict := none, data := .seq its.toArray c', slots := #[] } → EP X pins σ Q (.ref s.heap.objs.size) { s with heap := h' } := fun its r' hz h' c' kp e =>
    ⟨.ref s.heap.objs.size, _, I.laid (t' := s.toks) kp (Nat.le_refl _) (show ObjOk X.prog X.w _ h' _ (.lst ys) from ⟨hz, its, c', r', e⟩), rfl, q _ (I.hok.fresh (Nat.le_refl _))⟩
  rcases hq with hq | hq
  · obtain ⟨its, r', pl, hz⟩ := I.list hq
    have hlen := r'.length
    obtain ⟨o, ho, hc, n, hd⟩ := pl.isList
    exact call_list_seq p (.inl rfl) ho hc hd (fun h' c' kp e => fin its r' hz h' c' kp e) (by simp only [List.size_toArray] <;> omega)
  · obtain ⟨its, r', pl, hz⟩ := I.tuple hq
    have hlen := r'.length
    obtain ⟨o, ho, hc, n, hd⟩ := pl
    exact call_list_seq p (.inr rfl) ho hc hd (fun h' c' kp e => fin its r' hz h' c' kp e) (by simp only [List.size_toArray] <;> omega)
theorem call_tuple_of : CallR X (.type "tuple") (fun xs H Q => ∃ p ys, xs = [.ref p] ∧ ((SqL X.K H p ys ∧ ∀ l, H l = none → Q (.ref l) (upd H l (.tup ys))) ∨ (SqT X.K H p ys ∧ Q (.ref p) H))) := by
  intro pins s σ H xs us Q I r h
  obtain ⟨p, ys, rfl, h⟩ := h
  obtain ⟨u, rfl, rx⟩ := vals1 r
  cases rx
  rcases h with ⟨hq, q⟩ | ⟨hq, q⟩
  · obtain ⟨its, r', pl, hz⟩ := I.list hq
    have hlen := r'.length
    refine call_tuple_list pl.isList (fun h' kp => ?_) (by simp only [List.size_toArray] <;> omega)
    have I1 : Inv X pins σ H { s with heap := h' } := I.kept (t' := s.toks) kp
    have I2 : Inv X pins σ (upd H h'.objs.size (.tup ys)) { s with heap := h'.push { cls := .type "tuple", data := .seq its.toArray } } :=
      I1.laid (t' := s.toks) (fun b o e => Heap.get?_push_of_some _ e) (Nat.le_refl _) (show ObjOk X.prog X.w _ _ _ (.tup ys) from ⟨hz, its, r', IsTup.new _ _⟩)
    exact ⟨.ref h'.objs.size, _, I2, rfl, q _ (I1.hok.fresh (Nat.le_refl _))⟩
  · obtain ⟨its, r', pl, hz⟩ := I.tuple hq
    exact call_tuple_same pl ⟨.ref p, H, I, rfl, q⟩

/-! ### the call of a builtin's method: o.m(..) -/
/-- the value is of that builtin type -/
def tyV (K : PySem.W.Frag) (T : String) (x : V) (H : Hp) : Prop := match x with
  | .str _ => T = "str"
  | .int _ => T = "int"
  | .ref p => (T = "list" ∧ ∃ xs, SqL K H p xs) ∨ (T = "tuple" ∧ ∃ o, K.lookup p = some o ∧ o.cls = .type "tuple" ∧ o.dict = none) ∨
      (T = "dict" ∧ ((∃ kvs, H p = some (.dK kvs)) ∨ ∃ kvs, H p = some (.dT kvs))) ∨ (T = "set" ∧ ∃ S n, H p = some (.set S n))
  | _ => False
theorem tyV_is {pins : List (Addr × Obj)} {σ : St} {H : Hp} {s : Shared} {T : String} {x : V} {v : Value} (I : Inv X pins σ H s) (r : RelV x v) (ty : tyV X.K T x H) :
    s.TypeIs v T ∧ ∀ a, v = .ref a → ∃ ob, s.heap.get? a = some ob ∧ ob.dict = none := by
  cases x with
  | str z =>
    obtain ⟨t, rfl⟩ := r
    cases (show T = "str" from ty)
    exact ⟨typeIs_str s z t, fun _ e => nomatch e⟩
  | int i =>
    obtain ⟨t, rfl⟩ := r
    cases (show T = "int" from ty)
    exact ⟨typeIs_int s i t, fun _ e => nomatch e⟩
  | ref p =>
    cases r
    rcases ty with ⟨rfl, xs, hq⟩ | ⟨rfl, o, hk, hc, hd⟩ | ⟨rfl, hk⟩ | ⟨rfl, S, n, hk⟩
    · obtain ⟨its, _, pl, _⟩ := I.list hq
      refine ⟨pl.isList.typeIs, fun a e => ?_⟩
      cases e
      obtain ⟨o, n, e, c, hd, _⟩ := pl
      exact ⟨o, e, hd⟩
    · refine ⟨⟨o, I.kIn p o hk, hc⟩, fun a e => ?_⟩
      cases e
      exact ⟨o, I.kIn _ o hk, hd⟩
    · have z : ∃ o, s.heap.get? p = some o ∧ o.ExactDict := by
        rcases hk with ⟨kvs, hk⟩ | ⟨kvs, hk⟩
        · obtain ⟨_, _, _, _, o, _, _, e, ex, _⟩ := I.hok p _ hk
          exact ⟨o, e, ex⟩
        · obtain ⟨_, _, _, _, o, _, _, e, ex, _⟩ := I.hok p _ hk
          exact ⟨o, e, ex⟩
      obtain ⟨o, e, ex⟩ := z
      refine ⟨⟨o, e, ex.1⟩, fun a e2 => ?_⟩
      cases e2
      exact ⟨o, e, ex.2.1⟩
    · obtain ⟨o, _, _, _, e, ex, _⟩ := I.hok p _ hk
      refine ⟨⟨o, e, ex.1⟩, fun a e2 => ?_⟩
      cases e2
      exact ⟨o, e, ex.2.1⟩
  | _ => exact False.elim ty
def tBM0 (K : PySem.W.Frag) (T : String) (r : V → List V → Hp → VK → Prop) (to : TE) : TE := fun σ H Q => to σ H fun x H1 => tyV K T x H1 ∧ r x [] H1 Q
def tBM (K : PySem.W.Frag) (T : String) (r : V → List V → Hp → VK → Prop) (to : TE) (t : TA) : TE := fun σ H Q => to σ H fun x H1 => tyV K T x H1 ∧ t σ H1 fun xs H2 => r x xs H2 Q
variable {o e : Expr} {es : List Expr} {to : TE} {t : TA} {name : Str} {apos cpos : Pos} {T id : String} {r : V → List V → Hp → VK → Prop}
theorem pe_bm0 (pa : PlainAttrs T) (slot : Slot T name id) (hty : typeOf (.builtin id) = pure (.type "method_descriptor")) (hm : MtR X id r) (ho : PE X o to)
    (hbase : attributeBase o name X.env (eval o X.env) = eval o X.env := by rfl) (hline : (apos.endLine == cpos.line) = true := by rfl) : PE X (.Call (.Attribute o name apos) [] [] cpos) (tBM0 X.K T r to) := by
  intro pins s σ H Q I h
  refine wpAny_Call_method0_late hbase hline (thn (ho pins s σ H _ I h) fun v s1 ⟨x, H1, I1, r1, ty, q1⟩ => ?_)
  obtain ⟨h1, h2⟩ := tyV_is I1 r1 ty
  exact ⟨T, id, pa, slot, hty, h1, h2, Calls.callWith_builtin rfl (PySem.evalArgs_none (hm pins s1 σ H1 x [] v [] Q I1 r1 .nil q1))⟩
theorem pe_bm (pa : PlainAttrs T) (slot : Slot T name id) (hty : typeOf (.builtin id) = pure (.type "method_descriptor")) (hm : MtR X id r) (ho : PE X o to) (ha : PA X (e :: es) t)
    (hbase : attributeBase o name X.env (eval o X.env) = eval o X.env := by rfl)
    (hfew : ((backTo cpos (starEach (e :: es) X.env)).all (fun x => !x.1) && (backToKw cpos (keywordEach [] X.env)).all (fun x => x.1.isSome)
      && decide ((e :: es).length + ([] : List Keyword).length + (if ([] : List Keyword).isEmpty then 0 else 1) < 30)) = true := by rfl)
    (hline : (apos.endLine == cpos.line) = true := by rfl) (hs : starEach (e :: es) X.env = (false, eval e X.env) :: starEach es X.env := by rfl) (hplain : (backTo cpos (starEach es X.env)).any (·.1) = false := by rfl) :
    PE X (.Call (.Attribute o name apos) (e :: es) [] cpos) (tBM X.K T r to t) := by
  intro pins s σ H Q I h
  refine wpAny_Call_method_late hbase hfew hline rfl (thn (ho pins s σ H _ I h) fun v s1 ⟨x, H1, I1, r1, ty, q1⟩ => ?_)
  obtain ⟨h1, h2⟩ := tyV_is I1 r1 ty
  refine ⟨T, id, pa, slot, hty, h1, h2, ?_⟩
  have hA := ha cpos pins s1 σ H1 _ I1 q1
  rw [hs] at hA ⊢
  refine Calls.callWith_builtin (by show (false || (backTo cpos (starEach es X.env)).any (·.1)) = false; rw [hplain] <;> rfl) (Calls.evalArgs_plain ?_)
  exact thn hA fun us s2 ⟨vs, H2, I2, r2, q2⟩ => hm pins s2 σ H2 x vs v us Q I2 r1 r2 q2
/- xs.append(e), list.index on a module's tuple .. are MtR facts of 06m -/
end
end L2

namespace L2
open PySem PySem.Spec PyProof.Rows

def MtM (X : Cx) (id : String) (r : V → List V → Hp → VK → Prop) : Prop :=
  ∀ (pins : List (Addr × Obj)) (s : Shared) (σ : St) (H : Hp) (x : V) (xs : List V) (v : Value) (us : List Value) (Q : VK), Inv X pins σ H s → RelV x v → Vals xs us → r x xs H Q →
    wpAny (model X.prog X.w) X.A (call (.builtin id) (v :: us)) (EP X pins σ Q) X.xe s

/-! ### lists of values -/
theorem Vals.one : ∀ {x : V} {us : List Value}, Vals [x] us → ∃ u, us = [u] ∧ RelV x u
  | _, _, .cons r .nil => ⟨_, rfl, r⟩
theorem Vals.zero : ∀ {us : List Value}, Vals [] us → us = []
  | _, .nil => rfl
theorem Vals.dropLast {xs : List V} {us : List Value} (h : Vals xs us) : Vals xs.dropLast us.dropLast := by
  induction h with
  | nil => exact .nil
  | cons r t ih =>
    cases t with
    | nil => exact .nil
    | cons q t' => exact .cons r ih
theorem erase_last {α : Type} (l : List α) : l.eraseIdx (l.length - 1) = l.dropLast := by
  induction l with
  | nil => rfl
  | cons a r ih =>
    cases r with
    | nil => rfl
    | cons b r =>
      have e : (a :: b :: r).length - 1 = ((b :: r).length - 1) + 1 := by
        have h1 : (a :: b :: r).length = r.length + 2 := rfl
        have h2 : (b :: r).length = r.length + 1 := rfl
        omega
      rw [e, List.eraseIdx_cons_succ, ih]
      all_goals rfl

section
variable {X : Cx} {pins : List (Addr × Obj)} {σ : St} {H : Hp} {s : Shared} {l b : Addr} {xs ys zs : List V}

/-! ### the two steps: a tracked list is rewritten, a new list is laid -/
theorem Inv.lset {its its' : List Value} {n : Nat} {f : Array Value → Array Value} {t' : Nat} (I : Inv X pins σ H s) (hH : H l = some (.lst xs))
    (e : s.heap.get? l = some { cls := .type "list", data := .seq its.toArray n }) (hf : f its.toArray = its'.toArray) (hv : Vals ys its') (hz : ys.length ≤ sizeLine) :
    Inv X pins σ (upd H l (.lst ys)) { s with heap := s.heap.update l (Obj.mapSeq f), toks := t' } := by
  have q := PySem.IsL.update e f
  rw [hf] at q
  refine I.write (x := l) (e := l) (by rw [hH]; exact trivial) (.inl rfl) (fun b' u hb hu => (Heap.get?_update_other s.heap (Obj.mapSeq f) (Ne.symm hb)).trans hu) ⟨_, q⟩ ?_
  exact ⟨hz, its', _, hv, q⟩
theorem Inv.lnew {its : List Value} {t' : Nat} (I : Inv X pins σ H s) (hv : Vals ys its) (hz : ys.length ≤ sizeLine) :
    Inv X pins σ (upd H s.heap.objs.size (.lst ys)) { s with heap := s.heap.push { cls := .type "list", data := .seq its.toArray }, toks := t' } :=
  I.laid (fun _ _ q => Heap.get?_push_of_some _ q) (Nat.le_refl _) ⟨hz, its, 0, hv, Heap.get?_push_size _ rfl⟩
theorem Inv.fresh (I : Inv X pins σ H s) : H s.heap.objs.size = none := I.hok.fresh (Nat.le_refl _)
theorem Inv.lstM (I : Inv X pins σ H s) (hH : H l = some (.lst xs)) : xs.length ≤ sizeLine ∧ ∃ (its : List Value) (n : Nat), Vals xs its ∧ xs.length = its.length ∧ s.heap.get? l = some { cls := .type "list", data := .seq its.toArray n } := by
  obtain ⟨z, its, n, r, e⟩ := I.hok l _ hH
  exact ⟨z, its, n, r, r.length, e⟩

theorem notLongL {n : Nat} (h : n ≤ sizeLine) : Builtin.List.listTooLong n = false := by
  unfold Builtin.List.listTooLong
  exact decide_eq_false (by omega)
end

section
variable {X : Cx}

/-! ### methods -/
def rAppend : V → List V → Hp → VK → Prop := fun x vs H Q => ∃ l xs y, x = .ref l ∧ vs = [y] ∧ H l = some (.lst xs) ∧ xs.length < sizeLine ∧ Q .non (upd H l (.lst (xs ++ [y])))
theorem mt_append : MtM X "list.append" rAppend := by
  intro pins s σ H x vs v us Q I rx rv h
  obtain ⟨l, xs, y, rfl, rfl, hH, hz, q⟩ := h
  cases rx
  obtain ⟨u, rfl, ru⟩ := rv.one
  obtain ⟨z, its, n, r, hl, e⟩ := I.lstM hH
  refine call_meets F.slot_list_append ⟨_, e, rfl⟩ F.entry_list_append (F.args_list_append_2 _ _) (PySem.list_append l its.toArray n u (by rw [List.size_toArray]; omega)) ⟨e, ?_⟩
  refine ⟨.non, _, I.lset (its' := its ++ [u]) hH e (by simp) (r.append (.cons ru .nil)) ?_, rfl, q⟩
  rw [List.length_append, List.length_singleton]
  omega

def rExtend : V → List V → Hp → VK → Prop := fun x vs H Q => ∃ l b xs zs, x = .ref l ∧ vs = [.ref b] ∧ H l = some (.lst xs) ∧ H b = some (.lst zs) ∧ xs.length + zs.length ≤ sizeLine ∧ Q .non (upd H l (.lst (xs ++ zs)))

def rPop : V → List V → Hp → VK → Prop := fun x vs H Q => ∃ l xs y, x = .ref l ∧ vs = [] ∧ H l = some (.lst xs) ∧ xs[xs.length - 1]? = some y ∧ Q y (upd H l (.lst xs.dropLast))
theorem mt_pop : MtM X "list.pop" rPop := by
  intro pins s σ H x vs v us Q I rx rv h
  obtain ⟨l, xs, y, rfl, rfl, hH, hy, q⟩ := h
  cases rx
  have hus := rv.zero
  subst hus
  obtain ⟨z, its, n, r, hl, e⟩ := I.lstM hH
  obtain ⟨u, hu, ru⟩ := r.get hy
  have hy' : its.toArray[its.toArray.size - 1]? = some u := by
    show its.toArray[its.length - 1]? = some u
    rw [← Array.getElem?_toList, ← hl]
    exact hu
  refine call_meets F.slot_list_pop ⟨_, e, rfl⟩ F.entry_list_pop (F.args_list_pop_1 _) (MeetsSeq.list_pop_last l its.toArray n u hy' (by rw [List.size_toArray]; omega)) ⟨e, ?_⟩
  refine ⟨y, _, I.lset (its' := its.dropLast) hH e ?_ r.dropLast ?_, ru, q⟩
  · show its.toArray.eraseIdxIfInBounds (its.toArray.size - 1) = its.dropLast.toArray
    rw [List.size_toArray, List.eraseIdxIfInBounds_toArray, erase_last]
  · rw [List.length_dropLast]
    omega

def rPopAt : V → List V → Hp → VK → Prop := fun x vs H Q => ∃ l xs i k y, x = .ref l ∧ vs = [.int i] ∧ H l = some (.lst xs) ∧ -(2 ^ 63) ≤ i ∧ i < 2 ^ 63 ∧ seqIndex? i xs.length = some k ∧ xs[k]? = some y ∧ Q y (upd H l (.lst (xs.eraseIdx k)))

def rReverse : V → List V → Hp → VK → Prop := fun x vs H Q => ∃ l xs, x = .ref l ∧ vs = [] ∧ H l = some (.lst xs) ∧ Q .non (upd H l (.lst xs.reverse))

def rClear : V → List V → Hp → VK → Prop := fun x vs H Q => ∃ l xs, x = .ref l ∧ vs = [] ∧ H l = some (.lst xs) ∧ Q .non (upd H l (.lst []))
theorem mt_clear : MtM X "list.clear" rClear := by
  intro pins s σ H x vs v us Q I rx rv h
  obtain ⟨l, xs, rfl, rfl, hH, q⟩ := h
  cases rx
  have hus := rv.zero
  subst hus
  obtain ⟨z, its, n, r, hl, e⟩ := I.lstM hH
  refine call_meets F.slot_list_clear ⟨_, e, rfl⟩ F.entry_list_clear (F.args_list_clear_1 _) (AutoSeq1.list_clear_list_0 l its.toArray n (by rw [List.size_toArray]; omega)) ⟨e, ?_⟩
  exact ⟨.non, _, I.lset (its' := []) (ys := []) hH e rfl .nil (Nat.zero_le _), rfl, q⟩

/-! ### list + list, list += list, list * int -/
def rCat : R2 := fun x y H Q => ∃ l b xs zs, x = .ref l ∧ y = .ref b ∧ H l = some (.lst xs) ∧ H b = some (.lst zs) ∧ xs.length + zs.length ≤ sizeLine ∧ ∀ p, H p = none → Q (.ref p) (upd H p (.lst (xs ++ zs)))
/-- a list times an int (a negative one is nothing) -/
def rRep : R2 := fun x y H Q => ∃ l k xs, x = .ref l ∧ y = .int k ∧ H l = some (.lst xs) ∧ -(2 ^ 63) ≤ k ∧ k < 2 ^ 63 ∧ xs.length * k.toNat ≤ sizeLine ∧
  ∀ p, H p = none → Q (.ref p) (upd H p (.lst (List.replicate k.toNat xs).flatten))

/-! ### del xs[i] -/
end

/-! ### xs[a:b] = ys -/
section
variable {prog : Program} {w : World} {A : Around} {E : Value → Shared → Prop} {s : Shared}
end

section
variable {X : Cx}
end
end L2

namespace Att
open PySem PySem.W PySem.Calls PyProof.Rows

/-! ### the script -/
theorem ints_of_wellAll {P : Params} {h : Heap} : ∀ (ns : List Int) (vs : List Value), WellAll P h vs (ns.map WData.int) → IntsAre vs ns := by
  intro ns
  induction ns with
  | nil =>
    intro vs w
    rw [List.map_nil] at w
    cases w
    exact .nil
  | cons n ns ih =>
    intro vs w
    rw [List.map_cons] at w
    cases w with
    | cons a b =>
      cases a
      exact .cons _ _ (ih _ b)

theorem script_of {l : OpenLaw} {n : Nat} (hn : l.most = some n) {P : Params} {h : Heap} {args : List WData} {vals : List Value}
    (hpre : l.row.toRowW.claim.pre args = true) (hwl : WellAll P h vals args) :
    ∃ a vs ns, vals = [Value.ref a] ∧ args = [WData.list (ns.map WData.int)] ∧ h.get? a = some { cls := .type "list", data := .seq vs.toArray } ∧ IntsAre vs ns ∧ ns.length ≤ n := by
  have hsh : WShape.hasAll [] args [.list .int] = true := (pre_splitW hpre).1
  have hc : l.pre.holds [] { args := args } = true := (pre_splitW hpre).2
  obtain ⟨d, r, rfl, h1, h2⟩ := hasAllW_cons hsh
  obtain rfl := hasAllW_nil h2
  obtain ⟨xs, rfl, h3⟩ := hasW_list h1
  obtain ⟨ns, rfl⟩ := items_int h3
  have hlen : ns.length ≤ n := by
    unfold OpenLaw.pre at hc
    have h4 : (WTm.not (.lt (.lit (.int (n : Int))) (.len (.arg 0)))).holds [] { args := [.list (ns.map .int)] } = true := by
      have h4 := (holds_andW hc).1
      rw [hn] at h4
      exact h4
    have h5 := condW_of h4 (w_not (w_lt w_lit (w_len_list (w_arg rfl))))
    rw [List.length_map] at h5
    refine Nat.le_of_not_lt fun q => ?_
    have q' : (n : Int) < ((ns.length : Nat) : Int) := by omega
    first
      | (rw [decide_eq_true q'] at h5; exact absurd h5 (by decide))
      | (simp at h5; omega)
  cases hwl with
  | cons w1 w2 =>
    cases w2
    cases w1 with
    | list ho hall => exact ⟨_, _, ns, rfl, rfl, ho, ints_of_wellAll ns _ hall, hlen⟩

theorem post_true (l : OpenLaw) (args : List WData) : l.row.toRowW.claim.post args (.bool true) args = true :=
  postW_of (r := l.row.toRowW) (X := (true == true))
    (show WShape.has [] (.bool true) .bool = true by first | rfl | decide | simp [WShape.has, WShape.arms, WShape.armsAll])
    (show (WTm.eq .res (.lit (.bool true))).value [] { args := args, res := some (.bool true), after := args } = some (.bool (true == true)) from w_eq_bool (w_res rfl) w_lit) rfl

/-! ### the attachment: holds_open's last premise (the goal 'hc' behind k_head) from a wpAny of the law's body -/

/-- the same from a codeAny of the CALL (for a layer whose function contracts speak of calls) -/
theorem attach_call {l : OpenLaw} {n : Nat} {q : Program} {loose : List Str} {XP : (Str → Option Value) → Heap → Prop} {YP : World → Heap → Prop} {d : DefRec}
    (hn : l.most = some n) (hdf : d.params.defaults = [])
    (call : ∀ (w : World) (s₀ s₁ : Shared) (mg mb : Str → Option Value) (fa : Addr) (o : Obj) (pm cd doc : Value) (a : Addr) (vs : List Value) (ns : List Int),
      Ground q loose [] XP w s₀ mg mb s₁.heap → YP w s₁.heap →
      s₁.heap.get? fa = some o → o.data = .func (docDef d.name d.params d.body d.scope pm cd doc) → s₁.heap.CodeRec cd d.name → mg d.name = some (.ref fa) →
      s₁.heap.get? a = some { cls := .type "list", data := .seq vs.toArray } → IntsAre vs ns → ns.length ≤ n → s₁.gens = #[] →
      codeAny (model l.prog w) callerA (.call (.ref fa) ⟨[.ref a], []⟩) (fun r s' => r = .ok (.ret (.bool true)) ∧ OldK s₁.heap s'.heap ∧ s'.os = s₁.os ∧ AllBare s'.gens) s₁) :
    WalkO q loose XP YP l.row.toRowW d [] (fun f vs => PySem.call f vs) := by
  intro w s₀ s₁ mg mb G Y fa o pm cd doc dV kV ho hd hcd hD hmg hg args vals as hpre hlay hrd hwl hlo
  obtain rfl : dV = .none := Dflts.none hD hdf
  obtain rfl : kV = .none := Dflts.noKw hD
  obtain ⟨a, vs, ns, rfl, rfl, hobj, hints, hlen⟩ := script_of hn hpre hwl
  refine enter_call (codeAny_mono (call w s₀ s₁ mg mb fa o pm cd doc a vs ns G Y ho (fd_plain hd) hcd hmg hobj hints hlen hg) fun r s' hq => ?_)
  obtain ⟨rfl, h2, h3, h4⟩ := hq
  exact ⟨.inl ⟨.bool true, .bool true, [], rfl, fun _ => rfl, .bool true, post_true l _, fun _ => ⟨List.Pairwise.nil, fun _ hm => (nomatch hm)⟩⟩, h2, h3, h4⟩


/-! ### rules over ANY heap (no ledger) from facts about the written part K: the library's own take a ledger (News) for what they write -/
section
variable {prog : Program} {w : World} {A : Around} {E : Value → Shared → Prop} {s : Shared} {K : Frag}





/-! the whole heap as the ledger: makes every rule that writes through a ledger a rule over any heap -/
def noObjs (h : Heap) : Heap := { h with objs := #[] }
def ledger (h : Heap) (L d : Addr) : List (Addr × Obj) := (List.range h.objs.size).filterMap fun a => if a = L ∨ a = d then none else (h.get? a).map fun o => (a, o)

end
end Att

namespace L2
open PySem PySem.Spec PyProof.Rows

theorem vals_ints : ∀ {vs : List Value} {ns : List Int}, IntsAre vs ns → Vals (ns.map V.int) vs
  | _, _, .nil => .nil
  | _, _, .cons n t h => .cons ⟨t, rfl⟩ (vals_ints h)

/-- nothing is tracked but the script, known to the object (or it is an object of the module) -/
def Only (H : Hp) : Prop := ∀ b, H b = none ∨ ∃ o xs, H b = some (.frz o (.lst xs))

/-- THE HEAD: the law's promise, at the heap behind the top. F, the promise of the law's def, may use that base is part of the heap (so K.In base, base.Ns mainGlobals mg stand in Mod) -/
theorem law_call {P : Program} {w : World} {K : PySem.W.Frag} {mg mb : Str → Option Value} {CX : CXT} {k : Nat} {fa a : Addr} {fd : FuncData} {x : Str} {sp : Sp} {s₁ : Shared} {vs : List Value} {ns : List Int}
    (KX : K.In s₁.heap) (hns : s₁.heap.Ns mainGlobals mg) (hb : s₁.heap.Ns builtinsNs mb) (hbb : ∀ x : Str, x ≠ "__name__" → mb x = bootBuiltins x) (hlim : s₁.heap.NoLimit) (hg : s₁.gens = #[])
    (ha : s₁.heap.get? a = some { cls := .type "list", data := .seq vs.toArray }) (hi : IntsAre vs ns) (hl : ns.length ≤ sizeLine) (hr : Room k callerA)
    (F : ∀ base : Heap, K.In base → base.Ns mainGlobals mg → FnOk P w K mg base CX k fa fd [x] sp) (hbind : ∀ (s : Shared) (u : Value), BindsTo s fd ⟨[u], []⟩ [(x, u)])
    (hsp : ∀ H : Hp, Only H → SqL K H a (ns.map V.int) → sp [.ref a] H (fun v _ => v = .bl true) fun _ _ _ => False)
    (hCX : ∀ H e s', CX [] H s₁ (fun _ _ _ => False) e s' → False) :
    codeAny (model P w) callerA (.call (.ref fa) ⟨[.ref a], []⟩) (fun r s' => r = .ok (.ret (.bool true)) ∧ OldK s₁.heap s'.heap ∧ s'.os = s₁.os ∧ AllBare s'.gens) s₁ := by
  have rv := vals_ints hi
  have lenV := hi.length
  -- from an abstract heap in which nothing but the script may be tracked
  have core : ∀ H : Hp, Only H → SqL K H a (ns.map V.int) → HOk P w H s₁.heap → (∀ b, H b ≠ none → b = a) → (H a ≠ none → K.lookup a = none) →
      codeAny (model P w) callerA (.call (.ref fa) ⟨[.ref a], []⟩) (fun r s' => r = .ok (.ret (.bool true)) ∧ OldK s₁.heap s'.heap ∧ s'.os = s₁.os ∧ AllBare s'.gens) s₁ := by
    intro H hO hS hok hA hK
    have base_of : ∀ {b : Addr} {o : Obj}, s₁.heap.get? b = some o → H b = none → (hidT s₁.heap H).get? b = some o := fun e n => hidT_get e n
    have noA : ∀ {b : Addr} {o : Obj} {es : Array DictEntry} {ep : Nat}, s₁.heap.get? b = some o → o.data = .dict es ep → H b = none := fun {b o es ep} e d => by
      cases q : H b with
      | none => rfl
      | some u =>
        have e' : b = a := hA b (by rw [q]; simp)
        subst e'
        rw [ha] at e; cases e
        have d' : Data.seq vs.toArray _ = Data.dict es ep := d
        cases d'
    have nsK : ∀ {b : Addr} {m : Str → Option Value}, s₁.heap.Ns b m → (hidT s₁.heap H).Ns b m := fun {b m} ⟨o, es, ep, e, d, r⟩ => ⟨o, es, ep, base_of e (noA e d), d, r⟩
    have hKb : K.In (hidT s₁.heap H) := fun b o e => base_of (KX b o e) (by
      cases q : H b with
      | none => rfl
      | some u =>
        have e' : b = a := hA b (by rw [q]; simp)
        subst e'
        rw [hK (by rw [q]; simp)] at e; cases e)
    have hM : Mod K mg (hidT s₁.heap H) := ⟨hKb, nsK hns, ⟨mb, nsK hb, hbb⟩, let ⟨mc, h1, h2⟩ := hlim; ⟨mc, nsK h1, h2⟩⟩
    have e0 : Env0 P w K mg (hidT s₁.heap H) callerA [] s₁ H := ⟨rfl, hM, fun b o e => of_hidT e, Nat.le_of_eq (hidT_size _ _), trivial, fun b hb => absurd (show b ∈ ([] : List Addr) from hb) (by simp), hok, .of_eq hg⟩
    refine codeAny_mono ((F _ hKb (nsK hns)).run callerA [] s₁ H ⟨[.ref a], []⟩ [.ref a] [.ref a] _ _ hr e0 (hbind s₁ (.ref a)) (.cons rfl .nil) (hsp H hO hS)) fun r s' h => ?_
    cases r with
    | error e => exact (hCX H e s' h).elim
    | ok fl =>
      cases fl with
      | next => exact False.elim h
      | brk => exact False.elim h
      | cont => exact False.elim h
      | ret u =>
        obtain ⟨v, H', os, bare, un, hok', r', q⟩ := h
        have q' : v = .bl true := q
        subst q'
        obtain rfl : u = Value.bool true := r'
        refine ⟨rfl, OldK.of_keep fun b o e => ?_, os, bare⟩
        cases q : H b with
        | none => exact un.keep b o e q (by intro z; exact absurd (show b ∈ ([] : List Addr) from z) (by simp)) (by simp)
        | some u =>
          rcases hO b with z | ⟨ob, xs, z⟩
          · rw [q] at z; cases z
          · have z2 := un.frzs b ob _ z
            obtain ⟨e1, _⟩ := hok b _ z
            obtain ⟨e2, _⟩ := hok' b _ z2
            rw [e] at e1; cases e1
            exact e2
  cases hk : K.lookup a with
  | some o =>
    -- the script is one of the module's own objects
    have e := KX a o hk
    rw [ha] at e
    cases e
    refine core (fun _ => none) (fun _ => .inl rfl) (.inr ⟨_, vs.toArray, _, hk, rfl, rfl, rfl, by rw [List.size_toArray, lenV]; exact hl, by simpa using rv⟩) (fun b u z => by have z' : (none : Option HO) = some u := z; cases z') (fun b z => absurd rfl z) fun z => absurd rfl z
  | none =>
    refine core (fun b => if b = a then some (.frz { cls := .type "list", data := .seq vs.toArray } (.lst (ns.map V.int))) else none) (fun b => ?_) (.inl (.inr ⟨{ cls := .type "list", data := .seq vs.toArray }, if_pos rfl⟩)) (fun b u z => ?_) (fun b z => ?_) fun _ => hk
    · by_cases hb : b = a
      · exact .inr ⟨_, _, if_pos hb⟩
      · exact .inl (if_neg hb)
    · by_cases hb : b = a
      · have z' := (if_pos hb).symm.trans z
        cases z'
        subst hb
        exact ⟨ha, by rw [List.length_map]; exact hl, vs, _, rv, ha⟩
      · have z' := (if_neg hb).symm.trans z
        cases z'
    · by_cases hb : b = a
      · exact hb
      · exact absurd (if_neg hb) z
end L2

namespace L2
open PySem PySem.Spec PyProof.Rows

abbrev KOf {K : PySem.W.Frag} {h : Heap} (_ : K.In h) : PySem.W.Frag := K

/-- the goal that k_head leaves (case hc), from the law's promise. F gives the function object fd (K's own) once, then the promise over every base -/
theorem walk_of {l : PySem.W.OpenLaw} {n k : Nat} {q : Program} {loose : List Str} {XP : (Str → Option Value) → Heap → Prop} {YP : World → Heap → Prop} {d : DefRec} {K : Params → PySem.W.Frag} {CX : World → CXT} {sp : World → Sp} {x : Str}
    (hn : l.most = some n) (hn2 : n ≤ sizeLine) (hdf : d.params.defaults = []) (hr : Room k callerA)
    (hY : ∀ (w : World) (h : Heap), YP w h → (K w.params).In h)
    (F : ∀ (w : World) (mg : Str → Option Value) (fa : Addr) (h : Heap), (K w.params).In h → h.Ns mainGlobals mg → mg d.name = some (.ref fa) →
      ∃ fd : FuncData, (∀ (s : Shared) (u : Value), BindsTo s fd ⟨[u], []⟩ [(x, u)]) ∧
        ∀ base : Heap, (K w.params).In base → base.Ns mainGlobals mg → FnOk l.prog w (K w.params) mg base (CX w) k fa fd [x] (sp w))
    (hsp : ∀ (w : World) (H : Hp) (a : Addr) (ns : List Int), ns.length ≤ n → Only H → SqL (K w.params) H a (ns.map V.int) → sp w [.ref a] H (fun v _ => v = .bl true) fun _ _ _ => False)
    (hCX : ∀ (w : World) (H : Hp) (s : Shared) (e : Value) (s' : Shared), CX w [] H s (fun _ _ _ => False) e s' → False) :
    PySem.W.WalkO q loose XP YP l.row.toRowW d [] (fun f vs => PySem.call f vs) := by
  refine Att.attach_call hn hdf fun w s₀ s₁ mg mb fa o pm cd doc a vs ns G Y ho hd hcd hmg hobj hints hlen hg => ?_
  have KX := hY w _ Y
  obtain ⟨fd, hb, hF⟩ := F w mg fa _ KX G.T.g hmg
  exact law_call KX G.T.g G.T.b G.T.builtins G.T.nolimit hg hobj hints (Nat.le_trans hlen hn2) hr hF hb (fun H hO hS => hsp w H a ns hlen hO hS) fun H e s' => hCX w H s₁ e s'
end L2

/- THE LAST THEOREM (shape; LID, My.* are yours):
   My.Adr: a structure of the addresses that your layer names (classes, functions); My.Txt K t: a structure (Prop) of the equations over K;
   My.txt_mk : {K} {implicit addresses ..} (e1 : nsIn K mainGlobals "law" = some (some (.ref f))) (e2 : K.lookup f = some ⟨oc, od, .func (fnOf "law" "law" params body scope dV kV doc pm an cdv ct), sl⟩) (e3 : codeIn K cdv "law" = true) .. : ∃ t, My.Txt K t

set_option maxRecDepth 100000 in
set_option maxHeartbeats 0 in
theorem PySem.Challenge.cw_LID_holds : PySem.Challenge.rw_LID.Holds := by
  w_on; o_law; k_head; (case hw => w_witness2)
  k_fill
  refine L2.walk_of (l := PySem.Challenge.rw_LID) (n := 63) (k := 40) (x := "script") (CX := fun w => ..) (sp := fun _ => My.sp_law) rfl (by decide) rfl ⟨rfl, by decide, by decide⟩ (fun w h Y => PySem.W.kIn_of Y) ?F ?S ?C
  case F =>
    intro w mg fa h KX G hmg
    have T : ∃ t, My.Txt (L2.KOf KX) t := by
      dsimp only [L2.KOf]                          -- K must stand as «<heap const> w.params» for k_is
      refine' My.txt_mk ?e1 ?e2 ?e3 ..
      (case e1 => PySem.W.k_is)                    -- in the order: a name -> its address -> its object -> its parts
      (case e2 => PySem.W.k_is)
      ..
    obtain ⟨t, T⟩ := T
    have e0 := hmg.symm.trans (PySem.W.mg_of KX G T.law)
    cases e0                                       -- fa is the law's own address
    exact ⟨_, fun s u => .of_eq rfl, fun base kb nb => My.law_fn T kb nb⟩     -- if «.of_eq rfl» comes too early: refine' ⟨_, ?b, fun base kb nb => My.law_fn T kb nb⟩; exact fun s u => .of_eq rfl
  case S => exact fun w H a ns hl hO hS => ..
  case C => exact ..
(the tactic k_is has no namespace: write k_is) -/

/-! SHORT WORDS over the layer: a def of the text, its body, what a loop and a test want. -/
namespace L2
open PySem PySem.Spec PyProof.Rows

/-! ### the text by places -/
/-- the j-th statement of a class's body -/
def inClass (s : Stmt) (j : Nat) : Stmt := match s with
  | .ClassDef _ _ _ body _ _ _ _ _ _ _ => body.getD j (.Pass ⟨0, 0, 0, 0⟩)
  | _ => .Pass ⟨0, 0, 0, 0⟩
def defArgs (s : Stmt) : Arguments := match s with
  | .FunctionDef _ a _ _ _ _ _ _ _ _ => a
  | _ => { posonlyargs := [], args := [], vararg := none, kwonlyargs := [], kw_defaults := [], kwarg := none, defaults := [] }
def defBody (s : Stmt) : List Stmt := match s with
  | .FunctionDef _ _ b _ _ _ _ _ _ _ => b
  | _ => []
def defScope (s : Stmt) : Scope := match s with
  | .FunctionDef _ _ _ _ _ _ sc _ _ _ => sc
  | _ => { kind := .function, names := [], isGenerator := false, isCoroutine := false }

/-! ### no exception leaves a def -/
abbrev CX0 : CXT := fun _ _ _ _ _ _ => False
abbrev E0 : XK := fun _ _ _ => False

/-! ### a def (or method) of the text as it stands behind the top -/
structure Fun (K : PySem.W.Frag) (x qual : Str) (st : Stmt) (f : Addr) (fd : FuncData) : Prop where
  ex : ∃ (oc : Value) (od : Option Addr) (kV doc pm : Value) (an : Option Addr) (cdv ct : Value) (osl : Array (Option Value)),
    fd = PySem.W.fnOf x qual (defArgs st) (defBody st) (defScope st) .none kV doc pm an cdv ct ∧ K.lookup f = some ⟨oc, od, .func fd, osl⟩ ∧ PySem.W.codeIn K cdv qual = true
  kp : PySem.W.keepIn K (.ref f) = true
section
variable {P : Program} {w : World} {K : PySem.W.Frag} {mg : Str → Option Value} {base : Heap}
/-- how its arguments bind (no defaults): h is «fun _ _ _ _ _ _ us hl => match us, hl with | [_, _], _ => rfl», one _ a parameter -/
theorem Fun.binds {x qual : Str} {st : Stmt} {f : Addr} {fd : FuncData} {ps : List Str} (F : Fun K x qual st f fd)
    (h : ∀ (kV doc pm : Value) (an : Option Addr) (cdv ct : Value) (us : List Value), us.length = ps.length → bindArgs (PySem.W.fnOf x qual (defArgs st) (defBody st) (defScope st) .none kV doc pm an cdv ct) ⟨us, []⟩ = pure (ps.zip us)) : Binds K fd ps [] := by
  obtain ⟨oc, od, kV, doc, pm, an, cdv, ct, osl, rfl, lk, hcd⟩ := F.ex
  exact .all (h kV doc pm an cdv ct)
theorem fun_mk {x qual : Str} {st : Stmt} {f : Addr} {oc : Value} {od an : Option Addr} {osl : Array (Option Value)} {kV doc pm cdv ct : Value} (l : K.lookup f = some ⟨oc, od, .func (PySem.W.fnOf x qual (defArgs st) (defBody st) (defScope st) .none kV doc pm an cdv ct), osl⟩)
    (c : PySem.W.codeIn K cdv qual = true) (k : PySem.W.keepIn K (.ref f) = true) : Fun K x qual st f (PySem.W.fnOf x qual (defArgs st) (defBody st) (defScope st) .none kV doc pm an cdv ct) := ⟨⟨oc, od, kV, doc, pm, an, cdv, ct, osl, rfl, l, c⟩, k⟩
end

/-! ### expressions in short: the name that stands in the i-th slot -/
section
variable {X : Cx}
end

/-! ### tests -/
theorem iteF {A B : Prop} (h : B) : if false = true then A else B := by
  rw [if_neg Bool.false_ne_true]
  exact h
theorem iteT {A B : Prop} (h : A) : if true = true then A else B := by
  rw [if_pos rfl]
  exact h

/-! ### heaps -/
/-- all that was tracked is as it was -/
def Same (H H' : Hp) : Prop := ∀ b o, H b = some o → H' b = some o
theorem Same.refl (H : Hp) : Same H H := fun _ _ h => h
theorem Same.trans {H H1 H2 : Hp} (a : Same H H1) (b : Same H1 H2) : Same H H2 := fun c o h => b c o (a c o h)
theorem Same.free {H H' : Hp} (e : Same H H') {l : Addr} (h : H' l = Option.none) : H l = Option.none := by
  cases q : H l with
  | none => rfl
  | some o =>
    rw [e l o q] at h
    cases h
theorem Same.seq {K : PySem.W.Frag} {H H' : Hp} {a : Addr} {xs : List V} (e : Same H H') (h : SqL K H a xs) : SqL K H' a xs := by
  rcases h with (h | ⟨o, h⟩) | h
  · exact .inl (.inl (e _ _ h))
  · exact .inl (.inr ⟨o, e _ _ h⟩)
  · exact .inr h

end L2
set_option Elab.async false
set_option linter.all false
set_option maxRecDepth 100000
namespace Z
open PySem PySem.Spec PyProof.Rows L2

/-! ### data -/
inductive D where
  | non | bl (b : Bool) | int (i : Int) | str (x : Str)
  | tup (xs : List D) | lst (xs : List D)
  | ins (C : Addr) (ns : List Str) (vs : List D)
  | exc (C : Addr)
abbrev St := L2.St
abbrev MP := Addr → Prop
abbrev Frag := PySem.W.Frag
def NoM : MP := fun _ => False

def KLst (K : Frag) (a : Addr) (xs : List V) : Prop :=
  ∃ (o : Obj) (its : Array Value) (n : Nat), K.lookup a = some o ∧ o.cls = .type "list" ∧ o.dict = none ∧ o.data = .seq its n ∧ its.size ≤ sizeLine ∧ Vals xs its.toList
/-- a list that is read and does not change: not among M -/
def SqM (K : Frag) (M : MP) (H : Hp) (a : Addr) (xs : List V) : Prop := (Rd H a (.lst xs) ∧ ¬ M a) ∨ KLst K a xs
def excO (a C : Addr) : HO := .ext fun h => ∃ o, h.get? a = some o ∧ o.cls = .ref C ∧ o.dict = none ∧ ∃ vs, o.data = .fields vs

mutual
def Dn (K : Frag) (M : MP) (H : Hp) : D → V → Prop
  | .non, v => v = .non
  | .bl b, v => v = .bl b
  | .int i, v => v = .int i
  | .str x, v => v = .str x
  | .tup ds, v => ∃ a xs, v = .ref a ∧ SqT K H a xs ∧ Dns K M H ds xs
  | .lst ds, v => ∃ a xs, v = .ref a ∧ SqM K M H a xs ∧ Dns K M H ds xs
  | .ins C ns ds, v => ∃ a dx fs, v = .ref a ∧ H a = some (.ins C dx fs) ∧ fs.map (·.1) = ns ∧ Dns K M H ds (fs.map (·.2))
  | .exc C, v => ∃ a, v = .ref a ∧ H a = some (excO a C)
def Dns (K : Frag) (M : MP) (H : Hp) : List D → List V → Prop
  | [], xs => xs = []
  | d :: ds, xs => ∃ v r, xs = v :: r ∧ Dn K M H d v ∧ Dns K M H ds r
end

def Keep (M : MP) (H H' : Hp) : Prop := ∀ b o, H b = some o → (∀ xs, o = .lst xs → ¬ M b) → H' b = some o
section
variable {K : Frag} {M M' : MP} {H H' : Hp} {a : Addr} {xs : List V}
theorem keep_of (s : Same H H') : Keep M H H' := fun b o e _ => s b o e
theorem Keep.tup (k : Keep M H H') (h : SqT K H a xs) : SqT K H' a xs := by
  rcases h with (h | ⟨o, h⟩) | h
  · exact .inl (.inl (k _ _ h (fun _ e => nomatch e)))
  · exact .inl (.inr ⟨o, k _ _ h (fun _ e => nomatch e)⟩)
  · exact .inr h
theorem Keep.sqm (k : Keep M H H') (h : SqM K M H a xs) : SqM K M H' a xs := by
  rcases h with ⟨h | ⟨o, h⟩, m⟩ | h
  · exact .inl ⟨.inl (k _ _ h fun _ _ => m), m⟩
  · exact .inl ⟨.inr ⟨o, k _ _ h (fun _ e => nomatch e)⟩, m⟩
  · exact .inr h
theorem SqM.l (h : SqM K M H a xs) : SqL K H a xs := by
  rcases h with ⟨h, _⟩ | h
  · exact .inl h
  · exact .inr h
theorem SqM.re (hm : ∀ a, M' a → M a ∨ H a = none) (h : SqM K M H a xs) : SqM K M' H a xs := by
  rcases h with ⟨h, m⟩ | h
  · refine .inl ⟨h, fun m' => ?_⟩
    rcases hm _ m' with z | z
    · exact m z
    · rcases h with h | ⟨o, h⟩ <;> (rw [z] at h; cases h)
  · exact .inr h
mutual
theorem Dn.keep (k : Keep M H H') : ∀ {d : D} {v : V}, Dn K M H d v → Dn K M H' d v
  | .non, _, x => x
  | .bl _, _, x => x
  | .int _, _, x => x
  | .str _, _, x => x
  | .tup ds, _, ⟨a, xs, e, s, r⟩ => ⟨a, xs, e, k.tup s, Dns.keep k r⟩
  | .lst ds, _, ⟨a, xs, e, s, r⟩ => ⟨a, xs, e, k.sqm s, Dns.keep k r⟩
  | .ins _ _ ds, _, ⟨a, dx, fs, e, s, n, r⟩ => ⟨a, dx, fs, e, k _ _ s (fun _ e => nomatch e), n, Dns.keep k r⟩
  | .exc _, _, ⟨a, e, s⟩ => ⟨a, e, k _ _ s (fun _ e => nomatch e)⟩
theorem Dns.keep (k : Keep M H H') : ∀ {ds : List D} {vs : List V}, Dns K M H ds vs → Dns K M H' ds vs
  | [], _, x => x
  | _ :: _, _, ⟨v, r, e, p, q⟩ => ⟨v, r, e, Dn.keep k p, Dns.keep k q⟩
end
mutual
theorem Dn.re (hm : ∀ a, M' a → M a ∨ H a = none) : ∀ {d : D} {v : V}, Dn K M H d v → Dn K M' H d v
  | .non, _, x => x
  | .bl _, _, x => x
  | .int _, _, x => x
  | .str _, _, x => x
  | .tup ds, _, ⟨a, xs, e, s, r⟩ => ⟨a, xs, e, s, Dns.re hm r⟩
  | .lst ds, _, ⟨a, xs, e, s, r⟩ => ⟨a, xs, e, s.re hm, Dns.re hm r⟩
  | .ins _ _ ds, _, ⟨a, dx, fs, e, s, n, r⟩ => ⟨a, dx, fs, e, s, n, Dns.re hm r⟩
  | .exc _, _, ⟨a, e, s⟩ => ⟨a, e, s⟩
theorem Dns.re (hm : ∀ a, M' a → M a ∨ H a = none) : ∀ {ds : List D} {vs : List V}, Dns K M H ds vs → Dns K M' H ds vs
  | [], _, x => x
  | _ :: _, _, ⟨v, r, e, p, q⟩ => ⟨v, r, e, Dn.re hm p, Dns.re hm q⟩
end
theorem Dn.same (s : Same H H') {d : D} {v : V} (h : Dn K M H d v) : Dn K M H' d v := h.keep (keep_of s)
theorem Dns.same (s : Same H H') {d : List D} {v : List V} (h : Dns K M H d v) : Dns K M H' d v := h.keep (keep_of s)
theorem Dn.less (hm : ∀ a, M' a → M a) {d : D} {v : V} (h : Dn K M H d v) : Dn K M' H d v := h.re fun a z => .inl (hm a z)
theorem Dns.less (hm : ∀ a, M' a → M a) {d : List D} {v : List V} (h : Dns K M H d v) : Dns K M' H d v := h.re fun a z => .inl (hm a z)
theorem Dns.len : ∀ {ds : List D} {vs : List V}, Dns K M H ds vs → vs.length = ds.length
  | [], _, x => by rw [show _ = [] from x]; rfl
  | _ :: _, _, ⟨v, r, e, p, q⟩ => by rw [e, List.length_cons, List.length_cons, Dns.len q]
theorem Dns.app : ∀ {ds es : List D} {vs us : List V}, Dns K M H ds vs → Dns K M H es us → Dns K M H (ds ++ es) (vs ++ us)
  | [], _, _, _, x, y => by rw [show _ = [] from x]; exact y
  | _ :: _, _, _, _, ⟨v, r, e, p, q⟩, y => by rw [e]; exact ⟨v, _, rfl, p, Dns.app q y⟩
theorem Dns.one {d : D} {v : V} (h : Dn K M H d v) : Dns K M H [d] [v] := ⟨v, [], rfl, h, rfl⟩
theorem Dns.get : ∀ {ds : List D} {vs : List V}, Dns K M H ds vs → ∀ {i : Nat} {d : D}, ds[i]? = some d → ∃ v, vs[i]? = some v ∧ Dn K M H d v
  | [], _, _, _, _, e => by simp at e
  | _ :: _, _, ⟨v, r, e, p, q⟩, 0, d, h => by simp at h; subst h; rw [e]; exact ⟨v, rfl, p⟩
  | _ :: _, _, ⟨v, r, e, p, q⟩, i + 1, d, h => by
    obtain ⟨u, h1, h2⟩ := Dns.get q (i := i) (by simpa using h)
    rw [e]; exact ⟨u, by simpa using h1, h2⟩
theorem Dns.getV : ∀ {ds : List D} {vs : List V}, Dns K M H ds vs → ∀ {i : Nat} {v : V}, vs[i]? = some v → ∃ d, ds[i]? = some d ∧ Dn K M H d v
  | [], _, x, i, v, e => by rw [show _ = [] from x] at e; simp at e
  | d :: _, _, ⟨u, r, e, p, q⟩, 0, v, h => by rw [e] at h; simp at h; subst h; exact ⟨d, rfl, p⟩
  | _ :: _, _, ⟨u, r, e, p, q⟩, i + 1, v, h => by
    rw [e] at h
    obtain ⟨d, h1, h2⟩ := Dns.getV q (i := i) (by simpa using h)
    exact ⟨d, by simpa using h1, h2⟩
theorem Dns.take : ∀ {ds : List D} {vs : List V} (n : Nat), Dns K M H ds vs → Dns K M H (ds.take n) (vs.take n)
  | _, _, 0, _ => rfl
  | [], _, _ + 1, x => by rw [show _ = [] from x]; rfl
  | _ :: _, _, n + 1, ⟨v, r, e, p, q⟩ => by rw [e]; exact ⟨v, _, rfl, p, Dns.take n q⟩
theorem Dns.drop : ∀ {ds : List D} {vs : List V} (n : Nat), Dns K M H ds vs → Dns K M H (ds.drop n) (vs.drop n)
  | _, _, 0, x => x
  | [], _, _ + 1, x => by rw [show _ = [] from x]; rfl
  | _ :: _, _, n + 1, ⟨v, r, e, p, q⟩ => by rw [e]; exact Dns.drop n q
theorem Dns.set {d : D} {v : V} (h : Dn K M H d v) : ∀ {ds : List D} {vs : List V} (n : Nat), Dns K M H ds vs → Dns K M H (ds.set n d) (vs.set n v)
  | [], _, _, x => by rw [show _ = [] from x]; rfl
  | _ :: _, _, 0, ⟨u, r, e, p, q⟩ => by rw [e]; exact ⟨v, _, rfl, h, q⟩
  | _ :: _, _, n + 1, ⟨u, r, e, p, q⟩ => by rw [e]; exact ⟨u, _, rfl, p, Dns.set h n q⟩
theorem Dns.ints : ∀ {ns : List Int} {vs : List V}, Dns K M H (ns.map .int) vs → vs = ns.map V.int
  | [], _, x => x
  | n :: ns, _, ⟨u, r, e, p, q⟩ => by rw [e, Dns.ints q, show u = V.int n from p]; rfl
theorem Dns.of_ints : ∀ (ns : List Int), Dns K M H (ns.map .int) (ns.map V.int)
  | [] => rfl
  | n :: ns => ⟨_, _, rfl, rfl, Dns.of_ints ns⟩
end

/-- the top list may be one that changes -/
def DnT (K : Frag) (M : MP) (H : Hp) : D → V → Prop
  | .lst ds, v => ∃ a xs, v = .ref a ∧ SqL K H a xs ∧ Dns K M H ds xs
  | d, v => Dn K M H d v
section
variable {K : Frag} {M M' : MP} {H H' : Hp}
theorem Dn.t {d : D} {v : V} (h : Dn K M H d v) : DnT K M H d v := by
  cases d with
  | lst ds => obtain ⟨a, xs, e, s, r⟩ := h; exact ⟨a, xs, e, s.l, r⟩
  | _ => exact h
theorem DnT.same {d : D} {v : V} (s : Same H H') (h : DnT K M H d v) : DnT K M H' d v := by
  cases d with
  | lst ds => obtain ⟨a, xs, e, q, r⟩ := h; exact ⟨a, xs, e, s.seq q, r.same s⟩
  | _ => exact Dn.same s h
end

/-! ### the state by data -/
inductive Sl where
  | un | im (d : D) | mu (ds : List D)
abbrev Rho := List Sl
def MM (M0 : MP) (ρ : Rho) (α : Nat → Addr) : MP := fun a => M0 a ∨ ∃ (i : Nat) (ds : List D), ρ[i]? = some (.mu ds) ∧ α i = a
structure Rep (K : Frag) (M0 : MP) (H0 : Hp) (γ : List (D × V)) (α : Nat → Addr) (ρ : Rho) (σ : St) (H : Hp) : Prop where
  same : Same H0 H
  old : ∀ a, M0 a → H0 a ≠ none
  inj : ∀ (i j : Nat) (ds es : List D), ρ[i]? = some (.mu ds) → ρ[j]? = some (.mu es) → α i = α j → i = j
  im : ∀ (i : Nat) (d : D), ρ[i]? = some (.im d) → ∃ v, σ[i]? = some (some v) ∧ Dn K (MM M0 ρ α) H d v
  mu : ∀ (i : Nat) (ds : List D), ρ[i]? = some (.mu ds) → H0 (α i) = none ∧ σ[i]? = some (some (.ref (α i))) ∧ ∃ xs, H (α i) = some (.lst xs) ∧ Dns K (MM M0 ρ α) H ds xs
  gh : ∀ p ∈ γ, Dn K (MM M0 ρ α) H p.1 p.2
  len : σ.length = ρ.length

section
variable {K : Frag} {M0 : MP} {H0 H H' H1 : Hp} {γ : List (D × V)} {α : Nat → Addr} {ρ : Rho} {σ : St}
theorem get_set {α : Type} {l : List α} {i j : Nat} {x y : α} (h : (l.set i x)[j]? = some y) : (j = i ∧ y = x) ∨ (j ≠ i ∧ l[j]? = some y) := by
  rw [List.getElem?_set] at h
  split at h
  · rename_i e
    split at h
    · exact .inl ⟨e.symm, (Option.some.inj h).symm⟩
    · cases h
  · rename_i e
    exact .inr ⟨fun z => e z.symm, h⟩
theorem set_get {α : Type} {l : List α} {i : Nat} {x : α} (h : i < l.length) : (l.set i x)[i]? = some x := by
  rw [List.getElem?_set, if_pos rfl, if_pos h]
theorem set_get_ne {α : Type} {l : List α} {i j : Nat} {x : α} (h : j ≠ i) : (l.set i x)[j]? = l[j]? := by
  rw [List.getElem?_set, if_neg fun z => h z.symm]
theorem mm_set_im {i : Nat} {s : Sl} (hs : ∀ ds, s ≠ .mu ds) {a : Addr} (h : MM M0 (ρ.set i s) α a) : MM M0 ρ α a := by
  rcases h with h | ⟨j, ds, e, z⟩
  · exact .inl h
  · rcases get_set e with ⟨_, q⟩ | ⟨_, q⟩
    · exact absurd q.symm (hs ds)
    · exact .inr ⟨j, ds, q, z⟩
/-- behind an expression: only new things -/
theorem Rep.next (r : Rep K M0 H0 γ α ρ σ H) (s : Same H H') : Rep K M0 H0 γ α ρ σ H' :=
  ⟨r.same.trans s, r.old, r.inj, fun i d e => let ⟨v, h1, h2⟩ := r.im i d e; ⟨v, h1, h2.same s⟩,
    fun i ds e => let ⟨h1, h2, xs, h3, h4⟩ := r.mu i ds e; ⟨h1, h2, xs, s _ _ h3, h4.same s⟩, fun p hp => (r.gh p hp).same s, r.len⟩
theorem Rep.set_im {i : Nat} {d : D} {v : V} (r : Rep K M0 H0 γ α ρ σ H) (hi : i < ρ.length) (h : Dn K (MM M0 ρ α) H d v) : Rep K M0 H0 γ α (ρ.set i (.im d)) (σ.set i (some v)) H := by
  have lm : ∀ a, MM M0 (ρ.set i (.im d)) α a → MM M0 ρ α a := fun a => mm_set_im (by intro _ e; cases e)
  refine ⟨r.same, r.old, fun j k ds es e1 e2 => ?_, fun j e q => ?_, fun j ds q => ?_, fun p hp => (r.gh p hp).less lm, by rw [List.length_set, List.length_set, r.len]⟩
  · rcases get_set e1 with ⟨_, z⟩ | ⟨_, z1⟩
    · cases z
    · rcases get_set e2 with ⟨_, z⟩ | ⟨_, z2⟩
      · cases z
      · exact r.inj j k ds es z1 z2
  · rcases get_set q with ⟨rfl, z⟩ | ⟨n, z⟩
    · cases z
      exact ⟨v, set_get (by rw [r.len]; exact hi), h.less lm⟩
    · obtain ⟨u, h1, h2⟩ := r.im j e z
      exact ⟨u, by rw [set_get_ne n]; exact h1, h2.less lm⟩
  · rcases get_set q with ⟨rfl, z⟩ | ⟨n, z⟩
    · cases z
    · obtain ⟨h1, h2, xs, h3, h4⟩ := r.mu j ds z
      exact ⟨h1, by rw [set_get_ne n]; exact h2, xs, h3, h4.less lm⟩
theorem Rep.forget {i : Nat} (r : Rep K M0 H0 γ α ρ σ H) {ov : Option V} : Rep K M0 H0 γ α (ρ.set i .un) (σ.set i ov) H := by
  have lm : ∀ a, MM M0 (ρ.set i .un) α a → MM M0 ρ α a := fun a => mm_set_im (by intro _ e; cases e)
  refine ⟨r.same, r.old, fun j k ds es e1 e2 => ?_, fun j e q => ?_, fun j ds q => ?_, fun p hp => (r.gh p hp).less lm, by rw [List.length_set, List.length_set, r.len]⟩
  · rcases get_set e1 with ⟨_, z⟩ | ⟨_, z1⟩
    · cases z
    · rcases get_set e2 with ⟨_, z⟩ | ⟨_, z2⟩
      · cases z
      · exact r.inj j k ds es z1 z2
  · rcases get_set q with ⟨rfl, z⟩ | ⟨n, z⟩
    · cases z
    · obtain ⟨u, h1, h2⟩ := r.im j e z
      exact ⟨u, by rw [set_get_ne n]; exact h1, h2.less lm⟩
  · rcases get_set q with ⟨rfl, z⟩ | ⟨n, z⟩
    · cases z
    · obtain ⟨h1, h2, xs, h3, h4⟩ := r.mu j ds z
      exact ⟨h1, by rw [set_get_ne n]; exact h2, xs, h3, h4.less lm⟩
/-- a slot less is known -/
theorem Rep.drop1 {i : Nat} (r : Rep K M0 H0 γ α ρ σ H) : Rep K M0 H0 γ α (ρ.set i .un) σ H := by
  have h := r.forget (i := i) (ov := (σ[i]?).join)
  have e : σ.set i (σ[i]?).join = σ := by
    apply List.ext_getElem?
    intro j
    rw [List.getElem?_set]
    split
    · rename_i e
      subst e
      split
      · rename_i h
        rw [List.getElem?_eq_getElem h]
        rfl
      · rename_i h
        rw [List.getElem?_eq_none (Nat.le_of_not_lt h)]
    · rfl
  rwa [e] at h
def setα (α : Nat → Addr) (i : Nat) (l : Addr) : Nat → Addr := fun j => if j = i then l else α j
theorem setα_at {i : Nat} {l : Addr} : setα α i l i = l := if_pos rfl
theorem setα_ne {i j : Nat} {l : Addr} (h : j ≠ i) : setα α i l j = α j := if_neg h
/-- a new list at a name -/
theorem Rep.set_mu {i : Nat} {l : Addr} {xs : List V} {ds : List D} (r : Rep K M0 H0 γ α ρ σ H1) (hi : i < ρ.length) (hl : H1 l = none) (s : Same H1 H) (h : H l = some (.lst xs))
    (hd : Dns K (fun a => MM M0 ρ α a ∨ a = l) H ds xs) : Rep K M0 H0 γ (setα α i l) (ρ.set i (.mu ds)) (σ.set i (some (.ref l))) H := by
  have lm : ∀ a, MM M0 (ρ.set i (.mu ds)) (setα α i l) a → MM M0 ρ α a ∨ a = l := fun a z => by
    rcases z with z | ⟨j, es, e, z⟩
    · exact .inl (.inl z)
    · rcases get_set e with ⟨rfl, q⟩ | ⟨n, q⟩
      · rw [setα_at] at z; exact .inr z.symm
      · rw [setα_ne n] at z; exact .inl (.inr ⟨j, es, q, z⟩)
  have lm' : ∀ a, MM M0 (ρ.set i (.mu ds)) (setα α i l) a → MM M0 ρ α a ∨ H1 a = none := fun a z => by
    rcases lm a z with z | rfl
    · exact .inl z
    · exact .inr hl
  refine ⟨r.same.trans s, r.old, fun j k es fs e1 e2 ej => ?_, fun j e q => ?_, fun j es q => ?_, fun p hp => ((r.gh p hp).re lm').same s, by rw [List.length_set, List.length_set, r.len]⟩
  · have nl : ∀ (k : Nat) (es : List D), ρ[k]? = some (Sl.mu es) → α k ≠ l := fun k es z e => by
      obtain ⟨_, _, ys, h3, _⟩ := r.mu k es z
      rw [e, hl] at h3; cases h3
    rcases get_set e1 with ⟨rfl, z⟩ | ⟨n1, z1⟩
    · rcases get_set e2 with ⟨rfl, z⟩ | ⟨n2, z2⟩
      · rfl
      · rw [setα_at, setα_ne n2] at ej; exact absurd ej.symm (nl k fs z2)
    · rcases get_set e2 with ⟨rfl, z⟩ | ⟨n2, z2⟩
      · rw [setα_at, setα_ne n1] at ej; exact absurd ej (nl j es z1)
      · rw [setα_ne n1, setα_ne n2] at ej; exact r.inj j k es fs z1 z2 ej
  · rcases get_set q with ⟨rfl, z⟩ | ⟨n, z⟩
    · cases z
    · obtain ⟨u, h1, h2⟩ := r.im j e z
      exact ⟨u, by rw [set_get_ne n]; exact h1, (h2.re lm').same s⟩
  · rcases get_set q with ⟨rfl, z⟩ | ⟨n, z⟩
    · cases z
      exact ⟨by rw [setα_at]; exact r.same.free hl, by rw [setα_at]; exact set_get (by rw [r.len]; exact hi), xs, by rw [setα_at]; exact h, hd.less lm⟩
    · obtain ⟨h1, h2, ys, h3, h4⟩ := r.mu j es z
      exact ⟨by rw [setα_ne n]; exact h1, by rw [set_get_ne n, setα_ne n]; exact h2, ys, by rw [setα_ne n]; exact s _ _ h3, (h4.re lm').same s⟩
theorem same_upd_none {l : Addr} {o : HO} (s : Same H0 H) (h : H0 l = none) : Same H0 (upd H l o) := fun b u e => by
  rw [upd_ne (ne_of_none e h)]; exact s b u e
theorem same_new {l : Addr} {o : HO} (h : H l = none) : Same H (upd H l o) := same_upd_none (Same.refl H) h
/-- the list at a name has changed -/
theorem Rep.upd_mu {i : Nat} {ds es : List D} {ys : List V} (r : Rep K M0 H0 γ α ρ σ H) (hi : ρ[i]? = some (.mu ds)) (hd : Dns K (MM M0 ρ α) H es ys) : Rep K M0 H0 γ α (ρ.set i (.mu es)) σ (upd H (α i) (.lst ys)) := by
  obtain ⟨a1, a2, xs, a3, a4⟩ := r.mu i ds hi
  have hlt : i < ρ.length := (List.getElem?_eq_some_iff.mp hi).1
  have me : ∀ (j : Nat) (es' : List D), (ρ.set i (Sl.mu es))[j]? = some (Sl.mu es') → ∃ fs, ρ[j]? = some (Sl.mu fs) := fun j es' e => by
    rcases get_set e with ⟨rfl, _⟩ | ⟨_, q⟩
    · exact ⟨ds, hi⟩
    · exact ⟨es', q⟩
  have lm : ∀ a, MM M0 (ρ.set i (.mu es)) α a → MM M0 ρ α a := fun a z => by
    rcases z with z | ⟨j, es', e, z⟩
    · exact .inl z
    · obtain ⟨fs, q⟩ := me j es' e
      exact .inr ⟨j, fs, q, z⟩
  have kp : Keep (MM M0 ρ α) H (upd H (α i) (.lst ys)) := fun b o e n => by
    by_cases hb : b = α i
    · subst hb
      rw [a3] at e; cases e
      exact absurd (.inr ⟨i, ds, hi, rfl⟩) (n _ rfl)
    · rw [upd_ne hb]; exact e
  refine ⟨same_upd_none r.same a1, r.old, fun j k f1 f2 e1 e2 => ?_, fun j e q => ?_, fun j f q => ?_, fun p hp => ((r.gh p hp).keep kp).less lm, by rw [List.length_set, r.len]⟩
  · obtain ⟨g1, z1⟩ := me j f1 e1
    obtain ⟨g2, z2⟩ := me k f2 e2
    exact r.inj j k g1 g2 z1 z2
  · rcases get_set q with ⟨rfl, z⟩ | ⟨n, z⟩
    · cases z
    · obtain ⟨u, h1, h2⟩ := r.im j e z
      exact ⟨u, h1, (h2.keep kp).less lm⟩
  · rcases get_set q with ⟨rfl, z⟩ | ⟨n, z⟩
    · cases z
      exact ⟨a1, a2, ys, upd_same, (hd.keep kp).less lm⟩
    · obtain ⟨h1, h2, zs, h3, h4⟩ := r.mu j f z
      refine ⟨h1, h2, zs, ?_, (h4.keep kp).less lm⟩
      rw [upd_ne fun e => n (r.inj j i f ds z hi e)]; exact h3
/-- the list at a name changes no more -/
theorem Rep.freeze {i : Nat} {ds : List D} (r : Rep K M0 H0 γ α ρ σ H) (hi : ρ[i]? = some (.mu ds)) : Rep K M0 H0 γ α (ρ.set i (.im (.lst ds))) σ H := by
  obtain ⟨a1, a2, xs, a3, a4⟩ := r.mu i ds hi
  have lm : ∀ a, MM M0 (ρ.set i (.im (.lst ds))) α a → MM M0 ρ α a := fun a => mm_set_im (by intro _ e; cases e)
  refine ⟨r.same, r.old, fun j k d1 d2 e1 e2 => ?_, fun j e q => ?_, fun j es q => ?_, fun p hp => (r.gh p hp).less lm, by rw [List.length_set, r.len]⟩
  · rcases get_set e1 with ⟨_, z⟩ | ⟨_, z1⟩
    · cases z
    · rcases get_set e2 with ⟨_, z⟩ | ⟨_, z2⟩
      · cases z
      · exact r.inj j k d1 d2 z1 z2
  · rcases get_set q with ⟨rfl, z⟩ | ⟨n, z⟩
    · cases z
      refine ⟨_, a2, α j, xs, rfl, .inl ⟨.inl a3, fun m => ?_⟩, a4.less lm⟩
      rcases m with m | ⟨k, es, e, m⟩
      · exact r.old _ m a1
      · rcases get_set e with ⟨_, z⟩ | ⟨n, z⟩
        · cases z
        · exact n (r.inj k j es ds z hi m)
    · obtain ⟨u, h1, h2⟩ := r.im j e z
      exact ⟨u, h1, h2.less lm⟩
  · rcases get_set q with ⟨rfl, z⟩ | ⟨n, z⟩
    · cases z
    · obtain ⟨h1, h2, ys, h3, h4⟩ := r.mu j es z
      exact ⟨h1, h2, ys, h3, h4.less lm⟩
end

/-! ### what an expression is worth -/
section
variable {X : Cx} {e : Expr} {es : List Expr} {st : Stmt} {sts : List Stmt} {σ : St} {H : Hp}
def tE (X : Cx) (e : Expr) : TE := fun σ H Q => ∀ (pins : List (Addr × Obj)) (s : Shared), Inv X pins σ H s → wpAny (model X.prog X.w) X.A (eval e X.env) (EP X pins σ Q) X.xe s
def tT (X : Cx) (e : Expr) : TT := fun σ H Q => ∀ (pins : List (Addr × Obj)) (s : Shared), Inv X pins σ H s → wpAny (model X.prog X.w) X.A (isTrue e X.env (eval e X.env)) (TP X pins σ Q) X.xe s
def tW (X : Cx) (e : Expr) : TT := fun σ H Q => ∀ (whole : Sem Value) (pins : List (Addr × Obj)) (s : Shared), Inv X pins σ H s → wpAny (model X.prog X.w) X.A (isTrue e X.env whole) (TP X pins σ Q) X.xe s
def tA (X : Cx) (es : List Expr) : TA := fun σ H Q => ∀ (pos : Pos) (pins : List (Addr × Obj)) (s : Shared), Inv X pins σ H s → wpAny (model X.prog X.w) X.A (spliced (backTo pos (starEach es X.env))) (AP X pins σ Q) X.xe s
def tS (X : Cx) (st : Stmt) : TS := fun D σ H => ∀ (pins : List (Addr × Obj)) (s : Shared), Inv X pins σ H s → wpAny (model X.prog X.w) X.A (exec st X.env) (SP X pins D) X.xe s
def tSs (X : Cx) (st : List Stmt) : TS := fun D σ H => ∀ (pins : List (Addr × Obj)) (s : Shared), Inv X pins σ H s → wpAny (model X.prog X.w) X.A (execs st X.env) (SP X pins D) X.xe s
theorem peE : PE X e (tE X e) := fun pins s σ H Q I h => h pins s I
theorem ptT : PT X e (tT X e) := fun pins s σ H Q I h => h pins s I
theorem pwW : PW X e (tW X e) := fun w pins s σ H Q I h => h w pins s I
theorem paA : PA X es (tA X es) := fun p pins s σ H Q I h => h p pins s I
theorem psS : PS X st (tS X st) := fun pins s σ H Q I h => h pins s I
theorem psSs : PSs X sts (tSs X sts) := fun pins s σ H Q I h => h pins s I
theorem _root_.L2.PE.to {t : TE} {Q : VK} (h : PE X e t) (q : t σ H Q) : tE X e σ H Q := fun pins s I => h pins s σ H Q I q
theorem _root_.L2.PT.to {t : TT} {Q : Bool → Hp → Prop} (h : PT X e t) (q : t σ H Q) : tT X e σ H Q := fun pins s I => h pins s σ H Q I q
theorem _root_.L2.PW.to {t : TT} {Q : Bool → Hp → Prop} (h : PW X e t) (q : t σ H Q) : tW X e σ H Q := fun w pins s I => h w pins s σ H Q I q
theorem _root_.L2.PA.to {t : TA} {Q : List V → Hp → Prop} (h : PA X es t) (q : t σ H Q) : tA X es σ H Q := fun p pins s I => h p pins s σ H Q I q
theorem _root_.L2.PS.to {t : TS} {D : Ends} (h : PS X st t) (q : t D σ H) : tS X st D σ H := fun pins s I => h pins s σ H D I q
theorem _root_.L2.PSs.to {t : TS} {D : Ends} (h : PSs X sts t) (q : t D σ H) : tSs X sts D σ H := fun pins s I => h pins s σ H D I q
end

/-- EvD: a value that stays; EvR: the top list may change later; EvF: a new list; TvD: a test; AvD: arguments -/
def EvD (X : Cx) (ρ : Rho) (e : Expr) (d : D) : Prop := ∀ (M0 : MP) (H0 : Hp) (γ : List (D × V)) (α : Nat → Addr) (σ : St) (H : Hp) (Q : VK), Rep X.K M0 H0 γ α ρ σ H →
  (∀ v H', Same H H' → Dn X.K (MM M0 ρ α) H' d v → Q v H') → tE X e σ H Q
def EvR (X : Cx) (ρ : Rho) (e : Expr) (d : D) : Prop := ∀ (M0 : MP) (H0 : Hp) (γ : List (D × V)) (α : Nat → Addr) (σ : St) (H : Hp) (Q : VK), Rep X.K M0 H0 γ α ρ σ H →
  (∀ v H', Same H H' → DnT X.K (MM M0 ρ α) H' d v → Q v H') → tE X e σ H Q
def EvF (X : Cx) (ρ : Rho) (e : Expr) (ds : List D) : Prop := ∀ (M0 : MP) (H0 : Hp) (γ : List (D × V)) (α : Nat → Addr) (σ : St) (H : Hp) (Q : VK), Rep X.K M0 H0 γ α ρ σ H →
  (∀ l xs H1 H', Same H H1 → H1 l = none → Same H1 H' → H' l = some (.lst xs) → Dns X.K (fun a => MM M0 ρ α a ∨ a = l) H' ds xs → Q (.ref l) H') → tE X e σ H Q
def TvD (X : Cx) (ρ : Rho) (e : Expr) (b : Bool) : Prop := ∀ (M0 : MP) (H0 : Hp) (γ : List (D × V)) (α : Nat → Addr) (σ : St) (H : Hp) (Q : Bool → Hp → Prop), Rep X.K M0 H0 γ α ρ σ H →
  (∀ H', Same H H' → Q b H') → tT X e σ H Q
def TwD (X : Cx) (ρ : Rho) (e : Expr) (b : Bool) : Prop := ∀ (M0 : MP) (H0 : Hp) (γ : List (D × V)) (α : Nat → Addr) (σ : St) (H : Hp) (Q : Bool → Hp → Prop), Rep X.K M0 H0 γ α ρ σ H →
  (∀ H', Same H H' → Q b H') → tW X e σ H Q
def AvD (X : Cx) (ρ : Rho) (es : List Expr) (ds : List D) : Prop := ∀ (M0 : MP) (H0 : Hp) (γ : List (D × V)) (α : Nat → Addr) (σ : St) (H : Hp) (Q : List V → Hp → Prop), Rep X.K M0 H0 γ α ρ σ H →
  (∀ vs H', Same H H' → Dns X.K (MM M0 ρ α) H' ds vs → Q vs H') → tA X es σ H Q
def DnTs (K : Frag) (M : MP) (H : Hp) : List D → List V → Prop
  | [], xs => xs = []
  | d :: ds, xs => ∃ v r, xs = v :: r ∧ DnT K M H d v ∧ DnTs K M H ds r
def AvR (X : Cx) (ρ : Rho) (es : List Expr) (ds : List D) : Prop := ∀ (M0 : MP) (H0 : Hp) (γ : List (D × V)) (α : Nat → Addr) (σ : St) (H : Hp) (Q : List V → Hp → Prop), Rep X.K M0 H0 γ α ρ σ H →
  (∀ vs H', Same H H' → DnTs X.K (MM M0 ρ α) H' ds vs → Q vs H') → tA X es σ H Q

section
variable {X : Cx} {ρ : Rho} {e a b : Expr} {es : List Expr} {d : D} {ds : List D} {pos p : Pos}
theorem EvD.r (h : EvD X ρ e d) : EvR X ρ e d := fun M0 H0 γ α σ H Q R k => h M0 H0 γ α σ H Q R fun v H' s x => k v H' s x.t
theorem EvF.toD (h : EvF X ρ e ds) : EvD X ρ e (.lst ds) := fun M0 H0 γ α σ H Q R k => h M0 H0 γ α σ H Q R fun l xs H1 H' s n s' x y =>
  k _ H' (s.trans s') ⟨l, xs, rfl, .inl ⟨.inl x, fun m => by
    rcases m with m | ⟨i, es, e, m⟩
    · exact R.old _ m (R.same.free (s.free n))
    · obtain ⟨_, _, ys, h3, _⟩ := R.mu i es e
      rw [m] at h3
      have := s _ _ h3
      rw [n] at this; cases this⟩, y.less fun a m => .inl m⟩
theorem EvD.to {d' : D} (h : EvD X ρ e d) (q : d = d') : EvD X ρ e d' := q ▸ h
theorem TvD.to {c c' : Bool} (h : TvD X ρ e c) (q : c = c') : TvD X ρ e c' := q ▸ h

theorem EvD.int {i : Int} {j} : EvD X ρ (.Constant (.int i) j pos) (.int i) := fun _ _ _ _ _ H _ _ k => pe_int.to (k _ H (Same.refl _) rfl)
theorem EvD.bl {i : Bool} {j} : EvD X ρ (.Constant (.bool i) j pos) (.bl i) := fun _ _ _ _ _ H _ _ k => pe_bl.to (k _ H (Same.refl _) rfl)
theorem EvD.non {j} : EvD X ρ (.Constant .none j pos) .non := fun _ _ _ _ _ H _ _ k => pe_non.to (k _ H (Same.refl _) rfl)
theorem EvD.str {x : Str} {j} : EvD X ρ (.Constant (.str x) j pos) (.str x) := fun _ _ _ _ _ H _ _ k => pe_str.to (k _ H (Same.refl _) rfl)
theorem EvD.name {x : Str} (i : Nat) (hN : X.N[i]? = some x) (hv : Vis X.env.scope x) (hρ : ρ[i]? = some (.im d)) (hd : (x == ("__debug__" : Str)) = false := by decide) (hcd : (x == ("__classdict__" : Str)) = false := by decide) : EvD X ρ (.Name x pos) d :=
  fun _ _ _ _ _ H _ R k => (pe_var hN hv hd hcd).to (let ⟨v, h1, h2⟩ := R.im i d hρ; ⟨v, h1, k v H (Same.refl _) h2⟩)
theorem EvR.name {x : Str} (i : Nat) (hN : X.N[i]? = some x) (hv : Vis X.env.scope x) (hρ : ρ[i]? = some (.mu ds)) (hd : (x == ("__debug__" : Str)) = false := by decide) (hcd : (x == ("__classdict__" : Str)) = false := by decide) : EvR X ρ (.Name x pos) (.lst ds) :=
  fun _ _ _ α _ H _ R k => (pe_var hN hv hd hcd).to (let ⟨_, h1, xs, h3, h4⟩ := R.mu i ds hρ; ⟨_, h1, k _ H (Same.refl _) ⟨α i, xs, rfl, SqL.of h3, h4⟩⟩)
theorem EvD.glob {x : Str} {v : V} {u : Value} (hg : Gl X x) (hm : X.mg x = some u) (r : RelV v u) (hn : ∀ M H, Dn X.K M H d v) (hd : (x == ("__debug__" : Str)) = false := by decide) : EvD X ρ (.Name x pos) d :=
  fun _ _ _ _ _ H _ _ k => (pe_glob hg hm r hd).to (k _ H (Same.refl _) (hn _ _))

theorem AvD.nil : AvD X ρ [] [] := fun _ _ _ _ _ H _ _ k => pa_nil.to (k _ H (Same.refl _) rfl)
theorem AvD.cons (h : EvD X ρ e d) (t : AvD X ρ es ds) (hs : starEach (e :: es) X.env = (false, eval e X.env) :: starEach es X.env := by rfl) : AvD X ρ (e :: es) (d :: ds) :=
  fun M0 H0 γ α σ H Q R k => (pa_cons peE paA hs).to (h M0 H0 γ α σ H _ R fun v H1 s1 d1 => t M0 H0 γ α σ H1 _ (R.next s1) fun vs H2 s2 d2 => k _ H2 (s1.trans s2) ⟨v, vs, rfl, d1.same s2, d2⟩)
theorem AvR.nil : AvR X ρ [] [] := fun _ _ _ _ _ H _ _ k => pa_nil.to (k _ H (Same.refl _) rfl)
theorem AvR.cons (h : EvR X ρ e d) (t : AvR X ρ es ds) (hs : starEach (e :: es) X.env = (false, eval e X.env) :: starEach es X.env := by rfl) : AvR X ρ (e :: es) (d :: ds) :=
  fun M0 H0 γ α σ H Q R k => (pa_cons peE paA hs).to (h M0 H0 γ α σ H _ R fun v H1 s1 d1 => t M0 H0 γ α σ H1 _ (R.next s1) fun vs H2 s2 d2 => k _ H2 (s1.trans s2) ⟨v, vs, rfl, d1.same s2, d2⟩)
theorem le_line {n : Nat} (h : n ≤ 1000000) : n ≤ sizeLine := Nat.le_trans h (by decide)
theorem EvD.tup {x1} (h : AvD X ρ es ds) (hl : ds.length ≤ 1000000 := by exact Nat.le_of_ble_eq_true rfl) : EvD X ρ (.Tuple es x1 pos) (.tup ds) :=
  fun M0 H0 γ α σ H Q R k => (pe_tup paA).to (h M0 H0 γ α σ H _ R fun vs H1 s1 d1 => ⟨by rw [d1.len]; exact le_line hl, fun q hq =>
    k _ _ (s1.trans (same_new hq)) ⟨q, vs, rfl, SqT.of upd_same, d1.same (same_new hq)⟩⟩)
theorem fresh_re {K : Frag} {M : MP} {H : Hp} {l : Addr} {ds : List D} {vs : List V} (hl : H l = none) (h : Dns K M H ds vs) : Dns K (fun a => M a ∨ a = l) H ds vs :=
  h.re fun a m => m.elim .inl fun z => .inr (by rw [z]; exact hl)
theorem EvF.lst (h : AvD X ρ es ds) (hl : ds.length ≤ 1000000 := by exact Nat.le_of_ble_eq_true rfl) : EvF X ρ (.List es pos) ds :=
  fun M0 H0 γ α σ H Q R k => (pe_lst paA).to (h M0 H0 γ α σ H _ R fun vs H1 s1 d1 => ⟨by rw [d1.len]; exact le_line hl, fun q hq =>
    k q vs H1 _ s1 hq (same_new hq) upd_same ((fresh_re hq d1).same (same_new hq))⟩)

/-! two operands -/
theorem EvD.op2 {op : Operator} {r : R2} {da db : D} (ho : OpR X (binaryOp op) r) (ha : EvR X ρ a da) (hb : EvR X ρ b db)
    (hr : ∀ (M : MP) (H : Hp) (x y : V) (Q : VK), DnT X.K M H da x → DnT X.K M H db y → (∀ v H', Same H H' → Dn X.K M H' d v → Q v H') → r x y H Q) : EvD X ρ (.BinOp a op b pos) d :=
  fun M0 H0 γ α σ H Q R k => (pe_op ho peE peE).to (ha M0 H0 γ α σ H _ R fun v H1 s1 d1 => hb M0 H0 γ α σ H1 _ (R.next s1) fun u H2 s2 d2 => hr _ H2 v u Q (d1.same s2) d2 fun w' H3 s3 d3 => k w' H3 ((s1.trans s2).trans s3) d3)
theorem EvD.add {i j : Int} (ha : EvD X ρ a (.int i)) (hb : EvD X ρ b (.int j)) : EvD X ρ (.BinOp a .Add b pos) (.int (i + j)) :=
  EvD.op2 op_add ha.r hb.r fun M H x y Q dx dy k => ⟨i, j, dx, dy, k _ H (Same.refl _) rfl⟩
theorem EvD.sub {i j : Int} (ha : EvD X ρ a (.int i)) (hb : EvD X ρ b (.int j)) : EvD X ρ (.BinOp a .Sub b pos) (.int (i - j)) :=
  EvD.op2 op_sub ha.r hb.r fun M H x y Q dx dy k => ⟨i, j, dx, dy, k _ H (Same.refl _) rfl⟩
theorem EvD.mod {i j : Int} (ha : EvD X ρ a (.int i)) (hb : EvD X ρ b (.int j)) (hc : 0 < j) : EvD X ρ (.BinOp a .Mod b pos) (.int (i % j)) :=
  EvD.op2 op_mod ha.r hb.r fun M H x y Q dx dy k => ⟨i, j, dx, dy, hc, k _ H (Same.refl _) rfl⟩
theorem EvD.fdiv {i j : Int} (ha : EvD X ρ a (.int i)) (hb : EvD X ρ b (.int j)) (hc : CDiv i j) : EvD X ρ (.BinOp a .FloorDiv b pos) (.int (i / j)) :=
  EvD.op2 op_fdiv ha.r hb.r fun M H x y Q dx dy k => ⟨i, j, dx, dy, hc, k _ H (Same.refl _) rfl⟩
theorem EvD.neg {i : Int} (ha : EvD X ρ a (.int i)) : EvD X ρ (.UnaryOp .USub a pos) (.int (-i)) :=
  fun M0 H0 γ α σ H Q R k => (pe_un un_neg peE).to (ha M0 H0 γ α σ H _ R fun v H1 s1 d1 => ⟨i, d1, k _ H1 s1 rfl⟩)

/-! comparisons -/
theorem EvD.cmp {op : CmpOp} {r : R2} {da db : D} {c : Bool} (ho : OpR X (compareOp op) r) (ha : EvR X ρ a da) (hb : EvR X ρ b db) (hm : behindInMarks op b = false)
    (hr : ∀ (M : MP) (H : Hp) (x y : V) (Q : VK), DnT X.K M H da x → DnT X.K M H db y → Q (.bl c) H → r x y H Q) : EvD X ρ (.Compare a [op] [b] pos) (.bl c) :=
  fun M0 H0 γ α σ H Q R k => (pe_cmpR ho peE peE hm).to (ha M0 H0 γ α σ H _ R fun v H1 s1 d1 => hb M0 H0 γ α σ H1 _ (R.next s1) fun u H2 s2 d2 => hr _ H2 v u Q (d1.same s2) d2 (k _ H2 (s1.trans s2) rfl))
theorem TvD.cmp {op : CmpOp} {r : R2} {da db : D} {c : Bool} (ho : OpR X (compareOp op) r) (ha : EvR X ρ a da) (hb : EvR X ρ b db) (hm : behindInMarks op b = false)
    (hr : ∀ (M : MP) (H : Hp) (x y : V) (Q : VK), DnT X.K M H da x → DnT X.K M H db y → Q (.bl c) H → r x y H Q) : TvD X ρ (.Compare a [op] [b] pos) c :=
  fun M0 H0 γ α σ H Q R k => (pt_cmpR ho peE peE hm).to (ha M0 H0 γ α σ H _ R fun v H1 s1 d1 => hb M0 H0 γ α σ H1 _ (R.next s1) fun u H2 s2 d2 => hr _ H2 v u _ (d1.same s2) d2 ⟨c, rfl, k H2 (s1.trans s2)⟩)
/-- the comparisons of ints -/
inductive CI : CmpOp → (Int → Int → Bool) → Prop where
  | lt : CI .Lt fun i j => decide (i < j)
  | le : CI .LtE fun i j => decide (i ≤ j)
  | gt : CI .Gt fun i j => decide (j < i)
  | ge : CI .GtE fun i j => decide (j ≤ i)
  | eq : CI .Eq fun i j => decide (i = j)
  | ne : CI .NotEq fun i j => !decide (i = j)
theorem dec_vint {i j : Int} : decide (V.int i = V.int j) = decide (i = j) := by
  by_cases h : i = j
  · subst h; simp
  · rw [decide_eq_false h, decide_eq_false fun q => h (by injection q)]
theorem CI.op {op : CmpOp} {g : Int → Int → Bool} (h : CI op g) : OpR X (compareOp op) (rI0 fun i j => .bl (g i j)) := by
  cases h with
  | lt => exact op_lt
  | le => exact op_le
  | gt => exact op_gt
  | ge => exact op_ge
  | eq =>
    intro pins s σ H x y v u Q I rx ry ⟨i, j, ex, ey, q⟩
    subst ex; subst ey
    exact op_eq pins s σ H _ _ v u Q I rx ry ⟨rfl, by rw [dec_vint]; exact q⟩
  | ne =>
    intro pins s σ H x y v u Q I rx ry ⟨i, j, ex, ey, q⟩
    subst ex; subst ey
    exact op_ne pins s σ H _ _ v u Q I rx ry ⟨rfl, by rw [dec_vint]; exact q⟩
theorem CI.mark {op : CmpOp} {g : Int → Int → Bool} (h : CI op g) (b : Expr) : behindInMarks op b = false := by cases h <;> exact nomark b
theorem EvD.cI {op : CmpOp} {g : Int → Int → Bool} {i j : Int} (hc : CI op g) (ha : EvD X ρ a (.int i)) (hb : EvD X ρ b (.int j)) : EvD X ρ (.Compare a [op] [b] pos) (.bl (g i j)) :=
  EvD.cmp hc.op ha.r hb.r (hc.mark b) fun M H x y Q dx dy k => ⟨i, j, dx, dy, k⟩
theorem TvD.cI {op : CmpOp} {g : Int → Int → Bool} {i j : Int} (hc : CI op g) (ha : EvD X ρ a (.int i)) (hb : EvD X ρ b (.int j)) : TvD X ρ (.Compare a [op] [b] pos) (g i j) :=
  TvD.cmp hc.op ha.r hb.r (hc.mark b) fun M H x y Q dx dy k => ⟨i, j, dx, dy, k⟩
theorem EvD.chain {op op' : CmpOp} {g g' : Int → Int → Bool} {c : Expr} {i j k : Int} (h1 : CI op g) (h2 : CI op' g') (ha : EvD X ρ a (.int i)) (hb : EvD X ρ b (.int j)) (hc : EvD X ρ c (.int k))
    (hm : lastMarks [op, op'] [b, c] = false := by with_unfolding_all rfl) : EvD X ρ (.Compare a [op, op'] [b, c] pos) (.bl (g i j && g' j k)) :=
  fun M0 H0 γ α σ H Q R kk => (pe_chain h1.op h2.op peE peE peE hm).to (ha M0 H0 γ α σ H _ R fun v H1 s1 d1 => hb M0 H0 γ α σ H1 _ (R.next s1) fun u H2 s2 d2 => ⟨i, j, d1, d2, g i j, rfl, by
    cases e : g i j with
    | true => exact iteT (hc M0 H0 γ α σ H2 _ ((R.next s1).next s2) fun z H3 s3 d3 => ⟨j, k, d2, d3, by have := kk (.bl (g' j k)) H3 ((s1.trans s2).trans s3); rw [e] at this; exact this rfl⟩)
    | false => exact iteF (by have := kk (.bl false) H2 (s1.trans s2); rw [e] at this; exact this rfl)⟩)

/-! truth: a value that is a bool -/
theorem TvD.val {c : Bool} (h : EvD X ρ e (.bl c)) (he : ∀ whole, isTrue e X.env whole = (do let v ← whole; standAt e.pos; holding [v] (truthy v)) := by intro _; rfl) : TvD X ρ e c :=
  fun M0 H0 γ α σ H Q R k => (pt_val peE he).to (h M0 H0 γ α σ H _ R fun v H1 s1 d1 => ⟨c, d1, k H1 s1⟩)
theorem TwD.t {c : Bool} (h : TwD X ρ e c) : TvD X ρ e c := fun M0 H0 γ α σ H Q R k => pwW.pt.to (h M0 H0 γ α σ H Q R k)
theorem TvD.not {c : Bool} (h : TvD X ρ a c) : TvD X ρ (.UnaryOp .Not a pos) (!c) :=
  fun M0 H0 γ α σ H Q R k => (pt_not ptT).to (h M0 H0 γ α σ H _ R fun H1 s1 => k H1 s1)
theorem EvD.not {c : Bool} (h : EvD X ρ a (.bl c)) : EvD X ρ (.UnaryOp .Not a pos) (.bl (!c)) :=
  fun M0 H0 γ α σ H Q R k => (pe_not peE).to (h M0 H0 γ α σ H _ R fun v H1 s1 d1 => ⟨c, d1, k _ H1 s1 rfl⟩)
theorem TwD.and1 {c : Bool} (h : TvD X ρ a c) : TwD X ρ (.BoolOp .And [a] pos) c := fun M0 H0 γ α σ H Q R k => (pw_and1 ptT).to (h M0 H0 γ α σ H Q R k)
theorem TwD.or1 {c : Bool} (h : TvD X ρ a c) : TwD X ρ (.BoolOp .Or [a] pos) c := fun M0 H0 γ α σ H Q R k => (pw_or1 ptT).to (h M0 H0 γ α σ H Q R k)
theorem TwD.and {c c' : Bool} (h : TvD X ρ a c) (h' : c = true → TwD X ρ (.BoolOp .And (b :: es) pos) c') : TwD X ρ (.BoolOp .And (a :: b :: es) pos) (c && c') :=
  fun M0 H0 γ α σ H Q R k => (pw_and ptT pwW).to (h M0 H0 γ α σ H _ R fun H1 s1 => by
    cases e : c with
    | true => rw [e] at k; exact iteT (h' e M0 H0 γ α σ H1 _ (R.next s1) fun H2 s2 => k H2 (s1.trans s2))
    | false => rw [e] at k; exact iteF (k H1 s1))
theorem TwD.or {c c' : Bool} (h : TvD X ρ a c) (h' : c = false → TwD X ρ (.BoolOp .Or (b :: es) pos) c') : TwD X ρ (.BoolOp .Or (a :: b :: es) pos) (c || c') :=
  fun M0 H0 γ α σ H Q R k => (pw_or ptT pwW).to (h M0 H0 γ α σ H _ R fun H1 s1 => by
    cases e : c with
    | false => rw [e] at k; exact iteF (h' e M0 H0 γ α σ H1 _ (R.next s1) fun H2 s2 => k H2 (s1.trans s2))
    | true => rw [e] at k; exact iteT (k H1 s1))
theorem EvD.one {op} (h : EvD X ρ a d) : EvD X ρ (.BoolOp op [a] pos) d := fun M0 H0 γ α σ H Q R k => (pe_one peE).to (h M0 H0 γ α σ H Q R k)
theorem EvD.and {c c' : Bool} (h : EvD X ρ a (.bl c)) (h' : c = true → EvD X ρ (.BoolOp .And (b :: es) pos) (.bl c')) : EvD X ρ (.BoolOp .And (a :: b :: es) pos) (.bl (c && c')) :=
  fun M0 H0 γ α σ H Q R k => (pe_and peE peE).to (h M0 H0 γ α σ H _ R fun v H1 s1 d1 => ⟨c, d1, by
    cases e : c with
    | true => rw [e] at k; exact iteT (h' e M0 H0 γ α σ H1 _ (R.next s1) fun u H2 s2 d2 => k u H2 (s1.trans s2) d2)
    | false => rw [e] at k; exact iteF (k _ H1 s1 rfl)⟩)
theorem EvD.or {c c' : Bool} (h : EvD X ρ a (.bl c)) (h' : c = false → EvD X ρ (.BoolOp .Or (b :: es) pos) (.bl c')) : EvD X ρ (.BoolOp .Or (a :: b :: es) pos) (.bl (c || c')) :=
  fun M0 H0 γ α σ H Q R k => (pe_or peE peE).to (h M0 H0 γ α σ H _ R fun v H1 s1 d1 => ⟨c, d1, by
    cases e : c with
    | false => rw [e] at k; exact iteF (h' e M0 H0 γ α σ H1 _ (R.next s1) fun u H2 s2 d2 => k u H2 (s1.trans s2) d2)
    | true => rw [e] at k; exact iteT (k _ H1 s1 rfl)⟩)
end
end Z
set_option Elab.async false
set_option linter.all false
set_option maxRecDepth 100000
namespace Z
open PySem PySem.Spec PyProof.Rows L2

/-! ### statements -/
structure Post where
  N : Rho → Prop
  R : D → Prop
  B : Rho → Prop := fun _ => False
  C : Rho → Prop := fun _ => False
def ends (K : Frag) (M0 : MP) (H0 : Hp) (γ : List (D × V)) (P : Post) : Ends where
  nx := fun σ H => ∃ α ρ, Rep K M0 H0 γ α ρ σ H ∧ P.N ρ
  rt := fun v H => ∃ d, P.R d ∧ Same H0 H ∧ Dn K M0 H d v
  bk := fun σ H => ∃ α ρ, Rep K M0 H0 γ α ρ σ H ∧ P.B ρ
  ct := fun σ H => ∃ α ρ, Rep K M0 H0 γ α ρ σ H ∧ P.C ρ
def W1 (X : Cx) (M0 : MP) (H0 : Hp) (st : Stmt) (ρ : Rho) (P : Post) : Prop := ∀ (γ : List (D × V)) (α : Nat → Addr) (σ : St) (H : Hp), Rep X.K M0 H0 γ α ρ σ H → tS X st (ends X.K M0 H0 γ P) σ H
def WS (X : Cx) (M0 : MP) (H0 : Hp) (st : List Stmt) (ρ : Rho) (P : Post) : Prop := ∀ (γ : List (D × V)) (α : Nat → Addr) (σ : St) (H : Hp), Rep X.K M0 H0 γ α ρ σ H → tSs X st (ends X.K M0 H0 γ P) σ H
section
variable {X : Cx} {M0 : MP} {H0 : Hp} {st : Stmt} {sts : List Stmt} {ρ : Rho} {P P' : Post} {e a b c : Expr} {d : D} {ds : List D} {pos pos' : Pos} {En En' : Ends} {σ : St} {H : Hp}
theorem SP.mono {pins : List (Addr × Obj)} {f : Flow} {s : Shared} (h1 : ∀ σ H, En.nx σ H → En'.nx σ H) (h2 : ∀ v H, En.rt v H → En'.rt v H) (h3 : ∀ σ H, En.bk σ H → En'.bk σ H) (h4 : ∀ σ H, En.ct σ H → En'.ct σ H) (h : SP X pins En f s) : SP X pins En' f s := by
  cases f with
  | next => obtain ⟨σ, H, I, q⟩ := h; exact ⟨σ, H, I, h1 _ _ q⟩
  | brk => obtain ⟨σ, H, I, q⟩ := h; exact ⟨σ, H, I, h3 _ _ q⟩
  | cont => obtain ⟨σ, H, I, q⟩ := h; exact ⟨σ, H, I, h4 _ _ q⟩
  | ret u => obtain ⟨v, σ, H, I, r, q⟩ := h; exact ⟨v, σ, H, I, r, h2 _ _ q⟩
theorem tS.mono (h1 : ∀ σ H, En.nx σ H → En'.nx σ H) (h2 : ∀ v H, En.rt v H → En'.rt v H) (h3 : ∀ σ H, En.bk σ H → En'.bk σ H) (h4 : ∀ σ H, En.ct σ H → En'.ct σ H) (h : tS X st En σ H) : tS X st En' σ H :=
  fun pins s I => thn (h pins s I) fun f s' q => SP.mono h1 h2 h3 h4 q
theorem tSs.mono (h1 : ∀ σ H, En.nx σ H → En'.nx σ H) (h2 : ∀ v H, En.rt v H → En'.rt v H) (h3 : ∀ σ H, En.bk σ H → En'.bk σ H) (h4 : ∀ σ H, En.ct σ H → En'.ct σ H) (h : tSs X sts En σ H) : tSs X sts En' σ H :=
  fun pins s I => thn (h pins s I) fun f s' q => SP.mono h1 h2 h3 h4 q
theorem WS.nil (h : P.N ρ) : WS X M0 H0 [] ρ P := fun γ α σ H R => pss_nil.to ⟨α, ρ, R, h⟩
theorem WS.cons (h : W1 X M0 H0 st ρ { P with N := fun ρ' => WS X M0 H0 sts ρ' P }) : WS X M0 H0 (st :: sts) ρ P := fun γ α σ H R =>
  (pss_cons psS psSs).to (tS.mono (En := ends X.K M0 H0 γ { P with N := fun ρ' => WS X M0 H0 sts ρ' P }) (fun σ' H' ⟨α', ρ', R', w⟩ => w γ α' σ' H' R') (fun _ _ q => q) (fun _ _ q => q) (fun _ _ q => q) (h γ α σ H R))
theorem WS.one (h : W1 X M0 H0 st ρ P) : WS X M0 H0 [st] ρ P := fun γ α σ H R => (pss_one psS).to (h γ α σ H R)
theorem W1.imp (h : W1 X M0 H0 st ρ P) (h1 : ∀ ρ, P.N ρ → P'.N ρ) (h2 : ∀ d, P.R d → P'.R d) (h3 : ∀ ρ, P.B ρ → P'.B ρ) (h4 : ∀ ρ, P.C ρ → P'.C ρ) : W1 X M0 H0 st ρ P' := fun γ α σ H R =>
  tS.mono (En := ends X.K M0 H0 γ P) (fun _ _ ⟨α, ρ, R, q⟩ => ⟨α, ρ, R, h1 _ q⟩) (fun _ _ ⟨d, q, r⟩ => ⟨d, h2 _ q, r⟩) (fun _ _ ⟨α, ρ, R, q⟩ => ⟨α, ρ, R, h3 _ q⟩) (fun _ _ ⟨α, ρ, R, q⟩ => ⟨α, ρ, R, h4 _ q⟩) (h γ α σ H R)
theorem WS.freeze {i : Nat} (hi : ρ[i]? = some (.mu ds)) (h : WS X M0 H0 sts (ρ.set i (.im (.lst ds))) P) : WS X M0 H0 sts ρ P := fun γ α σ H R => h γ α σ H (R.freeze hi)

theorem W1.ret (h : EvD X ρ e d) (q : P.R d) : W1 X M0 H0 (.Return (some e) pos) ρ P := fun γ α σ H R =>
  (ps_ret peE).to (h M0 H0 γ α σ H _ R fun v H' s x => ⟨d, q, R.same.trans s, x.less fun a m => .inl m⟩)
theorem W1.ite {s1 s2 : List Stmt} {t : Bool} (h : TvD X ρ c t) (h1 : t = true → WS X M0 H0 s1 ρ P) (h2 : t = false → WS X M0 H0 s2 ρ P) : W1 X M0 H0 (.If c s1 s2 pos) ρ P := fun γ α σ H R =>
  (ps_if ptT psSs psSs).to (h M0 H0 γ α σ H _ R fun H1 s => by
    cases e : t with
    | true => exact iteT (h1 e γ α σ H1 (R.next s))
    | false => exact iteF (h2 e γ α σ H1 (R.next s)))
theorem W1.set {i : Nat} {x : Str} (hN : X.N.Nodup) (hi : X.N[i]? = some x) (hx : Loc X.env.scope x) (hl : i < ρ.length) (h : EvD X ρ e d) (q : P.N (ρ.set i (.im d)))
    (hs : swapsWith e (some (.Name x pos')) pos.line X.env = pure false := by rfl) (hf : X.fn x = true ∨ X.env.scope.names.lookup x = some .local := by first | exact .inl rfl | exact .inr rfl | assumption) : W1 X M0 H0 (.Assign [.Name x pos'] e pos) ρ P := fun γ α σ H R =>
  (ps_set hN hi hx peE hs hf).to (h M0 H0 γ α σ H _ R fun v H' s x => ⟨α, _, (R.next s).set_im hl x, q⟩)
theorem W1.setF {i : Nat} {x : Str} (hN : X.N.Nodup) (hi : X.N[i]? = some x) (hx : Loc X.env.scope x) (hl : i < ρ.length) (h : EvF X ρ e ds) (q : P.N (ρ.set i (.mu ds)))
    (hs : swapsWith e (some (.Name x pos')) pos.line X.env = pure false := by rfl) (hf : X.fn x = true ∨ X.env.scope.names.lookup x = some .local := by first | exact .inl rfl | exact .inr rfl | assumption) : W1 X M0 H0 (.Assign [.Name x pos'] e pos) ρ P := fun γ α σ H R =>
  (ps_set hN hi hx peE hs hf).to (h M0 H0 γ α σ H _ R fun l xs H1 H' s n s' y z => ⟨_, _, (R.next s).set_mu hl n s' y z, q⟩)

/-! ### loops -/
def tG (X : Cx) (tg : Expr) : TG := fun v σ H Q => ∀ (pins : List (Addr × Obj)) (s : Shared) (u : Value), Inv X pins σ H s → RelV v u → wpAny (model X.prog X.w) X.A (assign tg X.env u) (fun _ s' => ∃ σ' H', Inv X pins σ' H' s' ∧ Q σ' H') X.xe s
theorem pgG {tg : Expr} : PG X tg (tG X tg) := fun pins s σ H v u Q I r h => h pins s u I r
theorem _root_.L2.PG.to {tg : Expr} {t : TG} {v : V} {Q : St → Hp → Prop} (h : PG X tg t) (q : t v σ H Q) : tG X tg v σ H Q := fun pins s u I r => h pins s σ H v u Q I r q
/-- the target takes d: the names behind it are ρ' -/
def GvD (X : Cx) (tg : Expr) (d : D) (ρ ρ' : Rho) : Prop := ∀ (M0 : MP) (H0 : Hp) (γ : List (D × V)) (α : Nat → Addr) (σ : St) (H : Hp) (v : V) (Q : St → Hp → Prop), Rep X.K M0 H0 γ α ρ σ H → Dn X.K (MM M0 ρ α) H d v →
  (∀ σ', Rep X.K M0 H0 γ α ρ' σ' H → Q σ' H) → tG X tg v σ H Q
theorem GvD.name {i : Nat} {x : Str} (hN : X.N.Nodup) (hi : X.N[i]? = some x) (hx : Loc X.env.scope x) (hl : i < ρ.length)
    (hf : X.fn x = true ∨ X.env.scope.names.lookup x = some .local := by first | exact .inl rfl | exact .inr rfl | assumption) : GvD X (.Name x pos) d ρ (ρ.set i (.im d)) := fun M0 H0 γ α σ H v Q R h k =>
  (pg_name hN hi hx hf).to (k _ (R.set_im hl h))
theorem GvD.pair {i j : Nat} {x y : Str} {d1 d2 : D} {p1 p2 : Pos} {kk : Nat} (hc : X.calm = true) (hN : X.N.Nodup) (hi : X.N[i]? = some x) (hx : Loc X.env.scope x) (hl : i < ρ.length) (hj : X.N[j]? = some y) (hy : Loc X.env.scope y) (hm : j < ρ.length)
    (hf : X.fn x = true ∨ X.env.scope.names.lookup x = some .local := by first | exact .inl rfl | exact .inr rfl | assumption) (hg : X.fn y = true ∨ X.env.scope.names.lookup y = some .local := by first | exact .inl rfl | exact .inr rfl | assumption) :
    GvD X (.Tuple [.Name x p1, .Name y p2] kk pos) (.tup [d1, d2]) ρ ((ρ.set i (.im d1)).set j (.im d2)) := fun M0 H0 γ α σ H v Q R h k => by
  obtain ⟨a, xs, rfl, hs, v1, r1, rfl, h1, v2, r2, rfl, h2, rfl⟩ := h
  refine (pg_tup hc (pgs_cons (pg_name hN hi hx hf) (pgs_cons (pg_name hN hj hy hg) pgs_nil))).to ⟨a, _, rfl, hs, rfl, v1, _, rfl, v2, _, rfl, rfl, ?_⟩
  refine k _ ((R.set_im hl h1).set_im (by rw [List.length_set]; exact hm) (h2.less fun a => mm_set_im (by intro _ e; cases e)))

theorem bodyTo {body : List Stmt} {γ γ' : List (D × V)} {α : Nat → Addr} {J : Rho → Prop} (hg : ∀ {α : Nat → Addr} {ρ : Rho} {σ : St} {H : Hp}, Rep X.K M0 H0 γ' α ρ σ H → Rep X.K M0 H0 γ α ρ σ H)
    (R : Rep X.K M0 H0 γ' α ρ σ H) (w : WS X M0 H0 body ρ { P with N := J, C := J, B := P.N }) :
    tSs X body { ends X.K M0 H0 γ P with nx := fun σ H => ∃ α ρ, Rep X.K M0 H0 γ' α ρ σ H ∧ J ρ, ct := fun σ H => ∃ α ρ, Rep X.K M0 H0 γ' α ρ σ H ∧ J ρ, bk := (ends X.K M0 H0 γ P).nx } σ H :=
  tSs.mono (En := ends X.K M0 H0 γ' { P with N := J, C := J, B := P.N }) (fun _ _ q => q) (fun _ _ q => q) (fun _ _ ⟨α, ρ, R, q⟩ => ⟨α, ρ, hg R, q⟩) (fun _ _ q => q) (w γ' α σ H R)

/-! ### the methods of a list at a name -/
/-- o.name(e), o.name(): how the call is written -/
def MC1 (X : Cx) (o : Expr) (name : Str) (e : Expr) (apos cpos : Pos) : Prop := attributeBase o name X.env (eval o X.env) = eval o X.env ∧
  ((backTo cpos (starEach [e] X.env)).all (fun x => !x.1) && (backToKw cpos (keywordEach [] X.env)).all (fun x => x.1.isSome) && decide ([e].length + ([] : List Keyword).length + (if ([] : List Keyword).isEmpty then 0 else 1) < 30)) = true ∧
  (apos.endLine == cpos.line) = true ∧ starEach [e] X.env = [(false, eval e X.env)]
def MC2 (X : Cx) (o : Expr) (name : Str) (e f : Expr) (apos cpos : Pos) : Prop := attributeBase o name X.env (eval o X.env) = eval o X.env ∧
  ((backTo cpos (starEach [e, f] X.env)).all (fun x => !x.1) && (backToKw cpos (keywordEach [] X.env)).all (fun x => x.1.isSome) && decide ([e, f].length + ([] : List Keyword).length + (if ([] : List Keyword).isEmpty then 0 else 1) < 30)) = true ∧
  (apos.endLine == cpos.line) = true ∧ starEach [e, f] X.env = [(false, eval e X.env), (false, eval f X.env)] ∧ starEach [f] X.env = [(false, eval f X.env)] ∧ (backTo cpos (starEach [f] X.env)).any (·.1) = false
def MC0 (X : Cx) (o : Expr) (name : Str) (apos cpos : Pos) : Prop := attributeBase o name X.env (eval o X.env) = eval o X.env ∧ (apos.endLine == cpos.line) = true
/-- one argument; the list is another one behind it -/
theorem W1.mt1 {i : Nat} {x name : Str} {id : String} {es : List D} {r : V → List V → Hp → VK → Prop} {p1 p2 p3 : Pos} (pa : PlainAttrs "list") (sl : Slot "list" name id) (hty : typeOf (.builtin id) = pure (.type "method_descriptor")) (hm : MtM X id r)
    (hi : X.N[i]? = some x) (hv : Vis X.env.scope x) (hρ : ρ[i]? = some (.mu ds)) (h : EvD X ρ e d)
    (hr : ∀ (M : MP) (H : Hp) (l : Addr) (xs : List V) (v : V) (Q : VK), H l = some (.lst xs) → Dns X.K M H ds xs → Dn X.K M H d v → (∀ u ys, Dns X.K M H es ys → Q u (upd H l (.lst ys))) → r (.ref l) [v] H Q) (q : P.N (ρ.set i (.mu es)))
    (mc : MC1 X (.Name x p1) name e p2 p3) (hd : (x == ("__debug__" : Str)) = false := by decide) (hcd : (x == ("__classdict__" : Str)) = false := by decide) (hsw : swapsWith (.Call (.Attribute (.Name x p1) name p2) [e] [] p3) none pos.line X.env = pure false := by rfl) :
    W1 X M0 H0 (.Expr (.Call (.Attribute (.Name x p1) name p2) [e] [] p3) pos) ρ P := fun γ α σ H R => by
  obtain ⟨m1, m2, m3, m4⟩ := mc
  obtain ⟨a1, a2, xs, a3, a4⟩ := R.mu i ds hρ
  refine (ps_expr (pe_bm pa sl hty hm (pe_var hi hv hd hcd) paA m1 m2 m3 m4 rfl) hsw).to ?_
  refine ⟨_, a2, .inl ⟨rfl, _, SqL.of a3⟩, (AvD.cons h AvD.nil m4) M0 H0 γ α σ H _ R fun vs H1 s y => ?_⟩
  obtain ⟨v, r, rfl, e1, e2⟩ := y
  cases e2
  exact hr _ H1 (α i) xs v _ (s _ _ a3) (a4.same s) e1 fun u ys hy => ⟨α, _, (R.next s).upd_mu hρ hy, q⟩
/-- no argument -/
theorem W1.mt0 {i : Nat} {x name : Str} {id : String} {es : List D} {r : V → List V → Hp → VK → Prop} {p1 p2 p3 : Pos} (pa : PlainAttrs "list") (sl : Slot "list" name id) (hty : typeOf (.builtin id) = pure (.type "method_descriptor")) (hm : MtM X id r)
    (hi : X.N[i]? = some x) (hv : Vis X.env.scope x) (hρ : ρ[i]? = some (.mu ds))
    (hr : ∀ (M : MP) (H : Hp) (l : Addr) (xs : List V) (Q : VK), H l = some (.lst xs) → Dns X.K M H ds xs → (∀ u ys, Dns X.K M H es ys → Q u (upd H l (.lst ys))) → r (.ref l) [] H Q) (q : P.N (ρ.set i (.mu es)))
    (mc : MC0 X (.Name x p1) name p2 p3) (hd : (x == ("__debug__" : Str)) = false := by decide) (hcd : (x == ("__classdict__" : Str)) = false := by decide) (hsw : swapsWith (.Call (.Attribute (.Name x p1) name p2) [] [] p3) none pos.line X.env = pure false := by rfl) :
    W1 X M0 H0 (.Expr (.Call (.Attribute (.Name x p1) name p2) [] [] p3) pos) ρ P := fun γ α σ H R => by
  obtain ⟨m1, m2⟩ := mc
  obtain ⟨a1, a2, xs, a3, a4⟩ := R.mu i ds hρ
  refine (ps_expr (pe_bm0 pa sl hty hm (pe_var hi hv hd hcd) m1 m2) hsw).to ?_
  exact ⟨_, a2, .inl ⟨rfl, _, SqL.of a3⟩, hr _ H (α i) xs _ a3 a4 fun u ys hy => ⟨α, _, R.upd_mu hρ hy, q⟩⟩
theorem lt_line {n : Nat} (h : n < 1000000) : n < sizeLine := Nat.lt_of_lt_of_le h (by decide)
theorem W1.append {i : Nat} {x : Str} {p1 p2 p3 : Pos} (hi : X.N[i]? = some x) (hv : Vis X.env.scope x) (hρ : ρ[i]? = some (.mu ds)) (h : EvD X ρ e d) (hl : ds.length < 1000000) (q : P.N (ρ.set i (.mu (ds ++ [d]))))
    (mc : MC1 X (.Name x p1) "append" e p2 p3) (hd : (x == ("__debug__" : Str)) = false := by decide) (hcd : (x == ("__classdict__" : Str)) = false := by decide) (hsw : swapsWith (.Call (.Attribute (.Name x p1) "append" p2) [e] [] p3) none pos.line X.env = pure false := by rfl) :
    W1 X M0 H0 (.Expr (.Call (.Attribute (.Name x p1) "append" p2) [e] [] p3) pos) ρ P :=
  W1.mt1 PySem.F.plainAttrs_list PySem.F.slot_list_append PySem.F.type_list_append mt_append hi hv hρ h (fun M H l xs v Q a b c k => ⟨l, xs, v, rfl, rfl, a, by rw [b.len]; exact lt_line hl, k _ _ (Dns.app b (Dns.one c))⟩) q mc hd hcd hsw
/-- extend by a list or a tuple -/
theorem ext_list (l b : Addr) (xs ys : Array Value) (n m : Nat) (dd : Option Addr) (sl : Array (Option Value)) (h0 : ¬(!xs.isEmpty && Builtin.List.listTooLong (xs.size + ys.size)) = true) (h1 : xs.size ≤ sizeLine) (h2 : xs.size + ys.size ≤ sizeLine) :
    Meets (Builtin.«list.extend» ⟨[.ref l, .ref b], []⟩) (fun _ R s => s.heap.get? l = some { cls := .type "list", data := .seq xs n } ∧ s.heap.get? b = some { cls := .type "list", dict := dd, data := .seq ys m, slots := sl } ∧
      R (.ok (.ret Value.none)) { s with heap := s.heap.update l (Obj.mapSeq fun x => x ++ ys), toks := s.toks }) :=
  .of_wp fun prog w A R s h => by
    obtain ⟨hp, g, d, tk, os⟩ := s
    obtain ⟨hl, hb, h⟩ := h
    have f2 := AutoSeq1.sub_tuple_tuple
    have f3 := AutoSeq1.sub_list_list
    have hz : (xs ++ ys).size ≤ sizeLine + 1 := by rw [Array.size_append]; omega
    wp_walk using (wpAny_updateSeq hl rfl (hz := h1) (_hz' := hz)), AutoSeq1.wpAny_loadPart' hl, AutoSeq1.wpAny_loadPart' hb
    exact ⟨_, rfl, h⟩
theorem ext_tuple (l b : Addr) (xs ys : Array Value) (n m : Nat) (dd : Option Addr) (sl : Array (Option Value)) (h0 : ¬(!xs.isEmpty && Builtin.List.listTooLong (xs.size + ys.size)) = true) (h1 : xs.size ≤ sizeLine) (h2 : xs.size + ys.size ≤ sizeLine) :
    Meets (Builtin.«list.extend» ⟨[.ref l, .ref b], []⟩) (fun _ R s => s.heap.get? l = some { cls := .type "list", data := .seq xs n } ∧ s.heap.get? b = some { cls := .type "tuple", dict := dd, data := .seq ys m, slots := sl } ∧
      R (.ok (.ret Value.none)) { s with heap := s.heap.update l (Obj.mapSeq fun x => x ++ ys), toks := s.toks }) :=
  .of_wp fun prog w A R s h => by
    obtain ⟨hp, g, d, tk, os⟩ := s
    obtain ⟨hl, hb, h⟩ := h
    have f2 := AutoSeq1.sub_tuple_tuple
    have f3 := AutoSeq1.sub_list_list
    have hz : (xs ++ ys).size ≤ sizeLine + 1 := by rw [Array.size_append]; omega
    wp_walk using (wpAny_updateSeq hl rfl (hz := h1) (_hz' := hz)), AutoSeq1.wpAny_loadPart' hl, AutoSeq1.wpAny_loadPart' hb
    exact ⟨_, rfl, h⟩
def rExtD (K : Frag) : V → List V → Hp → VK → Prop := fun x vs H Q => ∃ l b xs zs, x = .ref l ∧ vs = [.ref b] ∧ H l = some (.lst xs) ∧ (SqL K H b zs ∨ SqT K H b zs) ∧ xs.length + zs.length ≤ sizeLine ∧ Q .non (upd H l (.lst (xs ++ zs)))
theorem mt_extD : MtM X "list.extend" (rExtD X.K) := by
  intro pins s σ H x vs v us Q I rx rv h
  obtain ⟨l, b, xs, zs, rfl, rfl, hH, hB, hz, q⟩ := h
  cases rx
  obtain ⟨u, rfl, ru⟩ := rv.one
  cases ru
  obtain ⟨z, its, n, r, hl, e⟩ := I.lstM hH
  have key : ∀ its2 : List Value, Vals zs its2 → its.toArray.size + its2.toArray.size ≤ sizeLine ∧ ¬ (!its.toArray.isEmpty && Builtin.List.listTooLong (its.toArray.size + its2.toArray.size)) = true := fun its2 r2 => by
    have hl2 := r2.length
    have hsz : its.toArray.size + its2.toArray.size ≤ sizeLine := by rw [List.size_toArray, List.size_toArray]; omega
    refine ⟨hsz, ?_⟩
    rw [notLongL hsz, Bool.and_false]
    exact Bool.false_ne_true
  have fin : ∀ its2 : List Value, Vals zs its2 → EP X pins σ Q Value.none { s with heap := s.heap.update l (Obj.mapSeq fun x => x ++ its2.toArray), toks := s.toks } := fun its2 r2 =>
    ⟨.non, _, I.lset (its' := its ++ its2) hH e (by simp) (r.append r2) (by rw [List.length_append]; exact hz), rfl, q⟩
  rcases hB with hB | hB
  · obtain ⟨its2, r2, ⟨⟨oc, od, odt, osl⟩, n2, e2, ec, ed, edt⟩, z2⟩ := I.list hB
    simp only at ec ed edt
    subst ec ed edt
    obtain ⟨k1, k2⟩ := key its2 r2
    exact call_meets F.slot_list_extend ⟨_, e, rfl⟩ F.entry_list_extend (F.args_list_extend_2 _ _) (ext_list l b its.toArray its2.toArray n n2 none osl k2 (by rw [List.size_toArray]; omega) k1) ⟨e, e2, fin its2 r2⟩
  · obtain ⟨its2, r2, ⟨⟨oc, od, odt, osl⟩, e2, ec, n2, edt⟩, z2⟩ := I.tuple hB
    simp only at ec edt
    subst ec edt
    obtain ⟨k1, k2⟩ := key its2 r2
    exact call_meets F.slot_list_extend ⟨_, e, rfl⟩ F.entry_list_extend (F.args_list_extend_2 _ _) (ext_tuple l b its.toArray its2.toArray n n2 od osl k2 (by rw [List.size_toArray]; omega) k1) ⟨e, e2, fin its2 r2⟩
end
end Z
set_option Elab.async false
set_option linter.all false
set_option maxRecDepth 100000
namespace Z
open PySem PySem.Spec PyProof.Rows L2

section
variable {X : Cx} {M0 : MP} {H0 : Hp} {ρ : Rho} {P : Post} {e a b c : Expr} {es : List Expr} {d : D} {ds : List D} {pos p : Pos}
/-! ### items -/
theorem Dns.at {K : Frag} {M : MP} {H : Hp} {ds : List D} {vs : List V} {k : Int} {d : D} (h : Dns K M H ds vs) (e : atI ds k = some d) : ∃ v, atI vs k = some v ∧ Dn K M H d v := by
  obtain ⟨j, h1, h2, h3, h4, h5⟩ := atI_get e
  obtain ⟨v, q1, q2⟩ := h.get h2
  refine ⟨v, ?_, q2⟩
  unfold atI at e ⊢
  rw [h.len]
  cases z : ixN ds.length k with
  | none => rw [z] at e; cases e
  | some j' =>
    obtain ⟨w, _⟩ := ixN_seq z
    rw [h1] at w; cases w
    exact q1
theorem EvD.ixL {k : Int} (ha : EvR X ρ a (.lst ds)) (hb : EvD X ρ b (.int k)) (hk : atI ds k = some d) (hs : PlainIx b := by intro _ _; rfl) : EvD X ρ (.Subscript a b pos) d :=
  fun M0 H0 γ α σ H Q R kk => (pe_ix ix_list peE peE hs).to (ha M0 H0 γ α σ H _ R fun v H1 s1 d1 => hb M0 H0 γ α σ H1 _ (R.next s1) fun u H2 s2 d2 => by
    obtain ⟨q, xs, rfl, sq, dn⟩ := d1.same s2
    obtain ⟨w, e1, e2⟩ := dn.at hk
    exact ⟨q, xs, k, w, rfl, d2, sq, e1, kk w H2 (s1.trans s2) e2⟩)
theorem EvD.ixT {k : Int} (ha : EvD X ρ a (.tup ds)) (hb : EvD X ρ b (.int k)) (hk : atI ds k = some d) (hs : PlainIx b := by intro _ _; rfl) : EvD X ρ (.Subscript a b pos) d :=
  fun M0 H0 γ α σ H Q R kk => (pe_ix ix_tup peE peE hs).to (ha M0 H0 γ α σ H _ R fun v H1 s1 d1 => hb M0 H0 γ α σ H1 _ (R.next s1) fun u H2 s2 d2 => by
    obtain ⟨q, xs, rfl, sq, dn⟩ := d1.same s2
    obtain ⟨w, e1, e2⟩ := dn.at hk
    exact ⟨q, xs, k, w, rfl, d2, sq, e1, kk w H2 (s1.trans s2) e2⟩)

/-! ### built-in calls -/
theorem EvD.callB {id : String} {x : Str} {r : List V → Hp → VK → Prop} (hc : CallR X (.builtin id) r) (hg : Gl X x) (hm : X.mg x = none) (hv : bootBuiltins x = some (.builtin id)) (ha : AvR X ρ (e :: es) ds)
    (hr : ∀ (M : MP) (H : Hp) (vs : List V) (Q : VK), DnTs X.K M H ds vs → (∀ v H', Same H H' → Dn X.K M H' d v → Q v H') → r vs H Q) (hn : x ≠ "__name__" := by decide) (hdb : (x == ("__debug__" : Str)) = false := by decide)
    (he : starEach (e :: es) X.env = (false, eval e X.env) :: starEach es X.env := by rfl) (hpl : (backTo pos (starEach es X.env)).any (·.1) = false := by rfl) : EvD X ρ (.Call (.Name x p) (e :: es) [] pos) d :=
  fun M0 H0 γ α σ H Q R k => (pe_callB hc hg hm hv paA hn hdb he hpl).to (ha M0 H0 γ α σ H _ R fun vs H1 s1 d1 => hr _ H1 vs Q d1 fun v H2 s2 d2 => k v H2 (s1.trans s2) d2)
theorem EvD.callTy {T : String} {x : Str} {r : List V → Hp → VK → Prop} (hc : CallR X (.type T) r) (hg : Gl X x) (hm : X.mg x = none) (hv : bootBuiltins x = some (.type T)) (ha : AvR X ρ (e :: es) ds)
    (hr : ∀ (M : MP) (H : Hp) (vs : List V) (Q : VK), DnTs X.K M H ds vs → (∀ v H', Same H H' → Dn X.K M H' d v → Q v H') → r vs H Q) (hn : x ≠ "__name__" := by decide) (hdb : (x == ("__debug__" : Str)) = false := by decide)
    (he : starEach (e :: es) X.env = (false, eval e X.env) :: starEach es X.env := by rfl) (hpl : (backTo pos (starEach es X.env)).any (·.1) = false := by rfl) : EvD X ρ (.Call (.Name x p) (e :: es) [] pos) d :=
  fun M0 H0 γ α σ H Q R k => (pe_callTy hc hg hm hv paA hn hdb he hpl).to (ha M0 H0 γ α σ H _ R fun vs H1 s1 d1 => hr _ H1 vs Q d1 fun v H2 s2 d2 => k v H2 (s1.trans s2) d2)
theorem EvF.callTy {T : String} {x : Str} {fs : List D} {r : List V → Hp → VK → Prop} (hc : CallR X (.type T) r) (hg : Gl X x) (hm : X.mg x = none) (hv : bootBuiltins x = some (.type T)) (ha : AvR X ρ (e :: es) ds)
    (hr : ∀ (M : MP) (H : Hp) (vs : List V) (Q : VK), DnTs X.K M H ds vs → (∀ l xs H1 H', Same H H1 → H1 l = none → Same H1 H' → H' l = some (.lst xs) → Dns X.K (fun a => M a ∨ a = l) H' fs xs → Q (.ref l) H') → r vs H Q) (hn : x ≠ "__name__" := by decide) (hdb : (x == ("__debug__" : Str)) = false := by decide)
    (he : starEach (e :: es) X.env = (false, eval e X.env) :: starEach es X.env := by rfl) (hpl : (backTo pos (starEach es X.env)).any (·.1) = false := by rfl) : EvF X ρ (.Call (.Name x p) (e :: es) [] pos) fs :=
  fun M0 H0 γ α σ H Q R k => (pe_callTy hc hg hm hv paA hn hdb he hpl).to (ha M0 H0 γ α σ H _ R fun vs H1 s1 d1 => hr _ H1 vs Q d1 fun l xs H2 H3 s2 n s3 q dn => k l xs H2 H3 (s1.trans s2) n s3 q dn)
theorem AvR.one (h : EvR X ρ e d) (hs : starEach [e] X.env = [(false, eval e X.env)] := by rfl) : AvR X ρ [e] [d] := AvR.cons h AvR.nil hs
/-- len, list, tuple of a list or tuple -/
def isSeq : D → List D → Prop
  | .lst ds, es => ds = es
  | .tup ds, es => ds = es
  | _, _ => False
theorem seq_of {K : Frag} {M : MP} {H : Hp} {d : D} {ds : List D} {v : V} (hq : isSeq d ds) (h : DnT K M H d v) : ∃ q xs, v = .ref q ∧ (SqL K H q xs ∨ SqT K H q xs) ∧ Dns K M H ds xs := by
  cases d with
  | lst es => cases hq; obtain ⟨q, xs, e, s, r⟩ := h; exact ⟨q, xs, e, .inl s, r⟩
  | tup es => cases hq; obtain ⟨q, xs, e, s, r⟩ := h; exact ⟨q, xs, e, .inr s, r⟩
  | _ => exact hq.elim
theorem EvD.len (hg : Gl X "len") (hm : X.mg "len" = none) (h : EvR X ρ e d) (hq : isSeq d ds) (he : starEach [e] X.env = [(false, eval e X.env)] := by rfl) : EvD X ρ (.Call (.Name "len" p) [e] [] pos) (.int ds.length) :=
  EvD.callB call_len_seq hg hm PySem.boot_len (AvR.one h he) (fun M H vs Q dn k => by
    obtain ⟨v, r, rfl, e1, e2⟩ := dn
    cases e2
    obtain ⟨q, xs, rfl, s, z⟩ := seq_of hq e1
    exact ⟨q, xs, rfl, s, k _ H (Same.refl _) (by rw [z.len]; exact rfl)⟩) (he := he)
theorem EvF.list (hg : Gl X "list") (hm : X.mg "list" = none) (hv : bootBuiltins "list" = some (.type "list")) (h : EvR X ρ e d) (hq : isSeq d ds) (he : starEach [e] X.env = [(false, eval e X.env)] := by rfl) : EvF X ρ (.Call (.Name "list" p) [e] [] pos) ds :=
  EvF.callTy call_list_of hg hm hv (AvR.one h he) (fun M H vs Q dn k => by
    obtain ⟨v, r, rfl, e1, e2⟩ := dn
    cases e2
    obtain ⟨q, xs, rfl, s, z⟩ := seq_of hq e1
    exact ⟨q, xs, rfl, s, fun l hl => k l xs H _ (Same.refl _) hl (same_new hl) upd_same ((fresh_re hl z).same (same_new hl))⟩) (he := he)
theorem EvD.tuple (hg : Gl X "tuple") (hm : X.mg "tuple" = none) (hv : bootBuiltins "tuple" = some (.type "tuple")) (h : EvR X ρ e d) (hq : isSeq d ds) (he : starEach [e] X.env = [(false, eval e X.env)] := by rfl) : EvD X ρ (.Call (.Name "tuple" p) [e] [] pos) (.tup ds) :=
  EvD.callTy call_tuple_of hg hm hv (AvR.one h he) (fun M H vs Q dn k => by
    obtain ⟨v, r, rfl, e1, e2⟩ := dn
    cases e2
    obtain ⟨q, xs, rfl, s, z⟩ := seq_of hq e1
    refine ⟨q, xs, rfl, ?_⟩
    rcases s with s | s
    · exact .inl ⟨s, fun l hl => k _ _ (same_new hl) ⟨l, xs, rfl, SqT.of upd_same, z.same (same_new hl)⟩⟩
    · exact .inr ⟨s, k _ H (Same.refl _) ⟨q, xs, rfl, s, z⟩⟩) (he := he)
theorem EvD.min (hc : X.calm = true) (hg : Gl X "min") (hm : X.mg "min" = none) (hv : bootBuiltins "min" = some (.builtin "min")) {i j : Int} (ha : EvD X ρ a (.int i)) (hb : EvD X ρ b (.int j))
    (he : starEach [a, b] X.env = (false, eval a X.env) :: starEach [b] X.env := by rfl) (he2 : starEach [b] X.env = [(false, eval b X.env)] := by rfl) (hpl : (backTo pos (starEach [b] X.env)).any (·.1) = false := by rfl) : EvD X ρ (.Call (.Name "min" p) [a, b] [] pos) (.int (if j < i then j else i)) :=
  EvD.callB (call_min2 hc) hg hm hv (AvR.cons ha.r (AvR.one hb.r he2) he) (fun M H vs Q dn k => by
    obtain ⟨v, r, rfl, e1, v2, r2, rfl, e2, e3⟩ := dn
    cases e1; cases e2; cases e3
    exact ⟨i, j, rfl, k _ H (Same.refl _) rfl⟩) (he := he) (hpl := hpl)
theorem EvD.max (hc : X.calm = true) (hg : Gl X "max") (hm : X.mg "max" = none) (hv : bootBuiltins "max" = some (.builtin "max")) {i j : Int} (ha : EvD X ρ a (.int i)) (hb : EvD X ρ b (.int j))
    (he : starEach [a, b] X.env = (false, eval a X.env) :: starEach [b] X.env := by rfl) (he2 : starEach [b] X.env = [(false, eval b X.env)] := by rfl) (hpl : (backTo pos (starEach [b] X.env)).any (·.1) = false := by rfl) : EvD X ρ (.Call (.Name "max" p) [a, b] [] pos) (.int (if j > i then j else i)) :=
  EvD.callB (call_max2 hc) hg hm hv (AvR.cons ha.r (AvR.one hb.r he2) he) (fun M H vs Q dn k => by
    obtain ⟨v, r, rfl, e1, v2, r2, rfl, e2, e3⟩ := dn
    cases e1; cases e2; cases e3
    exact ⟨i, j, rfl, k _ H (Same.refl _) rfl⟩) (he := he) (hpl := hpl)

/-! ### equality, in: over data -/
mutual
def D.pd : D → PyData
  | .non => .none
  | .bl b => .bool b
  | .int i => .int i
  | .str x => .str x
  | .tup ds => .tuple (D.pds ds)
  | .lst ds => .list (D.pds ds)
  | .ins _ _ _ => .none
  | .exc _ => .none
def D.pds : List D → List PyData
  | [] => []
  | d :: ds => D.pd d :: D.pds ds
end
/-- plain data, n deep at most -/
def D.flat : Nat → D → Prop
  | _, .non => True
  | _, .bl _ => True
  | _, .int _ => True
  | _, .str x => PyData.strOk x = true
  | n + 1, .tup ds => ∀ d ∈ ds, D.flat n d
  | n + 1, .lst ds => ∀ d ∈ ds, D.flat n d
  | _, _ => False
theorem reads_of {pins : List (Addr × Obj)} {s : Shared} {σ : St} {H : Hp} {M : MP} (I : Inv X pins σ H s) : ∀ (n : Nat),
    (∀ (d : D) (v : V) (u : Value), D.flat n d → DnT X.K M H d v → RelV v u → ∃ as, Reads s.heap u d.pd as) := by
  intro n
  have all : ∀ m : Nat, (∀ (d : D) (v : V) (u : Value), D.flat m d → DnT X.K M H d v → RelV v u → ∃ as, Reads s.heap u d.pd as) →
      ∀ (ds : List D) (vs : List V) (us : List Value), (∀ d ∈ ds, D.flat m d) → Dns X.K M H ds vs → Vals vs us → ∃ as, ReadsAll s.heap us (D.pds ds) as := by
    intro m ih ds
    induction ds with
    | nil => intro vs us _ h r; cases (show vs = [] from h); cases r; exact ⟨_, .nil⟩
    | cons d ds hi =>
      intro vs us hf h r
      obtain ⟨v, t, rfl, h1, h2⟩ := h
      cases r with
      | cons r1 r2 =>
        obtain ⟨as, q1⟩ := ih d v _ (hf d (.head _)) h1.t r1
        obtain ⟨bs, q2⟩ := hi t _ (fun x hx => hf x (.tail _ hx)) h2 r2
        exact ⟨_, .cons q1 q2⟩
  have base : ∀ (m : Nat) (d : D) (v : V) (u : Value), (∀ ds, d ≠ .tup ds) → (∀ ds, d ≠ .lst ds) → D.flat m d → DnT X.K M H d v → RelV v u → ∃ as, Reads s.heap u d.pd as := by
    intro m d v u n1 n2 hf h r
    cases d with
    | non => cases (show v = .non from h); cases (show u = Value.none from r); exact ⟨_, .none⟩
    | bl b => cases (show v = .bl b from h); cases (show u = Value.bool b from r); exact ⟨_, .bool b⟩
    | int i => cases (show v = .int i from h); obtain ⟨t, rfl⟩ := r; exact ⟨_, .int i t⟩
    | str x => cases (show v = .str x from h); obtain ⟨t, rfl⟩ := r; exact ⟨_, .str x t⟩
    | tup ds => exact absurd rfl (n1 ds)
    | lst ds => exact absurd rfl (n2 ds)
    | ins _ _ _ => cases m <;> exact hf.elim
    | exc _ => cases m <;> exact hf.elim
  induction n with
  | zero =>
    intro d v u hf h r
    refine base 0 d v u (fun ds e => ?_) (fun ds e => ?_) hf h r <;> (subst e; exact hf.elim)
  | succ n ih =>
    intro d v u hf h r
    cases d with
    | tup ds =>
      obtain ⟨a, xs, rfl, sq, dn⟩ := h
      cases (show u = Value.ref a from r)
      obtain ⟨its, rv, ⟨o, e1, e2, m, e3⟩, _⟩ := I.tuple sq
      obtain ⟨as, q⟩ := all n ih ds xs its hf dn rv
      exact ⟨_, .tuple e1 e2 e3 (by simpa [D.pds] using q)⟩
    | lst ds =>
      obtain ⟨a, xs, rfl, sq, dn⟩ := h
      cases (show u = Value.ref a from r)
      obtain ⟨its, rv, ⟨o, m, e1, e2, _, e3⟩, _⟩ := I.list sq
      obtain ⟨as, q⟩ := all n ih ds xs its hf dn rv
      exact ⟨_, .list e1 e2 e3 (by simpa [D.pds] using q)⟩
    | _ => exact base (n + 1) _ v u (fun ds e => nomatch e) (fun ds e => nomatch e) hf h r
theorem shaped_of : ∀ (n : Nat) (d : D), D.flat n d → d.pd.canLay0 = true ∧ d.pd.depth ≤ n := by
  have all : ∀ m : Nat, (∀ d : D, D.flat m d → d.pd.canLay0 = true ∧ d.pd.depth ≤ m) → ∀ ds : List D, (∀ d ∈ ds, D.flat m d) → PyData.canLayAll0 (D.pds ds) = true ∧ PyData.depthAll (D.pds ds) ≤ m := by
    intro m ih ds
    induction ds with
    | nil => intro _; exact ⟨by simp [D.pds, PyData.canLayAll0], by simp [D.pds, PyData.depthAll]⟩
    | cons d ds hi =>
      intro hf
      obtain ⟨a1, a2⟩ := ih d (hf d (.head _))
      obtain ⟨b1, b2⟩ := hi fun x hx => hf x (.tail _ hx)
      exact ⟨by simp [D.pds, PyData.canLayAll0, a1, b1], by simp only [D.pds, PyData.depthAll]; omega⟩
  intro n
  induction n with
  | zero => intro d hf; cases d <;> simp_all [D.flat, D.pd, PyData.canLay0, PyData.depth]
  | succ n ih =>
    intro d hf
    cases d with
    | tup ds => obtain ⟨b1, b2⟩ := all n ih ds hf; exact ⟨by simpa [D.pd, PyData.canLay0] using b1, by simp only [D.pd, PyData.depth]; omega⟩
    | lst ds => obtain ⟨b1, b2⟩ := all n ih ds hf; exact ⟨by simpa [D.pd, PyData.canLay0] using b1, by simp only [D.pd, PyData.depth]; omega⟩
    | _ => simp_all [D.flat, D.pd, PyData.canLay0, PyData.depth]
theorem shaped_flat {d : D} (h : D.flat 60 d) : SeqAt.shaped d.pd = true := by
  obtain ⟨a, b⟩ := shaped_of 60 d h
  unfold SeqAt.shaped
  rw [a, Bool.true_and]
  exact decide_eq_true (by omega)
def D.eqv (a b : D) : Bool := PyData.eqv a.pd b.pd
def rEqD (K : Frag) (neg : Bool) : R2 := fun x y H Q => ∃ M da db, DnT K M H da x ∧ DnT K M H db y ∧ D.flat 60 da ∧ D.flat 60 db ∧ Q (.bl (if neg then !D.eqv da db else D.eqv da db)) H
theorem op_eqD (hu : X.A.units + 64 < cLine) : OpR X (compareOp .Eq) (rEqD X.K false) := by
  intro pins s σ H x y v u Q I rx ry ⟨M, da, db, h1, h2, f1, f2, q⟩
  obtain ⟨as, r1⟩ := reads_of I 60 da x v f1 h1 rx
  obtain ⟨bs, r2⟩ := reads_of I 60 db y u f2 h2 ry
  exact eq_dataH r1 r2 (shaped_flat f1) (shaped_flat f2) hu ⟨.bl _, H, I, rfl, q⟩
theorem op_neD (hu : X.A.units + 64 < cLine) : OpR X (compareOp .NotEq) (rEqD X.K true) := by
  intro pins s σ H x y v u Q I rx ry ⟨M, da, db, h1, h2, f1, f2, q⟩
  obtain ⟨as, r1⟩ := reads_of I 60 da x v f1 h1 rx
  obtain ⟨bs, r2⟩ := reads_of I 60 db y u f2 h2 ry
  exact ne_dataH r1 r2 (shaped_flat f1) (shaped_flat f2) hu ⟨.bl _, H, I, rfl, q⟩
theorem EvD.eq {da db : D} (hu : X.A.units + 64 < cLine) (ha : EvR X ρ a da) (hb : EvR X ρ b db) (f1 : D.flat 60 da) (f2 : D.flat 60 db) : EvD X ρ (.Compare a [.Eq] [b] pos) (.bl (D.eqv da db)) :=
  EvD.cmp (op_eqD hu) ha hb (nomark b) fun M H x y Q dx dy k => ⟨M, da, db, dx, dy, f1, f2, k⟩
theorem TvD.ne {da db : D} (hu : X.A.units + 64 < cLine) (ha : EvR X ρ a da) (hb : EvR X ρ b db) (f1 : D.flat 60 da) (f2 : D.flat 60 db) : TvD X ρ (.Compare a [.NotEq] [b] pos) (!D.eqv da db) :=
  TvD.cmp (op_neD hu) ha hb (nomark b) fun M H x y Q dx dy k => ⟨M, da, db, dx, dy, f1, f2, k⟩
def inD (d : D) (ds : List D) : Bool := ds.any fun y => D.eqv y d
def rInD (K : Frag) (neg : Bool) : R2 := fun x y H Q => ∃ M da ds, DnT K M H da x ∧ (DnT K M H (.lst ds) y ∨ DnT K M H (.tup ds) y) ∧ D.flat 60 da ∧ (∀ d ∈ ds, D.flat 59 d) ∧ Q (.bl (if neg then !inD da ds else inD da ds)) H
theorem any_pds (d : D) : ∀ ds : List D, (D.pds ds).any (fun y => PyData.eqv y d.pd) = inD d ds
  | [] => rfl
  | y :: ds => by
    show (PyData.eqv y.pd d.pd || (D.pds ds).any _) = (D.eqv y d || inD d ds)
    rw [any_pds d ds]
    rfl
theorem op_inD (hu : X.A.units + 65 < cLine) : OpR X (compareOp .In) (rInD X.K false) := by
  intro pins s σ H x y v u Q I rx ry ⟨M, da, ds, h1, h2, f1, f2, q⟩
  obtain ⟨as, r1⟩ := reads_of I 60 da x v f1 h1 rx
  obtain ⟨c1, c2⟩ := shaped_of 60 da f1
  rcases h2 with h2 | h2
  · obtain ⟨bs, r2⟩ := reads_of I 60 (.lst ds) y u f2 h2 ry
    obtain ⟨e1, e2⟩ := shaped_of 60 (.lst ds) f2
    exact SeqAt.in_list_reads r2 r1 e1 c1 (by have := Nat.min_le_right (PyData.depthAll (D.pds ds)) da.pd.depth; omega) (by rw [any_pds]; exact ⟨.bl _, H, I, rfl, q⟩)
  · obtain ⟨bs, r2⟩ := reads_of I 60 (.tup ds) y u f2 h2 ry
    obtain ⟨e1, e2⟩ := shaped_of 60 (.tup ds) f2
    exact SeqAt.in_tuple_reads r2 r1 e1 c1 (by have := Nat.min_le_right (PyData.depthAll (D.pds ds)) da.pd.depth; omega) (by rw [any_pds]; exact ⟨.bl _, H, I, rfl, q⟩)
theorem op_notInD (hu : X.A.units + 65 < cLine) : OpR X (compareOp .NotIn) (rInD X.K true) := by
  intro pins s σ H x y v u Q I rx ry ⟨M, da, ds, h1, h2, f1, f2, q⟩
  obtain ⟨as, r1⟩ := reads_of I 60 da x v f1 h1 rx
  obtain ⟨c1, c2⟩ := shaped_of 60 da f1
  rcases h2 with h2 | h2
  · obtain ⟨bs, r2⟩ := reads_of I 60 (.lst ds) y u f2 h2 ry
    obtain ⟨e1, e2⟩ := shaped_of 60 (.lst ds) f2
    exact SeqAt.notIn_list_reads r2 r1 e1 c1 (by have := Nat.min_le_right (PyData.depthAll (D.pds ds)) da.pd.depth; omega) (by rw [any_pds]; exact ⟨.bl _, H, I, rfl, q⟩)
  · obtain ⟨bs, r2⟩ := reads_of I 60 (.tup ds) y u f2 h2 ry
    obtain ⟨e1, e2⟩ := shaped_of 60 (.tup ds) f2
    exact SeqAt.notIn_tuple_reads r2 r1 e1 c1 (by have := Nat.min_le_right (PyData.depthAll (D.pds ds)) da.pd.depth; omega) (by rw [any_pds]; exact ⟨.bl _, H, I, rfl, q⟩)
theorem EvD.inL {da : D} (hu : X.A.units + 65 < cLine) (ha : EvR X ρ a da) (hb : EvR X ρ b (.lst ds)) (f1 : D.flat 60 da) (f2 : ∀ d ∈ ds, D.flat 59 d) (hm : behindInMarks .In b = false := by with_unfolding_all rfl) : EvD X ρ (.Compare a [.In] [b] pos) (.bl (inD da ds)) :=
  EvD.cmp (op_inD hu) ha hb hm fun M H x y Q dx dy k => ⟨M, da, ds, dx, .inl dy, f1, f2, k⟩
theorem EvD.notInL {da : D} (hu : X.A.units + 65 < cLine) (ha : EvR X ρ a da) (hb : EvR X ρ b (.lst ds)) (f1 : D.flat 60 da) (f2 : ∀ d ∈ ds, D.flat 59 d) (hm : behindInMarks .NotIn b = false := by with_unfolding_all rfl) : EvD X ρ (.Compare a [.NotIn] [b] pos) (.bl (!inD da ds)) :=
  EvD.cmp (op_notInD hu) ha hb hm fun M H x y Q dx dy k => ⟨M, da, ds, dx, .inl dy, f1, f2, k⟩
/-! is None -/
def D.isNon : D → Bool
  | .non => true
  | _ => false

/-! ### list + list, tuple + tuple -/
def rCatL (K : Frag) : R2 := fun x y H Q => ∃ l b xs zs, x = .ref l ∧ y = .ref b ∧ SqL K H l xs ∧ SqL K H b zs ∧ xs.length + zs.length ≤ sizeLine ∧ ∀ p, H p = none → Q (.ref p) (upd H p (.lst (xs ++ zs)))
theorem add_meets (l b : Addr) (xs ys : Array Value) (n m : Nat) (dd de : Option Addr) (sl tl : Array (Option Value)) (h0 : xs.size + ys.size ≤ sizeLine) :
    Meets (Builtin.«list.__add__» ⟨[.ref l, .ref b], []⟩) (fun _ R s => s.heap.get? l = some { cls := .type "list", dict := dd, data := .seq xs n, slots := sl } ∧ s.heap.get? b = some { cls := .type "list", dict := de, data := .seq ys m, slots := tl } ∧
      R (.ok (.ret (Value.ref s.heap.objs.size))) { s with heap := s.heap.push { cls := Value.type "list", data := Data.seq (xs ++ ys) }, toks := s.toks }) :=
  .of_wp fun prog w A R s h => by
    obtain ⟨hp, g, d, tk, os⟩ := s
    obtain ⟨hl, hb, h⟩ := h
    have f3 := AutoSeq1.sub_list_list
    wp_walk using AutoSeq1.wpAny_loadPart' hl, AutoSeq1.wpAny_loadPart' hb
    exact ⟨_, rfl, h⟩
end
end Z
set_option Elab.async false
set_option linter.all false
set_option maxRecDepth 100000
namespace Z
open PySem PySem.Spec PyProof.Rows L2

/-! ### what a loop or a comprehension walks -/
def Walk (K : Frag) (J : It) (ds : List D) (gs : List (D × V)) : Prop := ∀ (M : MP) (H : Hp), (∀ p ∈ gs, Dn K M H p.1 p.2) →
  (∀ i d, ds[i]? = some d → J.go i H ∧ ∀ x H', J.yld i H x H' → Same H H' ∧ Dn K M H' d x) ∧ J.stop ds.length H
def tI (X : Cx) (tg iter : Expr) : TI := fun σ H R => ∀ (pins : List (Addr × Obj)) (s : Shared), Inv X pins σ H s →
  wpAny (model X.prog X.w) X.A (eval iter X.env) (fun v s1 => wpAny (model X.prog X.w) X.A (pyIter v) (PIE X pins σ tg R) X.xe s1) X.xe s
def IvD (X : Cx) (ρ : Rho) (tg iter : Expr) (ds : List D) : Prop := ∀ (M0 : MP) (H0 : Hp) (γ : List (D × V)) (α : Nat → Addr) (σ : St) (H : Hp) (R : It → Hp → Prop), Rep X.K M0 H0 γ α ρ σ H →
  (∀ J H1 gs, Same H H1 → (∀ p ∈ gs, Dn X.K (MM M0 ρ α) H1 p.1 p.2) → Walk X.K J ds gs → R J H1) → tI X tg iter σ H R
section
variable {X : Cx} {M0 : MP} {H0 : Hp} {ρ : Rho} {P : Post} {e a b c tg iter : Expr} {es : List Expr} {d : D} {ds : List D} {pos p : Pos} {σ : St} {H : Hp}
theorem piI : PI X tg iter (tI X tg iter) := fun pins s σ H R I h => h pins s I
theorem _root_.L2.PI.to {t : TI} {R : It → Hp → Prop} (h : PI X tg iter t) (q : t σ H R) : tI X tg iter σ H R := fun pins s I => h pins s σ H R I q
theorem IvD.list (h : EvD X ρ e (.lst ds)) : IvD X ρ tg e ds := fun M0 H0 γ α σ H R r k => (pi_list peE).to (h M0 H0 γ α σ H _ r fun v H1 s x => by
  obtain ⟨q, xs, rfl, sq, dn⟩ := id x
  refine ⟨q, rfl, ⟨xs, sq.l⟩, k (Itl X.K q) H1 [(.lst ds, .ref q)] s (fun p hp => by rw [List.mem_singleton.mp hp]; exact x) fun M H2 hg => ?_⟩
  obtain ⟨q', xs', e1, sq', dn'⟩ := hg _ (List.mem_singleton.mpr rfl)
  cases e1
  refine ⟨fun i d hi => ⟨?_, fun x H' hy => ?_⟩, ⟨xs', sq'.l, by rw [dn'.len]; exact Nat.le_refl _⟩⟩
  · obtain ⟨v, h1, h2⟩ := dn'.get hi
    exact ⟨xs', v, sq'.l, h1⟩
  · obtain ⟨rfl, hy⟩ := hy
    obtain ⟨d', h1, h2⟩ := dn'.getV (hy xs' sq'.l)
    rw [hi] at h1; cases h1
    exact ⟨Same.refl _, h2⟩)
theorem IvD.tup (h : EvD X ρ e (.tup ds)) : IvD X ρ tg e ds := fun M0 H0 γ α σ H R r k => (pi_tup peE).to (h M0 H0 γ α σ H _ r fun v H1 s x => by
  obtain ⟨q, xs, rfl, sq, dn⟩ := id x
  refine ⟨q, rfl, ⟨xs, sq⟩, k (Itt X.K q) H1 [(.tup ds, .ref q)] s (fun p hp => by rw [List.mem_singleton.mp hp]; exact x) fun M H2 hg => ?_⟩
  obtain ⟨q', xs', e1, sq', dn'⟩ := hg _ (List.mem_singleton.mpr rfl)
  cases e1
  refine ⟨fun i d hi => ⟨?_, fun x H' hy => ?_⟩, ⟨xs', sq', by rw [dn'.len]; exact Nat.le_refl _⟩⟩
  · obtain ⟨v, h1, h2⟩ := dn'.get hi
    exact ⟨xs', v, sq', h1⟩
  · obtain ⟨rfl, hy⟩ := hy
    obtain ⟨d', h1, h2⟩ := dn'.getV (hy xs' sq')
    rw [hi] at h1; cases h1
    exact ⟨Same.refl _, h2⟩)
/-- lo, lo + 1, .., n of them -/
def rngD (lo : Int) (n : Nat) : List D := (List.range n).map fun (i : Nat) => D.int (lo + (i : Int))
theorem walk_rng {K : Frag} (lo : Int) (n : Nat) : Walk K (Itr lo n) (rngD lo n) [] := fun M H _ => by
  refine ⟨fun i d hi => ?_, ?_⟩
  · unfold rngD at hi
    rw [List.getElem?_map] at hi
    cases e : (List.range n)[i]? with
    | none => rw [e] at hi; cases hi
    | some j =>
      rw [e] at hi
      obtain ⟨h1, h2⟩ := List.getElem?_eq_some_iff.mp e
      rw [List.length_range] at h1
      rw [List.getElem_range] at h2
      subst h2
      cases hi
      exact ⟨h1, fun x H' ⟨e1, e2⟩ => ⟨by rw [e1]; exact Same.refl _, e2⟩⟩
  · show n ≤ _
    unfold rngD
    rw [List.length_map, List.length_range]
    exact Nat.le_refl _
theorem IvD.range {j : Int} {p1 p2 : Pos} (hg : Gl X "range") (hm : X.mg "range" = none) (hs : EvD X ρ e (.int j)) (hj : -(2 ^ 62) ≤ j ∧ j < 2 ^ 62) (hss : starEach [e] X.env = [(false, eval e X.env)] := by rfl) :
    IvD X ρ tg (.Call (.Name "range" p1) [e] [] p2) (rngD 0 j.toNat) := fun M0 H0 γ α σ H R r k => (pi_range1 hg hm paA hss).to ((AvD.cons hs AvD.nil hss) M0 H0 γ α σ H _ r fun vs H1 s x => by
  obtain ⟨v, r, rfl, e1, e2⟩ := x
  cases e1; cases e2
  exact ⟨j, rfl, hj.1, hj.2, k _ H1 [] s (fun _ hp => nomatch hp) (walk_rng 0 _)⟩)
theorem Rep.ghosts {K : Frag} {γ : List (D × V)} {α : Nat → Addr} : ∀ {gs : List (D × V)}, Rep K M0 H0 γ α ρ σ H → (∀ p ∈ gs, Dn K (MM M0 ρ α) H p.1 p.2) → Rep K M0 H0 (gs ++ γ) α ρ σ H := fun {gs} r h =>
  ⟨r.same, r.old, r.inj, r.im, r.mu, fun p hp => (List.mem_append.mp hp).elim (h p) (r.gh p), r.len⟩
theorem Rep.unghosts {K : Frag} {gs γ : List (D × V)} {α : Nat → Addr} (r : Rep K M0 H0 (gs ++ γ) α ρ σ H) : Rep K M0 H0 γ α ρ σ H :=
  ⟨r.same, r.old, r.inj, r.im, r.mu, fun q hq => r.gh q (List.mem_append_right _ hq), r.len⟩
/-- for, over anything that is walked -/
theorem W1.for {body : List Stmt} (I : Nat → Rho → Prop) (hp : PassesOwn (model X.prog X.w) X.A X.env X.xe) (hc : X.calm = true) (hs : IvD X ρ tg e ds) (h0 : I 0 ρ)
    (ht : ∀ i d ρ, ds[i]? = some d → I i ρ → ∃ ρ', GvD X tg d ρ ρ' ∧ WS X M0 H0 body ρ' { P with N := I (i + 1), C := I (i + 1), B := P.N }) (hd : ∀ ρ, I ds.length ρ → P.N ρ)
    (hf : ∀ x, foldedSetIterable e X.env x = pure x := by intro _; rfl) : W1 X M0 H0 (.For tg e body [] pos) ρ P := fun γ α σ H R => by
  refine (ps_for hp hc piI pgG psSs hf).to (hs M0 H0 γ α σ H _ R fun J H1 gs s hg w => ?_)
  refine ⟨fun i m σ H => m = ds.length - i ∧ i ≤ ds.length ∧ ∃ α ρ, Rep X.K M0 H0 (gs ++ γ) α ρ σ H ∧ I i ρ, ⟨ds.length, by simp, Nat.zero_le _, α, ρ, (R.next s).ghosts hg, h0⟩, ?_⟩
  rintro i m σ2 H2 ⟨rfl, hi, α2, ρ2, R2, i2⟩
  obtain ⟨w1, w2⟩ := w (MM M0 ρ2 α2) H2 fun p hp => R2.gh p (List.mem_append_left _ hp)
  by_cases hlt : i < ds.length
  · obtain ⟨g1, g2⟩ := w1 i ds[i] (List.getElem?_eq_getElem hlt)
    refine .inr ⟨g1, fun σ' H' => ∃ α ρ, Rep X.K M0 H0 (gs ++ γ) α ρ σ' H' ∧ I (i + 1) ρ, fun σ' H' ⟨α', ρ', R', i'⟩ => ⟨ds.length - (i + 1), by omega, rfl, hlt, α', ρ', R', i'⟩, fun y H' hy => ?_⟩
    obtain ⟨s2, dd⟩ := g2 y H' hy
    obtain ⟨ρ3, g, wb⟩ := ht i _ ρ2 (List.getElem?_eq_getElem hlt) i2
    exact g M0 H0 _ α2 σ2 _ y _ (R2.next s2) dd fun σ' R3 => bodyTo Rep.unghosts R3 wb
  · have e : i = ds.length := by omega
    subst e
    exact .inl ⟨w2, α2, ρ2, R2.unghosts, hd _ i2⟩
end

/-! ### comprehensions -/
def compCx (X : Cx) (N' : List Str) (scope : Scope) (cl : List (Str × Addr)) (C : Addr) (s₀ : Shared) (H₀ : Hp) (fp : List Addr) (pins : List (Addr × Obj)) : Cx :=
  { X with N := N', s₀ := s₀, H₀ := H₀, env := compEnvC scope cl C X.env, outer := X.stack, stack := X.stack, ex := fp, fn := fun _ => false, pn := X.pn ++ pins, xe := fun _ _ => False }
/-- what the text of a comprehension must have: its own name first, then the names it takes from around (cells of the def) -/
structure CompOk (X : Cx) (N' : List Str) (js : List Nat) (scope : Scope) (x : Str) (cl : List (Str × Addr)) : Prop where
  clos : closureFor scope X.env = pure cl
  cell : ∀ y ∈ scope.names, y.2 ≠ .cell
  kind : scope.kind = .function
  names : ∀ y ∈ scope.names, y.2 = .local → scope.names.lookup y.1 = some .local
  own : scope.names.lookup x = some .local
  hN : ∃ r, N' = x :: r ∧ r.length = js.length ∧ ∀ (i : Nat) (y : Str) (j : Nat), r[i]? = some y → js[i]? = some j → X.N[j]? = some y ∧ X.env.scope.names.lookup y = some .cell ∧ (relabel scope X.env).names.lookup y = some .cell ∧ ∀ c, X.env.cells.lookup y = some c → cl.lookup y = some c
  sub : ∀ y c, cl.lookup y = some c → X.env.cells.lookup y = some c
  has : ∀ y, ((relabel scope X.env).names.lookup y = some .cell ∨ (relabel scope X.env).names.lookup y = some .free) → ∃ c, cl.lookup y = some c

section
variable {X : Cx} {pins : List (Addr × Obj)} {σ : St} {H H' : Hp} {s : Shared} {N' : List Str} {js : List Nat} {scope : Scope} {x : Str} {cl : List (Str × Addr)} {px pos : Pos} {elt iter : Expr}
theorem stk_not (I : Inv X pins σ H s) {b : Addr} (h1 : b ≠ X.env.locals) (h2 : b ∉ X.fs) : b ∉ frs X.stack := fun z => by
  rcases List.mem_cons.mp (I.stkSub b z) with e | e
  · exact h1 e
  · exact h2 e
/-- the block's context stands -/
theorem CompOk.cx (ok : CompOk X N' js scope x cl) (I : Inv X pins σ H s) {fp : List Addr} (hf : ∀ b ∈ fp, FpOk X pins H b) (ho : ∀ b ∈ fp, b < s.heap.objs.size) :
    (compCx X N' scope cl s.heap.objs.size s H fp pins).Ok where
  mod := I.ok.mod
  kind := ok.kind
  glob := I.ok.glob
  blt := I.ok.blt
  above := Nat.le_refl _
  inj := fun y z c h1 h2 => I.ok.inj y z c (ok.sub y c h1) (ok.sub z c h2)
  has := fun y h => ok.has y h
  cab := fun y c h _ => absurd (show false = true from h) Bool.false_ne_true
  hd := I.ok.hd
  frames := I.ok.frames
  stk := .inl rfl
  exf := fun b hb => ⟨Nat.ne_of_lt (ho b hb), fun y c e => (hf b hb).2.2.2.2.1 y c (ok.sub y c e)⟩
  bs := I.bs
  bsz := Nat.le_trans I.ok.bsz I.sz
  noex := fun b o e hb => by
    rcases (hf b hb).2.2.2.1 with z | z
    · exact I.ok.noex b o e z
    · exact absurd (Nat.lt_of_lt_of_le (Heap.lt_size e) (Nat.le_trans I.ok.bsz z)) (Nat.lt_irrefl _)
  exfs := fun b hb => stk_not I (hf b hb).2.1 (hf b hb).2.2.1
  funs := I.stack
  frf := I.stkFree
/-- the names' values at the block's entry -/
def capt (σ : St) (js : List Nat) : St := none :: js.map fun j => (σ[j]?).join
theorem CompOk.inv (ok : CompOk X N' js scope x cl) (I : Inv X pins σ H s) {fp : List Addr} (hf : ∀ b ∈ fp, FpOk X pins H b) (ho : ∀ b ∈ fp, b < s.heap.objs.size) {h₁ : Heap} {tk : Nat} {m : Str → Option Value}
    (hn : h₁.Ns s.heap.objs.size m) (k : ∀ b o, s.heap.get? b = some o → h₁.get? b = some o) : Inv (compCx X N' scope cl s.heap.objs.size s H fp pins) [] (capt σ js) H { s with heap := h₁, toks := tk } := by
  obtain ⟨r, rfl, hrl, hr⟩ := ok.hN
  refine ⟨ok.cx I hf ho, rfl, I.bare, Un.kept k, ⟨m, hn, fun i y v h1 h2 _ => ?_⟩, fun y c e => ?_, I.hok.fresh (Nat.le_refl _), fun y c e => I.freeC y c (ok.sub y c e), fun p hp => ?_, I.hok.kept k, ?_⟩
  · cases i with
    | zero => have h2' : (none : Option V) = some v := Option.some.inj h2; cases h2'
    | succ i =>
      have h1' : r[i]? = some y := h1
      have h2' : (js.map fun j => (σ[j]?).join)[i]? = some (some v) := h2
      rw [List.getElem?_map] at h2'
      cases ej : js[i]? with
      | none => rw [ej] at h2'; cases h2'
      | some j =>
        rw [ej] at h2'
        have h3 : (σ[j]?).join = some v := Option.some.inj h2'
        have h4 : σ[j]? = some (some v) := by
          cases e : σ[j]? with
          | none => rw [e] at h3; cases h3
          | some w => rw [e] at h3; exact congrArg some h3
        obtain ⟨q1, q2, q3, q4⟩ := hr i y j h1' ej
        obtain ⟨m0, _, hl⟩ := I.loc
        obtain ⟨u, ru, lk⟩ := hl j y v q1 h4 (.inr (.inl q2))
        refine ⟨u, ru, ?_⟩
        rcases lk with ⟨z, _⟩ | ⟨_, c, e1, o, e2, e3⟩
        · have z' : X.env.scope.names.lookup y = some .local := z
          rw [q2] at z'; cases z'
        · exact .inr ⟨.inl q3, c, q4 c e1, o, k _ _ e2, e3⟩
  · obtain ⟨v, o, e1, e2⟩ := I.cell y c (ok.sub y c e)
    exact ⟨v, o, k _ _ e1, e2⟩
  · have hp' : p ∈ X.pn ++ pins := by
      have z : p ∈ (X.pn ++ pins) ++ [] := hp
      rwa [List.append_nil] at z
    obtain ⟨e, n, ne, nf, d⟩ := I.pin p hp'
    exact ⟨k _ _ e, n, Nat.ne_of_lt (Heap.lt_size e), stk_not I ne nf, d⟩
  · show (none :: js.map fun j => (σ[j]?).join).length = (x :: r).length
    rw [List.length_cons, List.length_map, List.length_cons, hrl]
/-- the block is left: the def's own state -/
theorem CompOk.out (ok : CompOk X N' js scope x cl) (I : Inv X pins σ H s) {fp : List Addr} (hf : ∀ b ∈ fp, FpOk X pins H b) {σ' : St} {s' : Shared} (J : Inv (compCx X N' scope cl s.heap.objs.size s H fp pins) [] σ' H' s') :
    Inv X pins σ H' s' ∧ FpOk X pins H' s.heap.objs.size := by
  have I' : Inv X pins σ H' s' := I.call' (ch := fp) J.os J.base J.hok J.bare fun b hb => ⟨(hf b hb).2.2.2.1, (hf b hb).2.1, (hf b hb).2.2.2.2.1, (hf b hb).2.2.2.2.2⟩
  exact ⟨I', I.fpOk (Nat.le_refl _) J.free⟩
end
end Z
set_option Elab.async false
set_option linter.all false
set_option maxRecDepth 100000
namespace Z
open PySem PySem.Spec PyProof.Rows L2

section
variable {prog : Program} {w : World} {A : Around} {R : Result → Shared → Prop} {s : Shared}
abbrev NoE : Value → Shared → Prop := fun _ _ => False
/-- the loop of a comprehension without a test: what no turn raises -/
theorem comp_loop {elt target iter : Expr} {scope : Scope} {pos : Pos} {it acc : Value} {env : Env} (I : Nat → Shared → Prop)
    (turn : ∀ n s, I n s → wpAny (model prog w) A (pyNext it) (fun r s₁ => match r with
      | none => R (.ok .next) s₁
      | some v => wpAny (model prog w) A (letOwnedTupleGo target it v) (fun _ s₂ => wpAny (model prog w) A (assign target env v) (fun _ s₃ => wpAny (model prog w) A (eval elt env) (fun y s₄ =>
          wpAny (model prog w) A (call (.builtin "list.append") [acc, y]) (fun _ s₅ => ∃ m, m < n ∧ I m s₅) NoE s₄) NoE s₃) NoE s₂) NoE s₁) NoE s) (n : Nat) (h : I n s) :
    codeAny (model prog w) A (.compLoop (.ListComp elt [⟨target, iter, [], 0⟩] scope pos) 0 it acc env) R s := by
  refine codeAny_loop rfl I (fun n s hI => ?_) n h
  show wpAny _ A ((compTurn (.ListComp elt [⟨target, iter, [], 0⟩] scope pos) 0 it acc env).onRaise (fun x => do noteFrame x env; theTreesLotGoes x)) _ _ s
  refine wpAny_noted ?_
  rw [compTurn_list]
  refine wpAny_bind (wpAny_standAt (wpAny_bind (wpAny_mono (turn n s hI) (fun r s₁ h₁ => ?_) fun _ _ z => z.elim)))
  cases r with
  | none => exact wpAny_pure h₁
  | some v =>
    refine wpAny_bind (wpAny_mono h₁ (fun _ s₂ h₂ => ?_) fun _ _ z => z.elim)
    refine wpAny_bind (wpAny_mono h₂ (fun _ s₃ h₃ => wpAny_bind (wpAny_pure ?_)) fun _ _ z => z.elim)
    exact wpAny_bind (wpAny_bind (wpAny_mono h₃ (fun y s₄ h₄ => wpAny_bind (wpAny_mono h₄ (fun _ s₅ h₅ => wpAny_pure (wpAny_pure ⟨rfl, h₅⟩)) fun _ _ z => z.elim)) fun _ _ z => z.elim))
end

/-- the list so far, the heap: between two turns of a comprehension -/
structure CInv (K : Frag) (M : MP) (H1 : Hp) (es : List D) (i : Nat) (D0 : Addr) (ys : List V) (H : Hp) : Prop where
  same : Same H1 H
  at_ : H D0 = some (.lst ys)
  dn : Dns K (fun a => M a ∨ a = D0) H (es.take i) ys

section
variable {X : Cx} {pins : List (Addr × Obj)} {σ : St} {H1 : Hp} {s₂ : Shared} {N' : List Str} {js : List Nat} {scope : Scope} {x : Str} {cl : List (Str × Addr)} {px pos : Pos} {elt iter : Expr} {J : It} {fp : List Addr} {it : Addr} {tn : Nat → Heap → Prop}
  {ds es cs : List D} {gs : List (D × V)} {M : MP} {E : Value → Shared → Prop} {RR : Value → Addr → Result → Shared → Prop}
def capR (d : D) (cs : List D) : Rho := .im d :: cs.map .im
/-- the values that are taken from around -/
def CapOk (K : Frag) (M : MP) (H : Hp) (σ : St) (js : List Nat) (cs : List D) : Prop := js.length = cs.length ∧ ∀ (k j : Nat) (c : D), js[k]? = some j → cs[k]? = some c → ∃ v, σ[j]? = some (some v) ∧ Dn K M H c v
theorem comp_block (ok : CompOk X N' js scope x cl) (hc : X.calm = true) (hnd : N'.Nodup) (I : Inv X pins σ H1 s₂) (T : Turn X.prog X.w X.K (.Name x px) J fp it tn) (st : tn 0 s₂.heap) (hf : ∀ b ∈ fp, FpOk X pins H1 b)
    (hg : ∀ p ∈ gs, Dn X.K M H1 p.1 p.2) (w : Walk X.K J ds gs) (hl : es.length = ds.length) (hsz : ds.length ≤ 1000000) (hcap : CapOk X.K M H1 σ js cs) (hM : ∀ a, M a → H1 a ≠ none)
    (helt : ∀ (C : Addr) (s₀ : Shared) (H₀ : Hp) (i : Nat) (d e : D), ds[i]? = some d → es[i]? = some e → EvD (compCx X N' scope cl C s₀ H₀ fp pins) (capR d cs) elt e)
    (hRR : ∀ (D0 C : Addr) (m : Str → Option Value) (s1 : Shared) (H : Hp) (ys : List V), Inv X pins σ H s1 → s1.heap.Ns C m → FpOk X pins H C → H1 D0 = none → Same H1 H → H D0 = some (.lst ys) → Dns X.K (fun a => M a ∨ a = D0) H es ys → RR (.ref D0) C (.ok .next) s1) :
    wpAny (model X.prog X.w) X.A (newList []) (fun acc s₃ => wpAny (model X.prog X.w) X.A (newFunctionEnv scope X.env.globals cl [] X.env.qual none .none (some X.env)) (fun cenv s₄ =>
      codeAny (model X.prog X.w) X.A (.compStart (.ListComp elt [⟨.Name x px, iter, [], 0⟩] scope pos) 0 (.ref it) acc { cenv with scope := relabel scope X.env }) (RR acc cenv.locals) s₄) E s₃) E s₂ := by
  refine wpAny_newObj_type (wpAny_newFunctionEnv ok.cell (by intro y hy; simp at hy) (fun h₁ hns₁ hsb₁ => ?_) ok.kind)
  dsimp only at hns₁ hsb₁ ⊢
  have hD : H1 s₂.heap.objs.size = none := I.fresh
  have I3 : Inv X pins σ (upd H1 s₂.heap.objs.size (.lst [])) { s₂ with heap := s₂.heap.push { cls := .type "list", data := .seq ([] : List Value).toArray } } := I.lnew (its := []) (t' := s₂.toks) (ys := []) .nil (Nat.zero_le _)
  have obj2 : ∀ b ∈ fp, ∃ o, s₂.heap.get? b = some o := fun b hb => let ⟨o, e, _⟩ := T.obj _ _ st b hb; ⟨o, e⟩
  have lt2 : ∀ b ∈ fp, b < s₂.heap.objs.size := fun b hb => let ⟨o, e⟩ := obj2 b hb; Heap.lt_size e
  have hf3 : ∀ b ∈ fp, FpOk X pins (upd H1 s₂.heap.objs.size (.lst [])) b := fun b hb => ⟨by rw [upd_ne (Nat.ne_of_lt (lt2 b hb))]; exact (hf b hb).1, (hf b hb).2⟩
  generalize hH2 : s₂.heap.push { cls := .type "list", data := .seq ([] : List Value).toArray } = H2 at I3 hns₁ hsb₁ ⊢
  have sz3 : H2.objs.size = s₂.heap.objs.size + 1 := by rw [← hH2, Heap.size_push]
  have lt3 : ∀ b ∈ fp, b < H2.objs.size := fun b hb => by rw [sz3]; exact Nat.lt_succ_of_lt (lt2 b hb)
  have k1 : ∀ b o, H2.get? b = some o → h₁.get? b = some o := fun b o e => hsb₁.extBut b o (Nat.ne_of_lt (Heap.lt_size e)) (Heap.get?_push_of_some _ e)
  have k2 : ∀ b o, s₂.heap.get? b = some o → h₁.get? b = some o := fun b o e => k1 b o (by rw [← hH2]; exact Heap.get?_push_of_some _ e)
  have I4 := ok.inv (tk := s₂.toks + ([] : List (Str × Value)).length) I3 hf3 lt3 hns₁ k1
  have st4 : tn 0 h₁ := T.keep _ _ _ st fun b hb o e => k2 b o e
  generalize hX : compCx X N' scope cl H2.objs.size { s₂ with heap := H2 } (upd H1 s₂.heap.objs.size (.lst [])) fp pins = X' at I4
  have hfp : ∀ (H : Hp), (∀ b ∈ fp, H b = none) → ∀ b ∈ fp, FpOk X' [] H b := fun H hn b hb => by
    subst hX
    refine ⟨hn b hb, Nat.ne_of_lt (lt3 b hb), stk_not I3 (hf3 b hb).2.1 (hf3 b hb).2.2.1, .inl hb, fun y c e => (hf3 b hb).2.2.2.2.1 y c (ok.sub y c e), fun p hp => ?_⟩
    have z : p ∈ (X.pn ++ pins) ++ [] := hp
    rw [List.append_nil] at z
    exact (hf3 b hb).2.2.2.2.2 p z
  have out : ∀ (H : Hp) (s1 : Shared) (σ' : St), Inv X' [] σ' H s1 → Inv X pins σ H s1 ∧ FpOk X pins H H2.objs.size := fun H s1 σ' J => by
    subst hX
    exact ok.out I3 hf3 J
  have elt' : ∀ (i : Nat) (d e : D), ds[i]? = some d → es[i]? = some e → EvD X' (capR d cs) elt e := fun i d e h1 h2 => by
    subst hX
    exact helt _ _ _ i d e h1 h2
  have env' : X'.env = compEnvC scope cl H2.objs.size X.env := by rw [← hX]; rfl
  have N0 : X'.N = N' := by rw [← hX]; rfl
  have p1 : X'.prog = X.prog := by rw [← hX]; rfl
  have p2 : X'.w = X.w := by rw [← hX]; rfl
  have p3 : X'.K = X.K := by rw [← hX]; rfl
  have p4 : X'.calm = true := by rw [← hX]; exact hc
  have p5 : X'.A = X.A := by rw [← hX]; rfl
  have p6 : X'.xe = NoE := by rw [← hX]; rfl
  clear hX
  obtain ⟨r0, er0, hrl, hr⟩ := ok.hN
  have hN0 : X'.N[0]? = some x := by rw [N0, er0]; rfl
  have hLoc : X'.env.scope.names.lookup x = some .local := by rw [env']; exact lookup_relabel_local ok.own
  have hMD : ∀ a, (M a ∨ a = s₂.heap.objs.size) → ∀ H, Same H1 H → (∃ ys, H s₂.heap.objs.size = some (.lst ys)) → H a ≠ none := fun a ha H sm hD' z => by
    rcases ha with ha | rfl
    · exact hM a ha (sm.free z)
    · obtain ⟨ys, e⟩ := hD'
      rw [z] at e; cases e
  have loop : ∀ s₃ : Shared, s₃ = { s₂ with heap := h₁, toks := s₂.toks + ([] : List (Str × Value)).length } →
      codeAny (model X.prog X.w) X.A (.compLoop (.ListComp elt [⟨.Name x px, iter, [], 0⟩] scope pos) 0 (.ref it) (.ref s₂.heap.objs.size) (compEnvC scope cl H2.objs.size X.env)) (RR (.ref s₂.heap.objs.size) H2.objs.size) s₃ := by
    intro s₃ es3
    refine comp_loop (fun n s' => ∃ (i : Nat) (ys : List V) (H : Hp) (σ' : St), n = ds.length - i ∧ i ≤ ds.length ∧ Inv X' [] σ' H s' ∧ (∃ ov, σ' = ov :: (capt σ js).tail) ∧ tn i s'.heap ∧ (∀ b ∈ fp, H b = none) ∧ CInv X.K M H1 es i s₂.heap.objs.size ys H) ?_ ds.length
      ⟨0, [], _, _, rfl, Nat.zero_le _, by rw [es3]; exact I4, ⟨none, rfl⟩, by rw [es3]; exact st4, fun b hb => (hf3 b hb).1, same_new hD, upd_same, by rw [List.take_zero]; exact rfl⟩
    rintro n s' ⟨i, ys, H, σ', rfl, hi, Iv, ⟨ov, eσ⟩, sti, fri, ci⟩
    have gsH : ∀ p ∈ gs, Dn X.K (fun a => M a ∨ a = s₂.heap.objs.size) H p.1 p.2 := fun p hp => ((hg p hp).re fun a m => m.elim .inl fun z => .inr (by rw [z]; exact hD)).same ci.same
    obtain ⟨w1, w2⟩ := w _ H gsH
    have item := T.item X' p1 p2 p3 p4 i [] s' σ' H NoE Iv (hfp H fri) sti
    have done := T.done X' p1 p2 p3 p4 i [] s' σ' H NoE Iv (hfp H fri) sti
    rw [p5] at item done
    by_cases hlt : i < ds.length
    · obtain ⟨g1, g2⟩ := w1 i ds[i] (List.getElem?_eq_getElem hlt)
      refine thn (item g1) fun r s4 ⟨u, hr', h4⟩ => ?_
      subst hr'
      refine thn h4 fun _ s5 ⟨y, H5, I5, r5, y5, st5, fr5⟩ => ?_
      obtain ⟨sm5, d5⟩ := g2 y H5 y5
      have I5' := I5.pinned (hfp H5 fr5) (T.obj _ _ st5)
      have asg := pg_name (X := X') (pos := px) (i := 0) (by rw [N0]; exact hnd) hN0 (.inl hLoc) (.inr hLoc) _ s5 σ' H5 y u (fun σ6 H6 => σ6 = σ'.set 0 (some y) ∧ H6 = H5) I5' r5 ⟨rfl, rfl⟩
      rw [p1, p2, p5, p6, env'] at asg
      refine thn asg fun _ s6 ⟨σ6, H6, I6, e6, e6'⟩ => ?_
      subst e6 e6'
      have ei : es[i]? = some (es[i]'(by rw [hl]; exact hlt)) := List.getElem?_eq_getElem _
      have ev := elt' i _ _ (List.getElem?_eq_getElem hlt) ei
      have sm15 : Same H1 H6 := ci.same.trans sm5
      have hD5 : H6 s₂.heap.objs.size = some (.lst ys) := sm5 _ _ ci.at_
      have Rp : Rep X'.K (fun a => M a ∨ a = s₂.heap.objs.size) H6 [] (fun _ => 0) (capR ds[i] cs) (σ'.set 0 (some y)) H6 := by
        refine ⟨Same.refl _, fun a ha => hMD a ha H6 sm15 ⟨ys, hD5⟩, fun k l fs gs' e1 => ?_, fun k d0 e1 => ?_, fun k fs e1 => ?_, (fun p hp => by cases hp), ?_⟩
        · exfalso
          unfold capR at e1
          cases k with
          | zero => cases Option.some.inj e1
          | succ k =>
            rw [List.getElem?_cons_succ, List.getElem?_map] at e1
            cases z : cs[k]? with
            | none => rw [z] at e1; cases e1
            | some c => rw [z] at e1; cases Option.some.inj e1
        · have mmM : ∀ a, MM (fun a => M a ∨ a = s₂.heap.objs.size) (capR ds[i] cs) (fun _ => 0) a → (M a ∨ a = s₂.heap.objs.size) := fun a ha => by
            rcases ha with ha | ⟨k', fs, e2, _⟩
            · exact ha
            · exfalso
              unfold capR at e2
              cases k' with
              | zero => cases Option.some.inj e2
              | succ k' =>
                rw [List.getElem?_cons_succ, List.getElem?_map] at e2
                cases z : cs[k']? with
                | none => rw [z] at e2; cases e2
                | some c => rw [z] at e2; cases Option.some.inj e2
          subst eσ
          unfold capR at e1
          cases k with
          | zero =>
            have z : Sl.im ds[i] = Sl.im d0 := Option.some.inj e1
            cases z
            refine ⟨y, rfl, ?_⟩
            rw [p3]
            exact d5.less mmM
          | succ k =>
            rw [List.getElem?_cons_succ, List.getElem?_map] at e1
            cases z : cs[k]? with
            | none => rw [z] at e1; cases e1
            | some c =>
              rw [z] at e1
              have z' : Sl.im c = Sl.im d0 := Option.some.inj e1
              have hk : k < js.length := by rw [hcap.1]; exact (List.getElem?_eq_some_iff.mp z).1
              obtain ⟨v, hv, dv⟩ := hcap.2 k js[k] c (List.getElem?_eq_getElem hk) z
              cases z'
              refine ⟨v, ?_, ?_⟩
              · show (js.map fun j => (σ[j]?).join)[k]? = some (some v)
                rw [List.getElem?_map, List.getElem?_eq_getElem hk]
                show some (σ[js[k]]?).join = _
                rw [hv]
                rfl
              · rw [p3]
                exact (((dv.re fun a m => m.elim .inl fun q => .inr (by rw [q]; exact hD)).same sm15)).less mmM
        · exfalso
          unfold capR at e1
          cases k with
          | zero => cases Option.some.inj e1
          | succ k =>
            rw [List.getElem?_cons_succ, List.getElem?_map] at e1
            cases z : cs[k]? with
            | none => rw [z] at e1; cases e1
            | some c => rw [z] at e1; cases Option.some.inj e1
        · subst eσ
          rw [List.length_set]
          show (js.map fun j => (σ[j]?).join).length + 1 = (cs.map Sl.im).length + 1
          rw [List.length_map, List.length_map, hcap.1]
      have evw := ev _ H6 [] (fun _ => 0) _ H6 (fun v H' => Same H6 H' ∧ Dn X.K (fun a => M a ∨ a = s₂.heap.objs.size) H' (es[i]'(by rw [hl]; exact hlt)) v) Rp (fun v H' sm dn => ⟨sm, by
        rw [p3] at dn
        exact dn.less fun a ha => .inl ha⟩) _ s6 I6
      rw [p1, p2, p5, p6, env'] at evw
      refine thn evw fun yv s7 ⟨v, H7, I7, r7, sm7, dn7⟩ => ?_
      have ap := mt_append (X := X') _ s7 _ H7 (.ref s₂.heap.objs.size) [v] (.ref s₂.heap.objs.size) [yv] (fun _ H8 => H8 = upd H7 s₂.heap.objs.size (.lst (ys ++ [v]))) I7 rfl (.cons r7 .nil)
        ⟨_, ys, v, rfl, rfl, sm7 _ _ hD5, by rw [ci.dn.len, List.length_take]; exact Nat.lt_of_le_of_lt (Nat.le_trans (Nat.min_le_left _ _) (by omega)) (by decide : (1000000 : Nat) < sizeLine), rfl⟩
      rw [p1, p2, p5, p6] at ap
      refine thn ap fun _ s8 ⟨_, H8, I8, _, e8⟩ => ?_
      subst e8
      refine ⟨ds.length - (i + 1), by omega, i + 1, ys ++ [v], _, _, rfl, hlt, I8.unpinned, ⟨some y, by rw [eσ]; rfl⟩,
        T.keep _ _ _ st5 fun b hb o e => (I8.pin (b, o) (List.mem_append_right _ (List.mem_append_right _ (mem_pinsAt hb e)))).1, fun b hb => ?_, ?_⟩
      · obtain ⟨o, e, _⟩ := T.obj _ _ st5 b hb
        exact (I8.pin (b, o) (List.mem_append_right _ (List.mem_append_right _ (mem_pinsAt hb e)))).2.1
      · refine ⟨same_upd_none (sm15.trans sm7) hD, upd_same, ?_⟩
        have kp : Keep (fun a => M a ∨ a = s₂.heap.objs.size) H7 (upd H7 s₂.heap.objs.size (.lst (ys ++ [v]))) := fun b o e n => by
          by_cases hb : b = s₂.heap.objs.size
          · subst hb
            rw [sm7 _ _ hD5] at e; cases e
            exact absurd (.inr rfl) (n _ rfl)
          · rw [upd_ne hb]; exact e
        rw [List.take_add_one, ei]
        exact (Dns.app (ci.dn.same (sm5.trans sm7)) (Dns.one dn7)).keep kp
    · have e : i = ds.length := by omega
      subst e
      refine thn (done w2) fun r s4 ⟨hr', I5⟩ => ?_
      subst hr'
      obtain ⟨o1, o2⟩ := out H s4 σ' I5
      obtain ⟨m, hn, _⟩ := I5.loc
      rw [env'] at hn
      refine hRR _ _ m s4 H ys o1 hn o2 hD ci.same ci.at_ ?_
      have := ci.dn
      rw [← hl, List.take_length] at this
      exact this
  exact codeAny_compStart_list (loop _ rfl) (T.self X.A 0 _ _ _ st4 (loop _ rfl))
/-- how the names that are taken from around stand there -/
def CapR (ρ : Rho) (js : List Nat) (cs : List D) : Prop := js.length = cs.length ∧ ∀ (k j : Nat) (c : D), js[k]? = some j → cs[k]? = some c → ρ[j]? = some (.im c)
theorem CapR.ok {K : Frag} {M0 : MP} {H0 H H' : Hp} {γ : List (D × V)} {α : Nat → Addr} {ρ : Rho} {σ : St} (h : CapR ρ js cs) (R : Rep K M0 H0 γ α ρ σ H) (s : Same H H') : CapOk K (MM M0 ρ α) H' σ js cs :=
  ⟨h.1, fun k j c e1 e2 => let ⟨v, q1, q2⟩ := R.im j c (h.2 k j c e1 e2); ⟨v, q1, q2.same s⟩⟩
theorem mm_there {K : Frag} {M0 : MP} {H0 H H' : Hp} {γ : List (D × V)} {α : Nat → Addr} {ρ : Rho} {σ : St} (R : Rep K M0 H0 γ α ρ σ H) (s : Same H H') : ∀ a, MM M0 ρ α a → H' a ≠ none := fun a ha z => by
  have z' := s.free z
  rcases ha with ha | ⟨i, ds, e, rfl⟩
  · exact R.old a ha (R.same.free z')
  · obtain ⟨_, _, xs, e3, _⟩ := R.mu i ds e
    rw [z'] at e3; cases e3
theorem EvF.comp {ρ : Rho} (ok : CompOk X N' js scope x cl) (hc : X.calm = true) (hnd : N'.Nodup) (hs : IvD X ρ (.Name x px) iter ds) (hcs : CapR ρ js cs) (hl : es.length = ds.length) (hsz : ds.length ≤ 1000000)
    (helt : ∀ (C : Addr) (s₀ : Shared) (H₀ : Hp) (fp : List Addr) (pins : List (Addr × Obj)) (i : Nat) (d e : D), ds[i]? = some d → es[i]? = some e → EvD (compCx X N' scope cl C s₀ H₀ fp pins) (capR d cs) elt e)
    (hfi : ∀ v, foldedSetIterable iter X.env v = pure v := by intro _; rfl) : EvF X ρ (.ListComp elt [⟨.Name x px, iter, [], 0⟩] scope pos) es := fun M0 H0 γ α σ H Q R k pins s I => by
  rw [eval_ListComp]
  refine wpAny_comprehension_free (use := none) rfl hfi ok.clos ok.kind ok.names ?_
  have h := hs M0 H0 γ α σ H (fun J H1 => ∃ gs, Same H H1 ∧ (∀ p ∈ gs, Dn X.K (MM M0 ρ α) H1 p.1 p.2) ∧ Walk X.K J ds gs) R (fun J H1 gs s g w => ⟨gs, s, g, w⟩) pins s I
  refine thn h fun v s1 h1 => thn h1 fun itv s2 ⟨it, fp, tn, J, H1, e, I2, T, st, f, gs, sm, hg, w⟩ => ?_
  subst e
  refine comp_block ok hc hnd I2 T st f hg w hl hsz (hcs.ok R sm) (mm_there R sm) (fun C s₀ H₀ i d e => helt C s₀ H₀ fp pins i d e) fun D0 C m s1 H2 ys I1 hn fo hD sm1 ha dn => ?_
  exact ⟨m, hn, fun h' sb => ⟨.ref D0, H2, I1.turned (t' := s1.toks) (fun b o hb e => sb.extBut b o hb e) fo.1 fo.2.1 fo.2.2.2.1 fo.2.2.2.2.1 fo.2.2.2.2.2, rfl, k D0 ys H1 H2 sm hD sm1 ha dn⟩⟩
end
end Z
set_option Elab.async false
set_option linter.all false
set_option maxRecDepth 100000
namespace Z
open PySem PySem.Spec PyProof.Rows L2

/-! ### what a def promises, by data -/
def pureSp (K : Frag) {ι : Type} (args : ι → List D) (pre : ι → Prop) (res : ι → Except Addr D) : Sp := fun vs H Q E =>
  ∃ (i : ι) (M0 : MP), (∀ a, M0 a → H a ≠ none) ∧ Dns K M0 H (args i) vs ∧ pre i ∧ (∀ d, res i = .ok d → ∀ v H', Same H H' → Dn K M0 H' d v → Q v H') ∧ (∀ C, res i = .error C → ∀ a H', Same H H' → E (.ref C) a H')
structure FnD (P : Program) (w : World) (K : Frag) (mg : Str → Option Value) (base : Heap) (CX : CXT) (k : Nat) (x : Str) {ι : Type} (args : ι → List D) (pre : ι → Prop) (res : ι → Except Addr D) : Prop where
  ex : ∃ (f : Addr) (fd : FuncData) (ps : List Str), FnOk P w K mg base CX k f fd ps (pureSp K args pre res) ∧ mg x = some (.ref f) ∧ PySem.W.keepIn K (.ref f) = true ∧ Binds K fd ps []
def D.noL : Nat → D → Prop
  | _, .non => True
  | _, .bl _ => True
  | _, .int _ => True
  | _, .str _ => True
  | n + 1, .tup ds => ∀ d ∈ ds, D.noL n d
  | _, _ => False
section
variable {X : Cx} {ρ : Rho} {e : Expr} {es : List Expr} {d : D} {pos p : Pos} {CX : CXT} {k : Nat} {x : Str} {ι : Type} {args : ι → List D} {pre : ι → Prop} {res : ι → Except Addr D}
theorem EvD.call (F : FnD X.prog X.w X.K X.mg X.base CX k x args pre res) (hr : Room k X.A) (hx : Passes CX X E0) (hg : Gl X x) (i : ι) (ha : AvD X ρ (e :: es) (args i)) (hp : pre i) (hres : res i = .ok d) (hdb : (x == ("__debug__" : Str)) = false := by decide)
    (he : starEach (e :: es) X.env = (false, eval e X.env) :: starEach es X.env := by rfl) (hpl : (backTo pos (starEach es X.env)).any (·.1) = false := by rfl) : EvD X ρ (.Call (.Name x p) (e :: es) [] pos) d := fun M0 H0 γ α σ H Q R kk => by
  obtain ⟨f, fd, ps, F, hm, hk, hb⟩ := F.ex
  refine (pe_call F hr hg hm hk hb .nil hx paA hdb he hpl).to (ha M0 H0 γ α σ H _ R fun vs H1 s1 d1 => ?_)
  show pureSp X.K args pre res (vs ++ []) H1 Q E0
  rw [List.append_nil]
  exact ⟨i, MM M0 ρ α, mm_there R s1, d1, hp, fun d' e v H2 s2 dn => by rw [hres] at e; cases e; exact kk v H2 (s1.trans s2) dn, fun C e => by rw [hres] at e; cases e⟩
end
section
variable {X : Cx} {ρ : Rho} {e : Expr} {ds : List D} {pos p : Pos}
theorem EvD.lenL (hg : Gl X "len") (hm : X.mg "len" = none) (h : EvR X ρ e (.lst ds)) (he : starEach [e] X.env = [(false, eval e X.env)] := by rfl) : EvD X ρ (.Call (.Name "len" p) [e] [] pos) (.int ds.length) := EvD.len hg hm h rfl he
theorem EvD.lenT (hg : Gl X "len") (hm : X.mg "len" = none) (h : EvD X ρ e (.tup ds)) (he : starEach [e] X.env = [(false, eval e X.env)] := by rfl) : EvD X ρ (.Call (.Name "len" p) [e] [] pos) (.int ds.length) := EvD.len hg hm h.r rfl he
theorem EvF.listL (hg : Gl X "list") (hm : X.mg "list" = none) (h : EvR X ρ e (.lst ds)) (he : starEach [e] X.env = [(false, eval e X.env)] := by rfl) : EvF X ρ (.Call (.Name "list" p) [e] [] pos) ds := EvF.list hg hm (by decide +kernel) h rfl he
theorem EvF.listT (hg : Gl X "list") (hm : X.mg "list" = none) (h : EvD X ρ e (.tup ds)) (he : starEach [e] X.env = [(false, eval e X.env)] := by rfl) : EvF X ρ (.Call (.Name "list" p) [e] [] pos) ds := EvF.list hg hm (by decide +kernel) h.r rfl he
theorem EvD.tupleL (hg : Gl X "tuple") (hm : X.mg "tuple" = none) (h : EvR X ρ e (.lst ds)) (he : starEach [e] X.env = [(false, eval e X.env)] := by rfl) : EvD X ρ (.Call (.Name "tuple" p) [e] [] pos) (.tup ds) := EvD.tuple hg hm (by decide +kernel) h rfl he
end
theorem atI_map {α β : Type} (g : α → β) (xs : List α) (k : Int) : atI (xs.map g) k = (atI xs k).map g := by
  unfold atI
  rw [List.length_map]
  cases ixN xs.length k with
  | none => rfl
  | some j => show (xs.map g)[j]? = (xs[j]?).map g; rw [List.getElem?_map]
theorem atI_in {α : Type} {xs : List α} {k : Int} {j : Nat} (hk : k = (j : Int)) (h : j < xs.length) : atI xs k = some xs[j] := by
  subst hk; exact atI_nat (List.getElem?_eq_getElem h)
/-- the names' data at the entry -/
def rho0 (N : List Str) (ds : List D) : Rho := ds.map .im ++ List.replicate (N.length - ds.length) .un
section
variable {P : Program} {w : World} {K : Frag} {mg : Str → Option Value} {base : Heap} {CX : CXT} {k : Nat} {x qual : Str} {st : Stmt} {f : Addr} {fd : FuncData} {N ps : List Str} {ι : Type} {args : ι → List D} {pre : ι → Prop} {res : ι → Except Addr D}
theorem rep0 {ds : List D} {vs : List V} {M0 : MP} {H : Hp} {α : Nat → Addr} (hM : ∀ a, M0 a → H a ≠ none) (h : Dns K M0 H ds vs) : Rep K M0 H [] α (rho0 N ds) (L2.start N vs) H := by
  have hl := h.len
  have get : ∀ (i : Nat) (s : Sl), (rho0 N ds)[i]? = some s → (∃ d, ds[i]? = some d ∧ s = .im d) ∨ s = .un := fun i s e => by
    unfold rho0 at e
    by_cases hi : i < ds.length
    · rw [List.getElem?_append_left (by simpa using hi), List.getElem?_map, List.getElem?_eq_getElem hi] at e
      exact .inl ⟨_, List.getElem?_eq_getElem hi, (Option.some.inj e).symm⟩
    · rw [List.getElem?_append_right (by simpa using hi), List.getElem?_replicate] at e
      split at e
      · exact .inr (Option.some.inj e).symm
      · cases e
  refine ⟨Same.refl _, hM, fun i j es fs e1 => ?_, fun i d e => ?_, fun i es e => ?_, (fun p hp => by cases hp), ?_⟩
  · rcases get i _ e1 with ⟨_, _, z⟩ | z <;> cases z
  · rcases get i _ e with ⟨d', e1, z⟩ | z
    · cases z
      obtain ⟨v, q1, q2⟩ := h.get e1
      have hi : i < vs.length := (List.getElem?_eq_some_iff.mp q1).1
      refine ⟨v, ?_, q2.less fun a z => ?_⟩
      · unfold L2.start
        rw [List.getElem?_append_left (by simpa using hi), List.getElem?_map, q1]
        rfl
      · rcases z with z | ⟨j, es, e2, _⟩
        · exact z
        · rcases get j _ e2 with ⟨_, _, z⟩ | z <;> cases z
    · cases z
  · rcases get i _ e with ⟨_, _, z⟩ | z <;> cases z
  · unfold L2.start rho0
    simp only [List.length_append, List.length_map, List.length_replicate, hl]
/-- a def that raises nothing -/
theorem fnD_of (F : Fun K x qual st f fd) (S : FnScope N ps (defScope st)) (hm : mg x = some (.ref f)) (hb : Binds K fd ps []) (hl : ∀ i, (args i).length = ps.length)
    (body : ∀ (cdv : Value) (A : Around) (outer : List Env) (s : Shared) (H : Hp) (E : XK) (i : ι) (M0 : MP), pre i → Room k (A.deeper (envOfC qual (defScope st) s.heap.objs.size f cdv)) →
      ∃ d, res i = .ok d ∧ WS (cxOf CX P w K mg base N qual (defScope st) f cdv A outer s H E).nox M0 H (defBody st) (rho0 N (args i)) { N := fun _ => d = .non, R := fun d' => d' = d }) : FnD P w K mg base CX (k + 1) x args pre res := by
  refine ⟨f, fd, ps, ?_, hm, F.kp, hb⟩
  obtain ⟨oc, od, kV, doc, pm, an, cdv, ct, osl, rfl, lk, hcd⟩ := F.ex
  refine fn_of lk hcd S (fun vs H Q E ⟨i, M0, _, h, _⟩ => by rw [h.len, hl]) fun A outer s H vs Q E hr hsp => ?_
  obtain ⟨i, M0, hM, h, hp, k1, k2⟩ := hsp
  obtain ⟨d, hd, ws⟩ := body cdv A outer s H E i M0 hp hr
  refine ⟨tSs _ (defBody st), (psSs (X := (cxOf CX P w K mg base N qual (defScope st) f cdv A outer s H E).nox)).nox, ?_⟩
  refine tSs.mono (En := ends K M0 H [] { N := fun _ => d = .non, R := fun d' => d' = d }) (fun σ' H' ⟨α, ρ, R, e⟩ => ?_) (fun v H' ⟨d', e, sm, dn⟩ => ?_) (fun _ _ ⟨_, _, _, z⟩ => z.elim) (fun _ _ ⟨_, _, _, z⟩ => z.elim) (ws [] (fun _ => 0) _ H (rep0 hM h))
  · exact k1 d hd .non H' R.same (by rw [e]; exact rfl)
  · subst e
    exact k1 _ hd v H' sm dn
end
end Z
set_option Elab.async false
set_option linter.all false
set_option maxRecDepth 100000
namespace Z
open PySem PySem.Spec PyProof.Rows L2

/-! ### isinstance -/
def tyN : D → String
  | .non => "NoneType"
  | .bl _ => "bool"
  | .int _ => "int"
  | .str _ => "str"
  | .tup _ => "tuple"
  | .lst _ => "list"
  | .ins _ _ _ => ""
  | .exc _ => ""
def plainD : D → Bool
  | .ins _ _ _ => false
  | .exc _ => false
  | _ => true
def isT (T : String) (d : D) : Bool := tyN d == T || (T == "int" && tyN d == "bool")
section
variable {K : Frag}
theorem kit_ty {d : D} {T : String} (hp : plainD d = true) (hT : T = "int" ∨ T = "bool" ∨ T = "str" ∨ T = "tuple" ∨ T = "list") : PySem.W.kitOne K (.type (tyN d)) (.type T) = some (isT T d) := by
  rcases hT with rfl | rfl | rfl | rfl | rfl <;> cases d <;> first | rfl | (cases hp)
end
section
variable {X : Cx} {ρ : Rho} {M0 : MP} {H0 : Hp} {P : Post} {e a b : Expr} {es : List Expr} {d : D} {ds : List D} {pos p p2 : Pos}
theorem isi_ok {pins : List (Addr × Obj)} {σ : St} {H : Hp} {s : Shared} {M : MP} {v : V} {u c : Value} {r : Bool} {Q : Value → Shared → Prop} {E : Value → Shared → Prop} {A : Around} (I : Inv X pins σ H s) (h : DnT X.K M H d v) (rv : RelV v u) (hp : plainD d = true)
    (e : PySem.W.kitOne X.K (.type (tyN d)) c = some r) (k : ∀ tk, Q (.bool r) { s with toks := tk }) : wpAny (model X.prog X.w) A (call (.builtin "isinstance") [u, c]) Q E s := by
  cases d with
  | non => cases (show v = .non from h); cases (show u = Value.none from rv); exact PySem.W.kia_one PySem.W.kitx_none I.kIn True.intro e (fun z => nomatch z) k
  | bl y => cases (show v = .bl y from h); cases (show u = Value.bool y from rv); exact PySem.W.kia_one PySem.W.kitx_bool I.kIn True.intro e (fun z => nomatch z) k
  | int i => cases (show v = .int i from h); obtain ⟨t, q⟩ := (show ∃ t, u = Value.int i t from rv); cases q; exact PySem.W.kia_one PySem.W.kitx_int I.kIn True.intro e (fun z => nomatch z) k
  | str y => cases (show v = .str y from h); obtain ⟨t, q⟩ := (show ∃ t, u = Value.str y t from rv); cases q; exact PySem.W.kia_one PySem.W.kitx_str I.kIn True.intro e (fun z => nomatch z) k
  | tup ds =>
    obtain ⟨a, xs, rfl, sq, _⟩ := h
    cases (show u = Value.ref a from rv)
    obtain ⟨its, _, ⟨o, h1, h2, _⟩, _⟩ := I.tuple sq
    exact PySem.W.kia_one PySem.W.kitx_tuple I.kIn ⟨o, h1, h2⟩ e (fun z => nomatch z) k
  | lst ds =>
    obtain ⟨a, xs, rfl, sq, _⟩ := h
    cases (show u = Value.ref a from rv)
    obtain ⟨its, _, ⟨o, n, h1, h2, _⟩, _⟩ := I.list sq
    exact PySem.W.kia_one PySem.W.kitx_list I.kIn ⟨o, h1, h2⟩ e (fun z => nomatch z) k
  | _ => cases hp
theorem isi_tup {pins : List (Addr × Obj)} {σ : St} {H : Hp} {s : Shared} {M : MP} {v : V} {u : Value} {tp : Addr} {dd : Option Addr} {its : List Value} {n : Nat} {sl : Array (Option Value)} {r : Bool} {Q : Value → Shared → Prop} {E : Value → Shared → Prop} {A : Around} (I : Inv X pins σ H s) (h : DnT X.K M H d v) (rv : RelV v u) (hp : plainD d = true)
    (ht : s.heap.get? tp = some ⟨.type "tuple", dd, .seq its.toArray n, sl⟩) (e : PySem.W.kitAny X.K (.type (tyN d)) its = some r) (k : ∀ tk, Q (.bool r) { s with toks := tk }) : wpAny (model X.prog X.w) A (call (.builtin "isinstance") [u, .ref tp]) Q E s := by
  cases d with
  | non => cases (show v = .non from h); cases (show u = Value.none from rv); exact PySem.W.kia_tup PySem.W.kitx_none I.kIn True.intro ht e (fun z => nomatch z) k
  | bl y => cases (show v = .bl y from h); cases (show u = Value.bool y from rv); exact PySem.W.kia_tup PySem.W.kitx_bool I.kIn True.intro ht e (fun z => nomatch z) k
  | int i => cases (show v = .int i from h); obtain ⟨t, q⟩ := (show ∃ t, u = Value.int i t from rv); cases q; exact PySem.W.kia_tup PySem.W.kitx_int I.kIn True.intro ht e (fun z => nomatch z) k
  | str y => cases (show v = .str y from h); obtain ⟨t, q⟩ := (show ∃ t, u = Value.str y t from rv); cases q; exact PySem.W.kia_tup PySem.W.kitx_str I.kIn True.intro ht e (fun z => nomatch z) k
  | tup ds =>
    obtain ⟨a, xs, rfl, sq, _⟩ := h
    cases (show u = Value.ref a from rv)
    obtain ⟨its, _, ⟨o, h1, h2, _⟩, _⟩ := I.tuple sq
    exact PySem.W.kia_tup PySem.W.kitx_tuple I.kIn ⟨o, h1, h2⟩ ht e (fun z => nomatch z) k
  | lst ds =>
    obtain ⟨a, xs, rfl, sq, _⟩ := h
    cases (show u = Value.ref a from rv)
    obtain ⟨its, _, ⟨o, n, h1, h2, _⟩, _⟩ := I.list sq
    exact PySem.W.kia_tup PySem.W.kitx_list I.kIn ⟨o, h1, h2⟩ ht e (fun z => nomatch z) k
  | _ => cases hp
def rIsi (K : Frag) : List V → Hp → VK → Prop := fun xs H Q => ∃ v T M d, xs = [v, .ty T] ∧ DnT K M H d v ∧ plainD d = true ∧ (T = "int" ∨ T = "bool" ∨ T = "str" ∨ T = "tuple" ∨ T = "list") ∧ Q (.bl (isT T d)) H
theorem call_isi : CallR X (.builtin "isinstance") (rIsi X.K) := by
  intro pins s σ H xs us Q I r ⟨v, T, M, d, e, h, hp, hT, q⟩
  subst e
  obtain ⟨u, c, rfl, r1, r2⟩ := vals2 r
  cases (show c = Value.type T from r2)
  exact isi_ok I h r1 hp (kit_ty hp hT) fun tk => ⟨.bl _, H, I.tok tk, rfl, q⟩
theorem EvD.isi {T : String} {x : Str} (hg : Gl X "isinstance") (hm : X.mg "isinstance" = none) (hgT : Gl X x) (hmT : X.mg x = none) (hv : bootBuiltins x = some (.type T)) (hT : T = "int" ∨ T = "bool" ∨ T = "str" ∨ T = "tuple" ∨ T = "list") (h : EvR X ρ e d) (hp : plainD d = true)
    (he : starEach [e, .Name x p2] X.env = (false, eval e X.env) :: starEach [.Name x p2] X.env := by rfl) (he2 : starEach [.Name x p2] X.env = [(false, eval (.Name x p2) X.env)] := by rfl) (hpl : (backTo pos (starEach [.Name x p2] X.env)).any (·.1) = false := by rfl)
    (hn : x ≠ "__name__" := by decide) (hd : (x == ("__debug__" : Str)) = false := by decide) : EvD X ρ (.Call (.Name "isinstance" p) [e, .Name x p2] [] pos) (.bl (isT T d)) := fun M0 H0 γ α σ H Q R k =>
  (pe_callB call_isi hg hm boot_isinstance (pa_cons peE (pa_cons (pe_bltn (v := .ty T) hgT hmT hv rfl hn hd) pa_nil he2) he) (by decide) (by decide) he hpl).to (h M0 H0 γ α σ H _ R fun v H1 s1 d1 => ⟨v, T, _, d, rfl, d1, hp, hT, k _ H1 s1 rfl⟩)

/-! ### len(set(..)) of ints -/
def dN (ns : List Int) : Nat := (firstMet (fun i => ns.getD i 0) ns.length).length
theorem call_setI (hc : X.calm = true) : CallR X (.type "set") (fun xs H Q => ∃ q ns, xs = [.ref q] ∧ SqL X.K H q (ns.map V.int) ∧ ns.length < 4000 ∧ ∀ l S, H l = none → Q (.ref l) (upd H l (.set S (dN ns)))) := by
  intro pins s σ H xs us Q I r ⟨q, ns, e, hq, hl, k⟩
  subst e
  obtain ⟨u, rfl, rx⟩ := vals1 r
  cases rx
  obtain ⟨its, r', pl, hz⟩ := I.list hq
  have hlen := r'.length
  rw [List.length_map] at hlen
  have e : its.toArray.size = ns.length := by rw [List.size_toArray]; exact hlen.symm
  refine PySem.call_set_list (I.ok.hd hc) pl.isList (intsAre_of r') (by rw [e]; unfold scanBound; omega) fun h' tk hS hk => ?_
  rw [e] at hS
  exact ⟨.ref s.heap.objs.size, _, I.laid (t' := tk) (fun b o e => hk b o (Heap.lt_size e) e) (Nat.le_refl _) (o := .set _ (dN ns)) hS, rfl, k _ _ I.fresh⟩
theorem call_lenSet : CallR X (.builtin "len") (fun xs H Q => ∃ q S n, xs = [.ref q] ∧ H q = some (.set S n) ∧ Q (.int n) H) := by
  intro pins s σ H xs us Q I r ⟨q, S, n, e, hq, k⟩
  subst e
  obtain ⟨u, rfl, rx⟩ := vals1 r
  cases rx
  obtain ⟨o, es, ep, t, h1, h2, h3, _, _, h6, h7, h8⟩ := (show s.heap.SetOf (intKind X.prog X.w) q S n from I.hok q _ hq)
  refine call_len_set h1 h2 h3 h7 (by unfold scanBound at h6; omega) ⟨.int n, H, I.tok _, ⟨_, by rw [h8]⟩, k⟩
theorem EvD.lenSet {ns : List Int} {p3 : Pos} (hc : X.calm = true) (hg : Gl X "len") (hm : X.mg "len" = none) (hg2 : Gl X "set") (hm2 : X.mg "set" = none) (h : EvR X ρ e (.lst (ns.map .int))) (hl : ns.length < 4000)
    (he : starEach [e] X.env = [(false, eval e X.env)] := by rfl) (he2 : starEach [.Call (.Name "set" p2) [e] [] p3] X.env = [(false, eval (.Call (.Name "set" p2) [e] [] p3) X.env)] := by rfl) : EvD X ρ (.Call (.Name "len" p) [.Call (.Name "set" p2) [e] [] p3] [] pos) (.int (dN ns)) := fun M0 H0 γ α σ H Q R k =>
  (pe_callB call_lenSet hg hm PySem.boot_len (pa_cons (pe_callTy (call_setI hc) hg2 hm2 (by decide +kernel) (pa_cons peE pa_nil he) (by decide) (by decide) he) pa_nil he2) (by decide) (by decide) he2).to (h M0 H0 γ α σ H _ R fun v H1 s1 d1 => by
    obtain ⟨q, xs, rfl, sq, dn⟩ := d1
    rw [dn.ints] at sq
    exact ⟨q, ns, rfl, sq, hl, fun l S hl' => ⟨l, S, _, rfl, upd_same, k _ _ (s1.trans (same_new hl')) rfl⟩⟩)
theorem dedup_len (l : List Int) : ∀ σ : List Int, σ.Nodup → (∀ x ∈ l, x ∈ σ → False) → l.Nodup → (l.foldl step_dedup σ).length = σ.length + l.length := by
  induction l with
  | nil => intro σ _ _ _; rfl
  | cons a l ih =>
    intro σ h1 h2 h3
    rw [List.nodup_cons] at h3
    have na : a ∉ σ := fun z => h2 a (.head _) z
    rw [List.foldl_cons]
    have e : step_dedup σ a = σ ++ [a] := by
      unfold step_dedup
      rw [if_neg]
      simpa using na
    rw [e, ih]
    · simp only [List.length_append, List.length_cons, List.length_nil]; omega
    · rw [List.nodup_append]
      exact ⟨h1, by simp, fun x hx y hy z => by rw [List.mem_singleton.mp hy] at z; exact na (z ▸ hx)⟩
    · intro x hx hm
      rcases List.mem_append.mp hm with hm | hm
      · exact h2 x (.tail _ hx) hm
      · rw [List.mem_singleton.mp hm] at hx; exact h3.1 hx
    · exact h3.2
theorem dedup_lt (l : List Int) : ∀ σ : List Int, ¬ (σ ++ l).Nodup → σ.Nodup → (l.foldl step_dedup σ).length < σ.length + l.length := by
  induction l with
  | nil => intro σ h1 h2; rw [List.append_nil] at h1; exact absurd h2 h1
  | cons a l ih =>
    intro σ h1 h2
    rw [List.foldl_cons]
    by_cases ha : a ∈ σ
    · have e : step_dedup σ a = σ := by
        unfold step_dedup
        rw [if_pos]
        simpa using ha
      rw [e]
      have := length_foldl_step_dedup_le l σ
      rw [List.length_cons]; omega
    · have e : step_dedup σ a = σ ++ [a] := by
        unfold step_dedup
        rw [if_neg]
        simpa using ha
      rw [e]
      have := ih (σ ++ [a]) (by rw [List.append_assoc]; exact h1) (by
        rw [List.nodup_append]
        exact ⟨h2, by simp, fun x hx y hy z => by rw [List.mem_singleton.mp hy] at z; exact ha (z ▸ hx)⟩)
      rw [List.length_append, List.length_singleton] at this
      rw [List.length_cons]; omega
theorem range_getD (ns : List Int) : (List.range ns.length).map (fun i => ns.getD i 0) = ns := by
  apply List.ext_getElem?
  intro i
  rw [List.getElem?_map]
  by_cases h : i < ns.length
  · rw [List.getElem?_range h, List.getElem?_eq_getElem h]
    show some (ns.getD i 0) = _
    rw [List.getD_eq_getElem?_getD, List.getElem?_eq_getElem h]
    rfl
  · rw [List.getElem?_eq_none (by rw [List.length_range]; omega), List.getElem?_eq_none (by omega)]
    rfl
theorem dN_eq (ns : List Int) : dN ns = ns.length ↔ ns.Nodup := by
  have e : dN ns = (ns.foldl step_dedup []).length := by unfold dN firstMet; rw [range_getD]
  rw [e]
  by_cases h : ns.Nodup
  · exact ⟨fun _ => h, fun _ => by rw [dedup_len ns [] List.nodup_nil (fun _ _ z => by cases z) h]; simp⟩
  · refine ⟨fun z => ?_, fun z => absurd z h⟩
    have := dedup_lt ns [] (by simpa using h) List.nodup_nil
    simp only [List.length_nil, Nat.zero_add] at this
    omega
/-! ### list + list -/
theorem op_catL : OpR X (binaryOp .Add) (rCatL X.K) := by
  intro pins s σ H x y v u Q I rx ry h
  obtain ⟨l, b, xs, zs, rfl, rfl, hH, hB, hz, q⟩ := h
  cases rx
  cases ry
  obtain ⟨its, r, ⟨⟨oc, od, odt, osl⟩, n, e1, ec, ed, edt⟩, _⟩ := I.list hH
  obtain ⟨its2, r2, ⟨⟨oc2, od2, odt2, osl2⟩, n2, e2, ec2, ed2, edt2⟩, _⟩ := I.list hB
  have hl := r.length
  have hl2 := r2.length
  simp only at ec ed edt ec2 ed2 edt2
  subst ec ed edt ec2 ed2 edt2
  refine concat_meets ⟨_, e1, rfl⟩ ⟨_, e2, rfl⟩ noFill_list_add seq_list_add F.slot_list_add F.entry_list_add (F.args_list_add_2 _ _) (add_meets l b its.toArray its2.toArray n n2 none none osl osl2 (by rw [List.size_toArray, List.size_toArray]; omega)) ⟨e1, e2, ?_⟩
  have ea : its.toArray ++ its2.toArray = (its ++ its2).toArray := by simp
  rw [ea]
  exact ⟨.ref _, _, I.lnew (t' := s.toks) (r.append r2) (by rw [List.length_append]; omega), rfl, q _ I.fresh⟩
theorem EvF.cat {fs : List D} (ha : EvR X ρ a (.lst ds)) (hb : EvR X ρ b (.lst fs)) (hl : ds.length + fs.length ≤ 1000000) : EvF X ρ (.BinOp a .Add b pos) (ds ++ fs) := fun M0 H0 γ α σ H Q R k =>
  (pe_op op_catL peE peE).to (ha M0 H0 γ α σ H _ R fun v H1 s1 d1 => hb M0 H0 γ α σ H1 _ (R.next s1) fun u H2 s2 d2 => by
    obtain ⟨q, xs, rfl, sq, dn⟩ := d1.same s2
    obtain ⟨q2, xs2, rfl, sq2, dn2⟩ := d2
    exact ⟨q, q2, xs, xs2, rfl, rfl, sq, sq2, by rw [dn.len, dn2.len]; exact le_line hl, fun l hl' => k l _ H2 _ (s1.trans s2) hl' (same_new hl') upd_same ((fresh_re hl' (Dns.app dn dn2)).same (same_new hl'))⟩)

/-! ### pop, a place stored, extend -/
theorem W1.setIx {i n : Nat} {x : Str} {k : Int} {p1 p3 : Pos} (hi : X.N[i]? = some x) (hv : Vis X.env.scope x) (hρ : ρ[i]? = some (.mu ds)) (h : EvD X ρ e d) (hb : EvD X ρ b (.int k)) (hk : k = (n : Int)) (hn : n < ds.length) (q : P.N (ρ.set i (.mu (ds.set n d))))
    (hd : (x == ("__debug__" : Str)) = false := by decide) (hcd : (x == ("__classdict__" : Str)) = false := by decide)
    (hs : swapsWithSole [.Subscript (.Name x p1) b p3] e pos.line X.env = pure false := by rfl) (hw : swappedStores [.Subscript (.Name x p1) b p3] e X.env = pure none := by rfl)
    (h1 : (assignEach [.Subscript (.Name x p1) b p3] X.env).map (·.2) = [assign (.Subscript (.Name x p1) b p3) X.env] := by rfl)
    (ha : ∀ v, assign (.Subscript (.Name x p1) b p3) X.env v = (do
      let ov ← holding [v] (eval (.Name x p1) X.env)
      let iv ← holding [v, ov] (eval b X.env)
      standAt p3
      holding [v, ov, iv] (setItem ov iv v)
      release [v, ov, iv] []) := by intro _; rfl) :
    W1 X M0 H0 (.Assign [.Subscript (.Name x p1) b p3] e pos) ρ P := fun γ α σ H R => by
  obtain ⟨a1, a2, xs, a3, a4⟩ := R.mu i ds hρ
  refine (ps_asg peE (pg_sub (pe_var hi hv hd hcd) peE set_list ha) hs hw h1).to (h M0 H0 γ α σ H _ R fun v H1 s1 d1 => ⟨_, a2, hb M0 H0 γ α σ H1 _ (R.next s1) fun u H2 s2 d2 => ?_⟩)
  cases (show u = .int k from d2)
  subst hk
  have hl := a4.len
  refine ⟨α i, xs, (n : Int), n, rfl, rfl, s2 _ _ (s1 _ _ a3), by unfold ixN; rw [if_pos (by omega), if_pos (by omega)]; simp, α, _, ((R.next s1).next s2).upd_mu hρ ?_, q⟩
  exact Dns.set (d1.same s2) n ((a4.same s1).same s2)
theorem W1.extend {i : Nat} {x : Str} {p1 p3 : Pos} {fs : List D} (hi : X.N[i]? = some x) (hv : Vis X.env.scope x) (hρ : ρ[i]? = some (.mu ds)) (h : EvD X ρ e d) (hq : isSeq d fs) (hl : ds.length + fs.length ≤ 1000000) (q : P.N (ρ.set i (.mu (ds ++ fs))))
    (mc : MC1 X (.Name x p1) "extend" e p2 p3) (hd : (x == ("__debug__" : Str)) = false := by decide) (hcd : (x == ("__classdict__" : Str)) = false := by decide) (hsw : swapsWith (.Call (.Attribute (.Name x p1) "extend" p2) [e] [] p3) none pos.line X.env = pure false := by rfl) :
    W1 X M0 H0 (.Expr (.Call (.Attribute (.Name x p1) "extend" p2) [e] [] p3) pos) ρ P :=
  W1.mt1 PySem.F.plainAttrs_list PySem.F.slot_list_extend PySem.F.type_list_extend mt_extD hi hv hρ h (fun M H l xs v Q a b c k => by
    obtain ⟨q1, ys, rfl, sq, dn⟩ := seq_of hq c.t
    exact ⟨l, q1, xs, ys, rfl, rfl, a, sq, by rw [b.len, dn.len]; exact le_line hl, k _ _ (Dns.app b dn)⟩) q mc hd hcd hsw
end
/-! ### a list or a tuple -/
def sqD (t : Bool) (ds : List D) : D := if t then .tup ds else .lst ds
section
variable {X : Cx} {ρ : Rho} {e a b tg : Expr} {d : D} {ds : List D} {pos p : Pos} {t : Bool}
end
/-- a comprehension that takes nothing from around -/
theorem relabel_none {scope : Scope} {env : Env} (h : ∀ y ∈ scope.names, y.2 ≠ .free) : (relabel scope env).names = scope.names := by
  unfold relabel
  dsimp only
  have : ∀ l : List (Str × NameKind), (∀ y ∈ l, y.2 ≠ .free) → (l.map fun (n, k) => if (k == NameKind.free && env.scope.kind == .function && env.kindOf n == some .cell) then (n, NameKind.cell) else (n, k)) = l := by
    intro l
    induction l with
    | nil => intro _; rfl
    | cons y l ih =>
      intro hl
      obtain ⟨n, k⟩ := y
      rw [List.map_cons, ih fun z hz => hl z (.tail _ hz)]
      have hk : (k == NameKind.free) = false := by
        have := hl (n, k) (.head _)
        cases k <;> first | rfl | exact absurd rfl this
      simp [hk]
  exact this _ h
theorem CompOk.closed {X : Cx} {scope : Scope} {x : Str} (hf : ∀ y ∈ scope.names, y.2 ≠ .free) (hc : ∀ y ∈ scope.names, y.2 ≠ .cell) (hk : scope.kind = .function) (hn : ∀ y ∈ scope.names, y.2 = .local → scope.names.lookup y.1 = some .local) (ho : scope.names.lookup x = some .local) :
    CompOk X [x] [] scope x [] where
  clos := closureFor_none hf
  cell := hc
  kind := hk
  names := hn
  own := ho
  hN := ⟨[], rfl, rfl, fun i y j h => by simp at h⟩
  sub := fun y c h => by simp at h
  has := fun y h => by
    rw [relabel_none hf] at h
    rcases h with h | h
    · exact absurd rfl (hc _ (PySem.mem_of_lookup h))
    · exact absurd rfl (hf _ (PySem.mem_of_lookup h))
theorem capNil {ρ : Rho} : CapR ρ [] [] := ⟨rfl, fun k j c h => by simp at h⟩

/-! ### short words -/
theorem IvD.to {X : Cx} {ρ : Rho} {tg e : Expr} {ds ds' : List D} (h : IvD X ρ tg e ds) (q : ds = ds') : IvD X ρ tg e ds' := q ▸ h
section
variable {X : Cx} {ρ : Rho} {x : Str} {d : D} {ds : List D} {pos : Pos}
theorem ltL {i : Nat} {ρ : Rho} (h : Nat.ble (i + 1) ρ.length = true) : i < ρ.length := Nat.le_of_ble_eq_true h
/-- the name in slot i -/
theorem nm (i : Nat) (hN : X.N[i]? = some x) (hρ : ρ[i]? = some (.im d)) (hv : Vis X.env.scope x := by first | exact Or.inl rfl | exact Or.inr (Or.inl rfl) | exact Or.inr (Or.inr rfl)) (hd : (x == ("__debug__" : Str)) = false := by decide) (hcd : (x == ("__classdict__" : Str)) = false := by decide) : EvD X ρ (.Name x pos) d := EvD.name i hN hv hρ hd hcd
theorem nmR (i : Nat) (hN : X.N[i]? = some x) (hρ : ρ[i]? = some (.mu ds)) (hv : Vis X.env.scope x := by first | exact Or.inl rfl | exact Or.inr (Or.inl rfl) | exact Or.inr (Or.inr rfl)) (hd : (x == ("__debug__" : Str)) = false := by decide) (hcd : (x == ("__classdict__" : Str)) = false := by decide) : EvR X ρ (.Name x pos) (.lst ds) := EvR.name i hN hv hρ hd hcd
theorem rngD_get {lo : Int} {n i : Nat} {d : D} (h : (rngD lo n)[i]? = some d) : d = .int (lo + (i : Int)) ∧ i < n := by
  unfold rngD at h
  rw [List.getElem?_map] at h
  cases e : (List.range n)[i]? with
  | none => rw [e] at h; cases h
  | some j =>
    rw [e] at h
    obtain ⟨h1, h2⟩ := List.getElem?_eq_some_iff.mp e
    rw [List.length_range] at h1
    rw [List.getElem_range] at h2
    subst h2
    exact ⟨(Option.some.inj h).symm, h1⟩
theorem rngD_len {lo : Int} {n : Nat} : (rngD lo n).length = n := by unfold rngD; rw [List.length_map, List.length_range]
end
end Z
set_option Elab.async false
set_option linter.all false
set_option maxRecDepth 100000
namespace K
open PySem L2 Z
abbrev St := L2.St
def top (i : Nat) : Stmt := PySem.Challenge.pw_cranefloor_k01_floors.main.body.getD i (.Pass ⟨0, 0, 0, 0⟩)
abbrev sCell : Stmt := top 28
abbrev sFloor : Stmt := top 99
abbrev sGood : Stmt := top 99
abbrev sStanding : Stmt := top 99

/-- what of the built-in names the text has not bound -/
structure Bn (mg : Str → Option Value) : Prop where
  len : mg "len" = none
  range : mg "range" = none
  list : mg "list" = none
  tuple : mg "tuple" = none
  set : mg "set" = none
def NX (CX : CXT) : Prop := ∀ l H s e s', CX l H s E0 e s' → False
theorem passNX {CX : CXT} {X : Cx} (h : NX CX) : Passes CX X E0 := fun _ _ H s e s' _ z => (h _ H s e s' z).elim

def cellAt (ns : List Int) (k : Nat) : Int := ns.getD k 0
def pD (p : Int × Int) : D := .tup [.int p.1, .int p.2]
structure Flr where
  st : Int
  ht : Int
  lf : Int
  bans : List (Int × Int)
def Flr.d (f : Flr) : D := .tup [.int f.st, .int f.ht, .int f.lf, .lst (f.bans.map pD)]
def lawBans (ns : List Int) (first most : Nat) : Nat → List (Int × Int)
  | 0 => []
  | k + 1 =>
    let p := cellAt ns (first + 1 + k)
    if p % most = p / most % most then lawBans ns first most k else lawBans ns first most k ++ [(p % most, p / most % most)]
def lawFloor (ns : List Int) (first most : Nat) : Flr :=
  let c := cellAt ns first
  ⟨2 + c % 3, 1 + c / 3 % 6, 1 + c / 18 % 3, lawBans ns first most (c / 72 % 5).toNat⟩
section
variable {P : Program} {w : World} {K : Frag} {mg : Str → Option Value} {base : Heap} {CX : CXT}
theorem scCell : FnScope ["script", "k"] ["script", "k"] (defScope sCell) := ⟨rfl, rfl, rfl, by decide +kernel, rfl, by decide +kernel, by decide +kernel⟩
abbrev FCell (P : Program) (w : World) (K : Frag) (mg : Str → Option Value) (base : Heap) (CX : CXT) : Prop :=
  FnD P w K mg base CX 1 "_law_cell_at" (fun i : List Int × Nat => [.lst (i.1.map .int), .int i.2]) (fun _ => True) (fun i => .ok (.int (cellAt i.1 i.2)))
theorem ok_cell {f : Addr} {fd : FuncData} (B : Bn mg) (F : Fun K "_law_cell_at" "_law_cell_at" sCell f fd) (hm : mg "_law_cell_at" = some (.ref f)) (hb : Binds K fd ["script", "k"] []) : FCell P w K mg base CX := by
  refine fnD_of F scCell hm hb (fun i => rfl) fun cdv A outer s H E i M0 hp hr => ⟨_, rfl, ?_⟩
  obtain ⟨ns, k⟩ := i
  refine WS.cons (W1.ite (TvD.cI .lt (EvD.name 1 rfl (.inl rfl) rfl) (EvD.lenL rfl B.len (EvD.name 0 rfl (.inl rfl) rfl).r)) (fun h => ?_) fun h => ?_)
  · have h' : (k : Int) < ns.length := by simpa using of_decide_eq_true h
    have hk : k < ns.length := by omega
    refine WS.one (W1.ret (EvD.ixL (EvD.name 0 rfl (.inl rfl) rfl).r (EvD.name 1 rfl (.inl rfl) rfl) (d := .int (cellAt ns k)) ?_) rfl)
    rw [atI_map, atI_in rfl hk]
    show some (D.int ns[k]) = some (D.int (ns.getD k 0))
    rw [List.getD_eq_getElem?_getD, List.getElem?_eq_getElem hk]
    rfl
  · refine WS.nil (WS.one (W1.ret EvD.int ?_))
    have h' : ¬ (k : Int) < ns.length := by simpa using of_decide_eq_false h
    show D.int 0 = D.int (ns.getD k 0)
    rw [List.getD_eq_getElem?_getD, List.getElem?_eq_none (by omega)]
    rfl

/-! ### _law_good -/
def okAt (f : Flr) (r : List Int) (k : Nat) : Bool := (decide (0 ≤ r.getD k 0) && decide (r.getD k 0 ≤ 9)) && !(decide (0 < k) && decide ((r.getD k 0, r.getD (k - 1) 0) ∈ f.bans))
def rowOk (f : Flr) (r : List Int) : Bool := decide ((r.length : Int) ≤ f.ht) && (List.range r.length).all (okAt f r)
def good (f : Flr) (rows : List (List Int)) : Bool := (decide ((rows.length : Int) = f.st) && decide rows.flatten.Nodup) && rows.all (rowOk f)
theorem hu65 {k : Nat} {A : Around} (hr : Room k A) : A.units + 65 < cLine := by have := hr.un; omega
theorem inD_pairs (p : Int × Int) (bs : List (Int × Int)) : inD (pD p) (bs.map pD) = decide (p ∈ bs) := by
  induction bs with
  | nil => rfl
  | cons b bs ih =>
    show (D.eqv (pD b) (pD p) || inD (pD p) (bs.map pD)) = _
    rw [ih]
    have e : D.eqv (pD b) (pD p) = decide (p = b) := by
      obtain ⟨b1, b2⟩ := b
      obtain ⟨p1, p2⟩ := p
      simp only [D.eqv, pD, D.pd, D.pds, PyData.eqv, PyData.eqvAll, Bool.and_true]
      by_cases h : p1 = b1 ∧ p2 = b2
      · obtain ⟨rfl, rfl⟩ := h; simp
      · rw [decide_eq_false (by simpa using h)]
        simp only [Bool.and_eq_false_iff, beq_eq_false_iff_ne]
        by_cases h1 : p1 = b1
        · exact .inr fun z => h ⟨h1, z.symm⟩
        · exact .inl fun z => h1 z.symm
    rw [e]
    by_cases h : p = b <;> simp [h]
theorem flat_pD (n : Nat) (p : Int × Int) : D.flat (n + 1) (pD p) := by
  intro d hd
  rcases List.mem_cons.mp hd with rfl | hd
  · cases n <;> exact trivial
  · rw [List.mem_singleton.mp hd]; cases n <;> exact trivial
theorem flat_pDs {n : Nat} {bs : List (Int × Int)} : ∀ d ∈ bs.map pD, D.flat (n + 1) d := fun d hd => by
  obtain ⟨p, _, rfl⟩ := List.mem_map.mp hd
  exact flat_pD n p
def rowsD (t : Bool) (rows : List (List Int)) : List D := rows.map fun r => sqD t (r.map .int)
theorem row_len {rows : List (List Int)} {r : List Int} (h : r ∈ rows) : r.length ≤ rows.flatten.length := by
  induction rows with
  | nil => cases h
  | cons a rows ih =>
    rw [List.flatten_cons, List.length_append]
    rcases List.mem_cons.mp h with rfl | h
    · omega
    · have := ih h; omega
theorem take_flat {rows : List (List Int)} {i : Nat} {r : List Int} (h : rows[i]? = some r) : (rows.take (i + 1)).flatten = (rows.take i).flatten ++ r := by
  rw [List.take_add_one, h, List.flatten_append]
  simp
theorem flat_take_len (rows : List (List Int)) (i : Nat) : (rows.take i).flatten.length ≤ rows.flatten.length := by
  have e : rows.flatten = (rows.take i).flatten ++ (rows.drop i).flatten := by rw [← List.flatten_append, List.take_append_drop]
  rw [e, List.length_append]; omega
theorem rowsD_get {t : Bool} {rows : List (List Int)} {i : Nat} {d : D} (h : (rowsD t rows)[i]? = some d) : ∃ r, rows[i]? = some r ∧ d = sqD t (r.map .int) := by
  unfold rowsD at h
  rw [List.getElem?_map] at h
  cases e : rows[i]? with
  | none => rw [e] at h; cases h
  | some r => rw [e] at h; exact ⟨r, rfl, (Option.some.inj h).symm⟩
end
end K
set_option Elab.async false
set_option linter.all false
set_option maxRecDepth 100000
namespace K
open PySem L2 Z
theorem flat_ints {n : Nat} {ns : List Int} : D.flat (n + 1) (.lst (ns.map .int)) := fun d hd => by
  obtain ⟨i, _, rfl⟩ := List.mem_map.mp hd
  cases n <;> exact trivial
end K
set_option Elab.async false
set_option linter.all false
set_option maxRecDepth 100000
namespace Z
open PySem PySem.Spec PyProof.Rows L2
section
variable {X : Cx} {ρ : Rho} {M0 : MP} {H0 : Hp} {P : Post} {e a b : Expr} {d : D} {ds : List D} {pos p : Pos}
/-! ### all, any of a list of bools -/
theorem bools_at {K : Frag} {M : MP} {H : Hp} {bs : List Bool} {xs : List V} {its : List Value} (h : Dns K M H (bs.map .bl) xs) (r : Vals xs its) : its = bs.map Value.bool := by
  induction bs generalizing xs its with
  | nil => cases (show xs = [] from h); cases r; rfl
  | cons b bs ih =>
    obtain ⟨v, t, rfl, h1, h2⟩ := h
    cases r with
    | cons r1 r2 =>
      cases (show v = .bl b from h1)
      rw [List.map_cons, ih h2 r2, show _ = Value.bool b from r1]
theorem range_bools (bs : List Bool) (tr : Nat → Bool) (h : ∀ i b, bs[i]? = some b → tr i = b) : (List.range bs.length).all tr = bs.all id ∧ (List.range bs.length).any tr = bs.any id := by
  have e : (List.range bs.length).map tr = bs := by
    apply List.ext_getElem?
    intro i
    rw [List.getElem?_map]
    by_cases hi : i < bs.length
    · rw [List.getElem?_range hi, List.getElem?_eq_getElem hi]
      exact congrArg some (h i _ (List.getElem?_eq_getElem hi))
    · rw [List.getElem?_eq_none (by rw [List.length_range]; omega), List.getElem?_eq_none (by omega)]
      rfl
  constructor
  · rw [← e, List.all_map, e]; rfl
  · rw [← e, List.any_map, e]; rfl
theorem truth_bools {A : Around} (bs : List Bool) : TruthOf X.prog X.w A (fun i v => (bs.map Value.bool)[i]? = some v) (fun i => bs.getD i false) := fun i v s Q E h k => by
  dsimp only at h k
  rw [List.getElem?_map] at h
  cases e : bs[i]? with
  | none => rw [e] at h; cases h
  | some b =>
    rw [e] at h
    cases h
    rw [List.getD_eq_getElem?_getD, e] at k
    exact wpAny_truthy_bool k
theorem call_allB (hc : X.calm = true) : CallR X (.builtin "all") (fun xs H Q => ∃ (q : Addr) (M : MP) (bs : List Bool), xs = [.ref q] ∧ DnT X.K M H (.lst (bs.map .bl)) (.ref q) ∧ Q (.bl (bs.all id)) H) := by
  intro pins s σ H xs us Q I r ⟨q, M, bs, e, hq, k⟩
  subst e
  obtain ⟨u, rfl, rx⟩ := vals1 r
  cases rx
  obtain ⟨q', ys, eq, sq, dn⟩ := hq
  cases eq
  obtain ⟨its, r', pl, hz⟩ := I.list sq
  have hb := bools_at dn r'
  subst hb
  have hlt : q < s.heap.objs.size := by obtain ⟨o, n, e, _⟩ := pl; exact Heap.lt_size e
  refine call_all_walk (wpAny_pyIter_list pl.isList ?_)
  refine ⟨_, _, _, _, _, _, fun i => bs.getD i false, rfl, Walks.list (by simp [I.ok.hd hc]) s.heap.objs.size q (Nat.ne_of_lt hlt) _, ⟨⟨_, Heap.get?_push_size _ rfl, rfl, rfl⟩, pl.isList.push _⟩, ?_, fun h' tk hk => ?_⟩
  · have := truth_bools (X := X) (A := X.A.in1) bs
    intro i v s Q E h
    exact this i v s Q E (by rw [List.getElem?_toArray] at h; exact h)
  · refine ⟨.bl (bs.all id), H, I.kept (t' := tk) (fun b o e => hk b o (by intro z; rw [List.mem_singleton.mp z] at e; exact absurd (Heap.lt_size e) (Nat.lt_irrefl _)) (Heap.get?_push_of_some _ e)), ?_, k⟩
    show _ = Value.bool _
    rw [List.size_toArray, List.length_map, (range_bools bs _ fun i b h => by rw [List.getD_eq_getElem?_getD, h]; rfl).1]
theorem call_anyB (hc : X.calm = true) : CallR X (.builtin "any") (fun xs H Q => ∃ (q : Addr) (M : MP) (bs : List Bool), xs = [.ref q] ∧ DnT X.K M H (.lst (bs.map .bl)) (.ref q) ∧ Q (.bl (bs.any id)) H) := by
  intro pins s σ H xs us Q I r ⟨q, M, bs, e, hq, k⟩
  subst e
  obtain ⟨u, rfl, rx⟩ := vals1 r
  cases rx
  obtain ⟨q', ys, eq, sq, dn⟩ := hq
  cases eq
  obtain ⟨its, r', pl, hz⟩ := I.list sq
  have hb := bools_at dn r'
  subst hb
  have hlt : q < s.heap.objs.size := by obtain ⟨o, n, e, _⟩ := pl; exact Heap.lt_size e
  refine call_any_walk (wpAny_pyIter_list pl.isList ?_)
  refine ⟨_, _, _, _, _, _, fun i => bs.getD i false, rfl, Walks.list (by simp [I.ok.hd hc]) s.heap.objs.size q (Nat.ne_of_lt hlt) _, ⟨⟨_, Heap.get?_push_size _ rfl, rfl, rfl⟩, pl.isList.push _⟩, ?_, fun h' tk hk => ?_⟩
  · have := truth_bools (X := X) (A := X.A.in1) bs
    intro i v s Q E h
    exact this i v s Q E (by rw [List.getElem?_toArray] at h; exact h)
  · refine ⟨.bl (bs.any id), H, I.kept (t' := tk) (fun b o e => hk b o (by intro z; rw [List.mem_singleton.mp z] at e; exact absurd (Heap.lt_size e) (Nat.lt_irrefl _)) (Heap.get?_push_of_some _ e)), ?_, k⟩
    show _ = Value.bool _
    rw [List.size_toArray, List.length_map, (range_bools bs _ fun i b h => by rw [List.getD_eq_getElem?_getD, h]; rfl).2]
theorem EvD.all {bs : List Bool} (hc : X.calm = true) (hg : Gl X "all") (hm : X.mg "all" = none) (h : EvR X ρ e (.lst (bs.map .bl))) (he : starEach [e] X.env = [(false, eval e X.env)] := by rfl) : EvD X ρ (.Call (.Name "all" p) [e] [] pos) (.bl (bs.all id)) :=
  EvD.callB (call_allB hc) hg hm (by decide +kernel) (AvR.one h he) (fun M H vs Q dn k => by
    obtain ⟨v, r, rfl, e1, e2⟩ := dn
    cases e2
    obtain ⟨q, xs, rfl, sq, z⟩ := id e1
    exact ⟨q, M, bs, rfl, e1, k _ H (Same.refl _) rfl⟩) (he := he)
theorem EvD.any {bs : List Bool} (hc : X.calm = true) (hg : Gl X "any") (hm : X.mg "any" = none) (h : EvR X ρ e (.lst (bs.map .bl))) (he : starEach [e] X.env = [(false, eval e X.env)] := by rfl) : EvD X ρ (.Call (.Name "any" p) [e] [] pos) (.bl (bs.any id)) :=
  EvD.callB (call_anyB hc) hg hm (by decide +kernel) (AvR.one h he) (fun M H vs Q dn k => by
    obtain ⟨v, r, rfl, e1, e2⟩ := dn
    cases e2
    obtain ⟨q, xs, rfl, sq, z⟩ := id e1
    exact ⟨q, M, bs, rfl, e1, k _ H (Same.refl _) rfl⟩) (he := he)
end
/-! ### tuples: slices, + -/
theorem add_tup0 (l b : Addr) (xs ys : Array Value) (n m : Nat) (dd de : Option Addr) (sl tl : Array (Option Value)) (h0 : xs.isEmpty = true) :
    Meets (Builtin.«tuple.__add__» ⟨[.ref l, .ref b], []⟩) (fun _ R s => s.heap.get? l = some { cls := .type "tuple", dict := dd, data := .seq xs n, slots := sl } ∧ s.heap.get? b = some { cls := .type "tuple", dict := de, data := .seq ys m, slots := tl } ∧
      R (.ok (.ret (Value.ref b))) { s with heap := s.heap, toks := s.toks }) :=
  .of_wp fun prog w A R s h => by
    obtain ⟨hp, g, d, tk, os⟩ := s
    obtain ⟨hl, hb, h⟩ := h
    have f2 := AutoSeq1.sub_tuple_tuple
    wp_walk using AutoSeq1.wpAny_loadPart' hl, AutoSeq1.wpAny_loadPart' hb
    exact ⟨_, rfl, h⟩
theorem cut_all {prog : Program} {w : World} {A : Around} {E : Value → Shared → Prop} {s : Shared} {t sl : Addr} {items : Array Value} {vl vu : Value} {lo hi : Option Int} {Q : Value → Shared → Prop} (ht : IsTup s.heap t items) (hs : s.heap.IsSliceOf sl vl vu .none) (pl : IsPart vl lo) (pu : IsPart vu hi)
    (hw : HT.sIx items.size 0 lo = 0 ∧ HT.sIx items.size items.size hi = items.size) (h : Q (.ref t) s) : wpAny (model prog w) A (getItem (.ref t) (.ref sl)) Q E s := by
  obtain ⟨os, hos, hcs, hds⟩ := id hs
  have hTs : s.TypeIs (.ref sl) "slice" := ⟨os, hos, hcs⟩
  unfold getItem
  try with_reducible refine wpAny_holding ?_
  first | refine wpAny_bind (wpAny_pure ?_) | skip
  refine wpAny_bind (wpAny_sequenceKey ht.typeIs (by decide) ?_)
  refine wpAny_bind (wpAny_callSpecial?_slot (name := Str.ofString "__getitem__") ht.typeIs PyProof.Rows.slot_tuple_getitem
    (wpAny_call_entry PyProof.Rows.slot_tuple_getitem ht.typeIs entry_tuple_getitem ?_ (args_tuple_getitem _ _)))
  show wpAny _ _ (Builtin.Tuple.tupleItemsOf (.ref t) >>= _) _ _ s
  refine wpAny_bind (tupleItemsOf_ ht ?_)
  refine wpAny_bind (wpAny_typeOf hTs ?_)
  rw [if_pos (by decide)]
  refine wpAny_bind (HT.sliceApplied_gen hs pl pu ?_)
  have hyes : ((((HT.sIx items.size 0 lo : Nat) : Int) == 0 && (1 : Int) == 1 && (HT.sIx items.size items.size hi - HT.sIx items.size 0 lo) == items.size) = true) := by
    rw [hw.1, hw.2]; simp
  show wpAny _ _ (if (((HT.sIx items.size 0 lo : Nat) : Int) == 0 && (1 : Int) == 1 && (HT.sIx items.size items.size hi - HT.sIx items.size 0 lo) == items.size) = true then _ else _) _ _ s
  rw [if_pos hyes]
  unfold Builtin.Tuple.tupleIsExact
  refine wpAny_bind (wpAny_bind (wpAny_typeOf ht.typeIs (wpAny_pure ?_)))
  rw [if_pos (by decide)]
  exact wpAny_bind (wpAny_rule (wpAny_pure ⟨_, rfl, wpAny_pure h⟩))
section
variable {X : Cx} {ρ : Rho} {e a b : Expr} {d : D} {ds : List D} {pos p p2 : Pos}
def rSlTD (K : Frag) : V → Option Int → Option Int → Hp → VK → Prop := fun x lo hi H Q => ∃ a xs, x = .ref a ∧ SqT K H a xs ∧
  (HT.sIx xs.length 0 lo = 0 ∧ HT.sIx xs.length xs.length hi = xs.length → Q (.ref a) H) ∧ (¬ (HT.sIx xs.length 0 lo = 0 ∧ HT.sIx xs.length xs.length hi = xs.length) → ∀ p, H p = none → Q (.ref p) (upd H p (.tup (cutV xs lo hi))))
theorem sl_tupD : SlR X (rSlTD X.K) := by
  intro pins s σ H x v vl vu lo hi sl Q I rx hs pl pu h
  obtain ⟨a, xs, rfl, hx, q1, q2⟩ := h
  by_cases hw : HT.sIx xs.length 0 lo = 0 ∧ HT.sIx xs.length xs.length hi = xs.length
  · cases rx
    obtain ⟨its, r, ht, hz⟩ := I.tuple hx
    have hlen : its.toArray.size = xs.length := by rw [List.size_toArray]; exact r.length.symm
    refine ⟨"tuple", _, PyProof.Rows.slot_tuple_getitem.lookup, ht.typeIs, ?_⟩
    exact cut_all ht hs pl pu (by rw [hlen]; exact hw) ⟨.ref a, H, I, rfl, q1 hw⟩
  · exact sl_tup pins s σ H (.ref a) v vl vu lo hi sl Q I rx hs pl pu ⟨a, xs, rfl, hx, hw, q2 hw⟩
def cutD (ds : List D) (lo hi : Option Int) : List D := (ds.drop (HT.sIx ds.length 0 lo)).take (HT.sIx ds.length ds.length hi - HT.sIx ds.length 0 lo)
theorem Dns.cut {K : Frag} {M : MP} {H : Hp} {xs : List V} {lo hi : Option Int} (h : Dns K M H ds xs) : Dns K M H (cutD ds lo hi) (cutV xs lo hi) := by
  unfold cutD cutV
  rw [h.len]
  exact (h.drop _).take _
theorem cutD_all {lo hi : Option Int} (h : HT.sIx ds.length 0 lo = 0 ∧ HT.sIx ds.length ds.length hi = ds.length) : cutD ds lo hi = ds := by
  unfold cutD
  rw [h.1, h.2, List.drop_zero, Nat.sub_zero, List.take_length]
/-- the bounds of a slice -/
def OvD (X : Cx) (ρ : Rho) (e : Option Expr) (o : Option Int) : Prop := match e, o with
  | none, o => o = none
  | some e, o => ∃ i, o = some i ∧ EvD X ρ e (.int i)
theorem OvD.none : OvD X ρ none none := rfl
theorem OvD.some {i : Int} (h : EvD X ρ e (.int i)) : OvD X ρ (some e) (some i) := ⟨i, rfl, h⟩
theorem OvD.run {eo : Option Expr} {o : Option Int} (h : OvD X ρ eo o) : ∃ t, PO X eo t ∧ ∀ (M0 : MP) (H0 : Hp) (γ : List (D × V)) (α : Nat → Addr) (σ : St) (H : Hp) (Q : Option Int → Hp → Prop), Rep X.K M0 H0 γ α ρ σ H → (∀ H', Same H H' → Q o H') → t σ H Q := by
  cases eo with
  | none =>
    cases (show o = Option.none from h)
    exact ⟨_, po_none, fun M0 H0 γ α σ H Q R k => k H (Same.refl _)⟩
  | some e =>
    obtain ⟨i, rfl, h⟩ := h
    exact ⟨_, po_some peE, fun M0 H0 γ α σ H Q R k => h M0 H0 γ α σ H _ R fun v H1 s1 d1 => ⟨i, d1, k H1 s1⟩⟩
theorem EvD.cutT {lo hi : Option Expr} {l u : Option Int} (ha : EvD X ρ a (.tup ds)) (hl : OvD X ρ lo l) (hh : OvD X ρ hi u) : EvD X ρ (.Subscript a (.Slice lo hi none p2) pos) (.tup (cutD ds l u)) := by
  obtain ⟨tl, l1, l2⟩ := hl.run
  obtain ⟨th, h1, h2⟩ := hh.run
  intro M0 H0 γ α σ H Q R k
  refine (pe_slice sl_tupD peE l1 h1).to (ha M0 H0 γ α σ H _ R fun v H1 s1 d1 => l2 M0 H0 γ α σ H1 _ (R.next s1) fun H2 s2 => h2 M0 H0 γ α σ H2 _ ((R.next s1).next s2) fun H3 s3 => ?_)
  obtain ⟨q, xs, rfl, sq, dn⟩ := d1.same (s2.trans s3)
  refine ⟨q, xs, rfl, sq, fun hw => ?_, fun hw l hl => ?_⟩
  · rw [dn.len] at hw
    exact k _ H3 ((s1.trans s2).trans s3) ⟨q, xs, rfl, sq, by rw [cutD_all hw]; exact dn⟩
  · exact k _ _ (((s1.trans s2).trans s3).trans (same_new hl)) ⟨l, _, rfl, SqT.of upd_same, dn.cut.same (same_new hl)⟩
theorem EvF.cutL {lo hi : Option Expr} {l u : Option Int} (ha : EvR X ρ a (.lst ds)) (hl : OvD X ρ lo l) (hh : OvD X ρ hi u) : EvF X ρ (.Subscript a (.Slice lo hi none p2) pos) (cutD ds l u) := by
  obtain ⟨tl, l1, l2⟩ := hl.run
  obtain ⟨th, h1, h2⟩ := hh.run
  intro M0 H0 γ α σ H Q R k
  refine (pe_slice sl_list peE l1 h1).to (ha M0 H0 γ α σ H _ R fun v H1 s1 d1 => l2 M0 H0 γ α σ H1 _ (R.next s1) fun H2 s2 => h2 M0 H0 γ α σ H2 _ ((R.next s1).next s2) fun H3 s3 => ?_)
  obtain ⟨q, xs, rfl, sq, dn⟩ := d1.same (s2.trans s3)
  exact ⟨q, xs, rfl, sq, fun l hl => k l _ H3 _ ((s1.trans s2).trans s3) hl (same_new hl) upd_same ((fresh_re hl dn.cut).same (same_new hl))⟩
/-- tuple + tuple -/
def rCatTD (K : Frag) : R2 := fun x y H Q => ∃ a b xs ys, x = .ref a ∧ y = .ref b ∧ SqT K H a xs ∧ SqT K H b ys ∧ xs.length + ys.length ≤ sizeLine ∧ (xs = [] → Q (.ref b) H) ∧ (xs ≠ [] → ys = [] → Q (.ref a) H) ∧ (xs ≠ [] → ys ≠ [] → ∀ p, H p = none → Q (.ref p) (upd H p (.tup (xs ++ ys))))
theorem op_catTD : OpR X (binaryOp .Add) (rCatTD X.K) := by
  intro pins s σ H x y v u Q I rx ry h
  obtain ⟨a, b, xs, ys, rfl, rfl, ha, hb, hz, q0, q1, q2⟩ := h
  by_cases hx : xs = []
  · cases rx
    cases ry
    obtain ⟨its, r1, ⟨⟨cls, dd, data, sl⟩, ho, hc, n, hd⟩, _⟩ := I.tuple ha
    obtain ⟨its2, r2, ⟨⟨cls2, dd2, data2, sl2⟩, ho2, hc2, n2, hd2⟩, _⟩ := I.tuple hb
    simp only at hc hd hc2 hd2
    subst hc hd hc2 hd2
    have e : its = [] := r1.nil_iff.mpr hx
    exact concat_meets ⟨_, ho, rfl⟩ ⟨_, ho2, rfl⟩ noFill_tuple_add seq_tuple_add PySem.F.slot_tuple_add PySem.F.entry_tuple_add (PySem.F.args_tuple_add_2 _ _)
      (add_tup0 a b its.toArray its2.toArray n n2 dd dd2 sl sl2 (by simp [e])) ⟨ho, ho2, ⟨.ref b, H, I, rfl, q0 hx⟩⟩
  · exact op_catT pins s σ H (.ref a) (.ref b) v u Q I rx ry ⟨a, b, xs, ys, rfl, rfl, ha, hb, hx, hz, q1 hx, q2 hx⟩
theorem Dns.nil_iff {K : Frag} {M : MP} {H : Hp} {xs : List V} (h : Dns K M H ds xs) : xs = [] → ds = [] := fun e => by
  have := h.len
  rw [e] at this
  exact List.length_eq_zero_iff.mp this.symm
theorem EvD.catT {fs : List D} (ha : EvD X ρ a (.tup ds)) (hb : EvD X ρ b (.tup fs)) (hl : ds.length + fs.length ≤ 1000000) : EvD X ρ (.BinOp a .Add b pos) (.tup (ds ++ fs)) := fun M0 H0 γ α σ H Q R k =>
  (pe_op op_catTD peE peE).to (ha M0 H0 γ α σ H _ R fun v H1 s1 d1 => hb M0 H0 γ α σ H1 _ (R.next s1) fun u H2 s2 d2 => by
    obtain ⟨q, xs, rfl, sq, dn⟩ := d1.same s2
    obtain ⟨q2, xs2, rfl, sq2, dn2⟩ := d2
    refine ⟨q, q2, xs, xs2, rfl, rfl, sq, sq2, by rw [dn.len, dn2.len]; exact le_line hl, fun e => ?_, fun _ e => ?_, fun _ _ l hl' => ?_⟩
    · exact k _ H2 (s1.trans s2) ⟨q2, xs2, rfl, sq2, by rw [dn.nil_iff e]; exact dn2⟩
    · exact k _ H2 (s1.trans s2) ⟨q, xs, rfl, sq, by rw [dn2.nil_iff e, List.append_nil]; exact dn⟩
    · exact k _ _ ((s1.trans s2).trans (same_new hl')) ⟨l, _, rfl, SqT.of upd_same, (Dns.app dn dn2).same (same_new hl')⟩)
end
end Z
set_option Elab.async false
set_option linter.all false
namespace Tx
/-- the parts with c between -/
def glue (c : Nat) : List (List Nat) → List Nat
  | [] => []
  | [x] => x
  | x :: y :: r => x ++ c :: glue c (y :: r)
/-- members once each -/
def ustep {α : Type} [DecidableEq α] (s : List α) (a : α) : List α := if a ∈ s then s else s ++ [a]
def uniq {α : Type} [DecidableEq α] (l : List α) : List α := l.foldl ustep []
section
variable {α : Type} [DecidableEq α]
end
end Tx
set_option Elab.async false
set_option linter.all false
set_option maxRecDepth 100000
namespace Z
open PySem PySem.Spec PyProof.Rows L2

/-! ### texts: the signs one by one -/
def Its (x : Str) : It := ⟨fun i _ => i < x.cps.size, fun i H v H' => H' = H ∧ ∃ c, x.cps[i]? = some c ∧ v = .str ⟨#[c]⟩, fun i _ => x.cps.size ≤ i⟩
def iStr (tl : TE) : TI := fun σ H R => tl σ H fun x H1 => ∃ z, x = .str z ∧ R (Its z) H1
section
variable {X : Cx} {tg : Expr}
end
def signs (x : Str) : List D := x.cps.toList.map fun c => D.str ⟨#[c]⟩
section
variable {X : Cx} {ρ : Rho} {M0 : MP} {H0 : Hp} {P : Post} {e a b o tg : Expr} {es : List Expr} {d : D} {ds : List D} {pos p p2 p3 apos cpos : Pos}
/-! ### texts: +, index, ==, in, len, str, int -/
/-! ### join, split -/
end
end Z
set_option Elab.async false
set_option linter.all false
set_option maxRecDepth 100000
namespace Z
open PySem PySem.Spec PyProof.Rows L2

/-! ### set(..) of what is walked: the members of a kind, each once -/
section
variable {prog : Program} {w : World} {A : Around} {R : Result → Shared → Prop} {I : Addr} {fp wr : List Addr} {G : Array GenState → Array GenState → Prop} {n : Nat} {P : Nat → Value → Prop} {St : Nat → Shared → Prop}
  {K : Type} [DecidableEq K] {knd : PySem.KeyKind prog w K}
end
section
variable {prog : Program} {w : World} {A : Around} {E : Value → Shared → Prop} {s : Shared} {K : Type} [DecidableEq K] {knd : PySem.KeyKind prog w K}
end
/-- a set of texts -/
def setS (P : Program) (w : World) (a : Addr) (xs : List Str) : HO := .ext fun h => h.SetOf (PySem.strKind P w) a (fun k' => decide (k' ∈ Tx.uniq xs)) (Tx.uniq xs).length
section
variable {X : Cx} {ρ : Rho} {e : Expr} {pos p p2 p3 : Pos}
def ones (x : Str) : List Str := x.cps.toList.map fun c => ⟨#[c]⟩
end
end Z
set_option Elab.async false
set_option linter.all false
set_option maxRecDepth 100000
namespace Z
open PySem PySem.Spec PyProof.Rows L2

theorem isT_int {i : Int} : isT "int" (.int i) = true := by simp [isT, tyN]
theorem isT_bool {i : Int} : isT "bool" (.int i) = false := by simp [isT, tyN]
theorem isT_tup {ds : List D} : isT "tuple" (.tup ds) = true := by simp [isT, tyN]
theorem eqv_self {d : D} (h : D.flat 60 d) : D.eqv d d = true := by
  unfold D.eqv
  exact PySem.SeqAt.eqv_refl _ (shaped_of 60 d h).1

/-! ### list(range(n)) -/
section
variable {X : Cx} {ρ : Rho} {e : Expr} {pos p p2 p3 : Pos}
end
/-! ### texts by their codes -/
end Z
namespace Z
open PySem PySem.Spec PyProof.Rows L2
section
variable {P : Program} {w : World} {K : Frag} {mg : Str → Option Value} {base : Heap} {CX : CXT} {k : Nat} {x qual : Str} {st : Stmt} {f : Addr} {fd : FuncData} {N ps : List Str} {ι : Type} {args : ι → List D} {pre : ι → Prop} {res : ι → Except Addr D}
theorem fnOk_of (F : Fun K x qual st f fd) (S : FnScope N ps (defScope st)) (hl : ∀ i, (args i).length = ps.length)
    (body : ∀ (cdv : Value) (A : Around) (outer : List Env) (s : Shared) (H : Hp) (E : XK) (i : ι) (M0 : MP), pre i → Room k (A.deeper (envOfC qual (defScope st) s.heap.objs.size f cdv)) →
      ∃ d, res i = .ok d ∧ WS (cxOf CX P w K mg base N qual (defScope st) f cdv A outer s H E).nox M0 H (defBody st) (rho0 N (args i)) { N := fun _ => d = .non, R := fun d' => d' = d }) : FnOk P w K mg base CX (k + 1) f fd ps (pureSp K args pre res) := by
  obtain ⟨oc, od, kV, doc, pm, an, cdv, ct, osl, rfl, lk, hcd⟩ := F.ex
  refine fn_of lk hcd S (fun vs H Q E ⟨i, M0, _, h, _⟩ => by rw [h.len, hl]) fun A outer s H vs Q E hr hsp => ?_
  obtain ⟨i, M0, hM, h, hp, k1, k2⟩ := hsp
  obtain ⟨d, hd, ws⟩ := body cdv A outer s H E i M0 hp hr
  refine ⟨tSs _ (defBody st), (psSs (X := (cxOf CX P w K mg base N qual (defScope st) f cdv A outer s H E).nox)).nox, ?_⟩
  refine tSs.mono (En := ends K M0 H [] { N := fun _ => d = .non, R := fun d' => d' = d }) (fun σ' H' ⟨α, ρ, R, e⟩ => ?_) (fun v H' ⟨d', e, sm, dn⟩ => ?_) (fun _ _ ⟨_, _, _, z⟩ => z.elim) (fun _ _ ⟨_, _, _, z⟩ => z.elim) (ws [] (fun _ => 0) _ H (rep0 hM h))
  · exact k1 d hd .non H' R.same (by rw [e]; exact rfl)
  · subst e
    exact k1 _ hd v H' sm dn
end
/-- the law's promise -/
abbrev spLaw (K : Frag) : Sp := pureSp K (fun ns : List Int => [D.lst (ns.map .int)]) (fun ns => ns.length ≤ 63) (fun _ => .ok (.bl true))
end Z
set_option Elab.async false
set_option linter.all false
namespace Z
open PySem
/-! ### a table of a set, of any size -/
def Rise (xs : Array Nat) : Prop := xs.toList.Pairwise (· < ·)
theorem Rise.lt {xs : Array Nat} (h : Rise xs) {i j : Nat} (hij : i < j) (hj : j < xs.size) : xs[i]'(Nat.lt_trans hij hj) < xs[j] := by
  have := List.pairwise_iff_getElem.mp h i j (by simpa using Nat.lt_trans hij hj) (by simpa using hj) hij
  simpa using this
theorem below_go {xs : Array Nat} (h : Rise xs) {j : Nat} : ∀ (fuel lo hi : Nat), lo ≤ hi → hi ≤ xs.size → hi - lo ≤ fuel → (∀ i (hi' : i < xs.size), i < lo → xs[i] < j) → (∀ i (hi' : i < xs.size), hi ≤ i → j ≤ xs[i]) →
    SetTable.below.go xs j fuel lo hi ≤ xs.size ∧ (∀ i (hi' : i < xs.size), i < SetTable.below.go xs j fuel lo hi → xs[i] < j) ∧ (∀ i (hi' : i < xs.size), SetTable.below.go xs j fuel lo hi ≤ i → j ≤ xs[i])
  | 0, lo, hi, h1, h2, h3, a, b => by
    have : lo = hi := by omega
    subst this
    exact ⟨h2, a, b⟩
  | fuel + 1, lo, hi, h1, h2, h3, a, b => by
    unfold SetTable.below.go
    by_cases hlt : lo < hi
    · rw [if_pos hlt]
      dsimp only
      have hm : (lo + hi) / 2 < xs.size := by omega
      have e : xs.getD ((lo + hi) / 2) j = xs[(lo + hi) / 2] := by simp [Array.getD, hm]
      rw [e]
      by_cases hc : xs[(lo + hi) / 2] < j
      · rw [if_pos hc]
        refine below_go h fuel _ _ (by omega) h2 (by omega) (fun i hi' hl => ?_) b
        by_cases hq : i = (lo + hi) / 2
        · subst hq; exact hc
        · exact Nat.lt_trans (h.lt (by omega) hm) hc
      · rw [if_neg hc]
        refine below_go h fuel _ _ (by omega) (by omega) (by omega) a fun i hi' hl => ?_
        by_cases hq : i = (lo + hi) / 2
        · subst hq; omega
        · have := h.lt (i := (lo + hi) / 2) (j := i) (by omega) hi'
          omega
    · rw [if_neg hlt]
      have : lo = hi := by omega
      subst this
      exact ⟨h2, a, b⟩
structure Bel (xs : Array Nat) (j : Nat) : Prop where
  le : SetTable.below xs j ≤ xs.size
  lo : ∀ i (hi : i < xs.size), i < SetTable.below xs j → xs[i] < j
  hi : ∀ i (hi : i < xs.size), SetTable.below xs j ≤ i → j ≤ xs[i]
theorem bel {xs : Array Nat} (h : Rise xs) (j : Nat) : Bel xs j := by
  obtain ⟨a, b, c⟩ := below_go h (j := j) xs.size 0 xs.size (Nat.zero_le _) (Nat.le_refl _) (Nat.le_refl _) (fun i _ z => absurd z (Nat.not_lt_zero _)) (fun i hi z => by omega)
  exact ⟨a, b, c⟩
theorem below_at {xs : Array Nat} (h : Rise xs) {i : Nat} (hi : i < xs.size) : SetTable.below xs xs[i] = i := by
  have b := bel h xs[i]
  have le := b.le
  by_cases h1 : SetTable.below xs xs[i] < i
  · have := b.hi _ (by omega) (Nat.le_refl _)
    have := h.lt h1 hi
    omega
  · by_cases h2 : i < SetTable.below xs xs[i]
    · have := b.lo i hi h2
      omega
    · omega
theorem slot_ofR {t : SetTable} (h : Rise t.place) {i r : Nat} (e : t.place[i]? = some r) : t.slot r = .live i := by
  obtain ⟨hi, rfl⟩ := Array.getElem?_eq_some_iff.mp e
  unfold SetTable.slot
  dsimp only
  rw [below_at h hi, if_pos (by rw [e]; exact beq_self_eq_true _)]
theorem slot_casesR {t : SetTable} (hd : t.dummies = #[]) (r : Nat) : t.slot r = .empty ∨ ∃ i, t.slot r = .live i ∧ t.place[i]? = some r := by
  unfold SetTable.slot
  dsimp only
  by_cases h : (t.place[SetTable.below t.place r]? == some r) = true
  · rw [if_pos h]
    exact .inr ⟨_, rfl, by simpa using h⟩
  · rw [if_neg h, hd]
    exact .inl rfl
theorem slot_memR {t : SetTable} (hd : t.dummies = #[]) (h : Rise t.place) {r : Nat} : t.slot r ≠ .empty ↔ r ∈ t.place.toList := by
  constructor
  · intro hne
    rcases slot_casesR hd r with z | ⟨i, _, e⟩
    · exact absurd z hne
    · exact Array.mem_toList_iff.mpr (Array.mem_of_getElem? e)
  · intro hm
    obtain ⟨i, hi, e⟩ := List.getElem_of_mem hm
    rw [slot_ofR h (i := i) (by rw [← Array.getElem?_toList, List.getElem?_eq_getElem hi, e])]
    intro z
    cases z
theorem insR {xs : Array Nat} (h : Rise xs) {j : Nat} (hj : j ∉ xs.toList) : Rise (SetTable.insertAt xs (SetTable.below xs j) j) := by
  have b := bel h j
  have e : (SetTable.insertAt xs (SetTable.below xs j) j).toList = xs.toList.take (SetTable.below xs j) ++ j :: xs.toList.drop (SetTable.below xs j) := by
    unfold SetTable.insertAt
    have hle := b.le
    simp [Array.toList_extract, List.extract_eq_take_drop]
    exact List.take_of_length_le (by simp)
  unfold Rise
  rw [e, List.pairwise_append]
  have lo : ∀ x ∈ xs.toList.take (SetTable.below xs j), x < j := fun x hx => by
    obtain ⟨i, hi, rfl⟩ := List.getElem_of_mem hx
    rw [List.length_take] at hi
    rw [List.getElem_take]
    have := b.lo i (by rw [Array.length_toList] at hi; omega) (by omega)
    simpa using this
  have hi : ∀ x ∈ xs.toList.drop (SetTable.below xs j), j < x := fun x hx => by
    have hm := List.mem_of_mem_drop hx
    obtain ⟨i, hi, rfl⟩ := List.getElem_of_mem hx
    rw [List.length_drop] at hi
    rw [List.getElem_drop] at hm ⊢
    have := b.hi (SetTable.below xs j + i) (by rw [Array.length_toList] at hi; omega) (by omega)
    have ne : xs.toList[SetTable.below xs j + i]'(by omega) ≠ j := fun z => hj (z ▸ hm)
    have : j ≤ xs.toList[SetTable.below xs j + i]'(by omega) := by simpa using this
    omega
  refine ⟨h.sublist (List.take_sublist _ _), List.pairwise_cons.mpr ⟨hi, h.sublist (List.drop_sublist _ _)⟩, fun x hx y hy => ?_⟩
  rcases List.mem_cons.mp hy with rfl | hy
  · exact lo x hx
  · exact Nat.lt_trans (lo x hx) (hi y hy)
theorem nextR {xs : Array Nat} (h : Rise xs) {i : Nat} (hi : i ≤ xs.size) : SetTable.below xs (if i = 0 then 0 else xs.getD (i - 1) 0 + 1) = i := by
  by_cases h0 : i = 0
  · subst h0
    rw [if_pos rfl]
    have b := bel h 0
    have le := b.le
    by_cases z : SetTable.below xs 0 = 0
    · exact z
    · have := b.lo 0 (by omega) (by omega)
      omega
  · rw [if_neg h0]
    have hl : i - 1 < xs.size := by omega
    have e : xs.getD (i - 1) 0 = xs[i - 1] := by simp [Array.getD, hl]
    rw [e]
    have b := bel h (xs[i - 1] + 1)
    have le := b.le
    by_cases h1 : SetTable.below xs (xs[i - 1] + 1) < i
    · have := b.hi (i - 1) hl (by omega)
      omega
    · by_cases h2 : i < SetTable.below xs (xs[i - 1] + 1)
      · have q := b.lo i (by omega) h2
        have := h.lt (i := i - 1) (j := i) (by omega) (by omega)
        omega
      · omega
end Z
set_option Elab.async false
set_option linter.all false
set_option maxRecDepth 100000
namespace Z
open PySem PySem.Spec PyProof.Rows
/-! ### the probe of a table -/
def advK (t : SetTable) : Nat → SetTable.Probe → SetTable.Probe
  | 0, p => p
  | k + 1, p => advK t k (t.advance p)
theorem advK_add (t : SetTable) : ∀ (k l : Nat) (p : SetTable.Probe), advK t (k + l) p = advK t l (advK t k p)
  | 0, l, p => by rw [Nat.zero_add]; rfl
  | k + 1, l, p => by rw [Nat.succ_add]; exact advK_add t k l (t.advance p)
theorem advK_mask {t t' : SetTable} (h : t.mask = t'.mask) : ∀ (k : Nat) (p : SetTable.Probe), advK t k p = advK t' k p
  | 0, _ => rfl
  | k + 1, p => by
    show advK t k (t.advance p) = advK t' k (t'.advance p)
    have e : t.advance p = t'.advance p := by unfold SetTable.advance; rw [h]
    rw [e]
    exact advK_mask h k _
theorem start_mask {t t' : SetTable} (h : t.mask = t'.mask) (x : Int) : t.probeStart x = t'.probeStart x := by unfold SetTable.probeStart; rw [h]
/-- 8, 32 or 128 slots -/
def Msk (m : Nat) : Prop := m = 7 ∨ m = 31 ∨ m = 127
structure PrOk (t : SetTable) (p : SetTable.Probe) : Prop where
  jm : p.j + p.more ≤ t.mask
  il : p.i ≤ t.mask
  m9 : p.more ≤ 9
  dm : p.dummy = none
theorem PrOk.lt {t : SetTable} {p : SetTable.Probe} (h : PrOk t p) : p.j ≤ t.mask := by have := h.jm; omega
/-- the probe that stands at the beginning of a run -/
def runAt (m i pert : Nat) : SetTable.Probe := { j := i, more := SetTable.runEnd m i - i, i := i, perturb := pert, dummy := none }
theorem runEnd_le {m i : Nat} (h : i ≤ m) : i + (SetTable.runEnd m i - i) ≤ m ∧ SetTable.runEnd m i - i ≤ 9 := by
  unfold SetTable.runEnd
  split <;> omega
theorem runAt_ok {t : SetTable} {i pert : Nat} (h : i ≤ t.mask) : PrOk t (runAt t.mask i pert) := ⟨(runEnd_le h).1, h, (runEnd_le h).2, rfl⟩
theorem adv_more {t : SetTable} {p : SetTable.Probe} (h : 0 < p.more) : t.advance p = { p with j := p.j + 1, more := p.more - 1 } := by
  unfold SetTable.advance
  rw [if_pos h]
theorem adv_leap {t : SetTable} {p : SetTable.Probe} (h : p.more = 0) (hd : p.dummy = none) : t.advance p = runAt t.mask ((p.i * 5 + 1 + p.perturb / 32) % (t.mask + 1)) (p.perturb / 32) := by
  unfold SetTable.advance SetTable.leap
  rw [if_neg (by omega)]
  dsimp only
  rw [hd]
  rfl
theorem PrOk.adv {t : SetTable} {p : SetTable.Probe} (h : PrOk t p) : PrOk t (t.advance p) := by
  by_cases hm : 0 < p.more
  · rw [adv_more hm]
    exact ⟨by have := h.jm; show p.j + 1 + (p.more - 1) ≤ _; omega, h.il, by have := h.m9; show p.more - 1 ≤ 9; omega, h.dm⟩
  · rw [adv_leap (by omega) h.dm]
    exact runAt_ok (Nat.lt_succ_iff.mp (Nat.mod_lt _ (Nat.succ_pos _)))
theorem PrOk.advK {t : SetTable} : ∀ {k : Nat} {p : SetTable.Probe}, PrOk t p → PrOk t (Z.advK t k p)
  | 0, _, h => h
  | k + 1, _, h => PrOk.advK (k := k) h.adv
/-- one run, then the leap -/
theorem run_leap {t : SetTable} : ∀ (m : Nat) (p : SetTable.Probe), PrOk t p → p.more = m → advK t (m + 1) p = runAt t.mask ((p.i * 5 + 1 + p.perturb / 32) % (t.mask + 1)) (p.perturb / 32)
  | 0, p, h, e => by
    show t.advance p = _
    exact adv_leap e h.dm
  | m + 1, p, h, e => by
    show advK t (m + 1) (t.advance p) = _
    have ea := adv_more (t := t) (p := p) (by omega)
    rw [run_leap m _ h.adv (by rw [ea]; show p.more - 1 = m; omega), ea]
/-- along a run -/
theorem run_on {t : SetTable} : ∀ (k : Nat) (p : SetTable.Probe), k ≤ p.more → (advK t k p).j = p.j + k
  | 0, _, _ => rfl
  | k + 1, p, h => by
    show (advK t k (t.advance p)).j = _
    have ea := adv_more (t := t) (p := p) (by omega)
    rw [ea, run_on k _ (by show k ≤ p.more - 1; omega)]
    show p.j + 1 + k = _
    omega
/-- the beginnings of the runs -/
def begK (m : Nat) : Nat → Nat × Nat → Nat × Nat
  | 0, x => x
  | n + 1, x => begK m n ((x.1 * 5 + 1 + x.2 / 32) % (m + 1), x.2 / 32)
theorem beg_steps {t : SetTable} : ∀ (n i pert : Nat), i ≤ t.mask → ∃ K, K ≤ 10 * n ∧ advK t K (runAt t.mask i pert) = runAt t.mask (begK t.mask n (i, pert)).1 (begK t.mask n (i, pert)).2
  | 0, i, pert, _ => ⟨0, Nat.le_refl _, rfl⟩
  | n + 1, i, pert, h => by
    have hi : (i * 5 + 1 + pert / 32) % (t.mask + 1) ≤ t.mask := Nat.lt_succ_iff.mp (Nat.mod_lt _ (Nat.succ_pos _))
    obtain ⟨K, hK, e⟩ := beg_steps n _ (pert / 32) hi
    have m9 := (runEnd_le h).2
    refine ⟨SetTable.runEnd t.mask i - i + 1 + K, by omega, ?_⟩
    rw [advK_add, run_leap (SetTable.runEnd t.mask i - i) (runAt t.mask i pert) (runAt_ok h) rfl]
    exact e
theorem beg_pert (m : Nat) : ∀ (n : Nat) (x : Nat × Nat), (begK m n x).2 = x.2 / 32 ^ n
  | 0, x => by show x.2 = x.2 / 1; rw [Nat.div_one]
  | n + 1, x => by
    show (begK m n _).2 = _
    rw [beg_pert m n]
    show x.2 / 32 / 32 ^ n = _
    rw [Nat.div_div_eq_div_mul, Nat.pow_succ, Nat.mul_comm]
theorem begK_add (m : Nat) : ∀ (k l : Nat) (x : Nat × Nat), begK m (k + l) x = begK m l (begK m k x)
  | 0, l, x => by rw [Nat.zero_add]; rfl
  | k + 1, l, x => by rw [Nat.succ_add]; exact begK_add m k l _
def lcgK (m : Nat) : Nat → Nat → Nat
  | 0, j => j
  | k + 1, j => lcgK m k ((j * 5 + 1) % (m + 1))
theorem lcgK_add (m : Nat) : ∀ (k l j : Nat), lcgK m (k + l) j = lcgK m l (lcgK m k j)
  | 0, l, j => by rw [Nat.zero_add]; rfl
  | k + 1, l, j => by rw [Nat.succ_add]; exact lcgK_add m k l _
theorem beg_lcg (m : Nat) : ∀ (k : Nat) (x : Nat × Nat), x.2 = 0 → (begK m k x).1 = lcgK m k x.1
  | 0, _, _ => rfl
  | k + 1, x, h => by
    show (begK m k _).1 = _
    rw [beg_lcg m k _ (by show x.2 / 32 = 0; rw [h]), h]
    rfl
def orb (m : Nat) : Nat → Nat → List Nat
  | 0, _ => []
  | n + 1, j => j :: orb m n ((j * 5 + 1) % (m + 1))
theorem orb_mem (m : Nat) : ∀ (n j r : Nat), r ∈ orb m n j → ∃ k, k < n ∧ lcgK m k j = r
  | 0, _, _, h => by cases h
  | n + 1, j, r, h => by
    rcases List.mem_cons.mp h with rfl | h
    · exact ⟨0, Nat.succ_pos _, rfl⟩
    · obtain ⟨k, hk, e⟩ := orb_mem m n _ r h
      exact ⟨k + 1, Nat.succ_lt_succ hk, e⟩
theorem orb_all {m : Nat} (h : Msk m) : ∀ r, r ≤ m → r ∈ orb m (m + 1) 0 := by
  have c : ∀ m, (List.range (m + 1)).all (fun r => (orb m (m + 1) 0).contains r) = true → ∀ r, r ≤ m → r ∈ orb m (m + 1) 0 := fun m h r hr => by
    have := List.all_eq_true.mp h r (List.mem_range.mpr (Nat.lt_succ_iff.mpr hr))
    simpa using this
  rcases h with rfl | rfl | rfl
  · exact c 7 (by decide +kernel)
  · exact c 31 (by decide +kernel)
  · exact c 127 (by decide +kernel)
theorem orb_back {m : Nat} (h : Msk m) : lcgK m (m + 1) 0 = 0 := by
  rcases h with rfl | rfl | rfl <;> decide +kernel
theorem lcg_all {m : Nat} (h : Msk m) {j r : Nat} (hj : j ≤ m) (hr : r ≤ m) : ∃ k, k ≤ m ∧ lcgK m k j = r := by
  obtain ⟨a, ha, rfl⟩ := orb_mem m _ _ _ (orb_all h j hj)
  obtain ⟨b, hb, rfl⟩ := orb_mem m _ _ _ (orb_all h r hr)
  by_cases hab : a ≤ b
  · refine ⟨b - a, by omega, ?_⟩
    rw [← lcgK_add]
    congr 1
    omega
  · refine ⟨m + 1 + b - a, by omega, ?_⟩
    rw [← lcgK_add, show a + (m + 1 + b - a) = m + 1 + b by omega, lcgK_add, orb_back h]
theorem full_len : ∀ (n : Nat) (l : List Nat), (∀ r, r < n → r ∈ l) → n ≤ l.length
  | 0, _, _ => Nat.zero_le _
  | n + 1, l, h => by
    have hn := h n (Nat.lt_succ_self n)
    have h1 := full_len n (l.erase n) fun r hr => (List.mem_erase_of_ne (Nat.ne_of_lt hr)).mpr (h r (Nat.lt_succ_of_lt hr))
    have h2 := List.length_erase_of_mem hn
    have h3 := List.length_pos_of_mem hn
    omega
theorem slot_none {t : SetTable} (hd : t.dummies = #[]) {r : Nat} (h : r ∉ t.place.toList) : t.slot r = .empty := by
  unfold SetTable.slot
  dsimp only
  have h1 : (t.place[SetTable.below t.place r]? == some r) = false := by
    rw [beq_eq_false_iff_ne]
    intro e
    exact h (by simpa using Array.mem_of_getElem? e)
  rw [h1, hd]
  rfl
theorem slot_cases {t : SetTable} (hd : t.dummies = #[]) (r : Nat) : t.slot r = .empty ∨ ∃ i, t.slot r = .live i ∧ t.place[i]? = some r := by
  unfold SetTable.slot
  dsimp only
  by_cases h1 : (t.place[SetTable.below t.place r]? == some r) = true
  · rw [if_pos h1]
    exact .inr ⟨_, rfl, eq_of_beq h1⟩
  · rw [if_neg h1, hd]
    exact .inl rfl
theorem a_free {t : SetTable} (hs : t.place.size ≤ t.mask) : ∃ r, r ≤ t.mask ∧ r ∉ t.place.toList := by
  apply Classical.byContradiction
  intro hn
  have := full_len (t.mask + 1) t.place.toList fun r hr => Classical.byContradiction fun z => hn ⟨r, Nat.lt_succ_iff.mp hr, z⟩
  simp at this
  omega
/-- every slot is the beginning of a run, soon -/
theorem beg_reach {m : Nat} (h : Msk m) {i pert r : Nat} (hi : i ≤ m) (hb : pert < 2 ^ 64) (hr : r ≤ m) : ∃ n, n ≤ 13 + m ∧ (begK m n (i, pert)).1 = r := by
  have hz : (begK m 13 (i, pert)).2 = 0 := by
    rw [beg_pert]
    exact Nat.div_eq_of_lt (Nat.lt_of_lt_of_le hb (by decide +kernel))
  have hl : (begK m 13 (i, pert)).1 ≤ m := by
    have : ∀ (n : Nat) (x : Nat × Nat), x.1 ≤ m → (begK m n x).1 ≤ m := fun n => by
      induction n with
      | zero => exact fun x h => h
      | succ n ih => exact fun x _ => ih _ (Nat.lt_succ_iff.mp (Nat.mod_lt _ (Nat.succ_pos _)))
    exact this 13 _ hi
  obtain ⟨k, hk, e⟩ := lcg_all h hl hr
  refine ⟨13 + k, by omega, ?_⟩
  rw [begK_add, beg_lcg m k _ hz, e]
theorem start_run {t : SetTable} (h : Int) : t.probeStart h = runAt t.mask (SetTable.bits h % (t.mask + 1)) (SetTable.bits h) := rfl
theorem bits_lt (h : Int) : SetTable.bits h < 2 ^ 64 := by
  unfold SetTable.bits
  have h1 := Int.emod_lt_of_pos h (show (0 : Int) < 2 ^ 64 by decide)
  have h2 := Int.emod_nonneg h (show (2 ^ 64 : Int) ≠ 0 by decide)
  omega
theorem mod_le (a m : Nat) : a % (m + 1) ≤ m := Nat.lt_succ_iff.mp (Nat.mod_lt _ (Nat.succ_pos _))
theorem start_ok {t : SetTable} (h : Int) : PrOk t (t.probeStart h) := by
  rw [start_run]
  exact runAt_ok (mod_le _ _)
theorem reach {t : SetTable} (hm : Msk t.mask) (hd : t.dummies = #[]) (hs : t.place.size ≤ t.mask) (h : Int) : ∃ K, K ≤ 10 * (13 + t.mask) ∧ t.slot (advK t K (t.probeStart h)).j = .empty := by
  obtain ⟨r, hr, hnr⟩ := a_free hs
  obtain ⟨n, hn, e⟩ := beg_reach hm (mod_le (SetTable.bits h) t.mask) (bits_lt h) hr
  obtain ⟨K, hK, e2⟩ := beg_steps n (SetTable.bits h % (t.mask + 1)) (SetTable.bits h) (mod_le _ _)
  refine ⟨K, Nat.le_trans hK (Nat.mul_le_mul_left 10 hn), ?_⟩
  rw [start_run, e2]
  show t.slot (begK t.mask n _).1 = _
  rw [e]
  exact slot_none hd hnr
/-- the search's way: what it has passed holds other hashes -/
theorem go_way {t : SetTable} (hd : t.dummies = #[]) {hashAt : Nat → Int} {h : Int} : ∀ (K : Nat) (p : SetTable.Probe) (fuel : Nat), PrOk t p → t.slot (advK t K p).j = .empty → K < fuel →
    (∃ j m, SetTable.probe.go t hashAt h fuel p = some (.empty j none) ∧ t.slot j = .empty ∧ j ≤ t.mask ∧ j = (advK t m p).j ∧ ∀ m', m' < m → ∃ i, t.slot (advK t m' p).j = .live i ∧ hashAt i ≠ h) ∨
    ∃ j i next K' m, SetTable.probe.go t hashAt h fuel p = some (.candidate j i next) ∧ t.slot j = .live i ∧ t.place[i]? = some j ∧ K' < K ∧ t.slot (advK t K' next).j = .empty ∧ PrOk t next ∧ j = (advK t m p).j ∧ next = advK t (m + 1) p ∧ ∀ m', m' < m → ∃ i, t.slot (advK t m' p).j = .live i ∧ hashAt i ≠ h
  | K, p, 0, _, _, hf => by omega
  | 0, p, fuel + 1, hp, he, _ => by
    refine .inl ⟨p.j, 0, ?_, he, hp.lt, rfl, fun m' h => absurd h (Nat.not_lt_zero _)⟩
    show (match t.slot p.j with | .empty => some (SetTable.Met.empty p.j p.dummy) | .dummy => _ | .live i => _) = _
    rw [show t.slot p.j = .empty from he, hp.dm]
  | K + 1, p, fuel + 1, hp, he, hf => by
    rcases slot_cases hd p.j with hs | ⟨i, hs, hi⟩
    · refine .inl ⟨p.j, 0, ?_, hs, hp.lt, rfl, fun m' h => absurd h (Nat.not_lt_zero _)⟩
      show (match t.slot p.j with | .empty => some (SetTable.Met.empty p.j p.dummy) | .dummy => _ | .live i => _) = _
      rw [hs, hp.dm]
    · by_cases hh : hashAt i = h
      · refine .inr ⟨p.j, i, t.advance p, K, 0, ?_, hs, hi, Nat.lt_succ_self _, he, hp.adv, rfl, rfl, fun m' h => absurd h (Nat.not_lt_zero _)⟩
        show (match t.slot p.j with | .empty => some (SetTable.Met.empty p.j p.dummy) | .dummy => SetTable.probe.go t hashAt h fuel (t.advance { p with dummy := some p.j }) | .live i => if hashAt i == h then some (SetTable.Met.candidate p.j i (t.advance p)) else SetTable.probe.go t hashAt h fuel (t.advance p)) = _
        rw [hs]
        dsimp only
        rw [if_pos (by rw [hh]; exact beq_self_eq_true h)]
      · have e : SetTable.probe.go t hashAt h (fuel + 1) p = SetTable.probe.go t hashAt h fuel (t.advance p) := by
          show (match t.slot p.j with | .empty => some (SetTable.Met.empty p.j p.dummy) | .dummy => SetTable.probe.go t hashAt h fuel (t.advance { p with dummy := some p.j }) | .live i => if hashAt i == h then some (SetTable.Met.candidate p.j i (t.advance p)) else SetTable.probe.go t hashAt h fuel (t.advance p)) = _
          rw [hs]
          dsimp only
          rw [if_neg (by simpa using hh)]
        rw [e]
        have one : ∀ m, (∀ m', m' < m → ∃ i, t.slot (advK t m' (t.advance p)).j = .live i ∧ hashAt i ≠ h) → ∀ m', m' < m + 1 → ∃ i, t.slot (advK t m' p).j = .live i ∧ hashAt i ≠ h := fun m hv m' hm' => by
          cases m' with
          | zero => exact ⟨i, hs, hh⟩
          | succ m' => exact hv m' (by omega)
        rcases go_way hd K (t.advance p) fuel (hp.adv) he (by omega) with ⟨j, m, h1, h2, h3, h4, h5⟩ | ⟨j, i', next, K', m, h1, h2, h3, h4, h5, h6, h7, h8, h9⟩
        · exact .inl ⟨j, m + 1, h1, h2, h3, h4, one m h5⟩
        · exact .inr ⟨j, i', next, K', m + 1, h1, h2, h3, Nat.lt_succ_of_lt h4, h5, h6, h7, h8, one m h9⟩

end Z
set_option Elab.async false
set_option linter.all false
set_option maxRecDepth 100000
namespace Z
open PySem PySem.Spec PyProof.Rows
abbrev occ (owner : Array (Option Nat)) (j : Nat) : Bool := !(owner.getD j (some 0)).isNone
/-- the first free slot on the way -/
theorem free_ok {t : SetTable} {owner : Array (Option Nat)} : ∀ (fuel i pert : Nat), i ≤ t.mask → (∃ n, n < fuel ∧ occ owner (begK t.mask n (i, pert)).1 = false) →
    ∃ j K, SetTable.layClean.free t.mask owner fuel i pert = some j ∧ j = (advK t K (runAt t.mask i pert)).j ∧ occ owner j = false ∧ ∀ K', K' < K → occ owner (advK t K' (runAt t.mask i pert)).j = true
  | 0, i, pert, _, ⟨n, hn, _⟩ => absurd hn (Nat.not_lt_zero _)
  | fuel + 1, i, pert, hi, ⟨n, hn, he⟩ => by
    have hge : i ≤ SetTable.runEnd t.mask i := by unfold SetTable.runEnd; split <;> omega
    have em : (runAt t.mask i pert).more = SetTable.runEnd t.mask i - i := rfl
    unfold SetTable.layClean.free
    generalize hf : (List.range (SetTable.runEnd t.mask i + 1 - i)).find? (fun k => (owner.getD (i + k) (some 0)).isNone) = r
    cases r with
    | some k =>
      dsimp only
      obtain ⟨p1, p2, p3⟩ := List.find?_range_eq_some.mp hf
      have hk : k < SetTable.runEnd t.mask i + 1 - i := List.mem_range.mp p2
      have on : ∀ k', k' ≤ k → (advK t k' (runAt t.mask i pert)).j = i + k' := fun k' h => run_on k' _ (by rw [em]; omega)
      refine ⟨i + k, k, rfl, (on k (Nat.le_refl _)).symm, ?_, fun K' hK => ?_⟩
      · unfold occ; rw [p1]; rfl
      · rw [on K' (by omega)]
        have := p3 K' hK
        unfold occ
        simpa using this
    | none =>
      dsimp only
      have nn : ∀ k, k ≤ SetTable.runEnd t.mask i - i → occ owner (i + k) = true := fun k hk => by
        have := List.find?_eq_none.mp hf k (List.mem_range.mpr (by omega))
        show (!(owner.getD (i + k) (some 0)).isNone) = true
        rw [Bool.not_eq_true] at this
        rw [this]
        rfl
      have n0 : n ≠ 0 := fun z => by
        subst z
        have q := nn 0 (Nat.zero_le _)
        have he' : occ owner i = false := he
        rw [Nat.add_zero, he'] at q
        cases q
      obtain ⟨m, rfl⟩ : ∃ m, n = m + 1 := ⟨n - 1, by omega⟩
      have hi' : (i * 5 + 1 + pert / 32) % (t.mask + 1) ≤ t.mask := mod_le _ _
      obtain ⟨j, K, a, b, c, d⟩ := free_ok fuel _ (pert / 32) hi' ⟨m, by omega, he⟩
      have rl := run_leap (t := t) (SetTable.runEnd t.mask i - i) (runAt t.mask i pert) (runAt_ok hi) rfl
      have rl' : advK t (SetTable.runEnd t.mask i - i + 1) (runAt t.mask i pert) = runAt t.mask ((i * 5 + 1 + pert / 32) % (t.mask + 1)) (pert / 32) := rl
      refine ⟨j, SetTable.runEnd t.mask i - i + 1 + K, a, by rw [advK_add, rl']; exact b, c, fun K' hK => ?_⟩
      by_cases hlt : K' ≤ SetTable.runEnd t.mask i - i
      · rw [run_on K' _ (by rw [em]; exact hlt)]
        exact nn K' hlt
      · obtain ⟨K2, rfl⟩ : ∃ K2, K' = SetTable.runEnd t.mask i - i + 1 + K2 := ⟨K' - (SetTable.runEnd t.mask i - i + 1), by omega⟩
        rw [advK_add, rl']
        exact d K2 (by omega)
structure Lay (t : SetTable) (hs : List Int) (owner : Array (Option Nat)) (pos : List Nat) : Prop where
  size : owner.size = t.mask + 1
  len : pos.length ≤ hs.length
  at_ : ∀ (k j : Nat), pos[k]? = some j → owner[j]? = some (some k)
  back : ∀ (j k : Nat), owner[j]? = some (some k) → pos[k]? = some j
  path : ∀ (k j : Nat) (h : Int), pos[k]? = some j → hs[k]? = some h → ∃ K, j = (advK t K (t.probeStart h)).j ∧ ∀ K', K' < K → occ owner (advK t K' (t.probeStart h)).j = true
theorem occ_at {owner : Array (Option Nat)} {j : Nat} (hj : j < owner.size) : occ owner j = true ↔ ∃ k, owner[j]? = some (some k) := by
  have e : owner.getD j (some 0) = owner[j] := by simp [Array.getD, hj]
  unfold occ
  rw [e, Array.getElem?_eq_getElem hj]
  cases owner[j] <;> simp
theorem Lay.free {t : SetTable} {hs : List Int} {owner : Array (Option Nat)} {pos : List Nat} (L : Lay t hs owner pos) (hn : pos.length ≤ t.mask) : ∃ r, r ≤ t.mask ∧ occ owner r = false := by
  apply Classical.byContradiction
  intro hx
  have := full_len (t.mask + 1) pos fun r hr => by
    have hr' : r < owner.size := by rw [L.size]; exact hr
    have ho : occ owner r = true := by
      cases z : occ owner r with
      | true => rfl
      | false => exact absurd ⟨r, Nat.lt_succ_iff.mp hr, z⟩ hx
    obtain ⟨k, hk⟩ := (occ_at hr').mp ho
    exact List.mem_of_getElem? (L.back r k hk)
  omega
theorem Lay.step {t : SetTable} {hs : List Int} {owner : Array (Option Nat)} {pos : List Nat} {h : Int} (hm : Msk t.mask) (L : Lay t hs owner pos) (hn : pos.length ≤ t.mask) (hh : hs[pos.length]? = some h) :
    ∃ j, SetTable.layClean.free t.mask owner (SetTable.turns t.mask) (SetTable.bits h % (t.mask + 1)) (SetTable.bits h) = some j ∧ Lay t hs (owner.setIfInBounds j (some pos.length)) (pos ++ [j]) := by
  obtain ⟨r, hr, hnr⟩ := L.free hn
  obtain ⟨n, hn', e⟩ := beg_reach hm (mod_le (SetTable.bits h) t.mask) (bits_lt h) hr
  obtain ⟨j, K, a, b, c, d⟩ := free_ok (t := t) (owner := owner) (SetTable.turns t.mask) (SetTable.bits h % (t.mask + 1)) (SetTable.bits h) (mod_le _ _) ⟨n, by unfold SetTable.turns; omega, by rw [e]; exact hnr⟩
  have jl : j ≤ t.mask := by rw [b]; exact (PrOk.advK (runAt_ok (mod_le _ _))).lt
  have js : j < owner.size := by rw [L.size]; omega
  have hlt : pos.length < hs.length := (List.getElem?_eq_some_iff.mp hh).1
  have nj : ∀ k, owner[j]? ≠ some (some k) := fun k z => by
    have := (occ_at js).mpr ⟨k, z⟩
    rw [c] at this
    cases this
  have get : ∀ i, (owner.setIfInBounds j (some pos.length))[i]? = if j = i then some (some pos.length) else owner[i]? := fun i => by
    rw [Array.getElem?_setIfInBounds]
    by_cases q : j = i
    · subst q; simp [js]
    · simp [q]
  have grow : ∀ i, occ owner i = true → occ (owner.setIfInBounds j (some pos.length)) i = true := fun i hi => by
    by_cases hs' : i < owner.size
    · obtain ⟨k, hk⟩ := (occ_at hs').mp hi
      refine (occ_at (by rw [Array.size_setIfInBounds]; exact hs')).mpr ⟨k, ?_⟩
      rw [get, if_neg (fun z : j = i => nj k (by rw [z]; exact hk))]
      exact hk
    · unfold occ at hi ⊢
      have e1 : (owner.setIfInBounds j (some pos.length)).getD i (some 0) = some 0 := by simp [Array.getD, hs']
      rw [e1]
      rfl
  refine ⟨j, a, by rw [Array.size_setIfInBounds]; exact L.size, by rw [List.length_append, List.length_singleton]; omega, fun k j' hk => ?_, fun j' k hk => ?_, fun k j' h' hk hh' => ?_⟩
  · rw [get]
    by_cases q : k < pos.length
    · rw [List.getElem?_append_left q] at hk
      have := L.at_ k j' hk
      rw [if_neg (fun z : j = j' => nj k (by rw [z]; exact this))]
      exact this
    · have ek : k = pos.length := by
        have := (List.getElem?_eq_some_iff.mp hk).1
        rw [List.length_append, List.length_singleton] at this
        omega
      subst ek
      rw [List.getElem?_append_right (Nat.le_refl _), Nat.sub_self] at hk
      rw [if_pos (Option.some.inj hk)]
  · rw [get] at hk
    by_cases q : j = j'
    · rw [if_pos q] at hk
      have ek : pos.length = k := Option.some.inj (Option.some.inj hk)
      rw [← ek, List.getElem?_append_right (Nat.le_refl _), Nat.sub_self, ← q]
      rfl
    · rw [if_neg q] at hk
      have := L.back j' k hk
      rw [List.getElem?_append_left (List.getElem?_eq_some_iff.mp this).1]
      exact this
  · by_cases q : k < pos.length
    · rw [List.getElem?_append_left q] at hk
      obtain ⟨K0, x, y⟩ := L.path k j' h' hk hh'
      exact ⟨K0, x, fun K' z => grow _ (y K' z)⟩
    · have ek : k = pos.length := by
        have := (List.getElem?_eq_some_iff.mp hk).1
        rw [List.length_append, List.length_singleton] at this
        omega
      subst ek
      rw [List.getElem?_append_right (Nat.le_refl _), Nat.sub_self] at hk
      have ej : j = j' := Option.some.inj hk
      have eh : h = h' := Option.some.inj (hh.symm.trans hh')
      subst ej eh
      exact ⟨K, b, fun K' z => grow _ (d K' z)⟩
/-! ### all of them laid -/
def layStep (m : Nat) (acc : Option (Array (Option Nat) × Nat)) (h : Int) : Option (Array (Option Nat) × Nat) := do
  let (owner, k) ← acc
  let j ← SetTable.layClean.free m owner (SetTable.turns m) (SetTable.bits h % (m + 1)) (SetTable.bits h)
  pure (owner.setIfInBounds j (some k), k + 1)
theorem lay_fold {t : SetTable} (hm : Msk t.mask) {hs : List Int} (hl : hs.length ≤ t.mask) : ∀ (rest : List Int) (owner : Array (Option Nat)) (pos : List Nat), Lay t hs owner pos → hs.drop pos.length = rest →
    ∃ owner' pos', rest.foldl (layStep t.mask) (some (owner, pos.length)) = some (owner', pos'.length) ∧ Lay t hs owner' pos' ∧ pos'.length = hs.length
  | [], owner, pos, L, e => by
    refine ⟨owner, pos, rfl, L, ?_⟩
    have := congrArg List.length e
    rw [List.length_drop, List.length_nil] at this
    have := L.len
    omega
  | h :: rest, owner, pos, L, e => by
    have hlt : pos.length < hs.length := by
      have := congrArg List.length e
      rw [List.length_drop, List.length_cons] at this
      omega
    have hd := List.drop_eq_getElem_cons hlt
    rw [e] at hd
    have e1 : hs[pos.length]? = some h := by rw [List.getElem?_eq_getElem hlt]; exact congrArg some (List.cons.inj hd).1.symm
    obtain ⟨j, a, L'⟩ := L.step hm (by omega) e1
    obtain ⟨o', p', b, c, d⟩ := lay_fold hm hl rest _ _ L' (by rw [List.length_append, List.length_singleton]; exact (List.cons.inj hd).2.symm)
    refine ⟨o', p', ?_, c, d⟩
    rw [List.foldl_cons]
    have : layStep t.mask (some (owner, pos.length)) h = some (owner.setIfInBounds j (some pos.length), pos.length + 1) := by
      unfold layStep
      show (SetTable.layClean.free t.mask owner _ _ _).bind _ = _
      rw [a]
      rfl
    rw [this]
    rw [List.length_append, List.length_singleton] at b
    exact b
theorem layClean_ok {t : SetTable} (hm : Msk t.mask) {hs : Array Int} (hl : hs.size ≤ t.mask) : ∃ owner pos, SetTable.layClean t.mask hs = some owner ∧ Lay t hs.toList owner pos ∧ pos.length = hs.size := by
  have L0 : Lay t hs.toList (Array.replicate (t.mask + 1) none) [] := by
    refine ⟨by simp, Nat.zero_le _, fun k j h => (by simp at h), fun j k h => ?_, fun k j h x => (by simp at x)⟩
    have := Array.mem_of_getElem? h
    simp at this
  obtain ⟨o, p, a, b, c⟩ := lay_fold hm (by simpa using hl) hs.toList _ _ L0 rfl
  refine ⟨o, p, ?_, b, by simpa using c⟩
  unfold SetTable.layClean
  have e : (hs.foldl (init := some (Array.replicate (t.mask + 1) (none : Option Nat), 0)) (layStep t.mask)) = some (o, p.length) := by
    rw [← Array.foldl_toList]
    exact a
  show (hs.foldl (layStep t.mask) (some (Array.replicate (t.mask + 1) none, 0))).map (·.1) = some o
  rw [e]
  rfl
end Z
set_option Elab.async false
set_option linter.all false
set_option maxRecDepth 100000
namespace Z
open PySem PySem.Spec PyProof.Rows
structure Laid (m : Nat) (hs : Array Int) (place order : Array Nat) : Prop where
  rise : Rise place
  le : ∀ x ∈ place.toList, x ≤ m
  size : place.size = hs.size
  osz : order.size = hs.size
  perm : order.toList.Perm (List.range hs.size)
  path : ∀ (t : SetTable) (q j k : Nat) (h : Int), t.mask = m → place[q]? = some j → order[q]? = some k → hs[k]? = some h → ∃ K, j = (advK t K (t.probeStart h)).j ∧ ∀ K', K' < K → (advK t K' (t.probeStart h)).j ∈ place.toList
theorem laid_ok {m : Nat} (hm : Msk m) {hs : Array Int} (hl : hs.size ≤ m) (f mv : Nat) (led pl : Bool) : ∃ place order, SetTable.laid m f mv led pl hs = some ({ mask := m, place := place, dummies := #[], finger := f, led := led, moves := mv, plain := pl }, order) ∧ Laid m hs place order := by
  let t0 : SetTable := { mask := m, place := #[], dummies := #[], finger := f, led := led, moves := mv, plain := pl }
  obtain ⟨owner, pos, a, L, pl'⟩ := layClean_ok (t := t0) hm hl
  have sz : owner.size = m + 1 := L.size
  generalize hlive : (List.range (m + 1)).filterMap (fun j => (owner.getD j none).map ((j, ·) : Nat → Nat × Nat)) = live
  have gd : ∀ j, j < m + 1 → owner.getD j none = owner[j]?.getD none := fun j hj => by simp
  have mem : ∀ j k, (j, k) ∈ live ↔ owner[j]? = some (some k) := fun j k => by
    rw [← hlive, List.mem_filterMap]
    constructor
    · rintro ⟨j', hj', e⟩
      rw [List.mem_range] at hj'
      cases z : owner.getD j' none with
      | none => rw [z] at e; cases e
      | some k' =>
        rw [z] at e
        have e' : (j', k') = (j, k) := Option.some.inj e
        cases e'
        have hs' : j < owner.size := by omega
        have : owner.getD j none = owner[j] := by simp [Array.getD, hs']
        rw [Array.getElem?_eq_getElem hs', ← this, z]
    · intro e
      have hs' : j < owner.size := (Array.getElem?_eq_some_iff.mp e).1
      refine ⟨j, List.mem_range.mpr (by omega), ?_⟩
      have : owner.getD j none = owner[j] := by simp [Array.getD, hs']
      rw [this]
      have : owner[j] = some k := (Array.getElem?_eq_some_iff.mp e).2
      rw [this]
      rfl
  have pw : live.Pairwise (fun x y => x.1 < y.1) := by
    rw [← hlive, List.pairwise_filterMap]
    refine List.Pairwise.imp ?_ List.pairwise_lt_range
    intro x y hxy b hb b' hb'
    cases z : owner.getD x none with
    | none => rw [z] at hb; cases hb
    | some k =>
      cases z' : owner.getD y none with
      | none => rw [z'] at hb'; cases hb'
      | some k' =>
        rw [z] at hb
        rw [z'] at hb'
        cases hb
        cases hb'
        exact hxy
  have nd : (live.map (·.2)).Nodup := by
    unfold List.Nodup
    rw [List.pairwise_map]
    refine List.Pairwise.imp_of_mem ?_ pw
    intro x y hx hy hlt he
    have e1 := L.back x.1 x.2 ((mem x.1 x.2).mp hx)
    have e2 := L.back y.1 y.2 ((mem y.1 y.2).mp hy)
    rw [he] at e1
    have : x.1 = y.1 := Option.some.inj (e1.symm.trans e2)
    omega
  have pm : (live.map (·.2)).Perm (List.range hs.size) := by
    rw [List.perm_ext_iff_of_nodup nd List.nodup_range]
    intro k
    rw [List.mem_range, List.mem_map]
    constructor
    · rintro ⟨x, hx, rfl⟩
      have := (List.getElem?_eq_some_iff.mp (L.back x.1 x.2 ((mem x.1 x.2).mp hx))).1
      omega
    · intro hk
      have hk' : k < pos.length := by omega
      exact ⟨(pos[k], k), (mem _ _).mpr (L.at_ k pos[k] (List.getElem?_eq_getElem hk')), rfl⟩
  have ln : live.length = hs.size := by
    have := pm.length_eq
    rwa [List.length_map, List.length_range] at this
  refine ⟨(live.map (·.1)).toArray, (live.map (·.2)).toArray, ?_, ?_⟩
  · unfold SetTable.laid
    have a' : SetTable.layClean m hs = some owner := a
    rw [a']
    show some _ = some _
    rw [← hlive]
  · refine ⟨by unfold Rise; rw [List.pairwise_map]; exact pw, fun x hx => ?_, by simpa using ln, by simpa using ln, pm, fun t q j k h ht hq ho hh => ?_⟩
    · have hx' : x ∈ live.map (·.1) := hx
      obtain ⟨y, hy, rfl⟩ := List.mem_map.mp hx'
      have := (Array.getElem?_eq_some_iff.mp ((mem y.1 y.2).mp hy)).1
      omega
    · have hq' : (live.map (·.1))[q]? = some j := by simpa using hq
      have ho' : (live.map (·.2))[q]? = some k := by simpa using ho
      rw [List.getElem?_map] at hq' ho'
      cases z : live[q]? with
      | none => rw [z] at hq'; cases hq'
      | some x =>
        rw [z] at hq' ho'
        cases hq'
        cases ho'
        have hx := List.mem_of_getElem? z
        have pk := L.back x.1 x.2 ((mem x.1 x.2).mp hx)
        obtain ⟨K, c, d⟩ := L.path x.2 x.1 h pk (by rw [Array.getElem?_toList]; exact hh)
        have mk : t.mask = t0.mask := ht
        refine ⟨K, by rw [start_mask mk, advK_mask mk]; exact c, fun K' hK => ?_⟩
        rw [start_mask mk, advK_mask mk]
        have oc := d K' hK
        have jl : (advK t0 K' (t0.probeStart h)).j < owner.size := by
          have := (PrOk.advK (t := t0) (k := K') (start_ok h)).lt
          have e0 : t0.mask = m := rfl
          omega
        obtain ⟨k2, hk2⟩ := (occ_at jl).mp oc
        show _ ∈ live.map (·.1)
        exact List.mem_map.mpr ⟨(_, k2), (mem _ k2).mpr hk2, rfl⟩
end Z
set_option Elab.async false
set_option linter.all false
set_option maxRecDepth 100000
namespace Z
open PySem PySem.Spec PyProof.Rows

/-! ### a small set of tuples of ints -/
section
variable {prog : Program} {w : World}
abbrev TK (prog : Program) (w : World) (h : Heap) (ks : List Int) (b : Addr) : Prop := IsTupleKey (intKind prog w) h ks b
abbrev tkH (prog : Program) (w : World) (ks : List Int) : Int := tupleKeyHash (intKind prog w) ks
/-- the entries: tuples with these keys; the table has eight slots and nothing was ever taken out; perhaps too full -/
structure PS0 (prog : Program) (w : World) (led : Bool) (h : Heap) (a : Addr) (o : Obj) (es : Array (Int × Value)) (ep : Nat) (t : SetTable) : Prop where
  get : h.get? a = some o
  ex : o.ExactSet
  dat : o.data = .set es ep t
  mask : Msk t.mask
  dum : t.dummies = #[]
  size : t.place.size = es.size
  plain : t.plain = true
  led : t.led = led
  few : es.size ≤ 20
  fit : es.size ≤ t.mask
  pl : Rise t.place
  ple : ∀ x ∈ t.place.toList, x ≤ t.mask
  el : ∀ e ∈ es.toList, ∃ ks b, e = (tkH prog w ks, Value.ref b) ∧ TK prog w h ks b
  on : ∀ (i : Nat) (e : Int × Value), es[i]? = some e → ∃ K, t.place[i]? = some (advK t K (t.probeStart e.1)).j ∧ ∀ K', K' < K → t.slot (advK t K' (t.probeStart e.1)).j ≠ .empty
  nd : ∃ kk : List (List Int), kk.length = es.size ∧ kk.Nodup ∧ ∀ (i : Nat) (k : List Int), kk[i]? = some k → ∃ b, es[i]? = some (tkH prog w k, Value.ref b) ∧ TK prog w h k b
structure PS (prog : Program) (w : World) (led : Bool) (h : Heap) (a : Addr) (o : Obj) (es : Array (Int × Value)) (ep : Nat) (t : SetTable) : Prop extends PS0 prog w led h a o es ep t where
  room : es.size * 5 < t.mask * 3
variable {led : Bool} {a : Addr} {o : Obj} {es : Array (Int × Value)} {ep : Nat} {t : SetTable} {A : Around} {E : Value → Shared → Prop} {s : Shared}
theorem PS0.fits (S : PS0 prog w led s.heap a o es ep t) : t.fits es.size = true := by
  unfold SetTable.fits SetTable.fill
  rw [S.size, S.dum]
  have := S.fit
  simp
  omega
theorem PS0.state {Q : (Array (Int × Value) × Nat × SetTable) → Shared → Prop} (S : PS0 prog w led s.heap a o es ep t) (h : Q (es, ep, t) s) : wpAny (model prog w) A (setState a) Q E s :=
  wpAny_setState_of S.get S.dat S.fits h
theorem ints_of {ks : List Int} {vs : List Value} (h : PySem.ItemsAre (intKind prog w) ks vs) : ∀ v ∈ vs, ∃ i tk, v = Value.int i tk := by
  induction h with
  | nil => intro v hv; cases hv
  | cons h1 _ ih =>
    intro v hv
    rcases List.mem_cons.mp hv with rfl | hv
    · obtain ⟨t, rfl⟩ := Value.isInt_shape h1
      exact ⟨_, t, rfl⟩
    · exact ih v hv
theorem oacs_tup {ks : List Int} {b : Addr} {Q : Bool → Shared → Prop} {n : Nat} (hk : TK prog w s.heap ks b) (h : Q false s) : wpAny (model prog w) A (ofAClassStatement (n + 1) (.ref b)) Q E s := by
  obtain ⟨ob, items, m, ho, hc, hd, hi⟩ := id hk
  unfold ofAClassStatement
  refine wpAny_bind (wpAny_typeOf hk.typeIs ?_)
  dsimp only
  rw [if_pos (by decide)]
  refine wpAny_bind (wpAny_pure ?_)
  simp only [Bool.not_true, Bool.false_eq_true, if_false]
  refine wpAny_bind (wpAny_seqItems ho hd ?_)
  dsimp only
  have loop : ∀ (l : List Value), (∀ v ∈ l, ∃ i tk, v = Value.int i tk) → wpAny (model prog w) A (forIn l ((none, ()) : Option Bool × Unit) fun y __s => do
            let __do_lift ← ofAClassStatement n y
            if __do_lift = true then pure (ForInStep.done (some true, ())) else pure (ForInStep.yield (none, ()))) (fun r s' => r = (none, ()) ∧ s' = s) E s := by
    intro l
    induction l with
    | nil => intro _; rw [List.forIn_nil]; exact wpAny_pure ⟨rfl, rfl⟩
    | cons v l ih =>
      intro hv
      rw [List.forIn_cons]
      obtain ⟨i, tk, rfl⟩ := hv v (.head _)
      have e : ofAClassStatement n (.int i tk) = pure false := by cases n <;> rfl
      rw [e]
      exact wpAny_bind (wpAny_pure (ih fun x hx => hv x (.tail _ hx)))
  rw [← Array.forIn_toList]
  refine wpAny_bind (wpAny_mono (loop items.toList (ints_of hi)) (fun r s' hr => ?_) fun _ _ x => x)
  obtain ⟨rfl, rfl⟩ := hr
  exact wpAny_pure h
theorem hbv_tup {ks : List Int} {b : Addr} {Q : Bool → Shared → Prop} {n : Nat} (hk : TK prog w s.heap ks b) (h : Q true s) : wpAny (model prog w) A (hashByValue (n + 1) (.ref b)) Q E s := by
  obtain ⟨ob, items, m, ho, hc, hd, hi⟩ := id hk
  unfold hashByValue
  refine wpAny_bind (wpAny_specialOf hk.typeIs PySem.F.slot_tuple_hash.lookup ?_)
  refine wpAny_bind (wpAny_seqItems ho hd ?_)
  have loop : ∀ (l : List Value), (∀ v ∈ l, ∃ i tk, v = Value.int i tk) → wpAny (model prog w) A (forIn l ((none, ()) : Option Bool × Unit) fun x __s => do
            let __do_lift ← hashByValue n x
            if (!__do_lift) = true then pure (ForInStep.done (some false, ())) else pure (ForInStep.yield (none, ()))) (fun r s' => r = (none, ()) ∧ s' = s) E s := by
    intro l
    induction l with
    | nil => intro _; rw [List.forIn_nil]; exact wpAny_pure ⟨rfl, rfl⟩
    | cons v l ih =>
      intro hv
      rw [List.forIn_cons]
      obtain ⟨i, tk, rfl⟩ := hv v (.head _)
      have e : hashByValue n (.int i tk) = pure true := by cases n <;> rfl
      rw [e]
      exact wpAny_bind (wpAny_pure (ih fun x hx => hv x (.tail _ hx)))
  rw [Option.getD_some, ← Array.forIn_toList]
  refine wpAny_bind (wpAny_mono (loop items.toList (ints_of hi)) (fun r s' hr => ?_) fun _ _ x => x)
  obtain ⟨rfl, rfl⟩ := hr
  exact wpAny_pure h
theorem seen_tup {ks : List Int} {b : Addr} {Q : Bool → Shared → Prop} (hk : TK prog w s.heap ks b) : ∀ (l : List Value), (∀ v ∈ l, ∃ ks' b', v = Value.ref b' ∧ TK prog w s.heap ks' b') → Q false s → wpAny (model prog w) A (searchCouldBeSeen (.ref b) l) Q E s := by
  intro l hl h
  unfold searchCouldBeSeen
  have loop : ∀ (l : List Value), (∀ v ∈ l, ∃ ks' b', v = Value.ref b' ∧ TK prog w s.heap ks' b') → ∀ body : Value → Option Bool × Unit → Sem (ForInStep (Option Bool × Unit)),
      (∀ ks' b' (R : ForInStep (Option Bool × Unit) → Shared → Prop), TK prog w s.heap ks' b' → R (.yield (none, ())) s → wpAny (model prog w) A (body (.ref b') (none, ())) R E s) →
      wpAny (model prog w) A (forIn l ((none, ()) : Option Bool × Unit) body) (fun r s' => r = (none, ()) ∧ s' = s) E s := by
    intro l
    induction l with
    | nil => intro _ body hb; rw [List.forIn_nil]; exact wpAny_pure ⟨rfl, rfl⟩
    | cons v l ih =>
      intro hv body hb
      rw [List.forIn_cons]
      obtain ⟨ks', b', rfl, hk'⟩ := hv v (.head _)
      exact wpAny_bind (hb ks' b' _ hk' (ih (fun x hx => hv x (.tail _ hx)) body hb))
  refine wpAny_bind (wpAny_mono (loop l hl _ fun ks' b' R hk' hR => ?_) (fun r s' hr => ?_) fun _ _ x => x)
  · dsimp only
    split
    · exact wpAny_pure hR
    · refine wpAny_bind (wpAny_eqIsQuiet_tuple hk ?_)
      simp only [Bool.not_true, Bool.false_eq_true, if_false]
      refine wpAny_bind (wpAny_eqIsQuiet_tuple hk' ?_)
      simp only [Bool.not_true, Bool.false_eq_true, if_false]
      refine wpAny_bind (oacs_tup hk ?_)
      simp only [Bool.false_eq_true, if_false]
      refine wpAny_bind (oacs_tup hk' ?_)
      simp only [Bool.false_eq_true, if_false]
      exact wpAny_pure hR
  · obtain ⟨rfl, rfl⟩ := hr
    exact wpAny_pure h
theorem slot_ix {t : SetTable} {j i : Nat} (h : t.slot j = .live i) (hp : t.place[i]? = some j) : i < t.place.size := (Array.getElem?_eq_some_iff.mp hp).1
/-- the entry at i has another key -/
def NoKey (prog : Program) (w : World) (h : Heap) (es : Array (Int × Value)) (ks : List Int) (i : Nat) : Prop := ∀ b, es[i]? = some (tkH prog w ks, Value.ref b) → ¬ TK prog w h ks b
/-- the search, when adding: an equal one is there, or a free slot is found -/
theorem search_ps (hu : A.units < cLine) (S : PS prog w led s.heap a o es ep t) {ks : List Int} {b : Addr} (hk : TK prog w s.heap ks b) {Q : SetFound → Shared → Prop}
    (h1 : (∃ b', (tkH prog w ks, Value.ref b') ∈ es.toList ∧ TK prog w s.heap ks b') → Q (.there none) s) (h2 : ∀ j m, t.slot j = .empty → j ≤ t.mask → j = (advK t m (t.probeStart (tkH prog w ks))).j → (∀ m', m' < m → ∃ i, t.slot (advK t m' (t.probeStart (tkH prog w ks))).j = .live i ∧ NoKey prog w s.heap es ks i) → Q (.free j false) s) :
    ∀ (K fuel : Nat) (stand : Option SetTable.Probe) (n0 : Nat), stand.getD (t.probeStart (tkH prog w ks)) = advK t n0 (t.probeStart (tkH prog w ks)) → (∀ m', m' < n0 → ∃ i, t.slot (advK t m' (t.probeStart (tkH prog w ks))).j = .live i ∧ NoKey prog w s.heap es ks i) → K < fuel → PrOk t (stand.getD (t.probeStart (tkH prog w ks))) → t.slot (advK t K (stand.getD (t.probeStart (tkH prog w ks)))).j = .empty → K ≤ 10 * (13 + t.mask) →
      wpAny (model prog w) A (setSearchFrom a (.ref b) (tkH prog w ks) true fuel stand) Q E s
  | K, 0, _, _, _, _, hf, _, _, _ => by omega
  | K, fuel + 1, stand, n0, hpos, hvis, hf, hp, he, h20 => by
    unfold setSearchFrom
    refine wpAny_bind (S.state ?_)
    dsimp only
    have hg : t.gaveWay = false := by unfold SetTable.gaveWay; rcases S.mask with z | z | z <;> rw [z] <;> rfl
    rw [hg]
    simp only [Bool.false_eq_true, if_false]
    generalize hpr : t.probe _ _ _ = met
    have hturn : 10 * SetTable.turns t.mask = 10 * (t.mask + 15) := rfl
    have vis : ∀ m : Nat, (∀ m', m' < m → ∃ i, t.slot (advK t m' (stand.getD (t.probeStart (tkH prog w ks)))).j = .live i ∧ (es[i]?.map (·.1)).getD 0 ≠ tkH prog w ks) → ∀ m', m' < n0 + m → ∃ i, t.slot (advK t m' (t.probeStart (tkH prog w ks))).j = .live i ∧ NoKey prog w s.heap es ks i := fun m hv m' hm' => by
      by_cases hlt : m' < n0
      · exact hvis m' hlt
      · obtain ⟨i, hi1, hi2⟩ := hv (m' - n0) (by omega)
        rw [hpos, ← advK_add, show n0 + (m' - n0) = m' by omega] at hi1
        exact ⟨i, hi1, fun b hb _ => hi2 (by rw [hb]; rfl)⟩
    rcases go_way S.dum (hashAt := _) (h := tkH prog w ks) K _ (10 * SetTable.turns t.mask) hp he (by rw [hturn]; omega) with ⟨j, m, e, hj, hj8, hjm, hv⟩ | ⟨j, i, next, K', m, e, hj, hi, hK, he', hp', hjm, hnx, hv⟩
    · cases hpr.symm.trans e
      exact wpAny_pure (h2 j (n0 + m) hj hj8 (by rw [hjm, hpos, ← advK_add]) (vis m hv))
    · cases hpr.symm.trans e
      dsimp only
      have hlt : i < es.size := by rw [← S.size]; exact slot_ix hj hi
      have hm : es[i] ∈ es.toList := by simp
      obtain ⟨ks', b', ee, hk'⟩ := S.el _ hm
      have hget : es[i]? = some (tkH prog w ks', Value.ref b') := by rw [Array.getElem?_eq_getElem hlt, ee]
      rw [ee] at hm
      have main : wpAny (model prog w) A (match es[i]? with
          | some (_, y) => do
            let equal ← holding [y] (eqBool y (Value.ref b))
            let __x ← setState a
            if (true && equal) = true then pure (SetFound.there none)
              else
                match __x.2.snd.sameMemory t.moves t.mask with
                | some same => do
                  let still ← match if same = true then __x.2.snd.slot j else SetTable.Slot.empty with
                    | SetTable.Slot.live i' =>
                      match __x.fst[i']? with
                      | some (_, y') => do
                        let __do_lift ← isSame y' y
                        pure (if __do_lift = true then some i' else none)
                      | none => pure none
                    | _ => pure none
                  match still with
                    | none => do
                      rule "set.search.anew"
                      setSearchFrom a (Value.ref b) (tkH prog w ks) true fuel none
                    | some i' =>
                      if equal = true then pure (SetFound.there (some i'))
                      else setSearchFrom a (Value.ref b) (tkH prog w ks) true fuel (some next)
                | _ => unsupported "set.changed-during-lookup:is-the-new-block-at-the-old-address"
          | _ => unsupported "internal:set-entry") Q E s := by
        rw [hget]
        dsimp only
        refine wpAny_bind (wpAny_holding (wpAny_eqBool_tuple hu hk' hk ?_))
        refine wpAny_bind (S.state ?_)
        by_cases hkk : ks' = ks
        · subst hkk
          rw [decide_eq_true rfl, if_pos (show (true && true) = true from rfl)]
          exact wpAny_pure (h1 ⟨b', hm, hk'⟩)
        · rw [decide_eq_false hkk, if_neg (show ¬ (true && false) = true by decide)]
          have hsm : t.sameMemory t.moves t.mask = some true := by unfold SetTable.sameMemory; rw [if_pos (beq_self_eq_true _)]
          dsimp only
          rw [hsm]
          dsimp only
          rw [if_pos rfl, hj]
          dsimp only
          rw [hget]
          dsimp only
          refine wpAny_bind (wpAny_isSame_ref_self ?_)
          rw [if_pos rfl]
          refine wpAny_bind (wpAny_pure ?_)
          dsimp only
          rw [if_neg (by decide)]
          refine search_ps hu S hk h1 h2 K' fuel (some next) (n0 + (m + 1)) (by rw [Option.getD_some, hnx, hpos, ← advK_add]) (fun m' hm' => ?_) (by omega) hp' he' (by omega)
          by_cases hlt : m' < n0 + m
          · exact vis m hv m' hlt
          · have em : m' = n0 + m := by omega
            subst em
            refine ⟨i, by rw [advK_add, ← hpos, ← hjm]; exact hj, fun b2 hb2 hk2 => ?_⟩
            rw [hget] at hb2
            have e2 : b' = b2 := by injection hb2 with z; injection z with _ z; injection z
            rw [← e2] at hk2
            exact hkk (IsTupleKey.inj hk' hk2)
      by_cases hl : t.led = true
      · rw [hl]
        simp only [Bool.not_true, Bool.false_eq_true, if_false]
        exact main
      · rw [Bool.not_eq_true] at hl
        rw [hl]
        simp only [Bool.not_false, if_true]
        refine wpAny_bind (seen_tup hk _ (fun v hv => ?_) ?_)
        · obtain ⟨x, hx, rfl⟩ := List.mem_map.mp hv
          have hx' : x ∈ es.toList := by
            have : x ∈ es ∧ x.fst = tkH prog w ks := by simpa using hx
            simpa using this.1
          obtain ⟨ks2, b2, rfl, hk2⟩ := S.el x hx'
          exact ⟨ks2, b2, rfl, hk2⟩
        · simp only [Bool.false_eq_true, if_false]
          exact main
theorem ins_toList {α : Type} (xs : Array α) (p : Nat) (x : α) : (SetTable.insertAt xs p x).toList = xs.toList.take p ++ x :: xs.toList.drop p := by
  unfold SetTable.insertAt
  simp [Array.toList_extract, List.take_of_length_le]
theorem ins_size {α : Type} (xs : Array α) (p : Nat) (x : α) : (SetTable.insertAt xs p x).size = xs.size + 1 := by
  rw [← Array.length_toList, ins_toList, List.length_append, List.length_cons, List.length_take, List.length_drop, Array.length_toList]
  omega
theorem ins_mem {α : Type} (xs : Array α) (p : Nat) (x e : α) : e ∈ (SetTable.insertAt xs p x).toList ↔ e ∈ xs.toList ∨ e = x := by
  rw [ins_toList, List.mem_append, List.mem_cons]
  have h := List.take_append_drop p xs.toList
  constructor
  · rintro (h1 | h1 | h1)
    · exact .inl (List.mem_of_mem_take h1)
    · exact .inr h1
    · exact .inl (List.mem_of_mem_drop h1)
  · rintro (h1 | h1)
    · rw [← h, List.mem_append] at h1
      exact h1.elim .inl fun z => .inr (.inr z)
    · exact .inr (.inl h1)
theorem TK.at {h h' : Heap} {a b : Addr} {ks : List Int} {o : Obj} {es : Array (Int × Value)} {ep : Nat} {t : SetTable} (x : TK prog w h ks b) (ho : h.get? a = some o) (hd : o.data = .set es ep t) (sb : Heap.SameBut a h h') : TK prog w h' ks b := by
  obtain ⟨o', items, n, ho', hc, hd', hi⟩ := x
  have hne : b ≠ a := by
    rintro rfl
    rw [ho] at ho'
    cases ho'
    rw [hd] at hd'
    cases hd'
  exact ⟨o', items, n, (sb.2 b hne).trans ho', hc, hd', hi⟩
theorem ins_get {α : Type} {xs : Array α} {p : Nat} (hp : p ≤ xs.size) (x : α) (i : Nat) : (SetTable.insertAt xs p x)[i]? = if i < p then xs[i]? else if i = p then some x else xs[i - 1]? := by
  rw [← Array.getElem?_toList, ins_toList, List.getElem?_append, List.length_take, Array.length_toList, Nat.min_eq_left hp]
  by_cases h1 : i < p
  · rw [if_pos h1, if_pos h1, List.getElem?_take, if_pos h1, Array.getElem?_toList]
  · rw [if_neg h1, if_neg h1]
    by_cases h2 : i = p
    · subst h2
      rw [if_pos rfl, Nat.sub_self]
      rfl
    · rw [if_neg h2, show i - p = (i - p - 1) + 1 by omega, List.getElem?_cons_succ, List.getElem?_drop, Array.getElem?_toList]
      congr 1
      omega
theorem advK_put (t : SetTable) (j : Nat) : ∀ (k : Nat) (p : SetTable.Probe), advK (t.put j).fst k p = advK t k p
  | 0, _ => rfl
  | k + 1, p => by
    show advK (t.put j).fst k ((t.put j).fst.advance p) = advK t k (t.advance p)
    rw [advK_put t j k]
    rfl
theorem perm_get {α : Type} {es : Array α} {order : Array Nat} (hp : order.toList.Perm (List.range es.size)) (hs : order.size = es.size) : (order.filterMap (es[·]?)).size = es.size ∧ (order.filterMap (es[·]?)).toList.Perm es.toList ∧ ∀ (q k : Nat), order[q]? = some k → (order.filterMap (es[·]?))[q]? = es[k]? := by
  have lt : ∀ k ∈ order.toList, k < es.size := fun k hk => List.mem_range.mp (hp.mem_iff.mp hk)
  have e1 : ∀ l : List Nat, (∀ k ∈ l, k < es.size) → (l.filterMap (es[·]?)).length = l.length ∧ ∀ (q k : Nat), l[q]? = some k → (l.filterMap (es[·]?))[q]? = es[k]? := fun l => by
    induction l with
    | nil => exact fun _ => ⟨rfl, fun q k h => by simp at h⟩
    | cons a l ih =>
      intro h
      obtain ⟨i1, i2⟩ := ih fun k hk => h k (.tail _ hk)
      have ha := h a (.head _)
      have ea : es[a]? = some es[a] := Array.getElem?_eq_getElem ha
      rw [List.filterMap_cons_some ea]
      refine ⟨by rw [List.length_cons, List.length_cons, i1], fun q k hq => ?_⟩
      cases q with
      | zero =>
        have : a = k := by simpa using hq
        subst this
        exact ea.symm
      | succ q => exact i2 q k (by simpa using hq)
  have er : (List.range es.size).filterMap (es[·]?) = es.toList := by
    apply List.ext_getElem?
    intro q
    by_cases hq : q < es.size
    · rw [(e1 (List.range es.size) fun k hk => List.mem_range.mp hk).2 q q (by simp [hq])]
      simp
    · rw [List.getElem?_eq_none (by rw [(e1 (List.range es.size) fun k hk => List.mem_range.mp hk).1, List.length_range]; omega), List.getElem?_eq_none (by simpa using hq)]
  obtain ⟨a, b⟩ := e1 order.toList lt
  have tl : (order.filterMap (es[·]?)).toList = order.toList.filterMap (es[·]?) := by simp
  refine ⟨?_, ?_, fun q k hq => ?_⟩
  · rw [← Array.length_toList, tl, a, Array.length_toList, hs]
  · rw [tl, ← er]
    exact hp.filterMap _
  · rw [← Array.getElem?_toList, tl]
    exact b q k (by rw [Array.getElem?_toList]; exact hq)
/-- the table is laid anew -/
theorem relay_ps (S : PS0 prog w led s.heap a o es ep t) (hf : t.tooFull = true) (hr : es.size * 5 < t.mask * 3 + 5) {Q : Unit → Shared → Prop}
    (h : ∀ (h' : Heap) (o' : Obj) (es' : Array (Int × Value)) (t' : SetTable), Heap.SameBut a s.heap h' → PS prog w led h' a o' es' (ep + 1) t' → es'.toList.Perm es.toList → Q () { s with heap := h' }) :
    wpAny (model prog w) A (setRelay a (SetTable.grown es.size)) Q E s := by
  have few := S.few
  have hfl : t.mask * 3 ≤ es.size * 5 := by
    unfold SetTable.tooFull SetTable.fill at hf
    rw [S.size, S.dum] at hf
    simpa using hf
  obtain ⟨m, em, hm, hfit, hroom⟩ : ∃ m, SetTable.sizeAbove (SetTable.grown es.size) = m + 1 ∧ Msk m ∧ es.size ≤ m ∧ es.size * 5 < m * 3 := by
    rcases S.mask with z | z | z
    · rw [z] at hfl hr
      have : es.size = 5 := by omega
      rw [this]
      exact ⟨31, by decide, .inr (.inl rfl), by decide, by decide⟩
    · rw [z] at hfl hr
      have : es.size = 19 := by omega
      rw [this]
      exact ⟨127, by decide, .inr (.inr rfl), by decide, by decide⟩
    · rw [z] at hfl
      omega
  have m127 : m ≤ 127 := by rcases hm with z | z | z <;> omega
  unfold setRelay
  refine wpAny_bind (S.state ?_)
  dsimp only
  rw [if_neg (by rw [em, sizeLine_eq]; omega)]
  obtain ⟨place, order, hl, L⟩ := laid_ok hm (hs := es.map (·.1)) (by simpa using hfit) t.finger (t.movedTo m) t.led t.plain
  have hrel : t.relaid (es.map (·.1)) (SetTable.grown es.size) = some ({ mask := m, place := place, dummies := #[], finger := t.finger, led := t.led, moves := t.movedTo m, plain := t.plain }, order) := by
    unfold SetTable.relaid
    rw [em]
    exact hl
  have osz : order.size = es.size := by rw [L.osz]; simp
  have opm : order.toList.Perm (List.range es.size) := by have := L.perm; simpa using this
  obtain ⟨g1, g2, g3⟩ := perm_get opm osz
  refine wpAny_bind ?_
  rw [hrel]
  generalize hes : order.filterMap (es[·]?) = es' at g1 g2 g3
  show wpAny (model prog w) A (do
    let es'' := order.filterMap (es[·]?)
    if es''.size != es.size then unsupported "internal:set-table-lost-an-element"
    pure (es'', ({ mask := m, place := place, dummies := #[], finger := t.finger, led := t.led, moves := t.movedTo m, plain := t.plain } : SetTable))) _ E s
  dsimp only
  rw [hes, if_neg (by rw [g1]; simp)]
  refine wpAny_pure ?_
  dsimp only
  generalize htt : ({ mask := m, place := place, dummies := #[], finger := t.finger, led := t.led, moves := t.movedTo m, plain := t.plain } : SetTable) = t'
  have tm : t'.mask = m := by rw [← htt]
  have tp : t'.place = place := by rw [← htt]
  have td : t'.dummies = #[] := by rw [← htt]
  have hsb := Heap.SameBut.update s.heap a (Obj.putSet es' t')
  refine wpAny_storeSet_of S.get S.dat (h _ { o with data := .set es' (ep + 1) t' } es' t' hsb ⟨⟨?_, S.ex, rfl, by rw [tm]; exact hm, td, by rw [tp, L.size, g1]; simp, by rw [← htt]; exact S.plain, by rw [← htt]; exact S.led, by rw [g1]; exact few, by rw [g1, tm]; exact hfit, by rw [tp]; exact L.rise, by rw [tp, tm]; exact L.le, fun e he => ?_, fun q e he => ?_, ?_⟩, by rw [g1, tm]; exact hroom⟩ g2) (by rw [g1, sizeLine_eq]; omega)
  · have := Heap.get?_update_self (Obj.putSet es' t') S.get (by rw [putSet_of _ _ S.dat]; rfl)
    rw [putSet_of _ _ S.dat] at this
    exact this
  · obtain ⟨ks', b', e1, hk'⟩ := S.el e (g2.mem_iff.mp he)
    exact ⟨ks', b', e1, TK.at hk' S.get S.dat hsb⟩
  · have hq : q < order.size := by
      have := (Array.getElem?_eq_some_iff.mp he).1
      omega
    have ho : order[q]? = some order[q] := Array.getElem?_eq_getElem hq
    have hp : q < place.size := by rw [L.size]; simp; omega
    have hpl : place[q]? = some place[q] := Array.getElem?_eq_getElem hp
    have he2 := g3 q _ ho
    rw [he] at he2
    have hh : (es.map (·.1))[order[q]]? = some e.1 := by rw [Array.getElem?_map, ← he2]; rfl
    obtain ⟨K, k1, k2⟩ := L.path t' q place[q] order[q] e.1 tm hpl ho hh
    refine ⟨K, by rw [tp, hpl, k1], fun K' hK => ?_⟩
    rw [slot_memR td (by rw [tp]; exact L.rise), tp]
    exact k2 K' hK
  · obtain ⟨kk, k1, k2, k3⟩ := S.nd
    have kl : kk.toArray.size = es.size := by simpa using k1
    obtain ⟨n1, n2, n3⟩ := perm_get (es := kk.toArray) (order := order) (by rw [kl]; exact opm) (by rw [kl]; exact osz)
    refine ⟨(order.filterMap (kk.toArray[·]?)).toList, by rw [Array.length_toList, n1, kl, g1], ?_, fun q k hk => ?_⟩
    · have : (order.filterMap (kk.toArray[·]?)).toList.Perm kk := by simpa using n2
      exact this.nodup_iff.mpr k2
    · rw [Array.getElem?_toList] at hk
      have hq : q < order.size := by
        have := (Array.getElem?_eq_some_iff.mp hk).1
        omega
      have ho : order[q]? = some order[q] := Array.getElem?_eq_getElem hq
      rw [n3 q _ ho] at hk
      obtain ⟨b', e1, e2⟩ := k3 order[q] k (by simpa using hk)
      exact ⟨b', by rw [g3 q _ ho, e1], TK.at e2 S.get S.dat hsb⟩
/-- adding: all that were there are there, this one too, no others -/
theorem add_ps (hu : A.units < cLine) (S : PS prog w led s.heap a o es ep t) (h3 : es.size < 20) {ks : List Int} {b : Addr} (hk : TK prog w s.heap ks b) {Q : Bool → Shared → Prop}
    (h1 : (∃ b', (tkH prog w ks, Value.ref b') ∈ es.toList ∧ TK prog w s.heap ks b') → Q false s)
    (h2 : ∀ (h' : Heap) (o' : Obj) (es' : Array (Int × Value)) (ep' : Nat) (t' : SetTable), Heap.SameBut a s.heap h' → PS prog w led h' a o' es' ep' t' → (∀ e, e ∈ es'.toList ↔ e ∈ es.toList ∨ e = (tkH prog w ks, Value.ref b)) → es'.size = es.size + 1 → Q true { s with heap := h' }) :
    wpAny (model prog w) A (setAddHashed a (.ref b) (tkH prog w ks)) Q E s := by
  unfold setAddHashed setAddHashedIn
  refine wpAny_holding (wpAny_bind (S.state ?_))
  dsimp only
  have hbs : byScan (.ref b) es = false := rfl
  rw [hbs]
  simp only [Bool.false_eq_true, if_false]
  have p1 := start_ok (t := t) (tkH prog w ks)
  obtain ⟨K, hK, he⟩ := reach S.mask S.dum (by rw [S.size]; exact S.fit) (tkH prog w ks)
  have m127 : t.mask ≤ 127 := by rcases S.mask with z | z | z <;> omega
  refine wpAny_bind ?_
  unfold setSearch
  refine search_ps hu S hk (fun hx => ?_) (fun j m hj hj8 hjm hvis => ?_) K 100000 none 0 rfl (fun m' h => absurd h (Nat.not_lt_zero _)) (by omega) p1 he hK
  · exact wpAny_pure (h1 hx)
  · dsimp only
    refine wpAny_bind (S.state ?_)
    have hpl : (t.put j).fst.plain = true := S.plain
    rw [if_pos hpl]
    refine wpAny_bind (hbv_tup hk ?_)
    rw [if_pos rfl]
    have hsz := S.size
    have hps : (t.put j).fst.place.size = es.size + 1 := by
      show (SetTable.insertAt t.place _ j).size = _
      rw [ins_size, hsz]
    have hdm : (t.put j).fst.dummies = #[] := by
      show (if SetTable.has t.dummies j then SetTable.eraseAt t.dummies (SetTable.below t.dummies j) else t.dummies) = #[]
      rw [S.dum]
      rfl
    have hmk : (t.put j).fst.mask = t.mask := rfl
    have rm := S.room
    have fl := S.fit
    have nin : j ∉ t.place.toList := fun z => by
      have := (slot_memR S.dum S.pl).mpr z
      exact this hj
    refine wpAny_bind (wpAny_storeSet_of S.get S.dat ?_ (by rw [ins_size, sizeLine_eq]; show es.size + 1 ≤ _; omega))
    have hpl' : Rise (t.put j).fst.place := insR S.pl nin
    have hple : ∀ x ∈ (t.put j).fst.place.toList, x ≤ (t.put j).fst.mask := fun x hx => by
      rcases (ins_mem _ _ _ _).mp hx with hx | rfl
      · exact S.ple x hx
      · exact hj8
    have hle : (t.put j).snd ≤ t.place.size := (bel S.pl j).le
    have hle2 : (t.put j).snd ≤ es.size := by rw [← hsz]; exact hle
    have gp : ∀ i, (t.put j).fst.place[i]? = if i < (t.put j).snd then t.place[i]? else if i = (t.put j).snd then some j else t.place[i - 1]? := ins_get hle j
    have ge : ∀ i, (SetTable.insertAt es (t.put j).snd (tkH prog w ks, Value.ref b))[i]? = if i < (t.put j).snd then es[i]? else if i = (t.put j).snd then some (tkH prog w ks, Value.ref b) else es[i - 1]? := ins_get hle2 _
    have full : ∀ r, t.slot r ≠ .empty → (t.put j).fst.slot r ≠ .empty := fun r hr => by
      rw [slot_memR hdm hpl']
      exact (ins_mem _ _ _ _).mpr (.inl ((slot_memR S.dum S.pl).mp hr))
    -- no other entry has the key
    have alone : ∀ i b', es[i]? = some (tkH prog w ks, Value.ref b') → ¬ TK prog w s.heap ks b' := fun i b' hi hk' => by
      obtain ⟨Ki, k1, k2⟩ := S.on i _ hi
      have sl := slot_ofR S.pl k1
      by_cases hlt : Ki < m
      · obtain ⟨i', v1, v2⟩ := hvis Ki hlt
        rw [sl] at v1
        cases v1
        exact v2 b' hi hk'
      · by_cases heq : Ki = m
        · subst heq
          rw [← hjm, hj] at sl
          cases sl
        · exact k2 m (by omega) (by rw [← hjm]; exact hj)
    have hsb := Heap.SameBut.update s.heap a (Obj.putSet (SetTable.insertAt es (t.put j).snd (tkH prog w ks, Value.ref b)) (t.put j).fst)
    have S1 : PS0 prog w led (s.heap.update a (Obj.putSet (SetTable.insertAt es (t.put j).snd (tkH prog w ks, Value.ref b)) (t.put j).fst)) a { o with data := .set (SetTable.insertAt es (t.put j).snd (tkH prog w ks, Value.ref b)) (ep + 1) (t.put j).fst } (SetTable.insertAt es (t.put j).snd (tkH prog w ks, Value.ref b)) (ep + 1) (t.put j).fst := by
      refine ⟨?_, ?_, rfl, S.mask, hdm, by rw [hps, ins_size], hpl, S.led, by rw [ins_size]; omega, by rw [ins_size, hmk]; rcases S.mask with z | z | z <;> omega, hpl', hple, fun e he => ?_, fun i e he => ?_, ?_⟩
      · have := Heap.get?_update_self (Obj.putSet (SetTable.insertAt es (t.put j).snd (tkH prog w ks, Value.ref b)) (t.put j).fst) S.get (by rw [putSet_of _ _ S.dat]; rfl)
        rw [putSet_of _ _ S.dat] at this
        exact this
      · exact S.ex
      · rcases (ins_mem _ _ _ _).mp he with he | rfl
        · obtain ⟨ks', b', e1, hk'⟩ := S.el e he
          exact ⟨ks', b', e1, TK.at hk' S.get S.dat hsb⟩
        · exact ⟨ks, b, rfl, TK.at hk S.get S.dat hsb⟩
      · have old : ∀ i', es[i']? = some e → (t.put j).fst.place[i]? = t.place[i']? → ∃ K, (t.put j).fst.place[i]? = some (advK (t.put j).fst K ((t.put j).fst.probeStart e.1)).j ∧ ∀ K', K' < K → (t.put j).fst.slot (advK (t.put j).fst K' ((t.put j).fst.probeStart e.1)).j ≠ .empty := fun i' h1 h2 => by
          obtain ⟨K, k1, k2⟩ := S.on i' e h1
          refine ⟨K, by rw [h2, k1, advK_put]; rfl, fun K' hK' => ?_⟩
          rw [advK_put]
          exact full _ (k2 K' hK')
        rw [ge i] at he
        split at he
        · rename_i hlt
          exact old i he (by rw [gp i, if_pos hlt])
        · rename_i hlt
          split at he
          · rename_i heq
            cases he
            refine ⟨m, by rw [gp i, if_neg hlt, if_pos heq, advK_put, hjm]; rfl, fun K' hK' => ?_⟩
            rw [advK_put]
            obtain ⟨i', v1, _⟩ := hvis K' hK'
            exact full _ (by show t.slot (advK t K' (t.probeStart (tkH prog w ks))).j ≠ _; rw [v1]; intro z; cases z)
          · rename_i heq
            exact old (i - 1) he (by rw [gp i, if_neg hlt, if_neg heq])
      · obtain ⟨kk, k1, k2, k3⟩ := S.nd
        have hni : ks ∉ kk := fun hm' => by
          obtain ⟨i, hi, e1⟩ := List.getElem_of_mem hm'
          obtain ⟨b', e2, e3⟩ := k3 i ks (by rw [List.getElem?_eq_getElem hi, e1])
          exact alone i b' e2 e3
        have hlk : (t.put j).snd ≤ kk.length := by rw [k1]; exact hle2
        refine ⟨kk.take (t.put j).snd ++ ks :: kk.drop (t.put j).snd, ?_, ?_, fun i k hk' => ?_⟩
        · rw [List.length_append, List.length_cons, List.length_take, List.length_drop, ins_size]
          omega
        · have hp : (kk.take (t.put j).snd ++ ks :: kk.drop (t.put j).snd).Perm (ks :: kk) := by
            refine List.perm_middle.trans ?_
            rw [List.take_append_drop]
          exact hp.symm.nodup (List.nodup_cons.mpr ⟨hni, k2⟩)
        · rw [List.getElem?_append, List.length_take, Nat.min_eq_left hlk] at hk'
          have keep : ∀ (i' : Nat) (b' : Addr), es[i']? = some (tkH prog w k, Value.ref b') → TK prog w s.heap k b' → (SetTable.insertAt es (t.put j).snd (tkH prog w ks, Value.ref b))[i]? = es[i']? → ∃ b', (SetTable.insertAt es (t.put j).snd (tkH prog w ks, Value.ref b))[i]? = some (tkH prog w k, Value.ref b') ∧ TK prog w _ k b' := fun i' b' h1 h2 h3 => ⟨b', by rw [h3, h1], TK.at h2 S.get S.dat hsb⟩
          by_cases hlt : i < (t.put j).snd
          · rw [if_pos hlt, List.getElem?_take, if_pos hlt] at hk'
            obtain ⟨b', e1, e2⟩ := k3 i k hk'
            exact keep i b' e1 e2 (by rw [ge i, if_pos hlt])
          · rw [if_neg hlt] at hk'
            by_cases heq : i = (t.put j).snd
            · rw [heq, Nat.sub_self] at hk'
              have : ks = k := by simpa using hk'
              subst this
              exact ⟨b, by rw [ge i, if_neg hlt, if_pos heq], TK.at hk S.get S.dat hsb⟩
            · rw [show i - (t.put j).snd = (i - (t.put j).snd - 1) + 1 by omega, List.getElem?_cons_succ, List.getElem?_drop, show (t.put j).snd + (i - (t.put j).snd - 1) = i - 1 by omega] at hk'
              obtain ⟨b', e1, e2⟩ := k3 (i - 1) k hk'
              exact keep (i - 1) b' e1 e2 (by rw [ge i, if_neg hlt, if_neg heq])
    by_cases hfull : (t.put j).fst.tooFull = true
    · rw [hfull]
      simp only [Bool.not_false, Bool.and_true, if_true, ↓reduceIte]
      have ez : SetTable.grown (es.size + 1) = SetTable.grown (SetTable.insertAt es (t.put j).snd (tkH prog w ks, Value.ref b)).size := by rw [ins_size]
      rw [ez]
      refine wpAny_bind (relay_ps (s := { s with heap := s.heap.update a (Obj.putSet (SetTable.insertAt es (t.put j).snd (tkH prog w ks, Value.ref b)) (t.put j).fst) }) S1 hfull (by rw [ins_size, hmk]; omega) fun h' o' es' t' hsb2 S2 hp => ?_)
      refine wpAny_pure (h2 h' o' es' _ t' (hsb.trans hsb2) S2 (fun e => (hp.mem_iff).trans (ins_mem _ _ _ _)) ?_)
      have := hp.length_eq
      rw [Array.length_toList, Array.length_toList, ins_size] at this
      exact this
    · rw [Bool.not_eq_true] at hfull
      rw [hfull]
      simp only [Bool.and_false, Bool.false_eq_true, if_false]
      refine wpAny_pure (h2 _ _ _ _ _ hsb ⟨S1, ?_⟩ (fun e => ins_mem _ _ _ _) (ins_size _ _ _))
      unfold SetTable.tooFull SetTable.fill at hfull
      rw [hps, hdm] at hfull
      rw [ins_size]
      have : ¬ (t.put j).fst.mask * 3 ≤ (es.size + 1) * 5 := by simpa using hfull
      omega
end
end Z
set_option Elab.async false
set_option linter.all false
set_option maxRecDepth 100000
namespace Z
open PySem PySem.Spec PyProof.Rows

/-! ### set(..) of a list of at most four tuples of ints -/
abbrev byT (w : World) : Bool := w.params.followText "set-order"
section
variable {prog : Program} {w : World}
/-- the set behind i tuples: their keys, each by one of them -/
def SetI (prog : Program) (w : World) (h : Heap) (a : Addr) (val : Nat → List Int) (T : Nat → Addr) (i : Nat) : Prop :=
  ∃ o es ep t, PS prog w (!byT w) h a o es ep t ∧ es.size ≤ i ∧ (∀ e ∈ es.toList, ∃ j, j < i ∧ e = (tkH prog w (val j), Value.ref (T j))) ∧ ∀ j, j < i → ∃ j', j' < i ∧ (tkH prog w (val j'), Value.ref (T j')) ∈ es.toList ∧ val j' = val j
theorem TK.keep {h h' : Heap} {b : Addr} {ks : List Int} (x : TK prog w h ks b) (k : ∀ o, h.get? b = some o → h'.get? b = some o) : TK prog w h' ks b := by
  obtain ⟨o, items, n, ho, r⟩ := x
  exact ⟨o, items, n, k o ho, r⟩
theorem SetI.at {h h' : Heap} {a : Addr} {val : Nat → List Int} {T : Nat → Addr} {i : Nat} (x : SetI prog w h a val T i) (hk : ∀ o, h.get? a = some o → h'.get? a = some o) (ht : ∀ j, j < i → ∀ o, h.get? (T j) = some o → h'.get? (T j) = some o) : SetI prog w h' a val T i := by
  obtain ⟨o, es, ep, t, S, h1, h2, h3⟩ := x
  have mv : ∀ ks b v, (v, Value.ref b) ∈ es.toList → TK prog w h ks b → TK prog w h' ks b := fun ks b v hm hk => by
    obtain ⟨j, hj, e⟩ := h2 _ hm
    have e2 : b = T j := by injection e with _ z; injection z
    subst e2
    exact hk.keep (ht j hj)
  refine ⟨o, es, ep, t, ⟨⟨hk o S.get, S.ex, S.dat, S.mask, S.dum, S.size, S.plain, S.led, S.few, S.fit, S.pl, S.ple, fun e he => ?_, S.on, ?_⟩, S.room⟩, h1, h2, h3⟩
  · obtain ⟨ks, b, rfl, hkk⟩ := S.el e he
    exact ⟨ks, b, rfl, mv ks b _ he hkk⟩
  · obtain ⟨kk, k1, k2, k3⟩ := S.nd
    refine ⟨kk, k1, k2, fun i k e => ?_⟩
    obtain ⟨b, e1, e2⟩ := k3 i k e
    exact ⟨b, e1, mv k b _ (by simpa using Array.mem_of_getElem? e1) e2⟩
variable {A : Around} {R : Result → Shared → Prop} {I : Addr} {fp wr : List Addr} {G : Array GenState → Array GenState → Prop} {n : Nat} {P : Nat → Value → Prop} {St : Nat → Shared → Prop}
theorem set_loopT (W : WalksS prog w A.in1 I fp wr G n P St) (hu : A.units + 8 < cLine) (S : Addr) (hSf : S ∉ fp) (val : Nat → List Int) (T : Nat → Addr) (hval : ∀ i v, P i v → v = Value.ref (T i)) (hT : ∀ i, i < n → T i ∉ wr ∧ T i ≠ S) (hn : n ≤ 20) :
    ∀ (k i : Nat) (s : Shared), n - i = k → i ≤ n → St i s → SetI prog w s.heap S val T i → (∀ j, j < n → TK prog w s.heap (val j) (T j)) →
      (∀ s', Moved (S :: wr) G s s' → SetI prog w s'.heap S val T n → R (.ok (.ret .none)) s') →
      codeAny (model prog w) A (.builtin "set.update.loop" ⟨[.ref S, .ref I], []⟩) R s := by
  have hSw : S ∉ wr := fun h => hSf (W.sub _ h)
  have hsub : ∀ b ∈ wr, b ∈ S :: wr := fun b hb => List.mem_cons_of_mem _ hb
  intro k
  induction k with
  | zero =>
    intro i s hk hi hst hS hTK hR
    have hin : i = n := by omega
    subst hin
    refine codeAny_builtin PyProof.Rows.F.entry_set_update_loop ?_
    rw [Around.under_plainId PyProof.Rows.F.plain_set_update_loop _]
    show wpAny _ A.in1 (pyNext (.ref I) >>= _) _ _ s
    refine wpAny_bind (W.done s _ _ hst fun s' hm => ?_)
    show wpAny _ A.in1 (ret Value.none) _ _ s'
    exact wpAny_pure (hR s' (hm.mono hsub) (hS.at (fun o e => hm.heap S o hSw e) fun j hj o e => hm.heap _ o (hT j hj).1 e))
  | succ k ih =>
    intro i s hk hi hst hS hTK hR
    have hlt : i < n := by omega
    refine codeAny_builtin PyProof.Rows.F.entry_set_update_loop ?_
    rw [Around.under_plainId PyProof.Rows.F.plain_set_update_loop _]
    show wpAny _ A.in1 (pyNext (.ref I) >>= _) _ _ s
    refine wpAny_bind (W.item i s _ _ hlt hst fun v s' hP hst' hm => ?_)
    have hv := hval i v hP
    subst hv
    have hTK' : ∀ j, j < n → TK prog w s'.heap (val j) (T j) := fun j hj => (hTK j hj).keep fun o e => hm.heap _ o (hT j hj).1 e
    have hS' : SetI prog w s'.heap S val T i := hS.at (fun o e => hm.heap S o hSw e) fun j hj o e => hm.heap _ o (hT j (by omega)).1 e
    show wpAny _ A.in1 (holding [Value.ref (T i)] (setAdd S (.ref (T i))) >>= _) _ _ s'
    refine wpAny_bind (wpAny_holding ?_)
    unfold setAdd
    refine wpAny_holding ?_
    refine wpAny_bind (wpAny_pyHash_tuple (by show A.units + 1 < cLine; omega) (hTK' i hlt) ?_)
    obtain ⟨o, es, ep, t, PSx, q1, q2, q3⟩ := hS'
    have next : ∀ h' : Heap, Heap.SameBut S s'.heap h' → SetI prog w h' S val T (i + 1) → ∀ tk, s'.toks ≤ tk →
        codeAny (model prog w) A (.builtin "set.update.loop" ⟨[.ref S, .ref I], []⟩) R { s' with heap := h', toks := tk } := fun h' hsb hSi tk htk => by
      refine ih (i + 1) _ (by omega) hlt (W.frame _ s' _ _ hst' htk fun b hb o e => ?_) hSi (fun j hj => (hTK' j hj).keep fun o e => by rw [hsb.2 _ (hT j hj).2]; exact e) fun s'' hm'' hS'' => ?_
      · rw [hsb.2 b (fun h : b = S => hSf (by rw [← h]; exact hb))]; exact e
      · refine hR s'' (Moved.trans W.gtrans ((hm.mono hsub).then_heap htk fun b o hb e => ?_) hm'') hS''
        rw [hsb.2 b (fun h : b = S => hb (by rw [h]; exact List.mem_cons_self))]; exact e
    refine add_ps (s := { s' with toks := s'.toks + ((val i).length + 1) }) (by show A.units + 1 < cLine; omega) PSx (by omega) (hTK' i hlt) (fun hx => ?_) fun h' o' es' ep' t' hsb PSy hm2 hsz => ?_
    · refine wpAny_pure ⟨plainId_quiet PyProof.Rows.F.plain_set_update_loop _, next s'.heap (Heap.SameBut.refl S s'.heap) ⟨o, es, ep, t, PSx, by omega, fun e he => ?_, fun j hj => ?_⟩ _ (Nat.le_add_right _ _)⟩
      · obtain ⟨j, hj, e1⟩ := q2 e he
        exact ⟨j, by omega, e1⟩
      · by_cases hji : j = i
        · subst hji
          obtain ⟨b', hb', hk'⟩ := hx
          obtain ⟨j', hj', e1⟩ := q2 _ hb'
          have e2 : b' = T j' := by injection e1 with _ e3; injection e3
          rw [e2] at hk' hb'
          have e4 : val j' = val j := IsTupleKey.inj (hTK' j' (by omega)) hk'
          refine ⟨j', by omega, ?_, e4⟩
          rw [e4]
          exact hb'
        · obtain ⟨j', hj', e1, e2⟩ := q3 j (by omega)
          exact ⟨j', by omega, e1, e2⟩
    · refine wpAny_pure ⟨plainId_quiet PyProof.Rows.F.plain_set_update_loop _, next h' hsb ⟨o', es', ep', t', PSy, by omega, fun e he => ?_, fun j hj => ?_⟩ _ (Nat.le_add_right _ _)⟩
      · rcases (hm2 e).mp he with he | he
        · obtain ⟨j, hj, e1⟩ := q2 e he
          exact ⟨j, by omega, e1⟩
        · exact ⟨i, by omega, he⟩
      · by_cases hji : j = i
        · subst hji
          exact ⟨j, by omega, (hm2 _).mpr (.inr rfl), rfl⟩
        · obtain ⟨j', hj', e1, e2⟩ := q3 j (by omega)
          exact ⟨j', by omega, (hm2 _).mpr (.inl e1), e2⟩
end
end Z
set_option Elab.async false
set_option linter.all false
set_option maxRecDepth 100000
namespace Z
open PySem PySem.Spec PyProof.Rows
section
variable {prog : Program} {w : World} {A : Around} {E : Value → Shared → Prop} {s : Shared}
theorem set_new_led (a : Value) {Q₁ : Value → Shared → Prop} (h : Q₁ (.ref s.heap.objs.size) { s with heap := s.heap.push { cls := .type "set", dict := none, data := .set #[] 0 (.fresh 0 0 (!byT w)) } }) :
    codeAny (model prog w) A (.call (.builtin "set.__new__") ⟨[.type "set", a], []⟩) (wants Q₁ E) s := by
  refine codeAny_of_tree ?_
  show wpAny _ A.in1 (do checkBuiltinCall "set.__new__" ⟨[.type "set", a], []⟩; again (.builtin "set.__new__" ⟨[.type "set", a], []⟩)) _ _ s
  refine wpAny_bind (wpAny_of_eq (PySem.F.newCall_set_1 a) (wpAny_pure ⟨plainId_quiet PySem.F.plain_set_new _, codeAny_builtin PySem.F.entry_set_new ?_⟩))
  rw [Around.under_plainId PySem.F.plain_set_new _]
  unfold Builtin.«set.__new__» Builtin.Frozenset.newClass
  have hsub := PySem.sub_set_self
  obtain ⟨hp, g, d, tk, os⟩ := s
  dsimp only
  wp_walk
  refine wpAny_askSetting (wpAny_pure ?_)
  dsimp only
  simp only [newObj]
  refine wpAny_bind (wpAny_alloc (wpAny_pure ?_))
  exact wpAny_pure h
set_option maxHeartbeats 3200000 in
theorem set_tups {l : Addr} {items : Array Value} {n : Nat} {val : Nat → List Int} {T : Nat → Addr} {Q : Value → Shared → Prop} (hh : A.handled = none) (hu : A.units + 16 < cLine) (hl : s.heap.IsList l items) (hn : items.size = n) (h4 : n ≤ 20)
    (hi : ∀ i, i < n → items[i]? = some (.ref (T i))) (hTK : ∀ i, i < n → TK prog w s.heap (val i) (T i))
    (h : ∀ (h' : Heap) (tk : Nat), SetI prog w h' s.heap.objs.size val T n → (∀ b o, b < s.heap.objs.size → s.heap.get? b = some o → h'.get? b = some o) → Q (.ref s.heap.objs.size) { s with heap := h', toks := tk }) :
    wpAny (model prog w) A (call (.type "set") [.ref l]) Q E s := by
  obtain ⟨c, tl, hmro⟩ := PySem.F.called_set.mro
  have hmade := PySem.F.called_set.made
  have hsub := PySem.F.called_set.sub
  refine wpAny_call (codeAny_of_tree ?_)
  show wpAny _ _ (callAny (.type "set") _) _ _ _
  refine wpAny_pure ⟨Code.quiet_builtin _ (by decide +kernel), codeAny_builtin PySem.F.entry_type_call ?_⟩
  rw [Around.under_plain (weight_type_call_type "set" [.ref l] []) rfl]
  have h1 := PySem.F.called_set.notType
  have h2 := PySem.F.called_set.canCreate
  have hct := PySem.F.typeCall_set_1 (.ref l)
  repeat (any_goals (first | assumption | wp_step))
  refine codeAny_mono (set_new_led (.ref l) (E := E) (Q₁ := fun obj s₁ => obj = .ref s.heap.objs.size ∧ s₁ = { s with heap := s.heap.push { cls := .type "set", dict := none, data := .set #[] 0 (.fresh 0 0 (!byT w)) } }) ⟨rfl, rfl⟩) fun r s₁ hr => ?_
  cases r with
  | error e => exact hr
  | ok fl =>
    cases fl with
    | ret obj =>
      obtain ⟨rfl, rfl⟩ := hr
      have hS : (s.heap.push { cls := .type "set", dict := none, data := .set #[] 0 (.fresh 0 0 (!byT w)) }).get? s.heap.objs.size = some { cls := .type "set", dict := none, data := .set #[] 0 (.fresh 0 0 (!byT w)) } := Heap.get?_push_size _ rfl
      have hT1 : Shared.TypeIs { s with heap := s.heap.push { cls := .type "set", dict := none, data := .set #[] 0 (.fresh 0 0 (!byT w)) } } (.ref s.heap.objs.size) "set" := ⟨_, hS, rfl⟩
      have hli := PySem.F.called_set.init.lookup
      have hbi := PySem.F.called_set.init.bind (.ref s.heap.objs.size)
      repeat (any_goals (first | assumption | wp_step))
      refine codeAny_mono (codeAny_call_builtin (R := wants (fun r s₂ => r = .none ∧ ∃ h' tk, s₂ = { s with heap := h', toks := tk } ∧ SetI prog w h' s.heap.objs.size val T n ∧
          (∀ b o, b < s.heap.objs.size → s.heap.get? b = some o → h'.get? b = some o)) E) PySem.F.called_set.init.plain PySem.F.entry_set_init (check_set_init_1 hT1 ?_)) fun r₂ s₂ hr₂ => ?_
      · obtain ⟨ol, hol, hcl, nl, hdl⟩ := hl
        obtain ⟨ocls, odict, odata, oslots⟩ := ol
        simp only at hcl hdl
        subst hcl; subst hdl
        have hol' : (s.heap.push { cls := .type "set", dict := none, data := .set #[] 0 (.fresh 0 0 (!byT w)) }).get? l = some { cls := .type "list", dict := odict, data := .seq items nl, slots := oslots } := Heap.get?_push_of_some _ hol
        have hsls := PySem.F.sub_list_set
        have hslf := PySem.F.sub_list_frozenset
        have hne : (Value.type "list" == Value.type "dict") = false := by decide
        have hl1 : (s.heap.push { cls := .type "set", dict := none, data := .set #[] 0 (.fresh 0 0 (!byT w)) }).IsList l items := ⟨_, hol', rfl, nl, rfl⟩
        unfold Builtin.«set.__init__» noKeywords Builtin.Frozenset.updateFrom
        generalize hPI : pyIter = PI
        wp_walk
        subst hPI
        refine wpAny_pyIter_list hl1 ?_
        refine wpAny_bind (wpAny_runValue ?_)
        have hlS : l < s.heap.objs.size := Heap.lt_size hol
        have hneI : l ≠ (s.heap.push { cls := .type "set", dict := none, data := .set #[] 0 (.fresh 0 0 (!byT w)) }).objs.size := by
          rw [Heap.size_push]; exact Nat.ne_of_lt (Nat.lt_succ_of_lt hlS)
        have hSf : s.heap.objs.size ∉ [(s.heap.push { cls := .type "set", dict := none, data := .set #[] 0 (.fresh 0 0 (!byT w)) }).objs.size, l] := by
          rw [Heap.size_push]; simp only [List.mem_cons, List.mem_singleton, List.not_mem_nil, or_false, not_or]
          exact ⟨Nat.ne_of_lt (Nat.lt_succ_self _), Nat.ne_of_gt hlS⟩
        have ltT : ∀ i, i < n → T i < s.heap.objs.size := fun i hi' => by obtain ⟨o, _, _, ho, _⟩ := hTK i hi'; exact Heap.lt_size ho
        refine set_loopT ((Walks.list (by simp [hh]) _ l hneI items).toS) (by simp only [Around.in1_units]; omega) s.heap.objs.size hSf val T (fun i v hv => ?_) (fun i hi' => ⟨?_, Nat.ne_of_lt (ltT i (by omega))⟩) (by omega) (items.size - 0) 0 _ (by omega) (Nat.zero_le _)
          ⟨⟨_, Heap.get?_push_size _ rfl, rfl, rfl⟩, (hl1.push _)⟩ ⟨_, #[], 0, .fresh 0 0 (!byT w), ⟨⟨Heap.get?_push_of_some _ hS, ⟨rfl, rfl, rfl⟩, rfl, .inl rfl, rfl, rfl, rfl, rfl, Nat.zero_le _, Nat.zero_le _, List.Pairwise.nil, (fun x hx => by cases hx), (fun e he => by simp at he), (fun i e he => by simp at he), ⟨[], rfl, List.nodup_nil, fun i k e => by simp at e⟩⟩, show 0 * 5 < 7 * 3 by decide⟩, Nat.le_refl _, fun e he => by simp at he, fun j hj => by omega⟩
          (fun j hj => (hTK j (by omega)).keep fun o e => Heap.get?_push_of_some _ (Heap.get?_push_of_some _ e)) ?hR
        · have hlt : i < n := by rw [← hn]; exact (Array.getElem?_eq_some_iff.mp hv).1
          have := hi i hlt
          rw [hv] at this
          exact Option.some.inj this
        · intro z
          have := ltT i (by omega)
          simp only [List.mem_cons, List.not_mem_nil, or_false] at z
          rw [Heap.size_push] at z
          exact absurd z (Nat.ne_of_lt (Nat.lt_succ_of_lt this))
        case hR =>
          intro s' hm hS'
          obtain ⟨h', g', d', tk', os'⟩ := s'
          have eg : g' = s.gens := hm.gens
          have ed : d' = s.drawn := hm.drawn
          have eo : os' = s.os := hm.os
          subst eg; subst ed; subst eo
          show wpAny _ _ _ _ _ _
          refine wpAny_pure ?_
          show wpAny _ _ (ret Value.none) _ _ _
          refine wpAny_pure ⟨rfl, h', tk', rfl, by rw [← hn]; exact hS', fun b o hb e => ?_⟩
          have hb1 : b ≠ s.heap.objs.size := Nat.ne_of_lt hb
          have hb2 : b ≠ (s.heap.push { cls := .type "set", dict := none, data := .set #[] 0 (.fresh 0 0 (!byT w)) }).objs.size := by
            rw [Heap.size_push]; exact Nat.ne_of_lt (Nat.lt_succ_of_lt hb)
          exact hm.heap b o (by simp only [List.mem_cons, List.mem_singleton, List.not_mem_nil, or_false, not_or]; exact ⟨hb1, hb2⟩) (Heap.get?_push_of_some _ (Heap.get?_push_of_some _ e))
      · cases r₂ with
        | error e => exact hr₂
        | ok fl₂ =>
          cases fl₂ with
          | ret r =>
            obtain ⟨rfl, h', tk, rfl, hS', hk'⟩ := hr₂
            repeat (any_goals (first | assumption | wp_step))
            exact h _ _ hS' hk'
          | _ => exact hr₂.elim
    | _ => exact hr.elim
end
end Z
set_option Elab.async false
set_option linter.all false
set_option maxRecDepth 100000
namespace Z
open PySem PySem.Spec PyProof.Rows
namespace F
theorem entry_set_iter : entryFor table "set.__iter__" = some Builtin.«frozenset.__iter__» := entryFor_alias (id' := "frozenset.__iter__") (by kernel_rfl) rfl (by decide +kernel) (by kernel_rfl)
theorem args_set_iter_1 (a : Value) : argsOk "set.__iter__" ⟨[a], []⟩ := by unfold argsOk; kernel_rfl
theorem slot_seti_next : Slot "set_iterator" "__next__" "set_iterator.__next__" :=
  .of (owner := "set_iterator") (n := "__next__") (by rw [typeLookup_type, builtinLookup_eq_fast]; kernel_rfl) (by decide +kernel) (by decide +kernel) (by decide +kernel)
    (by first | exact .inl (by decide +kernel) | exact .inr (by decide +kernel)) (by rw [isSubtype_type]; kernel_rfl)
theorem entry_seti_next : entryFor table "set_iterator.__next__" = some Builtin.«set_iterator.__next__» := entryFor_of_tree (by kernel_rfl)
theorem args_seti_next_1 (a : Value) : argsOk "set_iterator.__next__" ⟨[a], []⟩ := by unfold argsOk; kernel_rfl
theorem slot_seti_iter : Slot "set_iterator" "__iter__" "set_iterator.__iter__" :=
  .of (owner := "set_iterator") (n := "__iter__") (by rw [typeLookup_type, builtinLookup_eq_fast]; kernel_rfl) (by decide +kernel) (by decide +kernel) (by decide +kernel)
    (by first | exact .inl (by decide +kernel) | exact .inr (by decide +kernel)) (by rw [isSubtype_type]; kernel_rfl)
theorem entry_seti_iter : entryFor table "set_iterator.__iter__" = some Builtin.«dict_keyiterator.__iter__» := entryFor_alias (id' := "dict_keyiterator.__iter__") (by kernel_rfl) rfl (by decide +kernel) (by kernel_rfl)
theorem args_seti_iter_1 (a : Value) : argsOk "set_iterator.__iter__" ⟨[a], []⟩ := by unfold argsOk; kernel_rfl
theorem set_len : typeLookup (.type "set") "__len__" = pure (some (.builtin "set.__len__")) := by rw [typeLookup_type, builtinLookup_eq_fast]; kernel_rfl
end F
end Z
set_option Elab.async false
set_option linter.all false
set_option maxRecDepth 100000
namespace Z
open PySem PySem.Spec PyProof.Rows

/-! ### a set of tuples is walked -/
theorem pick_go {α : Type} (next : Nat → Nat) : ∀ (fuel k : Nat) (left : List α) (out : Array α), left.length = fuel → (pickOrder.go next fuel k left out).toList.Perm (out.toList ++ left)
  | 0, k, left, out, h => by
    have : left = [] := List.length_eq_zero_iff.mp h
    subst this
    show out.toList.Perm _
    rw [List.append_nil]
  | fuel + 1, k, left, out, h => by
    have hpos : 0 < left.length := by omega
    have hlt : next k % left.length < left.length := Nat.mod_lt _ hpos
    have e : left[next k % left.length]? = some left[next k % left.length] := List.getElem?_eq_getElem hlt
    show (match left[next k % left.length]? with | some x => pickOrder.go next fuel (k + 1) (left.eraseIdx (next k % left.length)) (out.push x) | none => out).toList.Perm _
    rw [e]
    dsimp only
    refine (pick_go next fuel (k + 1) _ _ (by rw [List.length_eraseIdx_of_lt hlt]; omega)).trans ?_
    rw [Array.toList_push, List.append_assoc]
    refine List.Perm.append_left _ ?_
    generalize next k % left.length = j at hlt
    have : ∀ (l : List α) (j : Nat) (h : j < l.length), ([l[j]] ++ l.eraseIdx j).Perm l := by
      intro l
      induction l with
      | nil => intro j h; simp at h
      | cons a l ih =>
        intro j h
        cases j with
        | zero => exact List.Perm.refl _
        | succ j =>
          have h' : j < l.length := by simpa using h
          refine List.Perm.trans (List.Perm.swap _ _ _) ?_
          exact List.Perm.cons a (ih j h')
    exact this left j hlt
theorem pick_perm {α : Type} (next : Nat → Nat) (xs : Array α) : (pickOrder next xs).toList.Perm xs.toList := by
  unfold pickOrder
  refine (pick_go next xs.size 0 xs.toList #[] (by simp)).trans ?_
  simp
section
variable {prog : Program} {w : World}
/-- the order of the walk -/
def ordOf (w : World) (a : Addr) (ep : Nat) (es : Array (Int × Value)) : Array (Int × Value) := if byT w then pickOrder (w.params.setOrder a ep) es else es
theorem ord_perm (w : World) (a : Addr) (ep : Nat) (es : Array (Int × Value)) : (ordOf w a ep es).toList.Perm es.toList := by
  unfold ordOf
  split
  · exact pick_perm _ _
  · exact List.Perm.refl _
theorem ord_size (w : World) (a : Addr) (ep : Nat) (es : Array (Int × Value)) : (ordOf w a ep es).size = es.size := by
  have := (ord_perm w a ep es).length_eq
  simpa using this
def slotAt (w : World) (t : SetTable) (i : Nat) : Nat := if byT w then 0 else if i = 0 then 0 else t.place.getD (i - 1) 0 + 1
def itObj (w : World) (a : Addr) (ep n : Nat) (t : SetTable) (i : Nat) : Obj := { cls := .type "set_iterator", data := .fields #[.int (slotAt w t i) 0, .int i 0, .ref a, .int n 0, .int ep 0] }
variable {a : Addr} {o : Obj} {es : Array (Int × Value)} {ep : Nat} {t : SetTable} {A : Around} {E : Value → Shared → Prop} {s : Shared}
/-- what of a set is seen when it is walked -/
structure PF (led : Bool) (o : Obj) (es : Array (Int × Value)) (ep : Nat) (t : SetTable) : Prop where
  ex : o.ExactSet
  dat : o.data = .set es ep t
  dum : t.dummies = #[]
  size : t.place.size = es.size
  plain : t.plain = true
  led : t.led = led
  few : es.size ≤ 20
  fit : es.size ≤ t.mask
  pl : Rise t.place
theorem PS.pf {led : Bool} {h : Heap} (S : PS prog w led h a o es ep t) : PF led o es ep t := ⟨S.ex, S.dat, S.dum, S.size, S.plain, S.led, S.few, S.fit, S.pl⟩
theorem PF.fits {led : Bool} (S : PF led o es ep t) : t.fits es.size = true := by
  unfold SetTable.fits SetTable.fill
  rw [S.size, S.dum]
  have := S.fit
  simp
  omega
theorem PF.state {led : Bool} {Q : (Array (Int × Value) × Nat × SetTable) → Shared → Prop} (S : PF led o es ep t) (hg : s.heap.get? a = some o) (h : Q (es, ep, t) s) : wpAny (model prog w) A (setState a) Q E s :=
  wpAny_setState_of hg S.dat S.fits h
theorem next_ps {Q : Option (Value × Nat) → Shared → Prop} {i : Nat} (S : PF (!byT w) o es ep t) (hg : s.heap.get? a = some o) (hi : i ≤ es.size)
    (h : Q (((ordOf w a ep es)[i]?).map fun e => (e.2, slotAt w t (i + 1))) s) : wpAny (model prog w) A (setNext a (slotAt w t i) i ep) Q E s := by
  unfold setNext
  refine wpAny_bind (S.state hg ?_)
  unfold setsByText
  refine wpAny_bind (wpAny_bind (wpAny_askSetting (wpAny_pure ?_)))
  have hfx : ({ program := (model prog w).prog, params := (model prog w).w.params } : Setting).params.followText "set-order" = byT w := rfl
  rw [hfx]
  by_cases hb : byT w = true
  · rw [if_pos hb]
    dsimp only
    rw [if_neg (by simp)]
    unfold setWalk setsByText
    refine wpAny_bind (wpAny_bind (S.state hg ?_))
    refine wpAny_bind (wpAny_bind (wpAny_askSetting (wpAny_pure ?_)))
    rw [hfx, if_pos hb]
    refine wpAny_bind (wpAny_askSetting (wpAny_pure (wpAny_pure ?_)))
    have e1 : slotAt w t (i + 1) = 0 := by unfold slotAt; rw [if_pos hb]
    have e2 : slotAt w t i = 0 := by unfold slotAt; rw [if_pos hb]
    rw [e1] at h
    rw [e2]
    unfold ordOf at h
    rw [if_pos hb] at h
    exact h
  · rw [if_neg hb]
    dsimp only
    split
    · rename_i hd
      have hd' : (!t.plain && decide (es.size > 1)) = true := hd
      rw [S.plain] at hd'
      cases hd'
    · refine wpAny_bind ?_
      show wpAny (model prog w) A (if (!t.led && !es.isEmpty) = true then unsupported "set:maker-not-led" else pure ()) _ _ _
      have hbf : byT w = false := by simpa using hb
      have hled : t.led = true := by rw [S.led, hbf]; rfl
      rw [hled, if_neg (by simp)]
      refine wpAny_pure (wpAny_pure ?_)
      have e0 : slotAt w t i = if i = 0 then 0 else t.place.getD (i - 1) 0 + 1 := by unfold slotAt; rw [if_neg hb]
      have hix : SetTable.below t.place (slotAt w t i) = i := by rw [e0]; exact nextR S.pl (by rw [S.size]; exact hi)
      rw [hix]
      unfold ordOf at h
      rw [if_neg hb] at h
      by_cases hlt : i < es.size
      · have h1 : es[i]? = some es[i] := Array.getElem?_eq_getElem hlt
        have hlt2 : i < t.place.size := by rw [S.size]; exact hlt
        have h2 : t.place[i]? = some t.place[i] := Array.getElem?_eq_getElem hlt2
        rw [h1] at h ⊢
        rw [h2]
        have e1 : slotAt w t (i + 1) = t.place[i] + 1 := by
          unfold slotAt
          rw [if_neg hb, if_neg (by omega), Nat.add_sub_cancel]
          congr 1
          simp [Array.getD, hlt2]
        rw [e1] at h
        exact h
      · have h1 : es[i]? = none := by simp; omega
        rw [h1] at h ⊢
        exact h
/-! the iterator -/
theorem itNext {Q : Option Value → Shared → Prop} {I : Addr} {i : Nat} (hh : A.handled = none) (S : PF (!byT w) o es ep t) (hg : s.heap.get? a = some o) (hI : s.heap.get? I = some (itObj w a ep es.size t i)) (hi : i ≤ es.size)
    (h1 : ∀ e h', (ordOf w a ep es)[i]? = some e → h'.get? I = some (itObj w a ep es.size t (i + 1)) → Heap.SameBut I s.heap h' → Q (some e.2) { s with heap := h' })
    (h2 : (ordOf w a ep es)[i]? = none → ∀ h', Heap.ExtBut I s.heap h' → Q none { s with heap := h' }) : wpAny (model prog w) A (pyNext (.ref I)) Q E s := by
  have hT : s.TypeIs (.ref I) "set_iterator" := ⟨_, hI, rfl⟩
  unfold pyNext
  refine wpAny_bind (wpAny_attempt (wpAny_callSpecial?_slot (name := Str.ofString "__next__") hT F.slot_seti_next (wpAny_call_entry F.slot_seti_next hT F.entry_seti_next ?_ (F.args_seti_next_1 _))))
  unfold Builtin.«set_iterator.__next__» slotArgs
  simp only [List.isEmpty_nil, Bool.not_true, Bool.false_eq_true, ↓reduceIte, bind_assoc, List.length_nil, bne_self_eq_false]
  refine wpAny_bind (wpAny_pure ?_)
  refine wpAny_bind (wpAny_fieldsOf hI rfl ?_)
  show wpAny (model prog w) _ (do
    let __do_lift_2 ← setEntries a
    if ((__do_lift_2.size : Int) != (es.size : Int)) = true then _ else _) _ _ s
  refine wpAny_bind (wpAny_setEntries_of hg S.dat S.fits ?_)
  rw [if_neg (by simp)]
  show wpAny (model prog w) _ (do
    let __do_lift_3 ← setNext a (slotAt w t i : Int).toNat (i : Int).toNat (ep : Int).toNat
    match __do_lift_3 with
      | some (x, next) => do
        setField (.ref I) 0 (rawInt (next : Int))
        setField (.ref I) 1 (rawInt ((i : Int) + 1))
        ret x
      | none => do
        setField (.ref I) 2 Value.none
        let __do_lift ← newExc (Value.type "StopIteration") []
        raiseNew __do_lift) _ _ s
  rw [Int.toNat_natCast, Int.toNat_natCast, Int.toNat_natCast]
  refine wpAny_bind (next_ps S hg hi ?_)
  cases e : (ordOf w a ep es)[i]? with
  | some x =>
    dsimp only [Option.map_some]
    refine wpAny_bind (wpAny_setField hI rfl (by show 0 < 5; decide) ?_)
    have hI2 : (s.heap.update I (Obj.mapFields (·.setIfInBounds 0 (rawInt (slotAt w t (i + 1) : Int))))).get? I = some { cls := .type "set_iterator", data := .fields #[.int (slotAt w t (i + 1)) 0, .int i 0, .ref a, .int es.size 0, .int ep 0] } := Heap.get?_update_self _ hI rfl
    refine wpAny_bind (wpAny_setField hI2 rfl (by show 1 < 5; decide) ?_)
    refine wpAny_pure ⟨_, rfl, wpAny_pure (h1 x _ e ?_ ((Heap.SameBut.update ..).trans (Heap.SameBut.update ..)))⟩
    exact Heap.get?_update_self _ hI2 rfl
  | none =>
    dsimp only [Option.map_none]
    refine wpAny_bind (wpAny_setField hI rfl (by show 2 < 5; decide) ?_)
    show wpAny _ _ (newExc (.type "StopIteration") [] >>= _) _ _ _
    refine wpAny_bind ?_
    simp only [newExc, newTuple]
    refine wpAny_bind (wpAny_newObj_type ?_ (by size_fits))
    refine wpAny_bind (m := firstArgMember _ _) (wpAny_of_eq (a := Value.none) (by first | rfl | (simp only [firstArgMember]; rfl)) ?_)
    refine wpAny_newObj_type ?_ (by size_fits)
    simp only [raiseNew]
    refine wpAny_bind (wpAny_handled ?_)
    rw [show A.in1.handled = none from hh]
    refine wpAny_bind (wpAny_pure (wpAny_throw ?_))
    refine wpAny_bind (wpAny_isInstance (T := "StopIteration") (b := true) ⟨_, Heap.get?_push_size _ rfl, rfl⟩ isSubtype_stop ?_)
    exact wpAny_pure (h2 e _ (((Heap.SameBut.update ..).extBut.push _).push _))
theorem walks_set (hh : A.handled = none) (S : PF (!byT w) o es ep t) {I : Addr} (hIa : I ≠ a) : Walks prog w A I [I, a] [I] es.size (fun i v => ∃ e, (ordOf w a ep es)[i]? = some e ∧ v = e.2) (fun i h => h.get? I = some (itObj w a ep es.size t i) ∧ h.get? a = some o ∧ i ≤ es.size) where
  sub := fun b hb => by rw [List.mem_singleton.mp hb]; exact List.mem_cons_self
  frame := fun i h h' ⟨x, y, z⟩ hk => ⟨hk I (by simp) _ x, hk a (by simp) _ y, z⟩
  item := fun i s Q E hi ⟨x, y, z⟩ hQ => itNext hh S y x z (fun e h' he hI' sb => hQ _ h' s.toks ⟨e, he, rfl⟩ ⟨hI', (sb.2 a hIa.symm).trans y, hi⟩ fun b ob hb q => (sb.2 b (by simpa using hb)).trans q) fun he => by
    have := ord_size w a ep es
    rw [Array.getElem?_eq_getElem (by omega)] at he
    cases he
  done := fun s Q E ⟨x, y, z⟩ hQ => itNext hh S y x z (fun e h' he _ _ => by
    have := ord_size w a ep es
    have := (Array.getElem?_eq_some_iff.mp he).1
    omega) fun _ h' eb => hQ h' s.toks fun b ob hb q => eb b ob (by simpa using hb) q
  self := fun i s Q E ⟨x, y, z⟩ hQ => by
    have hT : s.TypeIs (.ref I) "set_iterator" := ⟨_, x, rfl⟩
    refine wpAny_pyIter_slot hT F.slot_seti_iter (wpAny_call_entry F.slot_seti_iter hT F.entry_seti_iter ?_ (F.args_seti_iter_1 _))
    show wpAny _ _ (ret (.ref I)) _ _ s
    exact wpAny_pure ⟨_, rfl, "set_iterator", _, hT, F.slot_seti_next.lookup, hQ⟩
theorem iter_set {Q : Value → Shared → Prop} (S : PF (!byT w) o es ep t) (hg : s.heap.get? a = some o) (h : Q (.ref s.heap.objs.size) { s with heap := s.heap.push (itObj w a ep es.size t 0) }) : wpAny (model prog w) A (pyIter (.ref a)) Q E s := by
  have hT : s.TypeIs (.ref a) "set" := ⟨_, hg, S.ex.1⟩
  refine wpAny_pyIter_slot hT PySem.F.slot_set_iter (wpAny_call_entry PySem.F.slot_set_iter hT F.entry_set_iter ?_ (F.args_set_iter_1 _))
  unfold Builtin.«frozenset.__iter__» Builtin.Frozenset.slot0 slotArgs
  simp only [List.isEmpty_nil, Bool.not_true, Bool.false_eq_true, ↓reduceIte, bind_assoc, List.length_nil, bne_self_eq_false]
  unfold Builtin.Frozenset.addrOf Builtin.Frozenset.sizeOf
  refine wpAny_bind (wpAny_pure ?_)
  try dsimp only
  refine wpAny_bind (wpAny_pure ?_)
  refine wpAny_bind (wpAny_bind (wpAny_setEntries_of hg S.dat S.fits (wpAny_pure ?_)))
  unfold setDrawn setsByText
  refine wpAny_bind (wpAny_bind (S.state hg ?_))
  refine wpAny_bind (wpAny_bind (wpAny_askSetting (wpAny_pure (wpAny_pure ?_))))
  split
  · rename_i hd
    have hd' : ((!byT w) && (!t.plain && decide (es.size > 1))) = true := hd
    rw [S.plain] at hd'
    simp at hd'
  refine wpAny_bind (wpAny_pure ?_)
  unfold setEpoch
  refine wpAny_bind (wpAny_bind (S.state hg (wpAny_pure ?_)))
  have hs0 : slotAt w t 0 = 0 := by unfold slotAt; split <;> rfl
  refine wpAny_bind (wpAny_newObj_type (wpAny_pure ⟨_, rfl, "set_iterator", _, ⟨_, Heap.get?_push_size _ rfl, rfl⟩, F.slot_seti_next.lookup, ?_⟩))
  have e : (itObj w a ep es.size t 0) = { cls := .type "set_iterator", data := .fields #[.int ((0 : Nat) : Int) 0, .int ((0 : Nat) : Int) 0, .ref a, .int es.size 0, .int ep 0] } := by unfold itObj; rw [hs0]
  rw [e] at h
  exact h
/-! collect -/
theorem collect_set {Q : List Value → Shared → Prop} (hh : A.handled = none) (S : PF (!byT w) o es ep t) (hg : s.heap.get? a = some o)
    (hQ : ∀ h' tk (vs : List Value), s.heap.objs.size < h'.objs.size → (∀ b ob, s.heap.get? b = some ob → h'.get? b = some ob) → vs.Perm (es.toList.map (·.2)) → Q vs { s with heap := h', toks := tk }) : wpAny (model prog w) A (collect (.ref a)) Q E s := by
  have hlt : a < s.heap.objs.size := Heap.lt_size hg
  unfold collect
  refine wpAny_bind (wpAny_runValue (codeAny_builtin PySem.F.entry_proto_collect ?_))
  rw [Around.under_plainId PySem.F.plain_proto_collect _]
  show wpAny _ A.in1 (newList [] >>= fun l => again (.builtin "list.__iadd__" ⟨[l, .ref a], []⟩)) _ _ s
  refine wpAny_bind (wpAny_newObj_type ?_)
  refine wpAny_pure ⟨plainId_quiet PySem.F.plain_list_iadd _, codeAny_builtin PySem.F.entry_list_iadd ?_⟩
  rw [Around.under_plainId PySem.F.plain_list_iadd _]
  have hg1 : (s.heap.push { cls := .type "list", data := .seq ([] : List Value).toArray }).get? a = some o := Heap.get?_push_of_some _ hg
  have hS₁ : (s.heap.push { cls := .type "list", data := .seq ([] : List Value).toArray }).get? s.heap.objs.size = some { cls := .type "list", data := .seq ([] : List Value).toArray } := Heap.get?_push_size _ rfl
  have h1 : Builtin.List.listSameRef (.ref s.heap.objs.size) (.ref a) = false := by simp [Builtin.List.listSameRef, Nat.ne_of_gt hlt]
  have hT : Shared.TypeIs { s with heap := s.heap.push { cls := .type "list", data := .seq ([] : List Value).toArray } } (.ref a) "set" := ⟨_, hg1, S.ex.1⟩
  show wpAny _ A.in1 (Builtin.List.listExtendWith (.ref s.heap.objs.size) (.ref a) (.ref s.heap.objs.size)) _ _ _
  unfold Builtin.List.listExtendWith
  refine wpAny_bind (wpAny_typeOf hT ?_)
  rw [if_neg (by rw [h1]; decide)]
  refine wpAny_bind (iter_set (s := { s with heap := s.heap.push { cls := .type "list", data := .seq ([] : List Value).toArray } }) S hg1 ?_)
  refine wpAny_bind (wpAny_holding ?_)
  unfold Builtin.List.listLengthHint
  have hT2 : Shared.TypeIs { s with heap := (s.heap.push { cls := .type "list", data := .seq ([] : List Value).toArray }).push (itObj w a ep es.size t 0) } (.ref a) "set" := ⟨_, Heap.get?_push_of_some _ hg1, S.ex.1⟩
  refine wpAny_bind (wpAny_specialOf hT2 F.set_len ?_)
  generalize hid : ("set.__len__" : String) = id0
  dsimp only
  rw [show splitId id0 = some ("set", "__len__") from by subst hid; decide +kernel]
  subst hid
  dsimp only
  refine wpAny_bind (wpAny_isInstance (b := true) hT2 (by rw [isSubtype_type]; kernel_rfl) ?_)
  rw [if_neg (show ¬ (!true) = true by decide)]
  refine wpAny_ite_split (fun _ => ?_) fun hs => (hs (by decide +kernel)).elim
  refine wpAny_bind (wpAny_typeOf hT2 (wpAny_pure ?_))
  have szl : (s.heap.push { cls := .type "list", data := .seq ([] : List Value).toArray }).objs.size = s.heap.objs.size + 1 := Heap.size_push ..
  have hne : s.heap.objs.size ≠ (s.heap.push { cls := .type "list", data := .seq ([] : List Value).toArray }).objs.size := by rw [szl]; exact Nat.ne_of_lt (Nat.lt_succ_self _)
  have hIa : (s.heap.push { cls := .type "list", data := .seq ([] : List Value).toArray }).objs.size ≠ a := by rw [szl]; exact Nat.ne_of_gt (Nat.lt_succ_of_lt hlt)
  have hL2 : ((s.heap.push { cls := .type "list", data := .seq ([] : List Value).toArray }).push (itObj w a ep es.size t 0)).get? s.heap.objs.size = some { cls := .type "list", data := .seq ([] : List Value).toArray } := Heap.get?_push_of_some _ hS₁
  have hI2 : ((s.heap.push { cls := .type "list", data := .seq ([] : List Value).toArray }).push (itObj w a ep es.size t 0)).get? (s.heap.push { cls := .type "list", data := .seq ([] : List Value).toArray }).objs.size = some (itObj w a ep es.size t 0) := Heap.get?_push_size _ rfl
  have hk2 : ∀ b ob, s.heap.get? b = some ob → ((s.heap.push { cls := .type "list", data := .seq ([] : List Value).toArray }).push (itObj w a ep es.size t 0)).get? b = some ob := fun b ob e => Heap.get?_push_of_some _ (Heap.get?_push_of_some _ e)
  generalize hI0 : (s.heap.push { cls := .type "list", data := .seq ([] : List Value).toArray }).objs.size = I0 at hne hIa hI2 szl ⊢
  generalize hH0 : (s.heap.push { cls := .type "list", data := .seq ([] : List Value).toArray }).push (itObj w a ep es.size t 0) = H0 at hL2 hI2 hk2 ⊢
  have hg0 := hk2 a o hg
  have fin : ∀ (h' : Heap) (c : Nat), Heap.SameBut s.heap.objs.size H0 h' → h'.get? s.heap.objs.size = some { cls := .type "list", dict := none, data := .seq #[] c, slots := #[] } →
      codeAny (model prog w) A (.builtin "list.extend.loop" ⟨[.ref s.heap.objs.size, .ref I0, .ref s.heap.objs.size], []⟩) (fun r s' => match r with
              | Except.ok (Flow.ret v) =>
                wpAny (model prog w) A
                  (match v with
                  | Value.ref a => do
                    let __do_lift ← load a
                    match __do_lift.data with
                      | Data.seq xs epoch => pure xs.toList
                      | x => unsupported "internal:collect"
                  | x => unsupported "internal:collect")
                  Q E s'
              | Except.ok a => False
              | Except.error e => E e s') { s with heap := h' } := fun h' c sb hl => by
    refine codeAny_extend_loopS ((walks_set (A := A.in1) (by simpa using hh) S hIa).toS) (by have := S.few; rw [sizeLine_eq]; omega) s.heap.objs.size (by simp only [List.mem_cons, List.not_mem_nil, or_false, not_or]; exact ⟨hne, Nat.ne_of_gt hlt⟩) _ es.size 0 _ #[] c (by omega) (Nat.zero_le _)
      ⟨(sb.2 I0 hne.symm).trans hI2, (sb.2 a (Nat.ne_of_lt hlt)).trans hg0, Nat.zero_le _⟩ hl (ItemsOf.nil _) fun s' acc c' hm hS' hacc => ?_
    dsimp only
    refine wpAny_bind (wpAny_load hS' ?_)
    refine wpAny_pure ?_
    obtain ⟨h2, g', d', tk', os'⟩ := s'
    have eg : g' = s.gens := hm.gens
    have ed : d' = s.drawn := hm.drawn
    have eo : os' = s.os := hm.os
    subst eg; subst ed; subst eo
    refine hQ h2 tk' acc.toList (Heap.lt_size hS') (fun b ob e => ?_) ?_
    · have hb := Heap.lt_size e
      refine hm.heap b ob ?_ ((sb.2 b (Nat.ne_of_lt hb)).trans (hk2 b ob e))
      simp only [List.mem_cons, List.not_mem_nil, or_false, not_or]
      exact ⟨Nat.ne_of_lt hb, by rw [szl]; exact Nat.ne_of_lt (Nat.lt_succ_of_lt hb)⟩
    · have e : acc.toList = (ordOf w a ep es).toList.map (·.2) := by
        apply List.ext_getElem?
        intro i
        rw [List.getElem?_map]
        by_cases hi : i < es.size
        · have hi2 : i < acc.size := by rw [hacc.1]; exact hi
          have h1 : acc[i]? = some acc[i] := Array.getElem?_eq_getElem hi2
          obtain ⟨e, he, hv⟩ := hacc.2 i _ h1
          have h3 : acc.toList[i]? = some acc[i] := by rw [Array.getElem?_toList]; exact h1
          have h4 : (ordOf w a ep es).toList[i]? = some e := by simpa using he
          rw [h3, h4, hv]
          rfl
        · have h1 : acc.toList[i]? = none := List.getElem?_eq_none (by rw [Array.length_toList, hacc.1]; omega)
          have h2 : (ordOf w a ep es).toList[i]? = none := List.getElem?_eq_none (by rw [Array.length_toList, ord_size]; omega)
          rw [h1, h2]
          rfl
      rw [e]
      exact (ord_perm w a ep es).map _
  refine wpAny_ite_split (fun _ => ?_) fun _ => ?_
  · refine wpAny_bind (wpAny_rule ?_)
    unfold Builtin.List.listTouch
    refine wpAny_bind (wpAny_bind (listUpdate_at hL2 rfl ?_ (by show 0 ≤ _; omega) (by show 1 ≤ _; rw [sizeLine_eq]; omega)))
    have hL3 := get?_update_seq hL2 fun x => x.push Value.none
    refine listUpdate_at hL3 rfl ?_ (by show 1 ≤ _; rw [sizeLine_eq]; omega) (by show 0 ≤ _; omega)
    have hL4 := get?_update_seq hL3 fun x => x.pop
    exact wpAny_pure ⟨plainId_quiet PySem.F.plain_extend_loop _, fin _ _ ((Heap.SameBut.update ..).trans (Heap.SameBut.update ..)) hL4⟩
  · exact wpAny_pure ⟨plainId_quiet PySem.F.plain_extend_loop _, fin _ _ (Heap.SameBut.refl _ _) hL2⟩
end
end Z
set_option Elab.async false
set_option linter.all false
set_option maxRecDepth 100000
namespace Z
open PySem PySem.Spec PySem.W PyProof.Rows

/-! ### a sort of fewer than 64 items, whatever the comparisons say: the same items -/
def leaves {α : Type} (n : Nat) : KasT α → (α → Prop) → Prop
  | .ret a, P => P a
  | .ask i j k, P => i < n ∧ j < n ∧ ∀ b, leaves n (k b) P
def PR (n : Nat) (p : Array Nat) : Prop := p.toList.Perm (List.range n)
theorem PR.lt {n : Nat} {p : Array Nat} (hn : 0 < n) (h : PR n p) (i : Nat) : p.getD i 0 < n := by
  by_cases hi : i < p.size
  · have : p.getD i 0 = p[i] := by simp [Array.getD, hi]
    rw [this]
    exact List.mem_range.mp (h.mem_iff.mp (by simp))
  · have : p.getD i 0 = 0 := by simp [Array.getD, hi]
    rw [this]; exact hn
theorem PR.rev {n : Nat} {p : Array Nat} (h : PR n p) (i j : Nat) : PR n (kas_rev p i j) := List.Perm.trans (mirror_perm p i j _).toList h
theorem PR.bub {n : Nat} {p : Array Nat} (h : PR n p) (i j : Nat) : PR n (bubble p i j) := List.Perm.trans (bubble_perm p i j).toList h
section
variable {n : Nat} (hn : 0 < n)
include hn
end
/-! tuples of ints are compared -/
section
variable {prog : Program} {w : World} {A : Around} {E : Value → Shared → Prop} {s : Shared}
/-- each is a tuple of ints, not empty -/
def Tups (prog : Program) (w : World) (h : Heap) (vs : List Value) : Prop := ∀ v ∈ vs, ∃ ks b, v = Value.ref b ∧ TK prog w h ks b ∧ ks ≠ []
theorem Tups.keep {h h' : Heap} {vs : List Value} (x : Tups prog w h vs) (k : ∀ b ob, (∃ v ∈ vs, v = Value.ref b) → h.get? b = some ob → h'.get? b = some ob) : Tups prog w h' vs := fun v hv => by
  obtain ⟨ks, b, rfl, hk, hne⟩ := x v hv
  exact ⟨ks, b, rfl, hk.keep fun o e => k b o ⟨_, hv, rfl⟩ e, hne⟩
theorem Tups.kat {h : Heap} : ∀ {vs : List Value}, Tups prog w h vs → ∃ fs, KatTups h vs fs ∧ fs.length = vs.length ∧ ∀ v ∈ fs, ∃ i t, v = Value.int i t
  | [], _ => ⟨[], trivial, rfl, fun v hv => by cases hv⟩
  | v :: vs, x => by
    obtain ⟨ks, b, rfl, ⟨o, items, n, ho, hc, hd, hi⟩, hne⟩ := x v (.head _)
    obtain ⟨fs, h1, h2, h3⟩ := Tups.kat (vs := vs) fun u hu => x u (.tail _ hu)
    have hin := ints_of hi
    have hlen := hi.length
    obtain ⟨items⟩ := items
    cases items with
    | nil => exact absurd (List.length_eq_zero_iff.mp hlen) hne
    | cons f r =>
      refine ⟨f :: fs, ⟨⟨b, o, _, n, rfl, ho, hc, hd, rfl⟩, h1⟩, by simp [h2], fun u hu => ?_⟩
      rcases List.mem_cons.mp hu with rfl | hu
      · exact hin _ (.head _)
      · exact h3 u hu
end
end Z
set_option Elab.async false
set_option linter.all false
set_option maxRecDepth 100000
namespace Z
open PySem PySem.Spec PyProof.Rows L2

/-! ### a value of which something is known -/
def EvP (X : Cx) (ρ : Rho) (e : Expr) (P : D → Prop) : Prop := ∀ (M0 : MP) (H0 : Hp) (γ : List (D × V)) (α : Nat → Addr) (σ : St) (H : Hp) (Q : VK), Rep X.K M0 H0 γ α ρ σ H →
  (∀ d v H', P d → Same H H' → Dn X.K (MM M0 ρ α) H' d v → Q v H') → tE X e σ H Q
section
variable {X : Cx} {ρ : Rho} {M0 : MP} {H0 : Hp} {P : Post} {e a b : Expr} {d : D} {ds : List D} {pos pos' p p2 p3 p4 p5 : Pos}
theorem EvD.toP {R : D → Prop} (h : EvD X ρ e d) (q : R d) : EvP X ρ e R := fun M0 H0 γ α σ H Q r k => h M0 H0 γ α σ H Q r fun v H' s x => k d v H' q s x
theorem W1.setP {i : Nat} {x : Str} {R : D → Prop} (hN : X.N.Nodup) (hi : X.N[i]? = some x) (hx : Loc X.env.scope x) (hl : i < ρ.length) (h : EvP X ρ e R) (q : ∀ d, R d → P.N (ρ.set i (.im d)))
    (hs : swapsWith e (some (.Name x pos')) pos.line X.env = pure false := by rfl) (hf : X.fn x = true ∨ X.env.scope.names.lookup x = some .local := by first | exact .inl rfl | exact .inr rfl | assumption) : W1 X M0 H0 (.Assign [.Name x pos'] e pos) ρ P := fun γ α σ H r =>
  (ps_set hN hi hx peE hs hf).to (h M0 H0 γ α σ H _ r fun d v H' hd s x => ⟨α, _, (r.next s).set_im hl x, q d hd⟩)
/-! ### tuple(sorted(set(pairs))): the same pairs -/
def pairD (p : Int × Int) : D := .tup [.int p.1, .int p.2]
def pairV (p : Int × Int) : List V := [.int p.1, .int p.2]
def kOf (p : Int × Int) : List Int := [p.1, p.2]
/-- the set of the tuples at T 0, .., T (n - 1) -/
def pSetO (w : World) (l : Addr) (n : Nat) (val : Nat → Int × Int) (T : Nat → Addr) : HO := .ext fun h => ∃ o es ep t, h.get? l = some o ∧ PF (!byT w) o es ep t ∧ (∀ e ∈ es.toList, ∃ j, j < n ∧ e.2 = Value.ref (T j)) ∧
  ∀ j, j < n → ∃ j', j' < n ∧ (∃ e ∈ es.toList, e.2 = Value.ref (T j')) ∧ val j' = val j
theorem tk_of {pins : List (Addr × Obj)} {σ : St} {H : Hp} {s : Shared} (I : Inv X pins σ H s) {b : Addr} {p : Int × Int} (h : SqT X.K H b (pairV p)) : TK X.prog X.w s.heap (kOf p) b := by
  obtain ⟨its, r, ⟨o, ho, hc, n, hd⟩, _⟩ := I.tuple h
  refine ⟨o, its.toArray, n, ho, hc, hd, ?_⟩
  show PySem.ItemsAre (intKind X.prog X.w) [p.1, p.2] its
  cases r with
  | cons r1 r2 =>
    cases r2 with
    | cons r2 r3 =>
      cases r3
      obtain ⟨t1, rfl⟩ := r1
      obtain ⟨t2, rfl⟩ := r2
      exact .cons (intKind_is _ _ _ _) (.cons (intKind_is _ _ _ _) .nil)
theorem pairs_at {K : Frag} {M : MP} {H : Hp} : ∀ {ps : List (Int × Int)} {xs : List V}, Dns K M H (ps.map pairD) xs → ∃ T : Nat → Addr, ∀ (j : Nat) (p : Int × Int), ps[j]? = some p → xs[j]? = some (.ref (T j)) ∧ SqT K H (T j) (pairV p)
  | [], _, _ => ⟨fun _ => 0, fun j p h => by simp at h⟩
  | p :: ps, xs, ⟨v, r, e, ⟨a, ys, hv, sq, y1, r1, e1, h1, y2, r2, e2, h2, e3⟩, h⟩ => by
    obtain ⟨T, hT⟩ := pairs_at h
    refine ⟨fun j => match j with | 0 => a | j + 1 => T j, fun j q hq => ?_⟩
    subst e
    cases j with
    | zero =>
      have : p = q := by simpa using hq
      subst this
      have e4 : ys = pairV p := by
        rw [e1, e2, e3, show y1 = V.int p.1 from h1, show y2 = V.int p.2 from h2]
        rfl
      rw [e4] at sq
      exact ⟨by rw [hv]; rfl, sq⟩
    | succ j =>
      obtain ⟨q1, q2⟩ := hT j q (by simpa using hq)
      exact ⟨by simpa using q1, q2⟩
end
end Z
set_option Elab.async false
set_option linter.all false
set_option maxRecDepth 100000
namespace Z
open PySem PySem.Spec PyProof.Rows
section
variable {prog : Program} {w : World} {A : Around} {E : Value → Shared → Prop} {s : Shared}
theorem load_alive {M : Model} {a : Addr} {Q : Option Obj → Shared → Prop} (h : ∀ r, Q r s) : wpAny M A (loadIfAlive a) Q E s := fun _ _ _ => h _
theorem nextOf_tup {it t : Addr} {i : Nat} {items : Array Value} {x : Value} {Q : Value → Shared → Prop} (hit : s.heap.IsTupleIter it t i) (ht : s.heap.IsTuple t items) (hx : items[i]? = some x)
    (hQ : ∀ h', h'.IsTupleIter it t (i + 1) → Heap.SameBut it s.heap h' → Q x { s with heap := h' }) : wpAny (model prog w) A (Builtin.SmallTypes.nextOf (.ref it)) Q E s := by
  obtain ⟨o, ho, hc, hd⟩ := id hit
  obtain ⟨ol, hol, _, nl, hdl⟩ := ht
  have hT : s.TypeIs (.ref it) "tuple_iterator" := ⟨o, ho, hc⟩
  unfold Builtin.SmallTypes.nextOf
  refine wpAny_bind (wpAny_callSpecial?_slot (name := Str.ofString "__next__") hT PySem.F.slot_tuple_iterator_next (wpAny_call_entry PySem.F.slot_tuple_iterator_next hT PySem.F.entry_tuple_iterator_next ?_ (PySem.F.args_tuple_iterator_next_1 _)))
  show wpAny _ _ (field (.ref it) 0 >>= _) _ _ s
  refine wpAny_bind (wpAny_field ho hd (x := .ref t) rfl ?_)
  show wpAny _ _ (if (Value.ref t == Value.none) = true then _ else _) _ _ s
  rw [if_neg (show ¬ ((Value.ref t == Value.none) = true) from Bool.false_ne_true)]
  show wpAny _ _ (field (.ref it) 1 >>= _) _ _ s
  refine wpAny_bind (wpAny_field ho hd (x := .int i 0) rfl ?_)
  show wpAny _ _ (seqItems? (.ref t) >>= _) _ _ s
  refine wpAny_bind (wpAny_seqItems hol hdl ?_)
  simp only [Int.toNat_natCast, hx]
  refine wpAny_bind (wpAny_setField ho hd (by simp) (wpAny_pure ⟨x, rfl, wpAny_pure (hQ _ ?_ (Heap.SameBut.update ..))⟩))
  exact ⟨_, Heap.get?_update_self _ ho (Obj.isFreed_of_fields (Obj.data_mapFields hd _)), (Obj.cls_mapFields ..).trans hc, by rw [Obj.data_mapFields hd]; simp [rawInt]⟩
theorem nextOf_tup_end {it t : Addr} {i : Nat} {items : Array Value} {Q : Value → Shared → Prop} (hh : A.handled = none) (hit : s.heap.IsTupleIter it t i) (ht : s.heap.IsTuple t items) (hx : items[i]? = none)
    (hE : ∀ h' e, Heap.ExtBut it s.heap h' → (∃ o, h'.get? e = some o ∧ o.cls = .type "StopIteration") → E (.ref e) { s with heap := h' }) : wpAny (model prog w) A (Builtin.SmallTypes.nextOf (.ref it)) Q E s := by
  obtain ⟨o, ho, hc, hd⟩ := id hit
  obtain ⟨ol, hol, _, nl, hdl⟩ := ht
  have hT : s.TypeIs (.ref it) "tuple_iterator" := ⟨o, ho, hc⟩
  unfold Builtin.SmallTypes.nextOf
  refine wpAny_bind (wpAny_callSpecial?_slot (name := Str.ofString "__next__") hT PySem.F.slot_tuple_iterator_next (wpAny_call_entry PySem.F.slot_tuple_iterator_next hT PySem.F.entry_tuple_iterator_next ?_ (PySem.F.args_tuple_iterator_next_1 _)))
  show wpAny _ _ (field (.ref it) 0 >>= _) _ _ s
  refine wpAny_bind (wpAny_field ho hd (x := .ref t) rfl ?_)
  show wpAny _ _ (if (Value.ref t == Value.none) = true then _ else _) _ _ s
  rw [if_neg (show ¬ ((Value.ref t == Value.none) = true) from Bool.false_ne_true)]
  show wpAny _ _ (field (.ref it) 1 >>= _) _ _ s
  refine wpAny_bind (wpAny_field ho hd (x := .int i 0) rfl ?_)
  show wpAny _ _ (seqItems? (.ref t) >>= _) _ _ s
  refine wpAny_bind (wpAny_seqItems hol hdl ?_)
  simp only [Int.toNat_natCast, hx]
  refine wpAny_bind (wpAny_rule (wpAny_bind (wpAny_setField ho hd (by simp) ?_)))
  show wpAny _ _ (newExc (.type "StopIteration") [] >>= _) _ _ _
  refine wpAny_bind ?_
  simp only [newExc, newTuple]
  refine wpAny_bind (wpAny_newObj_type ?_ (by size_fits))
  refine wpAny_bind (m := firstArgMember _ _) (wpAny_of_eq (a := Value.none) (by first | rfl | (simp only [firstArgMember]; rfl)) ?_)
  refine wpAny_newObj_type ?_ (by size_fits)
  simp only [raiseNew]
  refine wpAny_bind (wpAny_handled ?_)
  rw [show A.in1.handled = none from hh]
  refine wpAny_bind (wpAny_pure (wpAny_throw ?_))
  exact hE _ _ (((Heap.SameBut.update ..).extBut.push _).push _) ⟨_, Heap.get?_push_size _ rfl, rfl⟩
/-- the zip, whatever it has handed out before -/
def ZipAt (h : Heap) (z TI TO i1 i2 : Addr) : Prop := (∃ f0 f1, h.get? z = some { cls := .type "zip", dict := none, data := .fields #[f0, .bool f1, .bool false, .ref TI, .ref TO], slots := #[] } ∧ (f0 = .none ∨ ∃ T : Nat, f0 = rawInt T)) ∧ IsPair h TI (.ref i1) (.ref i2) ∧ ∃ a b, IsPair h TO a b
structure Ap5 (z TI TO i1 i2 : Addr) : Prop where
  TIz : TI ≠ z
  TOz : TO ≠ z
  i1z : i1 ≠ z
  i2z : i2 ≠ z
  TITO : TI ≠ TO
  TIi1 : TI ≠ i1
  TIi2 : TI ≠ i2
  TOi1 : TO ≠ i1
  TOi2 : TO ≠ i2
  i12 : i1 ≠ i2
theorem zipT_item {z TI TO i1 i2 t1 t2 : Addr} {k : Nat} {xs ys : Array Value} {x y : Value} {Q : Value → Shared → Prop} (D : Ap5 z TI TO i1 i2) (D1 : t1 ≠ z ∧ t1 ≠ TO ∧ t1 ≠ i1 ∧ t1 ≠ i2) (D2 : t2 ≠ z ∧ t2 ≠ TO ∧ t2 ≠ i1 ∧ t2 ≠ i2) (hZ : ZipAt s.heap z TI TO i1 i2)
    (h1 : s.heap.IsTupleIter i1 t1 k) (h2 : s.heap.IsTupleIter i2 t2 k) (ht1 : s.heap.IsTuple t1 xs) (ht2 : s.heap.IsTuple t2 ys) (hx : xs[k]? = some x) (hy : ys[k]? = some y)
    (hQ : ∀ h', ZipAt h' z TI TO i1 i2 → h'.IsTupleIter i1 t1 (k + 1) → h'.IsTupleIter i2 t2 (k + 1) → IsPair h' s.heap.objs.size x y →
      (∀ c o, c ≠ z → c ≠ TO → c ≠ i1 → c ≠ i2 → s.heap.get? c = some o → h'.get? c = some o) → Q (.ref s.heap.objs.size) { s with heap := h' }) :
    wpAny (model prog w) A (Builtin.«zip.__next__» ⟨[.ref z], []⟩) (fun fin s' => ∃ v, fin = .done (.ret v) ∧ Q v s') E s := by
  obtain ⟨⟨f0, f1, hz, hf0⟩, hTI, a, b, hTO⟩ := hZ
  have eb : ∀ {h h' : Heap} {c t : Addr} {j : Nat} {d : Addr}, h.IsTupleIter c t j → Heap.SameBut d h h' → c ≠ d → h'.IsTupleIter c t j := fun {h h' c t j d} ⟨o, e, r⟩ sb n => ⟨o, (sb.2 c n).trans e, r⟩
  have et : ∀ {h h' : Heap} {t : Addr} {is : Array Value} {d : Addr}, h.IsTuple t is → Heap.SameBut d h h' → t ≠ d → h'.IsTuple t is := fun {h h' t is d} ⟨o, e, r⟩ sb n => ⟨o, (sb.2 t n).trans e, r⟩
  have free : wpAny (model prog w) A (Builtin.SmallTypes.ownedTupleIsFree (.ref z)) (fun fr s1 => ∃ h' f1', s1 = { s with heap := h' } ∧ Heap.SameBut z s.heap h' ∧ h'.get? z = some { cls := .type "zip", dict := none, data := .fields #[f0, .bool f1', .bool false, .ref TI, .ref TO], slots := #[] }) E s := by
    unfold Builtin.SmallTypes.ownedTupleIsFree
    have es : s = { s with heap := s.heap } := by cases s; rfl
    rcases hf0 with rfl | ⟨T, rfl⟩
    · exact wpAny_bind (wpAny_field hz rfl (x := .none) rfl (wpAny_pure ⟨s.heap, f1, es, Heap.SameBut.refl _ _, hz⟩))
    · refine wpAny_bind (wpAny_field hz rfl (x := rawInt T) rfl ?_)
      show wpAny _ _ (do
        if (← loadIfAlive (T : Int).toNat).isNone then return true
        if (← field (.ref z) 1) != .bool true then setField (.ref z) 1 (.bool true)
        return false) _ _ _
      refine wpAny_bind (load_alive fun r => ?_)
      cases r with
      | none =>
        simp only [Option.isNone_none, if_true]
        exact wpAny_pure ⟨s.heap, f1, es, Heap.SameBut.refl _ _, hz⟩
      | some ob =>
        simp only [Option.isNone_some, Bool.false_eq_true, if_false]
        refine wpAny_bind (wpAny_field hz rfl (x := .bool f1) rfl ?_)
        refine wpAny_ite_split (fun _ => ?_) fun _ => wpAny_pure ⟨s.heap, f1, es, Heap.SameBut.refl _ _, hz⟩
        exact wpAny_bind (wpAny_setField_rec hz (by simp) fun h₁ hz₁ hs₁ => wpAny_pure ⟨h₁, true, rfl, hs₁, hz₁⟩)
  show wpAny _ _ (field (.ref z) 2 >>= _) _ _ _
  refine wpAny_bind (wpAny_field hz rfl (x := .bool false) rfl ?_)
  show wpAny _ _ (field (.ref z) 3 >>= _) _ _ _
  refine wpAny_bind (wpAny_field hz rfl (x := .ref TI) rfl ?_)
  refine wpAny_bind (wpAny_seqItems hTI rfl ?_)
  show wpAny _ _ (Builtin.SmallTypes.ownedTupleIsFree (.ref z) >>= _) _ _ _
  refine wpAny_bind (wpAny_mono free (fun fr s1 hfr => ?_) fun _ _ x => x)
  obtain ⟨h₀, f1', rfl, hs₀, hz₀⟩ := hfr
  have hTO₀ : IsPair h₀ TO a b := (hs₀.2 _ D.TOz).trans hTO
  have h1₀ := eb h1 hs₀ D.i1z
  have h2₀ := eb h2 hs₀ D.i2z
  have ht1₀ := et ht1 hs₀ D1.1
  have ht2₀ := et ht2 hs₀ D2.1
  have hTI₀ : IsPair h₀ TI (.ref i1) (.ref i2) := (hs₀.2 _ D.TIz).trans hTI
  have hsz₀ : h₀.objs.size = s.heap.objs.size := hs₀.1
  cases fr with
  | true =>
    simp only [if_true]
    refine wpAny_bind (wpAny_rule ?_)
    refine wpAny_bind (wpAny_field hz₀ rfl (x := .ref TO) rfl ?_)
    refine wpAny_bind (wpAny_setField_rec hz₀ (by simp) fun h₁ hz₁ hs₁ => ?_)
    refine wpAny_bind ?_
    simp only [List.zipIdx_cons, List.zipIdx_nil, List.forIn_cons, List.forIn_nil]
    refine wpAny_bind (wpAny_bind (wpAny_onRaise ?_))
    show wpAny _ _ (Builtin.SmallTypes.nextOf (.ref i1) >>= _) _ _ _
    refine wpAny_bind (nextOf_tup (eb h1₀ hs₁ D.i1z) (et ht1₀ hs₁ D1.1) hx fun h₂ h1₂ hs₂ => wpAny_pure ?_)
    have hTO₂ : IsPair h₂ TO a b := (hs₂.2 _ D.TOi1).trans ((hs₁.2 _ D.TOz).trans hTO₀)
    refine wpAny_bind (wpAny_seqItems hTO₂ rfl ?_)
    refine wpAny_bind (wpAny_updateSeq_pair hTO₂ fun h₃ hTO₃ hs₃ => ?_)
    replace hTO₃ : IsPair h₃ TO x b := hTO₃
    refine wpAny_bind (wpAny_letGo (wpAny_pure ?_))
    refine wpAny_bind (wpAny_bind (wpAny_onRaise ?_))
    show wpAny _ _ (Builtin.SmallTypes.nextOf (.ref i2) >>= _) _ _ _
    refine wpAny_bind (nextOf_tup (eb (eb (eb h2₀ hs₁ D.i2z) hs₂ D.i12.symm) hs₃ D.TOi2.symm) (et (et (et ht2₀ hs₁ D2.1) hs₂ D2.2.2.1) hs₃ D2.2.1) hy fun h₄ h2₄ hs₄ => wpAny_pure ?_)
    have hTO₄ : IsPair h₄ TO x b := (hs₄.2 _ D.TOi2).trans hTO₃
    refine wpAny_bind (wpAny_seqItems hTO₄ rfl ?_)
    refine wpAny_bind (wpAny_updateSeq_pair hTO₄ fun h₅ hTO₅ hs₅ => ?_)
    replace hTO₅ : IsPair h₅ TO x y := hTO₅
    refine wpAny_bind (wpAny_letGo (wpAny_pure (wpAny_pure ?_)))
    refine wpAny_bind (wpAny_seqItems hTO₅ rfl ?_)
    refine wpAny_bind (wpAny_newTuple ?_)
    have hsz : h₅.objs.size = s.heap.objs.size := by rw [hs₅.1, hs₄.1, hs₃.1, hs₂.1, hs₁.1, hsz₀]
    have k05 : ∀ c, c ≠ z → c ≠ TO → c ≠ i1 → c ≠ i2 → h₅.get? c = s.heap.get? c := fun c c1 c2 c3 c4 => by
      rw [hs₅.2 c c2, hs₄.2 c c4, hs₃.2 c c2, hs₂.2 c c3, hs₁.2 c c1, hs₀.2 c c1]
    have hz₅ : h₅.get? z = h₁.get? z := by rw [hs₅.2 z D.TOz.symm, hs₄.2 z D.i2z.symm, hs₃.2 z D.TOz.symm, hs₂.2 z D.i1z.symm]
    rw [hz₁] at hz₅
    have h1₅ : h₅.IsTupleIter i1 t1 (k + 1) := eb (eb (eb h1₂ hs₃ D.TOi1.symm) hs₄ D.i12) hs₅ D.TOi1.symm
    have h2₅ : h₅.IsTupleIter i2 t2 (k + 1) := eb h2₄ hs₅ D.TOi2.symm
    show wpAny _ _ (Builtin.SmallTypes.ownedTupleHandOut (.ref z) (.ref h₅.objs.size) >>= _) _ _ _
    refine wpAny_bind ?_
    unfold Builtin.SmallTypes.ownedTupleHandOut
    have hz₆ : (h₅.push { cls := .type "tuple", data := .seq #[x, y] }).get? z = _ := Heap.get?_push_of_some _ hz₅
    refine wpAny_bind (wpAny_setField_rec hz₆ (by simp) fun h₇ hz₇ hs₇ => ?_)
    refine wpAny_setField_rec hz₇ (by simp) fun h₈ hz₈ hs₈ => ?_
    have up : ∀ c o, c ≠ z → h₅.get? c = some o → h₈.get? c = some o := fun c o c1 e => (hs₈.2 c c1).trans ((hs₇.2 c c1).trans (Heap.get?_push_of_some _ e))
    have hzlt : z < h₅.objs.size := Heap.lt_size hz₅
    have hT₈ : IsPair h₈ h₅.objs.size x y := (hs₈.2 _ (Nat.ne_of_gt hzlt)).trans ((hs₇.2 _ (Nat.ne_of_gt hzlt)).trans (Heap.get?_push_size _ rfl))
    refine wpAny_pure ⟨_, rfl, ?_⟩
    show Q (.ref h₅.objs.size) _
    rw [hsz] at hT₈ ⊢
    refine hQ h₈ ⟨⟨_, _, hz₈, .inr ⟨h₅.objs.size, rfl⟩⟩, up _ _ D.TIz ((k05 TI D.TIz D.TITO D.TIi1 D.TIi2).trans hTI), x, y, up _ _ D.TOz hTO₅⟩ ?_ ?_ hT₈ fun c o c1 c2 c3 c4 e => up c o c1 ((k05 c c1 c2 c3 c4).trans e)
    · obtain ⟨o, e, r⟩ := h1₅; exact ⟨o, up _ _ D.i1z e, r⟩
    · obtain ⟨o, e, r⟩ := h2₅; exact ⟨o, up _ _ D.i2z e, r⟩
  | false =>
    simp only [Bool.false_eq_true, if_false]
    rw [← Array.forIn_toList]
    refine wpAny_bind ?_
    show wpAny _ _ (forIn [Value.ref i1, Value.ref i2] _ _) _ _ _
    simp only [List.forIn_cons, List.forIn_nil]
    refine wpAny_bind (wpAny_bind (wpAny_holding ?_))
    show wpAny _ _ (Builtin.SmallTypes.nextOf (.ref i1) >>= _) _ _ _
    refine wpAny_bind (nextOf_tup h1₀ ht1₀ hx fun h₂ h1₂ hs₂ => wpAny_pure (wpAny_pure ?_))
    refine wpAny_bind (wpAny_bind (wpAny_holding ?_))
    show wpAny _ _ (Builtin.SmallTypes.nextOf (.ref i2) >>= _) _ _ _
    refine wpAny_bind (nextOf_tup (eb h2₀ hs₂ D.i12.symm) (et ht2₀ hs₂ D2.2.2.1) hy fun h₄ h2₄ hs₄ => wpAny_pure (wpAny_pure (wpAny_pure ?_)))
    dsimp only
    refine wpAny_bind (wpAny_newTuple (wpAny_pure ⟨_, rfl, ?_⟩) (by show 2 ≤ sizeLine; decide))
    have hsz : h₄.objs.size = s.heap.objs.size := by rw [hs₄.1, hs₂.1, hsz₀]
    show Q (.ref h₄.objs.size) { s with heap := h₄.push { cls := .type "tuple", data := .seq #[x, y] } }
    have hT : IsPair (h₄.push { cls := .type "tuple", data := .seq #[x, y] }) h₄.objs.size x y := Heap.get?_push_size _ rfl
    have up : ∀ c, c ≠ z → c ≠ i1 → c ≠ i2 → ∀ o, s.heap.get? c = some o → (h₄.push { cls := .type "tuple", data := .seq #[x, y] }).get? c = some o := fun c c1 c2 c3 o e => Heap.get?_push_of_some _ ((hs₄.2 c c3).trans ((hs₂.2 c c2).trans ((hs₀.2 c c1).trans e)))
    have hz₄ : h₄.get? z = h₀.get? z := by rw [hs₄.2 z D.i2z.symm, hs₂.2 z D.i1z.symm]
    rw [hz₀] at hz₄
    rw [hsz] at hT ⊢
    refine hQ _ ⟨⟨_, _, Heap.get?_push_of_some _ hz₄, hf0⟩, up _ D.TIz D.TIi1 D.TIi2 _ hTI, a, b, up _ D.TOz D.TOi1 D.TOi2 _ hTO⟩ ?_ ?_ hT fun c o c1 _ c3 c4 e => up c c1 c3 c4 o e
    · obtain ⟨o, e, r⟩ := eb h1₂ hs₄ D.i12; exact ⟨o, Heap.get?_push_of_some _ e, r⟩
    · obtain ⟨o, e, r⟩ := h2₄; exact ⟨o, Heap.get?_push_of_some _ e, r⟩
theorem zipT_end {z TI TO i1 i2 t1 t2 : Addr} {k : Nat} {xs ys : Array Value} {Q : Fin → Shared → Prop} (hh : A.handled = none) (D : Ap5 z TI TO i1 i2) (D1 : t1 ≠ z ∧ t1 ≠ TO ∧ t1 ≠ i1 ∧ t1 ≠ i2) (D2 : t2 ≠ z ∧ t2 ≠ TO ∧ t2 ≠ i1 ∧ t2 ≠ i2) (hZ : ZipAt s.heap z TI TO i1 i2)
    (h1 : s.heap.IsTupleIter i1 t1 k) (h2 : s.heap.IsTupleIter i2 t2 k) (ht1 : s.heap.IsTuple t1 xs) (ht2 : s.heap.IsTuple t2 ys) (hend : xs[k]? = none ∨ ys[k]? = none)
    (hE : ∀ h' e, (∀ c o, c ≠ z → c ≠ TO → c ≠ i1 → c ≠ i2 → s.heap.get? c = some o → h'.get? c = some o) → (∃ o, h'.get? e = some o ∧ o.cls = .type "StopIteration") → E (.ref e) { s with heap := h' }) :
    wpAny (model prog w) A (Builtin.«zip.__next__» ⟨[.ref z], []⟩) Q E s := by
  obtain ⟨⟨f0, f1, hz, hf0⟩, hTI, a, b, hTO⟩ := hZ
  have eb : ∀ {h h' : Heap} {c t : Addr} {j : Nat} {d : Addr}, h.IsTupleIter c t j → Heap.SameBut d h h' → c ≠ d → h'.IsTupleIter c t j := fun {h h' c t j d} ⟨o, e, r⟩ sb n => ⟨o, (sb.2 c n).trans e, r⟩
  have et : ∀ {h h' : Heap} {t : Addr} {is : Array Value} {d : Addr}, h.IsTuple t is → Heap.SameBut d h h' → t ≠ d → h'.IsTuple t is := fun {h h' t is d} ⟨o, e, r⟩ sb n => ⟨o, (sb.2 t n).trans e, r⟩
  have free : wpAny (model prog w) A (Builtin.SmallTypes.ownedTupleIsFree (.ref z)) (fun fr s1 => ∃ h' f1', s1 = { s with heap := h' } ∧ Heap.SameBut z s.heap h' ∧ h'.get? z = some { cls := .type "zip", dict := none, data := .fields #[f0, .bool f1', .bool false, .ref TI, .ref TO], slots := #[] }) E s := by
    unfold Builtin.SmallTypes.ownedTupleIsFree
    have es : s = { s with heap := s.heap } := by cases s; rfl
    rcases hf0 with rfl | ⟨T, rfl⟩
    · exact wpAny_bind (wpAny_field hz rfl (x := .none) rfl (wpAny_pure ⟨s.heap, f1, es, Heap.SameBut.refl _ _, hz⟩))
    · refine wpAny_bind (wpAny_field hz rfl (x := rawInt T) rfl ?_)
      show wpAny _ _ (do
        if (← loadIfAlive (T : Int).toNat).isNone then return true
        if (← field (.ref z) 1) != .bool true then setField (.ref z) 1 (.bool true)
        return false) _ _ _
      refine wpAny_bind (load_alive fun r => ?_)
      cases r with
      | none =>
        simp only [Option.isNone_none, if_true]
        exact wpAny_pure ⟨s.heap, f1, es, Heap.SameBut.refl _ _, hz⟩
      | some ob =>
        simp only [Option.isNone_some, Bool.false_eq_true, if_false]
        refine wpAny_bind (wpAny_field hz rfl (x := .bool f1) rfl ?_)
        refine wpAny_ite_split (fun _ => ?_) fun _ => wpAny_pure ⟨s.heap, f1, es, Heap.SameBut.refl _ _, hz⟩
        exact wpAny_bind (wpAny_setField_rec hz (by simp) fun h₁ hz₁ hs₁ => wpAny_pure ⟨h₁, true, rfl, hs₁, hz₁⟩)
  show wpAny _ _ (field (.ref z) 2 >>= _) _ _ _
  refine wpAny_bind (wpAny_field hz rfl (x := .bool false) rfl ?_)
  show wpAny _ _ (field (.ref z) 3 >>= _) _ _ _
  refine wpAny_bind (wpAny_field hz rfl (x := .ref TI) rfl ?_)
  refine wpAny_bind (wpAny_seqItems hTI rfl ?_)
  show wpAny _ _ (Builtin.SmallTypes.ownedTupleIsFree (.ref z) >>= _) _ _ _
  refine wpAny_bind (wpAny_mono free (fun fr s1 hfr => ?_) fun _ _ x => x)
  obtain ⟨h₀, f1', rfl, hs₀, hz₀⟩ := hfr
  have hTO₀ : IsPair h₀ TO a b := (hs₀.2 _ D.TOz).trans hTO
  have h1₀ := eb h1 hs₀ D.i1z
  have h2₀ := eb h2 hs₀ D.i2z
  have ht1₀ := et ht1 hs₀ D1.1
  have ht2₀ := et ht2 hs₀ D2.1
  cases fr with
  | true =>
    simp only [if_true]
    refine wpAny_bind (wpAny_rule ?_)
    refine wpAny_bind (wpAny_field hz₀ rfl (x := .ref TO) rfl ?_)
    refine wpAny_bind (wpAny_setField_rec hz₀ (by simp) fun h₁ hz₁ hs₁ => ?_)
    refine wpAny_bind ?_
    simp only [List.zipIdx_cons, List.zipIdx_nil, List.forIn_cons, List.forIn_nil]
    refine wpAny_bind (wpAny_bind (wpAny_onRaise ?_))
    show wpAny _ _ (Builtin.SmallTypes.nextOf (.ref i1) >>= _) _ _ _
    cases hx : xs[k]? with
    | none =>
      refine wpAny_bind (nextOf_tup_end hh (eb h1₀ hs₁ D.i1z) (et ht1₀ hs₁ D1.1) hx fun h₂ e hs₂ he => ?_)
      obtain ⟨oe, hoe, hce⟩ := he
      have hz₂ := hs₂ _ _ D.i1z.symm hz₁
      have hez : e ≠ z := fun x => by subst x; rw [hz₂] at hoe; cases hoe; simp at hce
      refine wpAny_setField_rec hz₂ (by simp) fun h₃ _ hs₃ => hE h₃ e (fun c o c1 _ c3 _ x => (hs₃.2 c c1).trans (hs₂ _ _ c3 ((hs₁.2 c c1).trans ((hs₀.2 c c1).trans x)))) ⟨oe, (hs₃.2 _ hez).trans hoe, hce⟩
    | some x =>
      have hy : ys[k]? = none := by rcases hend with h | h; rw [hx] at h; cases h; exact h
      refine wpAny_bind (nextOf_tup (eb h1₀ hs₁ D.i1z) (et ht1₀ hs₁ D1.1) hx fun h₂ h1₂ hs₂ => wpAny_pure ?_)
      have hTO₂ : IsPair h₂ TO a b := (hs₂.2 _ D.TOi1).trans ((hs₁.2 _ D.TOz).trans hTO₀)
      refine wpAny_bind (wpAny_seqItems hTO₂ rfl ?_)
      refine wpAny_bind (wpAny_updateSeq_pair hTO₂ fun h₃ hTO₃ hs₃ => ?_)
      refine wpAny_bind (wpAny_letGo (wpAny_pure ?_))
      refine wpAny_bind (wpAny_bind (wpAny_onRaise ?_))
      show wpAny _ _ (Builtin.SmallTypes.nextOf (.ref i2) >>= _) _ _ _
      refine wpAny_bind (nextOf_tup_end hh (eb (eb (eb h2₀ hs₁ D.i2z) hs₂ D.i12.symm) hs₃ D.TOi2.symm) (et (et (et ht2₀ hs₁ D2.1) hs₂ D2.2.2.1) hs₃ D2.2.1) hy fun h₄ e hs₄ he => ?_)
      obtain ⟨oe, hoe, hce⟩ := he
      have hz₃ : h₃.get? z = h₁.get? z := by rw [hs₃.2 z D.TOz.symm, hs₂.2 z D.i1z.symm]
      rw [hz₁] at hz₃
      have hz₄ := hs₄ _ _ D.i2z.symm hz₃
      have hez : e ≠ z := fun x => by subst x; rw [hz₄] at hoe; cases hoe; simp at hce
      refine wpAny_setField_rec hz₄ (by simp) fun h₅ _ hs₅ => hE h₅ e (fun c o c1 c2 c3 c4 x => (hs₅.2 c c1).trans (hs₄ _ _ c4 ((hs₃.2 c c2).trans ((hs₂.2 c c3).trans ((hs₁.2 c c1).trans ((hs₀.2 c c1).trans x)))))) ⟨oe, (hs₅.2 _ hez).trans hoe, hce⟩
  | false =>
    simp only [Bool.false_eq_true, if_false]
    rw [← Array.forIn_toList]
    refine wpAny_bind ?_
    show wpAny _ _ (forIn [Value.ref i1, Value.ref i2] _ _) _ _ _
    simp only [List.forIn_cons, List.forIn_nil]
    refine wpAny_bind (wpAny_bind (wpAny_holding ?_))
    show wpAny _ _ (Builtin.SmallTypes.nextOf (.ref i1) >>= _) _ _ _
    cases hx : xs[k]? with
    | none => exact wpAny_bind (nextOf_tup_end hh h1₀ ht1₀ hx fun h₂ e hs₂ he => hE h₂ e (fun c o c1 _ c3 _ x => hs₂ _ _ c3 ((hs₀.2 c c1).trans x)) he)
    | some x =>
      have hy : ys[k]? = none := by rcases hend with h | h; rw [hx] at h; cases h; exact h
      refine wpAny_bind (nextOf_tup h1₀ ht1₀ hx fun h₂ h1₂ hs₂ => wpAny_pure (wpAny_pure ?_))
      refine wpAny_bind (wpAny_bind (wpAny_holding ?_))
      show wpAny _ _ (Builtin.SmallTypes.nextOf (.ref i2) >>= _) _ _ _
      exact wpAny_bind (nextOf_tup_end hh (eb h2₀ hs₂ D.i12.symm) (et ht2₀ hs₂ D2.2.2.1) hy fun h₄ e hs₄ he => hE h₄ e (fun c o c1 _ c3 c4 x => hs₄ _ _ c4 ((hs₂.2 c c3).trans ((hs₀.2 c c1).trans x))) he)
/-! zip(t1, t2) made -/
abbrev zT1 (h : Heap) (t1 : Addr) : Heap := h.push { cls := .type "tuple_iterator", data := .fields #[.ref t1, .int 0 0] }
abbrev zT2 (h : Heap) (t1 t2 : Addr) : Heap := (zT1 h t1).push { cls := .type "tuple_iterator", data := .fields #[.ref t2, .int 0 0] }
abbrev zT3 (h : Heap) (t1 t2 : Addr) : Heap := (zT2 h t1 t2).push { cls := .type "tuple", data := .seq #[.ref h.objs.size, .ref (zT1 h t1).objs.size] }
abbrev zT4 (h : Heap) (t1 t2 : Addr) : Heap := (zT3 h t1 t2).push { cls := .type "tuple", data := .seq #[.none, .none] }
abbrev zT5 (h : Heap) (t1 t2 : Addr) : Heap := (zT4 h t1 t2).push { cls := .type "zip", data := .fields #[.none, .bool false, .bool false, .ref (zT2 h t1 t2).objs.size, .ref (zT3 h t1 t2).objs.size] }
theorem meets_zipT (t1 t2 : Addr) (xs ys : Array Value) :
    Meets (Builtin.«zip.__new__» ⟨[.type "zip", .ref t1, .ref t2], []⟩) (fun _ R s => s.heap.IsTuple t1 xs ∧ s.heap.IsTuple t2 ys ∧ R (.ok (.ret (.ref (zT4 s.heap t1 t2).objs.size))) { s with heap := zT5 s.heap t1 t2 }) :=
  .of_wp fun prog w A R s h => by
    obtain ⟨hp, g, d, tk, os⟩ := s; obtain ⟨hl1, hl2, h⟩ := h
    have hsub := sub_zip
    have hL1 : Heap.IsTuple (Shared.heap ⟨hp, g, d, tk, os⟩) t1 xs := hl1
    have hL2 : Heap.IsTuple (Shared.heap ⟨hp.push { cls := .type "tuple_iterator", data := .fields #[.ref t1, .int 0 0] }, g, d, tk, os⟩) t2 ys := by
      obtain ⟨o, e, r⟩ := hl2; exact ⟨o, Heap.get?_push_of_some _ e, r⟩
    wp_walk using wpAny_pyIter_tuple hL1, wpAny_pyIter_tuple hL2
    exact ⟨_, rfl, h⟩
theorem call_zipT {t1 t2 : Addr} {xs ys : Array Value} {Q : Value → Shared → Prop} (hl1 : s.heap.IsTuple t1 xs) (hl2 : s.heap.IsTuple t2 ys)
    (h : ∀ h', ZipAt h' (s.heap.objs.size + 4) (s.heap.objs.size + 2) (s.heap.objs.size + 3) s.heap.objs.size (s.heap.objs.size + 1) → h'.IsTupleIter s.heap.objs.size t1 0 → h'.IsTupleIter (s.heap.objs.size + 1) t2 0 →
      (∀ c o, s.heap.get? c = some o → h'.get? c = some o) → Q (.ref (s.heap.objs.size + 4)) { s with heap := h' }) :
    wpAny (model prog w) A (call (.type "zip") [.ref t1, .ref t2]) Q E s := by
  refine callType_new PySem.F.called_zip (by decide) (PySem.F.typeCall_zip_2 _ _) (PySem.F.newCall_zip_2 _ _) (fun obj => PySem.F.args_object_init_3 obj _ _) PySem.F.entry_zip_new (meets_zipT t1 t2 xs ys) ⟨hl1, hl2, ?_⟩
  have z1 : (zT1 s.heap t1).objs.size = s.heap.objs.size + 1 := Heap.size_push ..
  have z2 : (zT2 s.heap t1 t2).objs.size = s.heap.objs.size + 2 := by rw [Heap.size_push, z1]
  have z3 : (zT3 s.heap t1 t2).objs.size = s.heap.objs.size + 3 := by rw [Heap.size_push, z2]
  have z4 : (zT4 s.heap t1 t2).objs.size = s.heap.objs.size + 4 := by rw [Heap.size_push, z3]
  have g5 : (zT5 s.heap t1 t2).get? (zT4 s.heap t1 t2).objs.size = some _ := Heap.get?_push_size _ rfl
  have g4 : (zT5 s.heap t1 t2).get? (zT3 s.heap t1 t2).objs.size = some _ := Heap.get?_push_of_some _ (Heap.get?_push_size _ rfl)
  have g3 : (zT5 s.heap t1 t2).get? (zT2 s.heap t1 t2).objs.size = some _ := Heap.get?_push_of_some _ (Heap.get?_push_of_some _ (Heap.get?_push_size _ rfl))
  have g2 : (zT5 s.heap t1 t2).get? (zT1 s.heap t1).objs.size = some _ := Heap.get?_push_of_some _ (Heap.get?_push_of_some _ (Heap.get?_push_of_some _ (Heap.get?_push_size _ rfl)))
  have g1 : (zT5 s.heap t1 t2).get? s.heap.objs.size = some _ := Heap.get?_push_of_some _ (Heap.get?_push_of_some _ (Heap.get?_push_of_some _ (Heap.get?_push_of_some _ (Heap.get?_push_size _ rfl))))
  show _ ∧ _
  rw [z2, z3, z4] at g5
  rw [z1, z2] at g3
  rw [z3] at g4
  rw [z1] at g2
  rw [z4]
  exact ⟨⟨_, g5, rfl⟩, h _ ⟨⟨_, _, g5, .inl rfl⟩, g3, _, _, g4⟩ ⟨_, g1, rfl, rfl⟩ ⟨_, g2, rfl, rfl⟩ fun c o x => Heap.get?_push_of_some _ (Heap.get?_push_of_some _ (Heap.get?_push_of_some _ (Heap.get?_push_of_some _ (Heap.get?_push_of_some _ x))))⟩
end
end Z
set_option Elab.async false
set_option linter.all false
set_option maxRecDepth 100000
namespace Z
open PySem PySem.Spec PyProof.Rows L2

section
variable {X : Cx} {pins : List (Addr × Obj)} {σ : St} {H H' : Hp} {s : Shared} {h' : Heap} {fp : List Addr}
/-- several records of ours have turned; something may have been laid beside -/
theorem inv_many {t' : Nat} (I : Inv X pins σ H s) (hf : ∀ b ∈ fp, FpOk X pins H b) (k : ∀ b u, b ∉ fp → s.heap.get? b = some u → h'.get? b = some u) (hs : Same H H') (hn : ∀ b o, s.heap.get? b = some o → H b = none → H' b = none)
    (hok : HOk X.prog X.w H' h') : Inv X pins σ H' { s with heap := h', toks := t' } := by
  refine I.step (g' := s.gens) (d' := s.drawn) (ch := fp) (fun b hb => ?_) (fun b o _ _ hc e _ => k b o hc e) (fun b o _ _ hc e _ => ⟨o.slots, k b o hc e⟩) (fun b o _ e n => hn b o e n)
    (fun b o hc e => ⟨o, k b o hc e⟩) (fun b xs e => hs b _ e) (fun b o u e => hs b _ e) (fun b ps e => ⟨#[], by rw [hs b _ e]; simp⟩) (fun m hm => ?_) hok I.bare
  · obtain ⟨f0, f1, f2, f3, f4, f5⟩ := hf b hb
    exact ⟨f3, f1, f4, f5⟩
  · obtain ⟨o, es, ep, ho, r⟩ := hm
    exact ⟨o, es, ep, k _ o (fun z => (hf _ z).2.1 rfl) ho, r⟩
theorem hok_many (I : Inv X pins σ H s) (hf : ∀ b ∈ fp, FpOk X pins H b) (k : ∀ b u, b ∉ fp → s.heap.get? b = some u → h'.get? b = some u) : HOk X.prog X.w H h' := fun b u e => by
  have nf : ∀ c v, H c = some v → c ∉ fp := fun c v e z => by rw [(hf c z).1] at e; cases e
  refine (I.hok b u e).stay (fun c v hc q => k c v ?_ q) (fun _ q => q) fun _ _ q => q
  rcases hc with z | z
  · rw [z]; exact nf b u e
  · exact nf c _ z
theorem hok_laid {T : Addr} {o : HO} (I : Inv X pins σ H s) (hf : ∀ b ∈ fp, FpOk X pins H b) (k : ∀ b u, b ∉ fp → s.heap.get? b = some u → h'.get? b = some u) (hT : H T = none) (new : ObjOk X.prog X.w (upd H T o) h' T o) : HOk X.prog X.w (upd H T o) h' := fun b u e => by
  by_cases hb : b = T
  · subst hb
    rw [upd_same] at e; cases e
    exact new
  · rw [upd_ne hb] at e
    have nf : ∀ c v, H c = some v → c ∉ fp := fun c v e z => by rw [(hf c z).1] at e; cases e
    refine (I.hok b u e).stay (fun c v hc q => k c v ?_ q) (fun c q => same_new hT c _ q) fun c _ q => same_new hT c _ q
    rcases hc with z | z
    · rw [z]; exact nf b u e
    · exact nf c _ z
theorem sqt_ne {a b : Addr} {xs : List V} (I : Inv X pins σ H s) (hf : FpOk X pins H b) (h : SqT X.K H a xs) : a ≠ b := fun e => by
  subst e
  rcases h with (h | ⟨o, h⟩) | ⟨o, its, n, hk, _⟩
  · rw [hf.1] at h; cases h
  · rw [hf.1] at h; cases h
  · have hb := I.ok.mod.kin a o hk
    rcases hf.2.2.2.1 with z | z
    · exact I.ok.noex a o hb z
    · exact absurd (Nat.lt_of_lt_of_le (Heap.lt_size hb) (Nat.le_trans I.ok.bsz z)) (Nat.lt_irrefl _)
end

/-! ### zip over two tuples -/
def Itz (K : Frag) (t1 t2 : Addr) : It :=
  ⟨fun i H => ∃ xs ys x y, SqT K H t1 xs ∧ SqT K H t2 ys ∧ xs[i]? = some x ∧ ys[i]? = some y,
   fun i H v H' => ∃ T x y, v = .ref T ∧ H T = none ∧ H' = upd H T (.tup [x, y]) ∧ (∀ xs, SqT K H t1 xs → xs[i]? = some x) ∧ ∀ ys, SqT K H t2 ys → ys[i]? = some y,
   fun i H => ∃ xs ys, SqT K H t1 xs ∧ SqT K H t2 ys ∧ (xs.length ≤ i ∨ ys.length ≤ i)⟩
section
variable {prog : Program} {w : World} {A : Around} {E : Value → Shared → Prop} {s : Shared}
theorem pyNext_zipT {z TI TO i1 i2 t1 t2 : Addr} {k : Nat} {xs ys : Array Value} {x y : Value} {Q : Option Value → Shared → Prop} (D : Ap5 z TI TO i1 i2) (D1 : t1 ≠ z ∧ t1 ≠ TO ∧ t1 ≠ i1 ∧ t1 ≠ i2) (D2 : t2 ≠ z ∧ t2 ≠ TO ∧ t2 ≠ i1 ∧ t2 ≠ i2) (hZ : ZipAt s.heap z TI TO i1 i2)
    (h1 : s.heap.IsTupleIter i1 t1 k) (h2 : s.heap.IsTupleIter i2 t2 k) (ht1 : s.heap.IsTuple t1 xs) (ht2 : s.heap.IsTuple t2 ys) (hx : xs[k]? = some x) (hy : ys[k]? = some y)
    (hQ : ∀ h', ZipAt h' z TI TO i1 i2 → h'.IsTupleIter i1 t1 (k + 1) → h'.IsTupleIter i2 t2 (k + 1) → IsPair h' s.heap.objs.size x y →
      (∀ c o, c ≠ z → c ≠ TO → c ≠ i1 → c ≠ i2 → s.heap.get? c = some o → h'.get? c = some o) → Q (some (.ref s.heap.objs.size)) { s with heap := h' }) : wpAny (model prog w) A (pyNext (.ref z)) Q E s := by
  obtain ⟨⟨f0, f1, hz, _⟩, _⟩ := id hZ
  have hT : s.TypeIs (.ref z) "zip" := ⟨_, hz, rfl⟩
  unfold pyNext
  exact wpAny_bind (wpAny_attempt (wpAny_callSpecial?_slot (name := Str.ofString "__next__") hT F.slot_zip_next
    (wpAny_call_entry F.slot_zip_next hT F.entry_zip_next (zipT_item D D1 D2 hZ h1 h2 ht1 ht2 hx hy fun h' a1 a2 a3 a4 a5 => wpAny_pure (hQ h' a1 a2 a3 a4 a5)) (F.args_zip_next_1 _))))
theorem pyNext_zipT_end {z TI TO i1 i2 t1 t2 : Addr} {k : Nat} {xs ys : Array Value} {Q : Option Value → Shared → Prop} (hh : A.handled = none) (D : Ap5 z TI TO i1 i2) (D1 : t1 ≠ z ∧ t1 ≠ TO ∧ t1 ≠ i1 ∧ t1 ≠ i2) (D2 : t2 ≠ z ∧ t2 ≠ TO ∧ t2 ≠ i1 ∧ t2 ≠ i2) (hZ : ZipAt s.heap z TI TO i1 i2)
    (h1 : s.heap.IsTupleIter i1 t1 k) (h2 : s.heap.IsTupleIter i2 t2 k) (ht1 : s.heap.IsTuple t1 xs) (ht2 : s.heap.IsTuple t2 ys) (hend : xs[k]? = none ∨ ys[k]? = none)
    (hQ : ∀ h', (∀ c o, c ≠ z → c ≠ TO → c ≠ i1 → c ≠ i2 → s.heap.get? c = some o → h'.get? c = some o) → Q none { s with heap := h' }) : wpAny (model prog w) A (pyNext (.ref z)) Q E s := by
  obtain ⟨⟨f0, f1, hz, _⟩, _⟩ := id hZ
  have hT : s.TypeIs (.ref z) "zip" := ⟨_, hz, rfl⟩
  unfold pyNext
  refine wpAny_bind (wpAny_attempt (wpAny_callSpecial?_slot (name := Str.ofString "__next__") hT F.slot_zip_next
    (wpAny_call_entry F.slot_zip_next hT F.entry_zip_next (zipT_end hh D D1 D2 hZ h1 h2 ht1 ht2 hend fun h' e hk he => ?_) (F.args_zip_next_1 _))))
  obtain ⟨o, ho, hc⟩ := he
  refine wpAny_bind (wpAny_isInstance (T := "StopIteration") (b := true) ⟨o, ho, hc⟩ isSubtype_stop ?_)
  exact wpAny_pure (hQ _ hk)
theorem pyIter_zipT {z TI TO i1 i2 : Addr} {Q : Value → Shared → Prop} (hZ : ZipAt s.heap z TI TO i1 i2) (h : Q (.ref z) s) : wpAny (model prog w) A (pyIter (.ref z)) Q E s := by
  obtain ⟨⟨f0, f1, hz, _⟩, _⟩ := id hZ
  have hT : s.TypeIs (.ref z) "zip" := ⟨_, hz, rfl⟩
  refine wpAny_pyIter_slot hT F.slot_zip_iter (wpAny_call_entry F.slot_zip_iter hT F.entry_zip_iter ?_ (F.args_zip_iter_1 _))
  show wpAny _ _ (ret (.ref z)) _ _ s
  exact wpAny_pure ⟨_, rfl, "zip", _, hT, F.slot_zip_next.lookup, h⟩
end
theorem turn_zip {P : Program} {w : World} {K : Frag} {x : Str} {px : Pos} {z TI TO i1 i2 t1 t2 : Addr} (D : Ap5 z TI TO i1 i2) :
    Turn P w K (.Name x px) (Itz K t1 t2) [z, TI, TO, i1, i2] z (fun i h => ZipAt h z TI TO i1 i2 ∧ h.IsTupleIter i1 t1 i ∧ h.IsTupleIter i2 t2 i) where
  mem := by simp
  obj := fun i h ⟨⟨⟨f0, f1, hz, _⟩, hTI, a, b, hTO⟩, h1, h2⟩ c hc => by
    have hc' : c = z ∨ c = TI ∨ c = TO ∨ c = i1 ∨ c = i2 := by simpa using hc
    rcases hc' with rfl | rfl | rfl | rfl | rfl
    · exact ⟨_, hz, fun v e => by cases e⟩
    · exact ⟨_, hTI, fun v e => by cases e⟩
    · exact ⟨_, hTO, fun v e => by cases e⟩
    · obtain ⟨o, e, c, d⟩ := h1; exact ⟨o, e, fun v z => by rw [d] at z; cases z⟩
    · obtain ⟨o, e, c, d⟩ := h2; exact ⟨o, e, fun v z => by rw [d] at z; cases z⟩
  keep := fun i h h' ⟨⟨⟨f0, f1, hz, q⟩, hTI, a, b, hTO⟩, h1, h2⟩ k =>
    ⟨⟨⟨f0, f1, k z (by simp) _ hz, q⟩, k TI (by simp) _ hTI, a, b, k TO (by simp) _ hTO⟩, h1.at fun o e => k i1 (by simp) o e, h2.at fun o e => k i2 (by simp) o e⟩
  item := by
    intro X hP hw hK hc i pins s σ H E I hf ⟨hZ, h1, h2⟩ hg
    subst hP hw hK
    obtain ⟨xs, ys, x0, y0, hq1, hq2, hx, hy⟩ := hg
    obtain ⟨its1, rv1, p1, hz1⟩ := I.tuple hq1
    obtain ⟨its2, rv2, p2, hz2⟩ := I.tuple hq2
    obtain ⟨u, hu, ru⟩ := rv1.get hx
    obtain ⟨v, hv, rv⟩ := rv2.get hy
    have n1 : ∀ b ∈ [z, TI, TO, i1, i2], t1 ≠ b := fun b hb => sqt_ne I (hf b hb) hq1
    have n2 : ∀ b ∈ [z, TI, TO, i1, i2], t2 ≠ b := fun b hb => sqt_ne I (hf b hb) hq2
    refine pyNext_zipT D ⟨n1 _ (by simp), n1 _ (by simp), n1 _ (by simp), n1 _ (by simp)⟩ ⟨n2 _ (by simp), n2 _ (by simp), n2 _ (by simp), n2 _ (by simp)⟩ hZ h1 h2 (show s.heap.IsTuple t1 its1.toArray from p1) (show s.heap.IsTuple t2 its2.toArray from p2) (x := u) (y := v) (by simpa using hu) (by simpa using hv) fun h' a1 a2 a3 a4 k => ?_
    have kk : ∀ b o, b ∉ [z, TI, TO, i1, i2] → s.heap.get? b = some o → h'.get? b = some o := fun b o hb e => k b o (fun q => hb (by simp [q])) (fun q => hb (by simp [q])) (fun q => hb (by simp [q])) (fun q => hb (by simp [q])) e
    have I1 : Inv X pins σ (upd H s.heap.objs.size (.tup [x0, y0])) { s with heap := h' } := inv_many (t' := s.toks) I hf kk (same_new I.fresh) (fun b o e n => by rw [upd_ne (Nat.ne_of_lt (Heap.lt_size e))]; exact n)
      (hok_laid I hf kk I.fresh ⟨by show 2 ≤ sizeLine; decide, [u, v], .cons ru (.cons rv .nil), ⟨_, a4, rfl, _, rfl⟩⟩)
    refine ⟨_, rfl, wpAny_pure ⟨.ref s.heap.objs.size, _, I1, rfl, ⟨s.heap.objs.size, x0, y0, rfl, I.fresh, rfl, fun zs hq => by rw [I.tuple_inj hq hq1]; exact hx, fun zs hq => by rw [I.tuple_inj hq hq2]; exact hy⟩, ⟨a1, a2, a3⟩, fun b hb => ?_⟩⟩
    have hbl : b < s.heap.objs.size := by
      have hb' : b = z ∨ b = TI ∨ b = TO ∨ b = i1 ∨ b = i2 := by simpa using hb
      obtain ⟨⟨f0, f1, hz, _⟩, hTI, a, b, hTO⟩ := hZ
      obtain ⟨o1, e1, _⟩ := h1
      obtain ⟨o2, e2, _⟩ := h2
      rcases hb' with rfl | rfl | rfl | rfl | rfl
      · exact Heap.lt_size hz
      · exact Heap.lt_size hTI
      · exact Heap.lt_size hTO
      · exact Heap.lt_size e1
      · exact Heap.lt_size e2
    rw [upd_ne (Nat.ne_of_lt hbl)]
    exact (hf b hb).1
  done := by
    intro X hP hw hK hc i pins s σ H E I hf ⟨hZ, h1, h2⟩ hg
    subst hP hw hK
    obtain ⟨xs, ys, hq1, hq2, hx⟩ := hg
    obtain ⟨its1, rv1, p1, hz1⟩ := I.tuple hq1
    obtain ⟨its2, rv2, p2, hz2⟩ := I.tuple hq2
    have n1 : ∀ b ∈ [z, TI, TO, i1, i2], t1 ≠ b := fun b hb => sqt_ne I (hf b hb) hq1
    have n2 : ∀ b ∈ [z, TI, TO, i1, i2], t2 ≠ b := fun b hb => sqt_ne I (hf b hb) hq2
    have l1 := rv1.length
    have l2 := rv2.length
    refine pyNext_zipT_end (I.ok.hd hc) D ⟨n1 _ (by simp), n1 _ (by simp), n1 _ (by simp), n1 _ (by simp)⟩ ⟨n2 _ (by simp), n2 _ (by simp), n2 _ (by simp), n2 _ (by simp)⟩ hZ h1 h2 (show s.heap.IsTuple t1 its1.toArray from p1) (show s.heap.IsTuple t2 its2.toArray from p2) ?_ fun h' k => ?_
    · rcases hx with hx | hx
      · exact .inl (by simp; omega)
      · exact .inr (by simp; omega)
    have kk : ∀ b o, b ∉ [z, TI, TO, i1, i2] → s.heap.get? b = some o → h'.get? b = some o := fun b o hb e => k b o (fun q => hb (by simp [q])) (fun q => hb (by simp [q])) (fun q => hb (by simp [q])) (fun q => hb (by simp [q])) e
    exact ⟨rfl, inv_many (t' := s.toks) I hf kk (Same.refl _) (fun b o e n => n) (hok_many I hf kk)⟩
  self := fun _ _ _ _ _ st h => pyIter_zipT st.1 h
def iZip (K : Frag) (ta : TA) : TI := fun σ H R => ta σ H fun vs H1 => ∃ t1 t2, vs = [.ref t1, .ref t2] ∧ (∃ xs, SqT K H1 t1 xs) ∧ (∃ ys, SqT K H1 t2 ys) ∧ R (Itz K t1 t2) H1
section
variable {X : Cx} {ρ : Rho} {e a b : Expr} {d : D} {ds es : List D} {p pos px : Pos} {x : Str}
theorem boot_zipZ : bootBuiltins "zip" = some (.type "zip") := by decide +kernel
theorem pi_zip {ta : TA} (hg : Gl X "zip") (hm : X.mg "zip" = none) (ha : PA X [a, b] ta) (hs : starEach [a, b] X.env = [(false, eval a X.env), (false, eval b X.env)] := by rfl) (hs2 : starEach [b] X.env = [(false, eval b X.env)] := by rfl) :
    PI X (.Name x px) (.Call (.Name "zip" p) [a, b] [] pos) (iZip X.K ta) := by
  intro pins s σ H R I h
  refine Call_ (ld_blt I hg hm boot_zipZ (PyProof.Rows.callWith_type1 (thn (ha pos pins s σ H _ I h) fun us s1 ⟨vs, H1, I1, r1, q1⟩ => ?_) (by rw [hs, hs2]) (by rw [hs2]; rfl)))
  obtain ⟨t1, t2, e, ⟨xs, hq1⟩, ⟨ys, hq2⟩, q⟩ := q1
  subst e
  cases r1 with
  | cons r rr =>
    cases rr with
    | cons r' rr =>
      cases rr
      cases r
      cases r'
      obtain ⟨its1, rv1, p1, hz1⟩ := I1.tuple hq1
      obtain ⟨its2, rv2, p2, hz2⟩ := I1.tuple hq2
      refine call_zipT (show s1.heap.IsTuple t1 its1.toArray from p1) (show s1.heap.IsTuple t2 its2.toArray from p2) fun h' a1 a2 a3 k => ?_
      refine pyIter_zipT (s := { s1 with heap := h' }) a1 ?_
      have D : Ap5 (s1.heap.objs.size + 4) (s1.heap.objs.size + 2) (s1.heap.objs.size + 3) s1.heap.objs.size (s1.heap.objs.size + 1) := by
        constructor <;> first | exact Nat.ne_of_lt (by show (_ : Nat) < _; omega) | exact Nat.ne_of_gt (by show (_ : Nat) < _; omega)
      refine ⟨_, [s1.heap.objs.size + 4, s1.heap.objs.size + 2, s1.heap.objs.size + 3, s1.heap.objs.size, s1.heap.objs.size + 1], _, _, H1, rfl, I1.kept (t' := s1.toks) k, turn_zip D, ⟨a1, a2, a3⟩, fun b hb => ?_, q⟩
      have hb' : b = s1.heap.objs.size + 4 ∨ b = s1.heap.objs.size + 2 ∨ b = s1.heap.objs.size + 3 ∨ b = s1.heap.objs.size ∨ b = s1.heap.objs.size + 1 := by simpa using hb
      have hle : s1.heap.objs.size ≤ b := by rcases hb' with rfl | rfl | rfl | rfl | rfl <;> (show (_ : Nat) ≤ _; omega)
      exact I1.fpOk hle (I1.hok.fresh hle)
def zipD (ds es : List D) : List D := (ds.zip es).map fun p => D.tup [p.1, p.2]
theorem IvD.zipT (hg : Gl X "zip") (hm : X.mg "zip" = none) (h1 : EvD X ρ a (.tup ds)) (h2 : EvD X ρ b (.tup es)) (hs : starEach [a, b] X.env = [(false, eval a X.env), (false, eval b X.env)] := by rfl) (hs2 : starEach [b] X.env = [(false, eval b X.env)] := by rfl) :
    IvD X ρ (.Name x px) (.Call (.Name "zip" p) [a, b] [] pos) (zipD ds es) := fun M0 H0 γ α σ H R r k => (pi_zip hg hm paA hs hs2).to ((AvD.cons h1 (AvD.cons h2 AvD.nil hs2) (by rw [hs, hs2])) M0 H0 γ α σ H _ r fun vs H1 s x => by
  obtain ⟨v1, r1, rfl, e1, v2, r2, rfl, e2, e3⟩ := x
  cases e3
  obtain ⟨t1, xs, rfl, sq1, dn1⟩ := id e1
  obtain ⟨t2, ys, rfl, sq2, dn2⟩ := id e2
  refine ⟨t1, t2, rfl, ⟨xs, sq1⟩, ⟨ys, sq2⟩, k _ H1 [(.tup ds, .ref t1), (.tup es, .ref t2)] s (fun p hp => ?_) fun M H2 hg => ?_⟩
  · have hp' : p = (.tup ds, .ref t1) ∨ p = (.tup es, .ref t2) := by simpa using hp
    rcases hp' with rfl | rfl
    · exact e1
    · exact e2
  obtain ⟨q1, xs', ee1, sq1', dn1'⟩ := hg _ (List.mem_cons_self)
  obtain ⟨q2, ys', ee2, sq2', dn2'⟩ := hg _ (List.mem_cons_of_mem _ (List.mem_cons_self))
  cases ee1; cases ee2
  have L1 := dn1'.len
  have L2 := dn2'.len
  refine ⟨fun i d hi => ?_, ⟨xs', ys', sq1', sq2', ?_⟩⟩
  · unfold zipD at hi
    rw [List.getElem?_map] at hi
    cases e : (ds.zip es)[i]? with
    | none => rw [e] at hi; cases hi
    | some pq =>
      rw [e] at hi
      cases hi
      obtain ⟨g1, g2⟩ := List.getElem?_zip_eq_some.mp e
      obtain ⟨x, hx, dx⟩ := dn1'.get g1
      obtain ⟨y, hy, dy⟩ := dn2'.get g2
      refine ⟨⟨xs', ys', x, y, sq1', sq2', hx, hy⟩, fun v H' hv => ?_⟩
      obtain ⟨T, x', y', rfl, hT, rfl, f1, f2⟩ := hv
      have e1 := f1 xs' sq1'
      have e2 := f2 ys' sq2'
      rw [hx] at e1; cases e1
      rw [hy] at e2; cases e2
      exact ⟨same_new hT, T, _, rfl, SqT.of upd_same, _, _, rfl, dx.same (same_new hT), _, _, rfl, dy.same (same_new hT), rfl⟩
  · unfold zipD
    rw [List.length_map, List.length_zip]
    omega)
end
end Z
set_option Elab.async false
set_option linter.all false
set_option maxRecDepth 100000
namespace Z
open PySem PySem.Spec PyProof.Rows L2

/-! ### objects -/
def fldD : List Str → List D → Str → Option D
  | n :: ns, d :: ds, f => if f == n then some d else fldD ns ds f
  | _, _, _ => none
theorem fld_get {K : Frag} {M : MP} {H : Hp} {f : Str} {d : D} : ∀ {ns : List Str} {ds : List D} {fs : List (Str × V)}, fs.map (·.1) = ns → Dns K M H ds (fs.map (·.2)) → fldD ns ds f = some d → ∃ v, fs.lookup f = some v ∧ Dn K M H d v
  | [], _, _, _, _, h => by simp [fldD] at h
  | n :: ns, [], _, _, _, h => by simp [fldD] at h
  | n :: ns, d' :: ds, [], e, _, _ => by cases e
  | n :: ns, d' :: ds, (k, x) :: fs, e, ⟨v, r, e2, h1, h2⟩, h => by
    have ek : k = n := by injection e
    have en : fs.map (·.1) = ns := by injection e
    have ev : x = v := by injection e2
    have er : fs.map (·.2) = r := by injection e2
    subst ek ev er
    unfold fldD at h
    rw [List.lookup_cons]
    cases hb : f == k with
    | true => rw [hb] at h; cases h; exact ⟨x, rfl, h1⟩
    | false => rw [hb] at h; exact fld_get en h2 h
theorem fld_none {f : Str} : ∀ {ns : List Str} {fs : List (Str × V)}, fs.map (·.1) = ns → ns.all (fun n => !(f == n)) = true → fs.lookup f = none
  | _, [], _, _ => rfl
  | ns, (k, x) :: fs, e, h => by
    subst e
    rw [List.map_cons, List.all_cons, Bool.and_eq_true] at h
    rw [List.lookup_cons]
    cases hb : f == k with
    | true => rw [hb] at h; exact absurd h.1 (by decide)
    | false => exact fld_none rfl h.2
/-- what a method promises -/
structure MtD (P : Program) (w : World) (K : Frag) (mg : Str → Option Value) (base : Heap) (CX : CXT) (k : Nat) (C : Addr) (m : Str) {ι : Type} (args : ι → List D) (pre : ι → Prop) (res : ι → Except Addr D) : Prop where
  ex : ∃ (f : Addr) (fd : FuncData) (ps : List Str), FnOk P w K mg base CX k f fd ps (pureSp K args pre res) ∧ Meth K C m f ∧ Binds K fd ps []
section
variable {X : Cx} {ρ : Rho} {M0 : MP} {H0 : Hp} {o e : Expr} {es : List Expr} {d : D} {ds : List D} {ns : List Str} {C : Addr} {f m : Str} {pos p apos : Pos} {CX : CXT} {k : Nat} {x : Str} {ι : Type} {args : ι → List D} {pre : ι → Prop} {res : ι → Except Addr D}
theorem EvD.fld (c : Cls X.K C) (n : NoAttr X.K C f) (h : EvD X ρ e (.ins C ns ds)) (hf : fldD ns ds f = some d) (hb : attributeBase e f X.env (eval e X.env) = eval e X.env := by rfl) : EvD X ρ (.Attribute e f pos) d := fun M0 H0 γ α σ H Q R kk =>
  (pe_fld peE hb).to (h M0 H0 γ α σ H _ R fun v H1 s x => by
    obtain ⟨a, dx, fs, rfl, hH, hn, dn⟩ := x
    obtain ⟨v, l, dv⟩ := fld_get hn dn hf
    exact ⟨a, C, dx, fs, v, rfl, hH, c, n, l, kk v H1 s dv⟩)
theorem EvD.meth0 {pl : Sem Bool} (c : Cls X.K C) (F : MtD X.prog X.w X.K X.mg X.base CX k C m args pre res) (hr : Room k X.A) (hx : Passes CX X E0) (i : ι) (h : EvD X ρ o (.ins C ns ds)) (hi : args i = [.ins C ns ds]) (hp : pre i) (hres : res i = .ok d) (hn : ns.all (fun n => !(m == n)) = true := by decide +kernel)
    (ht : eval (.Call (.Attribute o m apos) [] [] pos) X.env = (do
      let ov ← eval o X.env
      standAt apos.atName
      let (f, first) ← holding [ov] (getMethod ov m pl)
      callWith pos f first (backTo pos (starEach [] X.env)) (backToKw pos (keywordEach [] X.env))) := by rfl) : EvD X ρ (.Call (.Attribute o m apos) [] [] pos) d := fun M0 H0 γ α σ H Q R kk => by
  obtain ⟨f, fd, ps, F, hm, hb⟩ := F.ex
  refine (pe_meth0 peE c hm F hr hb .nil hx ht).to (h M0 H0 γ α σ H _ R fun v H1 s1 dn => ?_)
  obtain ⟨a, dx, fs, rfl, hH, hns, dn'⟩ := id dn
  refine ⟨a, dx, fs, rfl, hH, fld_none hns hn, ?_⟩
  refine ⟨i, MM M0 ρ α, mm_there R s1, by rw [hi]; exact ⟨_, _, rfl, dn, rfl⟩, hp, fun d' e v H2 s2 dn => by rw [hres] at e; cases e; exact kk v H2 (s1.trans s2) dn, fun C e => by rw [hres] at e; cases e⟩
end
section
variable {P : Program} {w : World} {K : Frag} {mg : Str → Option Value} {base : Heap} {CX : CXT} {k : Nat} {x qual : Str} {st : Stmt} {f C : Addr} {fd : FuncData} {N ps : List Str} {ι : Type} {args : ι → List D} {pre : ι → Prop} {res : ι → Except Addr D}
theorem mtD_of (F : Fun K x qual st f fd) (S : FnScope N ps (defScope st)) (hm : Meth K C x f) (hb : Binds K fd ps []) (hl : ∀ i, (args i).length = ps.length)
    (body : ∀ (cdv : Value) (A : Around) (outer : List Env) (s : Shared) (H : Hp) (E : XK) (i : ι) (M0 : MP), pre i → Room k (A.deeper (envOfC qual (defScope st) s.heap.objs.size f cdv)) →
      ∃ d, res i = .ok d ∧ WS (cxOf CX P w K mg base N qual (defScope st) f cdv A outer s H E).nox M0 H (defBody st) (rho0 N (args i)) { N := fun _ => d = .non, R := fun d' => d' = d }) : MtD P w K mg base CX (k + 1) C x args pre res :=
  ⟨f, fd, ps, fnOk_of F S hl body, hm, hb⟩
end

/-! ### an object that is being made -/
def hideH (H : Hp) (x : Addr) : Hp := fun b => if b = x then none else H b
theorem hide_at {H : Hp} {x : Addr} : hideH H x x = none := if_pos rfl
theorem hide_same {H : Hp} {x : Addr} : Same (hideH H x) H := fun b o e => by
  unfold hideH at e
  split at e
  · cases e
  · exact e
/-- no object of a class in it -/
def D.noI : Nat → D → Prop
  | _, .non => True
  | _, .bl _ => True
  | _, .int _ => True
  | _, .str _ => True
  | n + 1, .tup ds => ∀ d ∈ ds, D.noI n d
  | n + 1, .lst ds => ∀ d ∈ ds, D.noI n d
  | _, _ => False
theorem Dns_all {K : Frag} {M : MP} {H H' : Hp} : ∀ {ds : List D} {xs : List V}, (∀ d ∈ ds, ∀ v, Dn K M H d v → Dn K M H' d v) → Dns K M H ds xs → Dns K M H' ds xs
  | [], _, _, r => r
  | d :: ds, _, h, ⟨v, t, e, h1, h2⟩ => ⟨v, t, e, h d (.head _) v h1, Dns_all (fun x hx => h x (.tail _ hx)) h2⟩
theorem Dn.noI {K : Frag} {M : MP} {H H' : Hp} (kk : ∀ b o, H b = some o → (∀ C dx fs, o ≠ .ins C dx fs) → H' b = some o) : ∀ (n : Nat) {d : D} {v : V}, D.noI n d → Dn K M H d v → Dn K M H' d v := by
  intro n
  induction n with
  | zero => intro d v hf h; cases d <;> first | exact h | exact hf.elim
  | succ n ih =>
    intro d v hf h
    cases d with
    | tup ds =>
      obtain ⟨a, xs, e, s, r⟩ := h
      refine ⟨a, xs, e, ?_, Dns_all (fun d hd v => ih (hf d hd)) r⟩
      rcases s with (s | ⟨o, s⟩) | s
      · exact .inl (.inl (kk _ _ s (by intros; intro z; cases z)))
      · exact .inl (.inr ⟨o, kk _ _ s (by intros; intro z; cases z)⟩)
      · exact .inr s
    | lst ds =>
      obtain ⟨a, xs, e, s, r⟩ := h
      refine ⟨a, xs, e, ?_, Dns_all (fun d hd v => ih (hf d hd)) r⟩
      rcases s with ⟨s | ⟨o, s⟩, m⟩ | s
      · exact .inl ⟨.inl (kk _ _ s (by intros; intro z; cases z)), m⟩
      · exact .inl ⟨.inr ⟨o, kk _ _ s (by intros; intro z; cases z)⟩, m⟩
      · exact .inr s
    | non => exact h
    | bl _ => exact h
    | int _ => exact h
    | str _ => exact h
    | _ => exact hf.elim
theorem kk_ins {H : Hp} {x C dx : Addr} {fs fs' : List (Str × V)} (hx : H x = some (.ins C dx fs)) : ∀ b o, H b = some o → (∀ C dx fs, o ≠ .ins C dx fs) → upd H x (.ins C dx fs') b = some o := fun b o e n => by
  by_cases hb : b = x
  · subst hb
    rw [hx] at e; cases e
    exact absurd rfl (n _ _ _)
  · rw [upd_ne hb]; exact e
theorem Rep.ins {K : Frag} {M0 : MP} {H0 H : Hp} {α : Nat → Addr} {ρ : Rho} {σ : St} {x C dx : Addr} {fs fs' : List (Str × V)} (r : Rep K M0 H0 [] α ρ σ H) (h0 : H0 x = none) (hx : H x = some (.ins C dx fs)) (hi : ∀ s ∈ ρ, s = .un ∨ ∃ d, s = .im d ∧ D.noI 9 d) : Rep K M0 H0 [] α ρ σ (upd H x (.ins C dx fs')) := by
  have nomu : ∀ (i : Nat) (ds : List D), ρ[i]? = some (.mu ds) → False := fun i ds e => by
    rcases hi _ (List.mem_of_getElem? e) with z | ⟨d, z, _⟩ <;> cases z
  refine ⟨same_upd_none r.same h0, r.old, r.inj, fun i d e => ?_, fun i ds e => (nomu i ds e).elim, (fun p hp => by cases hp), r.len⟩
  obtain ⟨v, h1, h2⟩ := r.im i d e
  rcases hi _ (List.mem_of_getElem? e) with z | ⟨d', z, n⟩
  · cases z
  · cases z
    exact ⟨v, h1, Dn.noI (kk_ins hx) 9 n h2⟩
section
variable {X : Cx} {ρ : Rho} {M0 : MP} {H0 H : Hp} {γ : List (D × V)} {α : Nat → Addr} {σ : St} {En : Ends} {c e : Expr} {d : D} {s1 : List Stmt} {pos pos' p : Pos} {x C dx : Addr} {f y : Str} {fs : List (Str × V)}
theorem skipIf (h : TvD X ρ c false) (R : Rep X.K M0 H0 γ α ρ σ H) (k : ∀ H', Same H H' → En.nx σ H') : tS X (.If c s1 [] pos) En σ H :=
  (ps_if ptT psSs psSs).to (h M0 H0 γ α σ H _ R fun H1 s => iteF (pss_nil.to (k H1 s)))
theorem setFld (i : Nat) (hN : X.N[i]? = some y) (hv : Vis X.env.scope y) (hσ : σ[i]? = some (some (.ref x))) (cl : Cls X.K C) (n : NoAttr X.K C f) (hl : fs.length < 1000) (h : EvD X ρ e d) (R : Rep X.K M0 H0 γ α ρ σ H) (hx : H x = some (.ins C dx fs))
    (k : ∀ v H1, Same H H1 → Dn X.K (MM M0 ρ α) H1 d v → En.nx σ (upd H1 x (.ins C dx (putF f v fs)))) (hs : swapsWith e (some (.Attribute (.Name y p) f pos')) pos.line X.env = pure false := by rfl) (hd : (y == ("__debug__" : Str)) = false := by decide) (hcd : (y == ("__classdict__" : Str)) = false := by decide) :
    tS X (.Assign [.Attribute (.Name y p) f pos'] e pos) En σ H :=
  (ps_fld (pe_var hN hv hd hcd) peE hs).to (h M0 H0 γ α σ H _ R fun v H1 s dn => ⟨_, hσ, x, C, dx, fs, rfl, s _ _ hx, cl, n, hl, k v H1 s dn⟩)
theorem setFldP {W : D → Prop} (i : Nat) (hN : X.N[i]? = some y) (hv : Vis X.env.scope y) (hσ : σ[i]? = some (some (.ref x))) (cl : Cls X.K C) (n : NoAttr X.K C f) (hl : fs.length < 1000) (h : EvP X ρ e W) (R : Rep X.K M0 H0 γ α ρ σ H) (hx : H x = some (.ins C dx fs))
    (k : ∀ d v H1, W d → Same H H1 → Dn X.K (MM M0 ρ α) H1 d v → En.nx σ (upd H1 x (.ins C dx (putF f v fs)))) (hs : swapsWith e (some (.Attribute (.Name y p) f pos')) pos.line X.env = pure false := by rfl) (hd : (y == ("__debug__" : Str)) = false := by decide) (hcd : (y == ("__classdict__" : Str)) = false := by decide) :
    tS X (.Assign [.Attribute (.Name y p) f pos'] e pos) En σ H :=
  (ps_fld (pe_var hN hv hd hcd) peE hs).to (h M0 H0 γ α σ H _ R fun d v H1 hd s dn => ⟨_, hσ, x, C, dx, fs, rfl, s _ _ hx, cl, n, hl, k d v H1 hd s dn⟩)
end
/-- what __init__ promises: the fields' data -/
def mkSp (K : Frag) (C : Addr) (ns : List Str) {ι : Type} (args : ι → List D) (pre : ι → Prop) (res : ι → List D → Prop) : Sp := fun vs H Q E =>
  ∃ (i : ι) (M0 : MP) (x dx : Addr) (us : List V), vs = .ref x :: us ∧ H x = some (.ins C dx []) ∧ (∀ a, M0 a → hideH H x a ≠ none) ∧ Dns K M0 H (args i) us ∧ pre i ∧
    ∀ ds fs H', res i ds → Same (hideH H x) H' → H' x = some (.ins C dx fs) → fs.map (·.1) = ns → Dns K M0 H' ds (fs.map (·.2)) → Q .non H'
structure MkD (P : Program) (w : World) (K : Frag) (mg : Str → Option Value) (base : Heap) (CX : CXT) (k : Nat) (x : Str) (C : Addr) (ns : List Str) {ι : Type} (args : ι → List D) (pre : ι → Prop) (res : ι → List D → Prop) : Prop where
  ex : ∃ (f : Addr) (fd : FuncData) (ps : List Str), FnOk P w K mg base CX k f fd ps (mkSp K C ns args pre res) ∧ Mk K C f ∧ mg x = some (.ref C) ∧ Binds K fd ps []
section
variable {X : Cx} {ρ : Rho} {e : Expr} {es : List Expr} {C : Addr} {x : Str} {ns : List Str} {pos p : Pos} {CX : CXT} {k : Nat} {ι : Type} {args : ι → List D} {pre : ι → Prop} {res : ι → List D → Prop}
theorem EvP.make (F : MkD X.prog X.w X.K X.mg X.base CX k x C ns args pre res) (hr : Room (k + 1) X.A) (hx : Passes CX X E0) (hg : Gl X x) (i : ι) (ha : AvD X ρ (e :: es) (args i)) (hp : pre i) (hdb : (x == ("__debug__" : Str)) = false := by decide)
    (he : starEach (e :: es) X.env = (false, eval e X.env) :: starEach es X.env := by rfl) (hpl : (backTo pos (starEach es X.env)).any (·.1) = false := by rfl) : EvP X ρ (.Call (.Name x p) (e :: es) [] pos) (fun d => ∃ ds, d = .ins C ns ds ∧ res i ds) := fun M0 H0 γ α σ H Q R kk => by
  obtain ⟨f, fd, ps, F, M, hm, hb⟩ := F.ex
  refine (pe_make M F hr hg hm hb .nil hx paA hdb he hpl).to (ha M0 H0 γ α σ H _ R fun vs H1 s1 d1 => fun y dy n1 n2 ne => ?_)
  rw [List.append_nil]
  have sm : Same H1 (upd (upd H1 dy (.own y)) y (.ins C dy [])) := fun b o e => by rw [upd_ne (ne_of_none e n1), upd_ne (ne_of_none e n2)]; exact e
  have smh : Same H1 (hideH (upd (upd H1 dy (.own y)) y (.ins C dy [])) y) := fun b o e => by
    unfold hideH
    rw [if_neg (ne_of_none e n1)]
    exact sm b o e
  refine ⟨i, MM M0 ρ α, y, dy, vs, rfl, upd_same, fun a ha z => mm_there R s1 a ha (smh.free z), d1.same sm, hp, fun ds fs H' hres s2 hy hns dn => ⟨rfl, kk (.ins C ns ds) (.ref y) H' ⟨ds, rfl, hres⟩ ((s1.trans smh).trans s2) ⟨y, dy, fs, rfl, hy, hns, dn⟩⟩⟩
end
end Z
set_option Elab.async false
set_option linter.all false
set_option maxRecDepth 100000
namespace Z
open PySem PySem.Spec PyProof.Rows L2

/-! ### a comprehension that takes one name from around -/
def cfStep (env : Env) (x : Str × NameKind) (r : List (Str × Addr)) : Sem (ForInStep (List (Str × Addr))) := do
  if x.2 == NameKind.free then do
    let a ← cellOf env x.1
    pure (ForInStep.yield ((x.1, a) :: r))
  else pure (ForInStep.yield r)
theorem cf_skip {env : Env} : ∀ (l rest : List (Str × NameKind)) (acc : List (Str × Addr)), (∀ z ∈ l, z.2 ≠ .free) → forIn (l ++ rest) acc (cfStep env) = forIn rest acc (cfStep env)
  | [], _, _, _ => rfl
  | z :: l, rest, acc, h => by
    have hz : (z.2 == NameKind.free) = false := by simpa using h z (.head _)
    rw [List.cons_append, List.forIn_cons]
    have e : cfStep env z acc = pure (ForInStep.yield acc) := by unfold cfStep; rw [hz]; rfl
    rw [e]
    simp only [pure_bind]
    exact cf_skip l rest acc fun w hw => h w (.tail _ hw)
theorem closureFor_one {scope : Scope} {env : Env} {y : Str} {c : Addr} {pre post : List (Str × NameKind)} (hs : scope.names = pre ++ (y, .free) :: post) (h1 : ∀ z ∈ pre, z.2 ≠ .free) (h2 : ∀ z ∈ post, z.2 ≠ .free) (hc : env.cells.lookup y = some c) : closureFor scope env = pure [(y, c)] := by
  have all : forIn scope.names ([] : List (Str × Addr)) (cfStep env) = pure [(y, c)] := by
    rw [hs, cf_skip pre _ [] h1, List.forIn_cons]
    have e : cellOf env y = pure c := by unfold cellOf; rw [hc]
    have e2 : cfStep env (y, .free) [] = pure (ForInStep.yield [(y, c)]) := by
      unfold cfStep
      simp only [beq_self_eq_true, if_true, e, pure_bind]
    rw [e2]
    simp only [pure_bind]
    have := cf_skip (env := env) post [] [(y, c)] h2
    rw [List.append_nil] at this
    rw [this]
    rfl
  have e2 := congrArg (fun m => m >>= fun r => (pure r : Sem (List (Str × Addr)))) all
  have e3 : closureFor scope env = (forIn scope.names ([] : List (Str × Addr)) (cfStep env) >>= fun r => pure r) := rfl
  rw [e3, all]
  rfl
theorem CompOk.cap1 {X : Cx} {scope : Scope} {x y : Str} {c : Addr} {j : Nat} {pre post rn : List (Str × NameKind)} (hs : scope.names = pre ++ (y, .free) :: post) (h1 : ∀ z ∈ pre, z.2 ≠ .free) (h2 : ∀ z ∈ post, z.2 ≠ .free) (hcl : X.env.cells.lookup y = some c)
    (hc : ∀ z ∈ scope.names, z.2 ≠ .cell) (hk : scope.kind = .function) (hn : ∀ y ∈ scope.names, y.2 = .local → scope.names.lookup y.1 = some .local) (ho : scope.names.lookup x = some .local) (hj : X.N[j]? = some y) (hy : X.env.scope.names.lookup y = some .cell)
    (hrel : (relabel scope X.env).names = rn) (hrn : rn.lookup y = some .cell) (hall : ∀ z ∈ rn, (z.2 = .cell ∨ z.2 = .free) → z.1 = y) : CompOk X [x, y] [j] scope x [(y, c)] where
  clos := closureFor_one hs h1 h2 hcl
  cell := hc
  kind := hk
  names := hn
  own := ho
  hN := ⟨[y], rfl, rfl, fun i z k e1 e2 => by
    cases i with
    | zero =>
      have e1' : y = z := by simpa using e1
      have e2' : j = k := by simpa using e2
      subst e1' e2'
      refine ⟨hj, hy, by rw [hrel]; exact hrn, fun c' e => ?_⟩
      rw [hcl] at e
      cases e
      simp
    | succ i => simp at e1⟩
  sub := fun z d h => by
    rw [List.lookup_cons] at h
    cases hb : z == y with
    | true =>
      rw [hb] at h
      cases h
      rw [beq_iff_eq.mp hb]
      exact hcl
    | false => rw [hb] at h; simp at h
  has := fun z h => by
    rw [hrel] at h
    have : z = y := by
      rcases h with h | h
      · exact hall _ (PySem.mem_of_lookup h) (.inl rfl)
      · exact hall _ (PySem.mem_of_lookup h) (.inr rfl)
    subst this
    exact ⟨c, by simp⟩
theorem cap1R {ρ : Rho} {j : Nat} {c : D} (h : ρ[j]? = some (.im c)) : CapR ρ [j] [c] := ⟨rfl, fun k i d e1 e2 => by
  cases k with
  | zero =>
    have e1' : j = i := by simpa using e1
    have e2' : c = d := by simpa using e2
    subst e1' e2'
    exact h
  | succ k => simp at e1⟩

/-! ### isinstance of one of two types -/
section
variable {X : Cx} {ρ : Rho} {e a b : Expr} {d : D} {ds : List D} {pos p p2 p3 p4 : Pos}
def rIsi2 (K : Frag) : List V → Hp → VK → Prop := fun xs H Q => ∃ v tp M d, xs = [v, .ref tp] ∧ H tp = some (.tup [.ty "list", .ty "tuple"]) ∧ DnT K M H d v ∧ plainD d = true ∧ Q (.bl (isT "list" d || isT "tuple" d)) H
theorem call_isi2 : CallR X (.builtin "isinstance") (rIsi2 X.K) := by
  intro pins s σ H xs us Q I r ⟨v, tp, M, d, e, ht, h, hp, q⟩
  subst e
  obtain ⟨u, c, rfl, r1, r2⟩ := vals2 r
  cases (show c = Value.ref tp from r2)
  obtain ⟨_, its, rv, o, ho, hc, n, hd⟩ := (show ObjOk X.prog X.w H s.heap tp (.tup [.ty "list", .ty "tuple"]) from I.hok tp _ ht)
  obtain ⟨oc, od, dt, sl⟩ := o
  cases (show oc = _ from hc)
  cases (show dt = _ from hd)
  cases rv with
  | cons q1 rv =>
    cases rv with
    | cons q2 rv =>
      cases rv
      cases (show _ = Value.type "list" from q1)
      cases (show _ = Value.type "tuple" from q2)
      refine isi_tup (its := [.type "list", .type "tuple"]) (r := isT "list" d || isT "tuple" d) I h r1 hp ho ?_ fun tk => ⟨.bl _, H, I.tok tk, rfl, q⟩
      cases d <;> first | rfl | (cases hp)
theorem EvD.isi2 {x1 : Nat} (hg : Gl X "isinstance") (hm : X.mg "isinstance" = none) (hg1 : Gl X "list") (hm1 : X.mg "list" = none) (hg2 : Gl X "tuple") (hm2 : X.mg "tuple" = none) (h : EvR X ρ e d) (hp : plainD d = true)
    (he : starEach [e, .Tuple [.Name "list" p2, .Name "tuple" p3] x1 p4] X.env = (false, eval e X.env) :: starEach [.Tuple [.Name "list" p2, .Name "tuple" p3] x1 p4] X.env := by rfl) (he2 : starEach [.Tuple [.Name "list" p2, .Name "tuple" p3] x1 p4] X.env = [(false, eval (.Tuple [.Name "list" p2, .Name "tuple" p3] x1 p4) X.env)] := by rfl)
    (he3 : starEach [.Name "list" p2, .Name "tuple" p3] X.env = [(false, eval (.Name "list" p2) X.env), (false, eval (.Name "tuple" p3) X.env)] := by rfl) (he4 : starEach [.Name "tuple" p3] X.env = [(false, eval (.Name "tuple" p3) X.env)] := by rfl)
    (hpl : (backTo pos (starEach [.Tuple [.Name "list" p2, .Name "tuple" p3] x1 p4] X.env)).any (·.1) = false := by rfl) :
    EvD X ρ (.Call (.Name "isinstance" p) [e, .Tuple [.Name "list" p2, .Name "tuple" p3] x1 p4] [] pos) (.bl (isT "list" d || isT "tuple" d)) := fun M0 H0 γ α σ H Q R k =>
  (pe_callB call_isi2 hg hm boot_isinstance (pa_cons peE (pa_cons (pe_tup (pa_cons (pe_bltn (v := .ty "list") hg1 hm1 (by decide +kernel) rfl (by decide) (by decide)) (pa_cons (pe_bltn (v := .ty "tuple") hg2 hm2 (by decide +kernel) rfl (by decide) (by decide)) pa_nil he4) (by rw [he3, he4]))) pa_nil he2) he) (by decide) (by decide) he hpl).to
    (h M0 H0 γ α σ H _ R fun v H1 s1 d1 => ⟨by show 2 ≤ sizeLine; decide, fun q hq => ⟨v, q, _, d, rfl, upd_same, d1.same (same_new hq), hp, k _ _ (s1.trans (same_new hq)) rfl⟩⟩)
end
end Z
set_option Elab.async false
set_option linter.all false
set_option maxRecDepth 100000
namespace K
open PySem L2 Z

/-! ### what _law_standing gives is good -/


structure Bm (mg : Str → Option Value) : Prop extends Bn mg where
  isi : mg "isinstance" = none
  int : mg "int" = none
  bool : mg "bool" = none
  all : mg "all" = none
  any : mg "any" = none
  zip : mg "zip" = none
  sorted : mg "sorted" = none
  min : mg "min" = none
  max : mg "max" = none
  few : ∃ t, mg "FEWEST_STACKS" = some (.int 2 t)
  most : ∃ t, mg "MOST_STACKS" = some (.int 4 t)
  low : ∃ t, mg "LOWEST_HEIGHT" = some (.int 1 t)
  great : ∃ t, mg "GREATEST_HEIGHT" = some (.int 6 t)
  weak : ∃ t, mg "WEAKEST_CRANE" = some (.int 1 t)
  strong : ∃ t, mg "STRONGEST_CRANE" = some (.int 3 t)
  mostB : ∃ t, mg "MOST_BANS" = some (.int 20 t)
  fst : ∃ t, mg "FIRST_CRATE" = some (.int 0 t)
  lst : ∃ t, mg "LAST_CRATE" = some (.int 9 t)
theorem gInt {X : Cx} {ρ : Rho} {x : Str} {z : Int} {pos : Pos} (h : ∃ t, X.mg x = some (.int z t)) (hg : Gl X x) (hd : (x == ("__debug__" : Str)) = false := by decide) : EvD X ρ (.Name x pos) (.int z) :=
  let ⟨t, e⟩ := h; EvD.glob (v := .int z) hg e ⟨t, rfl⟩ (fun _ _ => rfl) hd


abbrev sFl (i : Nat) : Stmt := inClass (top 20) i
abbrev sInit : Stmt := inClass (top 20) 0
abbrev sIsGood : Stmt := top 21
abbrev sGoodStack : Stmt := top 22
abbrev sAreBans : Stmt := top 23
abbrev sIsBan : Stmt := top 24
abbrev sCrate : Stmt := top 25
abbrev sWithin : Stmt := top 26
section
variable {P : Program} {w : World} {K : Frag} {mg : Str → Option Value} {base : Heap} {CX : CXT}
theorem scWithin : FnScope ["value", "least", "most"] ["value", "least", "most"] (defScope sWithin) := ⟨rfl, rfl, rfl, by decide +kernel, rfl, by decide +kernel, by decide +kernel⟩
abbrev FWithin (P : Program) (w : World) (K : Frag) (mg : Str → Option Value) (base : Heap) (CX : CXT) : Prop :=
  FnD P w K mg base CX 1 "is_within" (fun i : Int × Int × Int => [.int i.1, .int i.2.1, .int i.2.2]) (fun _ => True) (fun i => .ok (.bl (decide (i.2.1 ≤ i.1) && decide (i.1 ≤ i.2.2))))
theorem ok_within {f : Addr} {fd : FuncData} (B : Bm mg) (F : Fun K "is_within" "is_within" sWithin f fd) (hm : mg "is_within" = some (.ref f)) (hb : Binds K fd ["value", "least", "most"] []) : FWithin P w K mg base CX := by
  refine fnD_of F scWithin hm hb (fun i => rfl) fun cdv A outer s H E i M0 hp hr => ⟨_, rfl, ?_⟩
  obtain ⟨v, lo, hi⟩ := i
  refine WS.cons (W1.ite (TwD.t (TwD.or (TvD.not (TvD.val (EvD.isi rfl B.isi rfl B.int (by decide +kernel) (.inl rfl) (EvD.r (nm 0 rfl rfl)) rfl))) fun _ => TwD.or1 (TvD.val (EvD.isi rfl B.isi rfl B.bool (by decide +kernel) (.inr (.inl rfl)) (EvD.r (nm 0 rfl rfl)) rfl)))) (fun h => ?_) fun h => WS.nil ?_)
  · rw [isT_int, isT_bool] at h
    cases h
  · exact WS.one (W1.ret (EvD.chain .le .le (nm 1 rfl rfl) (nm 0 rfl rfl) (nm 2 rfl rfl)) rfl)
def crateOk (i : Int) : Bool := decide (0 ≤ i) && decide (i ≤ 9)
theorem scCrate : FnScope ["value"] ["value"] (defScope sCrate) := ⟨rfl, rfl, rfl, by decide +kernel, rfl, by decide +kernel, by decide +kernel⟩
abbrev FCrate (P : Program) (w : World) (K : Frag) (mg : Str → Option Value) (base : Heap) (CX : CXT) : Prop :=
  FnD P w K mg base CX 2 "is_crate" (fun i : Int => [.int i]) (fun _ => True) (fun i => .ok (.bl (crateOk i)))
theorem ok_crate {f : Addr} {fd : FuncData} (nx : NX CX) (B : Bm mg) (G : FWithin P w K mg base CX) (F : Fun K "is_crate" "is_crate" sCrate f fd) (hm : mg "is_crate" = some (.ref f)) (hb : Binds K fd ["value"] []) : FCrate P w K mg base CX := by
  refine fnD_of F scCrate hm hb (fun i => rfl) fun cdv A outer s H E i M0 hp hr => ⟨_, rfl, ?_⟩
  exact WS.one (W1.ret (EvD.call G hr (passNX nx) rfl (i, 0, 9) (AvD.cons (nm 0 rfl rfl) (AvD.cons (gInt B.fst rfl) (AvD.cons (gInt B.lst rfl) AvD.nil))) trivial rfl) rfl)
theorem scIsBan : FnScope ["ban"] ["ban"] (defScope sIsBan) := ⟨rfl, rfl, rfl, by decide +kernel, rfl, by decide +kernel, by decide +kernel⟩
def banOk (p : Int × Int) : Bool := crateOk p.1 && (crateOk p.2 && !decide (p.1 = p.2))
abbrev FIsBan (P : Program) (w : World) (K : Frag) (mg : Str → Option Value) (base : Heap) (CX : CXT) : Prop :=
  FnD P w K mg base CX 3 "is_ban" (fun p : Int × Int => [pD p]) (fun _ => True) (fun p => .ok (.bl (banOk p)))
theorem ok_isBan {f : Addr} {fd : FuncData} (nx : NX CX) (B : Bm mg) (G : FCrate P w K mg base CX) (F : Fun K "is_ban" "is_ban" sIsBan f fd) (hm : mg "is_ban" = some (.ref f)) (hb : Binds K fd ["ban"] []) : FIsBan P w K mg base CX := by
  refine fnD_of F scIsBan hm hb (fun i => rfl) fun cdv A outer s H E p M0 hp hr => ⟨_, rfl, ?_⟩
  obtain ⟨p1, p2⟩ := p
  refine WS.cons (W1.ite (TwD.t (TwD.or (TvD.not (TvD.val (EvD.isi rfl B.isi rfl B.tuple (by decide +kernel) (.inr (.inr (.inr (.inl rfl)))) (EvD.r (nm 0 rfl rfl)) rfl))) fun _ => TwD.or1 (TvD.cI .ne (EvD.lenT rfl B.len (nm 0 rfl rfl)) EvD.int))) (fun h => ?_) fun h => WS.nil ?_)
  · rw [show isT "tuple" (pD (p1, p2)) = true from rfl] at h
    simp at h
  · exact WS.one (W1.ret (EvD.and (EvD.call G hr (passNX nx) rfl p1 (AvD.cons (EvD.ixT (nm 0 rfl rfl) EvD.int rfl) AvD.nil) trivial rfl) fun _ => EvD.and (EvD.call G hr (passNX nx) rfl p2 (AvD.cons (EvD.ixT (nm 0 rfl rfl) EvD.int rfl) AvD.nil) trivial rfl) fun _ => EvD.one (EvD.cI .ne (EvD.ixT (nm 0 rfl rfl) EvD.int rfl) (EvD.ixT (nm 0 rfl rfl) EvD.int rfl))) rfl)
theorem scAreBans : FnScope ["bans"] ["bans"] (defScope sAreBans) := ⟨rfl, rfl, rfl, by decide +kernel, rfl, by decide +kernel, by decide +kernel⟩
abbrev FAreBans (P : Program) (w : World) (K : Frag) (mg : Str → Option Value) (base : Heap) (CX : CXT) : Prop :=
  FnD P w K mg base CX 4 "are_bans" (fun ps : List (Int × Int) => [.lst (ps.map pD)]) (fun ps => ps.length ≤ 100) (fun ps => .ok (.bl (decide (ps.length ≤ 20) && ps.all banOk)))
theorem ok_areBans {f : Addr} {fd : FuncData} (nx : NX CX) (B : Bm mg) (G : FIsBan P w K mg base CX) (F : Fun K "are_bans" "are_bans" sAreBans f fd) (hm : mg "are_bans" = some (.ref f)) (hb : Binds K fd ["bans"] []) : FAreBans P w K mg base CX := by
  refine fnD_of F scAreBans hm hb (fun i => rfl) fun cdv A outer s H E ps M0 hp hr => ⟨_, rfl, ?_⟩
  have hp' : ps.length ≤ 100 := hp
  refine WS.cons (W1.ite (TwD.t (TwD.or (TvD.not (TvD.val (EvD.isi2 rfl B.isi rfl B.list rfl B.tuple (EvD.r (nm 0 rfl rfl)) rfl))) fun _ => TwD.or1 (TvD.cI .gt (EvD.lenL rfl B.len (EvD.r (nm 0 rfl rfl))) (gInt B.mostB rfl)))) (fun h => ?_) fun h => WS.nil ?_)
  · rw [show (isT "list" (D.lst (ps.map pD)) || isT "tuple" (D.lst (ps.map pD))) = true from rfl, List.length_map] at h
    have h' : (20 : Int) < (ps.length : Int) := by simpa using h
    refine WS.one (W1.ret EvD.bl ?_)
    show D.bl false = D.bl (decide (ps.length ≤ 20) && ps.all banOk)
    rw [decide_eq_false (by omega)]
    rfl
  · rw [show (isT "list" (D.lst (ps.map pD)) || isT "tuple" (D.lst (ps.map pD))) = true from rfl, List.length_map] at h
    have h' : ¬ (20 : Int) < (ps.length : Int) := by simpa using h
    refine WS.one (W1.ret (EvD.to (EvD.all (bs := ps.map banOk) rfl rfl B.all (EvD.r (EvF.toD (EvF.comp (ds := ps.map pD) (es := (ps.map banOk).map D.bl) (cs := []) (CompOk.closed (by decide +kernel) (by decide +kernel) rfl (by decide +kernel) rfl) rfl (by decide +kernel) (IvD.list (nm 0 rfl rfl)) capNil (by simp) (by rw [List.length_map]; omega) ?_)))) (d' := .bl (decide (ps.length ≤ 20) && ps.all banOk)) (by rw [List.all_map, decide_eq_true (show ps.length ≤ 20 by omega)]; rfl)) rfl)
    intro C s₀ H₀ fp pins i d e h1 h2
    rw [List.getElem?_map] at h1
    rw [List.getElem?_map, List.getElem?_map] at h2
    cases ei : ps[i]? with
    | none => rw [ei] at h1; cases h1
    | some v =>
      rw [ei] at h1 h2
      cases h1
      cases h2
      exact EvD.call G hr (passNX nx) rfl v (AvD.cons (nm 0 rfl rfl) AvD.nil) trivial rfl
end
end K
set_option Elab.async false
set_option linter.all false
set_option maxRecDepth 100000
namespace Z
open PySem PySem.Spec PyProof.Rows L2

/-! ### sorted(..) of ints -/
def srt (ns : List Int) : List Int := ns.mergeSort fun a b => decide (a ≤ b)
section
variable {X : Cx} {ρ : Rho} {M0 : MP} {H0 : Hp} {P : Post} {e a b c tg : Expr} {d : D} {ds : List D} {pos p p1 p2 : Pos}
/-! ### is not True -/
theorem op_isnotB : OpR X (compareOp .IsNot) (fun x y H Q => ∃ i j, x = .bl i ∧ y = .bl j ∧ Q (.bl (i != j)) H) := by
  intro pins s σ H x y v u Q I rx ry h
  obtain ⟨i, j, rfl, rfl, q⟩ := h
  cases rx
  cases ry
  exact isnot_bool (fin_bl I q rfl)
theorem TvD.notB {i j : Bool} {k p'} (ha : EvD X ρ a (.bl i)) : TvD X ρ (.Compare a [.IsNot] [.Constant (.bool j) k p'] pos) (i != j) :=
  TvD.cmp op_isnotB (EvD.r ha) (EvD.r EvD.bl) (nomark _) fun M H x y Q dx dy k => ⟨i, j, dx, dy, k⟩
/-! ### range downwards -/
def Itdn (lo : Int) (n : Nat) : It := ⟨fun i _ => i < n, fun i H x H' => H' = H ∧ x = .int (lo - i), fun i _ => n ≤ i⟩
def iDown (ta : TA) : TI := fun σ H R => ta σ H fun vs H1 => ∃ i j : Int, vs = [.int i, .int j, .int (-1)] ∧ (-(2 ^ 30) ≤ i ∧ i < 2 ^ 30 ∧ -(2 ^ 30) ≤ j ∧ j < 2 ^ 30) ∧ R (Itdn i (i - j).toNat) H1
/-- lo, lo - 1, .., n of them -/
def dnD (lo : Int) (n : Nat) : List D := (List.range n).map fun (i : Nat) => D.int (lo - (i : Int))
end
end Z
set_option Elab.async false
set_option linter.all false
set_option maxRecDepth 100000
namespace Z
open PySem PySem.Spec PyProof.Rows L2

/-! ### a comprehension whose items are new lists of ints: all apart -/
/-- the list at D0 holds the lists at as, which hold the rows -/
structure RowsAt (H1 : Hp) (D0 : Addr) (as : List Addr) (rows : List (List Int)) (H : Hp) : Prop where
  at_ : H D0 = some (.lst (as.map V.ref))
  len : as.length = rows.length
  nd : as.Nodup
  no : D0 ∉ as
  old : H1 D0 = none
  row : ∀ (j : Nat) (a : Addr) (r : List Int), as[j]? = some a → rows[j]? = some r → H1 a = none ∧ H a = some (.lst (r.map V.int))
structure CInvF (H1 : Hp) (es : List (List Int)) (i : Nat) (D0 : Addr) (as : List Addr) (H : Hp) : Prop where
  same : Same H1 H
  rows : RowsAt H1 D0 as (es.take i) H
section
variable {X : Cx} {pins : List (Addr × Obj)} {σ : St} {H1 : Hp} {s₂ : Shared} {N' : List Str} {js : List Nat} {scope : Scope} {x : Str} {cl : List (Str × Addr)} {px pos : Pos} {elt iter : Expr} {J : It} {fp : List Addr} {it : Addr} {tn : Nat → Heap → Prop}
  {ds cs : List D} {es : List (List Int)} {gs : List (D × V)} {M : MP} {E : Value → Shared → Prop} {RR : Value → Addr → Result → Shared → Prop}
end
end Z
set_option Elab.async false
set_option linter.all false
set_option maxRecDepth 100000
namespace Z
open PySem PySem.Spec PyProof.Rows L2
/-! ### lists of ints inside a list, changed -/
def rowL (r : List Int) : D := .lst (r.map .int)
def rowsL (rows : List (List Int)) : D := .lst (rows.map rowL)
section
variable {K : Frag} {M0 M : MP} {H0 Hs H H' : Hp} {γ : List (D × V)} {α : Nat → Addr} {ρ : Rho} {σ : St} {D0 : Addr} {as : List Addr} {rows : List (List Int)}
def plainRho (ρ : Rho) : Prop := ∀ s ∈ ρ, s = .un ∨ ∃ d, s = .im d ∧ D.noL 9 d
end
section
variable {X : Cx} {ρ : Rho} {M0 : MP} {H0 Hs H : Hp} {γ : List (D × V)} {α : Nat → Addr} {σ : St} {En : Ends} {D0 : Addr} {as : List Addr} {rows : List (List Int)} {x : Str} {b e f : Expr} {p1 p2 p3 p4 p5 pos : Pos} {i n : Nat} {r : List Int}
def rInsert : V → List V → Hp → VK → Prop := fun x vs H Q => ∃ l xs k y, x = .ref l ∧ vs = [.int k, .int y] ∧ H l = some (.lst xs) ∧ 0 ≤ k ∧ k ≤ xs.length ∧ xs.length < 1000000 ∧ Q .non (upd H l (.lst (xs.take k.toNat ++ V.int y :: xs.drop k.toNat)))
end
section
variable {P : Program} {w : World} {K : Frag} {mg : Str → Option Value} {base : Heap} {CX : CXT} {k : Nat} {x qual : Str} {st : Stmt} {f : Addr} {fd : FuncData} {N ps : List Str} {ι : Type} {args : ι → List D} {pre : ι → Prop} {res : ι → Except Addr D}
end
end Z
set_option Elab.async false
set_option linter.all false
set_option maxRecDepth 100000
namespace Z
open PySem PySem.Spec PyProof.Rows

/-! ### an exception leaves a frame: what changes -/
abbrev frL (l : List Env) : List Addr := l.filterMap (·.frame)
/-- the exception at e has the traceback at T -/
def Trd (h : Heap) (e T : Addr) (cls : Value) : Prop :=
  T ≠ e ∧ (∃ oe vs, h.get? e = some oe ∧ oe.cls = cls ∧ oe.data = .fields vs ∧ vs[1]? = some (.ref T) ∧ oe.dict = none) ∧ ∃ oT ts, h.get? T = some oT ∧ oT.data = .fields ts ∧ ts[3]? = some .none
/-- all but the records at ch, the frames' slots -/
structure LeftX (l : List Env) (ch : List Addr) (e T : Addr) (cls : Value) (h h' : Heap) : Prop where
  new : h.objs.size ≤ T
  tr : Trd h' e T cls
  keep : ∀ b o, b ∉ ch → b ∉ frL l → h.get? b = some o → h'.get? b = some o
  slot : ∀ b o, b ∈ frL l → h.get? b = some o → ∃ sl, h'.get? b = some { o with slots := sl }
section
variable {M : Model} {A : Around} {E : Value → Shared → Prop} {s : Shared}
theorem dict_map (f : Array Value → Array Value) (o : Obj) : (Obj.mapFields f o).dict = o.dict := by
  obtain ⟨c, d, dt, sl⟩ := o
  cases dt <;> rfl
theorem leave_core {base : Heap} {env : Env} {outer : List Env} {L e : Addr} {oe : Obj} {vs : Array Value} {head : Value} {hn : Bool} {Q : Unit → Shared → Prop}
    (hfr : A.frames = some (env :: outer)) (hl : s.heap.FunFrames base (env :: outer)) (hf : env.frame = some L) (he : s.heap.get? e = some oe) (hd : oe.data = .fields vs) (hsz : 1 < vs.size) (hdn : oe.dict = none)
    (h : ∀ h' T, LeftX (env :: outer) [e] e T oe.cls s.heap h' → Q () { s with heap := h' }) :
    wpAny M A (do let a ← frameOf env; let pl ← entryPlaceOf L hn; let b ← EntryCells.newEntry head a .none (rawInt L) .none pl; setField (.ref e) 1 b) (fun _ s' => wpAny M A (setFlight (.ref e) none) Q E s') E s := by
  have nofr : ∀ b ∈ frL (env :: outer), b ≠ e := fun b hb q => by
    obtain ⟨_, o, ho, nf⟩ := hl.mem hb
    rw [q, he] at ho
    cases ho
    exact nf vs hd
  refine wpAny_bind (wpAny_frameOf_fun hfr hl hf fun h1 sl1 => wpAny_bind (wpAny_entryPlaceOf fun pl hpl => ?_))
  unfold EntryCells.newEntry newFields
  refine wpAny_bind (wpAny_newObj_type ?_ (hpl.sizeOk5 _ _ _ _ _))
  have e1 : h1.get? e = some oe := (sl1.2.1 e fun m => nofr e m rfl).trans he
  generalize hO : ({ cls := .type "traceback", dict := none, data := .fields ([head, .ref L, .none, rawInt L, .none] ++ (if pl.isEmpty then List.replicate 6 Value.none else pl)).toArray } : Obj) = oT
  have dT : ∃ ts : Array Value, oT.data = .fields ts ∧ 3 < ts.size := ⟨_, by rw [← hO], by simp only [List.size_toArray, List.length_append, List.length_cons]; omega⟩
  have fT : oT.isFreed = false := by obtain ⟨ts, q, _⟩ := dT; exact Obj.isFreed_of_fields q
  have e2 : (h1.push oT).get? e = some oe := Heap.get?_push_of_some _ e1
  have t2 : (h1.push oT).get? h1.objs.size = some oT := Heap.get?_push_size _ fT
  have ne : h1.objs.size ≠ e := Nat.ne_of_gt (Heap.lt_size e1)
  refine wpAny_setField e2 hd hsz ?_
  generalize hU : (h1.push oT).update e (Obj.mapFields (·.setIfInBounds 1 (Value.ref h1.objs.size))) = h3
  have d3 := Obj.data_mapFields hd (·.setIfInBounds 1 (Value.ref h1.objs.size))
  have e3 : h3.get? e = some (Obj.mapFields (·.setIfInBounds 1 (Value.ref h1.objs.size)) oe) := by rw [← hU]; exact Heap.get?_update_self _ e2 (Obj.isFreed_of_fields d3)
  have k3 : ∀ b, b ≠ e → h3.get? b = (h1.push oT).get? b := fun b hb => by rw [← hU]; exact Heap.get?_update_other _ _ hb.symm
  have t3 : h3.get? h1.objs.size = some oT := (k3 _ ne).trans t2
  obtain ⟨ts, dts, lts⟩ := dT
  unfold setFlight
  refine wpAny_bind (wpAny_field e3 d3 (x := .ref h1.objs.size) (by simp [hsz]) ?_)
  rw [if_pos (show (Value.ref h1.objs.size != Value.none) = true from by simp)]
  refine wpAny_setField t3 dts lts (h _ h1.objs.size ⟨Nat.le_of_eq sl1.1.symm, ⟨ne, ⟨_, _, ?_, Obj.cls_mapFields _ _, d3, by simp [hsz], (dict_map _ _).trans hdn⟩, ⟨_, _, Heap.get?_update_self _ t3 (Obj.isFreed_of_fields (Obj.data_mapFields dts _)), Obj.data_mapFields dts _, by simp [lts]⟩⟩, fun b o n1 n2 q => ?_, fun b o m q => ?_⟩)
  · rw [Heap.get?_update_other _ _ ne]
    exact e3
  · have q1 : h1.get? b = some o := (sl1.2.1 b n2).trans q
    have nb : h1.objs.size ≠ b := Nat.ne_of_gt (Heap.lt_size q1)
    rw [Heap.get?_update_other _ _ nb, k3 b fun z => n1 (by simp [z])]
    exact Heap.get?_push_of_some _ q1
  · obtain ⟨sl, q1⟩ := sl1.2.2 b o q
    have nb : h1.objs.size ≠ b := Nat.ne_of_gt (Heap.lt_size q1)
    refine ⟨sl, ?_⟩
    rw [Heap.get?_update_other _ _ nb, k3 b (nofr b m)]
    exact Heap.get?_push_of_some _ q1
theorem leave_first {base : Heap} {env : Env} {outer : List Env} {L e : Addr} {oe : Obj} {vs : Array Value} {Q : Unit → Shared → Prop} (hfr : A.frames = some (env :: outer)) (hl : s.heap.FunFrames base (env :: outer)) (hf : env.frame = some L)
    (he : s.heap.get? e = some oe) (hd : oe.data = .fields vs) (h1 : vs[1]? = some .none) (hdn : oe.dict = none) (h : ∀ h' T, LeftX (env :: outer) [e] e T oe.cls s.heap h' → Q () { s with heap := h' }) : wpAny M A (leaving env (.ref e)) Q E s := by
  unfold leaving noteFrame
  simp only [hf]
  refine wpAny_bind (wpAny_bind (wpAny_field he hd h1 ?_))
  rw [if_neg (by decide)]
  exact leave_core hfr hl hf he hd (Array.getElem?_eq_some_iff.mp h1).1 hdn h
end
end Z
set_option Elab.async false
set_option linter.all false
set_option maxRecDepth 100000
namespace Z
open PySem PySem.Spec PyProof.Rows L2
/-! ### exceptions: how one lies behind a call -/
/-- the callers' frames up to slots; the exception at a, of the class at C, its traceback at T: both new, not tracked -/
def CXr (P : Program) (w : World) : CXT := fun outer H s E e s' => ∃ (a T C : Addr) (H' : Hp), e = .ref a ∧ s'.os = s.os ∧ AllBare s'.gens ∧ Un (frs outer) [] H H' s.heap s'.heap ∧ HOk P w H' s'.heap ∧ s.heap.get? a = none ∧ s.heap.get? T = none ∧ H' a = none ∧ H' T = none ∧ Trd s'.heap a T (.ref C) ∧ E (.ref C) none H'
theorem cxr_no {P : Program} {w : World} : ∀ l H s e s', CXr P w l H s E0 e s' → False := fun _ _ _ _ _ ⟨_, _, _, _, _, _, _, _, _, _, _, _, _, _, z⟩ => z
section
variable {P : Program} {w : World} {H : Hp} {h : Heap} {a : Addr} {o : HO}
theorem obj_there (x : ObjOk P w H h a o) : ∃ u, h.get? a = some u := by
  cases o with
  | lst xs => obtain ⟨_, _, _, _, e⟩ := x; exact ⟨_, e⟩
  | tup xs => obtain ⟨_, _, _, o, e, _⟩ := x; exact ⟨_, e⟩
  | dK kvs => obtain ⟨_, _, _, _, o, _, _, e, _⟩ := x; exact ⟨_, e⟩
  | dT kvs => obtain ⟨_, _, xs, _, o, es, ep, e, _⟩ := x; exact ⟨_, e⟩
  | set S n => obtain ⟨o, es, ep, t, e, _⟩ := x; exact ⟨_, e⟩
  | ins C dx fs => obtain ⟨_, _, _, e, _⟩ := x; exact ⟨_, e⟩
  | own b => exact x
  | xd fs => obtain ⟨_, ⟨_, _, _, e, _⟩, _⟩ := x; exact ⟨_, e⟩
  | rng lo hi => obtain ⟨_, _, _, e⟩ := x; exact ⟨_, e⟩
  | frz o u => exact ⟨_, x.1⟩
  | tbl ps => exact ⟨_, x⟩
  | met f y => exact ⟨_, x⟩
  | ext φ => exact x.2.1
theorem hok_none (x : HOk P w H h) (e : h.get? a = none) : H a = none := by
  cases q : H a with
  | none => rfl
  | some o =>
    obtain ⟨u, z⟩ := obj_there (x a o q)
    rw [e] at z; cases z
end
section
variable {X : Cx} {pins : List (Addr × Obj)} {σ : St} {H : Hp} {s : Shared} {h' : Heap} {ch : List Addr} {e T : Addr} {cls : Value}
/-- out of the frame -/
theorem left_out (I : Inv X pins σ H s) (hst : X.stack = X.env :: X.outer) (hex : X.ex = []) (hf : X.env.frame = some X.env.locals) (x : LeftX (X.env :: X.outer) ch e T cls s.heap h') (hch : ∀ b ∈ ch, H b = none ∧ X.s₀.heap.get? b = none) :
    Un (frs X.outer) [] X.H₀ H X.s₀.heap h' ∧ HOk X.prog X.w H h' := by
  have B : Un (frs X.outer) [] X.H₀ H X.s₀.heap s.heap := by have := I.base; rwa [hex] at this
  have nch : ∀ b o, X.s₀.heap.get? b = some o → b ∉ ch := fun b o q m => by rw [(hch b m).2] at q; cases q
  have frl : ∀ b, b ∈ frL (X.env :: X.outer) ↔ b = X.env.locals ∨ b ∈ frs X.outer := fun b => by
    show b ∈ List.filterMap (·.frame) (X.env :: X.outer) ↔ _
    rw [List.filterMap_cons, hf]
    exact List.mem_cons
  have nL : ∀ b o, X.s₀.heap.get? b = some o → b ≠ X.env.locals := fun b o q => Nat.ne_of_lt (Nat.lt_of_lt_of_le (Heap.lt_size q) I.ok.above)
  refine ⟨⟨fun b o q n hb _ => ?_, fun b o q n hb hx => ?_, fun b o q n hx => B.free b o q n hx, fun b o q hx => ?_, B.tups, B.frzs, B.tbls⟩, fun b u q => ?_⟩
  · exact x.keep b o (nch b o q) (fun m => ((frl b).mp m).elim (nL b o q) hb) (B.keep b o q n hb (by simp))
  · obtain ⟨sl, q1⟩ := B.slot b o q n hb hx
    obtain ⟨sl', q2⟩ := x.slot b _ ((frl b).mpr (.inr hb)) q1
    exact ⟨sl', q2⟩
  · obtain ⟨o', q1⟩ := B.there b o q hx
    by_cases m : b ∈ frL (X.env :: X.outer)
    · obtain ⟨sl, q2⟩ := x.slot b o' m q1
      exact ⟨_, q2⟩
    · exact ⟨o', x.keep b o' (nch b o q) m q1⟩
  · have ok : ∀ c v, H c = some v → c ∉ ch ∧ c ∉ frL (X.env :: X.outer) := fun c v z => by
      refine ⟨fun m => ?_, fun m => ?_⟩
      · rw [(hch c m).1] at z
        cases z
      · have := I.stkFree c (by rw [hst]; exact m)
        rw [this] at z
        cases z
    refine (I.hok b u q).stay (fun c v hc z => ?_) (fun _ z => z) fun _ _ z => z
    have := hc.elim (fun z => by rw [z]; exact ok b u q) fun z => ok c _ z
    exact x.keep c v this.1 this.2 z
end
section
variable {P : Program} {w : World} {K : Frag} {mg : Str → Option Value} {base : Heap} {N : List Str} {qual : Str} {scope : Scope} {f : Addr} {cd : Value} {A : Around} {outer : List Env} {s0 : Shared} {H0 : Hp} {E : XK}
abbrev cxR (P : Program) (w : World) (K : Frag) (mg : Str → Option Value) (base : Heap) (N : List Str) (qual : Str) (scope : Scope) (f : Addr) (cd : Value) (A : Around) (outer : List Env) (s0 : Shared) (H0 : Hp) (E : XK) : Cx := cxOf (CXr P w) P w K mg base N qual scope f cd A outer s0 H0 E
/-- an exception made here -/
theorem raise_here {pins : List (Addr × Obj)} {σ : St} {H : Hp} {s : Shared} {h1 : Heap} {e C : Addr} {vs : List Value} (I : Inv (cxR P w K mg base N qual scope f cd A outer s0 H0 E) pins σ H s) (m : Heap.MadeExcOf s.heap h1 e (.ref C) vs) (hE : E (.ref C) none H) :
    (cxR P w K mg base N qual scope f cd A outer s0 H0 E).xe (.ref e) { s with heap := h1 } := by
  have I1 : Inv (cxR P w K mg base N qual scope f cd A outer s0 H0 E) pins σ H { s with heap := h1 } := I.kept (t' := s.toks) m.keeps
  obtain ⟨t, he, _, _⟩ := m.there
  have n0 : s0.heap.get? e = none := by
    cases q : s0.heap.get? e with
    | none => rfl
    | some o =>
      obtain ⟨o', z⟩ := I.base.there e o q (by simp [cxOf])
      rw [m.new] at z; cases z
  refine leave_first (s := { s with heap := h1 }) (base := base) I1.ok.frames I1.stack rfl he rfl rfl rfl fun h2 T x => ?_
  have hH : H e = none := hok_none I.hok m.new
  obtain ⟨u, hk⟩ := left_out I1 rfl rfl rfl x (fun b hb => by
    have : b = e := by simpa using hb
    subst this
    exact ⟨hH, n0⟩)
  have nT : s0.heap.get? T = none := Heap.get?_none_of_le (Nat.le_trans I1.sz x.new)
  exact ⟨e, T, C, H, rfl, I.os, I.bare, u, hk, n0, nT, hH, I1.hok.fresh x.new, x.tr, hE⟩
end
end Z
set_option Elab.async false
set_option linter.all false
set_option maxRecDepth 100000
namespace Z
open PySem PySem.Spec PyProof.Rows L2
/-- what lies above ValueError -/
abbrev vErr : List Value := [.type "ValueError", .type "Exception", .type "BaseException", .type "object"]
/-- an own class of errors -/
structure OwnE (x : Str) (C : Addr) (mg : Str → Option Value) (base : Heap) : Prop where
  ex : ∃ (newId Bn inN : String) (bmN : List Value), OwnCls x C vErr newId mg base ∧ ExcBaseFacts Bn newId inN bmN ∧ vErr.contains (.type Bn) = true
/-- the evaluation raises -/
def RvD (X : Cx) (ρ : Rho) (E : XK) (e : Expr) (C : Addr) : Prop := ∀ (M0 : MP) (H0 : Hp) (γ : List (D × V)) (α : Nat → Addr) (σ : St) (H : Hp) (Q : VK), Rep X.K M0 H0 γ α ρ σ H → (∀ a H', Same H H' → E (.ref C) a H') → tE X e σ H Q
def RsD (X : Cx) (ρ : Rho) (E : XK) (st : Stmt) (C : Addr) : Prop := ∀ (M0 : MP) (H0 : Hp) (γ : List (D × V)) (α : Nat → Addr) (σ : St) (H : Hp) (En : Ends), Rep X.K M0 H0 γ α ρ σ H → (∀ a H', Same H H' → E (.ref C) a H') → tS X st En σ H
def RssD (X : Cx) (ρ : Rho) (E : XK) (st : List Stmt) (C : Addr) : Prop := ∀ (M0 : MP) (H0 : Hp) (γ : List (D × V)) (α : Nat → Addr) (σ : St) (H : Hp) (En : Ends), Rep X.K M0 H0 γ α ρ σ H → (∀ a H', Same H H' → E (.ref C) a H') → tSs X st En σ H
section
variable {X : Cx} {ρ : Rho} {E : XK} {e c : Expr} {es : List Expr} {st : Stmt} {sts s1 s2 : List Stmt} {C : Addr} {d : D} {pos p pos' : Pos} {CX : CXT} {k : Nat} {x : Str} {ι : Type} {args : ι → List D} {pre : ι → Prop} {res : ι → Except Addr D}
theorem RsD.ite {t : Bool} (h : TvD X ρ c t) (h1 : t = true → RssD X ρ E s1 C) (h2 : t = false → RssD X ρ E s2 C) : RsD X ρ E (.If c s1 s2 pos) C := fun M0 H0 γ α σ H En R kE =>
  (ps_if ptT psSs psSs).to (h M0 H0 γ α σ H _ R fun H1 s => by
    cases e : t with
    | true => exact iteT (h1 e M0 H0 γ α σ H1 _ (R.next s) fun a H' s' => kE a H' (s.trans s'))
    | false => exact iteF (h2 e M0 H0 γ α σ H1 _ (R.next s) fun a H' s' => kE a H' (s.trans s')))
theorem RssD.here (h : RsD X ρ E st C) : RssD X ρ E (st :: sts) C := fun M0 H0 γ α σ H En R kE => (pss_cons psS psSs).to (h M0 H0 γ α σ H _ R kE)
/-- a test that is false is passed by -/
theorem RssD.skip (h : TvD X ρ c false) (k : RssD X ρ E sts C) : RssD X ρ E (.If c s1 [] pos :: sts) C := fun M0 H0 γ α σ H En R kE =>
  (pss_cons psS psSs).to (skipIf h R fun H' s => k M0 H0 γ α σ H' En (R.next s) fun a H2 s2 => kE a H2 (s.trans s2))
end
section
variable {P : Program} {w : World} {K : Frag} {mg : Str → Option Value} {base : Heap} {N : List Str} {qual : Str} {scope : Scope} {f : Addr} {cd : Value} {A : Around} {outer : List Env} {s0 : Shared} {H0 : Hp} {E : XK}
/-- raise C(e) -/
theorem RsD.raise {ρ : Rho} {x : Str} {C : Addr} {e : Expr} {d : D} {np cpos pos : Pos} (O : OwnE x C mg base) (hg : Gl (cxR P w K mg base N qual scope f cd A outer s0 H0 E) x) (he : EvD (cxR P w K mg base N qual scope f cd A outer s0 H0 E) ρ e d)
    (hs : starEach [e] (cxR P w K mg base N qual scope f cd A outer s0 H0 E).env = [(false, eval e (cxR P w K mg base N qual scope f cd A outer s0 H0 E).env)] := by rfl) (hdb : (x == ("__debug__" : Str)) = false := by decide) :
    RsD (cxR P w K mg base N qual scope f cd A outer s0 H0 E) ρ E (.Raise (some (.Call (.Name x np) [e] [] cpos)) none pos) C := fun M0 Hb γ α σ H En R kE pins s I => by
  obtain ⟨newId, Bn, inN, bmN, O, Fn, hBn⟩ := O.ex
  obtain ⟨tl, N', nm, q, bs, hdct, sn, sub, ab, col, dd, k0, k1, k2, k3, k5, mN, hC, hN, hni, T⟩ := O.obj
  have hlen : ∀ us : List Value, us.length = 1 → us.length ≤ sizeLine := fun us h => by rw [h]; decide
  refine wpAny_Raise_call_subU (C := C) (nm := nm) (q := q) (N := N') (bs := bs) (bm := tl) (hdct := hdct) (sn := sn) (sub := sub) (ab := ab) (col := col) (dd := dd) (k0 := k0) (k1 := k1) (k2 := k2) (k3 := k3) (k5 := k5) (newId := newId) Fn hBn PySem.F.excBase_ValueError (mN := mN) (T.hasType PySem.F.excBase_ValueError.hasBase) (I.ok.hd rfl) (by rw [hs]; rfl) hni (ld_glob I hg O.bound ⟨rfl, ?_⟩ hdb)
  have run := (pa_cons (peE (X := cxR P w K mg base N qual scope f cd A outer s0 H0 E) (e := e)) pa_nil hs) cpos pins s σ H (fun vs H1 => vs.length = 1 ∧ Same H H1) I (he M0 Hb γ α σ H _ R fun v H1 s1 _ => ⟨rfl, s1⟩)
  rw [hs] at run ⊢
  refine Calls.evalArgs_plain (wpAny_mono run (fun us s2 h2 => ?_) fun _ _ z => z)
  obtain ⟨vs, H1, I2, r2, l1, sm⟩ := h2
  have kp : ∀ b o, base.get? b = some o → s2.heap.get? b = some o := I2.bk
  exact ⟨rfl, hlen us (r2.length ▸ l1), kp _ _ hC, hN.keeps kp, T.keeps kp, fun h' ex m => raise_here I2 m (kE none H1 sm)⟩
end
section
variable {P : Program} {w : World} {K : Frag} {mg : Str → Option Value} {base : Heap} {k : Nat} {x qual : Str} {st : Stmt} {f : Addr} {fd : FuncData} {N ps : List Str} {ι : Type} {args : ι → List D} {pre : ι → Prop} {res : ι → Except Addr D}
end
end Z
set_option Elab.async false
set_option linter.all false
set_option maxRecDepth 100000
namespace Z
open PySem PySem.Spec PyProof.Rows L2
/-! ### defs that are called while an exception is handled -/
abbrev hush (A : Around) : Around := { A with handled := none }
abbrev Cx.loud (X : Cx) : Cx := { X with calm := false }
/-- the same promise, whatever is handled -/
structure FnOkH (P : Program) (w : World) (K : Frag) (mg : Str → Option Value) (base : Heap) (CX : CXT) (k : Nat) (f : Addr) (fd : FuncData) (ps : List Str) (sp : Sp) : Prop where
  len : ∀ vs H Q E, sp vs H Q E → vs.length = ps.length
  run : ∀ (A : Around) (outer : List Env) (s : Shared) (H : Hp) (args : Args) (us : List Value) (vs : List V) (Q : VK) (E : XK), Room k (hush A) → Env0 P w K mg base A outer s H → BindsTo s fd args (ps.zip us) → Vals vs us → sp vs H Q E →
    codeAny (model P w) A (.call (.ref f) args) (CR CX outer P w H s Q E) s
theorem loud_inv {CX : CXT} {P : Program} {w : World} {K : Frag} {mg : Str → Option Value} {base : Heap} {N : List Str} {qual : Str} {scope : Scope} {f : Addr} {cd : Value} {A : Around} {outer : List Env} {s s1 : Shared} {H H1 : Hp} {E : XK} {pins : List (Addr × Obj)} {σ : St}
    (I : Inv (cxOf CX P w K mg base N qual scope f cd (hush A) outer s H E) pins σ H1 s1) : Inv (Cx.loud (cxOf CX P w K mg base N qual scope f cd A outer s H E)) pins σ H1 s1 :=
  ⟨⟨I.ok.mod, I.ok.kind, I.ok.glob, I.ok.blt, I.ok.above, I.ok.inj, I.ok.has, I.ok.cab, fun h => absurd h Bool.false_ne_true, I.ok.frames, I.ok.stk, I.ok.exf, I.ok.bs, I.ok.bsz, I.ok.noex, I.ok.exfs, I.ok.funs, I.ok.frf⟩, I.os, I.bare, I.base, I.loc, I.cell, I.free, I.freeC, I.pin, I.hok, I.len⟩
theorem fn_ofH {CX : CXT} {P : Program} {w : World} {K : Frag} {mg : Str → Option Value} {base : Heap} {k : Nat} {f : Addr} {name qual : Str} {params : Arguments} {body : List Stmt} {scope : Scope} {dV kV doc pm cdv ct oc : Value} {an od : Option Addr}
    {osl : Array (Option Value)} {N ps : List Str} {sp : Sp} (lk : K.lookup f = some ⟨oc, od, .func (PySem.W.fnOf name qual params body scope dV kV doc pm an cdv ct), osl⟩) (hcd : PySem.W.codeIn K cdv qual = true) (S : FnScope N ps scope)
    (len : ∀ vs H Q E, sp vs H Q E → vs.length = ps.length)
    (hbody : ∀ (A : Around) (outer : List Env) (s : Shared) (H : Hp) (vs : List V) (Q : VK) (E : XK), Room k (hush (A.deeper (envOfC qual scope s.heap.objs.size f cdv))) → sp vs H Q E →
      tSs (Cx.loud (cxOf CX P w K mg base N qual scope f cdv A outer s H E)).nox body { nx := fun _ H' => Q .non H', rt := Q } (start N vs) H) :
    FnOkH P w K mg base CX (k + 1) f (PySem.W.fnOf name qual params body scope dV kV doc pm an cdv ct) ps sp := by
  refine ⟨len, fun A outer s H args us vs Q E hr e0 hb r hsp => ?_⟩
  have hl := len _ _ _ _ hsp
  have KX : K.In s.heap := e0.mod.kin.keeps fun b o e => (e0.bs b o e).1
  have lim : s.heap.NoLimit := e0.mod.nolimit.keeps fun b o e => (e0.bs b o e).1
  have hkind : ∀ y ∈ ps.zip us, scope.names.lookup y.1 = some .local ∨ (scope.names.lookup y.1 = some .cell ∧ ((cellsFrom (s.heap.objs.size + 1) scope.names []).lookup y.1).isSome = true) := fun ⟨n, v⟩ hy =>
    (S.par n (List.of_mem_zip hy).1).elim .inl fun q => .inr ⟨q, PySem.W.cellsFrom_some _ _ _ (.inl q)⟩
  have hdep := hr.depth
  refine codeAny_call_function (A := A) hdep (KX _ _ lk) rfl S.co S.gen rfl (PySem.W.codeRec_of KX hcd) (hb _ _ _ _ ?_)
  refine wpAny_newFunctionEnv_cells S.kind hkind fun env he s1 x => ?_
  subst he
  refine ⟨lim.keeps x.toInCall.keep, codeAny_func ?_⟩
  have e1 : Env0 P w K mg base (hush A) outer s H := ⟨e0.frames, e0.mod, e0.bs, e0.bsz, e0.funs, e0.frf, e0.hok, e0.bare⟩
  have I := loud_inv (CX := CX) (A := A) (E := E) (inv_start (A := hush A) (CX := CX) (E := E) S rfl e1 hl r x)
  have t := hbody A outer s H vs Q E (hr.deeper _) hsp
  have I' : Inv (Cx.loud (cxOf CX P w K mg base N qual scope f cdv A outer s H E)).nox [] (start N vs) H s1 := ⟨⟨I.ok.mod, I.ok.kind, I.ok.glob, I.ok.blt, I.ok.above, I.ok.inj, I.ok.has, I.ok.cab, I.ok.hd, I.ok.frames, I.ok.stk, I.ok.exf, I.ok.bs, I.ok.bsz, I.ok.noex, I.ok.exfs, I.ok.funs, I.ok.frf⟩, I.os, I.bare, I.base, I.loc, I.cell, I.free, I.freeC, I.pin, I.hok, I.len⟩
  refine wpAny_mono (t [] s1 I') (fun fl s' hs => ?_) fun e s' hs => hs.elim
  cases fl with
  | ret u => obtain ⟨v, σ', H', J, rv, q⟩ := hs; exact ⟨v, H', J.os, J.bare, J.base, J.hok, rv, q⟩
  | next => obtain ⟨σ', H', J, q⟩ := hs; exact ⟨.non, H', J.os, J.bare, J.base, J.hok, rfl, q⟩
  | brk => obtain ⟨_, _, _, q⟩ := hs; exact False.elim q
  | cont => obtain ⟨_, _, _, q⟩ := hs; exact False.elim q
/-- what a def promises, whatever is handled -/
structure FnDH (P : Program) (w : World) (K : Frag) (mg : Str → Option Value) (base : Heap) (CX : CXT) (k : Nat) (x : Str) {ι : Type} (args : ι → List D) (pre : ι → Prop) (res : ι → D) : Prop where
  ex : ∃ (f : Addr) (fd : FuncData) (ps : List Str), FnOkH P w K mg base CX k f fd ps (pureSp K args pre fun i => .ok (res i)) ∧ mg x = some (.ref f) ∧ PySem.W.keepIn K (.ref f) = true ∧ Binds K fd ps []
section
variable {X : Cx} {ρ : Rho} {e : Expr} {es : List Expr} {d : D} {pos p : Pos} {CX : CXT} {k : Nat} {x : Str} {ι : Type} {args : ι → List D} {pre : ι → Prop} {res : ι → D}
theorem run_fnH {pins : List (Addr × Obj)} {σ : St} {H : Hp} {s : Shared} {Q : VK} {us : List Value} {vs : List V} {f : Addr} {fd : FuncData} {ps : List Str} {sp : Sp} {E : XK} (F : FnOkH X.prog X.w X.K X.mg X.base CX k f fd ps sp) (hr : Room k (hush X.A)) (hb : Binds X.K fd ps []) (hx : Passes CX X E)
    (I : Inv X pins σ H s) (r : Vals vs us) (h : sp vs H Q E) : wpAny (model X.prog X.w) X.A (call (.ref f) us) (EP X pins σ Q) X.xe s := by
  have hl : us.length = ps.length := by rw [← r.length]; exact F.len _ _ _ _ h
  have hbt := hb s us I.kIn (by rw [List.append_nil]; exact hl)
  rw [List.append_nil] at hbt
  refine wpAny_call (codeAny_mono (F.run X.A X.stack s H ⟨us, []⟩ us vs Q E hr I.env0 hbt r h) fun r s' hq => ?_)
  cases r with
  | error e => exact hx pins σ H s e s' I hq
  | ok fl =>
    cases fl with
    | ret u => exact I.after hq
    | next => exact False.elim hq
    | brk => exact False.elim hq
    | cont => exact False.elim hq
theorem EvD.callH {i : ι} (F : FnDH X.prog X.w X.K X.mg X.base CX k x args pre res) (hr : Room k (hush X.A)) (hx : Passes CX X E0) (hg : Gl X x) (ha : AvD X ρ (e :: es) (args i)) (hp : pre i) (hres : res i = d) (hdb : (x == ("__debug__" : Str)) = false := by decide)
    (he : starEach (e :: es) X.env = (false, eval e X.env) :: starEach es X.env := by rfl) (hpl : (backTo pos (starEach es X.env)).any (·.1) = false := by rfl) : EvD X ρ (.Call (.Name x p) (e :: es) [] pos) d := fun M0 H0 γ α σ H Q R kk => by
  obtain ⟨f, fd, ps, F, hm, hk, hb⟩ := F.ex
  intro pins s I
  refine wpAny_Call_Name_kw (ld_glob I hg hm ?_ hdb)
  have run := paA (X := X) (es := e :: es) pos pins s σ H (fun vs H1 => Same H H1 ∧ Dns X.K (MM M0 ρ α) H1 (args i) vs) I (ha M0 H0 γ α σ H _ R fun vs H1 s1 d1 => ⟨s1, d1⟩)
  refine PySem.W.callWith_K (h₀ := X.base) I.ok.mod.kin hk (thn run fun us s1 ⟨vs, H1, I1, r, sm, d1⟩ => ⟨I1.kIn, ?_⟩) he hpl
  exact run_fnH F hr hb hx I1 r ⟨i, MM M0 ρ α, mm_there R sm, d1, hp, (fun d' e v H2 s2 dn => by cases e; exact kk v H2 (sm.trans s2) (hres ▸ dn)), fun C e => by cases e⟩
end
section
variable {P : Program} {w : World} {K : Frag} {mg : Str → Option Value} {base : Heap} {CX : CXT} {k : Nat} {x qual : Str} {st : Stmt} {f : Addr} {fd : FuncData} {N ps : List Str} {ι : Type} {args : ι → List D} {pre : ι → Prop} {res : ι → D}
theorem fnDH_of (F : Fun K x qual st f fd) (S : FnScope N ps (defScope st)) (hm : mg x = some (.ref f)) (hb : Binds K fd ps []) (hl : ∀ i, (args i).length = ps.length)
    (body : ∀ (cdv : Value) (A : Around) (outer : List Env) (s : Shared) (H : Hp) (E : XK) (i : ι) (M0 : MP), pre i → Room k (hush (A.deeper (envOfC qual (defScope st) s.heap.objs.size f cdv))) →
      WS (Cx.loud (cxOf CX P w K mg base N qual (defScope st) f cdv A outer s H E)).nox M0 H (defBody st) (rho0 N (args i)) { N := fun _ => res i = .non, R := fun d' => d' = res i }) : FnDH P w K mg base CX (k + 1) x args pre res := by
  refine ⟨f, fd, ps, ?_, hm, F.kp, hb⟩
  obtain ⟨oc, od, kV, doc, pm, an, cdv, ct, osl, rfl, lk, hcd⟩ := F.ex
  refine fn_ofH lk hcd S (fun vs H Q E ⟨i, M0, _, h, _⟩ => by rw [h.len, hl]) fun A outer s H vs Q E hr hsp => ?_
  obtain ⟨i, M0, hM, h, hp, k1, k2⟩ := hsp
  refine tSs.mono (En := ends K M0 H [] { N := fun _ => res i = .non, R := fun d' => d' = res i }) (fun σ' H' ⟨α, ρ, R, e⟩ => ?_) (fun v H' ⟨d', e, sm, dn⟩ => ?_) (fun _ _ ⟨_, _, _, z⟩ => z.elim) (fun _ _ ⟨_, _, _, z⟩ => z.elim) (body cdv A outer s H E i M0 hp hr [] (fun _ => 0) _ H (rep0 hM h))
  · exact k1 _ rfl .non H' R.same (by rw [e]; exact rfl)
  · subst e
    exact k1 _ rfl v H' sm dn
end
end Z
set_option Elab.async false
set_option linter.all false
set_option maxRecDepth 100000
namespace Z
open PySem PySem.Spec PyProof.Rows L2
/-! ### try -/
section
variable {X : Cx} {ρ : Rho} {M0 : MP} {H0 : Hp} {P : Post} {body : List Stmt} {h0 : ExceptHandler} {hs : List ExceptHandler} {pos : Pos}
/-- nothing is raised -/
theorem W1.tryOk (hx : ∀ e s, X.xe e s → False) (h : WS X M0 H0 body ρ P) : W1 X M0 H0 (.Try body (h0 :: hs) [] [] pos) ρ P := fun γ α σ H R pins s I => by
  refine wpAny_Try_except (wpAny_mono (h γ α σ H R pins s I) (fun f s1 q => ?_) fun e s1 z => (hx e s1 z).elim)
  cases f with
  | next => exact wpAny_execs_nil q
  | ret u => exact q
  | brk => exact q
  | cont => exact q
end
/-! ### an exception is caught: what changes -/
section
variable {M : Model} {A : Around} {E : Value → Shared → Prop} {s : Shared}
theorem look_next {base : Heap} {env : Env} {outer : List Env} {L e T : Addr} {cls : Value} {Q : Unit → Shared → Prop} (hfr : A.frames = some (env :: outer)) (hl : s.heap.FunFrames base (env :: outer)) (hf : env.frame = some L) (ht : Trd s.heap e T cls)
    (h : ∀ h' T', LeftX (env :: outer) [e, T] e T' cls s.heap h' → Q () { s with heap := h' }) : wpAny M A (noteFrame (.ref e) env) (fun _ s' => wpAny M A (setFlight (.ref e) none) Q E s') E s := by
  obtain ⟨ne, ⟨oe, vs, he, hc, hd, h1, hdn⟩, oT, ts, hT, hdT, h3⟩ := ht
  subst hc
  unfold noteFrame
  simp only [hf]
  refine wpAny_bind (wpAny_field he hd h1 ?_)
  rw [if_pos (show (Value.ref T != Value.none) = true from by simp)]
  refine wpAny_bind (wpAny_field hT hdT h3 ?_)
  rw [if_neg (show ¬ ((Value.none == rawInt L) = true) from by simp [rawInt])]
  refine wpAny_bind (wpAny_setField hT hdT (Array.getElem?_eq_some_iff.mp h3).1 ?_)
  have k : ∀ b, b ≠ T → (s.heap.update T (Obj.mapFields (·.setIfInBounds 3 Value.none))).get? b = s.heap.get? b := fun b hb => Heap.get?_update_other _ _ hb.symm
  have nfT : ∀ b ∈ frL (env :: outer), b ≠ T := fun b hb q => by
    obtain ⟨_, o, ho, nf⟩ := hl.mem hb
    rw [q, hT] at ho
    cases ho
    exact nf ts hdT
  refine leave_core (s := { s with heap := s.heap.update T (Obj.mapFields (·.setIfInBounds 3 Value.none)) }) hfr (hl.of_keeps fun b o q nf => ⟨o, (k b fun z => ?_).trans q, rfl⟩) hf ((k e ne.symm).trans he) hd (Array.getElem?_eq_some_iff.mp h1).1 hdn fun h' T' x => h h' T' ⟨?_, x.tr, fun b o n1 n2 q => ?_, fun b o m q => ?_⟩
  · rw [z, hT] at q
    cases q
    exact nf ts hdT
  · have := x.new
    rw [show (Shared.heap { s with heap := s.heap.update T (Obj.mapFields (·.setIfInBounds 3 Value.none)) }).objs.size = s.heap.objs.size from Heap.size_after_update ..] at this
    exact this
  · exact x.keep b o (fun z => n1 (by simp at z; simp [z])) n2 ((k b fun z => n1 (by simp [z])).trans q)
  · exact x.slot b o m ((k b (nfT b m)).trans q)
theorem flight_again {e T : Addr} {cls : Value} {Q : Unit → Shared → Prop} (ht : Trd s.heap e T cls) (h : ∀ h', Trd h' e T cls → (∀ b, b ≠ T → h'.get? b = s.heap.get? b) → Q () { s with heap := h' }) : wpAny M A (setFlight (.ref e) none) Q E s := by
  obtain ⟨ne, ⟨oe, vs, he, hc, hd, h1, hdn⟩, oT, ts, hT, hdT, h3⟩ := ht
  have l3 := (Array.getElem?_eq_some_iff.mp h3).1
  unfold setFlight
  refine wpAny_bind (wpAny_field he hd h1 ?_)
  rw [if_pos (show (Value.ref T != Value.none) = true from by simp)]
  refine wpAny_setField hT hdT l3 (h _ ⟨ne, ⟨oe, vs, ?_, hc, hd, h1, hdn⟩, ⟨_, _, Heap.get?_update_self _ hT (Obj.isFreed_of_fields (Obj.data_mapFields hdT _)), Obj.data_mapFields hdT _, by simp [l3]⟩⟩ fun b hb => Heap.get?_update_other _ _ hb.symm)
  rw [Heap.get?_update_other _ _ ne]
  exact he
end
section
variable {X : Cx} {pins : List (Addr × Obj)} {σ : St} {H H' : Hp} {s : Shared} {h' : Heap}
/-- records that were not there at the entry have changed, frames up to slots, something may be tracked anew -/
theorem inv_free {g' : Array GenState} {t' : Nat} {d' : Drawn} {ch : List Addr} (I : Inv X pins σ H s) (hch : ∀ b ∈ ch, X.s₀.heap.get? b = none ∧ (∀ o, s.heap.get? b = some o → ∃ vs, o.data = .fields vs) ∧ ∀ p ∈ X.pn ++ pins, p.1 ≠ b)
    (keep : ∀ b o, b ∉ ch → b ∉ frs X.stack → s.heap.get? b = some o → h'.get? b = some o) (slot : ∀ b o, b ∈ frs X.stack → s.heap.get? b = some o → ∃ sl, h'.get? b = some { o with slots := sl })
    (sm : Same H H') (free : ∀ b o, b ∉ ch → s.heap.get? b = some o → H b = none → H' b = none) (hok : HOk X.prog X.w H' h') (hg : AllBare g') : Inv X pins σ H' { s with heap := h', gens := g', drawn := d', toks := t' } := by
  have any : ∀ b o, b ∉ ch → s.heap.get? b = some o → ∃ sl, h'.get? b = some { o with slots := sl } := fun b o n q => by
    by_cases m : b ∈ frs X.stack
    · exact slot b o m q
    · exact ⟨o.slots, keep b o n m q⟩
  have neC : ∀ b o, X.s₀.heap.get? b = some o → b ∉ ch := fun b o q m => by rw [(hch b m).1] at q; cases q
  obtain ⟨m, hn, hl⟩ := id I.loc
  obtain ⟨oL, esL, epL, hoL, hdL, rL⟩ := id hn
  have nL : X.env.locals ∉ ch := fun z => by
    obtain ⟨vs, q⟩ := (hch _ z).2.1 oL hoL
    rw [hdL] at q; cases q
  have cellK : ∀ x c, X.env.cells.lookup x = some c → ∀ v, s.heap.IsCell c v → h'.IsCell c v ∧ c ∉ ch := fun x c e v ⟨o, ho, hd⟩ => by
    have nc : c ∉ ch := fun z => by
      obtain ⟨vs, q⟩ := (hch c z).2.1 o ho
      rw [hd] at q; cases q
    obtain ⟨sl, q⟩ := any c o nc ho
    exact ⟨⟨_, q, hd⟩, nc⟩
  have nfs : ∀ b o, b ∉ X.fs → X.s₀.heap.get? b = some o → b ∉ frs X.stack := fun b o nf q z => by
    rcases List.mem_cons.mp (I.stkSub b z) with w | w
    · exact absurd w (Nat.ne_of_lt (Nat.lt_of_lt_of_le (Heap.lt_size q) I.ok.above))
    · exact nf w
  refine ⟨I.ok, I.os, hg, ⟨fun b o e n hb hx => ?_, fun b o e n hb hx => ?_, fun b o e n hx => ?_, fun b o e hx => ?_, fun b xs e => sm _ _ (I.base.tups b xs e), fun b o xs e => sm _ _ (I.base.frzs b o xs e), fun b ps e => ?_⟩, ⟨m, ?_, fun i x v e1 e2 e3 => ?_⟩, fun x c e => ?_, free _ _ nL hoL I.free, fun x c e => ?_, fun p hp => ?_, hok, I.len⟩
  · exact keep b o (neC b o e) (nfs b o hb e) (I.base.keep b o e n hb hx)
  · obtain ⟨sl, e1⟩ := I.base.slot b o e n hb hx
    obtain ⟨sl', e2⟩ := any b _ (neC b o e) e1
    exact ⟨sl', e2⟩
  · obtain ⟨o', e1⟩ := I.base.there b o e hx
    exact free b o' (neC b o e) e1 (I.base.free b o e n hx)
  · obtain ⟨o', e1⟩ := I.base.there b o e hx
    obtain ⟨sl, e2⟩ := any b o' (neC b o e) e1
    exact ⟨_, e2⟩
  · obtain ⟨m1, e1⟩ := I.base.tbls b ps e
    exact ⟨m1, sm _ _ e1⟩
  · obtain ⟨sl, e2⟩ := any _ oL nL hoL
    exact ⟨_, esL, epL, e2, hdL, rL⟩
  · obtain ⟨u, r, l⟩ := hl i x v e1 e2 e3
    refine ⟨u, r, ?_⟩
    rcases l with l | ⟨k, c, e, z⟩
    · exact .inl l
    · exact .inr ⟨k, c, e, (cellK x c e _ z).1⟩
  · obtain ⟨v, z⟩ := I.cell x c e
    exact ⟨v, (cellK x c e v z).1⟩
  · obtain ⟨v, z⟩ := I.cell x c e
    obtain ⟨o, ho, _⟩ := id z
    exact free c o (cellK x c e v z).2 ho (I.freeC x c e)
  · obtain ⟨e, n, ne, nf, d⟩ := I.pin p hp
    have nch : p.1 ∉ ch := fun z => (hch p.1 z).2.2 p hp rfl
    have nst : p.1 ∉ frs X.stack := fun z => by
      rcases List.mem_cons.mp (I.stkSub _ z) with w | w
      · exact ne w
      · exact nf w
    exact ⟨keep _ _ nch nst e, free _ _ nch e n, ne, nf, d⟩
end
end Z
set_option Elab.async false
set_option linter.all false
set_option maxRecDepth 100000
namespace Z
open PySem PySem.Spec PyProof.Rows L2
/-! ### a body that raises, to be caught -/
/-- the state in which it has raised -/
def Rsd (X : Cx) (pn : List (Addr × Obj)) (W : Addr → St → Hp → Prop) (e : Value) (s' : Shared) : Prop :=
  ∃ (a T C : Addr) (σ' : St) (H' : Hp) (pins' : List (Addr × Obj)), e = .ref a ∧ Inv { X with pn := pn } pins' σ' H' s' ∧ Trd s'.heap a T (.ref C) ∧ H' a = none ∧ H' T = none ∧ X.s₀.heap.get? a = none ∧ X.s₀.heap.get? T = none ∧ (∀ p ∈ pn, p.1 ≠ a ∧ p.1 ≠ T) ∧ W C σ' H'
def CaX (X : Cx) (pn : List (Addr × Obj)) (W : Addr → St → Hp → Prop) : Cx := { X with pn := pn, xe := Rsd X pn W }
theorem inv_wish {X : Cx} {pins : List (Addr × Obj)} {σ : St} {H : Hp} {s : Shared} {E : Value → Shared → Prop} (I : Inv X pins σ H s) : Inv { X with xe := E } pins σ H s :=
  ⟨⟨I.ok.mod, I.ok.kind, I.ok.glob, I.ok.blt, I.ok.above, I.ok.inj, I.ok.has, I.ok.cab, I.ok.hd, I.ok.frames, I.ok.stk, I.ok.exf, I.ok.bs, I.ok.bsz, I.ok.noex, I.ok.exfs, I.ok.funs, I.ok.frf⟩, I.os, I.bare, I.base, I.loc, I.cell, I.free, I.freeC, I.pin, I.hok, I.len⟩
theorem inv_ca {X : Cx} {pins : List (Addr × Obj)} {σ : St} {H : Hp} {s : Shared} {W : Addr → St → Hp → Prop} (I : Inv X pins σ H s) : Inv (CaX X (X.pn ++ pins) W) [] σ H s :=
  ⟨⟨I.ok.mod, I.ok.kind, I.ok.glob, I.ok.blt, I.ok.above, I.ok.inj, I.ok.has, I.ok.cab, I.ok.hd, I.ok.frames, I.ok.stk, I.ok.exf, I.ok.bs, I.ok.bsz, I.ok.noex, I.ok.exfs, I.ok.funs, I.ok.frf⟩, I.os, I.bare, I.base, I.loc, I.cell, I.free, I.freeC, (fun p hp => I.pin p (by
    have z : p ∈ (X.pn ++ pins) ++ [] := hp
    rwa [List.append_nil] at z)), I.hok, I.len⟩
theorem inv_un {X : Cx} {pins pins' : List (Addr × Obj)} {σ : St} {H : Hp} {s : Shared} (I : Inv { X with pn := X.pn ++ pins } pins' σ H s) : Inv X pins σ H s :=
  ⟨⟨I.ok.mod, I.ok.kind, I.ok.glob, I.ok.blt, I.ok.above, I.ok.inj, I.ok.has, I.ok.cab, I.ok.hd, I.ok.frames, I.ok.stk, I.ok.exf, I.ok.bs, I.ok.bsz, I.ok.noex, I.ok.exfs, I.ok.funs, I.ok.frf⟩, I.os, I.bare, I.base, I.loc, I.cell, I.free, I.freeC, (fun p hp => I.pin p (List.mem_append_left _ hp)), I.hok, I.len⟩
section
variable {X : Cx} {pn : List (Addr × Obj)} {W : Addr → St → Hp → Prop}
/-- an exception of a callee comes to the state -/
theorem ca_in (hex : X.ex = []) {pins : List (Addr × Obj)} {σ : St} {H : Hp} {s : Shared} {e : Value} {s' : Shared} (I : Inv (CaX X pn W) pins σ H s) (h : CXr X.prog X.w X.stack H s (fun v _ H' => ∃ C, v = .ref C ∧ W C σ H') e s') : (CaX X pn W).xe e s' := by
  obtain ⟨a, T, C, H', ee, os, bare, un, hok, na, nT, ha, hT, tr, C', eC, hW⟩ := h
  subst ee
  cases eC
  obtain ⟨hh, g, d, tk, os'⟩ := s'
  obtain rfl : os' = s.os := os
  have I1 : Inv (CaX X pn W) pins σ H' { s with heap := hh, gens := g, drawn := d, toks := tk } := I.call (h' := hh) (g' := g) (d' := d) (t' := tk) (ch := []) un hok bare (fun b z => absurd z (by simp))
  have n0 : ∀ b, s.heap.get? b = none → X.s₀.heap.get? b = none := fun b z => by
    cases q : X.s₀.heap.get? b with
    | none => rfl
    | some o =>
      obtain ⟨o', z'⟩ := I.base.there b o q (by show b ∉ X.ex; rw [hex]; simp)
      rw [z] at z'; cases z'
  refine ⟨a, T, C, σ, H', pins, rfl, inv_wish (E := X.xe) I1, tr, ha, hT, n0 _ na, n0 _ nT, fun p hp => ?_, hW⟩
  have q := (I.pin p (List.mem_append_left _ hp)).1
  exact ⟨(fun z => by rw [z, na] at q; cases q), (fun z => by rw [z, nT] at q; cases q)⟩
/-- the evaluation raises C, where W is asked of the state -/
def RtD (X : Cx) (W : Addr → St → Hp → Prop) (ρ : Rho) (e : Expr) (C : Addr) : Prop := ∀ (M0 : MP) (H0 : Hp) (γ : List (D × V)) (α : Nat → Addr) (σ : St) (H : Hp) (Q : VK), Rep X.K M0 H0 γ α ρ σ H → (∀ H', Same H H' → W C σ H') → tE X e σ H Q
def RttD (X : Cx) (W : Addr → St → Hp → Prop) (ρ : Rho) (st : List Stmt) (C : Addr) : Prop := ∀ (M0 : MP) (H0 : Hp) (γ : List (D × V)) (α : Nat → Addr) (σ : St) (H : Hp) (En : Ends), Rep X.K M0 H0 γ α ρ σ H → (∀ H', Same H H' → W C σ H') → tSs X st En σ H
end
section
variable {X : Cx} {pn : List (Addr × Obj)} {W : Addr → St → Hp → Prop} {ρ : Rho} {e c : Expr} {es : List Expr} {sts s1 s2 : List Stmt} {C : Addr} {pos p pos' : Pos} {k : Nat} {x y : Str} {ι : Type} {args : ι → List D} {pre : ι → Prop} {res : ι → Except Addr D}
theorem RttD.set {i : Nat} (hN : X.N.Nodup) (hi : X.N[i]? = some y) (hx : Loc X.env.scope y) (h : RtD X W ρ e C) (hs : swapsWith e (some (.Name y pos')) pos.line X.env = pure false := by rfl) (hf : X.fn y = true ∨ X.env.scope.names.lookup y = some .local := by first | exact .inl rfl | exact .inr rfl | assumption) :
    RttD X W ρ (.Assign [.Name y pos'] e pos :: sts) C := fun M0 H0 γ α σ H En R kE => (pss_cons psS psSs).to ((ps_set hN hi hx peE hs hf).to (h M0 H0 γ α σ H _ R kE))
end
end Z
set_option Elab.async false
set_option linter.all false
set_option maxRecDepth 100000
namespace Z
open PySem PySem.Spec PyProof.Rows
/-- the class at C stands below the one at D0; both are own classes of errors -/
structure Below2 (C D0 : Addr) (h : Heap) : Prop where
  lo : ∃ nm q N bs bm hdct sn sub ab col dd k0 k1 k2 k3 k5 newId, h.get? C = some (excClassObj nm q C N bs bm hdct sn sub ab col dd k0 k1 k2 k3 k5 newId) ∧ (Value.ref C :: bm).contains (.ref D0) = true
  up : ∃ nm q N bs bm hdct sn sub ab col dd k0 k1 k2 k3 k5 newId, h.get? D0 = some (excClassObj nm q D0 N bs bm hdct sn sub ab col dd k0 k1 k2 k3 k5 newId) ∧ (Value.ref D0 :: bm).contains (.type "BaseException") = true
theorem Below2.keeps {C D0 : Addr} {h h' : Heap} (x : Below2 C D0 h) (k : ∀ b o, h.get? b = some o → h'.get? b = some o) : Below2 C D0 h' := by
  obtain ⟨⟨nm, q, N, bs, bm, hdct, sn, sub, ab, col, dd, k0, k1, k2, k3, k5, newId, e1, e2⟩, ⟨nm', q', N', bs', bm', hdct', sn', sub', ab', col', dd', k0', k1', k2', k3', k5', newId', e3, e4⟩⟩ := x
  exact ⟨⟨nm, q, N, bs, bm, hdct, sn, sub, ab, col, dd, k0, k1, k2, k3, k5, newId, k _ _ e1, e2⟩, ⟨nm', q', N', bs', bm', hdct', sn', sub', ab', col', dd', k0', k1', k2', k3', k5', newId', k _ _ e3, e4⟩⟩
theorem matches_own {M : Model} {A : Around} {E : Value → Shared → Prop} {s : Shared} {e C D0 : Addr} {oe : Obj} {Q : Bool → Shared → Prop} (x : Below2 C D0 s.heap) (he : s.heap.get? e = some oe) (hcls : oe.cls = .ref C) (hq : Q true s) : wpAny M A (excMatches (.ref e) (.ref D0)) Q E s := by
  obtain ⟨⟨nm, q, N, bs, bm, hdct, sn, sub, ab, col, dd, k0, k1, k2, k3, k5, newId, hC, hcC⟩, ⟨nm', q', N', bs', bm', hdct', sn', sub', ab', col', dd', k0', k1', k2', k3', k5', newId', hD, hcB⟩⟩ := x
  obtain ⟨h, g, d, t, os⟩ := s
  have f := tc_notTuple
  unfold excMatches
  repeat (first | (with_reducible refine wpAny_loadPart_at he ?_; rw [hcls]) | with_reducible refine wpAny_loadPart_at hD ?_ | (with_reducible refine wpAny_isSubtype_exc hD ?_; rw [hcB]) | (with_reducible refine wpAny_isSubtype_exc hC ?_; rw [hcC]) | wp_step)
  exact hq
end Z
set_option Elab.async false
set_option linter.all false
set_option maxRecDepth 100000
namespace Z
open PySem PySem.Spec PyProof.Rows L2
/-- the context of an except suite -/
abbrev sX (X : Cx) (a : Addr) : Cx := { X with A := X.A.mark (some (.ref a)), calm := false, xe := fun _ _ => False }
theorem inv_s {X : Cx} {pins : List (Addr × Obj)} {σ : St} {H : Hp} {s : Shared} {a : Addr} (I : Inv X pins σ H s) : Inv (sX X a) pins σ H s :=
  ⟨⟨I.ok.mod, I.ok.kind, I.ok.glob, I.ok.blt, I.ok.above, I.ok.inj, I.ok.has, I.ok.cab, fun h => absurd h Bool.false_ne_true, I.ok.frames, I.ok.stk, I.ok.exf, I.ok.bs, I.ok.bsz, I.ok.noex, I.ok.exfs, I.ok.funs, I.ok.frf⟩, I.os, I.bare, I.base, I.loc, I.cell, I.free, I.freeC, I.pin, I.hok, I.len⟩
theorem inv_s_back {X : Cx} {pins : List (Addr × Obj)} {σ : St} {H : Hp} {s : Shared} {a : Addr} (ok : X.Ok) (I : Inv (sX X a) pins σ H s) : Inv X pins σ H s :=
  ⟨ok, I.os, I.bare, I.base, I.loc, I.cell, I.free, I.freeC, I.pin, I.hok, I.len⟩
/-- the frame's own names have changed -/
theorem inv_ns {X : Cx} {pins : List (Addr × Obj)} {σ σ' : St} {H : Hp} {s : Shared} {h' : Heap} {m' : Str → Option Value} {tk : Nat} (I : Inv X pins σ H s) (hn : h'.Ns X.env.locals m') (sb : Heap.SameBut X.env.locals s.heap h') (hlen : σ'.length = X.N.length)
    (hl : ∀ (i : Nat) (x : Str) (v : V), X.N[i]? = some x → σ'[i]? = some (some v) → Vis X.env.scope x → ∃ u, RelV v u ∧ Look X.env h' m' x u) : Inv X pins σ' H { s with heap := h', toks := tk } := by
  have nL : ∀ b o, X.s₀.heap.get? b = some o → b ≠ X.env.locals := fun b o e => Nat.ne_of_lt (Nat.lt_of_lt_of_le (Heap.lt_size e) I.ok.above)
  refine ⟨I.ok, I.os, I.bare, ⟨fun b o e n hb hx => ?_, fun b o e n hb hx => ?_, I.base.free, fun b o e hx => ?_, I.base.tups, I.base.frzs, I.base.tbls⟩, ⟨m', hn, hl⟩, fun y c e => ?_, I.free, I.freeC, fun p hp => ?_, fun b u q => ?_, hlen⟩
  · exact (sb.2 b (nL b o e)).trans (I.base.keep b o e n hb hx)
  · obtain ⟨sl, e1⟩ := I.base.slot b o e n hb hx
    exact ⟨sl, (sb.2 b (nL b o e)).trans e1⟩
  · obtain ⟨o', e1⟩ := I.base.there b o e hx
    exact ⟨o', (sb.2 b (nL b o e)).trans e1⟩
  · obtain ⟨v, o, e1, e2⟩ := I.cell y c e
    exact ⟨v, o, (sb.2 c (I.cne y c e)).trans e1, e2⟩
  · obtain ⟨e, n, ne, nf, d⟩ := I.pin p hp
    exact ⟨(sb.2 _ ne).trans e, n, ne, nf, d⟩
  · have nl : ∀ c v, H c = some v → c ≠ X.env.locals := fun c v z w => by rw [w, I.free] at z; cases z
    refine (I.hok b u q).stay (fun c v hc z => (sb.2 c ?_).trans z) (fun _ z => z) fun _ _ z => z
    rcases hc with w | w
    · rw [w]; exact nl b u q
    · exact nl c _ w
section
variable {X : Cx} {ρ : Rho} {M0 : MP} {H0 : Hp} {P : Post} {body suite : List Stmt} {b0 : Stmt} {cx n : Str} {np hpos pos : Pos} {j : Nat} {C D0 : Addr}
/-- the body raises C, which the clause takes -/
theorem W1.tryRaise (hst : X.stack = X.env :: X.outer) (hex : X.ex = []) (hfr : X.env.frame = some X.env.locals) (hN : X.N.Nodup) (hj : X.N[j]? = some n) (hn : X.env.scope.names.lookup n = some .local) (hlt : j < ρ.length) (hg : Gl X cx) (hm : X.mg cx = some (.ref D0)) (hb : Below2 C D0 X.base)
    (rb : ∀ pn W, RttD (CaX X pn W) W ρ body C) (su : ∀ a, WS (sX X a) M0 H0 (b0 :: suite) (ρ.set j (.im (.exc C))) { N := fun ρ' => P.N (ρ'.set j .un), R := fun _ => False }) (hdb : (cx == ("__debug__" : Str)) = false := by decide) :
    W1 X M0 H0 (.Try body [.ExceptHandler (some (.Name cx np)) (some n) (b0 :: suite) hpos] [] [] pos) ρ P := fun γ α σ H R pins s I => by
  have run := rb (X.pn ++ pins) (fun C' σ' H' => C' = C ∧ Rep X.K M0 H0 γ α ρ σ' H') M0 H0 γ α σ H { nx := fun _ _ => False, rt := fun _ _ => False, bk := fun _ _ => False, ct := fun _ _ => False } R (fun H' sm => ⟨rfl, R.next sm⟩) [] s (inv_ca I)
  refine wpAny_Try_except (wpAny_mono run (fun f s1 q => ?_) fun e s1 z => ?_)
  · cases f with
    | next => obtain ⟨_, _, _, q⟩ := q; exact q.elim
    | ret u => obtain ⟨_, _, _, _, _, q⟩ := q; exact q.elim
    | brk => obtain ⟨_, _, _, q⟩ := q; exact q.elim
    | cont => obtain ⟨_, _, _, q⟩ := q; exact q.elim
  obtain ⟨a, T, C', σ', H', pins', ee, I1, tr, ha, hT, na, nT, hpn, eC, R1⟩ := z
  subst ee eC
  have I2 : Inv X pins σ' H' s1 := inv_un I1
  have frq : frL (X.env :: X.outer) = frs X.stack := by rw [hst]; rfl
  refine look_next (base := X.base) (by rw [← hst]; exact I2.ok.frames) (by rw [← hst]; exact I2.stack) hfr tr fun h2 T' x => ?_
  obtain ⟨ne1, ⟨oe1, vs1, he1, hc1, hd1, _⟩, oT1, ts1, hT1, hdT1, _⟩ := id tr
  obtain ⟨ne2, ⟨oe2, vs2, he2, hc2, hd2, _⟩, oT2, ts2, hT2, hdT2, _⟩ := id x.tr
  have okH : ∀ c v, H' c = some v → c ∉ [a, T] ∧ c ∉ frs X.stack := fun c v z => by
    refine ⟨fun m => ?_, fun m => ?_⟩
    · have : c = a ∨ c = T := by simpa using m
      rcases this with rfl | rfl
      · rw [ha] at z; cases z
      · rw [hT] at z; cases z
    · rw [I2.stkFree c m] at z; cases z
  have k2 : HOk X.prog X.w H' h2 := fun b u q => by
    refine (I2.hok b u q).stay (fun c v hc z => ?_) (fun _ z => z) fun _ _ z => z
    have := hc.elim (fun w => by rw [w]; exact okH b u q) fun w => okH c _ w
    exact x.keep c v this.1 (by rw [frq]; exact this.2) z
  have I3 : Inv X pins σ' H' { s1 with heap := h2 } := by
    refine inv_free (g' := s1.gens) (d' := s1.drawn) (t' := s1.toks) (ch := [a, T]) I2 (fun b hb' => ?_) (fun b o n1 n2 q => x.keep b o n1 (by rw [frq]; exact n2) q) (fun b o m q => x.slot b o (by rw [frq]; exact m) q) (Same.refl _) (fun _ _ _ _ z => z) k2 I2.bare
    have : b = a ∨ b = T := by simpa using hb'
    rcases this with rfl | rfl
    · exact ⟨na, (fun o q => by rw [he1] at q; cases q; exact ⟨_, hd1⟩), fun p hp => (hpn p hp).1⟩
    · exact ⟨nT, (fun o q => by rw [hT1] at q; cases q; exact ⟨_, hdT1⟩), fun p hp => (hpn p hp).2⟩
  refine wpAny_handleBy_cons (codeAny_handlers_test (ld_glob (X := sX X a) (inv_s I3) hg hm ?_ hdb)) (by intro q; cases q)
  refine matches_own (s := { s1 with heap := h2 }) (hb.keeps I3.bk) he2 hc2 ?_
  refine codeAny_handlers_suite_as (flight_again (s := { s1 with heap := h2 }) x.tr fun h4 tr4 k4 => ?_)
  obtain ⟨_, ⟨oe4, vs4, he4, hc4, hd4, _, hdn4⟩, _⟩ := id tr4
  have hT' : H' T' = none := I2.hok.fresh x.new
  have I5 : Inv X pins σ' (upd H' a (excO a C')) { s1 with heap := h4 } := by
    refine inv_free (s := { s1 with heap := h2 }) (g' := s1.gens) (d' := s1.drawn) (t' := s1.toks) (ch := [a, T']) I3 (fun b hb' => ?_) (fun b o n1 n2 q => (k4 b fun z => n1 (by simp [z])).trans q) (fun b o m q => ⟨o.slots, (k4 b fun z => ?_).trans q⟩) (same_new ha) (fun b o n1 q z => by rw [upd_ne fun w => n1 (by simp [w])]; exact z) (fun b u q => ?_) I2.bare
    · have : b = a ∨ b = T' := by simpa using hb'
      rcases this with rfl | rfl
      · exact ⟨na, (fun o q => by rw [show Heap.get? h2 b = some oe2 from he2] at q; cases q; exact ⟨_, hd2⟩), fun p hp => (hpn p hp).1⟩
      · refine ⟨Heap.get?_none_of_le (Nat.le_trans I2.sz x.new), (fun o q => by rw [show Heap.get? h2 b = some oT2 from hT2] at q; cases q; exact ⟨_, hdT2⟩), fun p hp z => ?_⟩
        have := Heap.lt_size (I2.pin p hp).1
        rw [z] at this
        exact absurd (Nat.lt_of_lt_of_le this x.new) (Nat.lt_irrefl _)
    · obtain ⟨_, o', ho', nf⟩ := I3.stack.mem m
      rw [z, show Heap.get? h2 T' = some oT2 from hT2] at ho'
      cases ho'
      exact nf _ hdT2
    · by_cases hba : b = a
      · subst hba
        rw [upd_same] at q
        cases q
        exact ⟨⟨oe4, he4, hc4, hdn4, vs4, hd4⟩, ⟨oe4, he4⟩, fun h1 h2 ⟨o, e, c⟩ kk => ⟨o, kk o e, c⟩⟩
      · rw [upd_ne hba] at q
        refine (I3.hok b u q).stay (fun c v hc z => (k4 c fun w => ?_).trans z) (fun c z => same_new ha c _ z) fun c _ z => same_new ha c _ z
        rcases hc with w' | w'
        · rw [w'] at w
          rw [w, hT'] at q; cases q
        · rw [w, hT'] at w'; cases w'
  refine store_ok2 (v := .ref a) I5 hN hj (.inl hn) rfl (fun s6 I6 _ => ?_) (.inr hn)
  have R5 : Rep X.K M0 H0 γ α (ρ.set j (.im (.exc C'))) (σ'.set j (some (.ref a))) (upd H' a (excO a C')) := (R1.next (same_new ha)).set_im hlt ⟨a, rfl, upd_same⟩
  refine wpAny_mono (su a γ α _ _ R5 pins s6 (inv_s I6)) (fun f s7 q => ?_) fun _ _ z => z.elim
  cases f with
  | ret u => obtain ⟨_, _, _, _, _, _, q, _⟩ := q; exact q.elim
  | brk => obtain ⟨_, _, _, _, _, _, q⟩ := q; exact q.elim
  | cont => obtain ⟨_, _, _, _, _, _, q⟩ := q; exact q.elim
  | next =>
    obtain ⟨σ7, H7, I7', α7, ρ7, R7, pN⟩ := q
    have I7 : Inv X pins σ7 H7 s7 := inv_s_back I2.ok I7'
    obtain ⟨m, hn7, hl7⟩ := id I7.loc
    refine wpAny_nameGoes_keeps (show X.env.kindOf n = some .local from hn) hn7 (by rw [I7.ok.kind]; rfl) fun h8 v hn8 sb => ?_
    refine ⟨σ7.set j none, H7, inv_ns I7 hn8 sb (by rw [List.length_set]; exact I7.len) (fun i y w e1 e2 e3 => ?_), α7, ρ7.set j .un, R7.forget, pN⟩
    rcases get_set e2 with ⟨_, z⟩ | ⟨ni, z⟩
    · cases z
    · obtain ⟨u, r, l⟩ := hl7 i y w e1 z e3
      refine ⟨u, r, ?_⟩
      rcases l with ⟨k, l⟩ | ⟨k, c, e, l⟩
      · have ny : y ≠ n := fun w => ni (nodup_ix hN e1 (w ▸ hj))
        exact .inl ⟨k, by simp [ny, l]⟩
      · obtain ⟨o, ho, hd⟩ := l
        exact .inr ⟨k, c, e, o, (sb.2 c (I7.cne y c e)).trans ho, hd⟩
end
end Z
set_option Elab.async false
set_option linter.all false
set_option maxRecDepth 100000
namespace Z
open PySem PySem.Spec PySem.W PyProof.Rows
section
variable {prog : Program} {w : World} {A : Around} {E : Value → Shared → Prop} {h : Heap} {g : Array GenState} {d : Drawn} {t : Nat} {os : OsState} {a C : Addr} {o : Obj} {K : Frag}
theorem excls_entry {tk : Tok} {Q : PySem.Fin → Shared → Prop} (X : K.In h) (hx : h.get? a = some o) (hc : o.cls = .ref C) (hcl : findIn K (.ref C) "__class__" = some (some (.builtin "object.__class__"))) (hm : mroIn K C (.type "object") = some true) (I : InstAt h a o C none) (hq : Q (.done (.ret (.ref C))) ⟨h, g, d, t, os⟩) :
    wpAny (model prog w) A (Builtin.«object.__getattribute__» ⟨[.ref a, .str "__class__" tk], []⟩) Q E ⟨h, g, d, t, os⟩ := by
  have f6 := F.slot_gs_get.lookup
  have f7 := F.slot_gs_set.lookup
  have f5 : typeOf (.builtin "object.__class__") = pure (.type "getset_descriptor") := by show builtinType _ = _; rw [builtinType_eq_fast]; kernel_rfl
  have hT5 : (⟨h, g, d, t, os⟩ : Shared).TypeIs (.builtin "object.__class__") "getset_descriptor" := f5
  have L1 := looks_findIn (M := model prog w) X hcl
  repeat (any_goals (first | assumption | (with_reducible refine wpAny_loadPart_at hx ?_; rw [hc]) | (with_reducible refine L1.at ?_) | wp_step))
  refine class_get (s := ⟨h, g, d, t, os⟩) X I hm ?_
  exact wpAny_pure hq
/-- what of an own class of errors is asked when a thing of it is asked for its class -/
structure ExcCl (K : Frag) (C : Addr) : Prop where
  cl : findIn K (.ref C) "__class__" = some (some (.builtin "object.__class__"))
  ga : findIn K (.ref C) "__getattribute__" = some (some (.builtin "BaseException.__getattribute__"))
  gt : findIn K (.ref C) "__getattr__" = some none
  ob : mroIn K C (.type "object") = some true
  be : subIn K (.ref C) (.type "BaseException") = some true
theorem excls_check {M : Model} {nameV : Value} {Q : Unit → Shared → Prop} (T : ExcCl K C) (X : K.In h) (hx : h.get? a = some o) (hc : o.cls = .ref C) (hq : Q () ⟨h, g, d, t, os⟩) : wpAny M A (checkBuiltinCall "BaseException.__getattribute__" ⟨[.ref a, nameV], []⟩) Q E ⟨h, g, d, t, os⟩ := by
  have hk : builtinKind "BaseException.__getattribute__" = some .slot := by decide +kernel
  have hsplit : splitId "BaseException.__getattribute__" = some ("BaseException", "__getattribute__") := by decide +kernel
  have ha := F.args_bexc_ga (.ref a) nameV
  have L2 := looks_subIn (M := M) X T.be
  simp only [checkBuiltinCall, hk, hsplit]
  refine wpAny_bind ?_
  unfold isInstance
  repeat (first | (with_reducible refine wpAny_loadPart_at hx ?_; rw [hc]) | (with_reducible refine L2.at ?_) | wp_step)
  exact hq
theorem excls_by {tk : Tok} {fill expr : Bool} {Q : Value → Shared → Prop} (T : ExcCl K C) (X : K.In h) (hx : h.get? a = some o) (hc : o.cls = .ref C) (I : InstAt h a o C none) (hq : Q (.ref C) ⟨h, g, d, t, os⟩) :
    wpAny (model prog w) A (getAttrBy (.ref a) (.str "__class__" tk) fill expr) Q E ⟨h, g, d, t, os⟩ := by
  have FB := F.excAttr_ValueError
  have f3 := FB.ga.bind (.ref a)
  have hx0 : (expr && onTheHeap (Value.builtin "BaseException.__getattribute__")) = false := by cases expr <;> rfl
  have hx2 : (Value.builtin "BaseException.__getattribute__" == Value.builtin "object.__getattribute__") = false := by decide +kernel
  have hx1 : (onTheHeap (Value.ref C) && Value.builtin "BaseException.__getattribute__" == Value.builtin "object.__getattribute__") = false := by rw [hx2]; rfl
  have L1 := looks_findIn (M := model prog w) X T.ga
  have L2 := looks_findIn (M := model prog w) X T.gt
  repeat (any_goals (first | assumption | (with_reducible refine wpAny_loadPart_at hx ?_; rw [hc]) | (with_reducible refine L1.at ?_) | (with_reducible refine L2.at ?_) | wp_step))
  refine codeAny_call_builtin FB.ga.plain F.entry_bexc_ga (excls_check T X hx hc (excls_entry X hx hc T.cl T.ob I ?_))
  repeat (any_goals (first | assumption | wp_step))
theorem excls_attr {Q : Option Value → Shared → Prop} {s : Shared} (T : ExcCl K C) (X : K.In s.heap) (I : InstAt s.heap a o C none) (hq : Q (some (.ref C)) { s with toks := s.toks + 1 }) : wpAny (model prog w) A (getAttr? (.ref a) "__class__") Q E s := by
  obtain ⟨h, g, d, t, os⟩ := s
  have hx := I.at_
  have hc := I.cls
  unfold getAttr?
  repeat (any_goals (first | assumption | with_reducible apply excls_by T X hx hc I | wp_step))
end
section
variable {K : Frag} {a C : Addr}
/-- a thing of an own class of errors -/
def ExcAt (a C : Addr) (h : Heap) : Prop := ∃ o, h.get? a = some o ∧ o.cls = .ref C ∧ o.dict = none ∧ ∃ vs, o.data = .fields vs
theorem ExcAt.inst {h : Heap} (x : ExcAt a C h) : ∃ o, InstAt h a o C none := by
  obtain ⟨o, e, c, d, vs, f⟩ := x
  refine ⟨o, e, c, ?_, ?_⟩
  · obtain ⟨oc, od, dt, sl⟩ := o
    cases (show dt = _ from f)
    rfl
  · rw [d]
    trivial
theorem kitx_exc (T : ExcCl K C) (hcl : (clsIn K C).isSome = true) : KitX K (.ref a) (.ref C) (ExcAt a C) where
  ty := fun _ _ _ x => let ⟨o, I⟩ := x.inst; I.type
  it := fun _ _ X _ => by
    obtain ⟨cdD, hcD⟩ := Option.isSome_iff_exists.mp hcl
    unfold clsIn at hcD
    split at hcD
    · rename_i c' d' cd' sl' ho
      intro A' Q' E' s' k q
      unfold isType loadHead
      exact wpAny_bind (wpAny_loadPart (k _ _ (X _ _ ho)) (wpAny_pure q))
    · cases hcD
  ne := fun h tp dd its n sl X htp => by
    obtain ⟨cdD, hcD⟩ := Option.isSome_iff_exists.mp hcl
    refine Bool.eq_false_iff.mpr fun q => ?_
    have e : C = tp := Value.ref.inj (beq_iff_eq.mp q)
    subst e
    unfold clsIn at hcD
    split at hcD
    · rename_i c' d' cd' sl' ho
      have z := (X _ _ ho).symm.trans htp
      cases z
    · cases hcD
  ca := fun X x k => let ⟨o, I⟩ := x.inst; excls_attr T X I k
end
end Z
set_option Elab.async false
set_option linter.all false
set_option maxRecDepth 100000
namespace Z
open PySem PySem.Spec PyProof.Rows L2
/-- what the text has of an own class of errors -/
structure ExcT (K : Frag) (C : Addr) : Prop where
  t : ExcCl K C
  c : (PySem.W.clsIn K C).isSome = true
section
variable {X : Cx} {ρ : Rho} {e : Expr} {C : Addr} {p p2 pos : Pos} {x : Str} {b : Bool}
theorem call_isiE : CallR X (.builtin "isinstance") (fun xs H Q => ∃ (a C : Addr) (v : V) (c : Value) (b : Bool), xs = [.ref a, v] ∧ RelV v c ∧ (∀ u, RelV v u → u = c) ∧ H a = some (excO a C) ∧ ExcT X.K C ∧ PySem.W.kitOne X.K (.ref C) c = some b ∧ Q (.bl b) H) := by
  intro pins s σ H xs us Q I r ⟨a, C, v, c, b, e, rc, ru, ha, T, hk, q⟩
  subst e
  obtain ⟨u, c', rfl, r1, r2⟩ := vals2 r
  cases (show u = Value.ref a from r1)
  cases ru c' r2
  obtain ⟨⟨o, e1, e2, e3, vs, e4⟩, _⟩ := (show ObjOk X.prog X.w H s.heap a (excO a C) from I.hok a _ ha)
  exact PySem.W.kia_one (kitx_exc T.t T.c) I.kIn ⟨o, e1, e2, e3, vs, e4⟩ hk (fun z => nomatch z) fun tk => ⟨.bl b, H, I.tok tk, rfl, q⟩
/-- isinstance(e, C') for a class of the text -/
theorem EvD.isiE {C' : Addr} (hg : Gl X "isinstance") (hm : X.mg "isinstance" = none) (hgC : Gl X x) (hmC : X.mg x = some (.ref C')) (h : EvD X ρ e (.exc C)) (T : ExcT X.K C) (hk : PySem.W.kitOne X.K (.ref C) (.ref C') = some b)
    (he : starEach [e, .Name x p2] X.env = (false, eval e X.env) :: starEach [.Name x p2] X.env := by rfl) (he2 : starEach [.Name x p2] X.env = [(false, eval (.Name x p2) X.env)] := by rfl) (hpl : (backTo pos (starEach [.Name x p2] X.env)).any (·.1) = false := by rfl)
    (hd : (x == ("__debug__" : Str)) = false := by decide) : EvD X ρ (.Call (.Name "isinstance" p) [e, .Name x p2] [] pos) (.bl b) := fun M0 H0 γ α σ H Q R k =>
  (pe_callB call_isiE hg hm boot_isinstance (pa_cons peE (pa_cons (pe_glob (v := .ref C') hgC hmC rfl hd) pa_nil he2) he) (by decide) (by decide) he hpl).to (h M0 H0 γ α σ H _ R fun v H1 s1 d1 => by
    obtain ⟨a, rfl, ha⟩ := d1
    exact ⟨a, C, .ref C', .ref C', b, rfl, rfl, fun _ z => z, ha, T, hk, k _ H1 s1 rfl⟩)
/-- isinstance(e, T) for a built-in class -/
theorem EvD.isiET {n : String} (hg : Gl X "isinstance") (hm : X.mg "isinstance" = none) (hgC : Gl X x) (hmC : X.mg x = none) (hv : bootBuiltins x = some (.type n)) (h : EvD X ρ e (.exc C)) (T : ExcT X.K C) (hk : PySem.W.kitOne X.K (.ref C) (.type n) = some b)
    (he : starEach [e, .Name x p2] X.env = (false, eval e X.env) :: starEach [.Name x p2] X.env := by rfl) (he2 : starEach [.Name x p2] X.env = [(false, eval (.Name x p2) X.env)] := by rfl) (hpl : (backTo pos (starEach [.Name x p2] X.env)).any (·.1) = false := by rfl)
    (hn : x ≠ "__name__" := by decide) (hd : (x == ("__debug__" : Str)) = false := by decide) : EvD X ρ (.Call (.Name "isinstance" p) [e, .Name x p2] [] pos) (.bl b) := fun M0 H0 γ α σ H Q R k =>
  (pe_callB call_isiE hg hm boot_isinstance (pa_cons peE (pa_cons (pe_bltn (v := .ty n) hgC hmC hv rfl hn hd) pa_nil he2) he) (by decide) (by decide) he hpl).to (h M0 H0 γ α σ H _ R fun v H1 s1 d1 => by
    obtain ⟨a, rfl, ha⟩ := d1
    exact ⟨a, C, .ty n, .type n, b, rfl, rfl, fun _ z => z, ha, T, hk, k _ H1 s1 rfl⟩)
end
end Z
set_option Elab.async false
set_option linter.all false
set_option maxRecDepth 100000
namespace Z
open PySem PySem.Spec PyProof.Rows L2
/-! ### what a call gives is new: a list inside it may be changed -/
/-- no list inside; objects are let -/
def D.bare : Nat → D → Prop
  | _, .non => True
  | _, .bl _ => True
  | _, .int _ => True
  | _, .str _ => True
  | n + 1, .tup ds => ∀ d ∈ ds, D.bare n d
  | n + 1, .ins _ _ ds => ∀ d ∈ ds, D.bare n d
  | _, _ => False
theorem Dns.map1 {K : Frag} {M M' : MP} {H H' : Hp} : ∀ {ds : List D} {xs : List V}, (∀ d ∈ ds, ∀ v, Dn K M H d v → Dn K M' H' d v) → Dns K M H ds xs → Dns K M' H' ds xs
  | [], _, _, h => h
  | d :: ds, _, k, ⟨v, t, e, h1, h2⟩ => ⟨v, t, e, k d (.head _) v h1, Dns.map1 (fun x hx => k x (.tail _ hx)) h2⟩
theorem Dn.bare {K : Frag} {M M' : MP} {H : Hp} : ∀ (n : Nat) {d : D} {v : V}, D.bare n d → Dn K M H d v → Dn K M' H d v := by
  intro n
  induction n with
  | zero => intro d v hf h; cases d <;> first | exact h | exact hf.elim
  | succ n ih =>
    intro d v hf h
    cases d with
    | tup ds =>
      obtain ⟨a, xs, e, s, r⟩ := h
      exact ⟨a, xs, e, s, Dns.map1 (fun d hd v => ih (hf d hd)) r⟩
    | ins C ns ds =>
      obtain ⟨a, dx, fs, e, s, hn, r⟩ := h
      exact ⟨a, dx, fs, e, s, hn, Dns.map1 (fun d hd v => ih (hf d hd)) r⟩
    | non => exact h
    | bl _ => exact h
    | int _ => exact h
    | str _ => exact h
    | _ => exact hf.elim
section
variable {K : Frag} {M : MP} {H : Hp} {a b : Addr} {o : Obj} {xs ys : List V}
theorem rdL_thaw (ha : H a = some (.frz o (.lst xs))) (h : Rd H b (.lst ys)) : Rd (upd H a (.lst xs)) b (.lst ys) := by
  by_cases hb : b = a
  · subst hb
    rcases h with h | ⟨o', h⟩
    · rw [ha] at h; cases h
    · rw [ha] at h; cases h; exact .inl upd_same
  · rcases h with h | ⟨o', h⟩
    · exact .inl (by rw [upd_ne hb]; exact h)
    · exact .inr ⟨o', by rw [upd_ne hb]; exact h⟩
theorem sqT_thaw (ha : H a = some (.frz o (.lst xs))) (h : SqT K H b ys) : SqT K (upd H a (.lst xs)) b ys := by
  rcases h with (h | ⟨o', h⟩) | h
  · exact .inl (.inl (by rw [upd_ne fun z => by rw [z, ha] at h; cases h]; exact h))
  · exact .inl (.inr ⟨o', by rw [upd_ne fun z => by rw [z, ha] at h; cases h]; exact h⟩)
  · exact .inr h
theorem sqM_thaw (ha : H a = some (.frz o (.lst xs))) (h : SqM K M H b ys) : SqM K M (upd H a (.lst xs)) b ys := by
  rcases h with ⟨h, m⟩ | h
  · exact .inl ⟨rdL_thaw ha h, m⟩
  · exact .inr h
mutual
theorem Dn.thaw (ha : H a = some (.frz o (.lst xs))) : ∀ {d : D} {v : V}, Dn K M H d v → Dn K M (upd H a (.lst xs)) d v
  | .non, _, x => x
  | .bl _, _, x => x
  | .int _, _, x => x
  | .str _, _, x => x
  | .tup ds, _, ⟨b, ys, e, s, r⟩ => ⟨b, ys, e, sqT_thaw ha s, Dns.thaw ha r⟩
  | .lst ds, _, ⟨b, ys, e, s, r⟩ => ⟨b, ys, e, sqM_thaw ha s, Dns.thaw ha r⟩
  | .ins _ _ ds, _, ⟨b, dx, fs, e, s, n, r⟩ => ⟨b, dx, fs, e, by rw [upd_ne fun z => by rw [z, ha] at s; cases s]; exact s, n, Dns.thaw ha r⟩
  | .exc C, _, ⟨b, e, s⟩ => ⟨b, e, by rw [upd_ne fun z => by rw [z, ha] at s; cases s]; exact s⟩
theorem Dns.thaw (ha : H a = some (.frz o (.lst xs))) : ∀ {ds : List D} {vs : List V}, Dns K M H ds vs → Dns K M (upd H a (.lst xs)) ds vs
  | [], _, x => x
  | _ :: _, _, ⟨v, r, e, p, q⟩ => ⟨v, r, e, Dn.thaw ha p, Dns.thaw ha q⟩
end
end
section
variable {X : Cx} {ρ : Rho} {M0 : MP} {H0 H H' : Hp} {γ : List (D × V)} {α : Nat → Addr} {σ : St} {En : Ends} {sts s1 body : List Stmt} {e c tg : Expr} {es : List Expr} {d : D} {pos p pos' : Pos} {CX : CXT} {k : Nat} {x : Str} {ι : Type} {args : ι → List D} {pre : ι → Prop} {res : ι → Except Addr D} {Q : VK}
/-- what is frozen there, and new, may be seen as a list again -/
theorem thaw {a : Addr} {o : Obj} {xs : List V} (h0 : X.H₀ a = none) (ha : H a = some (.frz o (.lst xs))) (h : tSs X sts En σ (upd H a (.lst xs))) : tSs X sts En σ H := fun pins s I => by
  refine h pins s ?_
  have na : ∀ b, H b = none → b ≠ a := fun b n z => by rw [z, ha] at n; cases n
  refine ⟨I.ok, I.os, I.bare, ⟨I.base.keep, I.base.slot, fun b o q n hx => ?_, I.base.there, fun b xs q => ?_, fun b o u q => ?_, fun b ps q => ?_⟩, I.loc, I.cell, ?_, fun x c e => ?_, fun p hp => ?_, fun b u q => ?_, I.len⟩
  · have := I.base.free b o q n hx
    rw [upd_ne (na b this)]; exact this
  · have := I.base.tups b xs q
    rw [upd_ne fun z => by rw [z, ha] at this; cases this]; exact this
  · have := I.base.frzs b o u q
    rw [upd_ne fun z => by rw [z, h0] at q; cases q]; exact this
  · obtain ⟨more, this⟩ := I.base.tbls b ps q
    exact ⟨more, by rw [upd_ne fun z => by rw [z, ha] at this; cases this]; exact this⟩
  · rw [upd_ne (na _ I.free)]; exact I.free
  · rw [upd_ne (na _ (I.freeC x c e))]; exact I.freeC x c e
  · obtain ⟨e, n, ne, nf, d⟩ := I.pin p hp
    exact ⟨e, by rw [upd_ne (na _ n)]; exact n, ne, nf, d⟩
  · have stay : ∀ {u : HO}, ObjOk X.prog X.w H s.heap b u → ObjOk X.prog X.w (upd H a (.lst xs)) s.heap b u := fun x => x.stay (fun c v _ z => z) (fun c z => by rw [upd_ne fun w => by rw [w, ha] at z; cases z]; exact z) fun c ys z => by rw [upd_ne fun w => by rw [w, ha] at z; cases z]; exact z
    by_cases hba : b = a
    · subst hba
      rw [upd_same] at q
      cases q
      have y : ObjOk X.prog X.w H s.heap b (.frz o (.lst xs)) := I.hok b _ ha
      exact stay y.2
    · rw [upd_ne hba] at q
      exact stay (I.hok b u q)
/-- an if that is not taken, at the state -/
theorem skipT (h : TvD X ρ c false) (R : Rep X.K M0 H0 γ α ρ σ H) (k : ∀ H', Same H H' → tSs X sts En σ H') : tSs X (.If c s1 [] pos :: sts) En σ H :=
  (pss_cons psS psSs).to (skipIf h R k)
end
end Z
set_option Elab.async false
set_option linter.all false
set_option maxRecDepth 100000
namespace Z
open PySem PySem.Spec PyProof.Rows L2
/-! ### facts on the classes of errors, out of what the top has written -/
section
variable {K : Frag} {h : Heap} {mg : Str → Option Value} {x : Str} {C D0 : Addr} {tl : List Value} {nid : String}
/-- the object of an own class of errors -/
theorem exc_obj (ok : PySem.W.excIn K C tl nid = true) : ∃ nm q N bs bm hdct sn sub ab col dd k0 k1 k2 k3 k5, K.lookup C = some (excClassObj nm q C N bs bm hdct sn sub ab col dd k0 k1 k2 k3 k5 nid) ∧ PySem.W.tailIn K tl bm = true ∧ PySem.W.nsOkIn K N = true ∧ PySem.W.nsIn K N "__init__" = some none := by
  unfold PySem.W.excIn at ok
  split at ok
  case h_2 => cases ok
  rename_i dct cdat slots look
  split at ok
  case h_2 => cases ok
  rename_i C2 above s0 s1 s2 s3 bid s5 em es
  simp only [Bool.not_eq_true', Bool.and_eq_true, beq_iff_eq] at ok
  obtain ⟨⟨⟨⟨⟨w1, w2⟩, w3⟩, w4⟩, w5⟩, w6⟩ := ok
  subst w1 w2
  obtain ⟨v1, v2, v3, v4, v5, v6, v7, v8, v9, v10, v11⟩ := cdat
  dsimp only at em w3 w5 w6
  subst em w3
  obtain ⟨sl⟩ := slots
  have es' : sl = [s0, s1, s2, s3, some (.builtin bid), s5] := es
  subst es'
  exact ⟨v1, v5, v4, v2, above, v6, v7, v8, v9, v10, dct, s0, s1, s2, s3, s5, look, w4, w5, w6⟩
theorem ownCls_of (kin : K.In h) (hmg : mg x = some (.ref C)) (ok : PySem.W.excIn K C tl nid = true) : OwnCls x C tl nid mg h := by
  obtain ⟨nm, q, N, bs, bm, hdct, sn, sub, ab, col, dd, k0, k1, k2, k3, k5, look, w4, w5, w6⟩ := exc_obj ok
  exact ⟨hmg, bm, N, nm, q, bs, hdct, sn, sub, ab, col, dd, k0, k1, k2, k3, k5, _, kin _ _ look, .of_isNs (PySem.W.isNs_of_in kin w5), PySem.W.nsMap_none_of_in kin w5 w6, PySem.W.tail_of_in kin w4⟩
theorem ownE_of (kin : K.In h) (hmg : mg x = some (.ref C)) (ok : PySem.W.excIn K C vErr "ValueError.__new__" = true) : OwnE x C mg h :=
  ⟨_, _, _, _, ownCls_of kin hmg ok, PySem.F.excBase_ValueError, by decide +kernel⟩
theorem exc_above {v : Value} (kin : K.In h) (ok : PySem.W.excIn K C tl nid = true) (hm : PySem.W.mroIn K C v = some true) :
    ∃ nm q N bs bm hdct sn sub ab col dd k0 k1 k2 k3 k5 newId, h.get? C = some (excClassObj nm q C N bs bm hdct sn sub ab col dd k0 k1 k2 k3 k5 newId) ∧ (Value.ref C :: bm).contains v = true := by
  obtain ⟨nm, q, N, bs, bm, hdct, sn, sub, ab, col, dd, k0, k1, k2, k3, k5, look, w4, w5, w6⟩ := exc_obj ok
  refine ⟨nm, q, N, bs, bm, hdct, sn, sub, ab, col, dd, k0, k1, k2, k3, k5, nid, kin _ _ look, ?_⟩
  unfold PySem.W.mroIn PySem.W.clsIn at hm
  rw [look] at hm
  have hm' : some ((Value.ref C :: bm).contains v) = some true := hm
  exact Option.some.inj hm'
theorem below_of {tl' : List Value} {nid' : String} (kin : K.In h) (o1 : PySem.W.excIn K C tl nid = true) (o2 : PySem.W.excIn K D0 tl' nid' = true) (m1 : PySem.W.mroIn K C (.ref D0) = some true) (m2 : PySem.W.mroIn K D0 (.type "BaseException") = some true) : Below2 C D0 h := ⟨exc_above kin o1 m1, exc_above kin o2 m2⟩
end
/-- no list was made by the top -/
def noLst (K : Frag) : Bool := K.all fun p => !(p.2.cls == .type "list")
theorem noLst_of {K : Frag} (e : noLst K = true) (a : Addr) (xs : List V) : ¬ KLst K a xs := fun ⟨o, its, n, lk, hc, _⟩ => by
  have := List.all_eq_true.mp e (a, o) (PySem.W.mem_of_lookupK lk)
  dsimp only at this
  rw [hc] at this
  revert this
  decide +kernel
theorem lawWalkX {l : PySem.W.OpenLaw} {q : Program} {loose : List Str} {XP : (Str → Option Value) → Heap → Prop} {YP : World → Heap → Prop} {d : DefRec} {K : Params → Frag} {k : Nat} (hr : Room k callerA) (hn : l.most = some 63) (hdf : d.params.defaults = [])
    (hY : ∀ (w : World) (h : Heap), YP w h → (K w.params).In h)
    (F : ∀ (w : World) (mg : Str → Option Value) (fa : Addr) (h : Heap), (K w.params).In h → h.Ns mainGlobals mg → mg d.name = some (.ref fa) →
      ∃ fd : FuncData, (∀ (s : Shared) (u : Value), BindsTo s fd ⟨[u], []⟩ [("script", u)]) ∧ ∀ base : Heap, (K w.params).In base → base.Ns mainGlobals mg → FnOk l.prog w (K w.params) mg base (CXr l.prog w) k fa fd ["script"] (spLaw (K w.params))) :
    PySem.W.WalkO q loose XP YP l.row.toRowW d [] (fun f vs => PySem.call f vs) :=
  L2.walk_of (n := 63) (k := k) (x := "script") (CX := fun w => CXr l.prog w) (sp := fun w => spLaw (K w.params)) hn (by decide) hdf hr hY F (fun w H a ns hl _ hS => by
    refine ⟨ns, NoM, fun _ z => z.elim, ⟨.ref a, [], rfl, ⟨a, ns.map V.int, rfl, ?_, Dns.of_ints ns⟩, rfl⟩, hl, fun d' e v H' _ dn => ?_, fun C e => by cases e⟩
    · rcases hS with s | s
      · exact .inl ⟨s, fun z => z⟩
      · exact .inr s
    · cases e
      exact dn) fun w H s e s' z => cxr_no [] H s e s' z
end Z
set_option Elab.async false
set_option linter.all false
set_option maxRecDepth 100000
namespace Z
open PySem PySem.Spec PyProof.Rows L2
/-! ### texts: slices, index, list(text), text + list.pop(..) -/
section
variable {X : Cx} {ρ : Rho} {M0 : MP} {H0 : Hp} {P : Post} {a b e o : Expr} {pos p p2 apos cpos : Pos}
end
end Z
set_option Elab.async false
set_option linter.all false
set_option maxRecDepth 100000
namespace Z
open PySem PySem.Spec PyProof.Rows L2
/-! ### lists inside a list that grow, at the state -/
section
variable {K : Frag} {M0 : MP} {H0 Hs H : Hp} {γ : List (D × V)} {α : Nat → Addr} {ρ : Rho} {σ : St} {D0 l : Addr} {as : List Addr} {rows : List (List Int)} {o : HO}
end
section
variable {X : Cx} {ρ : Rho} {M0 : MP} {H0 Hs H : Hp} {γ : List (D × V)} {α : Nat → Addr} {σ : St} {En : Ends} {body : List Stmt} {b e tg : Expr} {d : D} {ds : List D} {pos p1 p2 p3 p4 : Pos} {x : Str} {i : Nat} {D0 l : Addr} {as : List Addr} {rows : List (List Int)} {xs : List V}
end
end Z
set_option Elab.async false
set_option linter.all false
set_option maxRecDepth 100000
namespace Z
open PySem PySem.Spec PySem.W PyProof.Rows
/-! ### a sort of fewer than 64 items, no two alike: in order -/
/-- the comparisons answer lt -/
def leafO {α : Type} (lt : Nat → Nat → Bool) (n : Nat) : KasT α → (α → Prop) → Prop
  | .ret a, P => P a
  | .ask i j k, P => i < n ∧ j < n ∧ leafO lt n (k (lt i j)) P
section
variable {lt : Nat → Nat → Bool} {n : Nat}
theorem leafO_mono {α : Type} {P Q : α → Prop} (h : ∀ a, P a → Q a) : ∀ (t : KasT α), leafO lt n t P → leafO lt n t Q
  | .ret a, x => h a x
  | .ask i j k, ⟨x, y, z⟩ => ⟨x, y, leafO_mono h (k (lt i j)) z⟩
theorem leafO_bind {α β : Type} {P : β → Prop} {f : α → KasT β} : ∀ (t : KasT α), leafO lt n t (fun a => leafO lt n (f a) P) → leafO lt n (t.bind f) P
  | .ret a, x => x
  | .ask i j k, ⟨x, y, z⟩ => ⟨x, y, leafO_bind (k (lt i j)) z⟩
theorem wp_leafO {α : Type} {cmp : Nat → Nat → (Bool → Shared → Prop) → Shared → Prop} {s : Shared} (hc : ∀ i j C, i < n → j < n → C (lt i j) s → cmp i j C s) {Q : α → Shared → Prop} {P : α → Prop} (hq : ∀ a, P a → Q a s) : ∀ (t : KasT α), leafO lt n t P → t.kasWp cmp Q s
  | .ret a, x => hq a x
  | .ask i j k, ⟨x, y, z⟩ => hc i j _ x y (wp_leafO hc hq (k (lt i j)) z)
end
structure OrdN (lt : Nat → Nat → Bool) (n : Nat) : Prop where
  tot : ∀ i j, i < n → j < n → i ≠ j → lt i j = false → lt j i = true
  asy : ∀ i j, lt i j = true → lt j i = false
  tr : ∀ i j k, lt i j = true → lt j k = true → lt i k = true
def Asc (lt : Nat → Nat → Bool) (p : Array Nat) (m : Nat) : Prop := ∀ i j, i < j → j < m → lt (p.getD i 0) (p.getD j 0) = true
def Desc (lt : Nat → Nat → Bool) (p : Array Nat) (m : Nat) : Prop := ∀ i j, i < j → j < m → lt (p.getD j 0) (p.getD i 0) = true
theorem PR.size {n : Nat} {p : Array Nat} (h : PR n p) : p.size = n := by
  have := List.Perm.length_eq h
  simpa using this
theorem getD_of {p q : Array Nat} {i j : Nat} (h : p[i]? = q[j]?) : p.getD i 0 = q.getD j 0 := by
  simp only [Array.getD_eq_getD_getElem?, h]
theorem PR.ne {n : Nat} {p : Array Nat} (h : PR n p) {i j : Nat} (hi : i < n) (hj : j < n) (hne : i ≠ j) : p.getD i 0 ≠ p.getD j 0 := by
  have hnd : p.toList.Nodup := h.symm.nodup List.nodup_range
  have sz := h.size
  have e1 : p.getD i 0 = p.toList[i]'(by simpa [sz] using hi) := by simp [Array.getD, sz, hi]
  have e2 : p.getD j 0 = p.toList[j]'(by simpa [sz] using hj) := by simp [Array.getD, sz, hj]
  rw [e1, e2]
  intro z
  exact hne ((List.getElem_inj hnd).mp z)
section
variable {lt : Nat → Nat → Bool} {n : Nat} (hn : 0 < n) (o : OrdN lt n)
include hn o
theorem step_up {p : Array Nat} (h : PR n p) {i j : Nat} (hi : i < n) (hj : j < n) (hne : i ≠ j) (e : lt (p.getD i 0) (p.getD j 0) = false) : lt (p.getD j 0) (p.getD i 0) = true := o.tot _ _ (h.lt hn _) (h.lt hn _) (h.ne hi hj hne) e
theorem lo_asc {p : Array Nat} (h : PR n p) : ∀ (f m : Nat), 1 ≤ m → m + f ≤ n → Asc lt p m → leafO lt n (kas_asc p f m) (fun r => m ≤ r ∧ r ≤ m + f ∧ Asc lt p r ∧ (r < m + f → lt (p.getD r 0) (p.getD (r - 1) 0) = true))
  | 0, m, _, _, a => ⟨Nat.le_refl _, Nat.le_refl _, a, fun z => absurd z (Nat.lt_irrefl _)⟩
  | f + 1, m, h1, h2, a => by
    refine ⟨h.lt hn _, h.lt hn _, ?_⟩
    cases e : lt (p.getD m 0) (p.getD (m - 1) 0) with
    | true => exact ⟨Nat.le_refl _, by omega, a, fun _ => e⟩
    | false =>
      have up := step_up hn o h (i := m) (j := m - 1) (by omega) (by omega) (by omega) e
      have a' : Asc lt p (m + 1) := fun i j hij hj => by
        by_cases hjm : j < m
        · exact a i j hij hjm
        · have : j = m := by omega
          subst this
          by_cases him : i = j - 1
          · subst him; exact up
          · exact o.tr _ _ _ (a i (j - 1) (by omega) (by omega)) up
      exact leafO_mono (fun r ⟨r1, r2, r3, r4⟩ => ⟨by omega, by omega, r3, fun z => r4 (by omega)⟩) _ (lo_asc h f (m + 1) (by omega) (by omega) a')
theorem lo_desc {p : Array Nat} (h : PR n p) : ∀ (f m : Nat), 1 ≤ m → m + f ≤ n → Desc lt p m → leafO lt n (kas_desc f p m 0) (fun r => r.1 = p ∧ r.2.2 = 0 ∧ m ≤ r.2.1 ∧ r.2.1 ≤ m + f ∧ Desc lt p r.2.1)
  | 0, m, _, _, a => ⟨rfl, rfl, Nat.le_refl _, Nat.le_refl _, a⟩
  | f + 1, m, h1, h2, a => by
    refine ⟨h.lt hn _, h.lt hn _, ?_⟩
    cases e : lt (p.getD m 0) (p.getD (m - 1) 0) with
    | true =>
      have a' : Desc lt p (m + 1) := fun i j hij hj => by
        by_cases hjm : j < m
        · exact a i j hij hjm
        · have : j = m := by omega
          subst this
          by_cases him : i = j - 1
          · subst him; exact e
          · exact o.tr _ _ _ e (a i (j - 1) (by omega) (by omega))
      exact leafO_mono (fun r ⟨r1, r2, r3, r4, r5⟩ => ⟨r1, r2, by omega, by omega, r5⟩) _ (lo_desc h f (m + 1) (by omega) (by omega) a')
    | false =>
      have up := step_up hn o h (i := m) (j := m - 1) (by omega) (by omega) (by omega) e
      refine ⟨h.lt hn _, h.lt hn _, ?_⟩
      rw [up]
      exact ⟨rfl, rfl, Nat.le_refl _, by show m ≤ m + (f + 1); omega, a⟩
theorem asc_rev {p : Array Nat} (h : PR n p) {m : Nat} (hm : m ≤ n) (a : Desc lt p m) : Asc lt (kas_rev p 0 m) m := fun i j hij hj => by
  have sz := h.size
  have g : ∀ k, k < m → (kas_rev p 0 m).getD k 0 = p.getD (m - 1 - k) 0 := fun k hk => by
    refine getD_of ?_
    have := getElem?_mirror_all (xs := p) (i := 0) (j := m) (by omega) k
    rw [if_pos ⟨Nat.zero_le _, hk⟩] at this
    unfold kas_rev
    rw [this]
    congr 1
    omega
  rw [g i (by omega), g j hj]
  exact a (m - 1 - j) (m - 1 - i) (by omega) (by omega)
theorem lo_count {p : Array Nat} (h : PR n p) : leafO lt n (kas_count n p) (fun r => PR n r.2 ∧ 1 ≤ r.1 ∧ r.1 ≤ n ∧ Asc lt r.2 r.1) := by
  unfold kas_count
  refine leafO_bind _ (leafO_mono (fun m hm => ?_) _ (lo_asc hn o h (n - 1) 1 (Nat.le_refl _) (by omega) fun i j hij hj => by omega))
  obtain ⟨m1, m2, ma, ml⟩ := hm
  split
  · exact ⟨h, m1, by omega, ma⟩
  · rename_i hne
    have hmn : m < n := by
      have : ¬ m = n := fun z => hne (by rw [z]; exact beq_self_eq_true n)
      omega
    split
    · rename_i h1
      refine ⟨h.lt hn _, h.lt hn _, ?_⟩
      rw [ma 0 (m - 1) (by omega) (by omega)]
      exact ⟨h, m1, by omega, ma⟩
    · rename_i h1
      have hm1 : m = 1 := by omega
      subst hm1
      unfold kas_descPart
      have d2 : Desc lt p (1 + 1) := fun i j hij hj => by
        have hi : i = 0 := by omega
        have hj' : j = 1 := by omega
        subst hi hj'
        exact ml (by omega)
      refine leafO_bind _ (leafO_mono (fun r hr => ?_) _ (lo_desc hn o h (n - (1 + 1)) (1 + 1) (by omega) (by omega) d2))
      obtain ⟨r1, r2, r3, r4, r5⟩ := hr
      rw [r2, r1, if_neg (by decide)]
      unfold kas_tail3
      have ar := asc_rev hn o h (m := r.2.1) (by omega) r5
      refine leafO_bind _ (leafO_mono (fun k hk => ?_) _ (lo_asc hn o (h.rev 0 r.2.1) (n - r.2.1) r.2.1 (by omega) (by omega) ar))
      exact ⟨h.rev 0 _, by omega, by omega, hk.2.2.1⟩
theorem lo_place {p : Array Nat} (h : PR n p) {k : Nat} (hk : k < n) (a : Asc lt p k) : ∀ (f l r : Nat), l ≤ r → r ≤ k → r - l ≤ f → (∀ i, i < l → lt (p.getD i 0) (p.getD k 0) = true) → (∀ i, r ≤ i → i < k → lt (p.getD k 0) (p.getD i 0) = true) →
    leafO lt n (kas_place p k f l r) (fun x => x ≤ k ∧ (∀ i, i < x → lt (p.getD i 0) (p.getD k 0) = true) ∧ ∀ i, x ≤ i → i < k → lt (p.getD k 0) (p.getD i 0) = true)
  | 0, l, r, h1, h2, h3, hl, hr => ⟨by omega, hl, fun i hi hik => hr i (by omega) hik⟩
  | f + 1, l, r, h1, h2, h3, hl, hr => by
    unfold kas_place
    split
    · exact ⟨by omega, hl, fun i hi hik => hr i (by omega) hik⟩
    · rename_i hlr
      refine ⟨h.lt hn _, h.lt hn _, ?_⟩
      have hm : (l + r) / 2 < r := by omega
      have hm' : l ≤ (l + r) / 2 := by omega
      generalize (l + r) / 2 = m at hm hm'
      cases e : lt (p.getD k 0) (p.getD m 0) with
      | true =>
        refine lo_place h hk a f l m hm' (by omega) (by omega) hl fun i hi hik => ?_
        by_cases him : i = m
        · subst him; exact e
        · exact o.tr _ _ _ e (a m i (by omega) hik)
      | false =>
        have up := step_up hn o h (i := k) (j := m) hk (by omega) (by omega) e
        refine lo_place h hk a f (m + 1) r (by omega) h2 (by omega) (fun i hi => ?_) hr
        by_cases him : i = m
        · subst him; exact up
        · exact o.tr _ _ _ (a i m (by omega) (by omega)) up
theorem lo_bin : ∀ (f : Nat) (p : Array Nat) (k : Nat), PR n p → 1 ≤ k → k + f ≤ n → Asc lt p k → leafO lt n (kas_bin f p k) (fun p' => PR n p' ∧ Asc lt p' (k + f))
  | 0, p, k, h, _, _, a => ⟨h, a⟩
  | f + 1, p, k, h, h1, h2, a => by
    unfold kas_bin
    have hk : k < n := by omega
    refine leafO_bind _ (leafO_mono (fun l hl => ?_) _ (lo_place hn o h hk a k 0 k (Nat.zero_le _) (Nat.le_refl _) (by omega) (fun i hi => absurd hi (Nat.not_lt_zero _)) fun i hi hik => absurd (Nat.lt_of_lt_of_le hik hi) (Nat.lt_irrefl _)))
    obtain ⟨l1, l2, l3⟩ := hl
    have sz := h.size
    have g : ∀ i, (bubble p k (k - l)).getD i 0 = p.getD (if i = l then k else if l < i ∧ i ≤ k then i - 1 else i) 0 := fun i => by
      refine getD_of ?_
      rw [getElem?_bubble (by omega) (k - l) (by omega) i]
      have e : k - (k - l) = l := by omega
      rw [e]
      repeat' split
      all_goals first | rfl | omega
    have a' : Asc lt (bubble p k (k - l)) (k + 1) := fun i j hij hj => by
      rw [g i, g j]
      by_cases hjl : j < l
      · rw [if_neg (by omega), if_neg (by omega), if_neg (by omega), if_neg (by omega)]
        exact a i j hij (by omega)
      · by_cases hjl2 : j = l
        · rw [if_neg (show ¬ i = l by omega), if_neg (by omega), if_pos hjl2]
          exact l2 i (by omega)
        · rw [if_neg hjl2, if_pos (show l < j ∧ j ≤ k by omega)]
          by_cases hil : i = l
          · rw [if_pos hil]
            exact l3 (j - 1) (by omega) (by omega)
          · rw [if_neg hil]
            split
            · exact a (i - 1) (j - 1) (by omega) (by omega)
            · exact a i (j - 1) (by omega) (by omega)
    exact leafO_mono (fun q ⟨q1, q2⟩ => ⟨q1, by rw [show k + (f + 1) = k + 1 + f by omega]; exact q2⟩) _ (lo_bin f _ (k + 1) (h.bub _ _) (by omega) (by omega) a')
theorem lo_sort : leafO lt n (kas_sort n) (fun p => PR n p ∧ Asc lt p n) := by
  unfold kas_sort
  refine leafO_bind _ (leafO_mono (fun r hr => ?_) _ (lo_count hn o (p := List.toArray (List.range n)) (by unfold PR; simp)))
  obtain ⟨r1, r2, r3, r4⟩ := hr
  split
  · rename_i hlt
    have em : max r.1 1 = r.1 := by omega
    rw [em]
    exact leafO_mono (fun q ⟨q1, q2⟩ => ⟨q1, by rw [show n = r.1 + (n - r.1) by omega]; exact q2⟩) _ (lo_bin hn o (n - r.1) r.2 r.1 r1 r2 (by omega) r4)
  · have : r.1 = n := by omega
    rw [this] at r4
    exact ⟨r1, r4⟩
end
end Z
set_option Elab.async false
set_option linter.all false
set_option maxRecDepth 100000
namespace Z
open PySem PySem.Spec PySem.W PyProof.Rows
/-! ### tuples of ints in order -/
def lexB : List Int → List Int → Bool
  | a :: as, b :: bs => if a = b then lexB as bs else decide (a < b)
  | [], _ :: _ => true
  | _, [] => false
theorem lexB_tot : ∀ {a b : List Int}, a ≠ b → lexB a b = false → lexB b a = true
  | [], [], h, _ => absurd rfl h
  | [], _ :: _, _, h => by cases h
  | _ :: _, [], _, _ => rfl
  | a :: as, b :: bs, h, e => by
    unfold lexB at e ⊢
    by_cases hab : a = b
    · rw [if_pos hab] at e
      rw [if_pos hab.symm]
      exact lexB_tot (fun z => h (by rw [hab, z])) e
    · rw [if_neg hab] at e
      rw [if_neg fun z => hab z.symm]
      have := of_decide_eq_false e
      exact decide_eq_true (by omega)
theorem lexB_asy : ∀ {a b : List Int}, lexB a b = true → lexB b a = false
  | [], [], h => by cases h
  | [], _ :: _, _ => rfl
  | _ :: _, [], h => by cases h
  | a :: as, b :: bs, e => by
    unfold lexB at e ⊢
    by_cases hab : a = b
    · rw [if_pos hab] at e
      rw [if_pos hab.symm]
      exact lexB_asy e
    · rw [if_neg hab] at e
      rw [if_neg fun z => hab z.symm]
      have := of_decide_eq_true e
      exact decide_eq_false (by omega)
theorem lexB_tr : ∀ {a b c : List Int}, lexB a b = true → lexB b c = true → lexB a c = true
  | [], _, _ :: _, _, _ => rfl
  | _, [], [], _, h => by cases h
  | _, _ :: _, [], _, h => by cases h
  | _ :: _, [], _ :: _, h, _ => by cases h
  | a :: as, b :: bs, c :: cs, h1, h2 => by
    unfold lexB at h1 h2 ⊢
    by_cases hab : a = b
    · rw [if_pos hab] at h1
      by_cases hbc : b = c
      · rw [if_pos hbc] at h2
        rw [if_pos (hab.trans hbc)]
        exact lexB_tr h1 h2
      · rw [if_neg hbc] at h2
        rw [if_neg (by rw [hab]; exact hbc), hab]
        exact h2
    · rw [if_neg hab] at h1
      have l1 := of_decide_eq_true h1
      by_cases hbc : b = c
      · rw [if_neg (by rw [← hbc]; exact hab), ← hbc]
        exact h1
      · rw [if_neg hbc] at h2
        have l2 := of_decide_eq_true h2
        rw [if_neg (by omega)]
        exact decide_eq_true (by omega)
def ltP (pr : List (Value × List Int)) (i j : Nat) : Bool := lexB (pr.getD i (Value.none, [])).2 (pr.getD j (Value.none, [])).2
theorem ordP {pr : List (Value × List Int)} (nd : (pr.map (·.2)).Nodup) : OrdN (ltP pr) pr.length := by
  refine ⟨fun i j hi hj hne e => lexB_tot (fun z => hne ?_) e, fun i j => lexB_asy, fun i j k => lexB_tr⟩
  have e1 : (pr.getD i (Value.none, [])).2 = (pr.map (·.2))[i]'(by rw [List.length_map]; exact hi) := by rw [List.getElem_map, List.getD_eq_getElem?_getD, List.getElem?_eq_getElem hi]; rfl
  have e2 : (pr.getD j (Value.none, [])).2 = (pr.map (·.2))[j]'(by rw [List.length_map]; exact hj) := by rw [List.getElem_map, List.getD_eq_getElem?_getD, List.getElem?_eq_getElem hj]; rfl
  rw [e1, e2] at z
  exact (List.getElem_inj nd).mp z
/-- what comes out is what went in, in order -/
def Sorts (pr : List (Value × List Int)) (out : List Value) : Prop := ∃ q : List (Value × List Int), q.Perm pr ∧ q.map (·.1) = out ∧ q.Pairwise (fun a b => lexB a.2 b.2 = true)
theorem Sorts.perm {pr pr' : List (Value × List Int)} {out : List Value} (h : Sorts pr' out) (hp : pr'.Perm pr) : Sorts pr out := let ⟨q, a, b, c⟩ := h; ⟨q, a.trans hp, b, c⟩
theorem sorts_of {pr : List (Value × List Int)} {vs : List Value} {p : Array Nat} (e : vs = pr.map (·.1)) (h : PR vs.length p) (a : Asc (ltP pr) p vs.length) : Sorts pr (p.toList.map fun i => vs.getD i Value.none) := by
  have lv : vs.length = pr.length := by rw [e, List.length_map]
  have sz := h.size
  refine ⟨p.toList.map fun i => pr.getD i (Value.none, []), ?_, ?_, ?_⟩
  · refine (h.map _).trans ?_
    rw [lv]
    have : (List.range pr.length).map (fun i => pr.getD i (Value.none, [])) = pr := by
      apply List.ext_getElem?
      intro i
      rw [List.getElem?_map]
      by_cases hi : i < pr.length
      · rw [List.getElem?_range hi, List.getElem?_eq_getElem hi]
        simp [hi]
      · rw [List.getElem?_eq_none (by rw [List.length_range]; omega), List.getElem?_eq_none (by omega)]
        rfl
    rw [this]
  · rw [List.map_map]
    refine List.map_congr_left fun i hi => ?_
    rw [e]
    show (pr.getD i (Value.none, [])).1 = (pr.map (·.1)).getD i Value.none
    rw [List.getD_eq_getElem?_getD, List.getD_eq_getElem?_getD, List.getElem?_map]
    cases pr[i]? <;> rfl
  · rw [List.pairwise_map, List.pairwise_iff_getElem]
    intro i j hi hj hij
    have hj' : j < vs.length := by rw [Array.length_toList, sz] at hj; exact hj
    have hi' : i < vs.length := by omega
    have := a i j hij hj'
    have g : ∀ k (hk : k < p.toList.length), p.getD k 0 = p.toList[k] := fun k hk => by rw [Array.length_toList] at hk; simp [Array.getD, hk]
    rw [g i hi, g j hj] at this
    exact this
theorem perm_lift {α β : Type} {f : α → β} : ∀ {r : List α} {l : List β}, l.Perm (r.map f) → ∃ l' : List α, l'.Perm r ∧ l'.map f = l
  | [], l, h => ⟨[], List.Perm.refl _, by rw [List.map_nil] at h; rw [List.map_nil, h.eq_nil]⟩
  | x :: r, l, h => by
    have hm : f x ∈ l := h.mem_iff.mpr (by simp)
    obtain ⟨s, t, rfl⟩ := List.append_of_mem hm
    have h2 : (s ++ t).Perm (r.map f) := by
      have := List.perm_middle.symm.trans h
      rw [List.map_cons] at this
      exact this.cons_inv
    obtain ⟨l', h3, h4⟩ := perm_lift h2
    refine ⟨l'.take s.length ++ x :: l'.drop s.length, ?_, ?_⟩
    · refine List.perm_middle.trans ?_
      rw [List.take_append_drop]
      exact h3.cons x
    · rw [List.map_append, List.map_cons, List.map_take, List.map_drop, h4]
      simp
section
variable {prog : Program} {w : World} {A : Around} {E : Value → Shared → Prop} {s : Shared}
theorem lt_is {p q : Int} {t u : Tok} {b : Bool} {Q : Bool → Shared → Prop} (h : Q (decide (p < q)) s) : wpAny (model prog w) A (oneLt' b (.int p t) (.int q u)) Q (fun _ _ => False) s := by
  cases b with
  | true => exact oneLt_int h
  | false => exact kat_one _ _ (lt_int h)
theorem item_int {k : Int} {v : Value} (h : (intKind prog w).is k v = true) : ∃ t, v = Value.int k t := Value.isInt_shape h
theorem lex_is {b fin : Bool} {Q : Bool → Shared → Prop} : ∀ (ks ks' : List Int) (l l' : List Value) (i : Nat), PySem.ItemsAre (intKind prog w) ks l → PySem.ItemsAre (intKind prog w) ks' l' → (ks.length = ks'.length) → fin = false → Q (lexB ks ks') s → KatLex prog w A b fin Q (l.zip l') i s
  | [], [], l, l', i, h1, h2, _, hf, hq => by
    cases h1
    cases h2
    subst hf
    exact hq
  | [], _ :: _, _, _, _, _, _, hl, _, _ => by simp at hl
  | _ :: _, [], _, _, _, _, _, hl, _, _ => by simp at hl
  | k :: ks, k' :: ks', l, l', i, h1, h2, hl, hf, hq => by
    cases h1 with
    | cons a1 r1 =>
      cases h2 with
      | cons a2 r2 =>
        obtain ⟨t, rfl⟩ := item_int a1
        obtain ⟨u, rfl⟩ := item_int a2
        refine kat_cons (wpAny_eqBool_int ?_)
        refine kat_go (fun e => kat_yes (lex_is ks ks' _ _ (i + 1) r1 r2 (by simpa using hl) hf ?_)) fun e => kat_no (lt_is ?_)
        · unfold lexB at hq
          rw [if_pos (of_decide_eq_true e)] at hq
          exact hq
        · unfold lexB at hq
          rw [if_neg (of_decide_eq_false e)] at hq
          exact hq
/-- each is a tuple of two ints, its key beside it -/
def PTK (prog : Program) (w : World) (h : Heap) (pr : List (Value × List Int)) : Prop := ∀ q ∈ pr, ∃ b, q.1 = Value.ref b ∧ TK prog w h q.2 b ∧ q.2.length = 2
theorem PTK.keep {h h' : Heap} {pr : List (Value × List Int)} (x : PTK prog w h pr) (k : ∀ b ob, (∃ q ∈ pr, q.1 = Value.ref b) → h.get? b = some ob → h'.get? b = some ob) : PTK prog w h' pr := fun q hq => by
  obtain ⟨b, e, hk, hne⟩ := x q hq
  exact ⟨b, e, hk.keep fun o z => k b o ⟨q, hq, e⟩ z, hne⟩
theorem cmp_keys {pr : List (Value × List Int)} {vs : List Value} (e : vs = pr.map (·.1)) (x : PTK prog w s.heap pr) (i j : Nat) (C : Bool → Shared → Prop) (hi : i < pr.length) (hj : j < pr.length) (h : C (ltP pr i j) s) : kas_ask prog w A (tuples' true) vs i j C s := by
  unfold kas_ask
  have e1 : vs.getD i Value.none = pr[i].1 := by rw [e, List.getD_eq_getElem?_getD, List.getElem?_map, List.getElem?_eq_getElem hi]; rfl
  have e2 : vs.getD j Value.none = pr[j].1 := by rw [e, List.getD_eq_getElem?_getD, List.getElem?_map, List.getElem?_eq_getElem hj]; rfl
  have l1 : (pr.getD i (Value.none, [])) = pr[i] := by rw [List.getD_eq_getElem?_getD, List.getElem?_eq_getElem hi]; rfl
  have l2 : (pr.getD j (Value.none, [])) = pr[j] := by rw [List.getD_eq_getElem?_getD, List.getElem?_eq_getElem hj]; rfl
  unfold ltP at h
  rw [l1, l2] at h
  obtain ⟨b, eb, ⟨o, items, n, ho, hc, hd, hit⟩, hl1⟩ := x pr[i] (List.getElem_mem hi)
  obtain ⟨b', eb', ⟨o', items', n', ho', hc', hd', hit'⟩, hl2⟩ := x pr[j] (List.getElem_mem hj)
  rw [e1, e2, eb, eb']
  have z1 : items.toList.length = 2 := by have := hit.length; omega
  have z2 : items'.toList.length = 2 := by have := hit'.length; omega
  refine kat_lt ho hd ho' hd' (lex_is _ _ _ _ 0 hit hit' (by rw [hl1, hl2]) (decide_eq_false ?_) h)
  rw [Array.length_toList] at z1 z2
  omega
theorem sort_ord {a : Addr} {pr : List (Value × List Int)} {vs : List Value} (evs : vs = pr.map (·.1)) {n : Nat} {P : PySem.Fin → Shared → Prop} (ho : s.heap.get? a = some (seqObj "list" vs.toArray n)) (h64 : vs.length < 64) (x : Tups prog w s.heap vs) (y : PTK prog w s.heap pr) (nd : (pr.map (·.2)).Nodup) (hna : ∀ v ∈ vs, v ≠ Value.ref a)
    (h : ∀ (h' : Heap) (out : List Value) (c : Nat), Sorts pr out → h'.get? a = some (seqObj "list" out.toArray c) → (∀ b ob, b ≠ a → s.heap.get? b = some ob → h'.get? b = some ob) → P (.done (.ret .none)) { s with heap := h' }) :
    wpAny (model prog w) A (Builtin.«list.sort» ⟨[.ref a], []⟩) P E s := by
  have s1 := Heap.SameBut.update s.heap a (Obj.mapSeq fun _ => (#[] : Array Value))
  obtain ⟨e1, ho1⟩ : ∃ e1, (s.heap.update a (Obj.mapSeq fun _ => (#[] : Array Value))).get? a = some (seqObj "list" #[] e1) := ⟨_, get?_update_seq ho fun _ => #[]⟩
  rw [list_sort_plain]
  refine wpAny_bind (listItems_at ho rfl ?_)
  refine wpAny_bind (listUpdate_at ho rfl ?_ (by rw [List.size_toArray, sizeLine_eq]; omega) (Nat.zero_le _))
  refine wpAny_bind (seqEpoch_at ho1 rfl ?_)
  refine wpAny_bind (wpAny_newTuple ?_ (by show vs.length ≤ _; rw [sizeLine_eq]; omega))
  refine wpAny_bind (wpAny_newList ?_ (Nat.zero_le _))
  refine wpAny_holding ?_
  have ho3 : (((s.heap.update a (Obj.mapSeq fun _ => (#[] : Array Value))).push (seqObj "tuple" vs.toArray 0)).push (seqObj "list" #[] 0)).get? a = some (seqObj "list" #[] e1) := Heap.get?_push_of_some _ (Heap.get?_push_of_some _ ho1)
  have hk3 : ∀ b ob, b ≠ a → s.heap.get? b = some ob → (((s.heap.update a (Obj.mapSeq fun _ => (#[] : Array Value))).push (seqObj "tuple" vs.toArray 0)).push (seqObj "list" #[] 0)).get? b = some ob := fun b ob hb e => Heap.get?_push_of_some _ (Heap.get?_push_of_some _ ((s1.2 b hb).trans e))
  show wpAny (model prog w) A _ P E { s with heap := ((s.heap.update a (Obj.mapSeq fun _ => (#[] : Array Value))).push (seqObj "tuple" vs.toArray 0)).push (seqObj "list" #[] 0) }
  generalize ((s.heap.update a (Obj.mapSeq fun _ => (#[] : Array Value))).push (seqObj "tuple" vs.toArray 0)).push (seqObj "list" #[] 0) = H3 at ho3 hk3
  have x3 : Tups prog w H3 vs := x.keep fun b ob hv e => hk3 b ob (by rintro rfl; obtain ⟨v, hv, rfl⟩ := hv; exact hna _ hv rfl) e
  have y3 : PTK prog w H3 pr := y.keep fun b ob hv e => hk3 b ob (by rintro rfl; obtain ⟨q, hq, e2⟩ := hv; exact hna _ (by rw [evs]; exact List.mem_map.mpr ⟨q, hq, rfl⟩) e2) e
  have lvs : vs.length = pr.length := by rw [evs, List.length_map]
  dsimp only
  have tail : ∀ (out : List Value) (st : SortSt) (R : PySem.Fin → Shared → Prop), out.length = vs.length → (arrOf st).map (·.2) = List.toArray out → failedOf st = none → (∀ (h' : Heap) (c : Nat), h'.get? a = some (seqObj "list" out.toArray c) → (∀ b ob, b ≠ a → s.heap.get? b = some ob → h'.get? b = some ob) → R (.done (.ret .none)) { s with heap := h' }) →
      wpAny (model prog w) A (do
        let touched := (← seqEpoch a) != e1
        Builtin.List.listUpdate (.ref a) fun _ => (arrOf st).map (·.2)
        if let some e := failedOf st then rule "list.sort.comparison-raised"; throw e
        if touched then rule "list.sort.modified"; raiseError "ValueError" "list modified during sort"
        ret .none) R E { s with heap := H3 } := by
    intro out st R hp hout hf hR
    have hsz : (List.toArray out).size = vs.length := by rw [List.size_toArray, hp]
    rw [hout]
    have s2 := Heap.SameBut.update H3 a (Obj.mapSeq fun _ => List.toArray out)
    obtain ⟨c2, hc2⟩ : ∃ c2, (H3.update a (Obj.mapSeq fun _ => List.toArray out)).get? a = some (seqObj "list" (List.toArray out) c2) := ⟨_, get?_update_seq ho3 fun _ => List.toArray out⟩
    refine wpAny_bind (seqEpoch_at ho3 rfl ?_)
    refine wpAny_bind (listUpdate_at ho3 rfl ?_ (Nat.zero_le _) (Nat.le_trans (Nat.le_of_eq hsz) (by rw [sizeLine_eq]; omega)))
    rw [hf]
    simp only [bne_self_eq_false, Bool.false_eq_true, if_false]
    exact wpAny_pure (hR _ c2 hc2 fun b ob hb e => (s2.2 b hb).trans (hk3 b ob hb e))
  by_cases h2 : vs.length < 2
  · have hn2 : vs.toArray.size < 2 := by rw [List.size_toArray]; exact h2
    rw [if_pos hn2, if_pos hn2]
    refine wpAny_bind (wpAny_pure ?_)
    refine wpAny_bind ?_
    rw [StateT.run_pure]
    refine wpAny_pure ?_
    dsimp only
    refine tail vs _ P rfl ?_ rfl fun h' c h3 h4 => h h' vs c ⟨pr, List.Perm.refl _, evs.symm, ?_⟩ h3 h4
    show (vs.toArray.zip vs.toArray).map (·.2) = _
    apply Array.toList_inj.mp
    rw [Array.toList_map, Array.toList_zip]
    exact List.map_snd_zip (Nat.le_refl _)
    · match pr, lvs with
      | [], _ => exact List.Pairwise.nil
      | [q], _ => exact List.pairwise_singleton _ _
      | _ :: _ :: _, z => simp at z; omega
  · have hn2 : ¬ vs.toArray.size < 2 := by rw [List.size_toArray]; exact h2
    rw [if_neg hn2, if_neg hn2]
    obtain ⟨fs, k1, k2, k3⟩ := x3.kat
    refine wpAny_bind (kat_kind (T := .type "int") k1 (by omega) (fun v hv => ?_) (by decide) ?_)
    · obtain ⟨i, t, rfl⟩ := k3 v hv
      exact .now
    refine wpAny_bind (wpAny_mono (kat_run (s := { s with heap := H3 }) (Q := fun st' s' => s' = { s with heap := H3 } ∧ ∃ p : Array Nat, (PR vs.length p ∧ Asc (ltP pr) p vs.length) ∧ arrOf st' = p.map (kas_item (vs.toArray.zip vs.toArray)) ∧ failedOf st' = none)
      (G := fun p s' => (PR vs.length p ∧ Asc (ltP pr) p vs.length) ∧ s' = { s with heap := H3 }) rfl (by omega) h64 (fun p' st' s' a1 a2 a3 a4 => ⟨a4.2, p', a4.1, a2, a3⟩) (wp_leafO (lt := ltP pr) (fun i j C hi hj hC => cmp_keys (s := { s with heap := H3 }) evs y3 i j C (by omega) (by omega) hC) (fun p hp => ⟨hp, rfl⟩) _ (lo_sort (by omega) (lvs ▸ ordP nd)))) ?_ fun _ _ e => e)
    rintro ⟨⟨⟩, st'⟩ s' ⟨rfl, p, hp, har, hf⟩
    dsimp only
    have so := sorts_of evs hp.1 hp.2
    have hlen : (p.toList.map fun i => vs.getD i Value.none).length = vs.length := by rw [List.length_map, Array.length_toList, hp.1.size]
    exact tail _ st' P hlen (kat_snds rfl har) hf fun h' c h3 h4 => h h' _ c so h3 h4
theorem sorted_setO {a : Addr} {o : Obj} {es : Array (Int × Value)} {ep : Nat} {t : SetTable} {Q : Value → Shared → Prop} (hh : A.handled = none) (S : PF (!byT w) o es ep t) (hg : s.heap.get? a = some o) (pr : List (Value × List Int)) (hpr : pr.map (·.1) = es.toList.map (·.2)) (y : PTK prog w s.heap pr) (nd : (pr.map (·.2)).Nodup)
    (h : ∀ (h' : Heap) (tk D : Nat) (out : List Value) (c : Nat), s.heap.objs.size ≤ D → Sorts pr out → h'.get? D = some (seqObj "list" out.toArray c) → (∀ b ob, s.heap.get? b = some ob → h'.get? b = some ob) → Q (.ref D) { s with heap := h', toks := tk }) :
    wpAny (model prog w) A (call (.builtin "sorted") [.ref a]) Q E s := by
  have x : Tups prog w s.heap (es.toList.map (·.2)) := fun v hv => by
    rw [← hpr] at hv
    obtain ⟨q, hq, rfl⟩ := List.mem_map.mp hv
    obtain ⟨b, e, hk, hne⟩ := y q hq
    exact ⟨_, b, e, hk, fun z => by rw [z] at hne; simp at hne⟩
  refine Calls.call_function_entry kind_sorted plain_sorted entry_sorted (args_sorted1 _) ?_
  unfold Builtin.«sorted»
  refine wpAny_bind (m := checkCount "sorted" 1 1 _) (wpAny_pure ?_)
  refine wpAny_bind (collect_set (by simpa using hh) S hg fun h1 tk vs hsz hk hp => ?_)
  have hlen : vs.length ≤ 20 := by rw [hp.length_eq, List.length_map, Array.length_toList]; exact S.few
  obtain ⟨pr', hpp, hpm⟩ := perm_lift (f := fun q : Value × List Int => q.1) (hpr ▸ hp)
  have nd' : (pr'.map (·.2)).Nodup := (hpp.map _).symm.nodup nd
  refine wpAny_bind (wpAny_newList ?_ (by rw [sizeLine_eq]; omega))
  have hoL : (h1.push (seqObj "list" vs.toArray 0)).get? h1.objs.size = some (seqObj "list" vs.toArray 0) := Heap.get?_push_size _ rfl
  have hk2 : ∀ b ob, s.heap.get? b = some ob → (h1.push (seqObj "list" vs.toArray 0)).get? b = some ob := fun b ob e => Heap.get?_push_of_some _ (hk b ob e)
  have ltb : ∀ b ob, s.heap.get? b = some ob → b ≠ h1.objs.size := fun b ob e => Nat.ne_of_lt (Nat.lt_trans (Heap.lt_size e) hsz)
  have x1 : Tups prog w (h1.push (seqObj "list" vs.toArray 0)) vs := fun v hv => by
    obtain ⟨ks, b, e, hkk, hne⟩ := x v (hp.mem_iff.mp hv)
    exact ⟨ks, b, e, hkk.keep fun ob q => hk2 b ob q, hne⟩
  show wpAny _ _ _ _ _ { s with heap := h1.push (seqObj "list" vs.toArray 0), toks := tk }
  refine wpAny_bind (wpAny_holding (wpAny_call_entry slot_list_sort ⟨_, hoL, rfl⟩ entry_list_sort ?body (args_list_sort _)))
  case body =>
    refine sort_ord (s := { s with heap := h1.push (seqObj "list" vs.toArray 0), toks := tk }) (pr := pr') hpm.symm hoL (by omega) x1 (fun q hq => ?_) nd' (fun v hv e => ?_) fun h' out c hp2 hg2 hk3 => ?_
    · obtain ⟨b, e, hkk, hne⟩ := y q (hpp.mem_iff.mp hq)
      exact ⟨b, e, hkk.keep fun ob z => hk2 b ob z, hne⟩
    · obtain ⟨ks, b, e', ⟨ob, _, _, q, _⟩, _⟩ := x v (hp.mem_iff.mp hv)
      rw [e'] at e
      injection e with e
      exact ltb b ob q e
    · exact ⟨_, rfl, wpAny_pure ⟨_, rfl, h h' tk h1.objs.size out c (Nat.le_of_lt hsz) (hp2.perm hpp) hg2 fun b ob e => hk3 b ob (ltb b ob e) (hk2 b ob e)⟩⟩
end
end Z
set_option Elab.async false
set_option linter.all false
set_option maxRecDepth 100000
namespace Z
open PySem PySem.Spec PyProof.Rows L2
/-! ### sorted(set(pairs)): each once, in order -/
abbrev ltPr (a b : Int × Int) : Bool := lexB (kOf a) (kOf b)
def insP (p : Int × Int) : List (Int × Int) → List (Int × Int)
  | [] => [p]
  | q :: r => if ltPr p q then p :: q :: r else if p = q then q :: r else q :: insP p r
def srtP (ps : List (Int × Int)) : List (Int × Int) := ps.foldr insP []
theorem insP_mem (p x : Int × Int) : ∀ l, x ∈ insP p l ↔ x = p ∨ x ∈ l
  | [] => by simp [insP]
  | q :: r => by
    unfold insP
    split
    · simp
    · split
      · rename_i e
        subst e
        simp
      · rw [List.mem_cons, insP_mem p x r, List.mem_cons]
        constructor
        · rintro (h | h | h)
          · exact .inr (.inl h)
          · exact .inl h
          · exact .inr (.inr h)
        · rintro (h | h | h)
          · exact .inr (.inl h)
          · exact .inl h
          · exact .inr (.inr h)
theorem srtP_mem (x : Int × Int) : ∀ ps, x ∈ srtP ps ↔ x ∈ ps
  | [] => by simp [srtP]
  | p :: ps => by
    show x ∈ insP p (srtP ps) ↔ _
    rw [insP_mem, srtP_mem x ps, List.mem_cons]
theorem kOf_inj {a b : Int × Int} (h : kOf a = kOf b) : a = b := by
  unfold kOf at h
  injection h with h1 h2
  injection h2 with h2 _
  exact Prod.ext h1 h2
theorem insP_pw (p : Int × Int) : ∀ l : List (Int × Int), l.Pairwise (fun a b => ltPr a b = true) → (insP p l).Pairwise (fun a b => ltPr a b = true)
  | [], _ => List.pairwise_singleton _ _
  | q :: r, h => by
    unfold insP
    have h1 := List.pairwise_cons.mp h
    split
    · rename_i e
      refine List.pairwise_cons.mpr ⟨fun x hx => ?_, h⟩
      rcases List.mem_cons.mp hx with rfl | hx
      · exact e
      · exact lexB_tr e (h1.1 x hx)
    · rename_i e
      split
      · exact h
      · rename_i ne
        refine List.pairwise_cons.mpr ⟨fun x hx => ?_, insP_pw p r h1.2⟩
        rcases (insP_mem p x r).mp hx with rfl | hx
        · exact lexB_tot (fun z => ne (kOf_inj z)) (Bool.eq_false_iff.mpr e)
        · exact h1.1 x hx
theorem srtP_pw : ∀ ps : List (Int × Int), (srtP ps).Pairwise (fun a b => ltPr a b = true)
  | [] => List.Pairwise.nil
  | p :: ps => insP_pw p _ (srtP_pw ps)
theorem pw_uniq : ∀ {a b : List (Int × Int)}, a.Pairwise (fun a b => ltPr a b = true) → b.Pairwise (fun a b => ltPr a b = true) → (∀ x, x ∈ a ↔ x ∈ b) → a = b
  | [], [], _, _, _ => rfl
  | [], y :: _, _, _, h => by have := (h y).mpr List.mem_cons_self; cases this
  | x :: _, [], _, _, h => by have := (h x).mp List.mem_cons_self; cases this
  | x :: a, y :: b, ha, hb, h => by
    have a1 := List.pairwise_cons.mp ha
    have b1 := List.pairwise_cons.mp hb
    have irr : ∀ z : Int × Int, ltPr z z = true → False := fun z hz => by have := lexB_asy hz; rw [show lexB (kOf z) (kOf z) = true from hz] at this; cases this
    have exy : x = y := by
      rcases List.mem_cons.mp ((h x).mp List.mem_cons_self) with e | hx
      · exact e
      · rcases List.mem_cons.mp ((h y).mpr List.mem_cons_self) with e | hy
        · exact e.symm
        · exact (irr x (lexB_tr (a1.1 y hy) (b1.1 x hx))).elim
    subst exy
    rw [pw_uniq a1.2 b1.2 fun z => ?_]
    constructor
    · intro hz
      rcases List.mem_cons.mp ((h z).mp (List.mem_cons_of_mem _ hz)) with e | hz'
      · subst e; exact (irr z (a1.1 z hz)).elim
      · exact hz'
    · intro hz
      rcases List.mem_cons.mp ((h z).mpr (List.mem_cons_of_mem _ hz)) with e | hz'
      · subst e; exact (irr z (b1.1 z hz)).elim
      · exact hz'
theorem srtP_uniq {ps qs : List (Int × Int)} (h : ∀ x, x ∈ qs ↔ x ∈ ps) (hp : qs.Pairwise (fun a b => ltPr a b = true)) : qs = srtP ps := pw_uniq hp (srtP_pw ps) fun x => (h x).trans (srtP_mem x ps).symm
theorem srtP_len (ps : List (Int × Int)) : (srtP ps).length ≤ ps.length := by
  have : ∀ (p : Int × Int) l, (insP p l).length ≤ l.length + 1 := fun p l => by
    induction l with
    | nil => exact Nat.le_refl _
    | cons q r ih =>
      unfold insP
      split
      · simp
      · split
        · simp
        · simp; omega
  induction ps with
  | nil => exact Nat.le_refl _
  | cons p ps ih =>
    have := this p (srtP ps)
    show (insP p (srtP ps)).length ≤ _
    rw [List.length_cons]
    omega
/-- the set of the tuples at T 0, .., T (n - 1), no key twice -/
def pSetU (w : World) (l : Addr) (n : Nat) (val : Nat → Int × Int) (T : Nat → Addr) : HO := .ext fun h => ∃ o es ep t, ∃ pr : List (Value × List Int), h.get? l = some o ∧ PF (!byT w) o es ep t ∧ pr.map (·.1) = es.toList.map (·.2) ∧ (pr.map (·.2)).Nodup ∧
  (∀ x ∈ pr, ∃ j, j < n ∧ x.1 = Value.ref (T j) ∧ x.2 = kOf (val j)) ∧ ∀ j, j < n → ∃ x ∈ pr, x.2 = kOf (val j)
section
variable {X : Cx} {ρ : Rho} {e : Expr} {pos p p2 p3 p4 p5 : Pos}
theorem call_setU (hc : X.calm = true) (hu : X.A.units + 16 < cLine) : CallR X (.type "set") (fun xs H Q => ∃ (q : Addr) (M : MP) (ps : List (Int × Int)), xs = [.ref q] ∧ DnT X.K M H (.lst (ps.map pairD)) (.ref q) ∧ ps.length ≤ 20 ∧
    ∀ l T, H l = none → (∀ j p, ps[j]? = some p → SqT X.K H (T j) (pairV p)) → Q (.ref l) (upd H l (pSetU X.w l ps.length (fun j => ps.getD j (0, 0)) T))) := by
  intro pins s σ H xs us Q I r ⟨q, M, ps, e, hq, hl, k⟩
  subst e
  obtain ⟨u, rfl, rx⟩ := vals1 r
  cases rx
  obtain ⟨q', ys, eq, sq, dn⟩ := hq
  cases eq
  obtain ⟨T, hT⟩ := pairs_at dn
  obtain ⟨its, r', pl, hz⟩ := I.list sq
  have hlen := r'.length
  have hdl := dn.len
  rw [List.length_map] at hdl
  have get : ∀ j, j < ps.length → ps[j]? = some (ps.getD j (0, 0)) := fun j h => by rw [List.getD_eq_getElem?_getD, List.getElem?_eq_getElem h]; rfl
  have tk : ∀ j, j < ps.length → TK X.prog X.w s.heap (kOf (ps.getD j (0, 0))) (T j) := fun j h => tk_of I (hT j _ (get j h)).2
  refine set_tups (n := ps.length) (val := fun j => kOf (ps.getD j (0, 0))) (T := T) (I.ok.hd hc) hu pl.isList (by rw [List.size_toArray]; omega) hl (fun i hi => ?_) tk fun h' tkk hS hk => ?_
  · obtain ⟨h1, _⟩ := hT i _ (get i hi)
    obtain ⟨u, hu', ru⟩ := r'.get h1
    rw [show u = Value.ref (T i) from ru] at hu'
    simpa using hu'
  · obtain ⟨o, es, ep, t, S, q1, q2, q3⟩ := hS
    obtain ⟨kk, k1, k2, k3⟩ := S.nd
    have le : (es.toList.map (·.2)).length = kk.length := by rw [List.length_map, Array.length_toList, k1]
    have key : ∀ x ∈ (es.toList.map (·.2)).zip kk, ∃ j, j < ps.length ∧ x.1 = Value.ref (T j) ∧ x.2 = kOf (ps.getD j (0, 0)) := fun x hx => by
      obtain ⟨i, hi, e1⟩ := List.getElem_of_mem hx
      have hi2 : i < kk.length := by rw [List.length_zip] at hi; omega
      have hk2 : kk[i]? = some kk[i] := List.getElem?_eq_getElem hi2
      obtain ⟨b, e2, e3⟩ := k3 i _ hk2
      obtain ⟨j, hj, e4⟩ := q2 _ (by simpa using Array.mem_of_getElem? e2)
      have eb : b = T j := by injection e4 with _ z; injection z
      subst eb
      have ek : kk[i] = kOf (ps.getD j (0, 0)) := IsTupleKey.inj e3 ((tk j hj).keep fun o z => hk _ o (Heap.lt_size z) z)
      rw [List.getElem_zip] at e1
      have ev : (es.toList.map (·.2))[i]'(by omega) = Value.ref (T j) := by
        have : es.toList[i]? = some (tkH X.prog X.w kk[i], Value.ref (T j)) := by rw [Array.getElem?_toList]; exact e2
        rw [List.getElem_map, (List.getElem?_eq_some_iff.mp this).2]
      refine ⟨j, hj, ?_, ?_⟩
      · rw [← e1]; exact ev
      · rw [← e1]; exact ek
    refine ⟨.ref s.heap.objs.size, _, I.laid (t' := tkk) (fun b o e => hk b o (Heap.lt_size e) e) (Nat.le_refl _) (o := pSetU X.w s.heap.objs.size ps.length (fun j => ps.getD j (0, 0)) T) ⟨⟨o, es, ep, t, (es.toList.map (·.2)).zip kk, S.get, S.pf, List.map_fst_zip (Nat.le_of_eq le), ?_, key, fun j hj => ?_⟩, ⟨o, S.get⟩, fun h1 h2 ⟨o, es, ep, t, pr, x, r⟩ kk => ⟨o, es, ep, t, pr, kk o x, r⟩⟩, rfl, k _ T I.fresh (fun j p h => (hT j p h).2)⟩
    · rw [List.map_snd_zip (Nat.le_of_eq le.symm)]; exact k2
    · obtain ⟨j', hj', he, hv⟩ := q3 j hj
      obtain ⟨i, hi, e1⟩ := List.getElem_of_mem he
      have hi2 : i < kk.length := by rw [Array.length_toList] at hi; omega
      obtain ⟨b, e2, e3⟩ := k3 i _ (List.getElem?_eq_getElem hi2)
      have e4 : es.toList[i]? = some (tkH X.prog X.w (kOf (ps.getD j' (0, 0))), Value.ref (T j')) := by rw [List.getElem?_eq_getElem hi, e1]
      rw [Array.getElem?_toList, e2] at e4
      have eb : b = T j' := by injection e4 with z; injection z with _ z; injection z
      subst eb
      have ek : kk[i] = kOf (ps.getD j' (0, 0)) := IsTupleKey.inj e3 ((tk j' hj').keep fun o z => hk _ o (Heap.lt_size z) z)
      refine ⟨_, List.getElem_mem (l := (es.toList.map (·.2)).zip kk) (n := i) (by rw [List.length_zip]; omega), ?_⟩
      rw [List.getElem_zip]
      exact ek.trans hv
theorem call_sortedU (hc : X.calm = true) : CallR X (.builtin "sorted") (fun xs H Q => ∃ (q : Addr) (n : Nat) (val : Nat → Int × Int) (T : Nat → Addr), xs = [.ref q] ∧ H q = some (pSetU X.w q n val T) ∧ (∀ j, j < n → SqT X.K H (T j) (pairV (val j))) ∧
    ∀ (l : Addr) (js : List Nat), H l = none → js.length ≤ 20 → (∀ j ∈ js, j < n) → (∀ j, j < n → ∃ j' ∈ js, val j' = val j) → js.Pairwise (fun a b => ltPr (val a) (val b) = true) → Q (.ref l) (upd H l (.lst (js.map fun j => V.ref (T j))))) := by
  intro pins s σ H xs us Q I r ⟨q, n, val, T, e, hq, hT, k⟩
  subst e
  obtain ⟨u, rfl, rx⟩ := vals1 r
  cases rx
  obtain ⟨⟨o, es, ep, t, pr, hg, S, hpr, nd, q2, q3⟩, _⟩ := I.hok q _ hq
  refine sorted_setO (I.ok.hd hc) S hg pr hpr (fun x hx => ?_) nd fun h' tk D out c hD hso hg2 hk => ?_
  · obtain ⟨j, hj, e1, e2⟩ := q2 x hx
    exact ⟨_, e1, by rw [e2]; exact tk_of I (hT j hj), by rw [e2]; rfl⟩
  · obtain ⟨qq, hp, hout, hpw⟩ := hso
    have hlen : qq.length ≤ 20 := by
      rw [hp.length_eq]
      have this : pr.length = es.size := by simpa using congrArg List.length hpr
      rw [this]; exact S.few
    obtain ⟨js, j1, j2, j3⟩ : ∃ js : List Nat, (∀ j ∈ js, j < n) ∧ qq = js.map (fun j => (Value.ref (T j), kOf (val j))) ∧ True := by
      have hall : ∀ x ∈ qq, ∃ j, j < n ∧ x = (Value.ref (T j), kOf (val j)) := fun x hx => by
        obtain ⟨j, hj, e1, e2⟩ := q2 x (hp.mem_iff.mp hx)
        exact ⟨j, hj, Prod.ext e1 e2⟩
      clear hp hout hpw hlen
      induction qq with
      | nil => exact ⟨[], (fun j hj => by cases hj), rfl, trivial⟩
      | cons x qq ih =>
        obtain ⟨j, hj, rfl⟩ := hall x (.head _)
        obtain ⟨js, a1, a2, _⟩ := ih fun x hx => hall x (.tail _ hx)
        refine ⟨j :: js, fun i hi => ?_, by rw [List.map_cons, ← a2], trivial⟩
        rcases List.mem_cons.mp hi with rfl | hi
        · exact hj
        · exact a1 i hi
    subst j2
    rw [List.length_map] at hlen
    rw [List.pairwise_map] at hpw
    rw [List.map_map] at hout
    subst hout
    have hval : ∀ l : List Nat, Vals (l.map fun j => V.ref (T j)) (l.map fun j => Value.ref (T j)) := fun l => by
      induction l with
      | nil => exact .nil
      | cons a l ih => exact .cons rfl ih
    refine ⟨.ref D, _, I.laid (t' := tk) hk hD (o := .lst (js.map fun j => V.ref (T j))) ⟨by rw [List.length_map]; exact le_line (by omega), _, c, hval js, hg2⟩, rfl, k D js (I.hok.fresh hD) hlen j1 (fun j hj => ?_) hpw⟩
    obtain ⟨x, hx, e1⟩ := q3 j hj
    obtain ⟨j', hj', rfl⟩ := List.mem_map.mp (hp.mem_iff.mpr hx)
    exact ⟨j', hj', kOf_inj e1⟩
theorem pairs_js {K : Frag} {M : MP} {H : Hp} {val : Nat → Int × Int} {T : Nat → Addr} : ∀ (js : List Nat), (∀ j ∈ js, SqT K H (T j) (pairV (val j))) → Dns K M H ((js.map val).map pairD) (js.map fun j => V.ref (T j))
  | [], _ => rfl
  | j :: js, h => ⟨.ref (T j), _, rfl, ⟨T j, pairV (val j), rfl, h j (.head _), _, _, rfl, rfl, _, _, rfl, rfl, rfl⟩, pairs_js js fun i hi => h i (.tail _ hi)⟩
/-- sorted(set(e)) -/
theorem EvF.sortedSet {ps : List (Int × Int)} (hc : X.calm = true) (hu : X.A.units + 16 < cLine) (hg2 : Gl X "sorted") (hm2 : X.mg "sorted" = none) (hg3 : Gl X "set") (hm3 : X.mg "set" = none) (h : EvR X ρ e (.lst (ps.map pairD))) (hl : ps.length ≤ 20)
    (he : starEach [e] X.env = [(false, eval e X.env)] := by rfl) (he2 : starEach [.Call (.Name "set" p4) [e] [] p5] X.env = [(false, eval (.Call (.Name "set" p4) [e] [] p5) X.env)] := by rfl) :
    EvF X ρ (.Call (.Name "sorted" p2) [.Call (.Name "set" p4) [e] [] p5] [] p3) ((srtP ps).map pairD) := fun M0 H0 γ α σ H Q R k =>
  (pe_callB (call_sortedU hc) hg2 hm2 (by decide +kernel) (pa_cons (pe_callTy (call_setU hc hu) hg3 hm3 (by decide +kernel) (pa_cons peE pa_nil he) (by decide) (by decide) he) pa_nil he2) (by decide) (by decide) he2).to
    (h M0 H0 γ α σ H _ R fun v H1 s1 d1 => by
      obtain ⟨q, xs, e1, sq, dn⟩ := id d1
      subst e1
      have get : ∀ j, j < ps.length → ps[j]? = some (ps.getD j (0, 0)) := fun j h => by rw [List.getD_eq_getElem?_getD, List.getElem?_eq_getElem h]; rfl
      refine ⟨q, _, ps, rfl, d1, hl, fun l T hl1 hT => ⟨l, _, _, T, rfl, upd_same, fun j hj => Keep.tup (keep_of (M := NoM) (same_new hl1)) (hT j _ (get j hj)), fun l2 js hl2 hlen hin hcov hpw => ?_⟩⟩
      have eq : js.map (fun j => ps.getD j (0, 0)) = srtP ps := by
        refine srtP_uniq (fun x => ?_) (by rw [List.pairwise_map]; exact hpw)
        constructor
        · intro hx
          obtain ⟨j, hj, rfl⟩ := List.mem_map.mp hx
          exact List.mem_of_getElem? (get j (hin j hj))
        · intro hx
          obtain ⟨j, hj, e1⟩ := List.getElem_of_mem hx
          obtain ⟨j', hj', e2⟩ := hcov j hj
          refine List.mem_map.mpr ⟨j', hj', ?_⟩
          rw [e2, List.getD_eq_getElem?_getD, List.getElem?_eq_getElem hj]
          exact e1
      refine k l2 _ _ _ (s1.trans (same_new hl1)) hl2 (same_new hl2) upd_same ?_
      rw [← eq]
      exact pairs_js js fun j hj => Keep.tup (keep_of (M := NoM) (same_new hl2)) (Keep.tup (keep_of (M := NoM) (same_new hl1)) (hT j _ (get j (hin j hj)))))
/-- tuple(sorted(set(e))) -/
theorem EvD.sortedSetT {ps : List (Int × Int)} (hc : X.calm = true) (hu : X.A.units + 16 < cLine) (hg1 : Gl X "tuple") (hm1 : X.mg "tuple" = none) (hg2 : Gl X "sorted") (hm2 : X.mg "sorted" = none) (hg3 : Gl X "set") (hm3 : X.mg "set" = none) (h : EvR X ρ e (.lst (ps.map pairD))) (hl : ps.length ≤ 20)
    (he : starEach [e] X.env = [(false, eval e X.env)] := by rfl) (he2 : starEach [.Call (.Name "set" p4) [e] [] p5] X.env = [(false, eval (.Call (.Name "set" p4) [e] [] p5) X.env)] := by rfl)
    (he3 : starEach [.Call (.Name "sorted" p2) [.Call (.Name "set" p4) [e] [] p5] [] p3] X.env = [(false, eval (.Call (.Name "sorted" p2) [.Call (.Name "set" p4) [e] [] p5] [] p3) X.env)] := by rfl) :
    EvD X ρ (.Call (.Name "tuple" p) [.Call (.Name "sorted" p2) [.Call (.Name "set" p4) [e] [] p5] [] p3] [] pos) (.tup ((srtP ps).map pairD)) := EvD.tupleL hg1 hm1 (EvD.r (EvF.toD (EvF.sortedSet hc hu hg2 hm2 hg3 hm3 h hl he he2))) he3
end
end Z
set_option Elab.async false
set_option linter.all false
set_option maxRecDepth 100000
namespace Z
open PySem PySem.Spec PyProof.Rows L2
/-- a comprehension whose target is a pair of names -/
structure CompOk2 (X : Cx) (N' : List Str) (js : List Nat) (scope : Scope) (x y : Str) (cl : List (Str × Addr)) : Prop where
  clos : closureFor scope X.env = pure cl
  cell : ∀ y ∈ scope.names, y.2 ≠ .cell
  kind : scope.kind = .function
  names : ∀ y ∈ scope.names, y.2 = .local → scope.names.lookup y.1 = some .local
  own : scope.names.lookup x = some .local
  own2 : scope.names.lookup y = some .local
  hN : ∃ r, N' = x :: y :: r ∧ r.length = js.length ∧ ∀ (i : Nat) (y : Str) (j : Nat), r[i]? = some y → js[i]? = some j → X.N[j]? = some y ∧ X.env.scope.names.lookup y = some .cell ∧ (relabel scope X.env).names.lookup y = some .cell ∧ ∀ c, X.env.cells.lookup y = some c → cl.lookup y = some c
  sub : ∀ y c, cl.lookup y = some c → X.env.cells.lookup y = some c
  has : ∀ y, ((relabel scope X.env).names.lookup y = some .cell ∨ (relabel scope X.env).names.lookup y = some .free) → ∃ c, cl.lookup y = some c
section
variable {X : Cx} {pins : List (Addr × Obj)} {σ : St} {H H' : Hp} {s : Shared} {N' : List Str} {js : List Nat} {scope : Scope} {x y : Str} {cl : List (Str × Addr)} {px pos : Pos} {elt iter : Expr}
/-- the names' values at the block's entry -/
def capt2 (σ : St) (js : List Nat) : St := none :: none :: js.map fun j => (σ[j]?).join
end
section
variable {X : Cx} {pins : List (Addr × Obj)} {σ : St} {H1 : Hp} {s₂ : Shared} {N' : List Str} {js : List Nat} {scope : Scope} {x z : Str} {cl : List (Str × Addr)} {px pz pos tp : Pos} {tk : Nat} {elt iter : Expr} {J : It} {fp : List Addr} {it : Addr} {tn : Nat → Heap → Prop}
  {ds : List (D × D)} {es cs : List D} {gs : List (D × V)} {M : MP} {E : Value → Shared → Prop} {RR : Value → Addr → Result → Shared → Prop}
def capR2 (d : D × D) (cs : List D) : Rho := .im d.1 :: .im d.2 :: cs.map .im
end
end Z
set_option Elab.async false
set_option linter.all false
set_option maxRecDepth 100000
namespace Z
open PySem PySem.Spec PyProof.Rows
/-! ### zip over a list and a tuple -/
section
variable {prog : Program} {w : World} {A : Around} {E : Value → Shared → Prop} {s : Shared}
/-! zip(t1, t2) made -/
abbrev zL1 (h : Heap) (t1 : Addr) : Heap := h.push { cls := .type "list_iterator", data := .fields #[.ref t1, .int 0 0] }
abbrev zL2 (h : Heap) (t1 t2 : Addr) : Heap := (zL1 h t1).push { cls := .type "tuple_iterator", data := .fields #[.ref t2, .int 0 0] }
abbrev zL3 (h : Heap) (t1 t2 : Addr) : Heap := (zL2 h t1 t2).push { cls := .type "tuple", data := .seq #[.ref h.objs.size, .ref (zL1 h t1).objs.size] }
abbrev zL4 (h : Heap) (t1 t2 : Addr) : Heap := (zL3 h t1 t2).push { cls := .type "tuple", data := .seq #[.none, .none] }
abbrev zL5 (h : Heap) (t1 t2 : Addr) : Heap := (zL4 h t1 t2).push { cls := .type "zip", data := .fields #[.none, .bool false, .bool false, .ref (zL2 h t1 t2).objs.size, .ref (zL3 h t1 t2).objs.size] }
end
end Z
set_option Elab.async false
set_option linter.all false
set_option maxRecDepth 100000
namespace Z
open PySem PySem.Spec PyProof.Rows L2

/-! ### zip over a list and a tuple, two names -/
def Itzl (K : Frag) (t1 t2 : Addr) : It :=
  ⟨fun i H => ∃ xs ys x y, SqL K H t1 xs ∧ SqT K H t2 ys ∧ xs[i]? = some x ∧ ys[i]? = some y,
   fun i H v H' => ∃ T x y, v = .ref T ∧ H T = none ∧ H' = upd H T (.tup [x, y]) ∧ (∀ xs, SqL K H t1 xs → xs[i]? = some x) ∧ ∀ ys, SqT K H t2 ys → ys[i]? = some y,
   fun i H => ∃ xs ys, SqL K H t1 xs ∧ SqT K H t2 ys ∧ (xs.length ≤ i ∨ ys.length ≤ i)⟩
section
variable {prog : Program} {w : World} {A : Around} {E : Value → Shared → Prop} {s : Shared}
end
def iZipLT (K : Frag) (ta : TA) : TI := fun σ H R => ta σ H fun vs H1 => ∃ t1 t2, vs = [.ref t1, .ref t2] ∧ (∃ xs, SqL K H1 t1 xs) ∧ (∃ ys, SqT K H1 t2 ys) ∧ R (Itzl K t1 t2) H1
section
variable {X : Cx} {ρ : Rho} {e a b : Expr} {d : D} {ds es : List D} {p pos px : Pos} {ts : List Expr} {tk : Nat}
end
end Z
set_option Elab.async false
set_option linter.all false
set_option maxRecDepth 100000
namespace Z
open PySem PySem.Spec PyProof.Rows L2
/-! ### a comprehension that takes two names from around -/
/-! ### list.index of ints, list.pop() -/
section
variable {X : Cx} {ρ : Rho} {M0 : MP} {H0 : Hp} {P : Post} {o e : Expr} {ds : List D} {pos apos cpos p1 p2 p3 : Pos}
end
end Z
set_option Elab.async false
set_option linter.all false
set_option maxRecDepth 100000
namespace K
open PySem L2 Z
/-! ### Floor -/
def FN : List Str := ["stack_count", "most_crates", "crane_strength", "banned_pairs"]
abbrev Bans := List (Int × Int)
def flDs (f : Flr) (qs : Bans) : List D := [.int f.st, .int f.ht, .int f.lf, .tup (qs.map pD)]
def flD (C : Addr) (f : Flr) (qs : Bans) : D := .ins C FN (flDs f qs)
structure FlT (K : Frag) (C : Addr) : Prop where
  cl : Cls K C
  n1 : NoAttr K C "stack_count"
  n2 : NoAttr K C "most_crates"
  n3 : NoAttr K C "crane_strength"
  n4 : NoAttr K C "banned_pairs"
structure FlOk (f : Flr) : Prop where
  st : 2 ≤ f.st ∧ f.st ≤ 4
  ht : 1 ≤ f.ht ∧ f.ht ≤ 6
  lf : 1 ≤ f.lf ∧ f.lf ≤ 3
  few : f.bans.length ≤ 20
  ok : f.bans.all banOk = true
section
variable {P : Program} {w : World} {K : Frag} {mg : Str → Option Value} {base : Heap} {CX : CXT} {C : Addr}
abbrev FStacks (P : Program) (w : World) (K : Frag) (mg : Str → Option Value) (base : Heap) (CX : CXT) (C : Addr) : Prop :=
  MtD P w K mg base CX 1 C "stacks" (fun i : Flr × Bans => [flD C i.1 i.2]) (fun _ => True) (fun i => .ok (.int i.1.st))
abbrev FHeight (P : Program) (w : World) (K : Frag) (mg : Str → Option Value) (base : Heap) (CX : CXT) (C : Addr) : Prop :=
  MtD P w K mg base CX 1 C "height" (fun i : Flr × Bans => [flD C i.1 i.2]) (fun _ => True) (fun i => .ok (.int i.1.ht))
abbrev FLift (P : Program) (w : World) (K : Frag) (mg : Str → Option Value) (base : Heap) (CX : CXT) (C : Addr) : Prop :=
  MtD P w K mg base CX 1 C "lift" (fun i : Flr × Bans => [flD C i.1 i.2]) (fun _ => True) (fun i => .ok (.int i.1.lf))
abbrev FBans (P : Program) (w : World) (K : Frag) (mg : Str → Option Value) (base : Heap) (CX : CXT) (C : Addr) : Prop :=
  MtD P w K mg base CX 1 C "bans" (fun i : Flr × Bans => [flD C i.1 i.2]) (fun _ => True) (fun i => .ok (.lst (i.2.map pD)))
theorem scM1 : FnScope ["self"] ["self"] (defScope (sFl 1)) := ⟨rfl, rfl, rfl, by decide +kernel, rfl, by decide +kernel, by decide +kernel⟩
theorem scM2 : FnScope ["self"] ["self"] (defScope (sFl 2)) := ⟨rfl, rfl, rfl, by decide +kernel, rfl, by decide +kernel, by decide +kernel⟩
theorem scM3 : FnScope ["self"] ["self"] (defScope (sFl 3)) := ⟨rfl, rfl, rfl, by decide +kernel, rfl, by decide +kernel, by decide +kernel⟩
theorem scM4 : FnScope ["self"] ["self"] (defScope (sFl 4)) := ⟨rfl, rfl, rfl, by decide +kernel, rfl, by decide +kernel, by decide +kernel⟩
theorem fld1 (f : Flr) (qs : Bans) : fldD FN (flDs f qs) "stack_count" = some (.int f.st) := rfl
theorem fld2 (f : Flr) (qs : Bans) : fldD FN (flDs f qs) "most_crates" = some (.int f.ht) := by
  unfold FN flDs
  rw [fldD, if_neg (by decide +kernel), fldD, if_pos (by decide +kernel)]
theorem fld3 (f : Flr) (qs : Bans) : fldD FN (flDs f qs) "crane_strength" = some (.int f.lf) := by
  unfold FN flDs
  rw [fldD, if_neg (by decide +kernel), fldD, if_neg (by decide +kernel), fldD, if_pos (by decide +kernel)]
theorem fld4 (f : Flr) (qs : Bans) : fldD FN (flDs f qs) "banned_pairs" = some (.tup (qs.map pD)) := by
  unfold FN flDs
  rw [fldD, if_neg (by decide +kernel), fldD, if_neg (by decide +kernel), fldD, if_neg (by decide +kernel), fldD, if_pos (by decide +kernel)]
theorem ok_stacks {f : Addr} {fd : FuncData} (T : FlT K C) (F : Fun K "stacks" "Floor.stacks" (sFl 1) f fd) (hm : Meth K C "stacks" f) (hb : Binds K fd ["self"] []) : FStacks P w K mg base CX C :=
  mtD_of F scM1 hm hb (fun i => rfl) fun cdv A outer s H E i M0 hp hr => ⟨_, rfl, WS.one (W1.ret (EvD.fld T.cl T.n1 (nm 0 rfl rfl) (fld1 i.1 i.2)) rfl)⟩
theorem ok_height {f : Addr} {fd : FuncData} (T : FlT K C) (F : Fun K "height" "Floor.height" (sFl 2) f fd) (hm : Meth K C "height" f) (hb : Binds K fd ["self"] []) : FHeight P w K mg base CX C :=
  mtD_of F scM2 hm hb (fun i => rfl) fun cdv A outer s H E i M0 hp hr => ⟨_, rfl, WS.one (W1.ret (EvD.fld T.cl T.n2 (nm 0 rfl rfl) (fld2 i.1 i.2)) rfl)⟩
theorem ok_lift {f : Addr} {fd : FuncData} (T : FlT K C) (F : Fun K "lift" "Floor.lift" (sFl 3) f fd) (hm : Meth K C "lift" f) (hb : Binds K fd ["self"] []) : FLift P w K mg base CX C :=
  mtD_of F scM3 hm hb (fun i => rfl) fun cdv A outer s H E i M0 hp hr => ⟨_, rfl, WS.one (W1.ret (EvD.fld T.cl T.n3 (nm 0 rfl rfl) (fld3 i.1 i.2)) rfl)⟩
theorem ok_bans {f : Addr} {fd : FuncData} (B : Bm mg) (T : FlT K C) (F : Fun K "bans" "Floor.bans" (sFl 4) f fd) (hm : Meth K C "bans" f) (hb : Binds K fd ["self"] []) : FBans P w K mg base CX C :=
  mtD_of F scM4 hm hb (fun i => rfl) fun cdv A outer s H E i M0 hp hr => ⟨_, rfl, WS.one (W1.ret (EvF.toD (EvF.listT rfl B.list (EvD.fld T.cl T.n4 (nm 0 rfl rfl) (fld4 i.1 i.2)))) rfl)⟩
theorem scInit : FnScope ["self", "stacks", "height", "lift", "bans"] ["self", "stacks", "height", "lift", "bans"] (defScope sInit) := ⟨rfl, rfl, rfl, by decide +kernel, rfl, by decide +kernel, by decide +kernel⟩
abbrev FMake (P : Program) (w : World) (K : Frag) (mg : Str → Option Value) (base : Heap) (CX : CXT) (C : Addr) : Prop :=
  MkD P w K mg base CX 5 "Floor" C FN (fun f : Flr => [.int f.st, .int f.ht, .int f.lf, .lst (f.bans.map pD)]) FlOk (fun f ds => ∃ qs : Bans, ds = flDs f qs ∧ qs = srtP f.bans)
theorem Rep_hide {K : Frag} {M0 : MP} {H H1 H' : Hp} {γ : List (D × V)} {α : Nat → Addr} {ρ : Rho} {σ : St} (r : Rep K M0 H γ α ρ σ H') (hM : ∀ a, M0 a → H1 a ≠ none) (s : Same H1 H) (nomu : ∀ (i : Nat) (ds : List D), ρ[i]? ≠ some (.mu ds)) : Rep K M0 H1 γ α ρ σ H' :=
  ⟨s.trans r.same, hM, r.inj, r.im, fun i ds e => absurd e (nomu i ds), r.gh, r.len⟩
theorem putF4 (a b c d : V) : putF "banned_pairs" d (putF "crane_strength" c (putF "most_crates" b (putF "stack_count" a []))) = ([("stack_count", a), ("most_crates", b), ("crane_strength", c), ("banned_pairs", d)] : List (Str × V)) := by
  have n1 : ("stack_count" : Str) ≠ "most_crates" := by decide +kernel
  have n2 : ("stack_count" : Str) ≠ "crane_strength" := by decide +kernel
  have n3 : ("most_crates" : Str) ≠ "crane_strength" := by decide +kernel
  have n4 : ("stack_count" : Str) ≠ "banned_pairs" := by decide +kernel
  have n5 : ("most_crates" : Str) ≠ "banned_pairs" := by decide +kernel
  have n6 : ("crane_strength" : Str) ≠ "banned_pairs" := by decide +kernel
  simp only [putF, n1, n2, n3, n4, n5, n6, if_false]
theorem noI_pDs (n : Nat) (ps : Bans) : ∀ d ∈ ps.map pD, D.noI (n + 1) d := fun d hd => by
  obtain ⟨p, _, rfl⟩ := List.mem_map.mp hd
  intro e he
  have : e = .int p.1 ∨ e = .int p.2 := by simpa [pD] using he
  rcases this with rfl | rfl <;> (cases n <;> exact True.intro)
theorem ok_make {f : Addr} {fd : FuncData} (nx : NX CX) (B : Bm mg) (T : FlT K C) (G1 : FWithin P w K mg base CX) (G2 : FAreBans P w K mg base CX) (F : Fun K "__init__" "Floor.__init__" sInit f fd) (M : Mk K C f) (hm : mg "Floor" = some (.ref C)) (hb : Binds K fd ["self", "stacks", "height", "lift", "bans"] []) : FMake P w K mg base CX C := by
  refine ⟨f, fd, _, ?_, M, hm, hb⟩
  obtain ⟨oc, od, kV, doc, pm, an, cdv, ct, osl, rfl, lk, hcd⟩ := F.ex
  refine fn_of lk hcd scInit (fun vs H Q E ⟨i, M0, x, dx, us, e, _, _, h, _⟩ => by subst e; rw [List.length_cons, h.len]; rfl) fun A outer s H vs Q E hr hsp => ?_
  obtain ⟨fl, M0, x, dx, us, rfl, hx, hM, hd, hp, kk⟩ := hsp
  refine ⟨tSs _ (defBody sInit), (psSs (X := (cxOf CX P w K mg base ["self", "stacks", "height", "lift", "bans"] "Floor.__init__" (defScope sInit) f cdv A outer s H E).nox)).nox, ?_⟩
  obtain ⟨⟨s2, s4⟩, ⟨h1, h6⟩, ⟨l1, l3⟩, hfew, hok⟩ := hp
  have hM' : ∀ a, M0 a → H a ≠ none := fun a ha z => hM a ha (hide_same.free z)
  have R1 : Rep K M0 H [] (fun _ => 0) (rho0 ["self", "stacks", "height", "lift", "bans"] (.ins C [] [] :: [.int fl.st, .int fl.ht, .int fl.lf, .lst (fl.bans.map pD)])) (L2.start ["self", "stacks", "height", "lift", "bans"] (.ref x :: us)) H :=
    rep0 hM' ⟨_, _, rfl, ⟨x, dx, [], rfl, hx, rfl, rfl⟩, hd⟩
  have R2 := Rep_hide (R1.drop1 (i := 0)) hM hide_same (fun i ds e => by
    have : i < 5 := (List.getElem?_eq_some_iff.mp e).1
    match i, this with
    | 0, _ => cases e
    | 1, _ => cases e
    | 2, _ => cases e
    | 3, _ => cases e
    | 4, _ => cases e)
  have hσ : (L2.start ["self", "stacks", "height", "lift", "bans"] (.ref x :: us))[0]? = some (some (.ref x)) := rfl
  generalize L2.start ["self", "stacks", "height", "lift", "bans"] (.ref x :: us) = σ at R2 hσ ⊢
  change Rep K M0 (hideH H x) [] (fun _ => 0) [.un, .im (.int fl.st), .im (.int fl.ht), .im (.int fl.lf), .im (.lst (fl.bans.map pD))] σ H at R2
  have hi : ∀ sl ∈ ([.un, .im (.int fl.st), .im (.int fl.ht), .im (.int fl.lf), .im (.lst (fl.bans.map pD))] : Rho), sl = .un ∨ ∃ d, sl = .im d ∧ D.noI 9 d := fun sl hs => by
    have : sl = .un ∨ sl = .im (.int fl.st) ∨ sl = .im (.int fl.ht) ∨ sl = .im (.int fl.lf) ∨ sl = .im (.lst (fl.bans.map pD)) := by simpa using hs
    rcases this with rfl | rfl | rfl | rfl | rfl
    · exact .inl rfl
    · exact .inr ⟨_, rfl, trivial⟩
    · exact .inr ⟨_, rfl, trivial⟩
    · exact .inr ⟨_, rfl, trivial⟩
    · exact .inr ⟨_, rfl, noI_pDs 7 _⟩
  refine (pss_cons psS psSs).to (skipIf (ρ := [.un, .im (.int fl.st), .im (.int fl.ht), .im (.int fl.lf), .im (.lst (fl.bans.map pD))]) (TvD.to (TvD.not (TvD.val (EvD.call G1 (hr.mono (by decide)) (passNX nx) rfl (fl.st, 2, 4) (AvD.cons (nm 1 rfl rfl) (AvD.cons (gInt B.few rfl) (AvD.cons (gInt B.most rfl) AvD.nil))) trivial rfl))) (by rw [decide_eq_true s2, decide_eq_true s4]; rfl)) R2 fun H1 t1 => ?_)
  have R3 := R2.next t1
  refine (pss_cons psS psSs).to (skipIf (ρ := [.un, .im (.int fl.st), .im (.int fl.ht), .im (.int fl.lf), .im (.lst (fl.bans.map pD))]) (TvD.to (TvD.not (TvD.val (EvD.call G1 (hr.mono (by decide)) (passNX nx) rfl (fl.ht, 1, 6) (AvD.cons (nm 2 rfl rfl) (AvD.cons (gInt B.low rfl) (AvD.cons (gInt B.great rfl) AvD.nil))) trivial rfl))) (by rw [decide_eq_true h1, decide_eq_true h6]; rfl)) R3 fun H2 t2 => ?_)
  have R4 := R3.next t2
  refine (pss_cons psS psSs).to (skipIf (ρ := [.un, .im (.int fl.st), .im (.int fl.ht), .im (.int fl.lf), .im (.lst (fl.bans.map pD))]) (TvD.to (TvD.not (TvD.val (EvD.call G1 (hr.mono (by decide)) (passNX nx) rfl (fl.lf, 1, 3) (AvD.cons (nm 3 rfl rfl) (AvD.cons (gInt B.weak rfl) (AvD.cons (gInt B.strong rfl) AvD.nil))) trivial rfl))) (by rw [decide_eq_true l1, decide_eq_true l3]; rfl)) R4 fun H3 t3 => ?_)
  have R5 := R4.next t3
  refine (pss_cons psS psSs).to (skipIf (ρ := [.un, .im (.int fl.st), .im (.int fl.ht), .im (.int fl.lf), .im (.lst (fl.bans.map pD))]) (TvD.to (TvD.not (TvD.val (EvD.call G2 hr (passNX nx) rfl fl.bans (AvD.cons (nm 4 rfl rfl) AvD.nil) (show fl.bans.length ≤ 100 by omega) rfl))) (by rw [hok, decide_eq_true hfew]; rfl)) R5 fun H4 t4 => ?_)
  have R6 := R5.next t4
  have x4 : H4 x = some (.ins C dx []) := t4 _ _ (t3 _ _ (t2 _ _ (t1 _ _ hx)))
  refine (pss_cons psS psSs).to (setFld 0 rfl (.inl rfl) hσ T.cl T.n1 (by decide) (nm 1 rfl rfl) R6 x4 fun v1 H5 t5 d5 => ?_)
  cases (show v1 = V.int fl.st from d5)
  have x5 := t5 _ _ x4
  have R7 := (R6.next t5).ins (fs' := putF "stack_count" (V.int fl.st) []) hide_at x5 hi
  refine (pss_cons psS psSs).to (setFld 0 rfl (.inl rfl) hσ T.cl T.n2 (by show 1 < 1000; decide) (nm 2 rfl rfl) R7 upd_same fun v2 H6 t6 d6 => ?_)
  cases (show v2 = V.int fl.ht from d6)
  have x6 := t6 _ _ upd_same
  have R8 := (R7.next t6).ins (fs' := putF "most_crates" (V.int fl.ht) (putF "stack_count" (V.int fl.st) [])) hide_at x6 hi
  refine (pss_cons psS psSs).to (setFld 0 rfl (.inl rfl) hσ T.cl T.n3 (Nat.lt_of_le_of_lt (length_putF _ _ _) (by show 2 < 1000; decide)) (nm 3 rfl rfl) R8 upd_same fun v3 H7 t7 d7 => ?_)
  cases (show v3 = V.int fl.lf from d7)
  have x7 := t7 _ _ upd_same
  have R9 := (R8.next t7).ins (fs' := putF "crane_strength" (V.int fl.lf) (putF "most_crates" (V.int fl.ht) (putF "stack_count" (V.int fl.st) []))) hide_at x7 hi
  refine (pss_one psS).to (setFldP 0 rfl (.inl rfl) hσ T.cl T.n4 (Nat.lt_of_le_of_lt (length_putF _ _ _) (Nat.lt_of_le_of_lt (Nat.succ_le_succ (length_putF _ _ _)) (by show 3 < 1000; decide))) (EvD.toP (R := fun d => ∃ qs : Bans, d = .tup (qs.map pairD) ∧ qs = srtP fl.bans) (EvD.sortedSetT (ps := fl.bans) rfl (Nat.lt_of_le_of_lt (Nat.add_le_add_left (by decide : 16 ≤ 16 * 4 + 200) _) (by have := hr.un; rw [Nat.add_assoc] at this; exact this)) rfl B.tuple rfl B.sorted rfl B.set (EvD.r (nm 4 rfl rfl)) hfew) ⟨_, rfl, rfl⟩) R9 upd_same fun d4 v4 H8 hd4 t8 d8 => ?_)
  obtain ⟨qs, rfl, hq⟩ := hd4
  have x8 := t8 _ _ upd_same
  have R10 := (R9.next t8).ins (fs' := putF "banned_pairs" v4 (putF "crane_strength" (V.int fl.lf) (putF "most_crates" (V.int fl.ht) (putF "stack_count" (V.int fl.st) [])))) hide_at x8 hi
  have d9 : Dn K M0 (upd H8 x (.ins C dx (putF "banned_pairs" v4 (putF "crane_strength" (V.int fl.lf) (putF "most_crates" (V.int fl.ht) (putF "stack_count" (V.int fl.st) [])))))) (.tup (qs.map pD)) v4 := Dn.noI (kk_ins x8) 9 (noI_pDs 7 qs) (d8.less fun a ha => .inl ha)
  refine kk (flDs fl qs) [("stack_count", .int fl.st), ("most_crates", .int fl.ht), ("crane_strength", .int fl.lf), ("banned_pairs", v4)] _ ⟨qs, rfl, hq⟩ R10.same (by rw [upd_same, putF4]) rfl ⟨_, _, rfl, rfl, _, _, rfl, rfl, _, _, rfl, rfl, _, _, rfl, d9, rfl⟩
end
end K
set_option Elab.async false
set_option linter.all false
set_option maxRecDepth 100000
namespace K
open PySem L2 Z
theorem sIx_one (n d : Nat) : HT.sIx n d (some 1) = min 1 n := by
  unfold HT.sIx
  simp
theorem cut_one (ds : List D) : cutD ds (some 1) none = ds.drop 1 := by
  unfold cutD
  rw [sIx_one]
  cases ds with
  | nil => rfl
  | cons a l =>
    have e : min 1 (a :: l).length = 1 := by simp
    rw [e]
    show ((a :: l).drop 1).take ((a :: l).length - 1) = _
    rw [List.take_of_length_le (by simp)]
def upsOk (f : Flr) (r : List Int) : Bool := !((r.drop 1).zip r).any fun p => decide (p ∈ f.bans)
theorem rowOk_eq (f : Flr) (r : List Int) : rowOk f r = (decide ((r.length : Int) ≤ f.ht) && (r.all crateOk && upsOk f r)) := by
  unfold rowOk
  congr 1
  rw [Bool.eq_iff_iff]
  simp only [List.all_eq_true, List.mem_range, Bool.and_eq_true, upsOk, Bool.not_eq_true', List.any_eq_false, decide_eq_true_eq]
  have gd : ∀ k (h : k < r.length), r.getD k 0 = r[k] := fun k h => by rw [List.getD_eq_getElem?_getD, List.getElem?_eq_getElem h]; rfl
  constructor
  · intro h
    refine ⟨fun x hx => ?_, fun p hp hm => ?_⟩
    · obtain ⟨k, hk, rfl⟩ := List.getElem_of_mem hx
      have := h k hk
      unfold okAt at this
      rw [gd k hk, Bool.and_eq_true] at this
      exact this.1
    · obtain ⟨k, hk, e⟩ := List.getElem_of_mem hp
      rw [List.length_zip, List.length_drop] at hk
      have hk1 : k + 1 < r.length := by omega
      have h1 := h (k + 1) hk1
      unfold okAt at h1
      rw [gd _ hk1, show k + 1 - 1 = k from rfl, gd k (by omega)] at h1
      rw [List.getElem_zip, List.getElem_drop] at e
      have e' : (r[k + 1], r[k]) = p := by
        rw [← e]
        congr 2
        omega
      rw [e'] at h1
      simp [hm] at h1
  · rintro ⟨h1, h2⟩ k hk
    unfold okAt
    rw [gd k hk, Bool.and_eq_true]
    refine ⟨h1 _ (List.getElem_mem hk), ?_⟩
    rw [Bool.not_eq_true', Bool.and_eq_false_iff]
    by_cases h0 : 0 < k
    · refine .inr (decide_eq_false ?_)
      rw [gd (k - 1) (by omega)]
      refine h2 _ ?_
      have hl : k - 1 < ((r.drop 1).zip r).length := by rw [List.length_zip, List.length_drop]; omega
      have e : ((r.drop 1).zip r)[k - 1] = (r[k], r[k - 1]) := by
        rw [List.getElem_zip, List.getElem_drop]
        congr 2
        omega
      rw [← e]
      exact List.getElem_mem hl
    · exact .inl (decide_eq_false h0)
/-- the floor that is held stands for the law's floor -/
structure Stands (f : Flr) (qs : Bans) : Prop where
  ok : FlOk f
  few : qs.length ≤ 20
  mem : ∀ q, q ∈ qs ↔ q ∈ f.bans
section
variable {P : Program} {w : World} {K : Frag} {mg : Str → Option Value} {base : Heap} {CX : CXT} {C : Addr}
structure Fl (P : Program) (w : World) (K : Frag) (mg : Str → Option Value) (base : Heap) (CX : CXT) (C : Addr) : Prop where
  t : FlT K C
  st : FStacks P w K mg base CX C
  ht : FHeight P w K mg base CX C
  lf : FLift P w K mg base CX C
  bs : FBans P w K mg base CX C
theorem scGoodStack : FnScope ["floor", "stack", "bans"] ["floor", "stack"] (defScope sGoodStack) := ⟨rfl, rfl, rfl, by decide +kernel, rfl, by decide +kernel, by decide +kernel⟩
abbrev FGoodStack (P : Program) (w : World) (K : Frag) (mg : Str → Option Value) (base : Heap) (CX : CXT) (C : Addr) : Prop :=
  FnD P w K mg base CX 3 "is_good_stack" (fun i : Flr × Bans × List Int => [flD C i.1 i.2.1, sqD true (i.2.2.map .int)]) (fun i => Stands i.1 i.2.1 ∧ i.2.2.length ≤ 1000) (fun i => .ok (.bl (rowOk i.1 i.2.2)))
theorem zipD_ints (as bs : List Int) : zipD (as.map .int) (bs.map .int) = (as.zip bs).map pD := by
  unfold zipD
  rw [List.zip_map, List.map_map]
  rfl
theorem ok_goodStack {f : Addr} {fd : FuncData} (nx : NX CX) (B : Bm mg) (L : Fl P w K mg base CX C) (G : FCrate P w K mg base CX) (F : Fun K "is_good_stack" "is_good_stack" sGoodStack f fd) (hm : mg "is_good_stack" = some (.ref f)) (hb : Binds K fd ["floor", "stack"] []) : FGoodStack P w K mg base CX C := by
  refine fnD_of F scGoodStack hm hb (fun i => rfl) fun cdv A outer s H E i M0 hp hr => ⟨_, rfl, ?_⟩
  obtain ⟨fl, qs, r⟩ := i
  obtain ⟨hS, hlen⟩ : Stands fl qs ∧ r.length ≤ 1000 := hp
  have px := scGoodStack.nd
  have hr1 := hr.mono (show 1 ≤ 2 by decide)
  change WS _ M0 H (defBody sGoodStack) [.im (flD C fl qs), .im (.tup (r.map .int)), .un] _
  rw [rowOk_eq]
  refine WS.cons (W1.ite (TwD.t (TwD.or (TvD.not (TvD.val (EvD.isi rfl B.isi rfl B.tuple (by decide +kernel) (.inr (.inr (.inr (.inl rfl)))) (EvD.r (nm 1 rfl rfl)) rfl))) fun _ => TwD.or1 (TvD.cI .gt (EvD.lenT rfl B.len (nm 1 rfl rfl)) (EvD.meth0 L.t.cl L.ht hr1 (passNX nx) (fl, qs) (nm 0 rfl rfl) rfl trivial rfl)))) (fun h => ?_) fun h => WS.nil ?_)
  · rw [isT_tup, List.length_map] at h
    have h' : fl.ht < (r.length : Int) := by simpa using h
    exact WS.one (W1.ret EvD.bl (by dsimp only; rw [decide_eq_false (by omega)]; rfl))
  rw [isT_tup, List.length_map] at h
  have hle : (r.length : Int) ≤ fl.ht := by
    have : ¬ fl.ht < (r.length : Int) := by simpa using h
    omega
  rw [decide_eq_true hle, Bool.true_and]
  refine WS.cons (W1.ite (TvD.not (TvD.val (EvD.all (bs := r.map crateOk) rfl rfl B.all (EvD.r (EvF.toD (EvF.comp (ds := r.map .int) (es := (r.map crateOk).map D.bl) (cs := []) (CompOk.closed (by decide +kernel) (by decide +kernel) rfl (by decide +kernel) rfl) rfl (by decide +kernel) (IvD.tup (nm 1 rfl rfl)) capNil (by simp) (by rw [List.length_map]; omega) ?_)))))) (fun h => ?_) fun h => WS.nil ?_)
  · intro C s₀ H₀ fp pins i d e h1 h2
    rw [List.getElem?_map] at h1
    rw [List.getElem?_map, List.getElem?_map] at h2
    cases ei : r[i]? with
    | none => rw [ei] at h1; cases h1
    | some v =>
      rw [ei] at h1 h2
      cases h1
      cases h2
      exact EvD.call G hr (passNX nx) rfl v (AvD.cons (nm 0 rfl rfl) AvD.nil) trivial rfl
  · have h' : r.all crateOk = false := by simpa using h
    exact WS.one (W1.ret EvD.bl (by rw [h']; rfl))
  have h' : r.all crateOk = true := by rw [List.all_map] at h; simpa using h
  rw [h', Bool.true_and]
  refine WS.cons (W1.set (i := 2) px rfl (.inr rfl) (ltL rfl) (EvD.meth0 L.t.cl L.bs hr1 (passNX nx) (fl, qs) (nm 0 rfl rfl) rfl trivial rfl) ?_)
  change WS _ M0 H _ [.im (flD C fl qs), .im (.tup (r.map .int)), .im (.lst (qs.map pD))] _
  refine WS.one (W1.ret (EvD.to (EvD.not (EvD.any (bs := ((r.drop 1).zip r).map fun p => decide (p ∈ fl.bans)) rfl rfl B.any (EvD.r (EvF.toD (EvF.comp (ds := ((r.drop 1).zip r).map pD) (es := (((r.drop 1).zip r).map fun p => decide (p ∈ fl.bans)).map D.bl) (cs := [.lst (qs.map pD)]) (N' := ["pair", "bans"]) (js := [2])
    (CompOk.cap1 (pre := [(".0", .local), ("pair", .local)]) (post := []) (rn := [(".0", .local), ("pair", .local), ("bans", .cell)]) rfl (by decide +kernel) (by decide +kernel) rfl (by decide +kernel) rfl (by decide +kernel) rfl rfl rfl rfl rfl (by decide +kernel)) rfl (by decide +kernel)
    (IvD.to (IvD.zipT rfl B.zip (EvD.cutT (nm 1 rfl rfl) (OvD.some EvD.int) OvD.none) (nm 1 rfl rfl)) (by rw [cut_one, ← List.map_drop, zipD_ints])) (cap1R rfl) (by simp) (by rw [List.length_map, List.length_zip]; omega) ?_))))) (by rw [List.any_map]; rfl)) rfl)
  intro C s₀ H₀ fp pins i d e h1 h2
  rw [List.getElem?_map] at h1
  rw [List.getElem?_map, List.getElem?_map] at h2
  cases ei : ((r.drop 1).zip r)[i]? with
  | none => rw [ei] at h1; cases h1
  | some v =>
    rw [ei] at h1 h2
    cases h1
    cases h2
    refine EvD.to (EvD.inL (hu65 hr) (EvD.r (nm 0 rfl rfl)) (EvD.r (nm 1 rfl rfl)) (flat_pD 59 v) flat_pDs) ?_
    rw [inD_pairs]
    congr 1
    exact decide_eq_decide.mpr (hS.mem v)
end
end K
set_option Elab.async false
set_option linter.all false
set_option maxRecDepth 100000
namespace K
open PySem L2 Z
abbrev Rows := List (List Int)
abbrev Tri := Int × Int × Int
def tD (t : Tri) : D := .tup [.int t.1, .int t.2.1, .int t.2.2]
def stk (f : Flr) (v : Int) : Bool := decide (0 ≤ v) && decide (v ≤ f.st - 1)
def rowAt (rows : Rows) (v : Int) : List Int := rows.getD v.toNat []
def least (a b : Int) : Int := if b < a then b else a
theorem sIx_nat (n d : Nat) (k : Nat) (h : k ≤ n) : HT.sIx n d (some (k : Int)) = k := by
  unfold HT.sIx
  simp
  rw [if_neg (by omega)]
  omega
theorem cut_hi {ds : List D} {k : Nat} (h : k ≤ ds.length) : cutD ds none (some (k : Int)) = ds.take k := by
  unfold cutD
  rw [sIx_nat _ _ _ h]
  show (ds.drop 0).take (k - 0) = _
  rw [List.drop_zero, Nat.sub_zero]
theorem minI {X : Cx} {ρ : Rho} {a b : Expr} {p pos : Pos} {i j : Int} (hc : X.calm = true) (hg : Gl X "min") (hm : X.mg "min" = none) (ha : EvD X ρ a (.int i)) (hb : EvD X ρ b (.int j))
    (he : starEach [a, b] X.env = (false, eval a X.env) :: starEach [b] X.env := by rfl) (he2 : starEach [b] X.env = [(false, eval b X.env)] := by rfl) (hpl : (backTo pos (starEach [b] X.env)).any (·.1) = false := by rfl) : EvD X ρ (.Call (.Name "min" p) [a, b] [] pos) (.int (if j < i then j else i)) :=
  EvD.min hc hg hm (by decide +kernel) ha hb he he2 hpl
section
variable {P : Program} {w : World} {K : Frag} {mg : Str → Option Value} {base : Heap} {CX : CXT} {C : Addr}
theorem scIsGood : FnScope ["floor", "standing", "crates", "stack"] ["floor", "standing"] (defScope sIsGood) := ⟨rfl, rfl, rfl, by decide +kernel, rfl, by decide +kernel, by decide +kernel⟩
structure Small (rows : Rows) : Prop where
  fl : rows.flatten.length ≤ 1000
  n : rows.length ≤ 1000
abbrev FIsGood (P : Program) (w : World) (K : Frag) (mg : Str → Option Value) (base : Heap) (CX : CXT) (C : Addr) : Prop :=
  FnD P w K mg base CX 4 "is_good" (fun i : Flr × Bans × Rows => [flD C i.1 i.2.1, .tup (rowsD true i.2.2)]) (fun i => Stands i.1 i.2.1 ∧ Small i.2.2) (fun i => .ok (.bl (good i.1 i.2.2)))
theorem ok_isGood {f : Addr} {fd : FuncData} (nx : NX CX) (B : Bm mg) (L : Fl P w K mg base CX C) (G : FGoodStack P w K mg base CX C) (F : Fun K "is_good" "is_good" sIsGood f fd) (hm : mg "is_good" = some (.ref f)) (hb : Binds K fd ["floor", "standing"] []) : FIsGood P w K mg base CX C := by
  refine fnD_of F scIsGood hm hb (fun i => rfl) fun cdv A outer s H E i M0 hp hr => ⟨_, rfl, ?_⟩
  obtain ⟨fl, qs, rows⟩ := i
  obtain ⟨hS, hp1, hp2⟩ : Stands fl qs ∧ Small rows := hp
  have px := scIsGood.nd
  have hlen : (rowsD true rows).length = rows.length := List.length_map ..
  change WS _ M0 H (defBody sIsGood) [.im (flD C fl qs), .im (.tup (rowsD true rows)), .un, .un] { N := fun _ => D.bl (good fl rows) = .non, R := fun d' => d' = .bl (good fl rows) }
  refine WS.cons (W1.ite (TwD.t (TwD.or (TvD.not (TvD.val (EvD.isi rfl B.isi rfl B.tuple (by decide +kernel) (.inr (.inr (.inr (.inl rfl)))) (EvD.r (nm 1 rfl rfl)) rfl))) fun _ => TwD.or1 (TvD.cI .ne (EvD.lenT rfl B.len (nm 1 rfl rfl)) (EvD.meth0 L.t.cl L.st (hr.mono (by decide)) (passNX nx) (fl, qs) (nm 0 rfl rfl) rfl trivial rfl)))) (fun h => ?_) fun h => WS.nil ?_)
  · rw [isT_tup, hlen] at h
    have h' : ¬ (rows.length : Int) = fl.st := by simpa using h
    refine WS.one (W1.ret EvD.bl ?_)
    show D.bl false = D.bl (good fl rows)
    unfold good
    rw [decide_eq_false h']
    rfl
  rw [isT_tup, hlen] at h
  have g1 : (rows.length : Int) = fl.st := by simpa using h
  refine WS.cons (W1.setF (i := 2) px rfl (.inl rfl) (ltL rfl) (EvF.lst AvD.nil) ?_)
  refine WS.cons (W1.for (ds := rowsD true rows) (fun i ρ => (rows.take i).all (rowOk fl) = true ∧ ∃ a, ρ = [.im (flD C fl qs), .im (.tup (rowsD true rows)), .mu ((rows.take i).flatten.map .int), a]) PassesOwn.never rfl (IvD.tup (nm 1 rfl rfl)) ⟨by rw [List.take_zero]; rfl, _, by rw [List.take_zero]; rfl⟩ ?_ ?_)
  · rintro i d ρ hd ⟨hall, a, rfl⟩
    obtain ⟨r, hr', rfl⟩ := rowsD_get hd
    have l1 := flat_take_len rows i
    have l2 := row_len (List.mem_of_getElem? hr')
    refine ⟨_, GvD.name (i := 3) px rfl (.inl rfl) (ltL rfl), ?_⟩
    change WS _ M0 H _ [.im (flD C fl qs), .im (.tup (rowsD true rows)), .mu ((rows.take i).flatten.map .int), .im (sqD true (r.map .int))] _
    refine WS.cons (W1.ite (TvD.not (TvD.val (EvD.call G hr (passNX nx) rfl (fl, qs, r) (AvD.cons (nm 0 rfl rfl) (AvD.cons (nm 3 rfl rfl) AvD.nil)) ⟨hS, show r.length ≤ 1000 by omega⟩ rfl))) (fun h3 => ?_) fun h3 => WS.nil ?_)
    · refine WS.one (W1.ret EvD.bl ?_)
      have hf : rowOk fl r = false := by simpa using h3
      show D.bl false = D.bl (good fl rows)
      unfold good
      have : rows.all (rowOk fl) = false := by
        rw [List.all_eq_false]
        exact ⟨r, List.mem_of_getElem? hr', by rw [hf]; exact Bool.false_ne_true⟩
      rw [this, Bool.and_false]
    have hf : rowOk fl r = true := by simpa using h3
    refine WS.one (W1.extend (i := 2) (fs := r.map .int) rfl (.inl rfl) rfl (nm 3 rfl rfl) rfl (by rw [List.length_map, List.length_map]; omega) ?_ ⟨rfl, rfl, rfl, rfl⟩)
    refine ⟨?_, ?_⟩
    · rw [List.take_add_one, hr', List.all_append, hall]
      simp [hf]
    · rw [take_flat hr', List.map_append]
      exact ⟨_, rfl⟩
  rintro ρ ⟨hall, a, rfl⟩
  rw [hlen, List.take_length] at hall
  rw [hlen, List.take_length]
  refine WS.one (W1.ret (EvD.cI .eq (EvD.lenSet rfl rfl B.len rfl B.set (nmR 2 rfl rfl) (by omega)) (EvD.lenL rfl B.len (nmR 2 rfl rfl))) ?_)
  show D.bl (decide (_ = _)) = D.bl (good fl rows)
  congr 1
  unfold good
  rw [decide_eq_true g1, hall, Bool.true_and, Bool.and_true, List.length_map]
  apply decide_eq_decide.mpr
  rw [← dN_eq]
  omega
end
end K
set_option Elab.async false
set_option linter.all false
set_option maxRecDepth 100000
namespace Z
open PySem PySem.Spec PyProof.Rows L2
section
variable {X : Cx} {N' : List Str} {js : List Nat} {scope : Scope} {x z : Str} {cl : List (Str × Addr)} {px pz pos tp : Pos} {tk : Nat} {elt iter : Expr} {ds : List (D × D)} {es cs : List D}
end
end Z
set_option Elab.async false
set_option linter.all false
namespace Z
theorem len1 {α : Type _} : ∀ (us : List α), us.length = 1 → ∃ a, us = [a]
  | [a], _ => ⟨a, rfl⟩
theorem len2 {α : Type _} : ∀ (us : List α), us.length = 2 → ∃ a b, us = [a, b]
  | [a, b], _ => ⟨a, b, rfl⟩
theorem len3 {α : Type _} : ∀ (us : List α), us.length = 3 → ∃ a b c, us = [a, b, c]
  | [a, b, c], _ => ⟨a, b, c, rfl⟩
theorem len4 {α : Type _} : ∀ (us : List α), us.length = 4 → ∃ a b c d, us = [a, b, c, d]
  | [a, b, c, d], _ => ⟨a, b, c, d, rfl⟩
theorem len5 {α : Type _} : ∀ (us : List α), us.length = 5 → ∃ a b c d e, us = [a, b, c, d, e]
  | [a, b, c, d, e], _ => ⟨a, b, c, d, e, rfl⟩
end Z
set_option Elab.async false
set_option linter.all false
set_option maxRecDepth 100000
namespace Z
open PySem L2 PyProof.Rows
section
variable {X : Cx} {ρ : Rho} {M0 : MP} {H0 : Hp} {P : Post} {e : Expr} {pos p2 p3 q2 q3 : Pos}
end
end Z
set_option Elab.async false
set_option linter.all false
set_option maxRecDepth 100000
namespace Z
open PySem PySem.Spec PyProof.Rows L2
/-! ### an __init__ that raises -/
def mkErr (K : Frag) (C CE : Addr) {ι : Type} (args : ι → List D) (bad : ι → Prop) : Sp := fun vs H Q E =>
  ∃ (i : ι) (M0 : MP) (x dx : Addr) (us : List V), vs = .ref x :: us ∧ H x = some (.ins C dx []) ∧ (∀ a, M0 a → H a ≠ none) ∧ Dns K M0 H (args i) us ∧ bad i ∧
    ∀ (a : Option Addr) (H' : Hp), Same H H' → E (.ref CE) a H'
structure MkE (P : Program) (w : World) (K : Frag) (mg : Str → Option Value) (base : Heap) (k : Nat) (x : Str) (C CE : Addr) {ι : Type} (args : ι → List D) (bad : ι → Prop) : Prop where
  ex : ∃ (f : Addr) (fd : FuncData) (ps : List Str), FnOk P w K mg base (CXr P w) k f fd ps (mkErr K C CE args bad) ∧ Mk K C f ∧ mg x = some (.ref C) ∧ Binds K fd ps []
section
variable {X : Cx} {pn : List (Addr × Obj)} {W : Addr → St → Hp → Prop} {ρ : Rho} {e : Expr} {es : List Expr} {C CE : Addr} {pos p : Pos} {k : Nat} {x : Str} {ι : Type} {args : ι → List D} {bad : ι → Prop}
theorem RtD.make {i : ι} (hex : X.ex = []) (F : MkE X.prog X.w X.K X.mg X.base k x C CE args bad) (hr : Room (k + 1) X.A) (hg : Gl X x) (ha : AvD (CaX X pn W) ρ (e :: es) (args i)) (hp : bad i) (hdb : (x == ("__debug__" : Str)) = false := by decide)
    (he : starEach (e :: es) X.env = (false, eval e X.env) :: starEach es X.env := by rfl) (hpl : (backTo pos (starEach es X.env)).any (·.1) = false := by rfl) : RtD (CaX X pn W) W ρ (.Call (.Name x p) (e :: es) [] pos) CE := fun M0 H0 γ α σ H Q R kE => by
  obtain ⟨f, fd, ps, F, M, hm, hb⟩ := F.ex
  intro pins s I0
  refine wpAny_Call_Name_kw (ld_glob I0 hg hm ?_ hdb)
  have run := paA (X := CaX X pn W) (es := e :: es) pos pins s σ H (fun vs H1 => Same H H1 ∧ Dns X.K (MM M0 ρ α) H1 (args i) vs) I0 (ha M0 H0 γ α σ H _ R fun vs H1 s1 d1 => ⟨s1, d1⟩)
  refine PySem.W.callWith_K (h₀ := X.base) I0.ok.mod.kin M.kp (thn run fun us s ⟨vs, H1, I, r, sm, d1⟩ => ⟨I.kIn, ?_⟩) he hpl
  have n1 : H1 (s.heap.objs.size + 1) = none := I.hok.fresh (Nat.le_succ _)
  have n2 : H1 s.heap.objs.size = none := I.hok.fresh (Nat.le_refl _)
  have I2 := Inv.made (C := C) I
  have smm : Same H1 (upd (upd H1 s.heap.objs.size (.own (s.heap.objs.size + 1))) (s.heap.objs.size + 1) (.ins C s.heap.objs.size [])) := fun b o e => by rw [upd_ne (ne_of_none e n1), upd_ne (ne_of_none e n2)]; exact e
  have hq : mkErr X.K C CE args bad (.ref (s.heap.objs.size + 1) :: vs) (upd (upd H1 s.heap.objs.size (.own (s.heap.objs.size + 1))) (s.heap.objs.size + 1) (.ins C s.heap.objs.size [])) (fun _ _ => False) (fun v _ H' => ∃ C, v = .ref C ∧ W C σ H') :=
    ⟨i, MM M0 ρ α, _, _, vs, rfl, upd_same, fun a ha z => mm_there R sm a ha (smm.free z), d1.same smm, hp, fun a H' s2 => ⟨CE, rfl, kE H' ((sm.trans smm).trans s2)⟩⟩
  have r2 : Vals (V.ref (s.heap.objs.size + 1) :: vs) (Value.ref (s.heap.objs.size + 1) :: us) := .cons rfl r
  have hl : (Value.ref (s.heap.objs.size + 1) :: us).length = ps.length := by
    have e := r2.length
    rw [F.len _ _ _ _ hq] at e
    exact e.symm
  have hbt := hb _ (Value.ref (s.heap.objs.size + 1) :: us) I2.kIn (by rw [List.append_nil]; exact hl)
  rw [List.append_nil] at hbt
  refine wpAny_call (make_map (f := f) I.kIn M.makes M.init (beq_iff_eq.mp M.fn) (codeAny_mono (F.run _ X.stack _ _ ⟨Value.ref (s.heap.objs.size + 1) :: us, []⟩ (Value.ref (s.heap.objs.size + 1) :: us) _ _ _ (hr.make C us [])
    (I2.env0.make C us []) hbt r2 hq) fun r s' hq' => ?_))
  cases r with
  | error e => exact ca_in hex I2 hq'
  | ok fl =>
    cases fl with
    | ret u =>
      obtain ⟨v, H', I3, rv, ev⟩ := I2.after hq'
      exact ev.elim
    | next => exact False.elim hq'
    | brk => exact False.elim hq'
    | cont => exact False.elim hq'
end
end Z
set_option Elab.async false
set_option linter.all false
set_option maxRecDepth 100000
namespace K
open PySem L2 Z
abbrev sWhole : Stmt := top 29
abbrev sKind : Stmt := top 30
abbrev sOne : Stmt := top 31
def errNames : List Str := ["NoFloor", "NoStanding", "NoLift", "OtherCrates", "TooMany", "NoNames", "NoOrder", "BadText"]
/-- the eight classes of errors -/
structure ErrT (K : Frag) (mg : Str → Option Value) (cl : Nat → Addr) (raised : Nat → Prop) : Prop where
  n0 : mg "NoFloor" = some (.ref (cl 0))
  n1 : mg "NoStanding" = some (.ref (cl 1))
  n2 : mg "NoLift" = some (.ref (cl 2))
  n3 : mg "OtherCrates" = some (.ref (cl 3))
  n4 : mg "TooMany" = some (.ref (cl 4))
  n5 : mg "NoNames" = some (.ref (cl 5))
  n6 : mg "NoOrder" = some (.ref (cl 6))
  n7 : mg "BadText" = some (.ref (cl 7))
  ve : mg "ValueError" = none
  is : ∀ i j, raised i → j < 8 → PySem.W.kitOne K (.ref (cl i)) (.ref (cl j)) = some (decide (i = j))
  up : ∀ i, raised i → PySem.W.kitOne K (.ref (cl i)) (.type "ValueError") = some true
  t : ∀ i, raised i → ExcT K (cl i)
def oneL (i : Nat) : List Bool := [decide (i = 0), decide (i = 1), decide (i = 2), decide (i = 3), decide (i = 4), decide (i = 5), decide (i = 6), decide (i = 7), true]
section
variable {P : Program} {w : World} {K : Frag} {mg : Str → Option Value} {base : Heap} {CX : CXT} {cl : Nat → Addr} {raised : Nat → Prop}
theorem scKind : FnScope ["e", "kinds"] ["e"] (defScope sKind) := ⟨rfl, rfl, rfl, by decide +kernel, rfl, by decide +kernel, by decide +kernel⟩
abbrev FKind (P : Program) (w : World) (K : Frag) (mg : Str → Option Value) (base : Heap) (CX : CXT) (cl : Nat → Addr) (raised : Nat → Prop) : Prop :=
  FnDH P w K mg base CX 1 "_law_kind" (fun i : Nat => [.exc (cl i)]) raised (fun i => .lst ((oneL i).map .bl))
theorem ok_kind {f : Addr} {fd : FuncData} (B : Bm mg) (T : ErrT K mg cl raised) (F : Fun K "_law_kind" "_law_kind" sKind f fd) (hm : mg "_law_kind" = some (.ref f)) (hb : Binds K fd ["e"] []) : FKind P w K mg base CX cl raised := by
  refine fnDH_of F scKind hm hb (fun i => rfl) fun cdv A outer s H E i M0 hp hr => ?_
  have px := scKind.nd
  have hp' : raised i := hp
  have tt := T.t i hp'
  change WS _ M0 H (defBody sKind) [.im (.exc (cl i)), .un] { N := fun _ => D.lst ((oneL i).map .bl) = .non, R := fun d' => d' = .lst ((oneL i).map .bl) }
  refine WS.cons (W1.setF (i := 1) px rfl (.inl rfl) (ltL rfl) (EvF.lst (AvD.cons (EvD.isiE rfl B.isi rfl T.n0 (nm 0 rfl rfl) tt (T.is i 0 hp' (by decide))) (AvD.cons (EvD.isiE rfl B.isi rfl T.n1 (nm 0 rfl rfl) tt (T.is i 1 hp' (by decide))) (AvD.cons (EvD.isiE rfl B.isi rfl T.n2 (nm 0 rfl rfl) tt (T.is i 2 hp' (by decide))) (AvD.cons (EvD.isiE rfl B.isi rfl T.n3 (nm 0 rfl rfl) tt (T.is i 3 hp' (by decide))) AvD.nil))))) ?_)
  refine WS.cons (W1.setF (i := 1) px rfl (.inl rfl) (ltL rfl) (EvF.cat (nmR 1 rfl rfl) (EvD.r (EvF.toD (EvF.lst (AvD.cons (EvD.isiE rfl B.isi rfl T.n4 (nm 0 rfl rfl) tt (T.is i 4 hp' (by decide))) (AvD.cons (EvD.isiE rfl B.isi rfl T.n5 (nm 0 rfl rfl) tt (T.is i 5 hp' (by decide))) (AvD.cons (EvD.isiE rfl B.isi rfl T.n6 (nm 0 rfl rfl) tt (T.is i 6 hp' (by decide))) (AvD.cons (EvD.isiE rfl B.isi rfl T.n7 (nm 0 rfl rfl) tt (T.is i 7 hp' (by decide))) AvD.nil))))))) (Nat.le_of_ble_eq_true rfl)) ?_)
  exact WS.one (W1.ret (EvF.toD (EvF.cat (nmR 1 rfl rfl) (EvD.r (EvF.toD (EvF.lst (AvD.cons (EvD.isiET rfl B.isi rfl T.ve (by decide +kernel) (nm 0 rfl rfl) tt (T.up i hp')) AvD.nil)))) (Nat.le_of_ble_eq_true rfl))) rfl)
theorem scOne : FnScope ["k"] ["k"] (defScope sOne) := ⟨rfl, rfl, rfl, by decide +kernel, rfl, by decide +kernel, by decide +kernel⟩
abbrev FOne (P : Program) (w : World) (K : Frag) (mg : Str → Option Value) (base : Heap) (CX : CXT) : Prop :=
  FnD P w K mg base CX 1 "_law_one" (fun k : Nat => [.int k]) (fun _ => True) (fun k => .ok (.lst ((oneL k).map .bl)))
theorem ok_one {f : Addr} {fd : FuncData} (B : Bm mg) (F : Fun K "_law_one" "_law_one" sOne f fd) (hm : mg "_law_one" = some (.ref f)) (hb : Binds K fd ["k"] []) : FOne P w K mg base CX := by
  refine fnD_of F scOne hm hb (fun i => rfl) fun cdv A outer s H E k M0 hp hr => ⟨_, rfl, ?_⟩
  change WS _ M0 H (defBody sOne) [.im (.int k)] _
  refine WS.one (W1.ret (EvF.toD (EvF.cat (ds := (List.range 8).map fun j => D.bl (decide (k = j))) (EvD.r (EvF.toD (EvF.comp (ds := rngD 0 8) (es := (List.range 8).map fun j => D.bl (decide (k = j))) (cs := [.int k]) (N' := ["j", "k"]) (js := [0])
    (CompOk.cap1 (pre := [(".0", .local), ("j", .local)]) (post := []) (rn := [(".0", .local), ("j", .local), ("k", .cell)]) rfl (by decide +kernel) (by decide +kernel) rfl (by decide +kernel) rfl (by decide +kernel) rfl rfl rfl rfl rfl (by decide +kernel)) rfl (by decide +kernel)
    (IvD.to (IvD.range (j := 8) rfl B.range EvD.int (by decide)) rfl) (cap1R rfl) (by rw [List.length_map, List.length_range, rngD_len]) (by rw [rngD_len]; decide) ?_))) (EvD.r (EvF.toD (EvF.lst (AvD.cons EvD.bl AvD.nil)))) (by rw [List.length_map, List.length_range]; decide))) rfl)
  intro C s₀ H₀ fp pins i d e h1 h2
  obtain ⟨rfl, hi⟩ := rngD_get h1
  rw [List.getElem?_map, List.getElem?_range hi] at h2
  cases h2
  refine EvD.to (EvD.cI .eq (nm 1 rfl rfl) (nm 0 rfl rfl)) ?_
  congr 1
  exact decide_eq_decide.mpr (by omega)
theorem scWhole : FnScope ["found"] ["found"] (defScope sWhole) := ⟨rfl, rfl, rfl, by decide +kernel, rfl, by decide +kernel, by decide +kernel⟩
abbrev FWhole (P : Program) (w : World) (K : Frag) (mg : Str → Option Value) (base : Heap) (CX : CXT) : Prop :=
  FnD P w K mg base CX 1 "_law_whole" (fun i : Int => [.int i]) (fun _ => True) (fun _ => .ok (.bl true))
theorem ok_whole {f : Addr} {fd : FuncData} (B : Bm mg) (F : Fun K "_law_whole" "_law_whole" sWhole f fd) (hm : mg "_law_whole" = some (.ref f)) (hb : Binds K fd ["found"] []) : FWhole P w K mg base CX := by
  refine fnD_of F scWhole hm hb (fun i => rfl) fun cdv A outer s H E i M0 hp hr => ⟨_, rfl, ?_⟩
  refine WS.one (W1.ret (EvD.and (EvD.isi rfl B.isi rfl B.int (by decide +kernel) (.inl rfl) (EvD.r (nm 0 rfl rfl)) rfl) fun _ => EvD.one (EvD.not (EvD.isi rfl B.isi rfl B.bool (by decide +kernel) (.inr (.inl rfl)) (EvD.r (nm 0 rfl rfl)) rfl))) ?_)
  show D.bl (isT "int" (.int i) && !isT "bool" (.int i)) = D.bl true
  rw [isT_int, isT_bool]
  rfl
/-! ### a floor that is refused -/
abbrev FMakeE (P : Program) (w : World) (K : Frag) (mg : Str → Option Value) (base : Heap) (C CE : Addr) : Prop :=
  MkE P w K mg base 5 "Floor" C CE (fun f : Flr => [.int f.st, .int f.ht, .int f.lf, .lst (f.bans.map pD)]) (fun f => f.bans.length ≤ 100 ∧ ¬ FlOk f)
theorem ok_makeE {C CE : Addr} {f : Addr} {fd : FuncData} (B : Bm mg) (er : OwnE "NoFloor" CE mg base) (G1 : FWithin P w K mg base (CXr P w)) (G2 : FAreBans P w K mg base (CXr P w)) (F : Fun K "__init__" "Floor.__init__" sInit f fd) (M : Mk K C f) (hm : mg "Floor" = some (.ref C)) (hb : Binds K fd ["self", "stacks", "height", "lift", "bans"] []) : FMakeE P w K mg base C CE := by
  have nx : NX (CXr P w) := cxr_no
  refine ⟨f, fd, _, ?_, M, hm, hb⟩
  obtain ⟨oc, od, kV, doc, pm, an, cdv, ct, osl, rfl, lk, hcd⟩ := F.ex
  refine fn_of lk hcd scInit (fun vs H Q E ⟨i, M0, x, dx, us, e, _, _, h, _⟩ => by subst e; rw [List.length_cons, h.len]; rfl) fun A outer s H vs Q E hr hsp => ?_
  obtain ⟨fl, M0, x, dx, us, rfl, hx, hM, hd, ⟨hlen, hbad⟩, kk⟩ := hsp
  refine ⟨tSs _ (defBody sInit), psSs (X := cxR P w K mg base ["self", "stacks", "height", "lift", "bans"] "Floor.__init__" (defScope sInit) f cdv A outer s H E), ?_⟩
  have R1 : Rep K M0 H [] (fun _ => 0) (rho0 ["self", "stacks", "height", "lift", "bans"] (.ins C [] [] :: [.int fl.st, .int fl.ht, .int fl.lf, .lst (fl.bans.map pD)])) (L2.start ["self", "stacks", "height", "lift", "bans"] (.ref x :: us)) H :=
    rep0 hM ⟨_, _, rfl, ⟨x, dx, [], rfl, hx, rfl, rfl⟩, hd⟩
  have hr1 : Room 1 _ := hr.mono (by decide)
  have rs : RssD (cxR P w K mg base ["self", "stacks", "height", "lift", "bans"] "Floor.__init__" (defScope sInit) f cdv A outer s H E) [.im (.ins C [] []), .im (.int fl.st), .im (.int fl.ht), .im (.int fl.lf), .im (.lst (fl.bans.map pD))] E (defBody sInit) CE := by
    by_cases c1 : 2 ≤ fl.st ∧ fl.st ≤ 4
    · refine RssD.skip (TvD.to (TvD.not (TvD.val (EvD.call G1 hr1 (passNX nx) rfl (fl.st, 2, 4) (AvD.cons (nm 1 rfl rfl) (AvD.cons (gInt B.few rfl) (AvD.cons (gInt B.most rfl) AvD.nil))) trivial rfl))) (by rw [decide_eq_true c1.1, decide_eq_true c1.2]; rfl)) ?_
      by_cases c2 : 1 ≤ fl.ht ∧ fl.ht ≤ 6
      · refine RssD.skip (TvD.to (TvD.not (TvD.val (EvD.call G1 hr1 (passNX nx) rfl (fl.ht, 1, 6) (AvD.cons (nm 2 rfl rfl) (AvD.cons (gInt B.low rfl) (AvD.cons (gInt B.great rfl) AvD.nil))) trivial rfl))) (by rw [decide_eq_true c2.1, decide_eq_true c2.2]; rfl)) ?_
        by_cases c3 : 1 ≤ fl.lf ∧ fl.lf ≤ 3
        · refine RssD.skip (TvD.to (TvD.not (TvD.val (EvD.call G1 hr1 (passNX nx) rfl (fl.lf, 1, 3) (AvD.cons (nm 3 rfl rfl) (AvD.cons (gInt B.weak rfl) (AvD.cons (gInt B.strong rfl) AvD.nil))) trivial rfl))) (by rw [decide_eq_true c3.1, decide_eq_true c3.2]; rfl)) ?_
          refine RssD.here (RsD.ite (t := true) (TvD.to (TvD.not (TvD.val (EvD.call G2 hr (passNX nx) rfl fl.bans (AvD.cons (nm 4 rfl rfl) AvD.nil) hlen rfl))) ?_) (fun _ => RssD.here (RsD.raise er rfl EvD.str)) fun h => by cases h)
          have : (decide (fl.bans.length ≤ 20) && fl.bans.all banOk) = false := by
            cases z : (decide (fl.bans.length ≤ 20) && fl.bans.all banOk) with
            | false => rfl
            | true =>
              rw [Bool.and_eq_true, decide_eq_true_iff] at z
              exact absurd ⟨c1, c2, c3, z.1, z.2⟩ hbad
          rw [this]
          rfl
        · refine RssD.here (RsD.ite (t := true) (TvD.to (TvD.not (TvD.val (EvD.call G1 hr1 (passNX nx) rfl (fl.lf, 1, 3) (AvD.cons (nm 3 rfl rfl) (AvD.cons (gInt B.weak rfl) (AvD.cons (gInt B.strong rfl) AvD.nil))) trivial rfl))) (by simp; omega)) (fun _ => RssD.here (RsD.raise er rfl EvD.str)) fun h => by cases h)
      · refine RssD.here (RsD.ite (t := true) (TvD.to (TvD.not (TvD.val (EvD.call G1 hr1 (passNX nx) rfl (fl.ht, 1, 6) (AvD.cons (nm 2 rfl rfl) (AvD.cons (gInt B.low rfl) (AvD.cons (gInt B.great rfl) AvD.nil))) trivial rfl))) (by simp; omega)) (fun _ => RssD.here (RsD.raise er rfl EvD.str)) fun h => by cases h)
    · refine RssD.here (RsD.ite (t := true) (TvD.to (TvD.not (TvD.val (EvD.call G1 hr1 (passNX nx) rfl (fl.st, 2, 4) (AvD.cons (nm 1 rfl rfl) (AvD.cons (gInt B.few rfl) (AvD.cons (gInt B.most rfl) AvD.nil))) trivial rfl))) (by simp; omega)) (fun _ => RssD.here (RsD.raise er rfl EvD.str)) fun h => by cases h)
  exact rs M0 H [] (fun _ => 0) _ H _ R1 fun a H' sm => kk a H' sm
end
end K
set_option Elab.async false
set_option linter.all false
set_option maxRecDepth 100000
namespace K
open PySem L2 Z
abbrev sMade : Stmt := top 32
abbrev sByBans : Stmt := top 33
abbrev sNumbers : Stmt := top 34
def num0 (ns : List Int) (cell : Int) : Int := if cellAt ns 1 % 4 = 1 then cellAt ns 1 / 4 % 7 else 2 + cell % 3
def num1 (ns : List Int) (cell : Int) : Int := if cellAt ns 1 % 4 = 2 then cellAt ns 1 / 4 % 10 - 1 else 1 + cell / 3 % 6
def num2 (ns : List Int) (cell : Int) : Int := if cellAt ns 1 % 4 = 3 then cellAt ns 1 / 4 % 7 - 1 else 1 + cell / 18 % 3
def flB (f : Flr) : Bool := (decide (2 ≤ f.st ∧ f.st ≤ 4) && decide (1 ≤ f.ht ∧ f.ht ≤ 6)) && (decide (1 ≤ f.lf ∧ f.lf ≤ 3) && (decide (f.bans.length ≤ 20) && f.bans.all banOk))
theorem flB_iff {f : Flr} : flB f = true ↔ FlOk f := by
  unfold flB
  simp only [Bool.and_eq_true, decide_eq_true_iff]
  constructor
  · rintro ⟨⟨a, b⟩, c, d, e⟩
    exact ⟨a, b, c, d, e⟩
  · rintro ⟨a, b, c, d, e⟩
    exact ⟨⟨a, b⟩, c, d, e⟩
theorem mkP {X : Cx} {ρ : Rho} {e : Expr} {es : List Expr} {C : Addr} {x : Str} {ns : List Str} {pos p : Pos} {CX : CXT} {k : Nat} {ι : Type} {args : ι → List D} {pre : ι → Prop} {res : ι → List D → Prop} {i : ι} (F : MkD X.prog X.w X.K X.mg X.base CX k x C ns args pre res) (hr : Room (k + 1) X.A) (hx : Passes CX X E0) (hg : Gl X x) (ha : AvD X ρ (e :: es) (args i)) (hp : pre i) (hdb : (x == ("__debug__" : Str)) = false := by decide)
    (he : starEach (e :: es) X.env = (false, eval e X.env) :: starEach es X.env := by rfl) (hpl : (backTo pos (starEach es X.env)).any (·.1) = false := by rfl) : EvP X ρ (.Call (.Name x p) (e :: es) [] pos) (fun d => ∃ ds, d = .ins C ns ds ∧ res i ds) := EvP.make F hr hx hg i ha hp hdb he hpl
abbrev noD (i : Nat) : D := .tup [.non, .lst ((oneL i).map .bl)]
def madeD (C : Addr) (f : Flr) : D := if flB f then .tup [flD C f (srtP f.bans), .lst []] else noD 0
section
variable {P : Program} {w : World} {K : Frag} {mg : Str → Option Value} {base : Heap} {CX : CXT} {C C0 : Addr} {cl : Nat → Addr} {raised : Nat → Prop}
theorem scNumbers : FnScope ["script", "cell", "numbers"] ["script", "cell"] (defScope sNumbers) := ⟨rfl, rfl, rfl, by decide +kernel, rfl, by decide +kernel, by decide +kernel⟩
abbrev FNumbers (P : Program) (w : World) (K : Frag) (mg : Str → Option Value) (base : Heap) (CX : CXT) : Prop :=
  FnD P w K mg base CX 2 "_law_numbers" (fun i : List Int × Int => [.lst (i.1.map .int), .int i.2]) (fun _ => True) (fun i => .ok (.lst [.int (num0 i.1 i.2), .int (num1 i.1 i.2), .int (num2 i.1 i.2)]))
theorem ok_numbers {f : Addr} {fd : FuncData} (nx : NX CX) (G1 : FCell P w K mg base CX) (F : Fun K "_law_numbers" "_law_numbers" sNumbers f fd) (hm : mg "_law_numbers" = some (.ref f)) (hb : Binds K fd ["script", "cell"] []) : FNumbers P w K mg base CX := by
  refine fnD_of F scNumbers hm hb (fun i => rfl) fun cdv A outer s H E i M0 hp hr => ⟨_, rfl, ?_⟩
  obtain ⟨ns, cell⟩ := i
  have px := scNumbers.nd
  change WS _ M0 H (defBody sNumbers) [.im (.lst (ns.map .int)), .im (.int cell), .un] { N := fun _ => D.lst [.int (num0 ns cell), .int (num1 ns cell), .int (num2 ns cell)] = .non, R := fun d' => d' = .lst [.int (num0 ns cell), .int (num1 ns cell), .int (num2 ns cell)] }
  refine WS.cons (W1.setF (i := 2) px rfl (.inl rfl) (ltL rfl) (EvF.lst (AvD.cons (EvD.add EvD.int (EvD.mod (nm 1 rfl rfl) EvD.int (by decide))) (AvD.cons (EvD.add EvD.int (EvD.mod (EvD.fdiv (nm 1 rfl rfl) EvD.int ⟨by decide, by decide⟩) EvD.int (by decide))) (AvD.cons (EvD.add EvD.int (EvD.mod (EvD.fdiv (nm 1 rfl rfl) EvD.int ⟨by decide, by decide⟩) EvD.int (by decide))) AvD.nil)))) ?_)
  change WS _ M0 H _ [.im (.lst (ns.map .int)), .im (.int cell), .mu [.int (2 + cell % 3), .int (1 + cell / 3 % 6), .int (1 + cell / 18 % 3)]] _
  refine WS.cons (P := _) (W1.imp (P := { N := fun ρ' => ρ' = [.im (.lst (ns.map .int)), .im (.int cell), .mu [.int (num0 ns cell), .int (1 + cell / 3 % 6), .int (1 + cell / 18 % 3)]], R := fun _ => False }) (W1.ite (TvD.cI .eq (EvD.mod (EvD.call G1 hr (passNX nx) rfl (ns, 1) (AvD.cons (nm 0 rfl rfl) (AvD.cons EvD.int AvD.nil)) trivial rfl) EvD.int (by decide)) EvD.int)
    (fun h => WS.one (W1.setIx (i := 2) (n := 0) rfl (.inl rfl) rfl (EvD.mod (EvD.fdiv (EvD.call G1 hr (passNX nx) rfl (ns, 1) (AvD.cons (nm 0 rfl rfl) (AvD.cons EvD.int AvD.nil)) trivial rfl) EvD.int ⟨by decide, by decide⟩) EvD.int (by decide)) EvD.int rfl (show 0 < 3 by decide) ?_)) fun h => WS.nil ?_) ?_ (fun _ z => z.elim) (fun _ z => z.elim) fun _ z => z.elim)
  · rw [num0, if_pos (of_decide_eq_true h)]; rfl
  · show _ = _
    rw [num0, if_neg (of_decide_eq_false h)]
  rintro ρ' rfl
  refine WS.cons (P := _) (W1.imp (P := { N := fun ρ' => ρ' = [.im (.lst (ns.map .int)), .im (.int cell), .mu [.int (num0 ns cell), .int (num1 ns cell), .int (1 + cell / 18 % 3)]], R := fun _ => False }) (W1.ite (TvD.cI .eq (EvD.mod (EvD.call G1 hr (passNX nx) rfl (ns, 1) (AvD.cons (nm 0 rfl rfl) (AvD.cons EvD.int AvD.nil)) trivial rfl) EvD.int (by decide)) EvD.int)
    (fun h => WS.one (W1.setIx (i := 2) (n := 1) rfl (.inl rfl) rfl (EvD.sub (EvD.mod (EvD.fdiv (EvD.call G1 hr (passNX nx) rfl (ns, 1) (AvD.cons (nm 0 rfl rfl) (AvD.cons EvD.int AvD.nil)) trivial rfl) EvD.int ⟨by decide, by decide⟩) EvD.int (by decide)) EvD.int) EvD.int rfl (show 1 < 3 by decide) ?_)) fun h => WS.nil ?_) ?_ (fun _ z => z.elim) (fun _ z => z.elim) fun _ z => z.elim)
  · rw [num1, if_pos (of_decide_eq_true h)]; rfl
  · show _ = _
    rw [num1, if_neg (of_decide_eq_false h)]
  rintro ρ' rfl
  refine WS.cons (P := _) (W1.imp (P := { N := fun ρ' => ρ' = [.im (.lst (ns.map .int)), .im (.int cell), .mu [.int (num0 ns cell), .int (num1 ns cell), .int (num2 ns cell)]], R := fun _ => False }) (W1.ite (TvD.cI .eq (EvD.mod (EvD.call G1 hr (passNX nx) rfl (ns, 1) (AvD.cons (nm 0 rfl rfl) (AvD.cons EvD.int AvD.nil)) trivial rfl) EvD.int (by decide)) EvD.int)
    (fun h => WS.one (W1.setIx (i := 2) (n := 2) rfl (.inl rfl) rfl (EvD.sub (EvD.mod (EvD.fdiv (EvD.call G1 hr (passNX nx) rfl (ns, 1) (AvD.cons (nm 0 rfl rfl) (AvD.cons EvD.int AvD.nil)) trivial rfl) EvD.int ⟨by decide, by decide⟩) EvD.int (by decide)) EvD.int) EvD.int rfl (show 2 < 3 by decide) ?_)) fun h => WS.nil ?_) ?_ (fun _ z => z.elim) (fun _ z => z.elim) fun _ z => z.elim)
  · rw [num2, if_pos (of_decide_eq_true h)]; rfl
  · show _ = _
    rw [num2, if_neg (of_decide_eq_false h)]
  rintro ρ' rfl
  exact WS.freeze (i := 2) rfl (WS.one (W1.ret (nm 2 rfl rfl) rfl))
theorem scMade : FnScope ["stacks", "height", "lift", "bans", "found", "kinds", "e"] ["stacks", "height", "lift", "bans"] (defScope sMade) := ⟨rfl, rfl, rfl, by decide +kernel, rfl, by decide +kernel, by decide +kernel⟩
abbrev FMade (P : Program) (w : World) (K : Frag) (mg : Str → Option Value) (base : Heap) (C : Addr) : Prop :=
  FnD P w K mg base (CXr P w) 7 "_law_made" (fun f : Flr => [.int f.st, .int f.ht, .int f.lf, .lst (f.bans.map pD)]) (fun f => f.bans.length ≤ 100) (fun f => .ok (madeD C f))
theorem ok_made {f : Addr} {fd : FuncData} (hrs : raised 0) (hC0 : mg "CraneError" = some (.ref C0)) (hbl : Below2 (cl 0) C0 base) (GM : FMake P w K mg base (CXr P w) C) (GE : FMakeE P w K mg base C (cl 0)) (G3 : FKind P w K mg base (CXr P w) cl raised)
    (F : Fun K "_law_made" "_law_made" sMade f fd) (hm : mg "_law_made" = some (.ref f)) (hb : Binds K fd ["stacks", "height", "lift", "bans"] []) : FMade P w K mg base C := by
  have nx : NX (CXr P w) := cxr_no
  refine fnD_of F scMade hm hb (fun i => rfl) fun cdv A outer s H E fl M0 hp hr => ⟨_, rfl, ?_⟩
  have hlen : fl.bans.length ≤ 100 := hp
  have px := scMade.nd
  show WS _ M0 H (defBody sMade) [.im (.int fl.st), .im (.int fl.ht), .im (.int fl.lf), .im (.lst (fl.bans.map pD)), .un, .un, .un] { N := fun _ => madeD C fl = .non, R := fun d' => d' = madeD C fl }
  refine WS.cons (W1.set (i := 4) px rfl (.inl rfl) (ltL rfl) EvD.non ?_)
  refine WS.cons (W1.setF (i := 5) px rfl (.inl rfl) (ltL rfl) (EvF.lst AvD.nil) ?_)
  show WS _ M0 H _ [.im (.int fl.st), .im (.int fl.ht), .im (.int fl.lf), .im (.lst (fl.bans.map pD)), .im .non, .mu [], .un] _
  by_cases hg : flB fl = true
  · refine WS.cons (W1.tryOk (fun _ _ z => z) (WS.one (W1.setP (i := 4) px rfl (.inl rfl) (ltL rfl) (mkP (i := fl) GM hr (passNX nx) rfl (AvD.cons (nm 0 rfl rfl) (AvD.cons (nm 1 rfl rfl) (AvD.cons (nm 2 rfl rfl) (AvD.cons (nm 3 rfl rfl) AvD.nil)))) (flB_iff.mp hg)) ?_)))
    rintro d ⟨ds, rfl, qs, rfl, rfl⟩
    refine WS.freeze (i := 5) rfl (WS.one (W1.ret (EvD.tup (AvD.cons (nm 4 rfl rfl) (AvD.cons (nm 5 rfl rfl) AvD.nil))) ?_))
    unfold madeD
    rw [if_pos hg]
    rfl
  · refine WS.cons (W1.tryRaise (j := 6) (C := cl 0) (D0 := C0) rfl rfl rfl px rfl rfl (ltL rfl) rfl hC0 hbl (fun pn W => RttD.set (i := 4) px rfl (.inl rfl) (RtD.make (i := fl) rfl GE hr rfl (AvD.cons (nm 0 rfl rfl) (AvD.cons (nm 1 rfl rfl) (AvD.cons (nm 2 rfl rfl) (AvD.cons (nm 3 rfl rfl) AvD.nil)))) ⟨hlen, fun z => hg (flB_iff.mpr z)⟩)) fun a => WS.one (W1.set (i := 5) px rfl (.inl rfl) (ltL rfl) (EvD.callH (i := 0) G3 ⟨rfl, (hr.mono (show 1 ≤ 6 by decide)).dp, (hr.mono (show 1 ≤ 6 by decide)).un⟩ (passNX nx) rfl (AvD.cons (nm 6 rfl rfl) AvD.nil) hrs rfl) ?_))
    refine WS.one (W1.ret (EvD.tup (AvD.cons (nm 4 rfl rfl) (AvD.cons (nm 5 rfl rfl) AvD.nil))) ?_)
    unfold madeD
    rw [if_neg hg]
end
end K
set_option Elab.async false
set_option linter.all false
set_option maxRecDepth 100000
namespace Z
open PySem PySem.Spec PyProof.Rows L2
/-! ### a list of the caller that a callee changes -/
theorem hide_mono {H H1 : Hp} {l : Addr} (s : Same H H1) : Same (hideH H l) (hideH H1 l) := fun b o e => by
  unfold hideH at e ⊢
  split at e
  · cases e
  · rename_i h
    rw [if_neg h]
    exact s b o e
theorem hide_get {H : Hp} {l b : Addr} {o : HO} (h : b ≠ l) (e : H b = some o) : hideH H l b = some o := by unfold hideH; rw [if_neg h]; exact e
section
variable {K : Frag} {M0 : MP} {H0 H H' : Hp} {γ : List (D × V)} {α : Nat → Addr} {ρ : Rho} {σ : St}
theorem Rep.lost {i : Nat} {ds : List D} (r : Rep K M0 H0 γ α ρ σ H) (hi : ρ[i]? = some (.mu ds)) (s : Same (hideH H (α i)) H') : Rep K M0 H0 γ α (ρ.set i .un) σ H' := by
  obtain ⟨a1, a2, xs, a3, a4⟩ := r.mu i ds hi
  have kp : Keep (MM M0 ρ α) H H' := fun b o e n => by
    by_cases hb : b = α i
    · subst hb
      rw [a3] at e; cases e
      exact absurd (.inr ⟨i, ds, hi, rfl⟩) (n _ rfl)
    · exact s b o (hide_get hb e)
  have lm : ∀ a, MM M0 (ρ.set i .un) α a → MM M0 ρ α a := fun a z => by
    rcases z with z | ⟨j, es, e, z⟩
    · exact .inl z
    · rcases get_set e with ⟨_, q⟩ | ⟨_, q⟩
      · cases q
      · exact .inr ⟨j, es, q, z⟩
  refine ⟨fun b o e => ?_, r.old, fun j k f1 f2 e1 e2 h => ?_, fun j d e => ?_, fun j f e => ?_, fun p hp => ((r.gh p hp).keep kp).less lm, by rw [List.length_set]; exact r.len⟩
  · exact s b o (hide_get (fun z => by rw [z, a1] at e; cases e) (r.same b o e))
  · rcases get_set e1 with ⟨_, q⟩ | ⟨_, q1⟩
    · cases q
    · rcases get_set e2 with ⟨_, q⟩ | ⟨_, q2⟩
      · cases q
      · exact r.inj j k f1 f2 q1 q2 h
  · rcases get_set e with ⟨_, q⟩ | ⟨_, q⟩
    · cases q
    · obtain ⟨v, h1, h2⟩ := r.im j d q
      exact ⟨v, h1, (h2.keep kp).less lm⟩
  · rcases get_set e with ⟨_, q⟩ | ⟨n, q⟩
    · cases q
    · obtain ⟨b1, b2, ys, b3, b4⟩ := r.mu j f q
      refine ⟨b1, b2, ys, s _ _ (hide_get (fun z => n (r.inj j i f ds q hi z)) b3), (b4.keep kp).less lm⟩
end
/-- evaluation to a truth, where the list at slot i may be another one behind it -/
def EvL (X : Cx) (ρ : Rho) (i : Nat) (e : Expr) (b : Bool) : Prop := ∀ (M0 : MP) (H0 : Hp) (γ : List (D × V)) (α : Nat → Addr) (σ : St) (H : Hp) (Q : VK), Rep X.K M0 H0 γ α ρ σ H → (∀ H', Same (hideH H (α i)) H' → Q (.bl b) H') → tE X e σ H Q
def TvL (X : Cx) (ρ : Rho) (i : Nat) (e : Expr) (b : Bool) : Prop := ∀ (M0 : MP) (H0 : Hp) (γ : List (D × V)) (α : Nat → Addr) (σ : St) (H : Hp) (Q : Bool → Hp → Prop), Rep X.K M0 H0 γ α ρ σ H → (∀ H', Same (hideH H (α i)) H' → Q b H') → tT X e σ H Q
def TwL (X : Cx) (ρ : Rho) (i : Nat) (e : Expr) (b : Bool) : Prop := ∀ (M0 : MP) (H0 : Hp) (γ : List (D × V)) (α : Nat → Addr) (σ : St) (H : Hp) (Q : Bool → Hp → Prop), Rep X.K M0 H0 γ α ρ σ H → (∀ H', Same (hideH H (α i)) H' → Q b H') → tW X e σ H Q
section
variable {X : Cx} {ρ : Rho} {i : Nat} {a b e : Expr} {es : List Expr} {pos : Pos} {c c' : Bool} {M0 : MP} {H0 : Hp} {P : Post} {ds : List D} {s1 : List Stmt}
theorem TvL.val (h : EvL X ρ i e c) (he : ∀ whole, isTrue e X.env whole = (do let v ← whole; standAt e.pos; holding [v] (truthy v)) := by intro _; rfl) : TvL X ρ i e c :=
  fun M0 H0 γ α σ H Q R k => (pt_val peE he).to (h M0 H0 γ α σ H _ R fun H1 s1 => ⟨c, rfl, k H1 s1⟩)
theorem TvL.not (h : TvL X ρ i a c) : TvL X ρ i (.UnaryOp .Not a pos) (!c) := fun M0 H0 γ α σ H Q R k => (pt_not ptT).to (h M0 H0 γ α σ H _ R fun H1 s1 => k H1 s1)
end
/-- a def of three values and a list that it may change; it tells a truth -/
def lsSp (K : Frag) {ι : Type} (args : ι → List D) (last : ι → List D) (pre : ι → Prop) (res : ι → Bool) : Sp := fun vs H Q E =>
  ∃ (i : ι) (M0 : MP) (l : Addr) (xs us : List V), vs = us ++ [.ref l] ∧ H l = some (.lst xs) ∧ (∀ a, M0 a → hideH H l a ≠ none) ∧ Dns K (fun a => M0 a ∨ a = l) H (args i) us ∧ Dns K (fun a => M0 a ∨ a = l) H (last i) xs ∧ pre i ∧
    ∀ H', Same (hideH H l) H' → Q (.bl (res i)) H'
structure FnL (P : Program) (w : World) (K : Frag) (mg : Str → Option Value) (base : Heap) (CX : CXT) (k : Nat) (x : Str) {ι : Type} (args : ι → List D) (last : ι → List D) (pre : ι → Prop) (res : ι → Bool) : Prop where
  ex : ∃ (f : Addr) (fd : FuncData) (ps : List Str), FnOk P w K mg base CX k f fd ps (lsSp K args last pre res) ∧ mg x = some (.ref f) ∧ PySem.W.keepIn K (.ref f) = true ∧ Binds K fd ps []
end Z
set_option Elab.async false
set_option linter.all false
set_option maxRecDepth 100000
namespace Z
open PySem PySem.Spec PyProof.Rows
/-! ### tuple * int -/
theorem noFill_tuple_mul : fillsNumberSlot (.type "tuple") "mul" = pure false :=
  PySem.fillsNumberSlot_seq (id := "tuple.__mul__") (r := some (.builtin "tuple.__rmul__")) F.slot_tuple_mul.lookup (by decide +kernel) F.slot_tuple_rmul.lookup (by decide +kernel)
theorem repeat_tuple : seqRepeat? (.type "tuple") = pure (some (.builtin "tuple.__mul__")) := by
  unfold seqRepeat?
  rw [PySem.seqSlot_of (T := "tuple") (name := "__mul__") (id := "tuple.__mul__") F.slot_tuple_mul.lookup (by decide +kernel), PySem.seqSlot_of (T := "tuple") (name := "__rmul__") (id := "tuple.__rmul__") F.slot_tuple_rmul.lookup (by decide +kernel)]
  rfl
theorem int___rmul___int_tuple (a : Int) (t : Tok) (l : Addr) (items : Array Value) (n : Nat) (dd : Option Addr) (sl : Array (Option Value)) :
    Meets (Builtin.«int.__rmul__» ⟨[.int a t, .ref l], []⟩) (fun _ R s => s.heap.get? l = some { cls := .type "tuple", dict := dd, data := .seq items n, slots := sl } ∧ R (.ok (.ret Value.notImplemented)) s) :=
  .of_wp fun prog w A R s h => by obtain ⟨hp, g, d, tk, os⟩ := s; obtain ⟨hl, h⟩ := h; wp_walk; exact ⟨_, rfl, h⟩
theorem tuple_mulW1 (l : Addr) (items : Array Value) (n : Nat) (u : Tok) (dd : Option Addr) (sl : Array (Option Value)) :
    Meets (Builtin.«tuple.__mul__» ⟨[.ref l, .int 1 u], []⟩) (fun _ R s => s.heap.get? l = some { cls := .type "tuple", dict := dd, data := .seq items n, slots := sl } ∧ R (.ok (.ret (.ref l))) s) :=
  .of_wp fun prog w A R s h => by
    obtain ⟨hp, g, d, tk, os⟩ := s; obtain ⟨hl, h⟩ := h
    wp_walk
    exact ⟨_, rfl, h⟩
theorem tuple_mulW2 (l : Addr) (v : Value) (n : Nat) (u : Tok) (dd : Option Addr) (sl : Array (Option Value)) :
    Meets (Builtin.«tuple.__mul__» ⟨[.ref l, .int 2 u], []⟩) (fun _ R s => s.heap.get? l = some { cls := .type "tuple", dict := dd, data := .seq #[v] n, slots := sl } ∧ R (.ok (.ret (.ref s.heap.objs.size))) { s with heap := s.heap.push { cls := .type "tuple", data := .seq #[v, v] } }) :=
  .of_wp fun prog w A R s h => by
    obtain ⟨hp, g, d, tk, os⟩ := s; obtain ⟨hl, h⟩ := h
    wp_walk
    exact ⟨_, rfl, h⟩
theorem tuple_mulW3 (l : Addr) (v : Value) (n : Nat) (u : Tok) (dd : Option Addr) (sl : Array (Option Value)) :
    Meets (Builtin.«tuple.__mul__» ⟨[.ref l, .int 3 u], []⟩) (fun _ R s => s.heap.get? l = some { cls := .type "tuple", dict := dd, data := .seq #[v] n, slots := sl } ∧ R (.ok (.ret (.ref s.heap.objs.size))) { s with heap := s.heap.push { cls := .type "tuple", data := .seq #[v, v, v] } }) :=
  .of_wp fun prog w A R s h => by
    obtain ⟨hp, g, d, tk, os⟩ := s; obtain ⟨hl, h⟩ := h
    wp_walk
    exact ⟨_, rfl, h⟩
end Z
set_option Elab.async false
set_option linter.all false
set_option maxRecDepth 100000
namespace Z
open PySem PySem.Spec PyProof.Rows L2
section
variable {X : Cx} {ρ : Rho} {M0 : MP} {H0 : Hp} {P : Post} {a b e : Expr} {pos : Pos} {d : D}
theorem op_repT : OpR X (binaryOp .Mult) (fun x y H Q => ∃ a v k, x = .ref a ∧ y = .int k ∧ SqT X.K H a [v] ∧ ((k = 1 ∧ Q (.ref a) H) ∨ (k = 2 ∧ ∀ p, H p = none → Q (.ref p) (upd H p (.tup [v, v]))) ∨ (k = 3 ∧ ∀ p, H p = none → Q (.ref p) (upd H p (.tup [v, v, v]))))) := by
  intro pins s σ H x y v u Q I rx ry h
  obtain ⟨a, v0, k, rfl, rfl, ha, hk⟩ := h
  cases rx
  obtain ⟨t, rfl⟩ := ry
  obtain ⟨its, r1, p1, _⟩ := I.tuple ha
  obtain ⟨u0, rfl, ru⟩ := vals1 r1
  obtain ⟨⟨cls, dd, data, sl⟩, ho, hc, n, hd⟩ := id p1
  simp only at hc hd
  subst hc hd
  refine wpAny_binaryOp_repeat_ref (T := "tuple") (U := "int") (by decide) ⟨_, ho, rfl⟩ (fun s' => typeIs_int s' k t) noFill_tuple_mul F.fills_int_mul F.slot_int_rmul repeat_tuple F.slot_int_index.lookup
    (call_meets F.slot_int_rmul (typeIs_int s k t) F.entry_int_rmul (F.args_int_rmul_2 _ _) (int___rmul___int_tuple k t a [u0].toArray n dd sl)
      ⟨ho, rfl, ⟨_, ho, rfl⟩, ?_⟩)
  rcases hk with ⟨rfl, q⟩ | ⟨rfl, q⟩ | ⟨rfl, q⟩
  · exact call_meets F.slot_tuple_mul ⟨_, ho, rfl⟩ F.entry_tuple_mul (F.args_tuple_mul_2 _ _) (tuple_mulW1 a _ n t dd sl) ⟨ho, ⟨.ref a, H, I, rfl, q⟩⟩
  · refine call_meets F.slot_tuple_mul ⟨_, ho, rfl⟩ F.entry_tuple_mul (F.args_tuple_mul_2 _ _) (tuple_mulW2 a u0 n t dd sl) ⟨ho, ?_⟩
    refine ⟨.ref s.heap.objs.size, _, I.laid (t' := s.toks) (o := .tup [v0, v0]) (fun b ob q => Heap.get?_push_of_some _ q) (Nat.le_refl _) ?_, rfl, q _ (I.hok.fresh (Nat.le_refl _))⟩
    exact ⟨le_line (show 2 ≤ 1000000 by decide), [u0, u0], .cons ru (.cons ru .nil), IsTup.new _ _⟩
  · refine call_meets F.slot_tuple_mul ⟨_, ho, rfl⟩ F.entry_tuple_mul (F.args_tuple_mul_2 _ _) (tuple_mulW3 a u0 n t dd sl) ⟨ho, ?_⟩
    refine ⟨.ref s.heap.objs.size, _, I.laid (t' := s.toks) (o := .tup [v0, v0, v0]) (fun b ob q => Heap.get?_push_of_some _ q) (Nat.le_refl _) ?_, rfl, q _ (I.hok.fresh (Nat.le_refl _))⟩
    exact ⟨le_line (show 3 ≤ 1000000 by decide), [u0, u0, u0], .cons ru (.cons ru (.cons ru .nil)), IsTup.new _ _⟩
/-- (d,) * k, k from 1 to 3 -/
theorem EvD.repT {k : Int} (ha : EvD X ρ a (.tup [d])) (hb : EvD X ρ b (.int k)) (h1 : 1 ≤ k) (h3 : k ≤ 3) : EvD X ρ (.BinOp a .Mult b pos) (.tup (List.replicate k.toNat d)) := fun M0 H0 γ α σ H Q R kk =>
  (pe_op op_repT peE peE).to (ha M0 H0 γ α σ H _ R fun v H1 s1 d1 => hb M0 H0 γ α σ H1 _ (R.next s1) fun u H2 s2 d2 => by
    cases (show u = .int k from d2)
    obtain ⟨q, xs, rfl, sq, dn⟩ := d1.same s2
    obtain ⟨v0, r, rfl, e1, e2⟩ := dn
    cases e2
    refine ⟨q, v0, k, rfl, rfl, sq, ?_⟩
    have : k = 1 ∨ k = 2 ∨ k = 3 := by omega
    rcases this with rfl | rfl | rfl
    · exact .inl ⟨rfl, kk _ H2 (s1.trans s2) ⟨q, [v0], rfl, sq, v0, [], rfl, e1, rfl⟩⟩
    · refine .inr (.inl ⟨rfl, fun p hp => kk _ _ ((s1.trans s2).trans (same_new hp)) ?_⟩)
      have e1' := e1.same (same_new (o := .tup [v0, v0]) hp)
      exact ⟨p, [v0, v0], rfl, .inl (.inl upd_same), v0, [v0], rfl, e1', v0, [], rfl, e1', rfl⟩
    · refine .inr (.inr ⟨rfl, fun p hp => kk _ _ ((s1.trans s2).trans (same_new hp)) ?_⟩)
      have e1' := e1.same (same_new (o := .tup [v0, v0, v0]) hp)
      exact ⟨p, [v0, v0, v0], rfl, .inl (.inl upd_same), v0, [v0, v0], rfl, e1', v0, [v0], rfl, e1', v0, [], rfl, e1', rfl⟩)
/-- x.clear() -/
theorem W1.clear {i : Nat} {x : Str} {ds : List D} {p1 p2 p3 : Pos} (hi : X.N[i]? = some x) (hv : Vis X.env.scope x) (hρ : ρ[i]? = some (.mu ds)) (q : P.N (ρ.set i (.mu [])))
    (mc : MC0 X (.Name x p1) "clear" p2 p3) (hd : (x == ("__debug__" : Str)) = false := by decide) (hcd : (x == ("__classdict__" : Str)) = false := by decide) (hsw : swapsWith (.Call (.Attribute (.Name x p1) "clear" p2) [] [] p3) none pos.line X.env = pure false := by rfl) :
    W1 X M0 H0 (.Expr (.Call (.Attribute (.Name x p1) "clear" p2) [] [] p3) pos) ρ P :=
  W1.mt0 (es := []) PySem.F.plainAttrs_list PySem.F.slot_list_clear PySem.F.type_list_clear mt_clear hi hv hρ (fun M H l xs Q a b k => ⟨l, xs, rfl, rfl, a, k _ _ rfl⟩) q mc hd hcd hsw
end
end Z
set_option Elab.async false
set_option linter.all false
set_option maxRecDepth 100000
namespace K
open PySem L2 Z
/-- one stack of two crates, the others empty -/
def two (a b : Int) (m : Nat) : Rows := [a, b] :: List.replicate m []
theorem two_flat (a b : Int) (m : Nat) : (two a b m).flatten = [a, b] := by
  unfold two
  rw [List.flatten_cons]
  have : (List.replicate m ([] : List Int)).flatten = [] := by
    induction m with
    | zero => rfl
    | succ m ih => rw [List.replicate_succ, List.flatten_cons, ih]; rfl
  rw [this]
  rfl
theorem good_two {f : Flr} {a b : Int} (hab : a ≠ b) (ha : 0 ≤ a ∧ a ≤ 9) (hb : 0 ≤ b ∧ b ≤ 9) (h1 : 1 ≤ f.st) (h0 : 0 ≤ f.ht) : good f (two a b (f.st - 1).toNat) = (decide (1 < f.ht) && !decide ((b, a) ∈ f.bans)) := by
  unfold good
  rw [two_flat]
  have e1 : decide (((two a b (f.st - 1).toNat).length : Int) = f.st) = true := by
    unfold two
    rw [List.length_cons, List.length_replicate]
    exact decide_eq_true (by omega)
  have e2 : decide [a, b].Nodup = true := decide_eq_true (by simp [hab])
  rw [e1, e2, Bool.true_and, Bool.true_and]
  unfold two
  rw [List.all_cons]
  have e3 : (List.replicate (f.st - 1).toNat ([] : List Int)).all (rowOk f) = true := by
    rw [List.all_eq_true]
    intro r hr
    rw [List.eq_of_mem_replicate hr]
    unfold rowOk
    simp
    omega
  rw [e3, Bool.and_true]
  unfold rowOk okAt
  have e4 : decide ((([a, b] : List Int).length : Int) ≤ f.ht) = decide (1 < f.ht) := decide_eq_decide.mpr (by simp; omega)
  rw [e4]
  simp [List.range_succ, ha, hb]
theorem rowsD_two (a b : Int) (m : Nat) : rowsD true (two a b m) = .tup [.int a, .int b] :: List.replicate m (.tup []) := by
  unfold two rowsD
  rw [List.map_cons, List.map_replicate]
  rfl
theorem small_two (a b : Int) {m : Nat} (h : m ≤ 3) : Small (two a b m) := ⟨by rw [two_flat]; exact (show 2 ≤ 1000 by decide), by unfold two; rw [List.length_cons, List.length_replicate]; omega⟩
theorem eqv_bl (a b : Bool) : D.eqv (.bl a) (.bl b) = decide (a = b) := by cases a <;> cases b <;> rfl
theorem cut_first (bs : Bans) : cutD (bs.map pD) none (some 1) = (bs.take 1).map pD := by
  cases bs with
  | nil => rfl
  | cons b bs =>
    have := cut_hi (ds := (b :: bs).map pD) (k := 1) (by rw [List.length_map, List.length_cons]; omega)
    rw [List.map_take]
    exact this
theorem banOk_iff {p : Int × Int} : banOk p = true ↔ (0 ≤ p.1 ∧ p.1 ≤ 9) ∧ (0 ≤ p.2 ∧ p.2 ≤ 9) ∧ p.1 ≠ p.2 := by
  unfold banOk crateOk
  simp
section
variable {P : Program} {w : World} {K : Frag} {mg : Str → Option Value} {base : Heap} {CX : CXT} {C : Addr}
theorem scByBans : FnScope ["floor", "numbers", "bans", "handed", "rest", "pair"] ["floor", "numbers", "bans", "handed"] (defScope sByBans) := ⟨rfl, rfl, rfl, by decide +kernel, rfl, by decide +kernel, by decide +kernel⟩
abbrev numsD (f : Flr) : D := .lst [.int f.st, .int f.ht, .int f.lf]
abbrev FByBans (P : Program) (w : World) (K : Frag) (mg : Str → Option Value) (base : Heap) (CX : CXT) (C : Addr) : Prop :=
  FnL P w K mg base CX 5 "_law_by_bans" (fun i : Flr × Bans => [flD C i.1 i.2, numsD i.1, .lst (i.1.bans.map pD)]) (fun i => i.1.bans.map pD) (fun i => Stands i.1 i.2) (fun _ => true)
theorem ok_byBans {f : Addr} {fd : FuncData} (nx : NX CX) (B : Bm mg) (G : FIsGood P w K mg base CX C) (F : Fun K "_law_by_bans" "_law_by_bans" sByBans f fd) (hm : mg "_law_by_bans" = some (.ref f)) (hb : Binds K fd ["floor", "numbers", "bans", "handed"] []) : FByBans P w K mg base CX C := by
  refine ⟨f, fd, _, ?_, hm, F.kp, hb⟩
  obtain ⟨oc, od, kV, doc, pm, an, cdv, ct, osl, rfl, lk, hcd⟩ := F.ex
  refine fn_of lk hcd scByBans (fun vs H Q E ⟨i, M0, l, xs, us, e, _, _, h, _⟩ => by subst e; rw [List.length_append, h.len]; rfl) fun A outer s H vs Q E hr hsp => ?_
  obtain ⟨⟨fl, qs⟩, M0, l, xs, us, rfl, hl, hM, dn, dx, hS, kk⟩ := hsp
  obtain ⟨u0, r0, rfl, e0, u1, r1, rfl, e1, u2, r2, rfl, e2, e3⟩ := dn
  cases e3
  refine ⟨tSs _ (defBody sByBans), (psSs (X := (cxOf CX P w K mg base ["floor", "numbers", "bans", "handed", "rest", "pair"] "_law_by_bans" (defScope sByBans) f cdv A outer s H E).nox)).nox, ?_⟩
  have lm : ∀ a, MM M0 [.im (flD C fl qs), .im (numsD fl), .im (.lst (fl.bans.map pD)), .mu (fl.bans.map pD), .un, .un] (fun _ => l) a → (M0 a ∨ a = l) := fun a z => by
    rcases z with z | ⟨j, es, e, z⟩
    · exact .inl z
    · exact .inr z.symm
  have only : ∀ (i : Nat) (ds : List D), ([.im (flD C fl qs), .im (numsD fl), .im (.lst (fl.bans.map pD)), .mu (fl.bans.map pD), .un, .un] : Rho)[i]? = some (.mu ds) → i = 3 ∧ ds = fl.bans.map pD := fun i ds e => by
    have hi : i < 6 := (List.getElem?_eq_some_iff.mp e).1
    match i, hi with
    | 0, _ => cases e
    | 1, _ => cases e
    | 2, _ => cases e
    | 3, _ => exact ⟨rfl, by cases e; rfl⟩
    | 4, _ => cases e
    | 5, _ => cases e
  have R : Rep K M0 (hideH H l) [] (fun _ => l) [.im (flD C fl qs), .im (numsD fl), .im (.lst (fl.bans.map pD)), .mu (fl.bans.map pD), .un, .un] (L2.start ["floor", "numbers", "bans", "handed", "rest", "pair"] ([u0, u1, u2] ++ [.ref l])) H := by
    refine ⟨hide_same, hM, fun i j ds es a b _ => (only i ds a).1.trans (only j es b).1.symm, fun i d e => ?_, fun i ds e => ?_, (fun p hp => by cases hp), rfl⟩
    · have hi : i < 6 := (List.getElem?_eq_some_iff.mp e).1
      match i, hi with
      | 0, _ => cases e; exact ⟨u0, rfl, e0.less lm⟩
      | 1, _ => cases e; exact ⟨u1, rfl, e1.less lm⟩
      | 2, _ => cases e; exact ⟨u2, rfl, e2.less lm⟩
      | 3, _ => cases e
      | 4, _ => cases e
      | 5, _ => cases e
    · obtain ⟨rfl, rfl⟩ := only i ds e
      exact ⟨hide_at, rfl, xs, hl, dx.less lm⟩
  have ws : WS (cxOf CX P w K mg base ["floor", "numbers", "bans", "handed", "rest", "pair"] "_law_by_bans" (defScope sByBans) f cdv A outer s H E).nox M0 (hideH H l) (defBody sByBans) [.im (flD C fl qs), .im (numsD fl), .im (.lst (fl.bans.map pD)), .mu (fl.bans.map pD), .un, .un] { N := fun _ => False, R := fun d' => d' = .bl true } := by
    have px := scByBans.nd
    have hS : Stands fl qs := hS
    have st : 2 ≤ fl.st ∧ fl.st ≤ 4 := hS.ok.st
    have ht : 1 ≤ fl.ht ∧ fl.ht ≤ 6 := hS.ok.ht
    have few : fl.bans.length ≤ 20 := hS.ok.few
    have hu := hu65 hr
    have hu4 := Nat.lt_of_succ_lt hu
    have call2 : ∀ (a b : Int), [D.tup [.int a, .int b]] ++ List.replicate (fl.st - 1).toNat (D.tup []) = rowsD true (two a b (fl.st - 1).toNat) := fun a b => (rowsD_two a b _).symm
    refine WS.cons (W1.append (i := 3) rfl (.inl rfl) rfl (EvD.tup (AvD.cons EvD.int (AvD.cons EvD.int AvD.nil))) (by rw [List.length_map]; omega) ?_ ⟨rfl, rfl, rfl, rfl⟩)
    refine WS.cons (W1.set (i := 4) px rfl (.inl rfl) (ltL rfl) (EvD.repT (EvD.tup (AvD.cons (EvD.tup AvD.nil) AvD.nil)) (EvD.sub (EvD.ixL (EvD.r (nm 1 rfl rfl)) EvD.int rfl) EvD.int) (by omega) (by omega)) ?_)
    refine WS.cons (W1.ite (TvD.ne hu4 (EvD.r (EvD.call G hr (passNX nx) rfl (fl, qs, two 5 4 (fl.st - 1).toNat) (AvD.cons (nm 0 rfl rfl) (AvD.cons (EvD.to (EvD.catT (EvD.tup (AvD.cons (EvD.tup (AvD.cons EvD.int (AvD.cons EvD.int AvD.nil))) AvD.nil)) (nm 4 rfl rfl) (by rw [List.length_replicate]; show 1 + _ ≤ _; omega)) (by rw [call2])) AvD.nil)) ⟨hS, small_two 5 4 (by omega)⟩ rfl)) (EvD.r (EvD.and (EvD.cI .gt (EvD.ixL (EvD.r (nm 1 rfl rfl)) EvD.int rfl) EvD.int) fun _ => EvD.one (EvD.notInL hu (EvD.r (EvD.tup (AvD.cons EvD.int (AvD.cons EvD.int AvD.nil)))) (EvD.r (nm 2 rfl rfl)) (flat_pD 59 (4, 5)) flat_pDs))) trivial trivial) (fun h => ?_) fun h => WS.nil ?_)
    · have h' : (!D.eqv (.bl (good fl (two 5 4 (fl.st - 1).toNat))) (.bl (decide (1 < fl.ht) && !inD (pD (4, 5)) (fl.bans.map pD)))) = true := h
      rw [eqv_bl, good_two (by decide) (by decide) (by decide) (by omega) (by omega), inD_pairs] at h'
      simp at h'
    refine WS.cons (W1.clear (i := 3) rfl (.inl rfl) rfl ?_ ⟨rfl, rfl⟩)
    refine WS.cons (W1.for (ds := (fl.bans.take 1).map pD) (fun i ρ => ∃ a, ρ = [.im (flD C fl qs), .im (numsD fl), .im (.lst (fl.bans.map pD)), .mu [], .im (.tup (List.replicate (fl.st - 1).toNat (.tup []))), a]) PassesOwn.never rfl (IvD.to (IvD.list (EvF.toD (EvF.cutL (EvD.r (nm 2 rfl rfl)) OvD.none (OvD.some EvD.int)))) (cut_first fl.bans)) ⟨_, rfl⟩ ?_ ?_)
    · rintro i d ρ hd ⟨a, rfl⟩
      obtain ⟨p, hp, rfl⟩ : ∃ p ∈ fl.bans, d = pD p := by
        obtain ⟨p, hp, e⟩ := List.mem_map.mp (List.mem_of_getElem? hd)
        exact ⟨p, List.mem_of_mem_take hp, e.symm⟩
      obtain ⟨a1, a2, a3⟩ := banOk_iff.mp (List.all_eq_true.mp hS.ok.ok p hp)
      refine ⟨_, GvD.name (i := 5) px rfl (.inl rfl) (ltL rfl), ?_⟩
      refine WS.one (W1.ite (TvD.notB (EvD.call G hr (passNX nx) rfl (fl, qs, two p.2 p.1 (fl.st - 1).toNat) (AvD.cons (nm 0 rfl rfl) (AvD.cons (EvD.to (EvD.catT (EvD.tup (AvD.cons (EvD.tup (AvD.cons (EvD.ixT (nm 5 rfl rfl) EvD.int rfl) (AvD.cons (EvD.ixT (nm 5 rfl rfl) EvD.int rfl) AvD.nil))) AvD.nil)) (nm 4 rfl rfl) (by rw [List.length_replicate]; show 1 + _ ≤ _; omega)) (by rw [call2])) AvD.nil)) ⟨hS, small_two p.2 p.1 (by omega)⟩ rfl)) (fun h => ?_) fun h => WS.nil ⟨_, rfl⟩)
      have h' : (good fl (two p.2 p.1 (fl.st - 1).toNat) != false) = true := h
      rw [good_two (fun z => a3 z.symm) a2 a1 (by omega) (by omega), decide_eq_true hp] at h'
      simp at h'
    · rintro ρ ⟨a, rfl⟩
      exact WS.one (W1.ret EvD.bl rfl)
  refine tSs.mono (En := ends K M0 (hideH H l) [] { N := fun _ => False, R := fun d' => d' = .bl true }) (fun σ' H' ⟨_, _, _, e⟩ => e.elim) (fun v H' ⟨d', e, sm, dn⟩ => by subst e; cases (show v = .bl true from dn); exact kk H' sm) (fun _ _ ⟨_, _, _, z⟩ => z.elim) (fun _ _ ⟨_, _, _, z⟩ => z.elim) (ws [] (fun _ => l) _ H R)
end
end K
set_option Elab.async false
set_option linter.all false
set_option maxRecDepth 100000
namespace Z
open PySem PySem.Spec PyProof.Rows L2
section
variable {X : Cx} {ρ : Rho} {e0 e1 e2 : Expr} {d0 d1 d2 : D} {x y : Str} {pos p q : Pos} {CX : CXT} {k j : Nat} {ι : Type} {args : ι → List D} {last : ι → List D} {pre : ι → Prop} {res : ι → Bool}
theorem EvL.call4 {i : ι} (F : FnL X.prog X.w X.K X.mg X.base CX k x args last pre res) (hr : Room k X.A) (hx : Passes CX X E0) (hg : Gl X x) (hj : X.N[j]? = some y) (hv : Vis X.env.scope y) (hρ : ρ[j]? = some (.mu (last i))) (h0 : EvD X ρ e0 d0) (h1 : EvD X ρ e1 d1) (h2 : EvD X ρ e2 d2) (ha : args i = [d0, d1, d2]) (hp : pre i)
    (hdb : (x == ("__debug__" : Str)) = false := by decide) (hd : (y == ("__debug__" : Str)) = false := by decide) (hcd : (y == ("__classdict__" : Str)) = false := by decide)
    (s1 : starEach [e0, e1, e2, .Name y q] X.env = (false, eval e0 X.env) :: starEach [e1, e2, .Name y q] X.env := by rfl) (s2 : starEach [e1, e2, .Name y q] X.env = (false, eval e1 X.env) :: starEach [e2, .Name y q] X.env := by rfl) (s3 : starEach [e2, .Name y q] X.env = (false, eval e2 X.env) :: starEach [.Name y q] X.env := by rfl) (s4 : starEach [.Name y q] X.env = (false, eval (.Name y q) X.env) :: starEach [] X.env := by rfl)
    (hpl : (backTo pos (starEach [e1, e2, .Name y q] X.env)).any (·.1) = false := by rfl) : EvL X ρ j (.Call (.Name x p) [e0, e1, e2, .Name y q] [] pos) (res i) := fun M0 H0 γ α σ H Q R kk => by
  obtain ⟨f, fd, ps, F, hm, hk, hb⟩ := F.ex
  obtain ⟨a1, a2, xs, a3, a4⟩ := R.mu j _ hρ
  refine (pe_call F hr hg hm hk hb .nil hx (pa_cons peE (pa_cons peE (pa_cons peE (pa_cons (pe_var hj hv hd hcd) pa_nil s4) s3) s2) s1) hdb s1 hpl).to (h0 M0 H0 γ α σ H _ R fun v0 H1 t1 dn0 => h1 M0 H0 γ α σ H1 _ (R.next t1) fun v1 H2 t2 dn1 => h2 M0 H0 γ α σ H2 _ ((R.next t1).next t2) fun v2 H3 t3 dn2 => ⟨_, a2, ?_⟩)
  have t : Same H H3 := (t1.trans t2).trans t3
  have ml : MM M0 ρ α (α j) := .inr ⟨j, _, hρ, rfl⟩
  have lm : ∀ a, ((MM M0 ρ α a ∧ a ≠ α j) ∨ a = α j) → MM M0 ρ α a := fun a z => by
    rcases z with z | rfl
    · exact z.1
    · exact ml
  show lsSp X.K args last pre res ([v0, v1, v2, .ref (α j)] ++ []) H3 Q E0
  rw [List.append_nil]
  refine ⟨i, fun a => MM M0 ρ α a ∧ a ≠ α j, α j, xs, [v0, v1, v2], rfl, t _ _ a3, fun a ⟨z, n⟩ w => ?_, ?_, (a4.same t).less lm, hp, fun H' s' => kk H' ((hide_mono t).trans s')⟩
  · refine mm_there R t a z ?_
    unfold hideH at w
    rw [if_neg n] at w
    exact w
  · rw [ha]
    exact ⟨v0, _, rfl, ((dn0.same t2).same t3).less lm, v1, _, rfl, (dn1.same t3).less lm, v2, _, rfl, dn2.less lm, rfl⟩
end
end Z
set_option Elab.async false
set_option linter.all false
set_option maxRecDepth 100000
namespace Z
open PySem PySem.Spec PyProof.Rows L2
section
variable {X : Cx} {ρ : Rho} {e : Expr} {es : List Expr} {C CE : Addr} {x : Str} {ns : List Str} {pos p : Pos} {CX : CXT} {k : Nat} {ι : Type} {args : ι → List D} {pre bad : ι → Prop} {res : ι → List D → Prop} {pn : List (Addr × Obj)} {W : Addr → St → Hp → Prop}
end
/-- a def of some values and a list; the answer's lists are others -/
def lkSp (K : Frag) {ι : Type} (args : ι → List D) (last : ι → List D) (pre : ι → Prop) (res : ι → D) : Sp := fun vs H Q E =>
  ∃ (i : ι) (M0 : MP) (l : Addr) (xs us : List V), vs = us ++ [.ref l] ∧ H l = some (.lst xs) ∧ (∀ a, M0 a → hideH H l a ≠ none) ∧ Dns K (fun a => M0 a ∨ a = l) H (args i) us ∧ Dns K (fun a => M0 a ∨ a = l) H (last i) xs ∧ pre i ∧
    ∀ v H', Same H H' → Dn K (fun a => M0 a ∨ a = l) H' (res i) v → Q v H'
structure FnK (P : Program) (w : World) (K : Frag) (mg : Str → Option Value) (base : Heap) (CX : CXT) (k : Nat) (x : Str) {ι : Type} (args : ι → List D) (last : ι → List D) (pre : ι → Prop) (res : ι → D) : Prop where
  ex : ∃ (f : Addr) (fd : FuncData) (ps : List Str), FnOk P w K mg base CX k f fd ps (lkSp K args last pre res) ∧ mg x = some (.ref f) ∧ PySem.W.keepIn K (.ref f) = true ∧ Binds K fd ps []
section
variable {X : Cx} {ρ : Rho} {e0 e1 e2 : Expr} {d0 d1 d2 : D} {x y : Str} {pos p q : Pos} {CX : CXT} {k j : Nat} {ι : Type} {args : ι → List D} {last : ι → List D} {pre : ι → Prop} {res : ι → D}
end
end Z
set_option Elab.async false
set_option linter.all false
set_option maxRecDepth 100000
namespace K
open PySem L2 Z
abbrev sLaw : Stmt := top 35
/-- how many bans are drawn -/
def manyOf (cell : Int) : Int := if cell / 5 % 2 = 0 then cell / 54 % 5 else cell / 54 % 23
theorem many_bd (cell : Int) : 0 ≤ manyOf cell ∧ manyOf cell ≤ 22 := by
  unfold manyOf
  split <;> omega
def banAt (ns : List Int) (k : Nat) : Int × Int := (cellAt ns (3 + k) % 10, (cellAt ns (3 + k) + 1 + cellAt ns (3 + k) / 10 % 9) % 10)
def bansOf (ns : List Int) (n : Nat) : Bans := (List.range n).map (banAt ns)
theorem bansOf_succ (ns : List Int) (n : Nat) : bansOf ns (n + 1) = bansOf ns n ++ [banAt ns n] := by
  unfold bansOf
  rw [List.range_succ, List.map_append]
  rfl
theorem bansOf_len (ns : List Int) (n : Nat) : (bansOf ns n).length = n := by unfold bansOf; rw [List.length_map, List.length_range]
def spoils : Bans := [(3, 3), (-1, 2), (2, 10), (10, 2), (2, -1)]
theorem many_at (cell : Int) : atI [D.int (cell / 54 % 5), D.int (cell / 54 % 23)] (cell / 5 % 2) = some (.int (manyOf cell)) := by
  have h : cell / 5 % 2 = 0 ∨ cell / 5 % 2 = 1 := by omega
  unfold manyOf
  rcases h with h | h <;> rw [h] <;> rfl
theorem eqv_nilP (bs : Bans) : D.eqv (.lst (bs.map pD)) (.lst []) = decide (bs = []) := by cases bs <;> rfl
/-- what is wrong with a pair -/
def badP (p : Int × Int) : Bool := !banOk p
section
variable {P : Program} {w : World} {K : Frag} {mg : Str → Option Value} {base : Heap} {C : Addr}
abbrev lawN : List Str := ["script", "cell", "numbers", "bans", "k", "pair", "at", "wrong", "one", "other", "handed", "made", "floor", "due", "found", "told"]
theorem scLaw : FnScope lawN ["script"] (defScope sLaw) := ⟨rfl, rfl, rfl, by decide +kernel, rfl, by decide +kernel, by decide +kernel⟩
set_option maxHeartbeats 8000000 in
theorem law_head {f : Addr} {fd : FuncData} (B : Bm mg) (G1 : FCell P w K mg base (CXr P w)) (G2 : FNumbers P w K mg base (CXr P w))
    (rest : ∀ (cdv : Value) (A : Around) (outer : List Env) (s : Shared) (H : Hp) (E : XK) (M0 : MP) (ns : List Int) (cell n0 n1 n2 : Int) (a b sl : Sl) (bs : Bans), Room 7 (A.deeper (PyProof.Rows.envOfC "law" (defScope sLaw) s.heap.objs.size f cdv)) → bs.length ≤ 22 →
      WS (cxOf (CXr P w) P w K mg base lawN "law" (defScope sLaw) f cdv A outer s H E).nox M0 H ((defBody sLaw).drop 5) [.im (.lst (ns.map .int)), .im (.int cell), .im (.lst [.int n0, .int n1, .int n2]), .mu (bs.map pD), a, b, sl, .un, .un, .un, .un, .un, .un, .un, .un, .un] { N := fun _ => D.bl true = .non, R := fun d' => d' = .bl true })
    (F : Fun K "law" "law" sLaw f fd) : FnOk P w K mg base (CXr P w) 8 f fd ["script"] (spLaw K) := by
  have nx : NX (CXr P w) := cxr_no
  refine fnOk_of F scLaw (fun i => rfl) fun cdv A outer s H E ns M0 hp hr => ⟨_, rfl, ?_⟩
  have hns : ns.length ≤ 63 := hp
  have px := scLaw.nd
  have hr1 : Room 1 _ := hr.mono (by decide)
  have hr2 : Room 2 _ := hr.mono (by decide)
  have hu := hu65 hr
  have hu4 := Nat.lt_of_succ_lt hu
  change WS _ M0 H (defBody sLaw) [.im (.lst (ns.map .int)), .un, .un, .un, .un, .un, .un, .un, .un, .un, .un, .un, .un, .un, .un, .un] { N := fun _ => D.bl true = .non, R := fun d' => d' = .bl true }
  refine WS.cons (W1.set (i := 1) px rfl (.inl rfl) (ltL rfl) (EvD.call G1 hr1 (passNX nx) rfl (ns, 0) (AvD.cons (nm 0 rfl rfl) (AvD.cons EvD.int AvD.nil)) trivial rfl) ?_)
  generalize cellAt ns 0 = cell
  refine WS.cons (W1.set (i := 2) px rfl (.inl rfl) (ltL rfl) (EvD.call G2 hr2 (passNX nx) rfl (ns, cell) (AvD.cons (nm 0 rfl rfl) (AvD.cons (nm 1 rfl rfl) AvD.nil)) trivial rfl) ?_)
  generalize num0 ns cell = n0
  generalize num1 ns cell = n1
  generalize num2 ns cell = n2
  refine WS.cons (W1.setF (i := 3) px rfl (.inl rfl) (ltL rfl) (EvF.lst AvD.nil) ?_)
  have mb := many_bd cell
  refine WS.cons (W1.for (ds := rngD 0 (manyOf cell).toNat) (fun i ρ => ∃ a b, ρ = [.im (.lst (ns.map .int)), .im (.int cell), .im (.lst [.int n0, .int n1, .int n2]), .mu ((bansOf ns i).map pD), a, b, .un, .un, .un, .un, .un, .un, .un, .un, .un, .un]) PassesOwn.never rfl
    (IvD.range rfl B.range (EvD.ixL (EvD.r (EvF.toD (EvF.lst (AvD.cons (EvD.mod (EvD.fdiv (nm 1 rfl rfl) EvD.int ⟨by decide, by decide⟩) EvD.int (by decide)) (AvD.cons (EvD.mod (EvD.fdiv (nm 1 rfl rfl) EvD.int ⟨by decide, by decide⟩) EvD.int (by decide)) AvD.nil))))) (EvD.mod (EvD.fdiv (nm 1 rfl rfl) EvD.int ⟨by decide, by decide⟩) EvD.int (by decide)) (many_at cell)) (by omega)) ⟨_, _, rfl⟩ ?_ ?_)
  · rintro i d ρ hd ⟨a, b, rfl⟩
    obtain ⟨rfl, hi⟩ := rngD_get hd
    have hl := bansOf_len ns i
    refine ⟨_, GvD.name (i := 4) px rfl (.inl rfl) (ltL rfl), ?_⟩
    refine WS.cons (W1.set (i := 5) px rfl (.inl rfl) (ltL rfl) (EvD.call G1 hr1 (passNX nx) rfl (ns, 3 + i) (AvD.cons (nm 0 rfl rfl) (AvD.cons (EvD.to (EvD.add EvD.int (nm 4 rfl rfl)) (by congr 1; omega)) AvD.nil)) trivial rfl) ?_)
    refine WS.one (W1.append (i := 3) rfl (.inl rfl) rfl (EvD.tup (AvD.cons (EvD.mod (nm 5 rfl rfl) EvD.int (by decide)) (AvD.cons (EvD.mod (EvD.add (EvD.add (nm 5 rfl rfl) EvD.int) (EvD.mod (EvD.fdiv (nm 5 rfl rfl) EvD.int ⟨by decide, by decide⟩) EvD.int (by decide))) EvD.int (by decide)) AvD.nil))) (by rw [List.length_map]; omega) ?_ ⟨rfl, rfl, rfl, rfl⟩)
    dsimp only
    rw [bansOf_succ, List.map_append (l₂ := [banAt ns i])]
    exact ⟨_, _, rfl⟩
  rintro ρ ⟨a, b, rfl⟩
  rw [rngD_len]
  have hl := bansOf_len ns (manyOf cell).toNat
  have spoil : ∀ z : Int, 0 ≤ z → z < 5 → ∃ q, atI [pD (3, 3), pD (-1, 2), pD (2, 10), pD (10, 2), pD (2, -1)] z = some (pD q) := fun z h0 h5 => by
    have : z = 0 ∨ z = 1 ∨ z = 2 ∨ z = 3 ∨ z = 4 := by omega
    rcases this with rfl | rfl | rfl | rfl | rfl
    · exact ⟨(3, 3), rfl⟩
    · exact ⟨(-1, 2), rfl⟩
    · exact ⟨(2, 10), rfl⟩
    · exact ⟨(10, 2), rfl⟩
    · exact ⟨(2, -1), rfl⟩
  generalize hbs : bansOf ns (manyOf cell).toNat = bs0 at hl
  refine WS.cons (P := _) (W1.imp (P := { N := fun ρ' => ∃ (bs : Bans) (sl : Sl), bs.length ≤ 22 ∧ ρ' = [.im (.lst (ns.map .int)), .im (.int cell), .im (.lst [.int n0, .int n1, .int n2]), .mu (bs.map pD), a, b, sl, .un, .un, .un, .un, .un, .un, .un, .un, .un], R := fun _ => False })
    (W1.ite (TwD.t (TwD.and (TvD.ne hu4 (nmR 3 rfl rfl) (EvD.r (EvF.toD (EvF.lst AvD.nil))) (flat_pDs (n := 58)) (fun _ h => by cases h)) fun _ => TwD.and1 (TvD.cI .eq (EvD.mod (EvD.call G1 hr1 (passNX nx) rfl (ns, 2) (AvD.cons (nm 0 rfl rfl) (AvD.cons EvD.int AvD.nil)) trivial rfl) EvD.int (by decide)) EvD.int))) (fun h => ?_) fun h => WS.nil ⟨bs0, _, by omega, rfl⟩) ?_ (fun _ z => z.elim) (fun _ z => z.elim) fun _ z => z.elim)
  · rw [eqv_nilP, Bool.and_eq_true] at h
    have hne : bs0 ≠ [] := by simpa using h.1
    have hpos : 0 < bs0.length := List.length_pos_iff.mpr hne
    have i0 : 0 ≤ cellAt ns 2 / 4 % (bs0.length : Int) := Int.emod_nonneg _ (by omega)
    have i1 : cellAt ns 2 / 4 % (bs0.length : Int) < bs0.length := Int.emod_lt_of_pos _ (by omega)
    refine WS.cons (W1.set (i := 6) px rfl (.inl rfl) (ltL rfl) (EvD.to (EvD.mod (EvD.fdiv (EvD.call G1 hr1 (passNX nx) rfl (ns, 2) (AvD.cons (nm 0 rfl rfl) (AvD.cons EvD.int AvD.nil)) trivial rfl) EvD.int ⟨by decide, by decide⟩) (EvD.lenL rfl B.len (nmR 3 rfl rfl)) (by rw [List.length_map]; omega)) (d' := .int (cellAt ns 2 / 4 % (bs0.length : Int))) (by rw [List.length_map])) ?_)
    obtain ⟨q, hq⟩ := spoil (cellAt ns 2 / 100 % 5) (Int.emod_nonneg _ (by decide)) (Int.emod_lt_of_pos _ (by decide))
    refine WS.one (W1.setIx (i := 3) (n := (cellAt ns 2 / 4 % (bs0.length : Int)).toNat) rfl (.inl rfl) rfl (EvD.ixL (EvD.r (EvF.toD (EvF.lst (AvD.cons (EvD.tup (AvD.cons EvD.int (AvD.cons EvD.int AvD.nil))) (AvD.cons (EvD.tup (AvD.cons (EvD.neg EvD.int) (AvD.cons EvD.int AvD.nil))) (AvD.cons (EvD.tup (AvD.cons EvD.int (AvD.cons EvD.int AvD.nil))) (AvD.cons (EvD.tup (AvD.cons EvD.int (AvD.cons EvD.int AvD.nil))) (AvD.cons (EvD.tup (AvD.cons EvD.int (AvD.cons (EvD.neg EvD.int) AvD.nil))) AvD.nil)))))))) (EvD.mod (EvD.fdiv (EvD.call G1 hr1 (passNX nx) rfl (ns, 2) (AvD.cons (nm 0 rfl rfl) (AvD.cons EvD.int AvD.nil)) trivial rfl) EvD.int ⟨by decide, by decide⟩) EvD.int (by decide)) hq) (nm 6 rfl rfl) (by omega) (by rw [List.length_map]; omega) ?_)
    refine ⟨bs0.set (cellAt ns 2 / 4 % (bs0.length : Int)).toNat q, .im (.int (cellAt ns 2 / 4 % (bs0.length : Int))), by rw [List.length_set]; omega, ?_⟩
    rw [List.map_set]
    rfl
  rintro ρ' ⟨bs, sl, hlen, rfl⟩
  exact rest cdv A outer s H E M0 ns cell n0 n1 n2 a b sl bs hr hlen
end
end K
set_option Elab.async false
set_option linter.all false
set_option maxRecDepth 100000
namespace K
open PySem L2 Z
theorem maxI {X : Cx} {ρ : Rho} {a b : Expr} {p pos : Pos} {i j : Int} (hc : X.calm = true) (hg : Gl X "max") (hm : X.mg "max" = none) (ha : EvD X ρ a (.int i)) (hb : EvD X ρ b (.int j))
    (he : starEach [a, b] X.env = (false, eval a X.env) :: starEach [b] X.env := by rfl) (he2 : starEach [b] X.env = [(false, eval b X.env)] := by rfl) (hpl : (backTo pos (starEach [b] X.env)).any (·.1) = false := by rfl) : EvD X ρ (.Call (.Name "max" p) [a, b] [] pos) (.int (if i < j then j else i)) :=
  EvD.max hc hg hm (by decide +kernel) ha hb he he2 hpl
def wrong0 (n0 n1 n2 : Int) (bs : Bans) : Bool := !(decide (2 ≤ n0) && decide (n0 ≤ 4)) || (!(decide (1 ≤ n1) && decide (n1 ≤ 6)) || (!(decide (1 ≤ n2) && decide (n2 ≤ 3)) || decide (20 < (bs.length : Int))))
theorem badP_iff (p : Int × Int) : ((decide (p.1 = p.2) || (decide ((if p.2 < p.1 then p.2 else p.1) < 0) || decide (9 < (if p.1 < p.2 then p.2 else p.1))))) = !banOk p := by
  cases h : banOk p with
  | true =>
    obtain ⟨a, b, c⟩ := banOk_iff.mp h
    rw [decide_eq_false c, decide_eq_false (by split <;> omega), decide_eq_false (by split <;> omega)]
    rfl
  | false =>
    by_cases c : p.1 = p.2
    · rw [decide_eq_true c]
      rfl
    · have nb : ¬ ((0 ≤ p.1 ∧ p.1 ≤ 9) ∧ (0 ≤ p.2 ∧ p.2 ≤ 9) ∧ p.1 ≠ p.2) := fun z => by
        rw [banOk_iff.mpr z] at h
        cases h
      have nb' : ¬ ((0 ≤ p.1 ∧ p.1 ≤ 9) ∧ (0 ≤ p.2 ∧ p.2 ≤ 9)) := fun z => nb ⟨z.1, z.2, c⟩
      rw [decide_eq_false c, Bool.false_or]
      show (_ || _) = true
      rw [Bool.or_eq_true, decide_eq_true_iff, decide_eq_true_iff]
      split <;> split <;> omega
theorem wrong_iff (n0 n1 n2 : Int) (bs : Bans) : (wrong0 n0 n1 n2 bs || bs.any fun p => !banOk p) = !flB ⟨n0, n1, n2, bs⟩ := by
  have e : (bs.any fun p => !banOk p) = !bs.all banOk := by
    induction bs with
    | nil => rfl
    | cons b bs ih => rw [List.any_cons, List.all_cons, ih, Bool.not_and]
  rw [e]
  unfold wrong0 flB
  have d1 : decide (2 ≤ n0 ∧ n0 ≤ 4) = (decide (2 ≤ n0) && decide (n0 ≤ 4)) := by simp
  have d2 : decide (1 ≤ n1 ∧ n1 ≤ 6) = (decide (1 ≤ n1) && decide (n1 ≤ 6)) := by simp
  have d3 : decide (1 ≤ n2 ∧ n2 ≤ 3) = (decide (1 ≤ n2) && decide (n2 ≤ 3)) := by simp
  have d4 : decide (20 < (bs.length : Int)) = !decide (bs.length ≤ 20) := by
    rw [← decide_not]
    exact decide_eq_decide.mpr (by omega)
  dsimp only
  rw [d1, d2, d3, d4]
  generalize (decide (2 ≤ n0) && decide (n0 ≤ 4)) = x1
  generalize (decide (1 ≤ n1) && decide (n1 ≤ 6)) = x2
  generalize (decide (1 ≤ n2) && decide (n2 ≤ 3)) = x3
  generalize decide (bs.length ≤ 20) = x4
  generalize bs.all banOk = x5
  cases x1 <;> cases x2 <;> cases x3 <;> cases x4 <;> cases x5 <;> rfl
section
variable {P : Program} {w : World} {K : Frag} {mg : Str → Option Value} {base : Heap} {C : Addr}
set_option maxHeartbeats 8000000 in
theorem law_wrong {f : Addr} (B : Bm mg) {cdv : Value} {A : Around} {outer : List Env} {s : Shared} {H : Hp} {E : XK} {M0 : MP} {ns : List Int} {cell n0 n1 n2 : Int} {a b sl : Sl} {bs : Bans} (hr : Room 7 (A.deeper (PyProof.Rows.envOfC "law" (defScope sLaw) s.heap.objs.size f cdv))) (hlen : bs.length ≤ 22)
    (rest : ∀ (x y : Sl), WS (cxOf (CXr P w) P w K mg base lawN "law" (defScope sLaw) f cdv A outer s H E).nox M0 H ((defBody sLaw).drop 7) [.im (.lst (ns.map .int)), .im (.int cell), .im (.lst [.int n0, .int n1, .int n2]), .im (.lst (bs.map pD)), a, b, sl, .im (.bl (!flB ⟨n0, n1, n2, bs⟩)), x, y, .un, .un, .un, .un, .un, .un] { N := fun _ => D.bl true = .non, R := fun d' => d' = .bl true }) :
    WS (cxOf (CXr P w) P w K mg base lawN "law" (defScope sLaw) f cdv A outer s H E).nox M0 H ((defBody sLaw).drop 5) [.im (.lst (ns.map .int)), .im (.int cell), .im (.lst [.int n0, .int n1, .int n2]), .mu (bs.map pD), a, b, sl, .un, .un, .un, .un, .un, .un, .un, .un, .un] { N := fun _ => D.bl true = .non, R := fun d' => d' = .bl true } := by
  have px := scLaw.nd
  refine WS.freeze (i := 3) rfl ?_
  refine WS.cons (W1.set (i := 7) px rfl (.inl rfl) (ltL rfl) (EvD.to (EvD.or (EvD.not (EvD.chain .le .le EvD.int (EvD.ixL (EvD.r (nm 2 rfl rfl)) EvD.int rfl) EvD.int)) fun _ => EvD.or (EvD.not (EvD.chain .le .le EvD.int (EvD.ixL (EvD.r (nm 2 rfl rfl)) EvD.int rfl) EvD.int)) fun _ => EvD.or (EvD.not (EvD.chain .le .le EvD.int (EvD.ixL (EvD.r (nm 2 rfl rfl)) EvD.int rfl) EvD.int)) fun _ => EvD.one (EvD.cI .gt (EvD.lenL rfl B.len (EvD.r (nm 3 rfl rfl))) EvD.int)) (d' := .bl (wrong0 n0 n1 n2 bs)) (by rw [List.length_map]; rfl)) ?_)
  refine WS.cons (W1.for (ds := bs.map pD) (fun i ρ => ∃ x y, ρ = [.im (.lst (ns.map .int)), .im (.int cell), .im (.lst [.int n0, .int n1, .int n2]), .im (.lst (bs.map pD)), a, b, sl, .im (.bl (wrong0 n0 n1 n2 bs || (bs.take i).any fun p => !banOk p)), x, y, .un, .un, .un, .un, .un, .un]) PassesOwn.never rfl (IvD.list (nm 3 rfl rfl)) ⟨_, _, by rw [List.take_zero, List.any_nil, Bool.or_false]; rfl⟩ ?_ ?_)
  · rintro i d ρ hd ⟨x, y, rfl⟩
    rw [List.getElem?_map] at hd
    cases ei : bs[i]? with
    | none => rw [ei] at hd; cases hd
    | some p =>
      rw [ei] at hd
      cases hd
      have hi : i < bs.length := (List.getElem?_eq_some_iff.mp ei).1
      have et : bs.take (i + 1) = bs.take i ++ [p] := by rw [List.take_add_one, ei]; rfl
      refine ⟨_, GvD.pair (i := 8) (j := 9) rfl px rfl (.inl rfl) (ltL rfl) rfl (.inl rfl) (ltL rfl), ?_⟩
      refine WS.one (W1.ite (TvD.to (TwD.t (TwD.or (TvD.cI .eq (nm 8 rfl rfl) (nm 9 rfl rfl)) fun _ => TwD.or (TvD.cI .lt (minI rfl rfl B.min (nm 8 rfl rfl) (nm 9 rfl rfl)) EvD.int) fun _ => TwD.or1 (TvD.cI .gt (maxI rfl rfl B.max (nm 8 rfl rfl) (nm 9 rfl rfl)) EvD.int))) (badP_iff p)) (fun h => ?_) fun h => WS.nil ?_)
      · refine WS.one (W1.set (i := 7) px rfl (.inl rfl) (ltL rfl) EvD.bl ?_)
        have e : (wrong0 n0 n1 n2 bs || (bs.take (i + 1)).any fun p => !banOk p) = true := by rw [et, List.any_append, List.any_cons, h]; simp
        dsimp only
        rw [e]
        exact ⟨_, _, rfl⟩
      · have e : (wrong0 n0 n1 n2 bs || (bs.take (i + 1)).any fun p => !banOk p) = (wrong0 n0 n1 n2 bs || (bs.take i).any fun p => !banOk p) := by rw [et, List.any_append, List.any_cons, h]; simp
        dsimp only
        rw [e]
        exact ⟨_, _, rfl⟩
  · rintro ρ ⟨x, y, rfl⟩
    rw [List.length_map, List.take_length, wrong_iff]
    exact rest x y
end
end K
set_option Elab.async false
set_option linter.all false
set_option maxRecDepth 100000
namespace Z
open PySem PySem.Spec PyProof.Rows L2
section
variable {X : Cx} {ρ : Rho} {o : Expr} {C : Addr} {m y : Str} {ns : List Str} {fs ds : List D} {apos pos py pos2 : Pos} {CX : CXT} {k j : Nat} {ι : Type} {args : ι → List D} {pre : ι → Prop} {res : ι → Except Addr D} {M0 : MP} {H0 : Hp} {P : Post} {sts : List Stmt}
/-- y = o.m(), a new list -/
theorem WS.setNewM {i : ι} {pl : Sem Bool} (nK : ∀ a xs, ¬ KLst X.K a xs) (hH : X.H₀ = H0) (hN : X.N.Nodup) (hj : X.N[j]? = some y) (hy : Loc X.env.scope y) (hlt : j < ρ.length) (c : Cls X.K C) (F : MtD X.prog X.w X.K X.mg X.base CX k C m args pre res) (hr : Room k X.A) (hx : Passes CX X E0) (h : EvD X ρ o (.ins C ns fs)) (hbr : D.bare 9 (.ins C ns fs)) (hi : args i = [.ins C ns fs]) (hp : pre i) (hres : res i = .ok (.lst ds)) (hbd : ∀ d ∈ ds, D.bare 9 d) (q : WS X M0 H0 sts (ρ.set j (.mu ds)) P)
    (hn : ns.all (fun n => !(m == n)) = true := by decide +kernel) (hs : swapsWith (.Call (.Attribute o m apos) [] [] pos) (some (.Name y py)) pos2.line X.env = pure false := by rfl) (hf : X.fn y = true ∨ X.env.scope.names.lookup y = some .local := by first | exact .inl rfl | exact .inr rfl | assumption)
    (ht : eval (.Call (.Attribute o m apos) [] [] pos) X.env = (do
      let ov ← eval o X.env
      standAt apos.atName
      let (f, first) ← holding [ov] (getMethod ov m pl)
      callWith pos f first (backTo pos (starEach [] X.env)) (backToKw pos (keywordEach [] X.env))) := by rfl) : WS X M0 H0 (.Assign [.Name y py] (.Call (.Attribute o m apos) [] [] pos) pos2 :: sts) ρ P := fun γ α σ H R => by
  obtain ⟨f, fd, ps, F, hm, hb⟩ := F.ex
  refine (pss_cons psS psSs).to ((ps_set hN hj hy (pe_meth0 peE c hm F hr hb .nil hx ht) hs hf).to (h M0 H0 γ α σ H _ R fun v H1 s1 dn => ?_))
  obtain ⟨a, dx, fs', rfl, hHa, hns, dn'⟩ := id dn
  refine ⟨a, dx, fs', rfl, hHa, fld_none hns hn, ?_⟩
  refine ⟨i, fun a => H1 a ≠ none, fun a z => z, by rw [hi]; exact ⟨_, _, rfl, Dn.bare 9 hbr dn, rfl⟩, hp, fun d' e v H2 s2 d2 => ?_, fun C e => by rw [hres] at e; cases e⟩
  rw [hres] at e
  cases e
  obtain ⟨l, xs, rfl, sqm, dns⟩ := d2
  have R1 := R.next s1
  have na : H1 l = none := by
    rcases sqm with ⟨_, z⟩ | z
    · cases e : H1 l with
      | none => rfl
      | some o => exact absurd (show H1 l ≠ none by rw [e]; intro w; cases w) z
    · exact absurd z (nK l xs)
  show tSs X sts _ (σ.set j (some (.ref l))) H2
  have dd : ∀ H', (∀ d v, Dn X.K (fun a => H1 a ≠ none) H2 d v → Dn X.K (fun a => H1 a ≠ none) H' d v) → Dns X.K (fun a => MM M0 ρ α a ∨ a = l) H' ds xs := fun H' mv => Dns.map1 (fun d hd v z => Dn.bare 9 (hbd d hd) (mv d v z)) dns
  rcases sqm with ⟨z | ⟨o, z⟩, _⟩ | z
  · exact q γ _ _ H2 (R1.set_mu hlt na s2 z (dd H2 fun d v w => w))
  · exact thaw (by rw [hH]; exact R1.same.free na) z (q γ _ _ _ (R1.set_mu hlt na (same_upd_none s2 na) upd_same (dd _ fun d v w => w.thaw z)))
  · exact absurd z (nK l xs)
end
end Z
set_option Elab.async false
set_option linter.all false
set_option maxRecDepth 100000
namespace K
open PySem L2 Z
theorem bare_pD (n : Nat) (p : Int × Int) : D.bare (n + 1) (pD p) := fun d hd => by
  have : d = .int p.1 ∨ d = .int p.2 := by simpa [pD] using hd
  rcases this with rfl | rfl <;> (cases n <;> exact True.intro)
theorem bare_flD (C : Addr) (f : Flr) (qs : Bans) : D.bare 9 (flD C f qs) := fun d hd => by
  have : d = .int f.st ∨ d = .int f.ht ∨ d = .int f.lf ∨ d = .tup (qs.map pD) := by simpa [flDs] using hd
  rcases this with rfl | rfl | rfl | rfl
  · exact True.intro
  · exact True.intro
  · exact True.intro
  · intro d hd
    obtain ⟨p, _, rfl⟩ := List.mem_map.mp hd
    exact bare_pD 6 p
theorem flat_3 (a b c : Int) : D.flat 60 (.lst [.int a, .int b, .int c]) := flat_ints (n := 59) (ns := [a, b, c])
section
variable {P : Program} {w : World} {K : Frag} {mg : Str → Option Value} {base : Heap} {C : Addr}
set_option maxHeartbeats 8000000 in
theorem law_tail {f : Addr} (nK : ∀ a xs, ¬ KLst K a xs) (B : Bm mg) (G6 : FWhole P w K mg base (CXr P w)) (L : Fl P w K mg base (CXr P w) C) {cdv : Value} {A : Around} {outer : List Env} {s : Shared} {H : Hp} {E : XK} {M0 : MP} {ns : List Int} {cell : Int} {fl : Flr} {a b sl wr x y hd md : Sl} (hr : Room 7 (A.deeper (PyProof.Rows.envOfC "law" (defScope sLaw) s.heap.objs.size f cdv))) (few : fl.bans.length ≤ 20) :
    WS (cxOf (CXr P w) P w K mg base lawN "law" (defScope sLaw) f cdv A outer s H E).nox M0 H ((defBody sLaw).drop 13) [.im (.lst (ns.map .int)), .im (.int cell), .im (numsD fl), .im (.lst (fl.bans.map pD)), a, b, sl, wr, x, y, hd, md, .im (flD C fl (srtP fl.bans)), .un, .un, .un] { N := fun _ => D.bl true = .non, R := fun d' => d' = .bl true } := by
  have nx : NX (CXr P w) := cxr_no
  have px := scLaw.nd
  have hr1 : Room 1 _ := hr.mono (by decide)
  have hu4 := Nat.lt_of_succ_lt (hu65 hr)
  have hu16 : (A.deeper (PyProof.Rows.envOfC "law" (defScope sLaw) s.heap.objs.size f cdv)).units + 16 < cLine := Nat.lt_of_le_of_lt (Nat.add_le_add_left (by decide : 16 ≤ 64) _) hu4
  have fp : D.flat 60 (.lst ((srtP fl.bans).map pD)) := flat_pDs (n := 58)
  refine WS.cons (W1.set (i := 13) px rfl (.inl rfl) (ltL rfl) (EvF.toD (EvF.sortedSet (ps := fl.bans) rfl hu16 rfl B.sorted rfl B.set (EvD.r (nm 3 rfl rfl)) few)) ?_)
  refine WS.cons (W1.set (i := 14) px rfl (.inl rfl) (ltL rfl) (EvF.toD (EvF.lst (AvD.cons (EvD.meth0 L.t.cl L.st hr1 (passNX nx) (fl, srtP fl.bans) (nm 12 rfl rfl) rfl trivial rfl) (AvD.cons (EvD.meth0 L.t.cl L.ht hr1 (passNX nx) (fl, srtP fl.bans) (nm 12 rfl rfl) rfl trivial rfl) (AvD.cons (EvD.meth0 L.t.cl L.lf hr1 (passNX nx) (fl, srtP fl.bans) (nm 12 rfl rfl) rfl trivial rfl) AvD.nil))))) ?_)
  refine WS.cons (W1.ite (TwD.t (TwD.or (TvD.ne hu4 (EvD.r (nm 14 rfl rfl)) (EvD.r (nm 2 rfl rfl)) (flat_3 fl.st fl.ht fl.lf) (flat_3 fl.st fl.ht fl.lf)) fun _ => TwD.or (TvD.not (TvD.val (EvD.call G6 hr1 (passNX nx) rfl fl.st (AvD.cons (EvD.ixL (EvD.r (nm 14 rfl rfl)) EvD.int rfl) AvD.nil) trivial rfl))) fun _ => TwD.or1 (TvD.not (TvD.val (EvD.call G6 hr1 (passNX nx) rfl fl.ht (AvD.cons (EvD.ixL (EvD.r (nm 14 rfl rfl)) EvD.int rfl) AvD.nil) trivial rfl))))) (fun h => ?_) fun h => WS.nil ?_)
  · have h' : (!D.eqv (.lst [.int fl.st, .int fl.ht, .int fl.lf]) (.lst [.int fl.st, .int fl.ht, .int fl.lf]) || (!true || !true)) = true := h
    rw [eqv_self (flat_3 fl.st fl.ht fl.lf)] at h'
    cases h'
  refine WS.setNewM (j := 15) (i := (fl, srtP fl.bans)) nK rfl px rfl (.inl rfl) (ltL rfl) L.t.cl L.bs hr1 (passNX nx) (nm 12 rfl rfl) (bare_flD C fl _) rfl trivial rfl (fun d hd => by
    obtain ⟨p, _, rfl⟩ := List.mem_map.mp hd
    exact bare_pD 8 p) ?_
  refine WS.cons (W1.ite (TwD.t (TwD.or (TvD.not (TvD.val (EvD.call G6 hr1 (passNX nx) rfl fl.lf (AvD.cons (EvD.ixL (EvD.r (nm 14 rfl rfl)) EvD.int rfl) AvD.nil) trivial rfl))) fun _ => TwD.or (TvD.not (TvD.val (EvD.isi rfl B.isi rfl B.list (by decide +kernel) (.inr (.inr (.inr (.inr rfl)))) (nmR 15 rfl rfl) rfl))) fun _ => TwD.or1 (TvD.ne hu4 (nmR 15 rfl rfl) (EvD.r (nm 13 rfl rfl)) fp fp))) (fun h => ?_) fun h => WS.nil ?_)
  · have h' : (!true || (!isT "list" (D.lst ((srtP fl.bans).map pD)) || !D.eqv (.lst ((srtP fl.bans).map pD)) (.lst ((srtP fl.bans).map pD)))) = true := h
    rw [eqv_self fp, show isT "list" (D.lst ((srtP fl.bans).map pD)) = true from rfl] at h'
    cases h'
  have sl := srtP_len fl.bans
  refine WS.cons (W1.append (i := 15) rfl (.inl rfl) rfl (EvD.tup (AvD.cons EvD.int (AvD.cons EvD.int AvD.nil))) (by rw [List.length_map]; show (srtP fl.bans).length < 1000000; omega) ?_ ⟨rfl, rfl, rfl, rfl⟩)
  refine WS.one (W1.ret (EvD.eq hu4 (EvD.r (EvD.meth0 L.t.cl L.bs hr1 (passNX nx) (fl, srtP fl.bans) (nm 12 rfl rfl) rfl trivial rfl)) (EvD.r (nm 13 rfl rfl)) fp fp) ?_)
  exact congrArg D.bl (eqv_self fp)
end
end K
set_option Elab.async false
set_option linter.all false
set_option maxRecDepth 100000
namespace K
open PySem L2 Z
theorem flat_nil (n : Nat) : D.flat (n + 1) (.lst []) := fun _ h => by cases h
theorem flat_made {n : Nat} (i : Nat) : D.flat (n + 3) (noD i) := fun d hd => by
  have : d = .non ∨ d = .lst ((oneL i).map .bl) := by simpa using hd
  rcases this with rfl | rfl
  · exact True.intro
  · intro d hd
    obtain ⟨b, _, rfl⟩ := List.mem_map.mp hd
    exact True.intro
end K
namespace Z
open PySem PySem.Spec PyProof.Rows L2
section
variable {X : Cx} {ρ ρ2 : Rho} {M0 : MP} {H0 H : Hp} {γ : List (D × V)} {α : Nat → Addr} {σ : St} {En : Ends} {sts s1 : List Stmt} {e a b : Expr} {d : D} {ds : List D} {pos pos' p1 p2 : Pos} {i : Nat} {x : Str}
theorem setT (hN : X.N.Nodup) (hi : X.N[i]? = some x) (hx : Loc X.env.scope x) (h : EvD X ρ e d) (R : Rep X.K M0 H0 γ α ρ σ H) (k : ∀ v H', Same H H' → Dn X.K (MM M0 ρ α) H' d v → tSs X sts En (σ.set i (some v)) H')
    (hs : swapsWith e (some (.Name x pos')) pos.line X.env = pure false := by rfl) (hf : X.fn x = true ∨ X.env.scope.names.lookup x = some .local := by first | exact .inl rfl | exact .inr rfl | assumption) : tSs X (.Assign [.Name x pos'] e pos :: sts) En σ H :=
  (pss_cons psS psSs).to ((ps_set hN hi hx peE hs hf).to (h M0 H0 γ α σ H _ R k))
theorem orL {j : Nat} (h1 : TvD X ρ a false) (R1 : Rep X.K M0 H0 γ α ρ σ H) (h2 : EvL X ρ2 j b true) (R2 : Rep X.K M0 H0 γ α ρ2 σ H) (hj : ρ2[j]? = some (.mu ds)) (k : ∀ H', Rep X.K M0 H0 γ α (ρ2.set j .un) σ H' → tSs X sts En σ H')
    (he : ∀ whole, isTrue b X.env whole = (do let v ← whole; standAt b.pos; holding [v] (truthy v)) := by intro _; rfl) : tSs X (.If (.BoolOp .Or [a, .UnaryOp .Not b p2] p1) s1 [] pos :: sts) En σ H :=
  (pss_cons psS psSs).to ((ps_if ptT psSs psSs).to (pwW.pt.to ((pw_or ptT pwW).to (h1 M0 H0 γ α σ H _ R1 fun H6 s6 => iteF ((pw_or1 ptT).to (TvL.not (TvL.val h2 he) M0 H0 γ α σ H6 _ (R2.next s6) fun H7 s7 => iteF (pss_nil.to (k H7 ((R2.next s6).lost hj s7)))))))))
end
end Z
namespace K
open PySem L2 Z
section
variable {P : Program} {w : World} {K : Frag} {mg : Str → Option Value} {base : Heap} {C : Addr}
set_option maxHeartbeats 8000000 in
theorem law_mid {f : Addr} (nK : ∀ a xs, ¬ KLst K a xs) (B : Bm mg) (G3 : FMade P w K mg base C) (G4 : FByBans P w K mg base (CXr P w) C) (G5 : FOne P w K mg base (CXr P w)) (G6 : FWhole P w K mg base (CXr P w)) (L : Fl P w K mg base (CXr P w) C) {cdv : Value} {A : Around} {outer : List Env} {s : Shared} {H : Hp} {E : XK} {M0 : MP} {ns : List Int} {cell : Int} {fl : Flr} {a b sl x y : Sl} (hr : Room 7 (A.deeper (PyProof.Rows.envOfC "law" (defScope sLaw) s.heap.objs.size f cdv))) (hlen : fl.bans.length ≤ 22) :
    WS (cxOf (CXr P w) P w K mg base lawN "law" (defScope sLaw) f cdv A outer s H E).nox M0 H ((defBody sLaw).drop 7) [.im (.lst (ns.map .int)), .im (.int cell), .im (numsD fl), .im (.lst (fl.bans.map pD)), a, b, sl, .im (.bl (!flB fl)), x, y, .un, .un, .un, .un, .un, .un] { N := fun _ => D.bl true = .non, R := fun d' => d' = .bl true } := by
  have nx : NX (CXr P w) := cxr_no
  have px := scLaw.nd
  have hr1 : Room 1 _ := hr.mono (by decide)
  have hr2 : Room 2 _ := hr.mono (by decide)
  have hr5 : Room 5 _ := hr.mono (by decide)
  have hu4 := Nat.lt_of_succ_lt (hu65 hr)
  have fp : D.flat 60 (.lst (fl.bans.map pD)) := flat_pDs (n := 58)
  refine WS.cons (W1.setF (i := 10) px rfl (.inl rfl) (ltL rfl) (EvF.listL rfl B.list (EvD.r (nm 3 rfl rfl))) ?_)
  by_cases hg : flB fl = true
  · intro γ α σ H1 R2
    have R1 := R2.freeze (i := 10) rfl
    have e1 : madeD C fl = .tup [flD C fl (srtP fl.bans), .lst []] := if_pos hg
    have hok := flB_iff.mp hg
    have hS : Stands fl (srtP fl.bans) := ⟨hok, Nat.le_trans (srtP_len _) hok.few, fun p => srtP_mem p _⟩
    rw [hg] at R1 R2
    refine setT (i := 11) px rfl (.inl rfl) (EvD.call G3 hr (passNX nx) rfl fl (AvD.cons (EvD.ixL (EvD.r (nm 2 rfl rfl)) EvD.int rfl) (AvD.cons (EvD.ixL (EvD.r (nm 2 rfl rfl)) EvD.int rfl) (AvD.cons (EvD.ixL (EvD.r (nm 2 rfl rfl)) EvD.int rfl) (AvD.cons (nm 10 rfl rfl) AvD.nil)))) (show fl.bans.length ≤ 100 by omega) (congrArg Except.ok e1)) R1 fun v H2 s2 dn => ?_
    have R1 := (R1.next s2).set_im (i := 11) (ltL rfl) dn
    have R2 := (R2.next s2).forget (i := 11) (ov := some v)
    generalize σ.set 11 (some v) = σ at R1 R2
    show tSs _ ((defBody sLaw).drop 9) _ _ _
    refine skipT (TvD.to (TvD.ne hu4 (EvD.r (nm 10 rfl rfl)) (EvD.r (nm 3 rfl rfl)) fp fp) (by rw [eqv_self fp]; rfl)) R1 fun H3 s3 => ?_
    have R1 := R1.next s3
    have R2 := R2.next s3
    refine skipT (TvD.val (nm 7 rfl rfl)) R1 fun H4 s4 => ?_
    have R1 := R1.next s4
    have R2 := R2.next s4
    refine setT (i := 12) px rfl (.inl rfl) (EvD.ixT (nm 11 rfl rfl) EvD.int rfl) R1 fun v H5 s5 dn => ?_
    have R1 := (R1.next s5).set_im (i := 12) (ltL rfl) dn
    have R2 := (R2.next s5).set_im (i := 12) (ltL rfl) (Dn.bare 9 (bare_flD C fl _) dn)
    generalize σ.set 12 (some v) = σ at R1 R2
    refine orL (j := 10) ?t1 R1 ?t2 R2 rfl ?k
    case t1 => exact TvD.ne hu4 (EvD.r (EvD.ixT (nm 11 rfl rfl) EvD.int rfl)) (EvD.r (EvF.toD (EvF.lst AvD.nil))) (flat_nil 59) (flat_nil 59)
    case t2 => exact EvL.call4 (j := 10) (i := (fl, srtP fl.bans)) (res := fun _ => true) G4 hr5 (passNX nx) rfl rfl (.inl rfl) rfl (nm 12 rfl rfl) (nm 2 rfl rfl) (nm 3 rfl rfl) rfl hS
    case k => exact fun H7 R3 => law_tail nK B G6 L hr hok.few γ α σ H7 R3
  · have hg : flB fl = false := by simpa using hg
    have e1 : madeD C fl = noD 0 := if_neg (by rw [hg]; exact Bool.false_ne_true)
    rw [hg]
    refine WS.freeze (i := 10) rfl ?_
    refine WS.cons (W1.set (i := 11) px rfl (.inl rfl) (ltL rfl) (EvD.call G3 hr (passNX nx) rfl fl (AvD.cons (EvD.ixL (EvD.r (nm 2 rfl rfl)) EvD.int rfl) (AvD.cons (EvD.ixL (EvD.r (nm 2 rfl rfl)) EvD.int rfl) (AvD.cons (EvD.ixL (EvD.r (nm 2 rfl rfl)) EvD.int rfl) (AvD.cons (nm 10 rfl rfl) AvD.nil)))) (show fl.bans.length ≤ 100 by omega) (congrArg Except.ok e1)) ?_)
    refine WS.cons (W1.ite (TvD.to (TvD.ne hu4 (EvD.r (nm 10 rfl rfl)) (EvD.r (nm 3 rfl rfl)) fp fp) (c' := false) (by rw [eqv_self fp]; rfl)) (fun h => by cases h) fun _ => WS.nil ?_)
    refine WS.cons (W1.ite (TvD.val (nm 7 rfl rfl)) (fun _ => WS.one (W1.ret (EvD.eq hu4 (EvD.r (nm 11 rfl rfl)) (EvD.r (EvD.tup (AvD.cons EvD.non (AvD.cons (EvD.call G5 hr1 (passNX nx) rfl 0 (AvD.cons EvD.int AvD.nil) (by trivial) rfl) AvD.nil)))) (flat_made (n := 57) 0) (flat_made (n := 57) 0)) ?_)) fun h => by cases h)
    exact congrArg D.bl (eqv_self (flat_made (n := 57) 0))
theorem ok_law {f : Addr} {fd : FuncData} (nK : ∀ a xs, ¬ KLst K a xs) (B : Bm mg) (G1 : FCell P w K mg base (CXr P w)) (G2 : FNumbers P w K mg base (CXr P w)) (G3 : FMade P w K mg base C) (G4 : FByBans P w K mg base (CXr P w) C) (G5 : FOne P w K mg base (CXr P w)) (G6 : FWhole P w K mg base (CXr P w)) (L : Fl P w K mg base (CXr P w) C)
    (F : Fun K "law" "law" sLaw f fd) : FnOk P w K mg base (CXr P w) 8 f fd ["script"] (spLaw K) :=
  law_head B G1 G2 (fun cdv A outer s H E M0 ns cell n0 n1 n2 a b sl bs hr hlen => law_wrong B hr hlen fun x y => law_mid (fl := ⟨n0, n1, n2, bs⟩) nK B G3 G4 G5 G6 L hr hlen) F
end
end K
set_option Elab.async false
set_option linter.all false
set_option maxRecDepth 100000
namespace K
open PySem L2 Z
theorem all_mk {l : PySem.W.OpenLaw} {w : World} {K : Frag} {h : Heap} {mg : Str → Option Value} {fa : Addr} (KX : K.In h) (G : h.Ns mainGlobals mg) (hfa : mg "law" = some (.ref fa))
    {C_Floor : Addr}
    {C_CraneError : Addr}
    {C_NoFloor : Addr}
    {C_NoStanding : Addr}
    {C_NoLift : Addr}
    {C_OtherCrates : Addr}
    {C_TooMany : Addr}
    {C_NoNames : Addr}
    {C_NoOrder : Addr}
    {C_BadText : Addr}
    {f0 : Addr} {od0 an0 : Option Addr} {sl0 : Array (Option Value)} {oc0 kV0 dc0 pm0 cd0 ct0 : Value}
    {f1 : Addr} {od1 an1 : Option Addr} {sl1 : Array (Option Value)} {oc1 kV1 dc1 pm1 cd1 ct1 : Value}
    {f2 : Addr} {od2 an2 : Option Addr} {sl2 : Array (Option Value)} {oc2 kV2 dc2 pm2 cd2 ct2 : Value}
    {f3 : Addr} {od3 an3 : Option Addr} {sl3 : Array (Option Value)} {oc3 kV3 dc3 pm3 cd3 ct3 : Value}
    {f4 : Addr} {od4 an4 : Option Addr} {sl4 : Array (Option Value)} {oc4 kV4 dc4 pm4 cd4 ct4 : Value}
    {f5 : Addr} {od5 an5 : Option Addr} {sl5 : Array (Option Value)} {oc5 kV5 dc5 pm5 cd5 ct5 : Value}
    {f6 : Addr} {od6 an6 : Option Addr} {sl6 : Array (Option Value)} {oc6 kV6 dc6 pm6 cd6 ct6 : Value}
    {f7 : Addr} {od7 an7 : Option Addr} {sl7 : Array (Option Value)} {oc7 kV7 dc7 pm7 cd7 ct7 : Value}
    {f8 : Addr} {od8 an8 : Option Addr} {sl8 : Array (Option Value)} {oc8 kV8 dc8 pm8 cd8 ct8 : Value}
    {f9 : Addr} {od9 an9 : Option Addr} {sl9 : Array (Option Value)} {oc9 kV9 dc9 pm9 cd9 ct9 : Value}
    {f10 : Addr} {od10 an10 : Option Addr} {sl10 : Array (Option Value)} {oc10 kV10 dc10 pm10 cd10 ct10 : Value}
    {f11 : Addr} {od11 an11 : Option Addr} {sl11 : Array (Option Value)} {oc11 kV11 dc11 pm11 cd11 ct11 : Value}
    {f12 : Addr} {od12 an12 : Option Addr} {sl12 : Array (Option Value)} {oc12 kV12 dc12 pm12 cd12 ct12 : Value}
    {f13 : Addr} {od13 an13 : Option Addr} {sl13 : Array (Option Value)} {oc13 kV13 dc13 pm13 cd13 ct13 : Value}
    {fFloor_0 : Addr} {odFloor_0 anFloor_0 : Option Addr} {slFloor_0 : Array (Option Value)} {ocFloor_0 kVFloor_0 dcFloor_0 pmFloor_0 cdFloor_0 ctFloor_0 : Value}
    {fFloor_1 : Addr} {odFloor_1 anFloor_1 : Option Addr} {slFloor_1 : Array (Option Value)} {ocFloor_1 kVFloor_1 dcFloor_1 pmFloor_1 cdFloor_1 ctFloor_1 : Value}
    {fFloor_2 : Addr} {odFloor_2 anFloor_2 : Option Addr} {slFloor_2 : Array (Option Value)} {ocFloor_2 kVFloor_2 dcFloor_2 pmFloor_2 cdFloor_2 ctFloor_2 : Value}
    {fFloor_3 : Addr} {odFloor_3 anFloor_3 : Option Addr} {slFloor_3 : Array (Option Value)} {ocFloor_3 kVFloor_3 dcFloor_3 pmFloor_3 cdFloor_3 ctFloor_3 : Value}
    {fFloor_4 : Addr} {odFloor_4 anFloor_4 : Option Addr} {slFloor_4 : Array (Option Value)} {ocFloor_4 kVFloor_4 dcFloor_4 pmFloor_4 cdFloor_4 ctFloor_4 : Value}
    {v_FEWEST_STACKS : Value}
    {v_MOST_STACKS : Value}
    {v_LOWEST_HEIGHT : Value}
    {v_GREATEST_HEIGHT : Value}
    {v_WEAKEST_CRANE : Value}
    {v_STRONGEST_CRANE : Value}
    {v_MOST_BANS : Value}
    {v_FIRST_CRATE : Value}
    {v_LAST_CRATE : Value}
    (aC_Floor : PySem.W.nsIn K mainGlobals "Floor" = some (some (.ref C_Floor)))
    (a0 : PySem.W.nsIn K mainGlobals "_law_cell_at" = some (some (.ref f0)))
    (l0 : K.lookup f0 = some ⟨oc0, od0, .func (PySem.W.fnOf "_law_cell_at" "_law_cell_at" (defArgs sCell) (defBody sCell) (defScope sCell) .none kV0 dc0 pm0 an0 cd0 ct0), sl0⟩)
    (c0 : PySem.W.codeIn K cd0 "_law_cell_at" = true)
    (k0 : PySem.W.keepIn K (.ref f0) = true)
    (a1 : PySem.W.nsIn K mainGlobals "is_within" = some (some (.ref f1)))
    (l1 : K.lookup f1 = some ⟨oc1, od1, .func (PySem.W.fnOf "is_within" "is_within" (defArgs sWithin) (defBody sWithin) (defScope sWithin) .none kV1 dc1 pm1 an1 cd1 ct1), sl1⟩)
    (c1 : PySem.W.codeIn K cd1 "is_within" = true)
    (k1 : PySem.W.keepIn K (.ref f1) = true)
    (a2 : PySem.W.nsIn K mainGlobals "is_crate" = some (some (.ref f2)))
    (l2 : K.lookup f2 = some ⟨oc2, od2, .func (PySem.W.fnOf "is_crate" "is_crate" (defArgs sCrate) (defBody sCrate) (defScope sCrate) .none kV2 dc2 pm2 an2 cd2 ct2), sl2⟩)
    (c2 : PySem.W.codeIn K cd2 "is_crate" = true)
    (k2 : PySem.W.keepIn K (.ref f2) = true)
    (a3 : PySem.W.nsIn K mainGlobals "is_ban" = some (some (.ref f3)))
    (l3 : K.lookup f3 = some ⟨oc3, od3, .func (PySem.W.fnOf "is_ban" "is_ban" (defArgs sIsBan) (defBody sIsBan) (defScope sIsBan) .none kV3 dc3 pm3 an3 cd3 ct3), sl3⟩)
    (c3 : PySem.W.codeIn K cd3 "is_ban" = true)
    (k3 : PySem.W.keepIn K (.ref f3) = true)
    (a4 : PySem.W.nsIn K mainGlobals "are_bans" = some (some (.ref f4)))
    (l4 : K.lookup f4 = some ⟨oc4, od4, .func (PySem.W.fnOf "are_bans" "are_bans" (defArgs sAreBans) (defBody sAreBans) (defScope sAreBans) .none kV4 dc4 pm4 an4 cd4 ct4), sl4⟩)
    (c4 : PySem.W.codeIn K cd4 "are_bans" = true)
    (k4 : PySem.W.keepIn K (.ref f4) = true)
    (a5 : PySem.W.nsIn K mainGlobals "is_good_stack" = some (some (.ref f5)))
    (l5 : K.lookup f5 = some ⟨oc5, od5, .func (PySem.W.fnOf "is_good_stack" "is_good_stack" (defArgs sGoodStack) (defBody sGoodStack) (defScope sGoodStack) .none kV5 dc5 pm5 an5 cd5 ct5), sl5⟩)
    (c5 : PySem.W.codeIn K cd5 "is_good_stack" = true)
    (k5 : PySem.W.keepIn K (.ref f5) = true)
    (a6 : PySem.W.nsIn K mainGlobals "is_good" = some (some (.ref f6)))
    (l6 : K.lookup f6 = some ⟨oc6, od6, .func (PySem.W.fnOf "is_good" "is_good" (defArgs sIsGood) (defBody sIsGood) (defScope sIsGood) .none kV6 dc6 pm6 an6 cd6 ct6), sl6⟩)
    (c6 : PySem.W.codeIn K cd6 "is_good" = true)
    (k6 : PySem.W.keepIn K (.ref f6) = true)
    (a7 : PySem.W.nsIn K mainGlobals "_law_whole" = some (some (.ref f7)))
    (l7 : K.lookup f7 = some ⟨oc7, od7, .func (PySem.W.fnOf "_law_whole" "_law_whole" (defArgs sWhole) (defBody sWhole) (defScope sWhole) .none kV7 dc7 pm7 an7 cd7 ct7), sl7⟩)
    (c7 : PySem.W.codeIn K cd7 "_law_whole" = true)
    (k7 : PySem.W.keepIn K (.ref f7) = true)
    (a8 : PySem.W.nsIn K mainGlobals "_law_kind" = some (some (.ref f8)))
    (l8 : K.lookup f8 = some ⟨oc8, od8, .func (PySem.W.fnOf "_law_kind" "_law_kind" (defArgs sKind) (defBody sKind) (defScope sKind) .none kV8 dc8 pm8 an8 cd8 ct8), sl8⟩)
    (c8 : PySem.W.codeIn K cd8 "_law_kind" = true)
    (k8 : PySem.W.keepIn K (.ref f8) = true)
    (a9 : PySem.W.nsIn K mainGlobals "_law_one" = some (some (.ref f9)))
    (l9 : K.lookup f9 = some ⟨oc9, od9, .func (PySem.W.fnOf "_law_one" "_law_one" (defArgs sOne) (defBody sOne) (defScope sOne) .none kV9 dc9 pm9 an9 cd9 ct9), sl9⟩)
    (c9 : PySem.W.codeIn K cd9 "_law_one" = true)
    (k9 : PySem.W.keepIn K (.ref f9) = true)
    (a10 : PySem.W.nsIn K mainGlobals "_law_made" = some (some (.ref f10)))
    (l10 : K.lookup f10 = some ⟨oc10, od10, .func (PySem.W.fnOf "_law_made" "_law_made" (defArgs sMade) (defBody sMade) (defScope sMade) .none kV10 dc10 pm10 an10 cd10 ct10), sl10⟩)
    (c10 : PySem.W.codeIn K cd10 "_law_made" = true)
    (k10 : PySem.W.keepIn K (.ref f10) = true)
    (a11 : PySem.W.nsIn K mainGlobals "_law_by_bans" = some (some (.ref f11)))
    (l11 : K.lookup f11 = some ⟨oc11, od11, .func (PySem.W.fnOf "_law_by_bans" "_law_by_bans" (defArgs sByBans) (defBody sByBans) (defScope sByBans) .none kV11 dc11 pm11 an11 cd11 ct11), sl11⟩)
    (c11 : PySem.W.codeIn K cd11 "_law_by_bans" = true)
    (k11 : PySem.W.keepIn K (.ref f11) = true)
    (a12 : PySem.W.nsIn K mainGlobals "_law_numbers" = some (some (.ref f12)))
    (l12 : K.lookup f12 = some ⟨oc12, od12, .func (PySem.W.fnOf "_law_numbers" "_law_numbers" (defArgs sNumbers) (defBody sNumbers) (defScope sNumbers) .none kV12 dc12 pm12 an12 cd12 ct12), sl12⟩)
    (c12 : PySem.W.codeIn K cd12 "_law_numbers" = true)
    (k12 : PySem.W.keepIn K (.ref f12) = true)
    (a13 : PySem.W.nsIn K mainGlobals "law" = some (some (.ref f13)))
    (l13 : K.lookup f13 = some ⟨oc13, od13, .func (PySem.W.fnOf "law" "law" (defArgs sLaw) (defBody sLaw) (defScope sLaw) .none kV13 dc13 pm13 an13 cd13 ct13), sl13⟩)
    (c13 : PySem.W.codeIn K cd13 "law" = true)
    (k13 : PySem.W.keepIn K (.ref f13) = true)
    (aFloor_0 : PySem.W.findIn K (.ref C_Floor) "__init__" = some (some (.ref fFloor_0)))
    (iFloor_0 : PySem.W.isFn K (.ref fFloor_0) = true)
    (lFloor_0 : K.lookup fFloor_0 = some ⟨ocFloor_0, odFloor_0, .func (PySem.W.fnOf "__init__" "Floor.__init__" (defArgs sInit) (defBody sInit) (defScope sInit) .none kVFloor_0 dcFloor_0 pmFloor_0 anFloor_0 cdFloor_0 ctFloor_0), slFloor_0⟩)
    (cFloor_0 : PySem.W.codeIn K cdFloor_0 "Floor.__init__" = true)
    (kFloor_0 : PySem.W.keepIn K (.ref fFloor_0) = true)
    (aFloor_1 : PySem.W.findIn K (.ref C_Floor) "stacks" = some (some (.ref fFloor_1)))
    (iFloor_1 : PySem.W.isFn K (.ref fFloor_1) = true)
    (lFloor_1 : K.lookup fFloor_1 = some ⟨ocFloor_1, odFloor_1, .func (PySem.W.fnOf "stacks" "Floor.stacks" (defArgs (sFl 1)) (defBody (sFl 1)) (defScope (sFl 1)) .none kVFloor_1 dcFloor_1 pmFloor_1 anFloor_1 cdFloor_1 ctFloor_1), slFloor_1⟩)
    (cFloor_1 : PySem.W.codeIn K cdFloor_1 "Floor.stacks" = true)
    (kFloor_1 : PySem.W.keepIn K (.ref fFloor_1) = true)
    (aFloor_2 : PySem.W.findIn K (.ref C_Floor) "height" = some (some (.ref fFloor_2)))
    (iFloor_2 : PySem.W.isFn K (.ref fFloor_2) = true)
    (lFloor_2 : K.lookup fFloor_2 = some ⟨ocFloor_2, odFloor_2, .func (PySem.W.fnOf "height" "Floor.height" (defArgs (sFl 2)) (defBody (sFl 2)) (defScope (sFl 2)) .none kVFloor_2 dcFloor_2 pmFloor_2 anFloor_2 cdFloor_2 ctFloor_2), slFloor_2⟩)
    (cFloor_2 : PySem.W.codeIn K cdFloor_2 "Floor.height" = true)
    (kFloor_2 : PySem.W.keepIn K (.ref fFloor_2) = true)
    (aFloor_3 : PySem.W.findIn K (.ref C_Floor) "lift" = some (some (.ref fFloor_3)))
    (iFloor_3 : PySem.W.isFn K (.ref fFloor_3) = true)
    (lFloor_3 : K.lookup fFloor_3 = some ⟨ocFloor_3, odFloor_3, .func (PySem.W.fnOf "lift" "Floor.lift" (defArgs (sFl 3)) (defBody (sFl 3)) (defScope (sFl 3)) .none kVFloor_3 dcFloor_3 pmFloor_3 anFloor_3 cdFloor_3 ctFloor_3), slFloor_3⟩)
    (cFloor_3 : PySem.W.codeIn K cdFloor_3 "Floor.lift" = true)
    (kFloor_3 : PySem.W.keepIn K (.ref fFloor_3) = true)
    (aFloor_4 : PySem.W.findIn K (.ref C_Floor) "bans" = some (some (.ref fFloor_4)))
    (iFloor_4 : PySem.W.isFn K (.ref fFloor_4) = true)
    (lFloor_4 : K.lookup fFloor_4 = some ⟨ocFloor_4, odFloor_4, .func (PySem.W.fnOf "bans" "Floor.bans" (defArgs (sFl 4)) (defBody (sFl 4)) (defScope (sFl 4)) .none kVFloor_4 dcFloor_4 pmFloor_4 anFloor_4 cdFloor_4 ctFloor_4), slFloor_4⟩)
    (cFloor_4 : PySem.W.codeIn K cdFloor_4 "Floor.bans" = true)
    (kFloor_4 : PySem.W.keepIn K (.ref fFloor_4) = true)
    (pg_Floor : PySem.W.plainGet K C_Floor Str.empty = true)
    (hd_Floor : PySem.W.hasDictIn K C_Floor = true)
    (po_Floor : PySem.W.plainOver K C_Floor = true)
    (sa_Floor : PySem.W.findIn K (.ref C_Floor) "__setattr__" = some (some (.builtin "object.__setattr__")))
    (mk_Floor : PySem.W.makesIn K C_Floor = true)
    (kc_Floor : PySem.W.keepIn K (.ref C_Floor) = true)
    (n_Floor_stack_count : PySem.W.findIn K (.ref C_Floor) "stack_count" = some none)
    (n_Floor_most_crates : PySem.W.findIn K (.ref C_Floor) "most_crates" = some none)
    (n_Floor_crane_strength : PySem.W.findIn K (.ref C_Floor) "crane_strength" = some none)
    (n_Floor_banned_pairs : PySem.W.findIn K (.ref C_Floor) "banned_pairs" = some none)
    (aC_CraneError : PySem.W.nsIn K mainGlobals "CraneError" = some (some (.ref C_CraneError)))
    (aC_NoFloor : PySem.W.nsIn K mainGlobals "NoFloor" = some (some (.ref C_NoFloor)))
    (aC_NoStanding : PySem.W.nsIn K mainGlobals "NoStanding" = some (some (.ref C_NoStanding)))
    (aC_NoLift : PySem.W.nsIn K mainGlobals "NoLift" = some (some (.ref C_NoLift)))
    (aC_OtherCrates : PySem.W.nsIn K mainGlobals "OtherCrates" = some (some (.ref C_OtherCrates)))
    (aC_TooMany : PySem.W.nsIn K mainGlobals "TooMany" = some (some (.ref C_TooMany)))
    (aC_NoNames : PySem.W.nsIn K mainGlobals "NoNames" = some (some (.ref C_NoNames)))
    (aC_NoOrder : PySem.W.nsIn K mainGlobals "NoOrder" = some (some (.ref C_NoOrder)))
    (aC_BadText : PySem.W.nsIn K mainGlobals "BadText" = some (some (.ref C_BadText)))
    (xe_NoFloor : PySem.W.excIn K C_NoFloor vErr "ValueError.__new__" = true)
    (xe_CraneError : PySem.W.excIn K C_CraneError vErr "ValueError.__new__" = true)
    (xb_CraneError : PySem.W.mroIn K C_CraneError (.type "BaseException") = some true)
    (nl : noLst K = true)
    (xr_NoFloor : PySem.W.mroIn K C_NoFloor (.ref C_CraneError) = some true)
    (xc_NoFloor : PySem.W.findIn K (.ref C_NoFloor) "__class__" = some (some (.builtin "object.__class__")))
    (xg_NoFloor : PySem.W.findIn K (.ref C_NoFloor) "__getattribute__" = some (some (.builtin "BaseException.__getattribute__")))
    (xt_NoFloor : PySem.W.findIn K (.ref C_NoFloor) "__getattr__" = some none)
    (xo_NoFloor : PySem.W.mroIn K C_NoFloor (.type "object") = some true)
    (xs_NoFloor : PySem.W.subIn K (.ref C_NoFloor) (.type "BaseException") = some true)
    (xi_NoFloor : (PySem.W.clsIn K C_NoFloor).isSome = true)
    (xk_NoFloor_NoFloor : PySem.W.kitOne K (.ref C_NoFloor) (.ref C_NoFloor) = some true)
    (xk_NoFloor_NoStanding : PySem.W.kitOne K (.ref C_NoFloor) (.ref C_NoStanding) = some false)
    (xk_NoFloor_NoLift : PySem.W.kitOne K (.ref C_NoFloor) (.ref C_NoLift) = some false)
    (xk_NoFloor_OtherCrates : PySem.W.kitOne K (.ref C_NoFloor) (.ref C_OtherCrates) = some false)
    (xk_NoFloor_TooMany : PySem.W.kitOne K (.ref C_NoFloor) (.ref C_TooMany) = some false)
    (xk_NoFloor_NoNames : PySem.W.kitOne K (.ref C_NoFloor) (.ref C_NoNames) = some false)
    (xk_NoFloor_NoOrder : PySem.W.kitOne K (.ref C_NoFloor) (.ref C_NoOrder) = some false)
    (xk_NoFloor_BadText : PySem.W.kitOne K (.ref C_NoFloor) (.ref C_BadText) = some false)
    (xv_NoFloor : PySem.W.kitOne K (.ref C_NoFloor) (.type "ValueError") = some true)
    (z_len : PySem.W.nsIn K mainGlobals "len" = some none)
    (z_range : PySem.W.nsIn K mainGlobals "range" = some none)
    (z_list : PySem.W.nsIn K mainGlobals "list" = some none)
    (z_tuple : PySem.W.nsIn K mainGlobals "tuple" = some none)
    (z_set : PySem.W.nsIn K mainGlobals "set" = some none)
    (z_isinstance : PySem.W.nsIn K mainGlobals "isinstance" = some none)
    (z_int : PySem.W.nsIn K mainGlobals "int" = some none)
    (z_bool : PySem.W.nsIn K mainGlobals "bool" = some none)
    (z_all : PySem.W.nsIn K mainGlobals "all" = some none)
    (z_any : PySem.W.nsIn K mainGlobals "any" = some none)
    (z_zip : PySem.W.nsIn K mainGlobals "zip" = some none)
    (z_sorted : PySem.W.nsIn K mainGlobals "sorted" = some none)
    (z_min : PySem.W.nsIn K mainGlobals "min" = some none)
    (z_ValueError : PySem.W.nsIn K mainGlobals "ValueError" = some none)
    (z_max : PySem.W.nsIn K mainGlobals "max" = some none)
    (g_FEWEST_STACKS : PySem.W.nsIn K mainGlobals "FEWEST_STACKS" = some (some v_FEWEST_STACKS))
    (e_FEWEST_STACKS : ∃ t, v_FEWEST_STACKS = .int 2 t)
    (g_MOST_STACKS : PySem.W.nsIn K mainGlobals "MOST_STACKS" = some (some v_MOST_STACKS))
    (e_MOST_STACKS : ∃ t, v_MOST_STACKS = .int 4 t)
    (g_LOWEST_HEIGHT : PySem.W.nsIn K mainGlobals "LOWEST_HEIGHT" = some (some v_LOWEST_HEIGHT))
    (e_LOWEST_HEIGHT : ∃ t, v_LOWEST_HEIGHT = .int 1 t)
    (g_GREATEST_HEIGHT : PySem.W.nsIn K mainGlobals "GREATEST_HEIGHT" = some (some v_GREATEST_HEIGHT))
    (e_GREATEST_HEIGHT : ∃ t, v_GREATEST_HEIGHT = .int 6 t)
    (g_WEAKEST_CRANE : PySem.W.nsIn K mainGlobals "WEAKEST_CRANE" = some (some v_WEAKEST_CRANE))
    (e_WEAKEST_CRANE : ∃ t, v_WEAKEST_CRANE = .int 1 t)
    (g_STRONGEST_CRANE : PySem.W.nsIn K mainGlobals "STRONGEST_CRANE" = some (some v_STRONGEST_CRANE))
    (e_STRONGEST_CRANE : ∃ t, v_STRONGEST_CRANE = .int 3 t)
    (g_MOST_BANS : PySem.W.nsIn K mainGlobals "MOST_BANS" = some (some v_MOST_BANS))
    (e_MOST_BANS : ∃ t, v_MOST_BANS = .int 20 t)
    (g_FIRST_CRATE : PySem.W.nsIn K mainGlobals "FIRST_CRATE" = some (some v_FIRST_CRATE))
    (e_FIRST_CRATE : ∃ t, v_FIRST_CRATE = .int 0 t)
    (g_LAST_CRATE : PySem.W.nsIn K mainGlobals "LAST_CRATE" = some (some v_LAST_CRATE))
    (e_LAST_CRATE : ∃ t, v_LAST_CRATE = .int 9 t) :
    ∃ fd : FuncData, (∀ (s : Shared) (v : Value), BindsTo s fd ⟨[v], []⟩ [("script", v)]) ∧ ∀ base : Heap, K.In base → base.Ns mainGlobals mg → FnOk l.prog w K mg base (CXr l.prog w) 8 fa fd ["script"] (spLaw K) := by
  have e := hfa.symm.trans (PySem.W.mg_of KX G a13)
  cases e
  have F0 := fun_mk (st := sCell) l0 c0 k0
  have b0 := F0.binds (ps := ["script", "k"]) fun _ _ _ _ _ _ us hl => by obtain ⟨_, _, rfl⟩ := Z.len2 us hl; rfl
  have m0 := PySem.W.mg_of KX G a0
  have F1 := fun_mk (st := sWithin) l1 c1 k1
  have b1 := F1.binds (ps := ["value", "least", "most"]) fun _ _ _ _ _ _ us hl => by obtain ⟨_, _, _, rfl⟩ := Z.len3 us hl; rfl
  have m1 := PySem.W.mg_of KX G a1
  have F2 := fun_mk (st := sCrate) l2 c2 k2
  have b2 := F2.binds (ps := ["value"]) fun _ _ _ _ _ _ us hl => by obtain ⟨_, rfl⟩ := Z.len1 us hl; rfl
  have m2 := PySem.W.mg_of KX G a2
  have F3 := fun_mk (st := sIsBan) l3 c3 k3
  have b3 := F3.binds (ps := ["ban"]) fun _ _ _ _ _ _ us hl => by obtain ⟨_, rfl⟩ := Z.len1 us hl; rfl
  have m3 := PySem.W.mg_of KX G a3
  have F4 := fun_mk (st := sAreBans) l4 c4 k4
  have b4 := F4.binds (ps := ["bans"]) fun _ _ _ _ _ _ us hl => by obtain ⟨_, rfl⟩ := Z.len1 us hl; rfl
  have m4 := PySem.W.mg_of KX G a4
  have F5 := fun_mk (st := sGoodStack) l5 c5 k5
  have b5 := F5.binds (ps := ["floor", "stack"]) fun _ _ _ _ _ _ us hl => by obtain ⟨_, _, rfl⟩ := Z.len2 us hl; rfl
  have m5 := PySem.W.mg_of KX G a5
  have F6 := fun_mk (st := sIsGood) l6 c6 k6
  have b6 := F6.binds (ps := ["floor", "standing"]) fun _ _ _ _ _ _ us hl => by obtain ⟨_, _, rfl⟩ := Z.len2 us hl; rfl
  have m6 := PySem.W.mg_of KX G a6
  have F7 := fun_mk (st := sWhole) l7 c7 k7
  have b7 := F7.binds (ps := ["found"]) fun _ _ _ _ _ _ us hl => by obtain ⟨_, rfl⟩ := Z.len1 us hl; rfl
  have m7 := PySem.W.mg_of KX G a7
  have F8 := fun_mk (st := sKind) l8 c8 k8
  have b8 := F8.binds (ps := ["e"]) fun _ _ _ _ _ _ us hl => by obtain ⟨_, rfl⟩ := Z.len1 us hl; rfl
  have m8 := PySem.W.mg_of KX G a8
  have F9 := fun_mk (st := sOne) l9 c9 k9
  have b9 := F9.binds (ps := ["k"]) fun _ _ _ _ _ _ us hl => by obtain ⟨_, rfl⟩ := Z.len1 us hl; rfl
  have m9 := PySem.W.mg_of KX G a9
  have F10 := fun_mk (st := sMade) l10 c10 k10
  have b10 := F10.binds (ps := ["stacks", "height", "lift", "bans"]) fun _ _ _ _ _ _ us hl => by obtain ⟨_, _, _, _, rfl⟩ := Z.len4 us hl; rfl
  have m10 := PySem.W.mg_of KX G a10
  have F11 := fun_mk (st := sByBans) l11 c11 k11
  have b11 := F11.binds (ps := ["floor", "numbers", "bans", "handed"]) fun _ _ _ _ _ _ us hl => by obtain ⟨_, _, _, _, rfl⟩ := Z.len4 us hl; rfl
  have m11 := PySem.W.mg_of KX G a11
  have F12 := fun_mk (st := sNumbers) l12 c12 k12
  have b12 := F12.binds (ps := ["script", "cell"]) fun _ _ _ _ _ _ us hl => by obtain ⟨_, _, rfl⟩ := Z.len2 us hl; rfl
  have m12 := PySem.W.mg_of KX G a12
  have F13 := fun_mk (st := sLaw) l13 c13 k13
  have FFloor_0 := fun_mk (st := sInit) lFloor_0 cFloor_0 kFloor_0
  have bFloor_0 := FFloor_0.binds (ps := ["self", "stacks", "height", "lift", "bans"]) fun _ _ _ _ _ _ us hl => by obtain ⟨_, _, _, _, _, rfl⟩ := Z.len5 us hl; rfl
  have FFloor_1 := fun_mk (st := (sFl 1)) lFloor_1 cFloor_1 kFloor_1
  have bFloor_1 := FFloor_1.binds (ps := ["self"]) fun _ _ _ _ _ _ us hl => by obtain ⟨_, rfl⟩ := Z.len1 us hl; rfl
  have mFloor_1 : Meth K C_Floor "stacks" fFloor_1 := ⟨aFloor_1, iFloor_1, kFloor_1⟩
  have FFloor_2 := fun_mk (st := (sFl 2)) lFloor_2 cFloor_2 kFloor_2
  have bFloor_2 := FFloor_2.binds (ps := ["self"]) fun _ _ _ _ _ _ us hl => by obtain ⟨_, rfl⟩ := Z.len1 us hl; rfl
  have mFloor_2 : Meth K C_Floor "height" fFloor_2 := ⟨aFloor_2, iFloor_2, kFloor_2⟩
  have FFloor_3 := fun_mk (st := (sFl 3)) lFloor_3 cFloor_3 kFloor_3
  have bFloor_3 := FFloor_3.binds (ps := ["self"]) fun _ _ _ _ _ _ us hl => by obtain ⟨_, rfl⟩ := Z.len1 us hl; rfl
  have mFloor_3 : Meth K C_Floor "lift" fFloor_3 := ⟨aFloor_3, iFloor_3, kFloor_3⟩
  have FFloor_4 := fun_mk (st := (sFl 4)) lFloor_4 cFloor_4 kFloor_4
  have bFloor_4 := FFloor_4.binds (ps := ["self"]) fun _ _ _ _ _ _ us hl => by obtain ⟨_, rfl⟩ := Z.len1 us hl; rfl
  have mFloor_4 : Meth K C_Floor "bans" fFloor_4 := ⟨aFloor_4, iFloor_4, kFloor_4⟩
  have nx : NX (CXr l.prog w) := cxr_no
  have cs : ∀ {x : Str} {v : Value} {z : Str}, PySem.W.nsIn K mainGlobals x = some (some v) → (∃ t, v = .str z t) → ∃ t, mg x = some (.str z t) := fun g ⟨t, e⟩ => ⟨t, by rw [PySem.W.mg_of KX G g, e]⟩
  have ci : ∀ {x : Str} {v : Value} {z : Int}, PySem.W.nsIn K mainGlobals x = some (some v) → (∃ t, v = .int z t) → ∃ t, mg x = some (.int z t) := fun g ⟨t, e⟩ => ⟨t, by rw [PySem.W.mg_of KX G g, e]⟩
  have un : ∀ {x : Str}, PySem.W.nsIn K mainGlobals x = some none → mg x = none := fun z => PySem.W.mg_none_of KX G z
  have mC_Floor := PySem.W.mg_of KX G aC_Floor
  have cl_Floor : Cls K C_Floor := ⟨pg_Floor, hd_Floor, po_Floor, sa_Floor⟩
  have mC_CraneError := PySem.W.mg_of KX G aC_CraneError
  have mC_NoFloor := PySem.W.mg_of KX G aC_NoFloor
  have mC_NoStanding := PySem.W.mg_of KX G aC_NoStanding
  have mC_NoLift := PySem.W.mg_of KX G aC_NoLift
  have mC_OtherCrates := PySem.W.mg_of KX G aC_OtherCrates
  have mC_TooMany := PySem.W.mg_of KX G aC_TooMany
  have mC_NoNames := PySem.W.mg_of KX G aC_NoNames
  have mC_NoOrder := PySem.W.mg_of KX G aC_NoOrder
  have mC_BadText := PySem.W.mg_of KX G aC_BadText
  let cl : Nat → Addr := fun i => if i = 0 then C_NoFloor else if i = 1 then C_NoStanding else if i = 2 then C_NoLift else if i = 3 then C_OtherCrates else if i = 4 then C_TooMany else if i = 5 then C_NoNames else if i = 6 then C_NoOrder else C_BadText
  have ET : ErrT K mg cl (fun i => i = 0) := by
    refine ⟨mC_NoFloor, mC_NoStanding, mC_NoLift, mC_OtherCrates, mC_TooMany, mC_NoNames, mC_NoOrder, mC_BadText, un z_ValueError, fun i j hi hj => ?_, fun i hi => ?_, fun i hi => ?_⟩
    · rcases hi with rfl
      · match j, hj with
        | 0, _ => exact xk_NoFloor_NoFloor
        | 1, _ => exact xk_NoFloor_NoStanding
        | 2, _ => exact xk_NoFloor_NoLift
        | 3, _ => exact xk_NoFloor_OtherCrates
        | 4, _ => exact xk_NoFloor_TooMany
        | 5, _ => exact xk_NoFloor_NoNames
        | 6, _ => exact xk_NoFloor_NoOrder
        | 7, _ => exact xk_NoFloor_BadText
    · rcases hi with rfl
      · exact xv_NoFloor
    · rcases hi with rfl
      · exact ⟨⟨xc_NoFloor, xg_NoFloor, xt_NoFloor, xo_NoFloor, xs_NoFloor⟩, xi_NoFloor⟩
  have B : Bm mg := { len := un z_len, range := un z_range, list := un z_list, tuple := un z_tuple, set := un z_set, isi := un z_isinstance, int := un z_int, bool := un z_bool, all := un z_all, any := un z_any, zip := un z_zip, sorted := un z_sorted, min := un z_min, max := un z_max, few := ci g_FEWEST_STACKS e_FEWEST_STACKS, most := ci g_MOST_STACKS e_MOST_STACKS, low := ci g_LOWEST_HEIGHT e_LOWEST_HEIGHT, great := ci g_GREATEST_HEIGHT e_GREATEST_HEIGHT, weak := ci g_WEAKEST_CRANE e_WEAKEST_CRANE, strong := ci g_STRONGEST_CRANE e_STRONGEST_CRANE, mostB := ci g_MOST_BANS e_MOST_BANS, fst := ci g_FIRST_CRATE e_FIRST_CRATE, lst := ci g_LAST_CRATE e_LAST_CRATE }
  have T : FlT K C_Floor := ⟨cl_Floor, n_Floor_stack_count, n_Floor_most_crates, n_Floor_crane_strength, n_Floor_banned_pairs⟩
  refine ⟨PySem.W.fnOf "law" "law" (defArgs sLaw) (defBody sLaw) (defScope sLaw) .none kV13 dc13 pm13 an13 cd13 ct13, fun s v => .of_eq rfl, fun base KB GB => ?_⟩
  have G0 : FCell l.prog w K mg base (CXr l.prog w) := ok_cell B.toBn F0 m0 b0
  have G1 : FWithin l.prog w K mg base (CXr l.prog w) := ok_within B F1 m1 b1
  have G2 : FCrate l.prog w K mg base (CXr l.prog w) := ok_crate nx B G1 F2 m2 b2
  have G3 : FIsBan l.prog w K mg base (CXr l.prog w) := ok_isBan nx B G2 F3 m3 b3
  have G4 : FAreBans l.prog w K mg base (CXr l.prog w) := ok_areBans nx B G3 F4 m4 b4
  have L : Fl l.prog w K mg base (CXr l.prog w) C_Floor := ⟨T, ok_stacks T FFloor_1 mFloor_1 bFloor_1, ok_height T FFloor_2 mFloor_2 bFloor_2, ok_lift T FFloor_3 mFloor_3 bFloor_3, ok_bans B T FFloor_4 mFloor_4 bFloor_4⟩
  have MF : Mk K C_Floor fFloor_0 := ⟨mk_Floor, aFloor_0, iFloor_0, kc_Floor⟩
  have GM : FMake l.prog w K mg base (CXr l.prog w) C_Floor := ok_make nx B T G1 G4 FFloor_0 MF mC_Floor bFloor_0
  have EF : OwnE "NoFloor" (cl 0) mg base := ownE_of KB mC_NoFloor xe_NoFloor
  have GE : FMakeE l.prog w K mg base C_Floor (cl 0) := ok_makeE B EF G1 G4 FFloor_0 MF mC_Floor bFloor_0
  have G5 : FGoodStack l.prog w K mg base (CXr l.prog w) C_Floor := ok_goodStack nx B L G2 F5 m5 b5
  have G6 : FIsGood l.prog w K mg base (CXr l.prog w) C_Floor := ok_isGood nx B L G5 F6 m6 b6
  have G7 : FWhole l.prog w K mg base (CXr l.prog w) := ok_whole B F7 m7 b7
  have G8 : FKind l.prog w K mg base (CXr l.prog w) cl (fun i => i = 0) := ok_kind B ET F8 m8 b8
  have G9 : FOne l.prog w K mg base (CXr l.prog w) := ok_one B F9 m9 b9
  have BF : Below2 (cl 0) C_CraneError base := below_of KB xe_NoFloor xe_CraneError xr_NoFloor xb_CraneError
  have G10 : FMade l.prog w K mg base C_Floor := ok_made (cl := cl) (raised := (fun i => i = 0)) rfl mC_CraneError BF GM GE G8 F10 m10 b10
  have G11 : FByBans l.prog w K mg base (CXr l.prog w) C_Floor := ok_byBans nx B G6 F11 m11 b11
  have G12 : FNumbers l.prog w K mg base (CXr l.prog w) := ok_numbers nx G0 F12 m12 b12
  exact ok_law (noLst_of nl) B G0 G12 G10 G11 G9 G7 L F13
end K
set_option Elab.async false
open PySem PySem.W PyProof.Rows
def PySem.W.Fast.tw13037433768433825816 : Unit := ()
def PySem.W.Fast.tw5444617410944595886 : Unit := ()
def PySem.W.Fast.tw12126511686811579860 : Unit := ()
def PySem.W.Fast.tw5875566985178387851 : Unit := ()
def PySem.W.Fast.tw4892653929678216787 : Unit := ()
def PySem.W.Fast.tw13480425254705546777 : Unit := ()
def PySem.W.Fast.tw12694635463545797961 : Unit := ()
set_option maxRecDepth 100000 in
set_option maxHeartbeats 0 in
theorem PySem.Challenge.cw_cranefloor_k01_floors_holds : PySem.Challenge.rw_cranefloor_k01_floors.Holds := by
  w_on; o_law; k_head; (case hw => w_witness2)
  k_fill
  refine Z.lawWalkX (k := 8) (l := PySem.Challenge.rw_cranefloor_k01_floors) ⟨rfl, by decide, by decide⟩ rfl rfl (fun w h Y => PySem.W.kIn_of Y) ?F
  case F =>
    intro w mg fa h KX G hmg
    refine' K.all_mk KX G hmg ?aC_Floor ?a0 ?l0 ?c0 ?k0 ?a1 ?l1 ?c1 ?k1 ?a2 ?l2 ?c2 ?k2 ?a3 ?l3 ?c3 ?k3 ?a4 ?l4 ?c4 ?k4 ?a5 ?l5 ?c5 ?k5 ?a6 ?l6 ?c6 ?k6 ?a7 ?l7 ?c7 ?k7 ?a8 ?l8 ?c8 ?k8 ?a9 ?l9 ?c9 ?k9 ?a10 ?l10 ?c10 ?k10 ?a11 ?l11 ?c11 ?k11 ?a12 ?l12 ?c12 ?k12 ?a13 ?l13 ?c13 ?k13 ?aFloor_0 ?iFloor_0 ?lFloor_0 ?cFloor_0 ?kFloor_0 ?aFloor_1 ?iFloor_1 ?lFloor_1 ?cFloor_1 ?kFloor_1 ?aFloor_2 ?iFloor_2 ?lFloor_2 ?cFloor_2 ?kFloor_2 ?aFloor_3 ?iFloor_3 ?lFloor_3 ?cFloor_3 ?kFloor_3 ?aFloor_4 ?iFloor_4 ?lFloor_4 ?cFloor_4 ?kFloor_4 ?pg_Floor ?hd_Floor ?po_Floor ?sa_Floor ?mk_Floor ?kc_Floor ?n_Floor_stack_count ?n_Floor_most_crates ?n_Floor_crane_strength ?n_Floor_banned_pairs ?aC_CraneError ?aC_NoFloor ?aC_NoStanding ?aC_NoLift ?aC_OtherCrates ?aC_TooMany ?aC_NoNames ?aC_NoOrder ?aC_BadText ?xe_NoFloor ?xe_CraneError ?xb_CraneError ?nl ?xr_NoFloor ?xc_NoFloor ?xg_NoFloor ?xt_NoFloor ?xo_NoFloor ?xs_NoFloor ?xi_NoFloor ?xk_NoFloor_NoFloor ?xk_NoFloor_NoStanding ?xk_NoFloor_NoLift ?xk_NoFloor_OtherCrates ?xk_NoFloor_TooMany ?xk_NoFloor_NoNames ?xk_NoFloor_NoOrder ?xk_NoFloor_BadText ?xv_NoFloor ?z_len ?z_range ?z_list ?z_tuple ?z_set ?z_isinstance ?z_int ?z_bool ?z_all ?z_any ?z_zip ?z_sorted ?z_min ?z_ValueError ?z_max ?g_FEWEST_STACKS ?e_FEWEST_STACKS ?g_MOST_STACKS ?e_MOST_STACKS ?g_LOWEST_HEIGHT ?e_LOWEST_HEIGHT ?g_GREATEST_HEIGHT ?e_GREATEST_HEIGHT ?g_WEAKEST_CRANE ?e_WEAKEST_CRANE ?g_STRONGEST_CRANE ?e_STRONGEST_CRANE ?g_MOST_BANS ?e_MOST_BANS ?g_FIRST_CRATE ?e_FIRST_CRATE ?g_LAST_CRATE ?e_LAST_CRATE
    (case aC_Floor => k_is)
    (case a0 => k_is)
    (case l0 => k_is)
    (case c0 => k_is)
    (case k0 => k_is)
    (case a1 => k_is)
    (case l1 => k_is)
    (case c1 => k_is)
    (case k1 => k_is)
    (case a2 => k_is)
    (case l2 => k_is)
    (case c2 => k_is)
    (case k2 => k_is)
    (case a3 => k_is)
    (case l3 => k_is)
    (case c3 => k_is)
    (case k3 => k_is)
    (case a4 => k_is)
    (case l4 => k_is)
    (case c4 => k_is)
    (case k4 => k_is)
    (case a5 => k_is)
    (case l5 => k_is)
    (case c5 => k_is)
    (case k5 => k_is)
    (case a6 => k_is)
    (case l6 => k_is)
    (case c6 => k_is)
    (case k6 => k_is)
    (case a7 => k_is)
    (case l7 => k_is)
    (case c7 => k_is)
    (case k7 => k_is)
    (case a8 => k_is)
    (case l8 => k_is)
    (case c8 => k_is)
    (case k8 => k_is)
    (case a9 => k_is)
    (case l9 => k_is)
    (case c9 => k_is)
    (case k9 => k_is)
    (case a10 => k_is)
    (case l10 => k_is)
    (case c10 => k_is)
    (case k10 => k_is)
    (case a11 => k_is)
    (case l11 => k_is)
    (case c11 => k_is)
    (case k11 => k_is)
    (case a12 => k_is)
    (case l12 => k_is)
    (case c12 => k_is)
    (case k12 => k_is)
    (case a13 => k_is)
    (case l13 => k_is)
    (case c13 => k_is)
    (case k13 => k_is)
    (case aFloor_0 => k_is)
    (case iFloor_0 => k_is)
    (case lFloor_0 => k_is)
    (case cFloor_0 => k_is)
    (case kFloor_0 => k_is)
    (case aFloor_1 => k_is)
    (case iFloor_1 => k_is)
    (case lFloor_1 => k_is)
    (case cFloor_1 => k_is)
    (case kFloor_1 => k_is)
    (case aFloor_2 => k_is)
    (case iFloor_2 => k_is)
    (case lFloor_2 => k_is)
    (case cFloor_2 => k_is)
    (case kFloor_2 => k_is)
    (case aFloor_3 => k_is)
    (case iFloor_3 => k_is)
    (case lFloor_3 => k_is)
    (case cFloor_3 => k_is)
    (case kFloor_3 => k_is)
    (case aFloor_4 => k_is)
    (case iFloor_4 => k_is)
    (case lFloor_4 => k_is)
    (case cFloor_4 => k_is)
    (case kFloor_4 => k_is)
    (case pg_Floor => k_is)
    (case hd_Floor => k_is)
    (case po_Floor => k_is)
    (case sa_Floor => k_is)
    (case mk_Floor => k_is)
    (case kc_Floor => k_is)
    (case n_Floor_stack_count => k_is)
    (case n_Floor_most_crates => k_is)
    (case n_Floor_crane_strength => k_is)
    (case n_Floor_banned_pairs => k_is)
    (case aC_CraneError => k_is)
    (case aC_NoFloor => k_is)
    (case aC_NoStanding => k_is)
    (case aC_NoLift => k_is)
    (case aC_OtherCrates => k_is)
    (case aC_TooMany => k_is)
    (case aC_NoNames => k_is)
    (case aC_NoOrder => k_is)
    (case aC_BadText => k_is)
    (case xe_NoFloor => k_exc)
    (case xe_CraneError => k_exc)
    (case xb_CraneError => k_is)
    (case nl => kernel_rfl)
    (case xr_NoFloor => k_is)
    (case xc_NoFloor => k_is)
    (case xg_NoFloor => k_is)
    (case xt_NoFloor => k_is)
    (case xo_NoFloor => k_is)
    (case xs_NoFloor => k_is)
    (case xi_NoFloor => kernel_rfl)
    (case xk_NoFloor_NoFloor => kernel_rfl)
    (case xk_NoFloor_NoStanding => kernel_rfl)
    (case xk_NoFloor_NoLift => kernel_rfl)
    (case xk_NoFloor_OtherCrates => kernel_rfl)
    (case xk_NoFloor_TooMany => kernel_rfl)
    (case xk_NoFloor_NoNames => kernel_rfl)
    (case xk_NoFloor_NoOrder => kernel_rfl)
    (case xk_NoFloor_BadText => kernel_rfl)
    (case xv_NoFloor => kernel_rfl)
    (case z_len => k_is)
    (case z_range => k_is)
    (case z_list => k_is)
    (case z_tuple => k_is)
    (case z_set => k_is)
    (case z_isinstance => k_is)
    (case z_int => k_is)
    (case z_bool => k_is)
    (case z_all => k_is)
    (case z_any => k_is)
    (case z_zip => k_is)
    (case z_sorted => k_is)
    (case z_min => k_is)
    (case z_ValueError => k_is)
    (case z_max => k_is)
    (case g_FEWEST_STACKS => k_is)
    (case e_FEWEST_STACKS => exact ⟨_, rfl⟩)
    (case g_MOST_STACKS => k_is)
    (case e_MOST_STACKS => exact ⟨_, rfl⟩)
    (case g_LOWEST_HEIGHT => k_is)
    (case e_LOWEST_HEIGHT => exact ⟨_, rfl⟩)
    (case g_GREATEST_HEIGHT => k_is)
    (case e_GREATEST_HEIGHT => exact ⟨_, rfl⟩)
    (case g_WEAKEST_CRANE => k_is)
    (case e_WEAKEST_CRANE => exact ⟨_, rfl⟩)
    (case g_STRONGEST_CRANE => k_is)
    (case e_STRONGEST_CRANE => exact ⟨_, rfl⟩)
    (case g_MOST_BANS => k_is)
    (case e_MOST_BANS => exact ⟨_, rfl⟩)
    (case g_FIRST_CRATE => k_is)
    (case e_FIRST_CRATE => exact ⟨_, rfl⟩)
    (case g_LAST_CRATE => k_is)
    (case e_LAST_CRATE => exact ⟨_, rfl⟩)
