import PyProof.Rows.All
import Wide.All
import OpenK.AllK
import Wide.FinOn
import Lean
import PyProof.EqAt
import PyProof.EqKinds
import PyProof.TupleCall
import KE.KSortTup
import KE.KStateDown
import PyProof.ExcBaseAll.ValueError
import PyProof.ExcClass3
import PyProof.ExcArgsOwn
import OpenK.Peek
import OpenK.KMake
import OpenK.KDescr
import KE.KIsAll
import OpenK.KOwn
import KE.KNest
import PyProof.ListStr
import PyProof.StrBlock
import PySem.Challenge.RW_cranefloor_k11_read
set_option Elab.async false
set_option linter.all false
set_option maxRecDepth 100000
/-! THE HAND LAYER, for ints, bools, texts, own classes, LISTS and tuples (index, slices, in, append, pop ..), calls, loops. Paste it whole ahead of your own text; what your proof does not reach may be deleted. -/
namespace L2
open PySem PySem.Spec PyProof.Rows

/-- a key: an int or a str -/
abbrev Key := Sum Int Str
def keyIs : Key → Value → Bool
  | .inl k, v => Value.isInt k v
  | .inr x, v => Value.isStrOf x v
def keyH (w : World) : Key → Int
  | .inl k => hashInt k
  | .inr x => hashStr w x
theorem keyIs_shape : ∀ {k : Key} {v : Value}, keyIs k v = true → (∃ i t, k = Sum.inl i ∧ v = Value.int i t) ∨ (∃ x t, k = Sum.inr x ∧ v = Value.str x t)
  | .inl i, v, h => by
    obtain ⟨t, e⟩ := Value.isInt_shape (k := i) (v := v) h
    exact .inl ⟨i, t, rfl, e⟩
  | .inr x, v, h => by
    obtain ⟨t, e⟩ := Value.isStrOf_shape (x := x) (v := v) h
    exact .inr ⟨x, t, rfl, e⟩
theorem key_ll (a b : Int) : decide ((Sum.inl a : Key) = Sum.inl b) = (a == b) := by
  by_cases e : a = b
  · subst e; simp
  · have h : ¬ (Sum.inl a : Key) = Sum.inl b := fun q => e (Sum.inl.inj q)
    rw [decide_eq_false h]
    exact (beq_eq_false_iff_ne.mpr e).symm
theorem key_rr (a b : Str) : decide ((Sum.inr a : Key) = Sum.inr b) = decide (a = b) := by
  by_cases e : a = b
  · subst e; simp
  · have h : ¬ (Sum.inr a : Key) = Sum.inr b := fun q => e (Sum.inr.inj q)
    rw [decide_eq_false h, decide_eq_false e]
theorem key_lr (a : Int) (b : Str) : decide ((Sum.inl a : Key) = Sum.inr b) = false := decide_eq_false (fun q => nomatch q)
theorem key_rl (a : Str) (b : Int) : decide ((Sum.inr a : Key) = Sum.inl b) = false := decide_eq_false (fun q => nomatch q)

def mixKind (prog : Program) (w : World) : PySem.KeyKind prog w Key where
  is := keyIs
  hash := keyH w
  inj := fun v a b ha hb => by
    rcases keyIs_shape ha with ⟨i, t, rfl, rfl⟩ | ⟨x, t, rfl, rfl⟩
    · rcases keyIs_shape hb with ⟨j, u, rfl, e⟩ | ⟨y, u, rfl, e⟩
      · injection e with e1 _; rw [e1]
      · exact nomatch e
    · rcases keyIs_shape hb with ⟨j, u, rfl, e⟩ | ⟨y, u, rfl, e⟩
      · exact nomatch e
      · injection e with e1 _; rw [e1]
  byValue := fun k v h => by
    rcases keyIs_shape h with ⟨i, t, rfl, rfl⟩ | ⟨x, t, rfl, rfl⟩ <;> rfl
  pyHash := fun hv h => by
    rcases keyIs_shape hv with ⟨i, t, rfl, rfl⟩ | ⟨x, t, rfl, rfl⟩
    · exact wpAny_pyHash_int h
    · exact wpAny_pyHash_str h
  eqBool := fun hu hv h => by
    rcases keyIs_shape hu with ⟨i, t, rfl, rfl⟩ | ⟨x, t, rfl, rfl⟩
    · rcases keyIs_shape hv with ⟨j, u, rfl, rfl⟩ | ⟨y, u, rfl, rfl⟩
      · rw [key_ll] at h; exact wpAny_eqBool_int h
      · rw [key_lr] at h; exact SeqAt.EqAt.int_str i t y u _ _ _ _ h
    · rcases keyIs_shape hv with ⟨j, u, rfl, rfl⟩ | ⟨y, u, rfl, rfl⟩
      · rw [key_rl] at h; exact SeqAt.EqAt.str_int x t j u _ _ _ _ h
      · rw [key_rr] at h; exact wpAny_eqBool_str h
  «strs» := fun k x t v h => by
    rcases keyIs_shape h with ⟨i, u, rfl, e⟩ | ⟨y, u, rfl, e⟩
    · exact nomatch e
    · injection e with e1 _
      subst e1
      cases v <;> rfl

end L2

namespace L2
open PySem PySem.Spec PyProof.Rows

/-- a value, without the heap -/
inductive V where
  | non | bl (b : Bool) | int (i : Int) | str (x : Str) | byt (b : Array UInt8) | flt (b : UInt64) | ref (a : Addr) | ty (n : String)
  deriving DecidableEq

def RelV : V → Value → Prop
  | .non, u => u = Value.none
  | .bl b, u => u = Value.bool b
  | .int i, u => ∃ t, u = Value.int i t
  | .str x, u => ∃ t, u = Value.str x t
  | .byt b, u => ∃ t, u = Value.bytes b t
  | .flt b, u => ∃ t, u = Value.float b t
  | .ref a, u => u = Value.ref a
  | .ty n, u => u = Value.type n

abbrev Vals : List V → List Value → Prop := Paired RelV
theorem Vals.length {xs : List V} {us : List Value} (r : Vals xs us) : xs.length = us.length := Paired.length r
theorem Vals.get : ∀ {xs : List V} {us : List Value} {i : Nat} {x : V}, Vals xs us → xs[i]? = some x → ∃ u, us[i]? = some u ∧ RelV x u
  | _, _, _, _, .nil, e => by simp at e
  | _, _, 0, _, .cons r _, e => by simp at e; subst e; exact ⟨_, rfl, r⟩
  | _, _, i + 1, x, .cons _ t, e => by
    obtain ⟨u, h1, h2⟩ := Vals.get (i := i) (x := x) t (by simpa using e)
    exact ⟨u, by simpa using h1, h2⟩
theorem Vals.set {x : V} {u : Value} (r : RelV x u) : ∀ {xs : List V} {us : List Value} (i : Nat), Vals xs us → Vals (xs.set i x) (us.set i u)
  | _, _, _, .nil => .nil
  | _, _, 0, .cons _ t => .cons r t
  | _, _, i + 1, .cons q t => .cons q (Vals.set r i t)
theorem Vals.append : ∀ {xs ys : List V} {us ws : List Value}, Vals xs us → Vals ys ws → Vals (xs ++ ys) (us ++ ws)
  | _, _, _, _, .nil, s => s
  | _, _, _, _, .cons r t, s => .cons r (Vals.append t s)
theorem Vals.take : ∀ {xs : List V} {us : List Value} (n : Nat), Vals xs us → Vals (xs.take n) (us.take n)
  | _, _, 0, _ => .nil
  | _, _, _ + 1, .nil => .nil
  | _, _, n + 1, .cons r t => .cons r (Vals.take n t)
theorem Vals.drop : ∀ {xs : List V} {us : List Value} (n : Nat), Vals xs us → Vals (xs.drop n) (us.drop n)
  | _, _, 0, r => r
  | _, _, _ + 1, .nil => .nil
  | _, _, n + 1, .cons _ t => Vals.drop n t

def RelO : Option V → Option Value → Prop
  | some v, some u => RelV v u
  | none, none => True
  | _, _ => False
def KV {κ : Type} : List (κ × V) → List (κ × Value) → Prop := Paired fun (p : κ × V) (q : κ × Value) => p.1 = q.1 ∧ RelV p.2 q.2

/-- a key of a dict (00_mix): an int or a text -/
def kV : Key → V
  | .inl i => .int i
  | .inr x => .str x

/-- what stands at a tracked address -/
inductive HO where
  /-- a list -/
  | lst (xs : List V)
  /-- a tuple (never changes) -/
  | tup (xs : List V)
  /-- a dict whose keys are ints and texts; one whose keys are tuples of ints and texts (the empty one is both) -/
  | dK (kvs : List (Key × V)) | dT (kvs : List (List Key × V))
  /-- a set of ints: its members, its size -/
  | set (S : Int → Bool) (n : Nat)
  /-- an instance of the class at C, its dict at dx, its attributes -/
  | ins (C dx : Addr) (fs : List (Str × V))
  /-- the dict of the instance at x -/
  | own (x : Addr)
  /-- the dict of an exception -/
  | xd (fs : List (Str × V))
  /-- a bound method, f of x -/
  | met (f x : Addr)
  /-- a range object lo, lo + 1, .. below hi -/
  | rng (lo hi : Int)
  /-- a thing that is known to the object (the script; a dict while a loop walks it): read, never written while it is so -/
  | frz (o : Obj) (u : HO)
  /-- a code object's table -/
  | tbl (ps : Array Value)
  /-- any other thing, by what is true of its one object (a def of one's own: SetO a S n := HO.ext fun h => ..) -/
  | ext (φ : Heap → Prop)

abbrev Hp := Addr → Option HO
def upd (H : Hp) (a : Addr) (o : HO) : Hp := fun b => if b = a then some o else H b
theorem upd_same {H : Hp} {a : Addr} {o : HO} : upd H a o a = some o := by unfold upd; rw [if_pos rfl]
theorem upd_ne {H : Hp} {a b : Addr} {o : HO} (h : b ≠ a) : upd H a o b = H b := by unfold upd; rw [if_neg h]
theorem ne_of_none {H : Hp} {a b : Addr} {o : HO} (h : H a = some o) (h' : H b = none) : a ≠ b := by
  intro e; subst e; rw [h] at h'; cases h'

section
variable (P : Program) (w : World)
def ObjOk (H : Hp) (h : Heap) (a : Addr) : HO → Prop
  | .lst xs => xs.length ≤ sizeLine ∧ ∃ (its : List Value) (n : Nat), Vals xs its ∧ h.get? a = some { cls := .type "list", data := .seq its.toArray n }
  | .tup xs => xs.length ≤ sizeLine ∧ ∃ its : List Value, Vals xs its ∧ IsTup h a its.toArray
  | .dK kvs => kvs.length ≤ sizeLine ∧ (a == sysModules) = false ∧ ∃ vs, KV kvs vs ∧ h.DictOf (mixKind P w) a vs
  | .dT kvs => kvs.length ≤ sizeLine ∧ (a == sysModules) = false ∧ ∃ xs : List (List Key × Addr × Value),
      Paired (fun (p : List Key × V) (q : List Key × Addr × Value) => p.1 = q.1 ∧ H q.2.1 = some (.tup (p.1.map kV)) ∧ RelV p.2 q.2.2) kvs xs ∧
      ∃ o es ep, h.get? a = some o ∧ o.ExactDict ∧ o.data = .dict es ep ∧ es.toList = xs.map (entryOfKey (tupleKind (mixKind P w))) ∧ (xs.map (·.1)).Nodup
  | .set S n => h.SetOf (intKind P w) a S n
  | .ins C dx fs => H dx = some (.own a) ∧ fs.length ≤ 1000 ∧ dx ≠ a ∧ h.get? a = some (PySem.W.instObj C dx) ∧
      ∃ mA, h.Ns1 dx mA ∧ (∀ f, RelO (fs.lookup f) (mA f)) ∧ PySem.Within mA (fs.map (·.1))
  | .own _ => ∃ o, h.get? a = some o
  | .xd fs => ∃ mA, h.Ns1 a mA ∧ ∀ f, RelO (fs.lookup f) (mA f)
  | .rng lo hi => ∃ t u v, h.get? a = some { cls := .type "range", data := .fields #[.int lo t, .int hi u, .int 1 v] }
  | .frz o u => h.get? a = some o ∧ ObjOk H h a u
  | .tbl ps => h.get? a = some { cls := .none, data := .fields ps }
  | .met f x => h.get? a = some (PySem.W.methodObj (.ref f) (.ref x))
  | .ext φ => φ h ∧ (∃ o, h.get? a = some o) ∧ ∀ h1 h2 : Heap, φ h1 → (∀ o, h1.get? a = some o → h2.get? a = some o) → φ h2
/-- the abstract heap is held -/
def HOk (H : Hp) (h : Heap) : Prop := ∀ a o, H a = some o → ObjOk P w H h a o
end

section
variable {P : Program} {w : World} {H H' : Hp} {h h' : Heap} {a : Addr} {o : HO}
theorem ObjOk.lt (x : ObjOk P w H h a o) : a < h.objs.size := by
  cases o with
  | lst xs => obtain ⟨_, _, _, _, e⟩ := x; exact Heap.lt_size e
  | tup xs => obtain ⟨_, _, _, p⟩ := x; exact p.lt
  | dK kvs => obtain ⟨_, _, _, _, o, _, _, e, _⟩ := x; exact Heap.lt_size e
  | dT kvs => obtain ⟨_, _, _, _, o, _, _, e, _⟩ := x; exact Heap.lt_size e
  | set S n => obtain ⟨o, _, _, _, e, _⟩ := x; exact Heap.lt_size e
  | ins C dx fs => obtain ⟨_, _, _, e, _⟩ := x; exact Heap.lt_size e
  | own y => obtain ⟨_, e⟩ := x; exact Heap.lt_size e
  | xd fs => obtain ⟨_, ⟨_, _, _, e, _⟩, _⟩ := x; exact Heap.lt_size e
  | rng lo hi => obtain ⟨_, _, _, e⟩ := x; exact Heap.lt_size e
  | frz ob u => obtain ⟨e, _⟩ := x; exact Heap.lt_size e
  | tbl ps => exact Heap.lt_size (show h.get? a = some _ from x)
  | met f y => exact Heap.lt_size (show h.get? a = some _ from x)
  | ext φ => obtain ⟨_, ⟨_, e⟩, _⟩ := x; exact Heap.lt_size e
theorem Paired.mapP {α β : Type} {F G : α → β → Prop} : ∀ {l₁ : List α} {l₂ : List β}, Paired F l₁ l₂ → (∀ a b, F a b → G a b) → Paired G l₁ l₂
  | _, _, .nil, _ => .nil
  | _, _, .cons r t, f => .cons (f _ _ r) (Paired.mapP t f)
/-- what an object's description leans on: its own object, its own dict, the tuples -/
theorem ObjOk.stay (x : ObjOk P w H h a o) (k : ∀ b u, (b = a ∨ H b = some (.own a)) → h.get? b = some u → h'.get? b = some u)
    (ho : ∀ b, H b = some (.own a) → H' b = some (.own a)) (ht : ∀ b xs, H b = some (.tup xs) → H' b = some (.tup xs)) : ObjOk P w H' h' a o := by
  induction o with
  | lst xs => obtain ⟨z, its, n, r, e⟩ := x; exact ⟨z, its, n, r, k _ _ (.inl rfl) e⟩
  | tup xs => obtain ⟨z, its, r, ob, e, c⟩ := x; exact ⟨z, its, r, ob, k _ _ (.inl rfl) e, c⟩
  | dK kvs => obtain ⟨z, y, vs, r, ob, es, ep, e, c⟩ := x; exact ⟨z, y, vs, r, ob, es, ep, k _ _ (.inl rfl) e, c⟩
  | dT kvs =>
    obtain ⟨z, y, xs, r, ob, es, ep, e, c⟩ := x
    exact ⟨z, y, xs, Paired.mapP r fun p q z => ⟨z.1, ht _ _ z.2.1, z.2.2⟩, ob, es, ep, k _ _ (.inl rfl) e, c⟩
  | set S n => obtain ⟨ob, es, ep, t, e, c⟩ := x; exact ⟨ob, es, ep, t, k _ _ (.inl rfl) e, c⟩
  | ins C dx fs =>
    obtain ⟨d, z, ne, e, mA, ⟨od, es, ep, e2, c⟩, r⟩ := x
    exact ⟨ho _ d, z, ne, k _ _ (.inl rfl) e, mA, ⟨od, es, ep, k _ _ (.inr d) e2, c⟩, r⟩
  | own y => obtain ⟨ob, e⟩ := x; exact ⟨ob, k _ _ (.inl rfl) e⟩
  | xd fs => obtain ⟨mA, ⟨od, es, ep, e, c⟩, r⟩ := x; exact ⟨mA, ⟨od, es, ep, k _ _ (.inl rfl) e, c⟩, r⟩
  | rng lo hi => obtain ⟨t, u, v, e⟩ := x; exact ⟨t, u, v, k _ _ (.inl rfl) e⟩
  | frz ob u ih => obtain ⟨e, q⟩ := x; exact ⟨k _ _ (.inl rfl) e, ih q⟩
  | tbl ps =>
    have e : h.get? a = some { cls := .none, data := .fields ps } := x
    show h'.get? a = some { cls := .none, data := .fields ps }
    exact k a _ (.inl rfl) e
  | met f y =>
    have e : h.get? a = some (PySem.W.methodObj (.ref f) (.ref y)) := x
    show h'.get? a = some (PySem.W.methodObj (.ref f) (.ref y))
    exact k a _ (.inl rfl) e
  | ext φ => obtain ⟨p, ⟨o, e⟩, st⟩ := x; exact ⟨st _ _ p fun o q => k _ _ (.inl rfl) q, ⟨o, k _ _ (.inl rfl) e⟩, st⟩
theorem HOk.lt (x : HOk P w H h) (e : H a = some o) : a < h.objs.size := (x a o e).lt
theorem HOk.fresh (x : HOk P w H h) (e : h.objs.size ≤ a) : H a = none := by
  cases q : H a with
  | none => rfl
  | some u => exact absurd (Nat.lt_of_lt_of_le (x.lt q) e) (Nat.lt_irrefl _)
/-- every object of the heap is kept -/
theorem HOk.kept (x : HOk P w H h) (k : ∀ b u, h.get? b = some u → h'.get? b = some u) : HOk P w H h' := fun a o e =>
  (x a o e).stay (fun b u _ q => k b u q) (fun _ q => q) fun _ _ q => q
/-- a new object is laid and tracked -/
theorem HOk.laid (x : HOk P w H h) (k : ∀ b u, h.get? b = some u → h'.get? b = some u) (hp : h.objs.size ≤ a) (new : ObjOk P w (upd H a o) h' a o) : HOk P w (upd H a o) h' := fun b u e => by
  have hn := x.fresh hp
  by_cases hb : b = a
  · subst hb; rw [upd_same] at e; cases e; exact new
  · rw [upd_ne hb] at e
    exact (x b u e).stay (fun c v _ q => k c v q) (fun c q => by rw [upd_ne (ne_of_none q hn)]; exact q) fun c xs q => by rw [upd_ne (ne_of_none q hn)]; exact q
end

/-- what may be read as u: it is u, or a known u -/
def Rd (H : Hp) (a : Addr) (u : HO) : Prop := H a = some u ∨ ∃ o, H a = some (.frz o u)
theorem Rd.ok {P : Program} {w : World} {H : Hp} {h : Heap} {a : Addr} {u : HO} (r : Rd H a u) (x : HOk P w H h) : ObjOk P w H h a u := by
  rcases r with r | ⟨o, r⟩
  · exact x a u r
  · obtain ⟨_, q⟩ := x a _ r
    exact q
/-- what may be written -/
def Mut : Option HO → Prop
  | some (.lst _) => True
  | some (.dK _) => True
  | some (.dT _) => True
  | some (.set _ _) => True
  | some (.ins _ _ _) => True
  | some (.ext _) => True
  | _ => False
section
variable {P : Program} {w : World} {H : Hp} {h h' : Heap} {x e : Addr} {o' : HO}
/-- the object at e is changed: x itself, or the dict of the instance x -/
theorem HOk.write (ok : HOk P w H h) (mu : Mut (H x)) (he : e = x ∨ H e = some (.own x)) (k : ∀ b u, b ≠ e → h.get? b = some u → h'.get? b = some u) (heo : ∃ u, h'.get? e = some u)
    (new : ObjOk P w (upd H x o') h' x o') : HOk P w (upd H x o') h' := fun b u q => by
  have nown : ∀ c y, H c = some (.own y) → c ≠ x := fun c y r z => by subst z; rw [r] at mu; exact mu
  have ntup : ∀ c xs, H c = some (.tup xs) → c ≠ x := fun c xs r z => by subst z; rw [r] at mu; exact mu
  by_cases hb : b = x
  · subst hb; rw [upd_same] at q; cases q; exact new
  · rw [upd_ne hb] at q
    by_cases hbe : b = e
    · have q' : H b = some (.own x) := by
        rcases he with z | z
        · exact absurd (hbe.trans z) hb
        · rw [hbe]; exact z
      rw [q] at q'; cases q'
      obtain ⟨v, hv⟩ := heo
      exact ⟨v, by rw [hbe]; exact hv⟩
    · refine (ok b u q).stay (fun c v hc r => k c v ?_ r) (fun c r => by rw [upd_ne (nown c b r)]; exact r) fun c xs r => by rw [upd_ne (ntup c xs r)]; exact r
      rcases hc with rfl | hc
      · exact hbe
      · rintro rfl
        rcases he with z | z
        · exact nown c b hc z
        · rw [hc] at z; cases z; exact hb rfl
end

/-! ### kept unless tracked; of the frames at fs (the callers') the slots may change (an exception that passes writes there); of the records at ex (iterators) nothing is said -/
structure Un (fs ex : List Addr) (H H' : Hp) (h h' : Heap) : Prop where
  keep : ∀ b o, h.get? b = some o → H b = none → b ∉ fs → b ∉ ex → h'.get? b = some o
  slot : ∀ b o, h.get? b = some o → H b = none → b ∈ fs → b ∉ ex → ∃ sl, h'.get? b = some { o with slots := sl }
  free : ∀ b o, h.get? b = some o → H b = none → b ∉ ex → H' b = none
  there : ∀ b o, h.get? b = some o → b ∉ ex → ∃ o', h'.get? b = some o'
  tups : ∀ b xs, H b = some (.tup xs) → H' b = some (.tup xs)
  frzs : ∀ b o u, H b = some (.frz o u) → H' b = some (.frz o u)
  tbls : ∀ b ps, H b = some (.tbl ps) → ∃ more, H' b = some (.tbl (ps ++ more))
section
variable {fs fs' ex ex' : List Addr} {H H1 H2 : Hp} {h h1 h2 h' : Heap} {a x e : Addr} {o : HO}
theorem Un.any (u : Un fs ex H H1 h h1) {b : Addr} {ob : Obj} (q : h.get? b = some ob) (n : H b = none) (hx : b ∉ ex) : ∃ sl, h1.get? b = some { ob with slots := sl } := by
  by_cases hb : b ∈ fs
  · exact u.slot b ob q n hb hx
  · exact ⟨ob.slots, u.keep b ob q n hb hx⟩
theorem Un.kept (k : ∀ b u, h.get? b = some u → h'.get? b = some u) : Un fs ex H H h h' :=
  ⟨fun b ob q _ _ _ => k b ob q, fun b ob q _ _ _ => ⟨ob.slots, k b ob q⟩, fun _ _ _ n _ => n, fun b ob q _ => ⟨ob, k b ob q⟩, fun _ _ q => q, fun _ _ _ q => q, fun _ ps q => ⟨#[], by rw [q]; simp⟩⟩
theorem Un.refl : Un fs ex H H h h := Un.kept fun _ _ q => q
theorem Un.laid (k : ∀ b u, h.get? b = some u → h'.get? b = some u) (hp : h.objs.size ≤ a) (hn : H a = none) : Un fs ex H (upd H a o) h h' where
  keep := fun b u q _ _ _ => k b u q
  slot := fun b u q _ _ _ => ⟨u.slots, k b u q⟩
  free := fun b u q n _ => by rw [upd_ne (Nat.ne_of_lt (Nat.lt_of_lt_of_le (Heap.lt_size q) hp))]; exact n
  there := fun b u q _ => ⟨u, k b u q⟩
  tups := fun b xs q => by rw [upd_ne (ne_of_none q hn)]; exact q
  frzs := fun b u xs q => by rw [upd_ne (ne_of_none q hn)]; exact q
  tbls := fun b ps q => ⟨#[], by rw [upd_ne (ne_of_none q hn), q]; simp⟩
theorem Un.write (mu : Mut (H x)) (he : e = x ∨ H e = some (.own x)) (k : ∀ b u, b ≠ e → h.get? b = some u → h'.get? b = some u) (heo : ∃ u, h'.get? e = some u) : Un fs ex H (upd H x o) h h' := by
  have hx : ∀ b, H b = none → b ≠ x := fun b n z => by subst z; rw [n] at mu; exact mu
  have hb : ∀ b, H b = none → b ≠ e := fun b n z => by
    subst z
    rcases he with r | r
    · exact hx b n r
    · rw [n] at r; cases r
  have hm : ∀ b u, H b = some u → ¬ Mut (some u) → b ≠ x := fun b u q nm z => by subst z; rw [q] at mu; exact nm mu
  refine ⟨fun b u q n _ _ => k b u (hb b n) q, fun b u q n _ _ => ⟨u.slots, k b u (hb b n) q⟩, fun b u q n _ => by rw [upd_ne (hx b n)]; exact n, fun b u q _ => ?_,
    fun b xs q => by rw [upd_ne (hm b _ q fun z => z)]; exact q, fun b u xs q => by rw [upd_ne (hm b _ q fun z => z)]; exact q, fun b ps q => ⟨#[], by rw [upd_ne (hm b _ q fun z => z), q]; simp⟩⟩
  by_cases hbe : b = e
  · subst hbe; exact heo
  · exact ⟨u, k b u hbe q⟩
end

/-! ### the heap without what is tracked -/
def trk (h : Heap) (H : Hp) : List Addr := (List.range h.objs.size).filter fun a => (H a).isSome
def hidT (h : Heap) (H : Hp) : Heap := PySem.W.hideAll h (trk h H)
theorem hidT_size (h : Heap) (H : Hp) : (hidT h H).objs.size = h.objs.size := PySem.W.hideAll_size _ _
theorem hidT_get {h : Heap} {H : Hp} {b : Addr} {o : Obj} (e : h.get? b = some o) (n : H b = none) : (hidT h H).get? b = some o :=
  PySem.W.hideAll_get _ e fun hm => by
    have q : (H b).isSome = true := (List.mem_filter.mp hm).2
    rw [n] at q; simp at q
theorem of_hidT {h : Heap} {H : Hp} {b : Addr} {o : Obj} (e : (hidT h H).get? b = some o) : h.get? b = some o ∧ H b = none := by
  have e' : h.get? b = some o := PySem.W.of_hideAll (trk h H) e
  refine ⟨e', ?_⟩
  cases q : H b with
  | none => rfl
  | some x =>
    have hm : b ∈ trk h H := List.mem_filter.mpr ⟨List.mem_range.mpr (Heap.lt_size e'), by simp [q]⟩
    have z : (hidT h H).get? b = none := PySem.W.hideAll_none (trk h H) hm
    rw [z] at e; cases e

/-! ### OpenK's ledger, filled with every new object but one -/
def allNews (g h : Heap) (L : Addr) : List (Addr × Obj) := (List.range h.objs.size).filterMap fun a => if a = L ∨ (g.get? a).isSome = true then none else (h.get? a).map fun o => (a, o)
def rest (g h : Heap) (L d : Addr) : List (Addr × Obj) := (allNews g h L).filter fun p => decide (p.1 ≠ d)
end L2

namespace L2
open PySem PySem.Spec PyProof.Rows

/-- the module's facts, over the base: the heap at the law's entry without what is tracked there -/
structure Mod (K : PySem.W.Frag) (mg : Str → Option Value) (base : Heap) : Prop where
  kin : K.In base
  glob : base.Ns mainGlobals mg
  blt : ∃ mb, base.Ns builtinsNs mb ∧ ∀ x : Str, x ≠ "__name__" → mb x = bootBuiltins x
  nolimit : base.NoLimit

/-- the context: a def's body (or a comprehension's block) running. base: fixed through the whole law; s₀, H₀: the entry; outer: the frames whose slots others may change (a def's callers); stack: all frames that run;
   ex: iterators that were made ahead of the entry and are walked here (a comprehension's); fn: the names whose cells were made at the entry (a def: all; a comprehension's block: its own); calm: not within an except suite; pn: pins that every state bears; xe: what is wanted of an exception that leaves the code -/
structure Cx where
  prog : Program
  w : World
  K : PySem.W.Frag
  mg : Str → Option Value
  base : Heap
  A : Around
  N : List Str
  s₀ : Shared
  H₀ : Hp
  env : Env
  outer : List Env
  stack : List Env
  ex : List Addr
  fn : Str → Bool
  calm : Bool
  pn : List (Addr × Obj)
  xe : Value → Shared → Prop
/-- the callers' frames -/
def frs (l : List Env) : List Addr := l.filterMap (·.frame)
abbrev Cx.fs (X : Cx) : List Addr := frs X.outer

def Vis (sc : Scope) (x : Str) : Prop := sc.names.lookup x = some .local ∨ sc.names.lookup x = some .cell ∨ sc.names.lookup x = some .free
def Loc (sc : Scope) (x : Str) : Prop := sc.names.lookup x = some .local ∨ sc.names.lookup x = some .cell
def Look (env : Env) (h : Heap) (m : Str → Option Value) (x : Str) (u : Value) : Prop :=
  (env.kindOf x = some .local ∧ m x = some u) ∨ ((env.kindOf x = some .cell ∨ env.kindOf x = some .free) ∧ ∃ c, env.cells.lookup x = some c ∧ h.IsCell c (some u))

structure Cx.Ok (X : Cx) : Prop where
  mod : Mod X.K X.mg X.base
  kind : X.env.scope.kind = .function
  glob : X.env.globals = mainGlobals
  blt : X.env.builtins = builtinsNs
  above : X.s₀.heap.objs.size ≤ X.env.locals
  inj : ∀ x y c, X.env.cells.lookup x = some c → X.env.cells.lookup y = some c → x = y
  has : ∀ x, (X.env.kindOf x = some .cell ∨ X.env.kindOf x = some .free) → ∃ c, X.env.cells.lookup x = some c
  cab : ∀ x c, X.fn x = true → X.env.cells.lookup x = some c → X.s₀.heap.objs.size ≤ c
  hd : X.calm = true → X.A.handled = none
  frames : X.A.frames = some X.stack
  stk : X.stack = X.outer ∨ (X.stack = X.env :: X.outer ∧ X.env.frame = some X.env.locals)
  exf : ∀ b ∈ X.ex, b ≠ X.env.locals ∧ ∀ x c, X.env.cells.lookup x = some c → c ≠ b
  bs : ∀ b o, X.base.get? b = some o → X.s₀.heap.get? b = some o ∧ X.H₀ b = none
  bsz : X.base.objs.size ≤ X.s₀.heap.objs.size
  noex : ∀ b o, X.base.get? b = some o → b ∉ X.ex
  exfs : ∀ b ∈ X.ex, b ∉ X.fs
  funs : X.s₀.heap.FunFrames X.base X.outer
  frf : ∀ b ∈ X.fs, X.H₀ b = none

structure Inv (X : Cx) (pins : List (Addr × Obj)) (σ : List (Option V)) (H : Hp) (s : Shared) : Prop where
  ok : X.Ok
  os : s.os = X.s₀.os
  bare : AllBare s.gens
  base : Un X.fs X.ex X.H₀ H X.s₀.heap s.heap
  loc : ∃ m, s.heap.Ns X.env.locals m ∧ ∀ (i : Nat) (x : Str) (v : V), X.N[i]? = some x → σ[i]? = some (some v) → Vis X.env.scope x → ∃ u, RelV v u ∧ Look X.env s.heap m x u
  cell : ∀ x c, X.env.cells.lookup x = some c → ∃ v, s.heap.IsCell c v
  free : H X.env.locals = none
  freeC : ∀ x c, X.env.cells.lookup x = some c → H c = none
  pin : ∀ p ∈ X.pn ++ pins, s.heap.get? p.1 = some p.2 ∧ H p.1 = none ∧ p.1 ≠ X.env.locals ∧ p.1 ∉ X.fs ∧ ∀ v, p.2.data ≠ .cell v
  hok : HOk X.prog X.w H s.heap
  len : σ.length = X.N.length

section
variable {X : Cx} {pins : List (Addr × Obj)} {σ : List (Option V)} {H H' : Hp} {s : Shared} {h' : Heap}

theorem Cx.Ok.nofr (ok : X.Ok) {b : Addr} {o : Obj} (e : X.base.get? b = some o) : b ∉ X.fs := fun hb => by
  have := (ok.funs.mem hb).1
  rw [e] at this; cases this
theorem Inv.bs (I : Inv X pins σ H s) : ∀ b o, X.base.get? b = some o → s.heap.get? b = some o ∧ H b = none := fun b o e =>
  ⟨I.base.keep b o (I.ok.bs b o e).1 (I.ok.bs b o e).2 (I.ok.nofr e) (I.ok.noex b o e), I.base.free b o (I.ok.bs b o e).1 (I.ok.bs b o e).2 (I.ok.noex b o e)⟩
theorem Inv.bk (I : Inv X pins σ H s) : ∀ b o, X.base.get? b = some o → s.heap.get? b = some o := fun b o e => (I.bs b o e).1
theorem Inv.mod (I : Inv X pins σ H s) : Mod X.K X.mg X.base := I.ok.mod
theorem Inv.kIn (I : Inv X pins σ H s) : X.K.In s.heap := I.ok.mod.kin.keeps I.bk
theorem Inv.lt (I : Inv X pins σ H s) : X.env.locals < s.heap.objs.size := let ⟨_, hn, _⟩ := I.loc; hn.lt
theorem Inv.sz (I : Inv X pins σ H s) : X.s₀.heap.objs.size ≤ s.heap.objs.size := Nat.le_trans I.ok.above (Nat.le_of_lt I.lt)
theorem Inv.nofs (I : Inv X pins σ H s) {a : Addr} (h : s.heap.objs.size ≤ a) : a ∉ X.fs := fun hb => by
  obtain ⟨_, o, ho, _⟩ := I.ok.funs.mem hb
  exact absurd (Nat.lt_of_lt_of_le (Heap.lt_size ho) (Nat.le_trans I.sz h)) (Nat.lt_irrefl _)
theorem Inv.cne (I : Inv X pins σ H s) : ∀ x c, X.env.cells.lookup x = some c → c ≠ X.env.locals := fun x c e z => by
  obtain ⟨v, o, ho, hd⟩ := I.cell x c e
  obtain ⟨m, ⟨o', es, ep, ho', hd', _⟩, _⟩ := I.loc
  rw [z, ho'] at ho; cases ho; rw [hd'] at hd; cases hd
theorem Inv.funs (I : Inv X pins σ H s) : s.heap.FunFrames X.base X.outer := by
  have all : ∀ (l : List Env), (∀ b ∈ frs l, b ∈ X.fs) → X.s₀.heap.FunFrames X.base l → s.heap.FunFrames X.base l := by
    intro l
    induction l with
    | nil => intro _ _; trivial
    | cons env r ih =>
      intro hs hl
      obtain ⟨hk, ⟨L, o, hf, hn, ho, hd⟩, hr⟩ := hl
      have hL : L ∈ X.fs := hs L (by unfold frs; rw [List.filterMap_cons, hf]; exact List.mem_cons_self)
      obtain ⟨sl, e⟩ := I.base.slot L o ho (I.ok.frf L hL) hL fun z => I.ok.exfs L z hL
      exact ⟨hk, ⟨L, _, hf, hn, e, hd⟩, ih (fun b hb => hs b (by unfold frs; rw [List.filterMap_cons, hf]; exact List.mem_cons_of_mem _ hb)) hr⟩
  exact all X.outer (fun _ hb => hb) I.ok.funs

/-- the frames that run, for a call -/
theorem Inv.stack (I : Inv X pins σ H s) : s.heap.FunFrames X.base X.stack := by
  rcases I.ok.stk with e | ⟨e, hf⟩
  · rw [e]; exact I.funs
  · rw [e]
    obtain ⟨m, hn, _⟩ := I.loc
    refine .cons (by rw [I.ok.kind]; decide) hf hn ?_ I.funs
    exact Heap.get?_none_of_le (Nat.le_trans I.ok.bsz I.ok.above)
theorem Inv.stkSub (I : Inv X pins σ H s) : ∀ b ∈ frs X.stack, b ∈ X.env.locals :: X.fs := fun b hb => by
  rcases I.ok.stk with e | ⟨e, hf⟩
  · rw [e] at hb; exact List.mem_cons_of_mem _ hb
  · rw [e] at hb
    unfold frs at hb
    rw [List.filterMap_cons, hf] at hb
    exact hb
theorem Inv.stkFree (I : Inv X pins σ H s) : ∀ b ∈ frs X.stack, H b = none := fun b hb => by
  rcases List.mem_cons.mp (I.stkSub b hb) with e | hb
  · rw [e]; exact I.free
  · obtain ⟨_, o, ho, _⟩ := I.ok.funs.mem hb
    exact I.base.free b o ho (I.ok.frf b hb) fun z => I.ok.exfs b z hb

/-- THE STEP: the untracked objects but the frame and the records at ch are kept (the callers' frames up to slots), the frame's map is kept, the new abstract heap is held -/
theorem Inv.step {g' : Array GenState} {t' : Nat} {d' : Drawn} {ch : List Addr} (I : Inv X pins σ H s)
    (hch : ∀ b ∈ ch, (b ∈ X.ex ∨ X.s₀.heap.objs.size ≤ b) ∧ b ≠ X.env.locals ∧ (∀ x c, X.env.cells.lookup x = some c → c ≠ b) ∧ ∀ p ∈ X.pn ++ pins, p.1 ≠ b)
    (keep : ∀ b o, b ≠ X.env.locals → b ∉ X.fs → b ∉ ch → s.heap.get? b = some o → H b = none → h'.get? b = some o)
    (slot : ∀ b o, b ≠ X.env.locals → b ∈ X.fs → b ∉ ch → s.heap.get? b = some o → H b = none → ∃ sl, h'.get? b = some { o with slots := sl }) (free : ∀ b o, b ∉ ch → s.heap.get? b = some o → H b = none → H' b = none)
    (there : ∀ b o, b ∉ ch → s.heap.get? b = some o → ∃ o', h'.get? b = some o')
    (tups : ∀ b xs, H b = some (.tup xs) → H' b = some (.tup xs)) (frzs : ∀ b o u, H b = some (.frz o u) → H' b = some (.frz o u)) (tbls : ∀ b ps, H b = some (.tbl ps) → ∃ more, H' b = some (.tbl (ps ++ more)))
    (ns : ∀ m, s.heap.Ns X.env.locals m → h'.Ns X.env.locals m) (hok : HOk X.prog X.w H' h') (hg : AllBare g') :
    Inv X pins σ H' { s with heap := h', gens := g', drawn := d', toks := t' } := by
  have neL : ∀ b o, X.s₀.heap.get? b = some o → b ≠ X.env.locals := fun b o e => Nat.ne_of_lt (Nat.lt_of_lt_of_le (Heap.lt_size e) I.ok.above)
  have neC : ∀ b o, X.s₀.heap.get? b = some o → b ∉ X.ex → b ∉ ch := fun b o e hx hb => by
    rcases (hch b hb).1 with z | z
    · exact hx z
    · exact absurd (Nat.lt_of_lt_of_le (Heap.lt_size e) z) (Nat.lt_irrefl _)
  have cellK : ∀ x c, X.env.cells.lookup x = some c → ∀ v, s.heap.IsCell c v → h'.IsCell c v := fun x c e v ⟨o, ho, hd⟩ => by
    have nch : c ∉ ch := fun z => (hch c z).2.2.1 x c e rfl
    by_cases hc : c ∈ X.fs
    · obtain ⟨sl, q⟩ := slot c o (I.cne x c e) hc nch ho (I.freeC x c e)
      exact ⟨_, q, hd⟩
    · exact ⟨o, keep c o (I.cne x c e) hc nch ho (I.freeC x c e), hd⟩
  refine ⟨I.ok, I.os, hg, ⟨fun b o e n hb hx => ?_, fun b o e n hb hx => ?_, fun b o e n hx => ?_, fun b o e hx => ?_, fun b xs e => tups b xs (I.base.tups b xs e), fun b o xs e => frzs b o xs (I.base.frzs b o xs e), fun b ps e => ?_⟩, ?_, fun x c e => ?_, ?_, fun x c e => ?_, fun p hp => ?_, hok, I.len⟩
  · exact keep b o (neL b o e) hb (neC b o e hx) (I.base.keep b o e n hb hx) (I.base.free b o e n hx)
  · obtain ⟨sl, e1⟩ := I.base.slot b o e n hb hx
    obtain ⟨sl', e2⟩ := slot b _ (neL b o e) hb (neC b o e hx) e1 (I.base.free b o e n hx)
    exact ⟨sl', e2⟩
  · obtain ⟨o', e1⟩ := I.base.there b o e hx
    exact free b o' (neC b o e hx) e1 (I.base.free b o e n hx)
  · obtain ⟨o', e1⟩ := I.base.there b o e hx
    exact there b o' (neC b o e hx) e1
  · obtain ⟨m1, e1⟩ := I.base.tbls b ps e
    obtain ⟨m2, e2⟩ := tbls b _ e1
    exact ⟨m1 ++ m2, by rw [e2, Array.append_assoc]⟩
  · obtain ⟨m, hn, hl⟩ := I.loc
    refine ⟨m, ns m hn, fun i x v e1 e2 e3 => ?_⟩
    obtain ⟨u, r, l⟩ := hl i x v e1 e2 e3
    refine ⟨u, r, ?_⟩
    rcases l with l | ⟨k, c, e, z⟩
    · exact .inl l
    · exact .inr ⟨k, c, e, cellK x c e _ z⟩
  · obtain ⟨v, z⟩ := I.cell x c e
    exact ⟨v, cellK x c e v z⟩
  · obtain ⟨m, ⟨o, _, _, ho, _⟩, _⟩ := I.loc
    exact free _ o (fun z => (hch _ z).2.1 rfl) ho I.free
  · obtain ⟨v, o, ho, hd⟩ := I.cell x c e
    exact free c o (fun z => (hch c z).2.2.1 x c e rfl) ho (I.freeC x c e)
  · obtain ⟨e, n, ne, nf, d⟩ := I.pin p hp
    have nch : p.1 ∉ ch := fun z => (hch p.1 z).2.2.2 p hp rfl
    exact ⟨keep p.1 p.2 ne nf nch e n, free p.1 p.2 nch e n, ne, nf, d⟩
/-- .. where the frame's own object is kept too -/
theorem Inv.un {t' : Nat} (I : Inv X pins σ H s) (u : Un X.fs [] H H' s.heap h') (hok : HOk X.prog X.w H' h') : Inv X pins σ H' { s with heap := h', toks := t' } := by
  obtain ⟨m, ⟨o, es, ep, ho, r⟩, _⟩ := id I.loc
  obtain ⟨sl, hL⟩ := u.any ho I.free (by simp)
  exact I.step (g' := s.gens) (d' := s.drawn) (ch := []) (fun _ z => nomatch z) (fun b o _ hb _ e n => u.keep b o e n hb (by simp)) (fun b o _ hb _ e n => u.slot b o e n hb (by simp)) (fun b o _ e n => u.free b o e n (by simp)) (fun b o _ e => u.there b o e (by simp)) u.tups u.frzs u.tbls (fun m' hm => by
    obtain ⟨o', es', ep', ho', r'⟩ := hm
    rw [ho] at ho'; cases ho'
    exact ⟨_, es', ep', hL, r'⟩) hok I.bare
/-- behind a call (or a comprehension's block): the slots of this frame may have changed too, the records at ch may have turned -/
theorem Inv.call {g' : Array GenState} {t' : Nat} {d' : Drawn} {ch : List Addr} (I : Inv X pins σ H s) (u : Un (frs X.stack) ch H H' s.heap h') (hok : HOk X.prog X.w H' h') (hg : AllBare g')
    (hch : ∀ b ∈ ch, (b ∈ X.ex ∨ X.s₀.heap.objs.size ≤ b) ∧ b ≠ X.env.locals ∧ (∀ x c, X.env.cells.lookup x = some c → c ≠ b) ∧ ∀ p ∈ X.pn ++ pins, p.1 ≠ b) :
    Inv X pins σ H' { s with heap := h', gens := g', drawn := d', toks := t' } := by
  obtain ⟨m, ⟨o, es, ep, ho, r⟩, _⟩ := id I.loc
  obtain ⟨sl, hL⟩ := u.any ho I.free fun z => (hch _ z).2.1 rfl
  exact I.step (ch := ch) hch (fun b o hL hb hc e n => u.keep b o e n (fun z => (List.mem_cons.mp (I.stkSub b z)).elim hL hb) hc) (fun b o _ _ hc e n => u.any e n hc) (fun b o hc e n => u.free b o e n hc) (fun b o hc e => u.there b o e hc) u.tups u.frzs u.tbls (fun m' hm => by
    obtain ⟨o', es', ep', ho', r'⟩ := hm
    rw [ho] at ho'; cases ho'
    exact ⟨_, es', ep', hL, r'⟩) hok hg
/-- an untracked record of ours (an iterator) has turned -/
theorem Inv.turned {t' : Nat} {it : Addr} (I : Inv X pins σ H s) (k : ∀ b o, b ≠ it → s.heap.get? b = some o → h'.get? b = some o) (hn : H it = none) (hL : it ≠ X.env.locals)
    (h1 : it ∈ X.ex ∨ X.s₀.heap.objs.size ≤ it) (h2 : ∀ x c, X.env.cells.lookup x = some c → c ≠ it) (h3 : ∀ p ∈ X.pn ++ pins, p.1 ≠ it) : Inv X pins σ H { s with heap := h', toks := t' } := by
  have nit : ∀ b u, H b = some u → b ≠ it := fun b u e z => by rw [z, hn] at e; cases e
  refine I.step (g' := s.gens) (d' := s.drawn) (ch := [it]) (fun b hb => ?_) (fun b o _ _ hc e _ => k b o (fun z => hc (by simp [z])) e) (fun b o _ _ hc e _ => ⟨o.slots, k b o (fun z => hc (by simp [z])) e⟩) (fun _ _ _ _ n => n)
    (fun b o hc e => ⟨o, k b o (fun z => hc (by simp [z])) e⟩) (fun _ _ e => e) (fun _ _ _ e => e) (fun b ps e => ⟨#[], by rw [e]; simp⟩) (fun m hm => ?_) (fun b u e => ?_) I.bare
  · have e : b = it := by simpa using hb
    subst e
    exact ⟨h1, hL, h2, h3⟩
  · obtain ⟨o, es, ep, ho, r⟩ := hm
    exact ⟨o, es, ep, k _ o (Ne.symm hL) ho, r⟩
  · refine (I.hok b u e).stay (fun c v hc q => k c v ?_ q) (fun _ q => q) fun _ _ q => q
    rcases hc with z | z
    · rw [z]; exact nit b u e
    · exact nit c _ z
theorem Inv.tok (I : Inv X pins σ H s) (t : Nat) : Inv X pins σ H { s with toks := t } := I.un (h' := s.heap) (t' := t) Un.refl I.hok
/-- all objects kept -/
theorem Inv.kept {t' : Nat} (I : Inv X pins σ H s) (k : ∀ b u, s.heap.get? b = some u → h'.get? b = some u) : Inv X pins σ H { s with heap := h', toks := t' } := I.un (Un.kept k) (I.hok.kept k)
/-- a new object laid and tracked -/
theorem Inv.laid {a : Addr} {o : HO} {t' : Nat} (I : Inv X pins σ H s) (k : ∀ b u, s.heap.get? b = some u → h'.get? b = some u) (hp : s.heap.objs.size ≤ a) (new : ObjOk X.prog X.w (upd H a o) h' a o) :
    Inv X pins σ (upd H a o) { s with heap := h', toks := t' } := I.un (Un.laid k hp (I.hok.fresh hp)) (I.hok.laid k hp new)
/-- an object written -/
theorem Inv.write {x e : Addr} {o : HO} {t' : Nat} (I : Inv X pins σ H s) (mu : Mut (H x)) (he : e = x ∨ H e = some (.own x)) (k : ∀ b u, b ≠ e → s.heap.get? b = some u → h'.get? b = some u) (heo : ∃ u, h'.get? e = some u)
    (new : ObjOk X.prog X.w (upd H x o) h' x o) : Inv X pins σ (upd H x o) { s with heap := h', toks := t' } := I.un (Un.write mu he k heo) (I.hok.write mu he k heo new)
theorem Inv.pins_of {pins' : List (Addr × Obj)} (I : Inv X pins σ H s) (h : ∀ p ∈ pins', s.heap.get? p.1 = some p.2 ∧ H p.1 = none ∧ p.1 ≠ X.env.locals ∧ p.1 ∉ X.fs ∧ ∀ v, p.2.data ≠ .cell v) : Inv X pins' σ H s :=
  ⟨I.ok, I.os, I.bare, I.base, I.loc, I.cell, I.free, I.freeC, fun p hp => (List.mem_append.mp hp).elim (fun z => I.pin p (List.mem_append_left _ z)) (h p), I.hok, I.len⟩

theorem nodup_ix {N : List Str} (hN : N.Nodup) {i j : Nat} {x : Str} (a : N[i]? = some x) (b : N[j]? = some x) : i = j := by
  obtain ⟨h1, e1⟩ := List.getElem?_eq_some_iff.mp a
  obtain ⟨h2, e2⟩ := List.getElem?_eq_some_iff.mp b
  exact (List.getElem_inj hN).mp (e1.trans e2.symm)

/-- a name is stored; what changed -/
theorem store_ok2 {M : Model} {A : Around} {E : Value → Shared → Prop} {i : Nat} {x : Str} {v : V} {u : Value} {Q : Unit → Shared → Prop} (I : Inv X pins σ H s) (hN : X.N.Nodup) (hi : X.N[i]? = some x) (hx : Loc X.env.scope x) (r : RelV v u)
    (h : ∀ s', Inv X pins (σ.set i (some v)) H s' → (∃ a, Heap.SameBut a s.heap s'.heap ∧ (a = X.env.locals ∨ X.env.cells.lookup x = some a)) → Q () s') (hf : X.fn x = true ∨ X.env.scope.names.lookup x = some .local := by first | exact .inl rfl | exact .inr rfl | assumption) : wpAny M A (storeName X.env x u) Q E s := by
  obtain ⟨m, hn, hl⟩ := id I.loc
  have hcls : (X.env.scope.kind == .class || (X.env.scope.kind == .module && X.env.locals != X.env.globals)) = false := by rw [I.ok.kind]; rfl
  have hiσ : i < σ.length := by rw [I.len]; exact (List.getElem?_eq_some_iff.mp hi).1
  have cne := I.cne
  have tracked : ∀ {a : Addr} {h' : Heap}, (∃ o, s.heap.get? a = some o ∧ H a = none) → Heap.SameBut a s.heap h' → HOk X.prog X.w H h' := fun {a h'} ha hs b ob e => by
    obtain ⟨_, _, hfree⟩ := ha
    refine (I.hok b ob e).stay (fun c w' hc q => (hs.2 c ?_).trans q) (fun _ q => q) fun _ _ q => q
    rintro rfl
    rcases hc with rfl | hc
    · rw [hfree] at e; cases e
    · rw [hfree] at hc; cases hc
  rcases hx with hk | hk
  · refine wpAny_storeName_local hk hn (fun h' hn' hs => ?_) hcls
    obtain ⟨oL, _, _, hoL, _⟩ := id hn
    refine h _ ⟨I.ok, I.os, I.bare, ⟨fun b o e n hb hx => ?_, fun b o e n hb hx => ?_, I.base.free, fun b o e hx => ?_, I.base.tups, I.base.frzs, I.base.tbls⟩, ⟨_, hn', fun j y v' e1 e2 e3 => ?_⟩, fun y c e => ?_, I.free, I.freeC, fun p hp => ?_, tracked ⟨oL, hoL, I.free⟩ hs, by simpa using I.len⟩ ⟨_, hs, .inl rfl⟩
    · exact (hs.2 b (Nat.ne_of_lt (Nat.lt_of_lt_of_le (Heap.lt_size e) I.ok.above))).trans (I.base.keep b o e n hb hx)
    · obtain ⟨sl, e1⟩ := I.base.slot b o e n hb hx
      exact ⟨sl, (hs.2 b (Nat.ne_of_lt (Nat.lt_of_lt_of_le (Heap.lt_size e) I.ok.above))).trans e1⟩
    · obtain ⟨o', e1⟩ := I.base.there b o e hx
      exact ⟨o', (hs.2 b (Nat.ne_of_lt (Nat.lt_of_lt_of_le (Heap.lt_size e) I.ok.above))).trans e1⟩
    · by_cases hj : j = i
      · subst hj
        rw [hi] at e1; cases e1
        rw [List.getElem?_set_self hiσ] at e2
        cases e2
        exact ⟨u, r, .inl ⟨hk, by simp⟩⟩
      · rw [List.getElem?_set_ne (Ne.symm hj)] at e2
        obtain ⟨u', r', q⟩ := hl j y v' e1 e2 e3
        refine ⟨u', r', ?_⟩
        rcases q with ⟨k, e⟩ | ⟨k, c, e, z⟩
        · refine .inl ⟨k, ?_⟩
          have : y ≠ x := fun e => hj (nodup_ix hN e1 (e ▸ hi))
          simp [this, e]
        · exact .inr ⟨k, c, e, z.sameBut hs (cne y c e)⟩
    · obtain ⟨w', z⟩ := I.cell y c e
      exact ⟨w', z.sameBut hs (cne y c e)⟩
    · obtain ⟨e, n, ne, nf, d⟩ := I.pin p hp
      exact ⟨(hs.2 p.1 ne).trans e, n, ne, nf, d⟩
  · have hfn : X.fn x = true := by
      rcases hf with z | z
      · exact z
      · rw [z] at hk; cases hk
    obtain ⟨c, hc⟩ := I.ok.has x (.inl hk)
    obtain ⟨w', z⟩ := I.cell x c hc
    refine wpAny_storeName_cell I.ok.kind hk hc z (fun h' hc' hs => ?_)
    obtain ⟨oc, hoc, hocd⟩ := id z
    refine h { s with heap := h' } ⟨I.ok, I.os, I.bare, ⟨fun b o e n hb hx => ?_, fun b o e n hb hx => ?_, I.base.free, fun b o e hx => ?_, I.base.tups, I.base.frzs, I.base.tbls⟩, ⟨m, hn.sameBut hs (Ne.symm (cne x c hc)), fun j y v' e1 e2 e3 => ?_⟩, fun y c' e => ?_, I.free, I.freeC, fun p hp => ?_, tracked ⟨oc, hoc, I.freeC x c hc⟩ hs, by simpa using I.len⟩ ⟨c, hs, .inr hc⟩
    · exact (hs.2 b (Nat.ne_of_lt (Nat.lt_of_lt_of_le (Heap.lt_size e) (I.ok.cab x c hfn hc)))).trans (I.base.keep b o e n hb hx)
    · obtain ⟨sl, e1⟩ := I.base.slot b o e n hb hx
      exact ⟨sl, (hs.2 b (Nat.ne_of_lt (Nat.lt_of_lt_of_le (Heap.lt_size e) (I.ok.cab x c hfn hc)))).trans e1⟩
    · obtain ⟨o', e1⟩ := I.base.there b o e hx
      exact ⟨o', (hs.2 b (Nat.ne_of_lt (Nat.lt_of_lt_of_le (Heap.lt_size e) (I.ok.cab x c hfn hc)))).trans e1⟩
    · by_cases hj : j = i
      · subst hj
        rw [hi] at e1; cases e1
        rw [List.getElem?_set_self hiσ] at e2
        cases e2
        exact ⟨u, r, .inr ⟨.inl hk, c, hc, hc'⟩⟩
      · rw [List.getElem?_set_ne (Ne.symm hj)] at e2
        obtain ⟨u', r', q⟩ := hl j y v' e1 e2 e3
        refine ⟨u', r', ?_⟩
        rcases q with q | ⟨k, c', e, z'⟩
        · exact .inl q
        · refine .inr ⟨k, c', e, z'.sameBut hs ?_⟩
          rintro rfl
          exact hj (nodup_ix hN e1 (I.ok.inj _ _ _ e hc ▸ hi))
    · by_cases hcc : c' = c
      · subst hcc; exact ⟨_, hc'⟩
      · obtain ⟨w2, z2⟩ := I.cell y c' e
        exact ⟨w2, z2.sameBut hs hcc⟩
    · obtain ⟨e, n, ne, nf, d⟩ := I.pin p hp
      refine ⟨(hs.2 p.1 ?_).trans e, n, ne, nf, d⟩
      intro q
      rw [q, hoc] at e
      have q' : oc = p.2 := Option.some.inj e
      exact d w' (by rw [← q']; exact hocd)
theorem store_ok {M : Model} {A : Around} {E : Value → Shared → Prop} {i : Nat} {x : Str} {v : V} {u : Value} {Q : Unit → Shared → Prop} (I : Inv X pins σ H s) (hN : X.N.Nodup) (hi : X.N[i]? = some x) (hx : Loc X.env.scope x) (r : RelV v u)
    (h : ∀ s', Inv X pins (σ.set i (some v)) H s' → Q () s') (hf : X.fn x = true ∨ X.env.scope.names.lookup x = some .local := by first | exact .inl rfl | exact .inr rfl | assumption) : wpAny M A (storeName X.env x u) Q E s :=
  store_ok2 I hN hi hx r (fun s' I' _ => h s' I') hf
/-- behind a call or a block, the state as it is -/
theorem Inv.call' {s' : Shared} {ch : List Addr} (I : Inv X pins σ H s) (ho : s'.os = s.os) (u : Un (frs X.stack) ch H H' s.heap s'.heap) (hok : HOk X.prog X.w H' s'.heap) (hg : AllBare s'.gens)
    (hch : ∀ b ∈ ch, (b ∈ X.ex ∨ X.s₀.heap.objs.size ≤ b) ∧ b ≠ X.env.locals ∧ (∀ x c, X.env.cells.lookup x = some c → c ≠ b) ∧ ∀ p ∈ X.pn ++ pins, p.1 ≠ b) : Inv X pins σ H' s' := by
  obtain ⟨h', g', d', t', o'⟩ := s'
  have e : o' = s.os := ho
  subst e
  exact I.call (g' := g') (t' := t') (d' := d') u hok hg hch
end

/-! ### the judgements -/
/-- an exception: its class, its own dict's address (where it has one), the abstract heap behind it -/
abbrev XK := Value → Option Addr → Hp → Prop
abbrev St := List (Option V)
abbrev VK := V → Hp → Prop
/-- an expression's reading; a test's; an argument list's -/
abbrev TE := St → Hp → VK → Prop
abbrev TT := St → Hp → (Bool → Hp → Prop) → Prop
abbrev TA := St → Hp → (List V → Hp → Prop) → Prop
/-- what is wanted behind a statement -/
structure Ends where
  nx : St → Hp → Prop
  rt : VK
  bk : St → Hp → Prop := fun _ _ => False
  ct : St → Hp → Prop := fun _ _ => False
abbrev TS := Ends → St → Hp → Prop

def EP (X : Cx) (pins : List (Addr × Obj)) (σ : St) (Q : VK) (u : Value) (s' : Shared) : Prop := ∃ v H', Inv X pins σ H' s' ∧ RelV v u ∧ Q v H'
def TP (X : Cx) (pins : List (Addr × Obj)) (σ : St) (Q : Bool → Hp → Prop) (b : Bool) (s' : Shared) : Prop := ∃ H', Inv X pins σ H' s' ∧ Q b H'
def AP (X : Cx) (pins : List (Addr × Obj)) (σ : St) (Q : List V → Hp → Prop) (us : List Value) (s' : Shared) : Prop := ∃ vs H', Inv X pins σ H' s' ∧ Vals vs us ∧ Q vs H'
def SP (X : Cx) (pins : List (Addr × Obj)) (D : Ends) (f : Flow) (s' : Shared) : Prop :=
  match f with
  | .next => ∃ σ' H', Inv X pins σ' H' s' ∧ D.nx σ' H'
  | .brk => ∃ σ' H', Inv X pins σ' H' s' ∧ D.bk σ' H'
  | .cont => ∃ σ' H', Inv X pins σ' H' s' ∧ D.ct σ' H'
  | .ret u => ∃ v σ' H', Inv X pins σ' H' s' ∧ RelV v u ∧ D.rt v H'

def PE (X : Cx) (e : Expr) (t : TE) : Prop :=
  ∀ (pins : List (Addr × Obj)) (s : Shared) (σ : St) (H : Hp) (Q : VK), Inv X pins σ H s → t σ H Q → wpAny (model X.prog X.w) X.A (eval e X.env) (EP X pins σ Q) X.xe s
def PT (X : Cx) (e : Expr) (t : TT) : Prop :=
  ∀ (pins : List (Addr × Obj)) (s : Shared) (σ : St) (H : Hp) (Q : Bool → Hp → Prop), Inv X pins σ H s → t σ H Q → wpAny (model X.prog X.w) X.A (isTrue e X.env (eval e X.env)) (TP X pins σ Q) X.xe s
/-- a test whatever its 'whole' is (and, or) -/
def PW (X : Cx) (e : Expr) (t : TT) : Prop :=
  ∀ (whole : Sem Value) (pins : List (Addr × Obj)) (s : Shared) (σ : St) (H : Hp) (Q : Bool → Hp → Prop), Inv X pins σ H s → t σ H Q → wpAny (model X.prog X.w) X.A (isTrue e X.env whole) (TP X pins σ Q) X.xe s
theorem PW.pt {X : Cx} {e : Expr} {t : TT} (h : PW X e t) : PT X e t := h _
/-- an argument list (no star), from the left -/
def PA (X : Cx) (es : List Expr) (t : TA) : Prop :=
  ∀ (pos : Pos) (pins : List (Addr × Obj)) (s : Shared) (σ : St) (H : Hp) (Q : List V → Hp → Prop), Inv X pins σ H s → t σ H Q → wpAny (model X.prog X.w) X.A (spliced (backTo pos (starEach es X.env))) (AP X pins σ Q) X.xe s
def PS (X : Cx) (st : Stmt) (t : TS) : Prop :=
  ∀ (pins : List (Addr × Obj)) (s : Shared) (σ : St) (H : Hp) (D : Ends), Inv X pins σ H s → t D σ H → wpAny (model X.prog X.w) X.A (exec st X.env) (SP X pins D) X.xe s
def PSs (X : Cx) (st : List Stmt) (t : TS) : Prop :=
  ∀ (pins : List (Addr × Obj)) (s : Shared) (σ : St) (H : Hp) (D : Ends), Inv X pins σ H s → t D σ H → wpAny (model X.prog X.w) X.A (execs st X.env) (SP X pins D) X.xe s
/-- weaken the end -/
theorem thn {α : Type} {t : Sem α} {Q Q' : α → Shared → Prop} {M : Model} {A : Around} {E : Value → Shared → Prop} {s : Shared} (h : wpAny M A t Q E s) (hQ : ∀ a s, Q a s → Q' a s) : wpAny M A t Q' E s := wpAny_mono h hQ fun _ _ x => x
end L2

namespace L2
open PySem PySem.Spec PyProof.Rows
section
variable {X : Cx}

/-- two expressions in a row -/
theorem bin {a b : Expr} {ta tb : TE} (ha : PE X a ta) (hb : PE X b tb) {pins : List (Addr × Obj)} {s : Shared} {σ : St} {H : Hp} {R : V → V → Hp → Prop} (I : Inv X pins σ H s) (h : ta σ H fun x H1 => tb σ H1 fun y H2 => R x y H2)
    {α : Type} {Q : α → Shared → Prop} {f : Value → Value → Sem α}
    (hf : ∀ v u s2 x y H2, Inv X pins σ H2 s2 → RelV x v → RelV y u → R x y H2 → wpAny (model X.prog X.w) X.A (f v u) Q X.xe s2) :
    wpAny (model X.prog X.w) X.A (eval a X.env) (fun v s₁ => wpAny (model X.prog X.w) X.A (eval b X.env) (fun u s₂ => wpAny (model X.prog X.w) X.A (f v u) Q X.xe s₂) X.xe s₁) X.xe s := by
  refine thn (ha pins s σ H _ I h) fun v s1 ⟨x, H1, I1, r1, q1⟩ => ?_
  refine thn (hb pins s1 σ H1 _ I1 q1) fun u s2 ⟨y, H2, I2, r2, q2⟩ => ?_
  exact hf v u s2 x y H2 I2 r1 r2 q2

/-! ### names and constants -/
def tVar (i : Nat) : TE := fun σ H Q => ∃ v, σ[i]? = some (some v) ∧ Q v H
def tC (v : V) : TE := fun _ H Q => Q v H
theorem pe_var {i : Nat} {x : Str} {pos : Pos} (hN : X.N[i]? = some x) (hv : Vis X.env.scope x) (hd : (x == ("__debug__" : Str)) = false := by decide) (hcd : (x == ("__classdict__" : Str)) = false := by decide) : PE X (.Name x pos) (tVar i) := by
  intro pins s σ H Q I h
  obtain ⟨v, e, h⟩ := h
  obtain ⟨m, hn, hl⟩ := I.loc
  obtain ⟨u, r, l⟩ := hl i x v hN e hv
  have fin : EP X pins σ Q u s := ⟨v, H, I, r, h⟩
  rcases l with ⟨hk, hm⟩ | ⟨hk, c, hc, hcell⟩
  · exact wpAny_Name (wpAny_loadName_local I.ok.kind hk hn hm fin) hd
  · rcases hk with hk | hk
    · exact wpAny_Name (wpAny_loadName_cell I.ok.kind hk hc hcell fin) hd
    · exact wpAny_Name (wpAny_loadName_free I.ok.kind hk hc hcell fin hcd) hd
theorem pe_int {i j pos} : PE X (.Constant (.int i) j pos) (tC (.int i)) := fun _ _ _ H _ I h => wpAny_Constant_int ⟨.int i, H, I.tok _, ⟨_, rfl⟩, h⟩
theorem pe_bl {b j pos} : PE X (.Constant (.bool b) j pos) (tC (.bl b)) := fun _ _ _ H _ I h => Constant_bool ⟨.bl b, H, I, rfl, h⟩
theorem pe_non {j pos} : PE X (.Constant .none j pos) (tC .non) := fun _ _ _ H _ I h => Constant_none ⟨.non, H, I, rfl, h⟩
theorem pe_str {x j pos} : PE X (.Constant (.str x) j pos) (tC (.str x)) := fun _ _ _ H _ I h => Calls.Constant_str ⟨.str x, H, I.tok _, ⟨_, rfl⟩, h⟩

/-- a global name of the def -/
def Gl (X : Cx) (x : Str) : Prop := X.env.kindOf x = some .globalImplicit
theorem ld_glob {E : Value → Shared → Prop} {pins : List (Addr × Obj)} {s : Shared} {σ : St} {H : Hp} {x : Str} {u : Value} {pos : Pos} {Q : Value → Shared → Prop} (I : Inv X pins σ H s) (hg : Gl X x) (hm : X.mg x = some u) (h : Q u s)
    (hd : (x == ("__debug__" : Str)) = false := by decide) : wpAny (model X.prog X.w) X.A (eval (.Name x pos) X.env) Q E s :=
  Calls.Name_function_global I.ok.kind hg (Calls.loadGlobal_global (by rw [I.ok.glob]; exact I.mod.glob.keeps I.bk) hm h) hd
theorem ld_blt {E : Value → Shared → Prop} {pins : List (Addr × Obj)} {s : Shared} {σ : St} {H : Hp} {x : Str} {u : Value} {pos : Pos} {Q : Value → Shared → Prop} (I : Inv X pins σ H s) (hg : Gl X x) (hm : X.mg x = none) (hv : bootBuiltins x = some u) (h : Q u s)
    (hn : x ≠ "__name__" := by decide) (hd : (x == ("__debug__" : Str)) = false := by decide) : wpAny (model X.prog X.w) X.A (eval (.Name x pos) X.env) Q E s := by
  obtain ⟨mb, h1, h2⟩ := I.mod.blt
  exact Calls.Name_function_global I.ok.kind hg (Calls.loadGlobal_builtin (by rw [I.ok.glob]; exact I.mod.glob.keeps I.bk) hm (by rw [I.ok.blt]; exact h1.keeps I.bk) ((h2 x hn).trans hv) h) hd
/-- a module's constant, a class, a function, as a value -/
theorem pe_glob {x : Str} {v : V} {u : Value} {pos : Pos} (hg : Gl X x) (hm : X.mg x = some u) (r : RelV v u) (hd : (x == ("__debug__" : Str)) = false := by decide) : PE X (.Name x pos) (tC v) :=
  fun _ _ _ H _ I h => ld_glob I hg hm ⟨v, H, I, r, h⟩ hd
theorem pe_bltn {x : Str} {v : V} {u : Value} {pos : Pos} (hg : Gl X x) (hm : X.mg x = none) (hv : bootBuiltins x = some u) (r : RelV v u) (hn : x ≠ "__name__" := by decide) (hd : (x == ("__debug__" : Str)) = false := by decide) : PE X (.Name x pos) (tC v) :=
  fun _ _ _ H _ I h => ld_blt I hg hm hv ⟨v, H, I, r, h⟩ hn hd

/-! ### arithmetic -/
/-- two ints -/
def t2I (ta tb : TE) (k : Int → Int → Hp → Prop) : St → Hp → Prop := fun σ H => ta σ H fun x H1 => tb σ H1 fun y H2 => ∃ i j, x = .int i ∧ y = .int j ∧ k i j H2
def tAdd (ta tb : TE) : TE := fun σ H Q => t2I ta tb (fun i j H2 => Q (.int (i + j)) H2) σ H
def tSub (ta tb : TE) : TE := fun σ H Q => t2I ta tb (fun i j H2 => Q (.int (i - j)) H2) σ H
/-- the left factor below 2^64 -/
def tMul (ta tb : TE) : TE := fun σ H Q => t2I ta tb (fun i j H2 => (-(2 ^ 64) < i ∧ i < 2 ^ 64) ∧ Q (.int (i * j)) H2) σ H
variable {a b : Expr} {ta tb : TE} {pos : Pos}

/-! ### comparisons -/
def PC (X : Cx) (op : CmpOp) (a b : Expr) (t : TE) : Prop :=
  ∀ (pins : List (Addr × Obj)) (s : Shared) (σ : St) (H : Hp) (Q : VK), Inv X pins σ H s → t σ H Q →
    wpAny (model X.prog X.w) X.A (eval a X.env) (fun v s₁ => wpAny (model X.prog X.w) X.A (eval b X.env) (fun u s₂ => wpAny (model X.prog X.w) X.A (compareOp op v u) (EP X pins σ Q) X.xe s₂) X.xe s₁) X.xe s
def tCmp (p : Int → Int → Bool) (ta tb : TE) : TE := fun σ H Q => t2I ta tb (fun i j H2 => Q (.bl (p i j)) H2) σ H
abbrev tLt : TE → TE → TE := tCmp fun i j => decide (i < j)
abbrev tLe : TE → TE → TE := tCmp fun i j => decide (i ≤ j)
abbrev tGt : TE → TE → TE := tCmp fun i j => decide (j < i)
abbrev tGe : TE → TE → TE := tCmp fun i j => decide (j ≤ i)
abbrev tEqI : TE → TE → TE := tCmp fun i j => decide (i = j)
abbrev tNeI : TE → TE → TE := tCmp fun i j => !decide (i = j)
/-- is None -/
def tIsN (ta : TE) : TE := fun σ H Q => ta σ H fun x H1 => Q (.bl (decide (x = .non))) H1
def tNotN (ta : TE) : TE := fun σ H Q => ta σ H fun x H1 => Q (.bl (!decide (x = .non))) H1
/-- a comparison as a value, as a test -/
def tB (t : TE) : TT := fun σ H Q => t σ H fun x H1 => ∃ c, x = .bl c ∧ Q c H1
theorem pt_cmp {op : CmpOp} {t : TE} (h : PC X op a b t) (h1 : behindInMarks op b = false := by first | exact nobehind _ (by decide) (by decide) | rfl) : PT X (.Compare a [op] [b] pos) (tB t) := by
  intro pins s σ H Q I hw
  refine wpAny_isTrue_Compare1 (thn (h pins s σ H _ I hw) fun v s1 h1 => thn h1 fun u s2 h2 => thn h2 fun c s3 ⟨x, H1, I1, r1, q1⟩ => ?_) h1
  obtain ⟨d, rfl, q⟩ := q1
  cases r1
  exact wpAny_truthy_bool ⟨H1, I1, q⟩
/-- an expression whose value is a bool, as a test -/
theorem pt_val {e : Expr} {t : TE} (h : PE X e t) (he : ∀ whole, isTrue e X.env whole = (do let v ← whole; standAt e.pos; holding [v] (truthy v)) := by intro _; rfl) : PT X e (tB t) := by
  intro pins s σ H Q I hw
  refine isTrue_plain (thn (h pins s σ H _ I hw) fun v s1 ⟨x, H1, I1, r1, q1⟩ => ?_) (he _)
  obtain ⟨d, rfl, q⟩ := q1
  cases r1
  exact wpAny_truthy_bool ⟨H1, I1, q⟩

/-! ### and, or, not -/
variable {tA tB' : TT} {rest : List Expr}
def tAnd (t u : TT) : TT := fun σ H Q => t σ H fun c H1 => if c = true then u σ H1 Q else Q false H1
def tOr (t u : TT) : TT := fun σ H Q => t σ H fun c H1 => if c = true then Q true H1 else u σ H1 Q
def tNot (t : TT) : TT := fun σ H Q => t σ H fun c H1 => Q (!c) H1
theorem pw_or1 (ha : PT X a tA) : PW X (.BoolOp .Or [a] pos) tA := by
  intro wh pins s σ H Q I h
  refine isTrue_or (thn (ha pins s σ H Q I h) fun c s1 e => ?_)
  cases c with
  | false => exact isTrue_or_nil e
  | true => exact e
theorem pw_or (ha : PT X a tA) (hb : PW X (.BoolOp .Or (b :: rest) pos) tB') : PW X (.BoolOp .Or (a :: b :: rest) pos) (tOr tA tB') := by
  intro wh pins s σ H Q I h
  refine isTrue_or (thn (ha pins s σ H _ I h) fun c s1 ⟨H1, I1, q1⟩ => ?_)
  cases c with
  | true => exact ⟨H1, I1, q1⟩
  | false => exact hb wh pins s1 σ H1 Q I1 q1
theorem pt_not (ha : PT X a tA) : PT X (.UnaryOp .Not a pos) (tNot tA) := by
  intro pins s σ H Q I h
  exact isTrue_not (ha pins s σ H (fun c H1 => Q (!c) H1) I h)
/-- .. as values (bools) -/
def tAndV (ta tb : TE) : TE := fun σ H Q => ta σ H fun x H1 => ∃ c, x = .bl c ∧ if c = true then tb σ H1 Q else Q (.bl false) H1
def tOrV (ta tb : TE) : TE := fun σ H Q => ta σ H fun x H1 => ∃ c, x = .bl c ∧ if c = true then Q (.bl true) H1 else tb σ H1 Q
def tNotV (ta : TE) : TE := fun σ H Q => ta σ H fun x H1 => ∃ c, x = .bl c ∧ Q (.bl (!c)) H1
theorem pe_one {op} {t : TE} (h : PE X a t) : PE X (.BoolOp op [a] pos) t := fun pins s σ H Q I hw => BoolOp_one (h pins s σ H Q I hw)
theorem pe_and (ha : PE X a ta) (hb : PE X (.BoolOp .And (b :: rest) pos) tb) : PE X (.BoolOp .And (a :: b :: rest) pos) (tAndV ta tb) := by
  intro pins s σ H Q I h
  refine BoolOp_and (thn (ha pins s σ H _ I h) fun v s1 ⟨x, H1, I1, r1, q1⟩ => ?_)
  obtain ⟨c, rfl, q1⟩ := q1
  cases r1
  refine wpAny_truthy_bool ?_
  cases c with
  | true => exact hb pins s1 σ H1 Q I1 q1
  | false => exact ⟨.bl false, H1, I1, rfl, q1⟩
theorem pe_or (ha : PE X a ta) (hb : PE X (.BoolOp .Or (b :: rest) pos) tb) : PE X (.BoolOp .Or (a :: b :: rest) pos) (tOrV ta tb) := by
  intro pins s σ H Q I h
  refine BoolOp_or (thn (ha pins s σ H _ I h) fun v s1 ⟨x, H1, I1, r1, q1⟩ => ?_)
  obtain ⟨c, rfl, q1⟩ := q1
  cases r1
  refine wpAny_truthy_bool ?_
  cases c with
  | false => exact hb pins s1 σ H1 Q I1 q1
  | true => exact ⟨.bl true, H1, I1, rfl, q1⟩
theorem pe_not (ha : PE X a ta) : PE X (.UnaryOp .Not a pos) (tNotV ta) := by
  intro pins s σ H Q I h
  refine UnaryOp_ (thn (ha pins s σ H _ I h) fun v s1 ⟨x, H1, I1, r1, q1⟩ => ?_)
  obtain ⟨c, rfl, q1⟩ := q1
  cases r1
  exact not_of (wpAny_truthy_bool ⟨.bl (!c), H1, I1, rfl, q1⟩)
/-- a if t else b -/
def tIf (t : TT) (ta tb : TE) : TE := fun σ H Q => t σ H fun c H1 => if c = true then ta σ H1 Q else tb σ H1 Q
end
end L2

namespace L2
open PySem PySem.Spec PyProof.Rows

/-! ### a list, a tuple that is read: tracked, frozen, or an object of the module -/
def SqL (K : PySem.W.Frag) (H : Hp) (a : Addr) (xs : List V) : Prop :=
  Rd H a (.lst xs) ∨
    ∃ (o : Obj) (its : Array Value) (n : Nat), K.lookup a = some o ∧ o.cls = .type "list" ∧ o.dict = none ∧ o.data = .seq its n ∧ its.size ≤ sizeLine ∧ Vals xs its.toList
def SqT (K : PySem.W.Frag) (H : Hp) (a : Addr) (xs : List V) : Prop :=
  Rd H a (.tup xs) ∨
    ∃ (o : Obj) (its : Array Value) (n : Nat), K.lookup a = some o ∧ o.cls = .type "tuple" ∧ o.data = .seq its n ∧ its.size ≤ sizeLine ∧ Vals xs its.toList
def absV : Value → Option V
  | .none => some .non
  | .bool b => some (.bl b)
  | .int i _ => some (.int i)
  | .str x _ => some (.str x)
  | .bytes b _ => some (.byt b)
  | .float b _ => some (.flt b)
  | .ref a => some (.ref a)
  | .type n => some (.ty n)
  | _ => none
theorem RelV.abs {x : V} {u : Value} (r : RelV x u) : absV u = some x := by
  cases x with
  | non => cases r; rfl
  | bl _ => cases r; rfl
  | int _ => obtain ⟨t, rfl⟩ := r; rfl
  | str _ => obtain ⟨t, rfl⟩ := r; rfl
  | byt _ => obtain ⟨t, rfl⟩ := r; rfl
  | flt _ => obtain ⟨t, rfl⟩ := r; rfl
  | ref _ => cases r; rfl
  | ty _ => cases r; rfl
theorem RelV.inj {x y : V} {u : Value} (r : RelV x u) (q : RelV y u) : x = y := Option.some.inj (r.abs.symm.trans q.abs)
theorem Vals.inj : ∀ {xs ys : List V} {us : List Value}, Vals xs us → Vals ys us → xs = ys
  | _, _, _, .nil, .nil => rfl
  | _, _, _, .cons r t, .cons r' t' => by rw [r.inj r', Vals.inj t t']
section
variable {X : Cx} {pins : List (Addr × Obj)} {σ : St} {H : Hp} {s : Shared} {a : Addr} {xs ys : List V}
theorem SqL.of {K : PySem.W.Frag} (h : H a = some (.lst xs)) : SqL K H a xs := .inl (.inl h)
theorem SqT.of {K : PySem.W.Frag} (h : H a = some (.tup xs)) : SqT K H a xs := .inl (.inl h)
theorem Inv.list (I : Inv X pins σ H s) (h : SqL X.K H a xs) : ∃ its : List Value, Vals xs its ∧ PlainL s.heap a its.toArray ∧ xs.length ≤ sizeLine := by
  rcases h with h | ⟨o, its, n, hk, hc, hd, hs, hz, r⟩
  · obtain ⟨z, its, n, r, e⟩ := h.ok I.hok
    exact ⟨its, r, ⟨_, n, e, rfl, rfl, rfl⟩, z⟩
  · refine ⟨its.toList, r, ⟨o, n, I.kIn a o hk, hc, hd, by simpa using hs⟩, ?_⟩
    have e := r.length
    simp only [Array.length_toList] at e
    omega
theorem Inv.tuple (I : Inv X pins σ H s) (h : SqT X.K H a xs) : ∃ its : List Value, Vals xs its ∧ IsTup s.heap a its.toArray ∧ xs.length ≤ sizeLine := by
  rcases h with h | ⟨o, its, n, hk, hc, hs, hz, r⟩
  · obtain ⟨z, its, r, p⟩ := h.ok I.hok
    exact ⟨its, r, p, z⟩
  · refine ⟨its.toList, r, ⟨o, I.kIn a o hk, hc, n, by simpa using hs⟩, ?_⟩
    have e := r.length
    simp only [Array.length_toList] at e
    omega
theorem Inv.list_inj (I : Inv X pins σ H s) (h : SqL X.K H a xs) (h' : SqL X.K H a ys) : xs = ys := by
  obtain ⟨its, r, ⟨o, n, e, _, _, d⟩, _⟩ := I.list h
  obtain ⟨its', r', ⟨o', n', e', _, _, d'⟩, _⟩ := I.list h'
  rw [e] at e'; cases e'
  rw [d] at d'
  injection d' with d1 _
  have : its = its' := by simpa using congrArg Array.toList d1
  subst this
  exact r.inj r'
theorem Inv.tuple_inj (I : Inv X pins σ H s) (h : SqT X.K H a xs) (h' : SqT X.K H a ys) : xs = ys := by
  obtain ⟨its, r, ⟨o, e, _, n, d⟩, _⟩ := I.tuple h
  obtain ⟨its', r', ⟨o', e', _, n', d'⟩, _⟩ := I.tuple h'
  rw [e] at e'; cases e'
  rw [d] at d'
  injection d' with d1 _
  have : its = its' := by simpa using congrArg Array.toList d1
  subst this
  exact r.inj r'
end

/-! ### another wish about exceptions -/
abbrev Cx.wish (X : Cx) (E : Value → Shared → Prop) : Cx := { X with xe := E }
/-- no exception leaves -/
abbrev Cx.nox (X : Cx) : Cx := X.wish fun _ _ => False
theorem Cx.Ok.wish {X : Cx} (ok : X.Ok) (E : Value → Shared → Prop) : (X.wish E).Ok :=
  ⟨ok.mod, ok.kind, ok.glob, ok.blt, ok.above, ok.inj, ok.has, ok.cab, ok.hd, ok.frames, ok.stk, ok.exf, ok.bs, ok.bsz, ok.noex, ok.exfs, ok.funs, ok.frf⟩
theorem Cx.Ok.unwish {X : Cx} {E : Value → Shared → Prop} (ok : (X.wish E).Ok) : X.Ok :=
  ⟨ok.mod, ok.kind, ok.glob, ok.blt, ok.above, ok.inj, ok.has, ok.cab, ok.hd, ok.frames, ok.stk, ok.exf, ok.bs, ok.bsz, ok.noex, ok.exfs, ok.funs, ok.frf⟩
section
variable {X : Cx} {pins : List (Addr × Obj)} {σ : St} {H : Hp} {s : Shared} {E : Value → Shared → Prop}
theorem Inv.wish (I : Inv X pins σ H s) (E : Value → Shared → Prop) : Inv (X.wish E) pins σ H s := ⟨I.ok.wish E, I.os, I.bare, I.base, I.loc, I.cell, I.free, I.freeC, I.pin, I.hok, I.len⟩
theorem Inv.unwish (I : Inv (X.wish E) pins σ H s) : Inv X pins σ H s := ⟨I.ok.unwish, I.os, I.bare, I.base, I.loc, I.cell, I.free, I.freeC, I.pin, I.hok, I.len⟩
theorem SP.unwish {D : Ends} {f : Flow} {s' : Shared} (h : SP (X.wish E) pins D f s') : SP X pins D f s' := by
  cases f with
  | next => obtain ⟨σ', H', I, q⟩ := h; exact ⟨σ', H', I.unwish, q⟩
  | brk => obtain ⟨σ', H', I, q⟩ := h; exact ⟨σ', H', I.unwish, q⟩
  | cont => obtain ⟨σ', H', I, q⟩ := h; exact ⟨σ', H', I.unwish, q⟩
  | ret u => obtain ⟨v, σ', H', I, r, q⟩ := h; exact ⟨v, σ', H', I.unwish, r, q⟩
theorem PSs.nox {st : List Stmt} {t : TS} (h : PSs X.nox st t) : PSs X st t := fun pins s σ H D I hw =>
  wpAny_mono (h pins s σ H D (I.wish _) hw) (fun _ _ q => q.unwish) fun _ _ z => False.elim z
end

/-! ### blocks and small statements -/
section
variable {X : Cx} {st : Stmt} {rest : List Stmt} {t u : TS} {e : Expr} {te : TE} {pos : Pos}
def tNext : TS := fun D σ H => D.nx σ H
def tSeq (t u : TS) : TS := fun D σ H => t { D with nx := u D } σ H
theorem pss_nil : PSs X [] tNext := fun _ _ σ H _ I h => wpAny_execs_nil ⟨σ, H, I, h⟩
theorem pss_cons (h1 : PS X st t) (h2 : PSs X rest u) : PSs X (st :: rest) (tSeq t u) := by
  intro pins s σ H D I h
  refine wpAny_execs_cons (thn (h1 pins s σ H { D with nx := u D } I h) fun f s1 q => ?_)
  cases f with
  | next =>
    obtain ⟨σ', H', I', q⟩ := q
    exact h2 pins s1 σ' H' D I' q
  | ret v => exact q
  | brk => exact q
  | cont => exact q
theorem pss_one (h1 : PS X st t) : PSs X [st] t := by
  intro pins s σ H D I h
  refine wpAny_execs_cons (thn (h1 pins s σ H D I h) fun f s1 q => ?_)
  cases f with
  | next => exact wpAny_execs_nil q
  | ret v => exact q
  | brk => exact q
  | cont => exact q
def tBreak : TS := fun D σ H => D.bk σ H
def tCont : TS := fun D σ H => D.ct σ H
/-- in a def's body nothing is shown -/
theorem Inv.quiet {pins : List (Addr × Obj)} {σ : St} {H : Hp} {s : Shared} (I : Inv X pins σ H s) : interactive X.env = false := by simp [interactive, I.ok.kind]
/-- an expression whose value is dropped -/
def tDrop (te : TE) : TS := fun D σ H => te σ H fun _ H1 => D.nx σ H1
theorem ps_expr (he : PE X e te) (hs : swapsWith e none pos.line X.env = pure false := by rfl) : PS X (.Expr e pos) (tDrop te) := by
  intro pins s σ H D I h
  exact wpAny_Expr_any (thn (he pins s σ H _ I h) fun v s1 ⟨x, H1, I1, r1, q1⟩ => ⟨σ, H1, I1, q1⟩) I.quiet hs
def tRet (te : TE) : TS := fun D σ H => te σ H D.rt
theorem ps_ret (he : PE X e te) : PS X (.Return (some e) pos) (tRet te) := by
  intro pins s σ H D I h
  exact wpAny_Return_some (thn (he pins s σ H _ I h) fun v s1 ⟨x, H1, I1, r1, q1⟩ => ⟨x, σ, H1, I1, r1, q1⟩)
def tRetN : TS := fun D _ H => D.rt .non H
def tIfS (c : TT) (t u : TS) : TS := fun D σ H => c σ H fun b H1 => if b = true then t D σ H1 else u D σ H1
theorem ps_if {c : Expr} {a b : List Stmt} {tc : TT} (hc : PT X c tc) (ha : PSs X a t) (hb : PSs X b u) : PS X (.If c a b pos) (tIfS tc t u) := by
  intro pins s σ H D I h
  refine wpAny_If (thn (hc pins s σ H _ I h) fun d s1 ⟨H1, I1, q1⟩ => ?_)
  cases d with
  | true => exact ha pins s1 σ H1 D I1 q1
  | false => exact hb pins s1 σ H1 D I1 q1
/-- code that the proof never comes to -/
def tNever : TS := fun _ _ _ => False
end

/-! ### targets -/
abbrev TG := V → St → Hp → (St → Hp → Prop) → Prop
abbrev TGs := List V → St → Hp → (St → Hp → Prop) → Prop
def PG (X : Cx) (target : Expr) (t : TG) : Prop :=
  ∀ (pins : List (Addr × Obj)) (s : Shared) (σ : St) (H : Hp) (v : V) (u : Value) (Q : St → Hp → Prop), Inv X pins σ H s → RelV v u → t v σ H Q →
    wpAny (model X.prog X.w) X.A (assign target X.env u) (fun _ s' => ∃ σ' H', Inv X pins σ' H' s' ∧ Q σ' H') X.xe s
/-- several targets, one after another -/
def PGs (X : Cx) (ts : List Expr) (t : TGs) : Prop :=
  ∀ (pins : List (Addr × Obj)) (s : Shared) (σ : St) (H : Hp) (vs : List V) (us : List Value) (Q : St → Hp → Prop), Inv X pins σ H s → Vals vs us → t vs σ H Q →
    wpAny (model X.prog X.w) X.A (assignInOrder ((assignEach ts X.env).map (·.2)) us) (fun _ s' => ∃ σ' H', Inv X pins σ' H' s' ∧ Q σ' H') X.xe s
/-- o[i] = v, by values -/
abbrev TSet := V → V → V → Hp → (Hp → Prop) → Prop
def PSet (X : Cx) (t : TSet) : Prop :=
  ∀ (pins : List (Addr × Obj)) (s : Shared) (σ : St) (H : Hp) (o i v : V) (ov iv u : Value) (Q : Hp → Prop), Inv X pins σ H s → RelV o ov → RelV i iv → RelV v u → t o i v H Q →
    wpAny (model X.prog X.w) X.A (setItem ov iv u) (fun _ s' => ∃ H', Inv X pins σ H' s' ∧ Q H') X.xe s
/-- a op= b, by values -/
abbrev TIp := V → V → Hp → VK → Prop
def PIp (X : Cx) (op : Operator) (t : TIp) : Prop :=
  ∀ (pins : List (Addr × Obj)) (s : Shared) (σ : St) (H : Hp) (x y : V) (v u : Value) (Q : VK), Inv X pins σ H s → RelV x v → RelV y u → t x y H Q →
    wpAny (model X.prog X.w) X.A (inplaceOp op v u) (EP X pins σ Q) X.xe s
section
variable {X : Cx} {pos : Pos}
def gName (i : Nat) : TG := fun v σ H Q => Q (σ.set i (some v)) H
theorem pg_name {i : Nat} {x : Str} (hN : X.N.Nodup) (hi : X.N[i]? = some x) (hx : Loc X.env.scope x) (hf : X.fn x = true ∨ X.env.scope.names.lookup x = some .local := by first | exact .inl rfl | exact .inr rfl | assumption) : PG X (.Name x pos) (gName i) := by
  intro pins s σ H v u Q I r h
  exact wpAny_assign_Name (store_ok I hN hi hx r (fun s' I' => ⟨_, H, I', h⟩) hf)
def gNil : TGs := fun vs σ H Q => vs = [] ∧ Q σ H
def gCons (t : TG) (u : TGs) : TGs := fun vs σ H Q => ∃ v r, vs = v :: r ∧ t v σ H fun σ' H' => u r σ' H' Q
/-- (a, b, ..) = a tuple of that length -/
def gTup (K : PySem.W.Frag) (n : Nat) (t : TGs) : TG := fun v σ H Q => ∃ a xs, v = .ref a ∧ SqT K H a xs ∧ xs.length = n ∧ t xs σ H Q
/-- o[i] = .. -/
def gSub (to ti : TE) (t : TSet) : TG := fun v σ H Q => to σ H fun o H1 => ti σ H1 fun i H2 => t o i v H2 fun H3 => Q σ H3
/-- target = value -/
def tAsg (te : TE) (g : TG) : TS := fun D σ H => te σ H fun x H1 => g x σ H1 D.nx
/-- name = value -/
theorem ps_set {i : Nat} {x : Str} {e : Expr} {te : TE} {pos' : Pos} (hN : X.N.Nodup) (hi : X.N[i]? = some x) (hx : Loc X.env.scope x) (he : PE X e te) (hs : swapsWith e (some (.Name x pos')) pos.line X.env = pure false := by rfl) (hf : X.fn x = true ∨ X.env.scope.names.lookup x = some .local := by first | exact .inl rfl | exact .inr rfl | assumption) :
    PS X (.Assign [.Name x pos'] e pos) (tAsg te (gName i)) := by
  intro pins s σ H D I h
  refine wpAny_Assign_Name (thn (he pins s σ H _ I h) fun v s1 ⟨y, H1, I1, r1, q1⟩ => ?_) hs
  exact store_ok I1 hN hi hx r1 (fun s2 I2 => ⟨_, H1, I2, q1⟩) hf
/-- a, b = x, y with plain local names: stored from the right; the pair itself is not tracked (the opening rows as in PyProof/Rows/TupAssign.lean:23) -/
def tPar (i j : Nat) (ta : TA) : TS := fun D σ H => ta σ H fun vs H1 => ∃ v w, vs = [v, w] ∧ D.nx ((σ.set i (some v)).set j (some w)) H1
/-- name op= e -/
def tAug (i : Nat) (te : TE) (ti : TIp) : TS := fun D σ H => ∃ x, σ[i]? = some (some x) ∧ te σ H fun y H1 => ti x y H1 fun z H2 => D.nx (σ.set i (some z)) H2
/-- o[i] op= e -/
def tAugS (to ti te : TE) (tget : V → V → Hp → VK → Prop) (tip : TIp) (tset : TSet) : TS := fun D σ H => to σ H fun o H1 => ti σ H1 fun i H2 => tget o i H2 fun x H3 => te σ H3 fun y H4 => tip x y H4 fun z H5 => tset o i z H5 fun H6 => D.nx σ H6
/-- o[i], by values -/
def PGet (X : Cx) (t : V → V → Hp → VK → Prop) : Prop :=
  ∀ (pins : List (Addr × Obj)) (s : Shared) (σ : St) (H : Hp) (o i : V) (ov iv : Value) (Q : VK), Inv X pins σ H s → RelV o ov → RelV i iv → t o i H Q →
    wpAny (model X.prog X.w) X.A (getItem ov iv) (EP X pins σ Q) X.xe s
/-- ints -/
def ipI (f : Int → Int → Int) : TIp := fun x y H Q => ∃ i j, x = .int i ∧ y = .int j ∧ Q (.int (f i j)) H
end

/-! ### while -/
section
variable {X : Cx} {pos : Pos}
/-- the invariant W with its measure -/
def tWhile (c : TT) (tb : TS) : TS := fun D σ H => ∃ W : Nat → St → Hp → Prop, (∃ m, W m σ H) ∧ ∀ m σ H, W m σ H →
  c σ H fun b H1 => if b = true then ∃ N : St → Hp → Prop, (∀ σ' H', N σ' H' → ∃ m', m' < m ∧ W m' σ' H') ∧ tb { D with nx := N, ct := N, bk := D.nx } σ H1 else D.nx σ H1
end

/-! ### what a loop or a comprehension walks -/
/-- at turn i: it yields x (the heap may grow), or it stops -/
structure It where
  go : Nat → Hp → Prop
  yld : Nat → Hp → V → Hp → Prop
  stop : Nat → Hp → Prop
/-- the iterator's own objects may turn: they are not the frame's, not pinned, younger than the entry (or a comprehension's own) -/
def FpOk (X : Cx) (pins : List (Addr × Obj)) (H : Hp) (b : Addr) : Prop :=
  H b = none ∧ b ≠ X.env.locals ∧ b ∉ X.fs ∧ (b ∈ X.ex ∨ X.s₀.heap.objs.size ≤ b) ∧ (∀ x c, X.env.cells.lookup x = some c → c ≠ b) ∧ ∀ p ∈ X.pn ++ pins, p.1 ≠ b
theorem Inv.fpOk {X : Cx} {pins : List (Addr × Obj)} {σ : St} {H H' : Hp} {s : Shared} {b : Addr} (I : Inv X pins σ H s) (hb : s.heap.objs.size ≤ b) (hn : H' b = none) : FpOk X pins H' b := by
  refine ⟨hn, Nat.ne_of_gt (Nat.lt_of_lt_of_le I.lt hb), I.nofs hb, .inr (Nat.le_trans I.sz hb), fun x c e z => ?_, fun p hp z => ?_⟩
  · obtain ⟨v, q⟩ := I.cell x c e
    exact absurd (Nat.lt_of_lt_of_le q.lt (by rw [z]; exact hb)) (Nat.lt_irrefl _)
  · exact absurd (Nat.lt_of_lt_of_le (Heap.lt_size (I.pin p hp).1) (by rw [z]; exact hb)) (Nat.lt_irrefl _)
structure Turn (P : Program) (w : World) (K : PySem.W.Frag) (tg : Expr) (J : It) (fp : List Addr) (it : Addr) (tn : Nat → Heap → Prop) : Prop where
  mem : it ∈ fp
  obj : ∀ i h, tn i h → ∀ b ∈ fp, ∃ o, h.get? b = some o ∧ ∀ v, o.data ≠ .cell v
  keep : ∀ i h h', tn i h → (∀ b ∈ fp, ∀ o, h.get? b = some o → h'.get? b = some o) → tn i h'
  item : ∀ (X : Cx), X.prog = P → X.w = w → X.K = K → X.calm = true → ∀ (i : Nat) (pins : List (Addr × Obj)) (s : Shared) (σ : St) (H : Hp) (E : Value → Shared → Prop), Inv X pins σ H s → (∀ b ∈ fp, FpOk X pins H b) → tn i s.heap → J.go i H →
    wpAny (model P w) X.A (pyNext (.ref it)) (fun r s1 => ∃ u, r = some u ∧
      wpAny (model P w) X.A (letOwnedTupleGo tg (.ref it) u) (fun _ s2 => ∃ x H', Inv X pins σ H' s2 ∧ RelV x u ∧ J.yld i H x H' ∧ tn (i + 1) s2.heap ∧ ∀ b ∈ fp, H' b = none) E s1) E s
  done : ∀ (X : Cx), X.prog = P → X.w = w → X.K = K → X.calm = true → ∀ (i : Nat) (pins : List (Addr × Obj)) (s : Shared) (σ : St) (H : Hp) (E : Value → Shared → Prop), Inv X pins σ H s → (∀ b ∈ fp, FpOk X pins H b) → tn i s.heap → J.stop i H →
    wpAny (model P w) X.A (pyNext (.ref it)) (fun r s1 => r = none ∧ Inv X pins σ H s1) E s
  self : ∀ (A : Around) (i : Nat) (s : Shared) (Q : Value → Shared → Prop) (E : Value → Shared → Prop), tn i s.heap → Q (.ref it) s → wpAny (model P w) A (pyIter (.ref it)) Q E s
abbrev TI := St → Hp → (It → Hp → Prop) → Prop
/-- an iterator has come -/
def PIE (X : Cx) (pins : List (Addr × Obj)) (σ : St) (tg : Expr) (R : It → Hp → Prop) (itv : Value) (s2 : Shared) : Prop :=
  ∃ (it : Addr) (fp : List Addr) (tn : Nat → Heap → Prop) (J : It) (H' : Hp), itv = .ref it ∧ Inv X pins σ H' s2 ∧ Turn X.prog X.w X.K tg J fp it tn ∧ tn 0 s2.heap ∧ (∀ b ∈ fp, FpOk X pins H' b) ∧ R J H'
def PI (X : Cx) (tg iter : Expr) (wi : TI) : Prop :=
  ∀ (pins : List (Addr × Obj)) (s : Shared) (σ : St) (H : Hp) (R : It → Hp → Prop), Inv X pins σ H s → wi σ H R →
    wpAny (model X.prog X.w) X.A (eval iter X.env) (fun v s1 => wpAny (model X.prog X.w) X.A (pyIter v) (PIE X pins σ tg R) X.xe s1) X.xe s

/-- the step ahead of the store is nothing for an iterator that keeps no tuple -/
theorem go_of {M : Model} {A : Around} {E : Value → Shared → Prop} {s : Shared} {tg : Expr} {it : Addr} {u : Value} {o : Obj} {n : String} {vs : Array Value} {Q : Unit → Shared → Prop} (ho : s.heap.get? it = some o) (hc : o.cls = .type n) (hd : o.data = .fields vs)
    (hn : ["enumerate", "zip", "dict_itemiterator", "dict_reverseitemiterator", "odict_iterator", "itertools.zip_longest", "itertools.pairwise"].contains n = false) (hQ : Q () s) : wpAny M A (letOwnedTupleGo tg (.ref it) u) Q E s := by
  unfold letOwnedTupleGo
  cases tg <;> first
    | exact wpAny_pure hQ
    | (cases u <;> first
        | exact wpAny_pure hQ
        | (refine wpAny_bind (wpAny_load ho ?_)
           rw [hc, hd]
           show wpAny M A (if (["enumerate", "zip", "dict_itemiterator", "dict_reverseitemiterator", "odict_iterator", "itertools.zip_longest", "itertools.pairwise"].contains n && vs[0]? == some (rawInt _)) = true then _ else _) Q E s
           rw [if_neg (by intro h; rw [hn, Bool.false_and] at h; cases h)]
           exact wpAny_pure hQ))

/-- the list at a, as it stands at each turn (a loop may append to it) -/
def Itl (K : PySem.W.Frag) (a : Addr) : It :=
  ⟨fun i H => ∃ xs x, SqL K H a xs ∧ xs[i]? = some x, fun i H x H' => H' = H ∧ ∀ xs, SqL K H a xs → xs[i]? = some x, fun i H => ∃ xs, SqL K H a xs ∧ xs.length ≤ i⟩
def Itt (K : PySem.W.Frag) (a : Addr) : It :=
  ⟨fun i H => ∃ xs x, SqT K H a xs ∧ xs[i]? = some x, fun i H x H' => H' = H ∧ ∀ xs, SqT K H a xs → xs[i]? = some x, fun i H => ∃ xs, SqT K H a xs ∧ xs.length ≤ i⟩
/-- lo, lo + 1, .. (n of them) -/
def Itr (lo : Int) (n : Nat) : It := ⟨fun i _ => i < n, fun i H x H' => H' = H ∧ x = .int (lo + i), fun i _ => n ≤ i⟩
theorem turn_list {P : Program} {w : World} {K : PySem.W.Frag} {tg : Expr} (a it : Addr) : Turn P w K tg (Itl K a) [it] it (fun i h => h.IsListIter it a i) where
  mem := by simp
  obj := fun i h st b hb => by
    have e : b = it := by simpa using hb
    subst e
    obtain ⟨o, e, c, d⟩ := st
    exact ⟨o, e, fun v z => by rw [d] at z; cases z⟩
  keep := fun i h h' st k => st.at fun o e => k it (by simp) o e
  item := by
    intro X hP hw hK hc i pins s σ H E I hf st hg
    subst hP hw hK
    obtain ⟨xs, x, hq, hx⟩ := hg
    obtain ⟨its, rv, p, hz⟩ := I.list hq
    obtain ⟨u, hu, ru⟩ := rv.get hx
    obtain ⟨f0, f1, f2, f3, f4, f5⟩ := hf it (by simp)
    refine wpAny_pyNext_list_item st p.isList (x := u) (by simpa using hu) fun h' st' sb => ?_
    have I1 : Inv X pins σ H { s with heap := h' } := I.turned (t' := s.toks) (fun b o hb e => (sb.2 b hb).trans e) f0 f1 f3 f4 f5
    obtain ⟨o, e, c, d⟩ := id st'
    exact ⟨u, rfl, go_of (s := { s with heap := h' }) e c d (by decide) ⟨x, H, I1, ru, ⟨rfl, fun ys hy => by rw [I.list_inj hy hq]; exact hx⟩, st', fun b hb => (hf b hb).1⟩⟩
  done := by
    intro X hP hw hK hc i pins s σ H E I hf st hg
    subst hP hw hK
    obtain ⟨xs, hq, hx⟩ := hg
    obtain ⟨its, rv, p, hz⟩ := I.list hq
    obtain ⟨f0, f1, f2, f3, f4, f5⟩ := hf it (by simp)
    have hl := rv.length
    exact wpAny_pyNext_list_end (I.ok.hd hc) st p.isList (by simp; omega) fun h' eb => ⟨rfl, I.turned (t' := s.toks) (fun b o hb e => eb b o hb e) f0 f1 f3 f4 f5⟩
  self := fun _ _ _ _ _ st h => wpAny_pyIter_listiter st h
theorem turn_tuple {P : Program} {w : World} {K : PySem.W.Frag} {tg : Expr} (a it : Addr) : Turn P w K tg (Itt K a) [it] it (fun i h => h.IsTupleIter it a i) where
  mem := by simp
  obj := fun i h st b hb => by
    have e : b = it := by simpa using hb
    subst e
    obtain ⟨o, e, c, d⟩ := st
    exact ⟨o, e, fun v z => by rw [d] at z; cases z⟩
  keep := fun i h h' st k => st.at fun o e => k it (by simp) o e
  item := by
    intro X hP hw hK hc i pins s σ H E I hf st hg
    subst hP hw hK
    obtain ⟨xs, x, hq, hx⟩ := hg
    obtain ⟨its, rv, p, hz⟩ := I.tuple hq
    obtain ⟨u, hu, ru⟩ := rv.get hx
    obtain ⟨f0, f1, f2, f3, f4, f5⟩ := hf it (by simp)
    refine wpAny_pyNext_tuple_item st (show s.heap.IsTuple a its.toArray from p) (x := u) (by simpa using hu) fun h' st' sb => ?_
    have I1 : Inv X pins σ H { s with heap := h' } := I.turned (t' := s.toks) (fun b o hb e => (sb.2 b hb).trans e) f0 f1 f3 f4 f5
    obtain ⟨o, e, c, d⟩ := id st'
    exact ⟨u, rfl, go_of (s := { s with heap := h' }) e c d (by decide) ⟨x, H, I1, ru, ⟨rfl, fun ys hy => by rw [I.tuple_inj hy hq]; exact hx⟩, st', fun b hb => (hf b hb).1⟩⟩
  done := by
    intro X hP hw hK hc i pins s σ H E I hf st hg
    subst hP hw hK
    obtain ⟨xs, hq, hx⟩ := hg
    obtain ⟨its, rv, p, hz⟩ := I.tuple hq
    obtain ⟨f0, f1, f2, f3, f4, f5⟩ := hf it (by simp)
    have hl := rv.length
    exact wpAny_pyNext_tuple_end (I.ok.hd hc) st (show s.heap.IsTuple a its.toArray from p) (by simp; omega) fun h' eb => ⟨rfl, I.turned (t' := s.toks) (fun b o hb e => eb b o hb e) f0 f1 f3 f4 f5⟩
  self := fun _ _ _ _ _ st h => wpAny_pyIter_tupleiter st h
theorem turn_range {P : Program} {w : World} {K : PySem.W.Frag} {tg : Expr} (it : Addr) (lo : Int) (n : Nat) : Turn P w K tg (Itr lo n) [it] it (fun i h => IsRangeIter h it (lo + (i : Nat) * 1) ((n : Int) - (i : Nat)) 1) where
  mem := by simp
  obj := fun i h st b hb => by
    have e : b = it := by simpa using hb
    subst e
    exact ⟨_, st, fun v z => by
      have z' : Data.fields _ = Data.cell v := z
      cases z'⟩
  keep := fun i h h' st k => k it (by simp) _ st
  item := by
    intro X hP hw hK hc i pins s σ H E I hf st hg
    subst hP hw hK
    obtain ⟨f0, f1, f2, f3, f4, f5⟩ := hf it (by simp)
    have W := Walks.range (prog := X.prog) (w := X.w) (I.ok.hd hc) it lo 1 n
    refine W.item i s _ _ hg st fun v h' tk hv st' kk => ?_
    obtain ⟨t, rfl⟩ := hv
    have I1 : Inv X pins σ H { s with heap := h', toks := tk } := I.turned (fun b o hb e => kk b o (by simpa using hb) e) f0 f1 f3 f4 f5
    refine ⟨_, rfl, go_of (s := { s with heap := h', toks := tk }) (n := "range_iterator") st' rfl rfl (by decide) ⟨.int (lo + i), H, I1, ⟨t, ?_⟩, ⟨rfl, rfl⟩, st', fun b hb => (hf b hb).1⟩⟩
    rw [Int.mul_one]
  done := by
    intro X hP hw hK hc i pins s σ H E I hf st hg
    subst hP hw hK
    obtain ⟨f0, f1, f2, f3, f4, f5⟩ := hf it (by simp)
    exact wpAny_pyNext_range_end (I.ok.hd hc) st (by have : n ≤ i := hg; omega) fun h' eb => ⟨rfl, I.turned (t' := s.toks) (fun b o hb e => eb b o hb e) f0 f1 f3 f4 f5⟩
  self := fun _ _ _ _ _ st h => wpAny_pyIter_rangeiter st h
end L2

namespace L2
open PySem PySem.Spec PyProof.Rows
section
variable {X : Cx} {tg : Expr}
def iList (K : PySem.W.Frag) (tl : TE) : TI := fun σ H R => tl σ H fun x H1 => ∃ a, x = .ref a ∧ (∃ xs, SqL K H1 a xs) ∧ R (Itl K a) H1
def iTup (K : PySem.W.Frag) (tl : TE) : TI := fun σ H R => tl σ H fun x H1 => ∃ a, x = .ref a ∧ (∃ xs, SqT K H1 a xs) ∧ R (Itt K a) H1
theorem pi_list {l : Expr} {tl : TE} (hl : PE X l tl) : PI X tg l (iList X.K tl) := by
  intro pins s σ H R I h
  refine thn (hl pins s σ H _ I h) fun v s1 ⟨x, H1, I1, r1, q1⟩ => ?_
  obtain ⟨a, e, ⟨xs, hq⟩, q⟩ := q1
  subst e
  cases r1
  obtain ⟨its, rv, p, hz⟩ := I1.list hq
  refine wpAny_pyIter_list p.isList ?_
  refine ⟨s1.heap.objs.size, [s1.heap.objs.size], _, _, H1, rfl, I1.kept (t' := s1.toks) fun b o e => Heap.get?_push_of_some _ e, turn_list a _, ⟨_, Heap.get?_push_size _ rfl, rfl, rfl⟩, fun b hb => ?_, q⟩
  have e : b = s1.heap.objs.size := by simpa using hb
  subst e
  exact I1.fpOk (Nat.le_refl _) (I1.hok.fresh (Nat.le_refl _))
theorem pi_tup {l : Expr} {tl : TE} (hl : PE X l tl) : PI X tg l (iTup X.K tl) := by
  intro pins s σ H R I h
  refine thn (hl pins s σ H _ I h) fun v s1 ⟨x, H1, I1, r1, q1⟩ => ?_
  obtain ⟨a, e, ⟨xs, hq⟩, q⟩ := q1
  subst e
  cases r1
  obtain ⟨its, rv, p, hz⟩ := I1.tuple hq
  refine wpAny_pyIter_tuple (show s1.heap.IsTuple a its.toArray from p) ?_
  refine ⟨s1.heap.objs.size, [s1.heap.objs.size], _, _, H1, rfl, I1.kept (t' := s1.toks) fun b o e => Heap.get?_push_of_some _ e, turn_tuple a _, ⟨_, Heap.get?_push_size _ rfl, rfl, rfl⟩, fun b hb => ?_, q⟩
  have e : b = s1.heap.objs.size := by simpa using hb
  subst e
  exact I1.fpOk (Nat.le_refl _) (I1.hok.fresh (Nat.le_refl _))
/-- a range object just made, walked -/
theorem range_it {pins : List (Addr × Obj)} {σ : St} {H : Hp} {s : Shared} {R : It → Hp → Prop} {E : Value → Shared → Prop} {lo hi : Int} {t u v : Tok} {tk : Nat} (I : Inv X pins σ H s) (h1 : -(2 ^ 62) ≤ lo) (h2 : lo < 2 ^ 62) (h3 : -(2 ^ 62) ≤ hi) (h4 : hi < 2 ^ 62)
    (q : R (Itr lo (hi - lo).toNat) H) : wpAny (model X.prog X.w) X.A (pyIter (.ref s.heap.objs.size)) (PIE X pins σ tg R) E { s with heap := s.heap.push { cls := .type "range", data := .fields #[.int lo t, .int hi u, .int 1 v] }, toks := tk } := by
  refine wpAny_pyIter_range (IsRange.new ..) (small_one h1 h2 h3 h4) ?_
  have I1 : Inv X pins σ H { s with heap := s.heap.push { cls := .type "range", data := .fields #[.int lo t, .int hi u, .int 1 v] }, toks := tk } := I.kept fun b o e => Heap.get?_push_of_some _ e
  refine ⟨(s.heap.push { cls := .type "range", data := .fields #[.int lo t, .int hi u, .int 1 v] }).objs.size, [(s.heap.push { cls := .type "range", data := .fields #[.int lo t, .int hi u, .int 1 v] }).objs.size], _, _, H, rfl,
    I1.kept (t' := tk) fun b o e => Heap.get?_push_of_some _ e, turn_range _ lo (hi - lo).toNat, ?_, fun b hb => ?_, q⟩
  · have e1 : lo + ((0 : Nat) : Int) * 1 = lo := by simp
    have e2 : (((hi - lo).toNat : Nat) : Int) - ((0 : Nat) : Int) = Builtin.Range.rangeSize lo hi 1 := by rw [rangeSize_one]; split <;> omega
    show IsRangeIter _ _ (lo + ((0 : Nat) : Int) * 1) ((((hi - lo).toNat : Nat) : Int) - ((0 : Nat) : Int)) 1
    rw [e1, e2]
    exact Heap.get?_push_size _ rfl
  · have e : b = (s.heap.push { cls := .type "range", data := .fields #[.int lo t, .int hi u, .int 1 v] }).objs.size := by simpa using hb
    subst e
    exact I1.fpOk (Nat.le_refl _) (I1.hok.fresh (Nat.le_refl _))
def iRng1 (ta : TA) : TI := fun σ H R => ta σ H fun vs H1 => ∃ j : Int, vs = [.int j] ∧ -(2 ^ 62) ≤ j ∧ j < 2 ^ 62 ∧ R (Itr 0 j.toNat) H1
def iRng2 (ta : TA) : TI := fun σ H R => ta σ H fun vs H1 => ∃ i j : Int, vs = [.int i, .int j] ∧ (-(2 ^ 62) ≤ i ∧ i < 2 ^ 62 ∧ -(2 ^ 62) ≤ j ∧ j < 2 ^ 62) ∧ R (Itr i (j - i).toNat) H1
theorem pi_range1 {a : Expr} {ta : TA} {p pos : Pos} (hg : Gl X "range") (hm : X.mg "range" = none) (ha : PA X [a] ta) (hs : starEach [a] X.env = [(false, eval a X.env)] := by rfl) : PI X tg (.Call (.Name "range" p) [a] [] pos) (iRng1 ta) := by
  intro pins s σ H R I h
  refine Call_ (ld_blt I hg hm boot_range (PyProof.Rows.callWith_type1 (thn (ha pos pins s σ H _ I h) fun us s1 ⟨vs, H1, I1, r1, q1⟩ => ?_) hs rfl))
  obtain ⟨j, e, q1, q2, q⟩ := q1
  subst e
  cases r1 with
  | cons r rr =>
    cases rr
    obtain ⟨t, rfl⟩ := r
    exact call_range_1 (range_it I1 (by omega) (by omega) q1 q2 (by simpa using q))

/-! ### for -/
/-- W: the invariant by the turn and a measure; N: what the body is to reach -/
def tFor (wi : TI) (g : TG) (tb : TS) : TS := fun D σ H => wi σ H fun J H1 => ∃ W : Nat → Nat → St → Hp → Prop, (∃ m, W 0 m σ H1) ∧ ∀ i m σ H, W i m σ H →
  (J.stop i H ∧ D.nx σ H) ∨ (J.go i H ∧ ∃ N : St → Hp → Prop, (∀ σ' H', N σ' H' → ∃ m', m' < m ∧ W (i + 1) m' σ' H') ∧ ∀ x H', J.yld i H x H' → g x σ H' fun σ2 H2 => tb { D with nx := N, ct := N, bk := D.nx } σ2 H2)
/-- the records at fp as they stand -/
def pinsAt (fp : List Addr) (h : Heap) : List (Addr × Obj) := fp.filterMap fun b => (h.get? b).map fun o => (b, o)
theorem mem_pinsAt {fp : List Addr} {h : Heap} {b : Addr} {o : Obj} (hb : b ∈ fp) (e : h.get? b = some o) : (b, o) ∈ pinsAt fp h := List.mem_filterMap.mpr ⟨b, hb, by rw [e]; rfl⟩
theorem of_pinsAt {fp : List Addr} {h : Heap} {p : Addr × Obj} (hp : p ∈ pinsAt fp h) : p.1 ∈ fp ∧ h.get? p.1 = some p.2 := by
  obtain ⟨b, hb, e⟩ := List.mem_filterMap.mp hp
  cases q : h.get? b with
  | none => rw [q] at e; cases e
  | some o =>
    rw [q] at e
    have e' : (b, o) = p := Option.some.inj e
    subst e'
    exact ⟨hb, q⟩
theorem Inv.pinned {pins : List (Addr × Obj)} {σ : St} {H : Hp} {s : Shared} {fp : List Addr} (I : Inv X pins σ H s) (hf : ∀ b ∈ fp, FpOk X pins H b) (ho : ∀ b ∈ fp, ∃ o, s.heap.get? b = some o ∧ ∀ v, o.data ≠ .cell v) : Inv X (pins ++ pinsAt fp s.heap) σ H s :=
  I.pins_of fun p hp => (List.mem_append.mp hp).elim (fun z => I.pin p (List.mem_append_right _ z)) fun z => by
    obtain ⟨hb, e⟩ := of_pinsAt z
    obtain ⟨f0, f1, f2, _⟩ := hf p.1 hb
    obtain ⟨o, e', d⟩ := ho p.1 hb
    rw [e] at e'; cases e'
    exact ⟨e, f0, f1, f2, d⟩
theorem Inv.unpinned {pins pl : List (Addr × Obj)} {σ : St} {H : Hp} {s : Shared} (I : Inv X (pins ++ pl) σ H s) : Inv X pins σ H s := I.pins_of fun p hp => I.pin p (List.mem_append_right _ (List.mem_append_left _ hp))
theorem ps_for {iter : Expr} {body : List Stmt} {wi : TI} {g : TG} {tb : TS} {pos : Pos} (hp : PassesOwn (model X.prog X.w) X.A X.env X.xe) (hc : X.calm = true) (hi : PI X tg iter wi) (hg : PG X tg g) (hb : PSs X body tb)
    (hs : ∀ x, foldedSetIterable iter X.env x = pure x := by intro _; rfl) : PS X (.For tg iter body [] pos) (tFor wi g tb) := by
  intro pins s σ H D I h
  refine wpAny_For (thn (hi pins s σ H _ I h) fun v s1 h1 => thn h1 fun itv s2 h2 => ?_) hs
  obtain ⟨it, fp, tn, J, H2, e, I2, T, st2, f2, W, ⟨m0, w0⟩, turn⟩ := h2
  subst e
  -- what stays true of the iterator's objects through the loop
  have stat : ∀ {H' : Hp}, (∀ b ∈ fp, H' b = none) → ∀ b ∈ fp, FpOk X pins H' b := fun hn b hb => ⟨hn b hb, (f2 b hb).2⟩
  refine codeAny_forLoop_any (fun n s' => ∃ i σ' H', Inv X pins σ' H' s' ∧ tn i s'.heap ∧ (∀ b ∈ fp, H' b = none) ∧ W i n σ' H') ?_ m0 ⟨0, σ, H2, I2, st2, fun b hb => (f2 b hb).1, w0⟩
  rintro n s3 ⟨i, σ3, H3, I3, st3, fr3, w3⟩
  rcases turn i n σ3 H3 w3 with ⟨stop, qn⟩ | ⟨go, N, hN, step⟩
  · refine wpAny_passesOwn hp (thn (T.done X rfl rfl rfl hc i pins s3 σ3 H3 X.xe I3 (stat fr3) st3 stop) fun r s4 ⟨hr, I4⟩ => ?_)
    subst hr
    exact wpAny_execs_nil ⟨σ3, H3, I4, qn⟩
  · refine wpAny_passesOwn hp (thn (T.item X rfl rfl rfl hc i pins s3 σ3 H3 X.xe I3 (stat fr3) st3 go) fun r s4 ⟨u, hr, h4⟩ => ?_)
    subst hr
    refine wpAny_passesOwn hp (thn h4 fun _ s5 ⟨x, H5, I5, r5, y5, st5, fr5⟩ => ?_)
    have I5' := I5.pinned (stat fr5) (T.obj _ _ st5)
    refine wpAny_passesOwn hp (thn (hg _ s5 σ3 H5 x u _ I5' r5 (step x H5 y5)) fun _ s6 ⟨σ6, H6, I6, q6⟩ => ?_)
    refine wpAny_passesOwn hp (thn (hb _ s6 σ6 H6 _ I6 q6) fun f s7 q7 => ?_)
    have again : ∀ {σ7 : St} {H7 : Hp}, Inv X (pins ++ pinsAt fp s5.heap) σ7 H7 s7 → N σ7 H7 → ∃ m, m < n ∧ ∃ i σ' H', Inv X pins σ' H' s7 ∧ tn i s7.heap ∧ (∀ b ∈ fp, H' b = none) ∧ W i m σ' H' := fun {σ7 H7} I7 n7 => by
      obtain ⟨m', hm, w7⟩ := hN σ7 H7 n7
      refine ⟨m', hm, i + 1, σ7, H7, I7.unpinned, T.keep _ _ _ st5 fun b hb o e => (I7.pin (b, o) (List.mem_append_right _ (List.mem_append_right _ (mem_pinsAt hb e)))).1, fun b hb => ?_, w7⟩
      obtain ⟨o, e, d⟩ := T.obj _ _ st5 b hb
      exact (I7.pin (b, o) (List.mem_append_right _ (List.mem_append_right _ (mem_pinsAt hb e)))).2.1
    cases f with
    | next => obtain ⟨σ7, H7, I7, n7⟩ := q7; exact again I7 n7
    | cont => obtain ⟨σ7, H7, I7, n7⟩ := q7; exact again I7 n7
    | brk => obtain ⟨σ7, H7, I7, q7⟩ := q7; exact ⟨σ7, H7, I7.unpinned, q7⟩
    | ret v => obtain ⟨x7, σ7, H7, I7, r7, q7⟩ := q7; exact ⟨x7, σ7, H7, I7.unpinned, r7, q7⟩
end

/-! ### the forms one uses -/
end L2

namespace L2
open PySem PySem.Spec PyProof.Rows

abbrev R2 := V → V → Hp → VK → Prop
/-- a two-place operation on values: f is binaryOp op, inplaceOp op or compareOp op -/
def OpR (X : Cx) (f : Value → Value → Sem Value) (r : R2) : Prop :=
  ∀ (pins : List (Addr × Obj)) (s : Shared) (σ : St) (H : Hp) (x y : V) (v u : Value) (Q : VK), Inv X pins σ H s → RelV x v → RelV y u → r x y H Q →
    wpAny (model X.prog X.w) X.A (f v u) (EP X pins σ Q) X.xe s
/-- a one-place operation -/
def UnR (X : Cx) (f : Value → Sem Value) (r : V → Hp → VK → Prop) : Prop :=
  ∀ (pins : List (Addr × Obj)) (s : Shared) (σ : St) (H : Hp) (x : V) (v : Value) (Q : VK), Inv X pins σ H s → RelV x v → r x H Q →
    wpAny (model X.prog X.w) X.A (f v) (EP X pins σ Q) X.xe s
/-- a call of a value that is known (a builtin, a type) with values -/
def CallR (X : Cx) (f : Value) (r : List V → Hp → VK → Prop) : Prop :=
  ∀ (pins : List (Addr × Obj)) (s : Shared) (σ : St) (H : Hp) (xs : List V) (us : List Value) (Q : VK), Inv X pins σ H s → Vals xs us → r xs H Q →
    wpAny (model X.prog X.w) X.A (call f us) (EP X pins σ Q) X.xe s
/-- a value's truth -/
def TruR (X : Cx) (r : V → Hp → (Bool → Hp → Prop) → Prop) : Prop :=
  ∀ (pins : List (Addr × Obj)) (s : Shared) (σ : St) (H : Hp) (x : V) (v : Value) (Q : Bool → Hp → Prop), Inv X pins σ H s → RelV x v → r x H Q →
    wpAny (model X.prog X.w) X.A (truthy v) (TP X pins σ Q) X.xe s

def tOp (r : R2) (ta tb : TE) : TE := fun σ H Q => ta σ H fun x H1 => tb σ H1 fun y H2 => r x y H2 Q
def tUn (r : V → Hp → VK → Prop) (ta : TE) : TE := fun σ H Q => ta σ H fun x H1 => r x H1 Q
/-- ints in, under C, and a value out -/
def rI (C : Int → Int → Prop) (g : Int → Int → V) : R2 := fun x y H Q => ∃ i j, x = .int i ∧ y = .int j ∧ C i j ∧ Q (g i j) H
def rI0 (g : Int → Int → V) : R2 := fun x y H Q => ∃ i j, x = .int i ∧ y = .int j ∧ Q (g i j) H
def rU (g : Int → V) : V → Hp → VK → Prop := fun x H Q => ∃ i, x = .int i ∧ Q (g i) H

section
variable {X : Cx} {a b c : Expr} {ta tb tc : TE} {pos : Pos}

theorem binT (ha : PE X a ta) (hb : PE X b tb) {pins : List (Addr × Obj)} {s : Shared} {σ : St} {H : Hp} {R : V → V → Hp → Prop} (I : Inv X pins σ H s)
    (h : ta σ H fun x H1 => tb σ H1 fun y H2 => R x y H2) {Q : Value → Shared → Prop} {f : Value → Value → Sem Value}
    (hf : ∀ v u s2 x y H2, Inv X pins σ H2 s2 → RelV x v → RelV y u → R x y H2 → wpAny (model X.prog X.w) X.A (f v u) Q X.xe s2) :
    wpAny (model X.prog X.w) X.A (eval a X.env) (fun v s₁ => wpAny (model X.prog X.w) X.A (eval b X.env) (fun u s₂ => wpAny (model X.prog X.w) X.A (f v u) Q X.xe s₂) X.xe s₁) X.xe s := by
  refine thn (ha pins s σ H _ I h) fun v s1 ⟨x, H1, I1, r1, q1⟩ => ?_
  refine thn (hb pins s1 σ H1 _ I1 q1) fun u s2 ⟨y, H2, I2, r2, q2⟩ => ?_
  exact hf v u s2 x y H2 I2 r1 r2 q2

theorem pe_op {op : Operator} {r : R2} (ho : OpR X (binaryOp op) r) (ha : PE X a ta) (hb : PE X b tb) : PE X (.BinOp a op b pos) (tOp r ta tb) := by
  intro pins s σ H Q I h
  exact wpAny_BinOp (binT ha hb I h fun v u s2 x y H2 I2 rx ry q => ho pins s2 σ H2 x y v u Q I2 rx ry q)
theorem pe_un {op : UnaryOp} {r : V → Hp → VK → Prop} (ho : UnR X (unaryOp op) r) (ha : PE X a ta) : PE X (.UnaryOp op a pos) (tUn r ta) := by
  intro pins s σ H Q I h
  exact UnaryOp_ (thn (ha pins s σ H _ I h) fun v s1 ⟨x, H1, I1, r1, q1⟩ => ho pins s1 σ H1 x v Q I1 r1 q1)

/-! ### ints -/
theorem opI {f : Value → Value → Sem Value} {C : Int → Int → Prop} {g : Int → Int → Int}
    (rule : ∀ (i j : Int) (t u : Tok) (s : Shared) (Q : Value → Shared → Prop) (E : Value → Shared → Prop), C i j → Q (.int (g i j) s.toks) { s with toks := s.toks + 1 } → wpAny (model X.prog X.w) X.A (f (.int i t) (.int j u)) Q E s) :
    OpR X f (rI C fun i j => .int (g i j)) := by
  intro pins s σ H x y v u Q I rx ry h
  obtain ⟨i, j, rfl, rfl, hc, q⟩ := h
  obtain ⟨t, rfl⟩ := rx
  obtain ⟨t', rfl⟩ := ry
  exact rule i j t t' s _ _ hc ⟨.int (g i j), H, I.tok _, ⟨_, rfl⟩, q⟩
theorem opI0 {f : Value → Value → Sem Value} {g : Int → Int → Int}
    (rule : ∀ (i j : Int) (t u : Tok) (s : Shared) (Q : Value → Shared → Prop) (E : Value → Shared → Prop), Q (.int (g i j) s.toks) { s with toks := s.toks + 1 } → wpAny (model X.prog X.w) X.A (f (.int i t) (.int j u)) Q E s) :
    OpR X f (rI0 fun i j => .int (g i j)) := by
  intro pins s σ H x y v u Q I rx ry h
  obtain ⟨i, j, rfl, rfl, q⟩ := h
  obtain ⟨t, rfl⟩ := rx
  obtain ⟨t', rfl⟩ := ry
  exact rule i j t t' s _ _ ⟨.int (g i j), H, I.tok _, ⟨_, rfl⟩, q⟩
theorem opB0 {f : Value → Value → Sem Value} {g : Int → Int → Bool}
    (rule : ∀ (i j : Int) (t u : Tok) (s : Shared) (Q : Value → Shared → Prop) (E : Value → Shared → Prop), Q (.bool (g i j)) s → wpAny (model X.prog X.w) X.A (f (.int i t) (.int j u)) Q E s) :
    OpR X f (rI0 fun i j => .bl (g i j)) := by
  intro pins s σ H x y v u Q I rx ry h
  obtain ⟨i, j, rfl, rfl, q⟩ := h
  obtain ⟨t, rfl⟩ := rx
  obtain ⟨t', rfl⟩ := ry
  exact rule i j t t' s _ _ ⟨.bl (g i j), H, I, rfl, q⟩

def CDiv (i j : Int) : Prop := 0 < j ∧ j < 1073741824
def CDivN (i j : Int) : Prop := j ≠ 0 ∧ j.natAbs < 1073741824
def CPow (i j : Int) : Prop := 0 ≤ j ∧ j ≤ 1000000 ∧ i.natAbs < 2 ^ 64
def CMul (i j : Int) : Prop := (-(2 ^ 64) < i ∧ i < 2 ^ 64) ∨ (-(2 ^ 64) < j ∧ j < 2 ^ 64)

theorem op_add : OpR X (binaryOp .Add) (rI0 fun i j => .int (i + j)) := opI0 fun _ _ _ _ _ _ _ q => add_int q
/-- // by a positive divisor -/
theorem op_fdiv : OpR X (binaryOp .FloorDiv) (rI CDiv fun i j => .int (i / j)) := opI fun i j _ _ _ _ _ hc q => by
  have h1 : (0 : Int) < j := hc.1
  have h2 : j < 1073741824 := hc.2
  exact floordiv_int (by omega) (by rw [Int.fdiv_eq_ediv_of_nonneg i (by omega)]; exact q) (.inl (PyProof.noPylong_small (by omega)))
/-- % by a positive divisor of any size -/
theorem op_mod : OpR X (binaryOp .Mod) (rI (fun _ j => 0 < j) fun i j => .int (i % j)) := opI fun i j _ _ _ _ _ hc q => by
  have h1 : (0 : Int) < j := hc
  exact mod_int' (by omega) (by rw [Int.fmod_eq_emod_of_nonneg i (by omega)]; exact q)


theorem unI {f : Value → Sem Value} {g : Int → Int}
    (rule : ∀ (i : Int) (t : Tok) (s : Shared) (Q : Value → Shared → Prop) (E : Value → Shared → Prop), Q (.int (g i) s.toks) { s with toks := s.toks + 1 } → wpAny (model X.prog X.w) X.A (f (.int i t)) Q E s) :
    UnR X f (rU fun i => .int (g i)) := by
  intro pins s σ H x v Q I rx h
  obtain ⟨i, rfl, q⟩ := h
  obtain ⟨t, rfl⟩ := rx
  exact rule i t s _ _ ⟨.int (g i), H, I.tok _, ⟨_, rfl⟩, q⟩
theorem un_neg : UnR X (unaryOp .USub) (rU fun i => .int (-i)) := unI fun _ _ _ _ _ q => neg_int q

/-! ### bools among ints: n += (a < b) -/
end

/-! ### comparisons -/
/-- the scalars that == tells apart as data does -/
def scal : V → V → Bool
  | .non, .non => true | .non, .int _ => true | .int _, .non => true | .non, .bl _ => true | .bl _, .non => true | .non, .str _ => true | .str _, .non => true
  | .int _, .int _ => true | .bl _, .bl _ => true | .str _, .str _ => true | .byt _, .byt _ => true
  | .int _, .str _ => true | .str _, .int _ => true | .bl _, .str _ => true | .str _, .bl _ => true
  | _, _ => false
def rEq : R2 := fun x y H Q => scal x y = true ∧ Q (.bl (decide (x = y))) H
def rNe : R2 := fun x y H Q => scal x y = true ∧ Q (.bl (!decide (x = y))) H

theorem dec_int {i j : Int} : decide (V.int i = V.int j) = (i == j) := by
  rw [Bool.eq_iff_iff]
  simp
theorem dec_bl {i j : Bool} : decide (V.bl i = V.bl j) = (i == j) := by
  rw [Bool.eq_iff_iff]
  simp
theorem dec_str {i j : Str} : decide (V.str i = V.str j) = (i == j) := by
  rw [Bool.eq_iff_iff]
  simp
theorem dec_byt {i j : Array UInt8} : decide (V.byt i = V.byt j) = (i.toList == j.toList) := by
  rw [Bool.eq_iff_iff]
  cases i
  cases j
  simp

section
variable {X : Cx} {a b c : Expr} {ta tb tc : TE} {pos : Pos}
theorem fin_bl {pins : List (Addr × Obj)} {σ : St} {H : Hp} {s : Shared} {Q : VK} {k k' : Bool} (I : Inv X pins σ H s) (q : Q (.bl k) H) (e : k = k') : EP X pins σ Q (.bool k') s := by
  subst e
  exact ⟨.bl k, H, I, rfl, q⟩
theorem op_eq : OpR X (compareOp .Eq) rEq := by
  intro pins s σ H x y v u Q I rx ry h
  obtain ⟨hs, q⟩ := h
  cases x with
  | non =>
    cases rx
    cases y with
    | non => cases ry; exact PySem.EqNone.eq_none_none (fin_bl I q (by simp))
    | bl j => cases ry; exact PySem.EqNone.eq_none_bool (fin_bl I q (by simp))
    | int j => obtain ⟨t', rfl⟩ := ry; exact PySem.EqNone.eq_none_int (fin_bl I q (by simp))
    | str j => obtain ⟨t', rfl⟩ := ry; exact PySem.EqNone.eq_none_str (fin_bl I q (by simp))
    | _ => exact absurd (show false = true from hs) Bool.false_ne_true
  | bl i =>
    cases rx
    cases y with
    | non => cases ry; exact PySem.EqNone.eq_bool_none (fin_bl I q (by simp))
    | bl j => cases ry; exact eq_bool (fin_bl I q dec_bl)
    | str j => obtain ⟨t', rfl⟩ := ry; exact PySem.EqMixed.eq_bool_str (fin_bl I q (by simp))
    | _ => exact absurd (show false = true from hs) Bool.false_ne_true
  | int i =>
    obtain ⟨t, rfl⟩ := rx
    cases y with
    | non => cases ry; exact PySem.EqNone.eq_int_none (fin_bl I q (by simp))
    | int j => obtain ⟨t', rfl⟩ := ry; exact eq_int (fin_bl I q dec_int)
    | str j => obtain ⟨t', rfl⟩ := ry; exact PySem.EqMixed.eq_int_str (fin_bl I q (by simp))
    | _ => exact absurd (show false = true from hs) Bool.false_ne_true
  | str i =>
    obtain ⟨t, rfl⟩ := rx
    cases y with
    | non => cases ry; exact PySem.EqNone.eq_str_none (fin_bl I q (by simp))
    | bl j => cases ry; exact PySem.EqMixed.eq_str_bool (fin_bl I q (by simp))
    | int j => obtain ⟨t', rfl⟩ := ry; exact PySem.EqMixed.eq_str_int (fin_bl I q (by simp))
    | str j => obtain ⟨t', rfl⟩ := ry; exact eq_str (fin_bl I q dec_str)
    | _ => exact absurd (show false = true from hs) Bool.false_ne_true
  | byt i =>
    obtain ⟨t, rfl⟩ := rx
    cases y with
    | byt j => obtain ⟨t', rfl⟩ := ry; exact PySem.W.eq_bytes (fin_bl I q dec_byt)
    | _ => exact absurd (show false = true from hs) Bool.false_ne_true
  | _ => cases y <;> exact absurd (show false = true from hs) Bool.false_ne_true
theorem op_ne : OpR X (compareOp .NotEq) rNe := by
  intro pins s σ H x y v u Q I rx ry h
  obtain ⟨hs, q⟩ := h
  cases x with
  | non =>
    cases rx
    cases y with
    | non => cases ry; exact PySem.EqNone.ne_none_none (fin_bl I q (by simp))
    | bl j => cases ry; exact PySem.EqNone.ne_none_bool (fin_bl I q (by simp))
    | int j => obtain ⟨t', rfl⟩ := ry; exact PySem.EqNone.ne_none_int (fin_bl I q (by simp))
    | str j => obtain ⟨t', rfl⟩ := ry; exact PySem.EqNone.ne_none_str (fin_bl I q (by simp))
    | _ => exact absurd (show false = true from hs) Bool.false_ne_true
  | bl i =>
    cases rx
    cases y with
    | non => cases ry; exact PySem.EqNone.ne_bool_none (fin_bl I q (by simp))
    | bl j => cases ry; exact ne_bool (fin_bl I q (congrArg not dec_bl))
    | str j => obtain ⟨t', rfl⟩ := ry; exact PySem.EqMixed.ne_bool_str (fin_bl I q (by simp))
    | _ => exact absurd (show false = true from hs) Bool.false_ne_true
  | int i =>
    obtain ⟨t, rfl⟩ := rx
    cases y with
    | non => cases ry; exact PySem.EqNone.ne_int_none (fin_bl I q (by simp))
    | int j => obtain ⟨t', rfl⟩ := ry; exact ne_int (fin_bl I q (congrArg not dec_int))
    | str j => obtain ⟨t', rfl⟩ := ry; exact PySem.EqMixed.ne_int_str (fin_bl I q (by simp))
    | _ => exact absurd (show false = true from hs) Bool.false_ne_true
  | str i =>
    obtain ⟨t, rfl⟩ := rx
    cases y with
    | non => cases ry; exact PySem.EqNone.ne_str_none (fin_bl I q (by simp))
    | bl j => cases ry; exact PySem.EqMixed.ne_str_bool (fin_bl I q (by simp))
    | int j => obtain ⟨t', rfl⟩ := ry; exact PySem.EqMixed.ne_str_int (fin_bl I q (by simp))
    | str j => obtain ⟨t', rfl⟩ := ry; exact ne_str (fin_bl I q (congrArg not dec_str))
    | _ => exact absurd (show false = true from hs) Bool.false_ne_true
  | byt i =>
    obtain ⟨t, rfl⟩ := rx
    cases y with
    | byt j => obtain ⟨t', rfl⟩ := ry; exact PySem.W.ne_bytes (fin_bl I q (congrArg not dec_byt))
    | _ => exact absurd (show false = true from hs) Bool.false_ne_true
  | _ => cases y <;> exact absurd (show false = true from hs) Bool.false_ne_true

theorem op_lt : OpR X (compareOp .Lt) (rI0 fun i j => .bl (decide (i < j))) := opB0 fun _ _ _ _ _ _ _ q => lt_int q
theorem op_le : OpR X (compareOp .LtE) (rI0 fun i j => .bl (decide (i ≤ j))) := opB0 fun _ _ _ _ _ _ _ q => le_int q
theorem op_gt : OpR X (compareOp .Gt) (rI0 fun i j => .bl (decide (j < i))) := opB0 fun _ _ _ _ _ _ _ q => gt_int q
theorem op_ge : OpR X (compareOp .GtE) (rI0 fun i j => .bl (decide (j ≤ i))) := opB0 fun _ _ _ _ _ _ _ q => ge_int q
/-- the one string within the other -/
theorem op_in_str : OpR X (compareOp .In) (fun x y H Q => ∃ i j, x = .str i ∧ y = .str j ∧ Q (.bl (!(Builtin.Str.occurrences j i 0 j.length 1).isEmpty)) H) := by
  intro pins s σ H x y v u Q I rx ry h
  obtain ⟨i, j, rfl, rfl, q⟩ := h
  obtain ⟨t, rfl⟩ := rx
  obtain ⟨t', rfl⟩ := ry
  exact in_str (fin_bl I q rfl)

/-- is None, is not None: the right side a value none -/
theorem op_isN : OpR X (compareOp .Is) (fun x y H Q => y = .non ∧ Q (.bl (decide (x = .non))) H) := by
  intro pins s σ H x y v u Q I rx ry h
  obtain ⟨rfl, q⟩ := h
  cases ry
  refine is_none_gen (fin_bl I q ?_)
  cases x <;> first
    | (cases rx; rfl)
    | (obtain ⟨t, rfl⟩ := rx; rfl)

/-- is, is not of two objects that are tracked lists or instances -/
def isObj : HO → Bool
  | .lst _ => true
  | .ins _ _ _ => true
  | _ => false


theorem nomark (b : Expr) {op : CmpOp} (h : op ≠ .In := by decide) (h2 : op ≠ .NotIn := by decide) : behindInMarks op b = false := by
  have e1 : (op == CmpOp.In) = false := by cases op <;> first | rfl | exact absurd rfl h
  have e2 : (op == CmpOp.NotIn) = false := by cases op <;> first | rfl | exact absurd rfl h2
  cases b <;> simp [behindInMarks, e1, e2]
/-- a comparison as a value; hm: nomark b, or (for in, not in) by with_unfolding_all rfl -/
theorem pe_cmpR {op : CmpOp} {r : R2} (ho : OpR X (compareOp op) r) (ha : PE X a ta) (hb : PE X b tb) (hm : behindInMarks op b = false) : PE X (.Compare a [op] [b] pos) (tOp r ta tb) := by
  intro pins s σ H Q I h
  exact wpAny_Compare1 (binT ha hb I h fun v u s2 x y H2 I2 rx ry q => ho pins s2 σ H2 x y v u Q I2 rx ry q) hm
/-- a reading of a value as a test -/
def tTest (t : TE) : TT := fun σ H Q => t σ H fun x H' => ∃ k, x = .bl k ∧ Q k H'
theorem pt_cmpR {op : CmpOp} {r : R2} (ho : OpR X (compareOp op) r) (ha : PE X a ta) (hb : PE X b tb) (hm : behindInMarks op b = false) : PT X (.Compare a [op] [b] pos) (tTest (tOp r ta tb)) := by
  intro pins s σ H Q I h
  refine wpAny_isTrue_Compare1 (thn (ha pins s σ H _ I h) fun v s1 ⟨x, H1, I1, r1, q1⟩ => thn (hb pins s1 σ H1 _ I1 q1) fun u s2 ⟨y, H2, I2, r2, q2⟩ =>
    thn (ho pins s2 σ H2 x y v u _ I2 r1 r2 q2) fun c s3 ⟨z, H3, I3, r3, k, e, q3⟩ => ?_) hm
  subst e
  cases r3
  exact wpAny_truthy_bool ⟨H3, I3, q3⟩
/-- a op1 b op2 c -/
def tChain (r r' : R2) (ta tb tc : TE) : TE := fun σ H Q => ta σ H fun x H1 => tb σ H1 fun y H2 => r x y H2 fun z H3 => ∃ k, z = .bl k ∧
  (if k = true then tc σ H3 fun w' H4 => r' y w' H4 Q else Q (.bl false) H3)
theorem pe_chain {op op' : CmpOp} {r r' : R2} (ho : OpR X (compareOp op) r) (ho' : OpR X (compareOp op') r') (ha : PE X a ta) (hb : PE X b tb) (hc : PE X c tc)
    (hm : lastMarks [op, op'] [b, c] = false := by with_unfolding_all rfl) : PE X (.Compare a [op, op'] [b, c] pos) (tChain r r' ta tb tc) := by
  intro pins s σ H Q I h
  refine Compare_chain (thn (ha pins s σ H _ I h) fun v s1 ⟨x, H1, I1, r1, q1⟩ => chain_link (thn (hb pins s1 σ H1 _ I1 q1) fun u s2 ⟨y, H2, I2, r2, q2⟩ =>
    thn (ho pins s2 σ H2 x y v u _ I2 r1 r2 q2) fun d s3 ⟨z, H3, I3, r3, k, e, q3⟩ => ?_)) hm
  subst e
  cases r3
  refine wpAny_truthy_bool ?_
  cases k with
  | false => exact ite_ff ⟨.bl false, H3, I3, rfl, q3⟩
  | true => exact ite_tt (chain_last (thn (hc pins s3 σ H3 _ I3 q3) fun w' s4 ⟨z', H4, I4, r4, q4⟩ => ho' pins s4 σ H4 y z' u w' Q I4 r2 r4 q4))
theorem pt_chain {op op' : CmpOp} {r r' : R2} (ho : OpR X (compareOp op) r) (ho' : OpR X (compareOp op') r') (ha : PE X a ta) (hb : PE X b tb) (hc : PE X c tc)
    (hm : lastMarks [op, op'] [b, c] = false := by with_unfolding_all rfl) : PT X (.Compare a [op, op'] [b, c] pos) (tTest (tChain r r' ta tb tc)) := by
  intro pins s σ H Q I h
  refine isTrue_chain (thn (ha pins s σ H _ I h) fun v s1 ⟨x, H1, I1, r1, q1⟩ => test_link (thn (hb pins s1 σ H1 _ I1 q1) fun u s2 ⟨y, H2, I2, r2, q2⟩ =>
    thn (ho pins s2 σ H2 x y v u _ I2 r1 r2 q2) fun d s3 ⟨z, H3, I3, r3, k, e, q3⟩ => ?_)) hm
  subst e
  cases r3
  refine wpAny_truthy_bool ?_
  cases k with
  | false =>
    obtain ⟨k', e', q'⟩ := q3
    cases e'
    exact ite_ff ⟨H3, I3, q'⟩
  | true =>
    refine ite_tt (test_last (thn (hc pins s3 σ H3 _ I3 q3) fun w' s4 ⟨z', H4, I4, r4, q4⟩ => thn (ho' pins s4 σ H4 y z' u w' _ I4 r2 r4 q4) fun d' s5 ⟨z2, H5, I5, r5, k2, e2, q5⟩ => ?_))
    subst e2
    cases r5
    exact wpAny_truthy_bool ⟨H5, I5, q5⟩

/-! ### truth -/
/-- a value's truth by the abstract heap -/
def TruV (K : PySem.W.Frag) (x : V) (H : Hp) (k : Bool) : Prop :=
  match x with
  | .non => k = false
  | .bl b => k = b
  | .int i => k = (i != 0)
  | .str y => y.length ≤ sizeLine ∧ k = ((y.length : Int) != 0)
  | .byt y => y.size ≤ sizeLine ∧ k = ((y.size : Int) != 0)
  | .ref p => (∃ xs, SqL K H p xs ∧ k = !xs.isEmpty) ∨ (∃ xs, SqT K H p xs ∧ k = !xs.isEmpty) ∨ ∃ kvs, H p = some (.dK kvs) ∧ k = !kvs.isEmpty
  | _ => False
theorem line63 : (sizeLine : Nat) < 2 ^ 63 := by rw [sizeLine_eq]; decide

/-! ### strs and bytes -/
theorem op_add_str : OpR X (binaryOp .Add) (fun x y H Q => ∃ i j, x = .str i ∧ y = .str j ∧ i.length + j.length ≤ sizeLine ∧ Q (.str (i ++ j)) H) := by
  intro pins s σ H x y v u Q I rx ry h
  obtain ⟨i, j, rfl, rfl, hz, q⟩ := h
  obtain ⟨t, rfl⟩ := rx
  obtain ⟨t', rfl⟩ := ry
  exact add_str (fun t' tk => ⟨.str (i ++ j), H, I.tok _, ⟨_, rfl⟩, q⟩) hz

def PlainIxT (b : Expr) : Prop := ∀ o i, subscripted b false o i = operate [o, i] (getItem o i)

/-! ### scalar builtins, by CallR -/
theorem vals1 {x : V} {us : List Value} (r : Vals [x] us) : ∃ u, us = [u] ∧ RelV x u := by
  cases r with
  | cons r1 r2 => cases r2; exact ⟨_, rfl, r1⟩
theorem vals2 {x y : V} {us : List Value} (r : Vals [x, y] us) : ∃ u w', us = [u, w'] ∧ RelV x u ∧ RelV y w' := by
  cases r with
  | cons r1 r2 =>
    cases r2 with
    | cons r3 r4 => cases r4; exact ⟨_, _, rfl, r1, r3⟩
/-- len of a str, a bytes, a list, a tuple -/
def LenV (K : PySem.W.Frag) (x : V) (H : Hp) (n : Nat) : Prop :=
  match x with
  | .str y => y.length ≤ sizeLine ∧ n = y.length
  | .byt y => y.size ≤ sizeLine ∧ n = y.size
  | .ref p => (∃ xs, SqL K H p xs ∧ n = xs.length) ∨ ∃ xs, SqT K H p xs ∧ n = xs.length
  | _ => False
end
end L2

namespace L2
open PySem PySem.Spec PyProof.Rows

/-! ### an instance, its attributes a map -/
structure ObjM (h : Heap) (x dx C : Addr) (mA : Str → Option Value) : Prop where
  obj : h.get? x = some (PySem.W.instObj C dx)
  ns : h.Ns1 dx mA
  ne : dx ≠ x



section
variable {prog : Program} {w : World} {A : Around} {E : Value → Shared → Prop} {s : Shared} {K : PySem.W.Frag} {x dx C f : Addr} {mA : Str → Option Value} {name : Str} {v : Value}





end

/-! ### the attributes as a list of pairs -/
def putF (f : Str) (v : V) : List (Str × V) → List (Str × V)
  | [] => [(f, v)]
  | (g, x) :: r => if g = f then (g, v) :: r else (g, x) :: putF f v r


section
variable {P : Program} {w : World} {H H' : Hp} {h h' : Heap} {a C dx : Addr} {fs fs' : List (Str × V)}
end

/-! ### what of the text a class must have -/
structure Cls (K : PySem.W.Frag) (C : Addr) : Prop where
  pg : PySem.W.plainGet K C Str.empty = true
  hd : PySem.W.hasDictIn K C = true
  po : PySem.W.plainOver K C = true
  sa : PySem.W.findIn K (.ref C) "__setattr__" = some (some (.builtin "object.__setattr__"))
/-- no class of it has the name -/
def NoAttr (K : PySem.W.Frag) (C : Addr) (f : Str) : Prop := PySem.W.findIn K (.ref C) f = some none
/-- a constant of the class -/
structure Con (K : PySem.W.Frag) (C : Addr) (f : Str) (v : V) (u : Value) : Prop where
  at_ : PySem.W.findIn K (.ref C) f = some (some u)
  rel : RelV v u
  get : PySem.W.specialIn K u "__get__" = some none
  cp : PySem.W.copiedNames.contains f = false
/-- a method: a plain def of the class or of one above it -/
structure Meth (K : PySem.W.Frag) (C : Addr) (m : Str) (f : Addr) : Prop where
  at_ : PySem.W.findIn K (.ref C) m = some (some (.ref f))
  fn : PySem.W.isFn K (.ref f) = true
  kp : PySem.W.keepIn K (.ref f) = true

section
variable {X : Cx} {pins : List (Addr × Obj)} {σ : St} {H : Hp} {s : Shared} {a C dx : Addr} {fs : List (Str × V)} {f : Str} {v : V} {A : Around} {E : Value → Shared → Prop}






end

/-! ### readings and rules -/
/-- e.f, an attribute of the instance -/
def tFld (K : PySem.W.Frag) (ta : TE) (f : Str) : TE := fun σ H Q => ta σ H fun x H1 => ∃ a C dx fs v, x = .ref a ∧ H1 a = some (.ins C dx fs) ∧ Cls K C ∧ NoAttr K C f ∧ fs.lookup f = some v ∧ Q v H1
/-- e.f, a constant of the class -/
def tCon (K : PySem.W.Frag) (ta : TE) (f : Str) : TE := fun σ H Q => ta σ H fun x H1 => ∃ a C dx fs v u, x = .ref a ∧ H1 a = some (.ins C dx fs) ∧ Cls K C ∧ Con K C f v u ∧ fs.lookup f = none ∧ Q v H1
/-- e.f = value -/
def sFld (K : PySem.W.Frag) (ta tv : TE) (f : Str) : TS := fun D σ H => tv σ H fun y H1 => ta σ H1 fun x H2 => ∃ a C dx fs, x = .ref a ∧ H2 a = some (.ins C dx fs) ∧ Cls K C ∧ NoAttr K C f ∧ fs.length < 1000 ∧
  D.nx σ (upd H2 a (.ins C dx (putF f y fs)))
/-- an augmented operator on two values -/
def InOp (X : Cx) (op : Operator) (rd : V → V → Hp → VK → Prop) : Prop :=
  ∀ (pins : List (Addr × Obj)) (s : Shared) (σ : St) (H : Hp) (x y : V) (u v : Value) (Q : VK), Inv X pins σ H s → RelV x u → RelV y v → rd x y H Q → wpAny (model X.prog X.w) X.A (inplaceOp op u v) (EP X pins σ Q) X.xe s
/-- e.f op= value -/
def sFldAug (K : PySem.W.Frag) (ta tv : TE) (rd : V → V → Hp → VK → Prop) (f : Str) : TS := fun D σ H => ta σ H fun x H1 => ∃ a C dx fs v, x = .ref a ∧ H1 a = some (.ins C dx fs) ∧ Cls K C ∧ NoAttr K C f ∧ fs.lookup f = some v ∧
  tv σ H1 fun y H2 => rd v y H2 fun z H3 => ∃ dx' fs', H3 a = some (.ins C dx' fs') ∧ fs'.length < 1000 ∧ D.nx σ (upd H3 a (.ins C dx' (putF f z fs')))

section
variable {X : Cx} {o e value : Expr} {f : Str} {pos pos' tpos : Pos} {ta tv : TE}
def rAdd : V → V → Hp → VK → Prop := fun x y H Q => ∃ i j, x = .int i ∧ y = .int j ∧ Q (.int (i + j)) H
def rSub : V → V → Hp → VK → Prop := fun x y H Q => ∃ i j, x = .int i ∧ y = .int j ∧ Q (.int (i - j)) H

end

/-! ### isinstance -/
section
variable {X : Cx} {pins : List (Addr × Obj)} {σ : St} {H : Hp} {s : Shared} {A : Around} {E : Value → Shared → Prop} {Q : Value → Shared → Prop} {c : Value} {b : Bool}
/-- the type of a value, as the fragment's deciders take it; for an instance its class -/
inductive TyOf (K : PySem.W.Frag) (H : Hp) : V → Value → Prop where
  | non : TyOf K H .non (.type "NoneType")
  | bl (x : Bool) : TyOf K H (.bl x) (.type "bool")
  | int (i : Int) : TyOf K H (.int i) (.type "int")
  | str (x : Str) : TyOf K H (.str x) (.type "str")
  | flt (x : UInt64) : TyOf K H (.flt x) (.type "float")
  | lst {a : Addr} {xs : List V} (e : H a = some (.lst xs)) : TyOf K H (.ref a) (.type "list")
  | frz {a : Addr} {o : Obj} {xs : List V} (e : H a = some (.frz o (.lst xs))) : TyOf K H (.ref a) (.type "list")
  | tup {a : Addr} {xs : List V} (e : H a = some (.tup xs)) : TyOf K H (.ref a) (.type "tuple")
  | dK {a : Addr} {kvs : List (Key × V)} (e : H a = some (.dK kvs)) : TyOf K H (.ref a) (.type "dict")
  | dT {a : Addr} {kvs : List (List Key × V)} (e : H a = some (.dT kvs)) : TyOf K H (.ref a) (.type "dict")
  | ins {a C dx : Addr} {fs : List (Str × V)} (e : H a = some (.ins C dx fs)) (cl : Cls K C) (ha : PySem.W.findIn K (.ref C) "__class__" = some (some (.builtin "object.__class__")))
      (hn : PySem.W.specialIn K (.builtin "object.__class__") "__get__" = some (some (.builtin "getset_descriptor.__get__"))) (htk : PySem.W.takesIn K (.builtin "object.__class__") = some true)
      (hm : PySem.W.mroIn K C (.type "object") = some true) : TyOf K H (.ref a) (.ref C)
end
end L2

namespace L2
open PySem PySem.Spec PyProof.Rows

/-! ### room -/
structure Room (k : Nat) (A : Around) : Prop where
  hd : A.handled = none
  dp : A.depth + 3 * k + 5 < recursionLimit
  un : A.units + 16 * k + 200 < cLine
theorem Room.mono {j k : Nat} {A : Around} (r : Room k A) (h : j ≤ k) : Room j A := ⟨r.hd, by have := r.dp; omega, by have := r.un; omega⟩
theorem Room.deeper {k : Nat} {A : Around} (r : Room (k + 1) A) (env : Env) : Room k (A.deeper env) :=
  ⟨r.hd, by have := r.dp; show A.depth + 1 + 3 * k + 5 < _; omega, by have := r.un; show A.units + 3 + 16 * k + 200 < _; omega⟩
theorem Room.depth {k : Nat} {A : Around} (r : Room k A) : A.depth < recursionLimit := by have := r.dp; omega

/-! ### argument lists and displays -/
def tNil : TA := fun _ H Q => Q [] H
def tCons (ta : TE) (tr : TA) : TA := fun σ H Q => ta σ H fun x H1 => tr σ H1 fun xs H2 => Q (x :: xs) H2
section
variable {X : Cx} {e : Expr} {es : List Expr} {te : TE} {t : TA} {pos : Pos}
theorem pa_nil : PA X [] tNil := fun _ _ _ _ H Q I h => Calls.spliced_nil ⟨[], H, I, .nil, h⟩
theorem pa_cons (ha : PE X e te) (hr : PA X es t) (hs : starEach (e :: es) X.env = (false, eval e X.env) :: starEach es X.env := by rfl) : PA X (e :: es) (tCons te t) := by
  intro pos pins s σ H Q I h
  rw [hs]
  show wpAny _ _ (spliced ((false, eval e X.env) :: backTo pos (starEach es X.env))) _ _ s
  refine Calls.spliced_cons (thn (ha pins s σ H _ I h) fun u s1 ⟨x, H1, I1, r1, q1⟩ => ?_)
  exact thn (hr pos pins s1 σ H1 _ I1 q1) fun us s2 ⟨xs, H2, I2, r2, q2⟩ => ⟨x :: xs, H2, I2, .cons r1 r2, q2⟩

/-- a tuple, a list of written items -/
def tTup (t : TA) : TE := fun σ H Q => t σ H fun xs H1 => xs.length ≤ sizeLine ∧ ∀ p, H1 p = none → Q (.ref p) (upd H1 p (.tup xs))
def tLst (t : TA) : TE := fun σ H Q => t σ H fun xs H1 => xs.length ≤ sizeLine ∧ ∀ p, H1 p = none → Q (.ref p) (upd H1 p (.lst xs))
theorem pe_lst (h : PA X es t) : PE X (.List es pos) (tLst t) := by
  intro pins s σ H Q I hq
  refine wpAny_List_spliced (thn (h pos pins s σ H _ I hq) fun us s1 ⟨xs, H1, I1, r, z, q⟩ => ⟨by rw [← r.length]; exact z, ?_⟩)
  have hf : H1 s1.heap.objs.size = none := I1.hok.fresh (Nat.le_refl _)
  refine ⟨.ref s1.heap.objs.size, upd H1 s1.heap.objs.size (.lst xs), I1.laid (t' := s1.toks) (fun b u e => Heap.get?_push_of_some _ e) (Nat.le_refl _) ?_, rfl, q _ hf⟩
  exact ⟨z, us, 0, r, Heap.get?_push_size _ rfl⟩
end

/-! ### what a def promises -/
/-- a def's promise: the bound arguments in the parameters' order, the heap, the wanted end, the wanted exception -/
abbrev Sp := List V → Hp → VK → XK → Prop
/-- how an exception lies behind a call (file 08 gives it): the callers' frames, abstract heap and state ahead of the call, the wish, the exception, the state -/
abbrev CXT := List Env → Hp → Shared → XK → Value → Shared → Prop

/-- the state at a call -/
structure Env0 (P : Program) (w : World) (K : PySem.W.Frag) (mg : Str → Option Value) (base : Heap) (A : Around) (outer : List Env) (s : Shared) (H : Hp) : Prop where
  frames : A.frames = some outer
  mod : Mod K mg base
  bs : ∀ b o, base.get? b = some o → s.heap.get? b = some o ∧ H b = none
  bsz : base.objs.size ≤ s.heap.objs.size
  funs : s.heap.FunFrames base outer
  frf : ∀ b ∈ frs outer, H b = none
  hok : HOk P w H s.heap
  bare : AllBare s.gens
/-- a call's end -/
def CE (outer : List Env) (P : Program) (w : World) (H : Hp) (s : Shared) (Q : VK) (u : Value) (s' : Shared) : Prop :=
  ∃ v H', s'.os = s.os ∧ AllBare s'.gens ∧ Un (frs outer) [] H H' s.heap s'.heap ∧ HOk P w H' s'.heap ∧ RelV v u ∧ Q v H'
def CR (CX : CXT) (outer : List Env) (P : Program) (w : World) (H : Hp) (s : Shared) (Q : VK) (E : XK) (r : Result) (s' : Shared) : Prop :=
  match r with
  | .ok (.ret u) => CE outer P w H s Q u s'
  | .ok _ => False
  | .error e => CX outer H s E e s'
structure FnOk (P : Program) (w : World) (K : PySem.W.Frag) (mg : Str → Option Value) (base : Heap) (CX : CXT) (k : Nat) (f : Addr) (fd : FuncData) (ps : List Str) (sp : Sp) : Prop where
  len : ∀ vs H Q E, sp vs H Q E → vs.length = ps.length
  run : ∀ (A : Around) (outer : List Env) (s : Shared) (H : Hp) (args : Args) (us : List Value) (vs : List V) (Q : VK) (E : XK), Room k A → Env0 P w K mg base A outer s H → BindsTo s fd args (ps.zip us) → Vals vs us → sp vs H Q E →
    codeAny (model P w) A (.call (.ref f) args) (CR CX outer P w H s Q E) s


section
variable {X : Cx} {pins : List (Addr × Obj)} {σ : St} {H : Hp} {s s' : Shared}
/-- from a body: what a callee wants -/
theorem Inv.env0 (I : Inv X pins σ H s) : Env0 X.prog X.w X.K X.mg X.base X.A X.stack s H :=
  ⟨I.ok.frames, I.ok.mod, I.bs, Nat.le_trans I.ok.bsz I.sz, I.stack, I.stkFree, I.hok, I.bare⟩
/-- behind a call -/
theorem Inv.after {Q : VK} {u : Value} (I : Inv X pins σ H s) (h : CE X.stack X.prog X.w H s Q u s') : EP X pins σ Q u s' := by
  obtain ⟨v, H', os, bare, un, hok, r, q⟩ := h
  obtain ⟨hh, g, d, t, os'⟩ := s'
  obtain rfl : os' = s.os := os
  exact ⟨v, H', I.call (h' := hh) (g' := g) (d' := d) (t' := t) (ch := []) un hok bare (fun b z => absurd z (by simp)), r, q⟩
end

/-! ### calls -/
/-- f(..): the written arguments, then the defaults dvs; E: what is wanted of an exception -/
def tCall (sp : Sp) (dvs : List V) (E : XK) (t : TA) : TE := fun σ H Q => t σ H fun vs H1 => sp (vs ++ dvs) H1 Q E
/-- o.m(..) of an instance of the class at C -/
def tMeth (C : Addr) (m : Str) (sp : Sp) (dvs : List V) (E : XK) (ta : TE) (t : TA) : TE := fun σ H Q => ta σ H fun x H1 => ∃ a dx fs, x = .ref a ∧ H1 a = some (.ins C dx fs) ∧ fs.lookup m = none ∧
  t σ H1 fun vs H2 => sp (x :: (vs ++ dvs)) H2 Q E
/-- C(..): a new instance and its dict, then __init__ -/
def tMake (C : Addr) (sp : Sp) (dvs : List V) (E : XK) (t : TA) : TE := fun σ H Q => t σ H fun vs H1 => ∀ x dx, H1 x = none → H1 dx = none → dx ≠ x →
  sp (.ref x :: (vs ++ dvs)) (upd (upd H1 dx (.own x)) x (.ins C dx [])) (fun v H2 => v = .non ∧ Q (.ref x) H2) E

/-- how the parameters are bound: us the positional arguments, kw the keywords' values by name, ds the defaults that fill up -/
def Binds (K : PySem.W.Frag) (fd : FuncData) (ps : List Str) (ds : List Value) : Prop :=
  ∀ (s : Shared) (us : List Value), K.In s.heap → (us ++ ds).length = ps.length → BindsTo s fd ⟨us, []⟩ (ps.zip (us ++ ds))
/-- every parameter is given -/
theorem Binds.all {K : PySem.W.Frag} {fd : FuncData} {ps : List Str} (h : ∀ us : List Value, us.length = ps.length → bindArgs fd ⟨us, []⟩ = pure (ps.zip us)) : Binds K fd ps [] := fun s us _ hl => by
  rw [List.append_nil] at hl ⊢
  exact .of_eq (h us hl)

/-- an exception of a callee reaches what this body wants of exceptions -/
def Passes (CX : CXT) (X : Cx) (E : XK) : Prop := ∀ (pins : List (Addr × Obj)) (σ : St) (H : Hp) (s : Shared) (e : Value) (s' : Shared), Inv X pins σ H s → CX X.stack H s E e s' → X.xe e s'

section
variable {X : Cx} {CX : CXT} {k : Nat} {f C : Addr} {fd : FuncData} {ps : List Str} {sp : Sp} {dvs : List V} {ds : List Value} {E : XK} {x m : Str} {p pos apos : Pos} {e o : Expr} {es : List Expr} {ta : TE} {t : TA}

/-- the callee runs -/
theorem run_fn {pins : List (Addr × Obj)} {σ : St} {H : Hp} {s : Shared} {Q : VK} {us : List Value} {vs : List V} (F : FnOk X.prog X.w X.K X.mg X.base CX k f fd ps sp) (hr : Room k X.A) (hb : Binds X.K fd ps ds) (hd : Vals dvs ds) (hx : Passes CX X E)
    (I : Inv X pins σ H s) (r : Vals vs us) (h : sp (vs ++ dvs) H Q E) : wpAny (model X.prog X.w) X.A (call (.ref f) us) (EP X pins σ Q) X.xe s := by
  have r2 : Vals (vs ++ dvs) (us ++ ds) := r.append hd
  have hl : (us ++ ds).length = ps.length := by rw [← r2.length]; exact F.len _ _ _ _ h
  refine wpAny_call (codeAny_mono (F.run X.A X.stack s H ⟨us, []⟩ (us ++ ds) (vs ++ dvs) Q E hr I.env0 (hb s us I.kIn hl) r2 h) fun r s' hq => ?_)
  cases r with
  | error e => exact hx pins σ H s e s' I hq
  | ok fl =>
    cases fl with
    | ret u => exact I.after hq
    | next => exact False.elim hq
    | brk => exact False.elim hq
    | cont => exact False.elim hq

theorem pe_call (F : FnOk X.prog X.w X.K X.mg X.base CX k f fd ps sp) (hr : Room k X.A) (hg : Gl X x) (hm : X.mg x = some (.ref f)) (hk : PySem.W.keepIn X.K (.ref f) = true) (hb : Binds X.K fd ps ds) (hd : Vals dvs ds) (hx : Passes CX X E)
    (ha : PA X (e :: es) t) (hdb : (x == ("__debug__" : Str)) = false := by decide) (he : starEach (e :: es) X.env = (false, eval e X.env) :: starEach es X.env := by rfl) (hpl : (backTo pos (starEach es X.env)).any (·.1) = false := by rfl) :
    PE X (.Call (.Name x p) (e :: es) [] pos) (tCall sp dvs E t) := by
  intro pins s σ H Q I h
  refine wpAny_Call_Name_kw (ld_glob I hg hm ?_ hdb)
  refine PySem.W.callWith_K (h₀ := X.base) I.ok.mod.kin hk (thn (ha pos pins s σ H _ I h) fun us s1 ⟨vs, H1, I1, r, q⟩ => ⟨I1.kIn, ?_⟩) he hpl
  exact run_fn F hr hb hd hx I1 r q


/-- what a class must have to be made -/
structure Mk (K : PySem.W.Frag) (C f : Addr) : Prop where
  makes : PySem.W.makesIn K C = true
  init : PySem.W.findIn K (.ref C) "__init__" = some (some (.ref f))
  fn : PySem.W.isFn K (.ref f) = true
  kp : PySem.W.keepIn K (.ref C) = true

end

/-! ### keywords -/
/-- the values of the keywords, from the left -/
def PK (X : Cx) (kws : List Keyword) (t : TA) : Prop :=
  ∀ (pos : Pos) (pins : List (Addr × Obj)) (s : Shared) (σ : St) (H : Hp) (Q : List V → Hp → Prop), Inv X pins σ H s → t σ H Q → wpAny (model X.prog X.w) X.A (evalAll ((backToKw pos (keywordEach kws X.env)).map (·.2))) (AP X pins σ Q) X.xe s
section
variable {X : Cx} {CX : CXT} {k : Nat} {f C : Addr} {fd : FuncData} {ps ks : List Str} {sp : Sp} {E : XK} {x m : Str} {p pos apos kpos : Pos} {e o : Expr} {es : List Expr} {kws : List Keyword} {te ta : TE} {t tk : TA} {nm : Option Str}

/-- how a call with keywords binds: g puts the positional values us and the keywords' values ws (names ks) in the parameters' order, defaults among them -/
structure KBinds (K : PySem.W.Frag) (fd : FuncData) (ps ks : List Str) (g : List Value → List Value → List Value) (gV : List V → List V → List V) : Prop where
  to : ∀ (s : Shared) (us ws : List Value), K.In s.heap → (g us ws).length = ps.length → BindsTo s fd ⟨us, ks.zip ws⟩ (ps.zip (g us ws))
  rel : ∀ {vs : List V} {us : List Value} {zs : List V} {ws : List Value}, Vals vs us → Vals zs ws → Vals (gV vs zs) (g us ws)
def tCallK (sp : Sp) (gV : List V → List V → List V) (E : XK) (t tk : TA) : TE := fun σ H Q => t σ H fun vs H1 => tk σ H1 fun zs H2 => sp (gV vs zs) H2 Q E
variable {g : List Value → List Value → List Value} {gV : List V → List V → List V}
end

/-! ### a def's body keeps its promise -/
/-- names: the parameters first -/
structure FnScope (N P : List Str) (sc : Scope) : Prop where
  kind : sc.kind = .function
  co : sc.isCoroutine = false
  gen : sc.isGenerator = false
  nd : N.Nodup
  pre : N.take P.length = P
  par : ∀ x ∈ P, sc.names.lookup x = some .local ∨ sc.names.lookup x = some .cell
  nofree : ∀ y ∈ sc.names, y.2 ≠ .free

theorem bindL_out {kindOf : Str → Option NameKind} {x : Str} : ∀ {binds : List (Str × Value)} {m : Str → Option Value}, (∀ v, (x, v) ∉ binds) → bindL kindOf binds m x = m x
  | [], _, _ => rfl
  | (n, v) :: r, m, h => by
    unfold bindL
    rw [bindL_out fun w hw => h w (List.mem_cons_of_mem _ hw)]
    split
    · have : x ≠ n := by rintro rfl; exact h v List.mem_cons_self
      simp [this]
    · rfl
theorem bindC_out {kindOf : Str → Option NameKind} {x : Str} : ∀ {binds : List (Str × Value)} {m : Str → Option Value}, (∀ v, (x, v) ∉ binds) → bindC kindOf binds m x = m x
  | [], _, _ => rfl
  | (n, v) :: r, m, h => by
    unfold bindC
    rw [bindC_out fun w hw => h w (List.mem_cons_of_mem _ hw)]
    split
    · rfl
    · have : x ≠ n := by rintro rfl; exact h v List.mem_cons_self
      simp [this]
theorem bindL_get {kindOf : Str → Option NameKind} {x : Str} {v : Value} : ∀ {P : List Str} {vs : List Value} {i : Nat} {m : Str → Option Value}, P.Nodup → P[i]? = some x → vs[i]? = some v → kindOf x = some .local →
    bindL kindOf (P.zip vs) m x = some v
  | [], _, _, _, _, h, _, _ => by simp at h
  | _ :: _, [], _, _, _, _, h, _ => by simp at h
  | p :: P, w :: vs, 0, m, nd, h1, h2, hk => by
    simp at h1 h2; subst h1; subst h2
    show bindL kindOf ((p, w) :: P.zip vs) m p = _
    unfold bindL
    rw [bindL_out fun v hv => (List.nodup_cons.mp nd).1 (List.of_mem_zip hv).1, if_pos hk]
    simp
  | p :: P, w :: vs, i + 1, m, nd, h1, h2, hk => by
    show bindL kindOf ((p, w) :: P.zip vs) m x = _
    unfold bindL
    exact bindL_get (i := i) (List.nodup_cons.mp nd).2 (by simpa using h1) (by simpa using h2) hk
theorem bindC_get {kindOf : Str → Option NameKind} {x : Str} {v : Value} : ∀ {P : List Str} {vs : List Value} {i : Nat} {m : Str → Option Value}, P.Nodup → P[i]? = some x → vs[i]? = some v → kindOf x ≠ some .local →
    bindC kindOf (P.zip vs) m x = some v
  | [], _, _, _, _, h, _, _ => by simp at h
  | _ :: _, [], _, _, _, _, h, _ => by simp at h
  | p :: P, w :: vs, 0, m, nd, h1, h2, hk => by
    simp at h1 h2; subst h1; subst h2
    show bindC kindOf ((p, w) :: P.zip vs) m p = _
    unfold bindC
    rw [bindC_out fun v hv => (List.nodup_cons.mp nd).1 (List.of_mem_zip hv).1, if_neg hk]
    simp
  | p :: P, w :: vs, i + 1, m, nd, h1, h2, hk => by
    show bindC kindOf ((p, w) :: P.zip vs) m x = _
    unfold bindC
    exact bindC_get (i := i) (List.nodup_cons.mp nd).2 (by simpa using h1) (by simpa using h2) hk

/-- the names' values at the entry -/
def start (N : List Str) (vs : List V) : St := vs.map some ++ List.replicate (N.length - vs.length) none

/-- the context of a def's body, at its entry; an exception leaves the frame, then lies as CX says -/
def cxOf (CX : CXT) (P : Program) (w : World) (K : PySem.W.Frag) (mg : Str → Option Value) (base : Heap) (N : List Str) (qual : Str) (scope : Scope) (f : Addr) (cd : Value) (A : Around) (outer : List Env) (s : Shared) (H : Hp) (E : XK) : Cx where
  prog := P
  w := w
  K := K
  mg := mg
  base := base
  A := A.deeper (envOfC qual scope s.heap.objs.size f cd)
  N := N
  s₀ := s
  H₀ := H
  env := envOfC qual scope s.heap.objs.size f cd
  outer := outer
  stack := envOfC qual scope s.heap.objs.size f cd :: outer
  ex := []
  calm := true
  fn := fun _ => true
  pn := []
  xe := fun e s' => wpAny (model P w) (A.deeper (envOfC qual scope s.heap.objs.size f cd)) (leaving (envOfC qual scope s.heap.objs.size f cd) e) (fun _ s'' => CX outer H s E e s'') (fun e' s'' => CX outer H s E e' s'') s'

theorem cell_has {sc : Scope} {n : Nat} {x : Str} (h : sc.names.lookup x = some .cell) : ∃ c, (cellsFrom n sc.names []).lookup x = some c := by
  have q := PySem.W.cellsFrom_some sc.names n [] (.inl h)
  exact Option.isSome_iff_exists.mp q

theorem inv_start {CX : CXT} {P : Program} {w : World} {K : PySem.W.Frag} {mg : Str → Option Value} {base : Heap} {N ps : List Str} {qual : Str} {scope : Scope} {f : Addr} {cd : Value} {A : Around} {outer : List Env} {s s1 : Shared} {H : Hp} {E : XK} {us : List Value} {vs : List V}
    (S : FnScope N ps scope) (hd : A.handled = none) (e0 : Env0 P w K mg base A outer s H) (hl : vs.length = ps.length) (r : Vals vs us)
    (x : InCallC s s.heap.objs.size (bindL (envOfC qual scope s.heap.objs.size f cd).kindOf (ps.zip us) fun _ => none) (cellsFrom (s.heap.objs.size + 1) scope.names []) (bindC (envOfC qual scope s.heap.objs.size f cd).kindOf (ps.zip us) fun _ => none) s1) :
    Inv (cxOf CX P w K mg base N qual scope f cd A outer s H E) [] (start N vs) H s1 := by
  have hpl : ps.length ≤ N.length := by have := congrArg List.length S.pre; rw [List.length_take] at this; omega
  obtain ⟨h1, tk, rfl, hk⟩ := x.done
  have noA : ∀ b : Addr, b ∉ (cxOf CX P w K mg base N qual scope f cd A outer s H E).ex := fun b z => absurd (show b ∈ ([] : List Addr) from z) (by simp)
  refine ⟨⟨e0.mod, S.kind, rfl, rfl, Nat.le_refl _, fun y z c h1 h2 => ?_, fun y hy => ?_, fun y c _ h => ?_, fun _ => hd, Around.frames_deeper e0.frames, .inr ⟨rfl, rfl⟩, fun b z => absurd z (noA b), e0.bs, e0.bsz, fun b _ _ => noA b, fun b z => absurd z (noA b), e0.funs, e0.frf⟩,
    rfl, e0.bare, Un.kept hk, ⟨_, x.toInCall.ns, fun i y v h1 h2 h3 => ?_⟩, fun y c h => ⟨_, x.cell y c h⟩, e0.hok.fresh (Nat.le_refl _), fun y c h => ?_, fun p hp => absurd (show p ∈ ([] : List (Addr × Obj)) from hp) (by simp), e0.hok.kept hk, ?_⟩
  · exact name_of_addr x.apart (PySem.mem_of_lookup h1) (PySem.mem_of_lookup h2)
  · have hy : scope.names.lookup y = some .cell ∨ scope.names.lookup y = some .free := hy
    rcases hy with hy | hy
    · exact cell_has hy
    · exact absurd rfl (S.nofree _ (PySem.mem_of_lookup hy))
  · exact Nat.le_of_lt (x.above y c (PySem.mem_of_lookup h))
  · have hi : i < vs.length := by
      unfold start at h2
      by_cases hi : i < vs.length
      · exact hi
      · rw [List.getElem?_append_right (by simpa using hi)] at h2
        rw [List.getElem?_replicate] at h2
        split at h2 <;> cases h2
    have ha : vs[i]? = some v := by
      unfold start at h2
      rw [List.getElem?_append_left (by simpa using hi), List.getElem?_map] at h2
      cases e : vs[i]? with
      | none => rw [e] at h2; cases h2
      | some a => rw [e] at h2; cases h2; rfl
    obtain ⟨u, hu, rv⟩ := r.get ha
    have hp : ps[i]? = some y := by
      rw [← S.pre, List.getElem?_take_of_lt (by omega)]; exact h1
    have ndP : ps.Nodup := by rw [← S.pre]; exact S.nd.sublist (List.take_sublist _ _)
    refine ⟨u, rv, ?_⟩
    rcases S.par y (List.mem_of_getElem? hp) with k | k
    · exact .inl ⟨k, bindL_get ndP hp hu k⟩
    · obtain ⟨c, e⟩ := cell_has (n := s.heap.objs.size + 1) k
      refine .inr ⟨.inl k, c, e, ?_⟩
      have q := x.cell y c e
      rw [bindC_get ndP hp hu (by show scope.names.lookup y ≠ _; rw [k]; decide)] at q
      exact q
  · exact e0.hok.fresh (Nat.le_of_lt (x.above y c (PySem.mem_of_lookup h)))
  · unfold start
    show _ = N.length
    rw [List.length_append, List.length_map, List.length_replicate]
    omega

/-- THE RULE: a def (or a method) of the text, by its body. The body's reading t is chosen for each entry; it is run at the parameters' values -/
theorem fn_of {CX : CXT} {P : Program} {w : World} {K : PySem.W.Frag} {mg : Str → Option Value} {base : Heap} {k : Nat} {f : Addr} {name qual : Str} {params : Arguments} {body : List Stmt} {scope : Scope} {dV kV doc pm cdv ct oc : Value} {an od : Option Addr}
    {osl : Array (Option Value)} {N ps : List Str} {sp : Sp} (lk : K.lookup f = some ⟨oc, od, .func (PySem.W.fnOf name qual params body scope dV kV doc pm an cdv ct), osl⟩) (hcd : PySem.W.codeIn K cdv qual = true) (S : FnScope N ps scope)
    (len : ∀ vs H Q E, sp vs H Q E → vs.length = ps.length)
    (hbody : ∀ (A : Around) (outer : List Env) (s : Shared) (H : Hp) (vs : List V) (Q : VK) (E : XK), Room k (A.deeper (envOfC qual scope s.heap.objs.size f cdv)) → sp vs H Q E →
      ∃ t, PSs (cxOf CX P w K mg base N qual scope f cdv A outer s H E) body t ∧ t { nx := fun _ H' => Q .non H', rt := Q } (start N vs) H) :
    FnOk P w K mg base CX (k + 1) f (PySem.W.fnOf name qual params body scope dV kV doc pm an cdv ct) ps sp := by
  refine ⟨len, fun A outer s H args us vs Q E hr e0 hb r hsp => ?_⟩
  have hl := len _ _ _ _ hsp
  have KX : K.In s.heap := e0.mod.kin.keeps fun b o e => (e0.bs b o e).1
  have lim : s.heap.NoLimit := e0.mod.nolimit.keeps fun b o e => (e0.bs b o e).1
  have hkind : ∀ y ∈ ps.zip us, scope.names.lookup y.1 = some .local ∨ (scope.names.lookup y.1 = some .cell ∧ ((cellsFrom (s.heap.objs.size + 1) scope.names []).lookup y.1).isSome = true) := fun ⟨n, v⟩ hy => by
    rcases S.par n (List.of_mem_zip hy).1 with q | q
    · exact .inl q
    · exact .inr ⟨q, PySem.W.cellsFrom_some _ _ _ (.inl q)⟩
  refine codeAny_call_function hr.depth (KX _ _ lk) rfl S.co S.gen rfl (PySem.W.codeRec_of KX hcd) (hb _ _ _ _ ?_)
  refine wpAny_newFunctionEnv_cells S.kind hkind fun env he s1 x => ?_
  subst he
  refine ⟨lim.keeps x.toInCall.keep, codeAny_func ?_⟩
  obtain ⟨t, ht, hq⟩ := hbody A outer s H vs Q E (hr.deeper _) hsp
  have I : Inv (cxOf CX P w K mg base N qual scope f cdv A outer s H E) [] (start N vs) H s1 := inv_start S hr.hd e0 hl r x
  refine wpAny_mono (ht [] s1 (start N vs) H _ I hq) (fun fl s' hs => ?_) fun e s' hs => hs
  have fin : ∀ {σ' : St} {H' : Hp} {v : V} {u : Value}, Inv (cxOf CX P w K mg base N qual scope f cdv A outer s H E) [] σ' H' s' → RelV v u → Q v H' → CE outer P w H s Q u s' :=
    fun {σ' H' v u} J rv q => ⟨v, H', J.os, J.bare, J.base, J.hok, rv, q⟩
  cases fl with
  | ret u =>
    obtain ⟨v, σ', H', J, rv, q⟩ := hs
    exact fin J rv q
  | next =>
    obtain ⟨σ', H', J, q⟩ := hs
    exact fin (v := V.non) (u := Value.none) J rfl q
  | brk =>
    obtain ⟨_, _, _, q⟩ := hs
    exact False.elim q
  | cont =>
    obtain ⟨_, _, _, q⟩ := hs
    exact False.elim q
end L2

namespace L2
open PySem PySem.Spec PyProof.Rows
section
variable {X : Cx} {x : Str} {p pos : Pos} {e : Expr} {es : List Expr} {t : TA} {id T : String} {r : List V → Hp → VK → Prop}

def tCB (r : List V → Hp → VK → Prop) (t : TA) : TE := fun σ H Q => t σ H fun vs H1 => r vs H1 Q
/-- f(e, ..), f a built-in function -/
theorem pe_callB (hc : CallR X (.builtin id) r) (hg : Gl X x) (hm : X.mg x = none) (hv : bootBuiltins x = some (.builtin id)) (ha : PA X (e :: es) t) (hn : x ≠ "__name__" := by decide) (hdb : (x == ("__debug__" : Str)) = false := by decide)
    (he : starEach (e :: es) X.env = (false, eval e X.env) :: starEach es X.env := by rfl) (hpl : (backTo pos (starEach es X.env)).any (·.1) = false := by rfl) : PE X (.Call (.Name x p) (e :: es) [] pos) (tCB r t) := by
  intro pins s σ H Q I h
  refine wpAny_Call_Name_kw (ld_blt I hg hm hv ?_ hn hdb)
  exact PyProof.Rows.callWith_builtin1 (thn (ha pos pins s σ H _ I h) fun us s1 ⟨vs, H1, I1, r1, q1⟩ => hc pins s1 σ H1 vs us Q I1 r1 q1) he hpl
/-- T(e, ..), T a built-in type -/
theorem pe_callTy (hc : CallR X (.type T) r) (hg : Gl X x) (hm : X.mg x = none) (hv : bootBuiltins x = some (.type T)) (ha : PA X (e :: es) t) (hn : x ≠ "__name__" := by decide) (hdb : (x == ("__debug__" : Str)) = false := by decide)
    (he : starEach (e :: es) X.env = (false, eval e X.env) :: starEach es X.env := by rfl) (hpl : (backTo pos (starEach es X.env)).any (·.1) = false := by rfl) : PE X (.Call (.Name x p) (e :: es) [] pos) (tCB r t) := by
  intro pins s σ H Q I h
  refine wpAny_Call_Name_kw (ld_blt I hg hm hv ?_ hn hdb)
  exact PyProof.Rows.callWith_type1 (thn (ha pos pins s σ H _ I h) fun us s1 ⟨vs, H1, I1, r1, q1⟩ => hc pins s1 σ H1 vs us Q I1 r1 q1) he hpl
end
end L2

namespace HT
open PySem PyProof.Rows

/-- t < u of tuples of ints -/
def lexLt : List Int → List Int → Bool
  | [], [] => false
  | [], _ :: _ => true
  | _ :: _, [] => false
  | x :: xs, y :: ys => if x = y then lexLt xs ys else decide (x < y)


section
open PySem.SeqAt
open PySem.AutoSeq1 (wpAny_loadPart')
open PySem.MeetsSeq PySem.MeetsSeq2 PySem.MeetsSeq3

end

section
variable {prog : Program} {w : World} {A : Around} {E : Value → Shared → Prop} {s : Shared}



/-! ### t[a:b], not the whole -/
/-- a slice's bound as a place among n (d where it is left out) -/
def sIx (n d : Nat) : Option Int → Nat
  | none => d
  | some v => if v < 0 then (v + (n : Int)).toNat else min v.toNat n

end
end HT

namespace L2
open PySem PySem.Spec PyProof.Rows

/-! ### the parts of a slice -/
abbrev TO := St → Hp → (Option Int → Hp → Prop) → Prop
/-- a slice's part (left out, or an int) -/
def PO (X : Cx) (e : Option Expr) (t : TO) : Prop :=
  ∀ (pins : List (Addr × Obj)) (s : Shared) (σ : St) (H : Hp) (Q : Option Int → Hp → Prop), Inv X pins σ H s → t σ H Q →
    wpAny (model X.prog X.w) X.A (evalPart e X.env) (fun u s' => ∃ o H', Inv X pins σ H' s' ∧ IsPart u o ∧ Q o H') X.xe s
def tNoPart : TO := fun _ H Q => Q none H
def tPart (t : TE) : TO := fun σ H Q => t σ H fun x H1 => ∃ i, x = .int i ∧ Q (some i) H1


section
variable {X : Cx} {e : Expr} {te : TE} {lo hi : Option Expr} {tl th : TO} {pos p2 : Pos}

theorem po_none : PO X none tNoPart := by
  intro pins s σ H Q I h
  rw [evalPart_none]
  exact wpAny_pure ⟨none, H, I, .none, h⟩
theorem po_some (h : PE X e te) : PO X (some e) (tPart te) := by
  intro pins s σ H Q I hw
  rw [evalPart_some]
  refine thn (h pins s σ H _ I hw) fun u s1 ⟨x, H1, I1, r1, q1⟩ => ?_
  obtain ⟨i, rfl, q⟩ := q1
  obtain ⟨t, rfl⟩ := r1
  exact ⟨some i, H1, I1, .int i t, q⟩

/-- what a slice of a value is, by values: the slice object stands at sl -/
def SlR (X : Cx) (r : V → Option Int → Option Int → Hp → VK → Prop) : Prop :=
  ∀ (pins : List (Addr × Obj)) (s : Shared) (σ : St) (H : Hp) (x : V) (v vl vu : Value) (lo hi : Option Int) (sl : Addr) (Q : VK), Inv X pins σ H s → RelV x v → s.heap.IsSliceOf sl vl vu .none → IsPart vl lo → IsPart vu hi → r x lo hi H Q →
    ∃ T id, typeLookup (.type T) "__getitem__" = pure (some (.builtin id)) ∧ s.TypeIs v T ∧ wpAny (model X.prog X.w) X.A (getItem v (.ref sl)) (EP X pins σ Q) X.xe s
def tSl (r : V → Option Int → Option Int → Hp → VK → Prop) (te : TE) (tl th : TO) : TE := fun σ H Q => te σ H fun x H1 => tl σ H1 fun l H2 => th σ H2 fun u H3 => r x l u H3 Q
/-- a[lo:hi], any a -/
theorem pe_slice {r : V → Option Int → Option Int → Hp → VK → Prop} (hr : SlR X r) (he : PE X e te) (hl : PO X lo tl) (hu : PO X hi th) : PE X (.Subscript e (.Slice lo hi none p2) pos) (tSl r te tl th) := by
  intro pins s σ H Q I h
  refine Subscript_ (thn (he pins s σ H _ I h) fun v s1 ⟨x, H1, I1, r1, q1⟩ => ?_)
  refine wpAny_Slice (thn (hl pins s1 σ H1 _ I1 q1) fun vl s2 ⟨l, H2, I2, pl, q2⟩ => thn (hu pins s2 σ H2 _ I2 q2) fun vu s3 ⟨u, H3, I3, pu, q3⟩ => ?_)
  rw [evalPart_none]
  refine wpAny_pure ?_
  have I4 : Inv X pins σ H3 { s3 with heap := s3.heap.push { cls := .type "slice", data := .fields #[vl, vu, .none] } } := I3.kept (t' := s3.toks) fun b ob q => Heap.get?_push_of_some _ q
  obtain ⟨T, id, hT, ht, hg⟩ := hr pins { s3 with heap := s3.heap.push { cls := .type "slice", data := .fields #[vl, vu, .none] } } σ H3 x v vl vu l u s3.heap.objs.size Q I4 r1 (Heap.IsSliceOf.new ..) pl pu q3
  show wpAny (model X.prog X.w) X.A (subscriptTail e (.Slice lo hi none p2) v (.ref s3.heap.objs.size)) (EP X pins σ Q) X.xe { s3 with heap := s3.heap.push { cls := .type "slice", data := .fields #[vl, vu, .none] } }
  exact tail_any (ops := [.ref s3.heap.objs.size, v]) ht hT hg (by with_unfolding_all rfl)

/-- the items of xs[lo:hi] -/
def cutV (xs : List V) (lo hi : Option Int) : List V := (xs.drop (HT.sIx xs.length 0 lo)).take (HT.sIx xs.length xs.length hi - HT.sIx xs.length 0 lo)
theorem cutV_length (xs : List V) (lo hi : Option Int) : (cutV xs lo hi).length ≤ xs.length := by
  unfold cutV
  rw [List.length_take, List.length_drop]
  omega
/-- t[lo:hi], not the whole of it (the whole would be t itself) -/
def rSlT (K : PySem.W.Frag) : V → Option Int → Option Int → Hp → VK → Prop := fun x lo hi H Q => ∃ a xs, x = .ref a ∧ SqT K H a xs ∧
  ¬ (HT.sIx xs.length 0 lo = 0 ∧ HT.sIx xs.length xs.length hi = xs.length) ∧ ∀ p, H p = none → Q (.ref p) (upd H p (.tup (cutV xs lo hi)))

/-! ### t < u, t + u -/
def rLtT (K : PySem.W.Frag) : R2 := fun x y H Q => ∃ a b ns ms, x = .ref a ∧ y = .ref b ∧ SqT K H a (ns.map V.int) ∧ SqT K H b (ms.map V.int) ∧ Q (.bl (HT.lexLt ns ms)) H
/-- t + u, t not empty: u empty gives t itself -/
def rCatT (K : PySem.W.Frag) : R2 := fun x y H Q => ∃ a b xs ys, x = .ref a ∧ y = .ref b ∧ SqT K H a xs ∧ SqT K H b ys ∧ xs ≠ [] ∧ xs.length + ys.length ≤ sizeLine ∧
  (ys = [] → Q (.ref a) H) ∧ (ys ≠ [] → ∀ p, H p = none → Q (.ref p) (upd H p (.tup (xs ++ ys))))
end
end L2

namespace L2
open PySem PySem.Spec PyProof.Rows

/-! ### places -/
/-- the place that an index of any sign means -/
def ixN (n : Nat) (i : Int) : Option Nat := if 0 ≤ i then (if i < n then some i.toNat else none) else if -(n : Int) ≤ i then some (i + n).toNat else none
def atI {α : Type} (xs : List α) (i : Int) : Option α := (ixN xs.length i).bind fun j => xs[j]?
theorem ixN_seq {n : Nat} {i : Int} {j : Nat} (h : ixN n i = some j) : seqIndex? i n = some j ∧ j < n ∧ -(n : Int) ≤ i ∧ i < n := by
  unfold ixN at h
  by_cases h0 : 0 ≤ i
  · rw [if_pos h0] at h
    by_cases h1 : i < n
    · rw [if_pos h1] at h
      have e : i.toNat = j := Option.some.inj h
      exact ⟨by rw [seqIndex_of h0 h1, e], by omega, by omega, h1⟩
    · rw [if_neg h1] at h; cases h
  · rw [if_neg h0] at h
    by_cases h1 : -(n : Int) ≤ i
    · rw [if_pos h1] at h
      have e : (i + n).toNat = j := Option.some.inj h
      exact ⟨by rw [seqIndex_neg (by omega) h1, e], by omega, h1, by omega⟩
    · rw [if_neg h1] at h; cases h
theorem atI_get {α : Type} {xs : List α} {i : Int} {v : α} (h : atI xs i = some v) : ∃ j, seqIndex? i xs.length = some j ∧ xs[j]? = some v ∧ j < xs.length ∧ -(xs.length : Int) ≤ i ∧ i < xs.length := by
  unfold atI at h
  cases e : ixN xs.length i with
  | none => rw [e] at h; cases h
  | some j =>
    rw [e] at h
    obtain ⟨h1, h2, h3, h4⟩ := ixN_seq e
    exact ⟨j, h1, h, h2, h3, h4⟩
theorem atI_nat {α : Type} {xs : List α} {j : Nat} {v : α} (h : xs[j]? = some v) : atI xs (j : Int) = some v := by
  have hj : j < xs.length := (List.getElem?_eq_some_iff.mp h).1
  have e : ixN xs.length (j : Int) = some j := by
    unfold ixN
    rw [if_pos (by omega), if_pos (by omega)]; simp
  unfold atI; rw [e]; exact h

/-! ### what may be subscripted -/
/-- what stands as an index of a plain subscript -/
def PlainIx (b : Expr) : Prop := ∀ o i, subscripted b false o i = operate [o, i] (getItem o i)
/-- a subscript by values -/
def IxR (X : Cx) (r : R2) : Prop :=
  ∀ (value slice : Expr) (pins : List (Addr × Obj)) (s : Shared) (σ : St) (H : Hp) (x y : V) (v u : Value) (Q : VK), Inv X pins σ H s → RelV x v → RelV y u → r x y H Q →
    subscripted slice false v u = operate [v, u] (getItem v u) → wpAny (model X.prog X.w) X.A (subscriptTail value slice v u) (EP X pins σ Q) X.xe s
/-- a call of a builtin's method by values: the receiver, the arguments -/
def MtR (X : Cx) (id : String) (r : V → List V → Hp → VK → Prop) : Prop :=
  ∀ (pins : List (Addr × Obj)) (s : Shared) (σ : St) (H : Hp) (x : V) (xs : List V) (v : Value) (us : List Value) (Q : VK), Inv X pins σ H s → RelV x v → Vals xs us → r x xs H Q →
    wpAny (model X.prog X.w) X.A (call (.builtin id) (v :: us)) (EP X pins σ Q) X.xe s
section
variable {X : Cx} {a b : Expr} {ta tb : TE} {pos : Pos}
/-- a[b] -/
theorem pe_ix {r : R2} (hr : IxR X r) (ha : PE X a ta) (hb : PE X b tb) (hs : PlainIx b) : PE X (.Subscript a b pos) (tOp r ta tb) := by
  intro pins s σ H Q I h
  exact Subscript_ (binT ha hb I h fun v u s2 x y H2 I2 rx ry q => hr a b pins s2 σ H2 x y v u Q I2 rx ry q (hs _ _))

def rIxL (K : PySem.W.Frag) : R2 := fun x y H Q => ∃ p xs i v, x = .ref p ∧ y = .int i ∧ SqL K H p xs ∧ atI xs i = some v ∧ Q v H
def rIxT (K : PySem.W.Frag) : R2 := fun x y H Q => ∃ p xs i v, x = .ref p ∧ y = .int i ∧ SqT K H p xs ∧ atI xs i = some v ∧ Q v H
def rIxS : R2 := fun x y H Q => ∃ z i c, x = .str z ∧ y = .int i ∧ z.length ≤ sizeLine ∧ atI z.cps.toList i = some c ∧ Q (.str ⟨#[c]⟩) H
theorem ix_list : IxR X (rIxL X.K) := by
  intro value slice pins s σ H x y v u Q I rx ry h hs
  obtain ⟨p, xs, i, z, rfl, rfl, hq, he, q⟩ := h
  cases rx
  obtain ⟨t, rfl⟩ := ry
  obtain ⟨its, r, pl, hz⟩ := I.list hq
  obtain ⟨j, h1, h2, h3, h4, h5⟩ := atI_get he
  obtain ⟨w, ew, rw'⟩ := r.get h2
  have hl := r.length
  have hn := line63
  have fin : EP X pins σ Q w s := ⟨z, H, I, rw', q⟩
  by_cases h0 : 0 ≤ i
  · have hj : i.toNat = j := by
      rw [seqIndex_of h0 h5] at h1
      exact Option.some.inj h1
    exact item_listR pl.isList h0 (by omega) (by rw [hj]; simpa using ew) fin hs
  · have hj : (i + (its.toArray.size : Int)).toNat = j := by
      rw [seqIndex_neg (by omega) h4] at h1
      rw [List.size_toArray, ← hl]
      exact Option.some.inj h1
    exact subscriptTail_builtinR (x := w) pl.isList.typeIs slot_list_getitem.lookup
      (wpAny_getItem_list_neg (Q := fun r s' => r = w ∧ EP X pins σ Q r s') pl.isList (by omega) (by rw [List.size_toArray] <;> omega) (by omega) (by rw [hj]; simpa using ew) ⟨rfl, fin⟩) hs
theorem ix_str : IxR X rIxS := by
  intro value slice pins s σ H x y v u Q I rx ry h hs
  obtain ⟨z, i, c, rfl, rfl, hz, he, q⟩ := h
  obtain ⟨t, rfl⟩ := rx
  obtain ⟨t', rfl⟩ := ry
  obtain ⟨j, h1, h2, h3, h4, h5⟩ := atI_get he
  have hl : z.cps.toList.length = z.length := by simp [Str.length]
  rw [hl] at h1 h4 h5
  have hn := line63
  exact tail_any (typeIs_str s z t) slot_str_getitem.lookup (getItem_str (c := c) (by
    have e1 : decide (i < -(2 ^ 63 : Int)) = false := decide_eq_false (by omega)
    have e2 : decide (i ≥ 2 ^ 63) = false := decide_eq_false (by omega)
    rw [e1, e2, Bool.or_false]) (by rw [h1]; simpa using h2) ⟨.str ⟨#[c]⟩, H, I.tok _, ⟨_, rfl⟩, q⟩) hs
/-- list, tuple or str -/
def rIx (K : PySem.W.Frag) : R2 := fun x y H Q => rIxL K x y H Q ∨ rIxT K x y H Q ∨ rIxS x y H Q

/-! ### xs[i] = v, any sign -/
def rSetL : V → V → V → Hp → (Hp → Prop) → Prop := fun o i v H Q => ∃ p xs k j, o = .ref p ∧ i = .int k ∧ H p = some (.lst xs) ∧ ixN xs.length k = some j ∧ Q (upd H p (.lst (xs.set j v)))

/-! ### slices -/
theorem slice_bounds (lo hi : Option Int) (n : Nat) : (sliceBounds lo hi none n).1 = ((HT.sIx n 0 lo : Nat) : Int) ∧ (sliceBounds lo hi none n).2.1 = ((HT.sIx n n hi : Nat) : Int) ∧ (sliceBounds lo hi none n).2.2 = 1 := by
  refine ⟨?_, ?_, rfl⟩
  · cases lo with
    | none => simp [sliceBounds, HT.sIx]
    | some i =>
      simp only [sliceBounds, HT.sIx, Option.getD_none, show (1 : Int) > 0 by decide, if_true]
      by_cases h : i < 0
      · simp only [h, if_true] <;> omega
      · simp only [h, if_false] <;> omega
  · cases hi with
    | none => simp [sliceBounds, HT.sIx]
    | some i =>
      simp only [sliceBounds, HT.sIx, Option.getD_none, show (1 : Int) > 0 by decide, if_true]
      by_cases h : i < 0
      · simp only [h, if_true] <;> omega
      · simp only [h, if_false] <;> omega
theorem slicePick_cut (its : List Value) (lo hi : Option Int) : slicePick its.toArray lo hi none = ((its.drop (HT.sIx its.length 0 lo)).take (HT.sIx its.length its.length hi - HT.sIx its.length 0 lo)).toArray := by
  obtain ⟨h1, h2, h3⟩ := slice_bounds lo hi its.toArray.size
  unfold slicePick
  rw [h1, h2, h3]
  simp only [sliceRange_one, pick_run, List.size_toArray] <;> rfl
/-- xs[lo:hi] of a list: a new list -/
def rSlL (K : PySem.W.Frag) : V → Option Int → Option Int → Hp → VK → Prop := fun x lo hi H Q => ∃ a xs, x = .ref a ∧ SqL K H a xs ∧ ∀ p, H p = none → Q (.ref p) (upd H p (.lst (cutV xs lo hi)))
theorem sl_list : SlR X (rSlL X.K) := by
  intro pins s σ H x v vl vu lo hi sl Q I rx hs pl pu h
  obtain ⟨a, xs, rfl, hx, q⟩ := h
  cases rx
  obtain ⟨its, r, ht, hz⟩ := I.list hx
  have hlen := r.length
  refine ⟨"list", _, slot_list_getitem.lookup, ht.isList.typeIs, ?_⟩
  refine wpAny_getItem_list_slice ht.isList hs pl pu .none (by simp) ?_ (by rw [List.size_toArray] <;> omega)
  rw [slicePick_cut, ← hlen]
  refine ⟨.ref s.heap.objs.size, _, I.laid (t' := s.toks) (o := .lst (cutV xs lo hi)) (fun b ob q => Heap.get?_push_of_some _ q) (Nat.le_refl _) ?_, rfl, q _ (I.hok.fresh (Nat.le_refl _))⟩
  exact ⟨Nat.le_trans (cutV_length xs lo hi) hz, _, 0, (r.drop (HT.sIx xs.length 0 lo)).take (HT.sIx xs.length xs.length hi - HT.sIx xs.length 0 lo), Heap.get?_push_size _ rfl⟩

/-! ### in, not in: flat items -/
def flatV : V → Bool
  | .non => true
  | .bl _ => true
  | .int _ => true
  | .str _ => true
  | _ => false
/-- == of flat values -/
def eqV : V → V → Bool
  | .non, .non => true
  | .bl a, .bl b => a == b
  | .bl a, .int b => (if a then 1 else 0) == b
  | .int a, .bl b => a == (if b then 1 else 0)
  | .int a, .int b => a == b
  | .str a, .str b => a == b
  | _, _ => false
/-- the items' answers, read off the values (a value's own answer does not lean on its token) -/
def eqU (x : V) (u : Value) : Bool := match u with
  | .none => eqV .non x
  | .bool b => eqV (.bl b) x
  | .int i _ => eqV (.int i) x
  | .str z _ => eqV (.str z) x
  | _ => false
def inV (x : V) (xs : List V) : Bool := xs.any fun y => eqV y x
/-- x in a list or tuple of flat items -/
def rIn (K : PySem.W.Frag) (neg : Bool) : R2 := fun x y H Q => ∃ p xs, y = .ref p ∧ (SqL K H p xs ∨ SqT K H p xs) ∧ flatV x = true ∧ xs.all flatV = true ∧ Q (.bl (if neg then !inV x xs else inV x xs)) H

/-! ### len, list(x), tuple(x) of any list or tuple that is read -/
theorem call_len_seq : CallR X (.builtin "len") (fun xs H Q => ∃ p ys, xs = [.ref p] ∧ (SqL X.K H p ys ∨ SqT X.K H p ys) ∧ Q (.int ys.length) H) := by
  intro pins s σ H xs us Q I r h
  obtain ⟨p, ys, rfl, hq, q⟩ := h
  obtain ⟨u, rfl, rx⟩ := vals1 r
  cases rx
  have hn := line63
  rcases hq with hq | hq
  · obtain ⟨its, r', pl, hz⟩ := I.list hq
    have hlen := r'.length
    exact Calls.call_len_list pl.isList (by simp only [List.size_toArray] <;> omega) ⟨.int ys.length, H, I.tok _, ⟨s.toks + 1, by rw [List.size_toArray, hlen]⟩, q⟩
  · obtain ⟨its, r', pl, hz⟩ := I.tuple hq
    have hlen := r'.length
    exact len_tuple pl (by simp only [List.size_toArray] <;> omega) ⟨.int ys.length, H, I.tok _, ⟨s.toks + 1, by rw [List.size_toArray, hlen]⟩, q⟩
theorem call_len_str : CallR X (.builtin "len") (fun xs H Q => ∃ z, xs = [.str z] ∧ z.length ≤ sizeLine ∧ Q (.int z.length) H) := by
  intro pins s σ H xs us Q I r h
  obtain ⟨z, rfl, hz, q⟩ := h
  obtain ⟨u, rfl, t, rfl⟩ := vals1 r
  have hn := line63
  exact len_str (by omega) ⟨.int z.length, H, I.tok _, ⟨_, rfl⟩, q⟩
theorem call_tuple_of : CallR X (.type "tuple") (fun xs H Q => ∃ p ys, xs = [.ref p] ∧ ((SqL X.K H p ys ∧ ∀ l, H l = none → Q (.ref l) (upd H l (.tup ys))) ∨ (SqT X.K H p ys ∧ Q (.ref p) H))) := by
  intro pins s σ H xs us Q I r h
  obtain ⟨p, ys, rfl, h⟩ := h
  obtain ⟨u, rfl, rx⟩ := vals1 r
  cases rx
  rcases h with ⟨hq, q⟩ | ⟨hq, q⟩
  · obtain ⟨its, r', pl, hz⟩ := I.list hq
    have hlen := r'.length
    refine call_tuple_list pl.isList (fun h' kp => ?_) (by simp only [List.size_toArray] <;> omega)
    have I1 : Inv X pins σ H { s with heap := h' } := I.kept (t' := s.toks) kp
    have I2 : Inv X pins σ (upd H h'.objs.size (.tup ys)) { s with heap := h'.push { cls := .type "tuple", data := .seq its.toArray } } :=
      I1.laid (t' := s.toks) (fun b o e => Heap.get?_push_of_some _ e) (Nat.le_refl _) (show ObjOk X.prog X.w _ _ _ (.tup ys) from ⟨hz, its, r', IsTup.new _ _⟩)
    exact ⟨.ref h'.objs.size, _, I2, rfl, q _ (I1.hok.fresh (Nat.le_refl _))⟩
  · obtain ⟨its, r', pl, hz⟩ := I.tuple hq
    exact call_tuple_same pl ⟨.ref p, H, I, rfl, q⟩

/-! ### the call of a builtin's method: o.m(..) -/
/-- the value is of that builtin type -/
def tyV (K : PySem.W.Frag) (T : String) (x : V) (H : Hp) : Prop := match x with
  | .str _ => T = "str"
  | .int _ => T = "int"
  | .ref p => (T = "list" ∧ ∃ xs, SqL K H p xs) ∨ (T = "tuple" ∧ ∃ o, K.lookup p = some o ∧ o.cls = .type "tuple" ∧ o.dict = none) ∨
      (T = "dict" ∧ ((∃ kvs, H p = some (.dK kvs)) ∨ ∃ kvs, H p = some (.dT kvs))) ∨ (T = "set" ∧ ∃ S n, H p = some (.set S n))
  | _ => False
theorem tyV_is {pins : List (Addr × Obj)} {σ : St} {H : Hp} {s : Shared} {T : String} {x : V} {v : Value} (I : Inv X pins σ H s) (r : RelV x v) (ty : tyV X.K T x H) :
    s.TypeIs v T ∧ ∀ a, v = .ref a → ∃ ob, s.heap.get? a = some ob ∧ ob.dict = none := by
  cases x with
  | str z =>
    obtain ⟨t, rfl⟩ := r
    cases (show T = "str" from ty)
    exact ⟨typeIs_str s z t, fun _ e => nomatch e⟩
  | int i =>
    obtain ⟨t, rfl⟩ := r
    cases (show T = "int" from ty)
    exact ⟨typeIs_int s i t, fun _ e => nomatch e⟩
  | ref p =>
    cases r
    rcases ty with ⟨rfl, xs, hq⟩ | ⟨rfl, o, hk, hc, hd⟩ | ⟨rfl, hk⟩ | ⟨rfl, S, n, hk⟩
    · obtain ⟨its, _, pl, _⟩ := I.list hq
      refine ⟨pl.isList.typeIs, fun a e => ?_⟩
      cases e
      obtain ⟨o, n, e, c, hd, _⟩ := pl
      exact ⟨o, e, hd⟩
    · refine ⟨⟨o, I.kIn p o hk, hc⟩, fun a e => ?_⟩
      cases e
      exact ⟨o, I.kIn _ o hk, hd⟩
    · have z : ∃ o, s.heap.get? p = some o ∧ o.ExactDict := by
        rcases hk with ⟨kvs, hk⟩ | ⟨kvs, hk⟩
        · obtain ⟨_, _, _, _, o, _, _, e, ex, _⟩ := I.hok p _ hk
          exact ⟨o, e, ex⟩
        · obtain ⟨_, _, _, _, o, _, _, e, ex, _⟩ := I.hok p _ hk
          exact ⟨o, e, ex⟩
      obtain ⟨o, e, ex⟩ := z
      refine ⟨⟨o, e, ex.1⟩, fun a e2 => ?_⟩
      cases e2
      exact ⟨o, e, ex.2.1⟩
    · obtain ⟨o, _, _, _, e, ex, _⟩ := I.hok p _ hk
      refine ⟨⟨o, e, ex.1⟩, fun a e2 => ?_⟩
      cases e2
      exact ⟨o, e, ex.2.1⟩
  | _ => exact False.elim ty
def tBM0 (K : PySem.W.Frag) (T : String) (r : V → List V → Hp → VK → Prop) (to : TE) : TE := fun σ H Q => to σ H fun x H1 => tyV K T x H1 ∧ r x [] H1 Q
def tBM (K : PySem.W.Frag) (T : String) (r : V → List V → Hp → VK → Prop) (to : TE) (t : TA) : TE := fun σ H Q => to σ H fun x H1 => tyV K T x H1 ∧ t σ H1 fun xs H2 => r x xs H2 Q
variable {o e : Expr} {es : List Expr} {to : TE} {t : TA} {name : Str} {apos cpos : Pos} {T id : String} {r : V → List V → Hp → VK → Prop}
theorem pe_bm (pa : PlainAttrs T) (slot : Slot T name id) (hty : typeOf (.builtin id) = pure (.type "method_descriptor")) (hm : MtR X id r) (ho : PE X o to) (ha : PA X (e :: es) t)
    (hbase : attributeBase o name X.env (eval o X.env) = eval o X.env := by rfl)
    (hfew : ((backTo cpos (starEach (e :: es) X.env)).all (fun x => !x.1) && (backToKw cpos (keywordEach [] X.env)).all (fun x => x.1.isSome)
      && decide ((e :: es).length + ([] : List Keyword).length + (if ([] : List Keyword).isEmpty then 0 else 1) < 30)) = true := by rfl)
    (hline : (apos.endLine == cpos.line) = true := by rfl) (hs : starEach (e :: es) X.env = (false, eval e X.env) :: starEach es X.env := by rfl) (hplain : (backTo cpos (starEach es X.env)).any (·.1) = false := by rfl) :
    PE X (.Call (.Attribute o name apos) (e :: es) [] cpos) (tBM X.K T r to t) := by
  intro pins s σ H Q I h
  refine wpAny_Call_method_late hbase hfew hline rfl (thn (ho pins s σ H _ I h) fun v s1 ⟨x, H1, I1, r1, ty, q1⟩ => ?_)
  obtain ⟨h1, h2⟩ := tyV_is I1 r1 ty
  refine ⟨T, id, pa, slot, hty, h1, h2, ?_⟩
  have hA := ha cpos pins s1 σ H1 _ I1 q1
  rw [hs] at hA ⊢
  refine Calls.callWith_builtin (by show (false || (backTo cpos (starEach es X.env)).any (·.1)) = false; rw [hplain] <;> rfl) (Calls.evalArgs_plain ?_)
  exact thn hA fun us s2 ⟨vs, H2, I2, r2, q2⟩ => hm pins s2 σ H2 x vs v us Q I2 r1 r2 q2
/- xs.append(e), list.index on a module's tuple .. are MtR facts of 06m -/
end
end L2

namespace L2
open PySem PySem.Spec PyProof.Rows

def MtM (X : Cx) (id : String) (r : V → List V → Hp → VK → Prop) : Prop :=
  ∀ (pins : List (Addr × Obj)) (s : Shared) (σ : St) (H : Hp) (x : V) (xs : List V) (v : Value) (us : List Value) (Q : VK), Inv X pins σ H s → RelV x v → Vals xs us → r x xs H Q →
    wpAny (model X.prog X.w) X.A (call (.builtin id) (v :: us)) (EP X pins σ Q) X.xe s

/-! ### lists of values -/
theorem Vals.one : ∀ {x : V} {us : List Value}, Vals [x] us → ∃ u, us = [u] ∧ RelV x u
  | _, _, .cons r .nil => ⟨_, rfl, r⟩
theorem Vals.eraseIdx : ∀ {xs : List V} {us : List Value} (i : Nat), Vals xs us → Vals (xs.eraseIdx i) (us.eraseIdx i)
  | _, _, _, .nil => .nil
  | _, _, 0, .cons _ t => t
  | _, _, i + 1, .cons r t => .cons r (Vals.eraseIdx i t)
theorem len_erase {α : Type} : ∀ (l : List α) (i : Nat), (l.eraseIdx i).length ≤ l.length
  | [], _ => Nat.le_refl _
  | _ :: _, 0 => Nat.le_succ _
  | _ :: r, i + 1 => Nat.succ_le_succ (len_erase r i)

section
variable {X : Cx} {pins : List (Addr × Obj)} {σ : St} {H : Hp} {s : Shared} {l b : Addr} {xs ys zs : List V}

/-! ### the two steps: a tracked list is rewritten, a new list is laid -/
theorem Inv.lset {its its' : List Value} {n : Nat} {f : Array Value → Array Value} {t' : Nat} (I : Inv X pins σ H s) (hH : H l = some (.lst xs))
    (e : s.heap.get? l = some { cls := .type "list", data := .seq its.toArray n }) (hf : f its.toArray = its'.toArray) (hv : Vals ys its') (hz : ys.length ≤ sizeLine) :
    Inv X pins σ (upd H l (.lst ys)) { s with heap := s.heap.update l (Obj.mapSeq f), toks := t' } := by
  have q := PySem.IsL.update e f
  rw [hf] at q
  refine I.write (x := l) (e := l) (by rw [hH]; exact trivial) (.inl rfl) (fun b' u hb hu => (Heap.get?_update_other s.heap (Obj.mapSeq f) (Ne.symm hb)).trans hu) ⟨_, q⟩ ?_
  exact ⟨hz, its', _, hv, q⟩
theorem Inv.lnew {its : List Value} {t' : Nat} (I : Inv X pins σ H s) (hv : Vals ys its) (hz : ys.length ≤ sizeLine) :
    Inv X pins σ (upd H s.heap.objs.size (.lst ys)) { s with heap := s.heap.push { cls := .type "list", data := .seq its.toArray }, toks := t' } :=
  I.laid (fun _ _ q => Heap.get?_push_of_some _ q) (Nat.le_refl _) ⟨hz, its, 0, hv, Heap.get?_push_size _ rfl⟩
theorem Inv.fresh (I : Inv X pins σ H s) : H s.heap.objs.size = none := I.hok.fresh (Nat.le_refl _)
theorem Inv.lstM (I : Inv X pins σ H s) (hH : H l = some (.lst xs)) : xs.length ≤ sizeLine ∧ ∃ (its : List Value) (n : Nat), Vals xs its ∧ xs.length = its.length ∧ s.heap.get? l = some { cls := .type "list", data := .seq its.toArray n } := by
  obtain ⟨z, its, n, r, e⟩ := I.hok l _ hH
  exact ⟨z, its, n, r, r.length, e⟩

end

section
variable {X : Cx}

/-! ### methods -/
def rAppend : V → List V → Hp → VK → Prop := fun x vs H Q => ∃ l xs y, x = .ref l ∧ vs = [y] ∧ H l = some (.lst xs) ∧ xs.length < sizeLine ∧ Q .non (upd H l (.lst (xs ++ [y])))
theorem mt_append : MtM X "list.append" rAppend := by
  intro pins s σ H x vs v us Q I rx rv h
  obtain ⟨l, xs, y, rfl, rfl, hH, hz, q⟩ := h
  cases rx
  obtain ⟨u, rfl, ru⟩ := rv.one
  obtain ⟨z, its, n, r, hl, e⟩ := I.lstM hH
  refine call_meets F.slot_list_append ⟨_, e, rfl⟩ F.entry_list_append (F.args_list_append_2 _ _) (PySem.list_append l its.toArray n u (by rw [List.size_toArray]; omega)) ⟨e, ?_⟩
  refine ⟨.non, _, I.lset (its' := its ++ [u]) hH e (by simp) (r.append (.cons ru .nil)) ?_, rfl, q⟩
  rw [List.length_append, List.length_singleton]
  omega

def rExtend : V → List V → Hp → VK → Prop := fun x vs H Q => ∃ l b xs zs, x = .ref l ∧ vs = [.ref b] ∧ H l = some (.lst xs) ∧ H b = some (.lst zs) ∧ xs.length + zs.length ≤ sizeLine ∧ Q .non (upd H l (.lst (xs ++ zs)))

def rPop : V → List V → Hp → VK → Prop := fun x vs H Q => ∃ l xs y, x = .ref l ∧ vs = [] ∧ H l = some (.lst xs) ∧ xs[xs.length - 1]? = some y ∧ Q y (upd H l (.lst xs.dropLast))

def rPopAt : V → List V → Hp → VK → Prop := fun x vs H Q => ∃ l xs i k y, x = .ref l ∧ vs = [.int i] ∧ H l = some (.lst xs) ∧ -(2 ^ 63) ≤ i ∧ i < 2 ^ 63 ∧ seqIndex? i xs.length = some k ∧ xs[k]? = some y ∧ Q y (upd H l (.lst (xs.eraseIdx k)))
theorem mt_popAt : MtM X "list.pop" rPopAt := by
  intro pins s σ H x vs v us Q I rx rv h
  obtain ⟨l, xs, i, k, y, rfl, rfl, hH, h1, h2, hk, hy, q⟩ := h
  cases rx
  obtain ⟨u, rfl, ru⟩ := rv.one
  obtain ⟨t, rfl⟩ := ru
  obtain ⟨z, its, n, r, hl, e⟩ := I.lstM hH
  obtain ⟨w, hw, rw'⟩ := r.get hy
  refine call_meets F.slot_list_pop ⟨_, e, rfl⟩ F.entry_list_pop (F.args_list_pop_2 _ _)
    (MeetsSeq.list_pop_at l its.toArray n i t k w (fitsIndex_both h1 h2) (by rw [List.size_toArray, ← hl]; exact hk) (by rw [← Array.getElem?_toList]; exact hw) (by rw [List.size_toArray]; omega)) ⟨e, ?_⟩
  refine ⟨y, _, I.lset (its' := its.eraseIdx k) hH e ?_ (r.eraseIdx k) ?_, rw', q⟩
  · show its.toArray.eraseIdxIfInBounds k = (its.eraseIdx k).toArray
    rw [List.eraseIdxIfInBounds_toArray]
  · have := len_erase xs k
    omega

def rReverse : V → List V → Hp → VK → Prop := fun x vs H Q => ∃ l xs, x = .ref l ∧ vs = [] ∧ H l = some (.lst xs) ∧ Q .non (upd H l (.lst xs.reverse))

def rClear : V → List V → Hp → VK → Prop := fun x vs H Q => ∃ l xs, x = .ref l ∧ vs = [] ∧ H l = some (.lst xs) ∧ Q .non (upd H l (.lst []))

/-! ### list + list, list += list, list * int -/
def rCat : R2 := fun x y H Q => ∃ l b xs zs, x = .ref l ∧ y = .ref b ∧ H l = some (.lst xs) ∧ H b = some (.lst zs) ∧ xs.length + zs.length ≤ sizeLine ∧ ∀ p, H p = none → Q (.ref p) (upd H p (.lst (xs ++ zs)))
/-- a list times an int (a negative one is nothing) -/
def rRep : R2 := fun x y H Q => ∃ l k xs, x = .ref l ∧ y = .int k ∧ H l = some (.lst xs) ∧ -(2 ^ 63) ≤ k ∧ k < 2 ^ 63 ∧ xs.length * k.toNat ≤ sizeLine ∧
  ∀ p, H p = none → Q (.ref p) (upd H p (.lst (List.replicate k.toNat xs).flatten))

/-! ### del xs[i] -/
end

/-! ### xs[a:b] = ys -/
section
variable {prog : Program} {w : World} {A : Around} {E : Value → Shared → Prop} {s : Shared}
end

section
variable {X : Cx}
end
end L2

namespace Att
open PySem PySem.W PySem.Calls PyProof.Rows

/-! ### the script -/
theorem ints_of_wellAll {P : Params} {h : Heap} : ∀ (ns : List Int) (vs : List Value), WellAll P h vs (ns.map WData.int) → IntsAre vs ns := by
  intro ns
  induction ns with
  | nil =>
    intro vs w
    rw [List.map_nil] at w
    cases w
    exact .nil
  | cons n ns ih =>
    intro vs w
    rw [List.map_cons] at w
    cases w with
    | cons a b =>
      cases a
      exact .cons _ _ (ih _ b)

theorem script_of {l : OpenLaw} {n : Nat} (hn : l.most = some n) {P : Params} {h : Heap} {args : List WData} {vals : List Value}
    (hpre : l.row.toRowW.claim.pre args = true) (hwl : WellAll P h vals args) :
    ∃ a vs ns, vals = [Value.ref a] ∧ args = [WData.list (ns.map WData.int)] ∧ h.get? a = some { cls := .type "list", data := .seq vs.toArray } ∧ IntsAre vs ns ∧ ns.length ≤ n := by
  have hsh : WShape.hasAll [] args [.list .int] = true := (pre_splitW hpre).1
  have hc : l.pre.holds [] { args := args } = true := (pre_splitW hpre).2
  obtain ⟨d, r, rfl, h1, h2⟩ := hasAllW_cons hsh
  obtain rfl := hasAllW_nil h2
  obtain ⟨xs, rfl, h3⟩ := hasW_list h1
  obtain ⟨ns, rfl⟩ := items_int h3
  have hlen : ns.length ≤ n := by
    unfold OpenLaw.pre at hc
    have h4 : (WTm.not (.lt (.lit (.int (n : Int))) (.len (.arg 0)))).holds [] { args := [.list (ns.map .int)] } = true := by
      have h4 := (holds_andW hc).1
      rw [hn] at h4
      exact h4
    have h5 := condW_of h4 (w_not (w_lt w_lit (w_len_list (w_arg rfl))))
    rw [List.length_map] at h5
    refine Nat.le_of_not_lt fun q => ?_
    have q' : (n : Int) < ((ns.length : Nat) : Int) := by omega
    first
      | (rw [decide_eq_true q'] at h5; exact absurd h5 (by decide))
      | (simp at h5; omega)
  cases hwl with
  | cons w1 w2 =>
    cases w2
    cases w1 with
    | list ho hall => exact ⟨_, _, ns, rfl, rfl, ho, ints_of_wellAll ns _ hall, hlen⟩

theorem post_true (l : OpenLaw) (args : List WData) : l.row.toRowW.claim.post args (.bool true) args = true :=
  postW_of (r := l.row.toRowW) (X := (true == true))
    (show WShape.has [] (.bool true) .bool = true by first | rfl | decide | simp [WShape.has, WShape.arms, WShape.armsAll])
    (show (WTm.eq .res (.lit (.bool true))).value [] { args := args, res := some (.bool true), after := args } = some (.bool (true == true)) from w_eq_bool (w_res rfl) w_lit) rfl

/-! ### the attachment: holds_open's last premise (the goal 'hc' behind k_head) from a wpAny of the law's body -/

/-- the same from a codeAny of the CALL (for a layer whose function contracts speak of calls) -/
theorem attach_call {l : OpenLaw} {n : Nat} {q : Program} {loose : List Str} {XP : (Str → Option Value) → Heap → Prop} {YP : World → Heap → Prop} {d : DefRec}
    (hn : l.most = some n) (hdf : d.params.defaults = [])
    (call : ∀ (w : World) (s₀ s₁ : Shared) (mg mb : Str → Option Value) (fa : Addr) (o : Obj) (pm cd doc : Value) (a : Addr) (vs : List Value) (ns : List Int),
      Ground q loose [] XP w s₀ mg mb s₁.heap → YP w s₁.heap →
      s₁.heap.get? fa = some o → o.data = .func (docDef d.name d.params d.body d.scope pm cd doc) → s₁.heap.CodeRec cd d.name → mg d.name = some (.ref fa) →
      s₁.heap.get? a = some { cls := .type "list", data := .seq vs.toArray } → IntsAre vs ns → ns.length ≤ n → s₁.gens = #[] →
      codeAny (model l.prog w) callerA (.call (.ref fa) ⟨[.ref a], []⟩) (fun r s' => r = .ok (.ret (.bool true)) ∧ OldK s₁.heap s'.heap ∧ s'.os = s₁.os ∧ AllBare s'.gens) s₁) :
    WalkO q loose XP YP l.row.toRowW d [] (fun f vs => PySem.call f vs) := by
  intro w s₀ s₁ mg mb G Y fa o pm cd doc dV kV ho hd hcd hD hmg hg args vals as hpre hlay hrd hwl hlo
  obtain rfl : dV = .none := Dflts.none hD hdf
  obtain rfl : kV = .none := Dflts.noKw hD
  obtain ⟨a, vs, ns, rfl, rfl, hobj, hints, hlen⟩ := script_of hn hpre hwl
  refine enter_call (codeAny_mono (call w s₀ s₁ mg mb fa o pm cd doc a vs ns G Y ho (fd_plain hd) hcd hmg hobj hints hlen hg) fun r s' hq => ?_)
  obtain ⟨rfl, h2, h3, h4⟩ := hq
  exact ⟨.inl ⟨.bool true, .bool true, [], rfl, fun _ => rfl, .bool true, post_true l _, fun _ => ⟨List.Pairwise.nil, fun _ hm => (nomatch hm)⟩⟩, h2, h3, h4⟩


/-! ### rules over ANY heap (no ledger) from facts about the written part K: the library's own take a ledger (News) for what they write -/
section
variable {prog : Program} {w : World} {A : Around} {E : Value → Shared → Prop} {s : Shared} {K : Frag}





/-! the whole heap as the ledger: makes every rule that writes through a ledger a rule over any heap -/
def noObjs (h : Heap) : Heap := { h with objs := #[] }
def ledger (h : Heap) (L d : Addr) : List (Addr × Obj) := (List.range h.objs.size).filterMap fun a => if a = L ∨ a = d then none else (h.get? a).map fun o => (a, o)

end
end Att

namespace L2
open PySem PySem.Spec PyProof.Rows

theorem vals_ints : ∀ {vs : List Value} {ns : List Int}, IntsAre vs ns → Vals (ns.map V.int) vs
  | _, _, .nil => .nil
  | _, _, .cons n t h => .cons ⟨t, rfl⟩ (vals_ints h)

/-- nothing is tracked but the script, known to the object (or it is an object of the module) -/
def Only (H : Hp) : Prop := ∀ b, H b = none ∨ ∃ o xs, H b = some (.frz o (.lst xs))

/-- THE HEAD: the law's promise, at the heap behind the top. F, the promise of the law's def, may use that base is part of the heap (so K.In base, base.Ns mainGlobals mg stand in Mod) -/
theorem law_call {P : Program} {w : World} {K : PySem.W.Frag} {mg mb : Str → Option Value} {CX : CXT} {k : Nat} {fa a : Addr} {fd : FuncData} {x : Str} {sp : Sp} {s₁ : Shared} {vs : List Value} {ns : List Int}
    (KX : K.In s₁.heap) (hns : s₁.heap.Ns mainGlobals mg) (hb : s₁.heap.Ns builtinsNs mb) (hbb : ∀ x : Str, x ≠ "__name__" → mb x = bootBuiltins x) (hlim : s₁.heap.NoLimit) (hg : s₁.gens = #[])
    (ha : s₁.heap.get? a = some { cls := .type "list", data := .seq vs.toArray }) (hi : IntsAre vs ns) (hl : ns.length ≤ sizeLine) (hr : Room k callerA)
    (F : ∀ base : Heap, K.In base → base.Ns mainGlobals mg → FnOk P w K mg base CX k fa fd [x] sp) (hbind : ∀ (s : Shared) (u : Value), BindsTo s fd ⟨[u], []⟩ [(x, u)])
    (hsp : ∀ H : Hp, Only H → SqL K H a (ns.map V.int) → sp [.ref a] H (fun v _ => v = .bl true) fun _ _ _ => False)
    (hCX : ∀ H e s', CX [] H s₁ (fun _ _ _ => False) e s' → False) :
    codeAny (model P w) callerA (.call (.ref fa) ⟨[.ref a], []⟩) (fun r s' => r = .ok (.ret (.bool true)) ∧ OldK s₁.heap s'.heap ∧ s'.os = s₁.os ∧ AllBare s'.gens) s₁ := by
  have rv := vals_ints hi
  have lenV := hi.length
  -- from an abstract heap in which nothing but the script may be tracked
  have core : ∀ H : Hp, Only H → SqL K H a (ns.map V.int) → HOk P w H s₁.heap → (∀ b, H b ≠ none → b = a) → (H a ≠ none → K.lookup a = none) →
      codeAny (model P w) callerA (.call (.ref fa) ⟨[.ref a], []⟩) (fun r s' => r = .ok (.ret (.bool true)) ∧ OldK s₁.heap s'.heap ∧ s'.os = s₁.os ∧ AllBare s'.gens) s₁ := by
    intro H hO hS hok hA hK
    have base_of : ∀ {b : Addr} {o : Obj}, s₁.heap.get? b = some o → H b = none → (hidT s₁.heap H).get? b = some o := fun e n => hidT_get e n
    have noA : ∀ {b : Addr} {o : Obj} {es : Array DictEntry} {ep : Nat}, s₁.heap.get? b = some o → o.data = .dict es ep → H b = none := fun {b o es ep} e d => by
      cases q : H b with
      | none => rfl
      | some u =>
        have e' : b = a := hA b (by rw [q]; simp)
        subst e'
        rw [ha] at e; cases e
        have d' : Data.seq vs.toArray _ = Data.dict es ep := d
        cases d'
    have nsK : ∀ {b : Addr} {m : Str → Option Value}, s₁.heap.Ns b m → (hidT s₁.heap H).Ns b m := fun {b m} ⟨o, es, ep, e, d, r⟩ => ⟨o, es, ep, base_of e (noA e d), d, r⟩
    have hKb : K.In (hidT s₁.heap H) := fun b o e => base_of (KX b o e) (by
      cases q : H b with
      | none => rfl
      | some u =>
        have e' : b = a := hA b (by rw [q]; simp)
        subst e'
        rw [hK (by rw [q]; simp)] at e; cases e)
    have hM : Mod K mg (hidT s₁.heap H) := ⟨hKb, nsK hns, ⟨mb, nsK hb, hbb⟩, let ⟨mc, h1, h2⟩ := hlim; ⟨mc, nsK h1, h2⟩⟩
    have e0 : Env0 P w K mg (hidT s₁.heap H) callerA [] s₁ H := ⟨rfl, hM, fun b o e => of_hidT e, Nat.le_of_eq (hidT_size _ _), trivial, fun b hb => absurd (show b ∈ ([] : List Addr) from hb) (by simp), hok, .of_eq hg⟩
    refine codeAny_mono ((F _ hKb (nsK hns)).run callerA [] s₁ H ⟨[.ref a], []⟩ [.ref a] [.ref a] _ _ hr e0 (hbind s₁ (.ref a)) (.cons rfl .nil) (hsp H hO hS)) fun r s' h => ?_
    cases r with
    | error e => exact (hCX H e s' h).elim
    | ok fl =>
      cases fl with
      | next => exact False.elim h
      | brk => exact False.elim h
      | cont => exact False.elim h
      | ret u =>
        obtain ⟨v, H', os, bare, un, hok', r', q⟩ := h
        have q' : v = .bl true := q
        subst q'
        obtain rfl : u = Value.bool true := r'
        refine ⟨rfl, OldK.of_keep fun b o e => ?_, os, bare⟩
        cases q : H b with
        | none => exact un.keep b o e q (by intro z; exact absurd (show b ∈ ([] : List Addr) from z) (by simp)) (by simp)
        | some u =>
          rcases hO b with z | ⟨ob, xs, z⟩
          · rw [q] at z; cases z
          · have z2 := un.frzs b ob _ z
            obtain ⟨e1, _⟩ := hok b _ z
            obtain ⟨e2, _⟩ := hok' b _ z2
            rw [e] at e1; cases e1
            exact e2
  cases hk : K.lookup a with
  | some o =>
    -- the script is one of the module's own objects
    have e := KX a o hk
    rw [ha] at e
    cases e
    refine core (fun _ => none) (fun _ => .inl rfl) (.inr ⟨_, vs.toArray, _, hk, rfl, rfl, rfl, by rw [List.size_toArray, lenV]; exact hl, by simpa using rv⟩) (fun b u z => by have z' : (none : Option HO) = some u := z; cases z') (fun b z => absurd rfl z) fun z => absurd rfl z
  | none =>
    refine core (fun b => if b = a then some (.frz { cls := .type "list", data := .seq vs.toArray } (.lst (ns.map V.int))) else none) (fun b => ?_) (.inl (.inr ⟨{ cls := .type "list", data := .seq vs.toArray }, if_pos rfl⟩)) (fun b u z => ?_) (fun b z => ?_) fun _ => hk
    · by_cases hb : b = a
      · exact .inr ⟨_, _, if_pos hb⟩
      · exact .inl (if_neg hb)
    · by_cases hb : b = a
      · have z' := (if_pos hb).symm.trans z
        cases z'
        subst hb
        exact ⟨ha, by rw [List.length_map]; exact hl, vs, _, rv, ha⟩
      · have z' := (if_neg hb).symm.trans z
        cases z'
    · by_cases hb : b = a
      · exact hb
      · exact absurd (if_neg hb) z
end L2

namespace L2
open PySem PySem.Spec PyProof.Rows

abbrev KOf {K : PySem.W.Frag} {h : Heap} (_ : K.In h) : PySem.W.Frag := K

/-- the goal that k_head leaves (case hc), from the law's promise. F gives the function object fd (K's own) once, then the promise over every base -/
theorem walk_of {l : PySem.W.OpenLaw} {n k : Nat} {q : Program} {loose : List Str} {XP : (Str → Option Value) → Heap → Prop} {YP : World → Heap → Prop} {d : DefRec} {K : Params → PySem.W.Frag} {CX : World → CXT} {sp : World → Sp} {x : Str}
    (hn : l.most = some n) (hn2 : n ≤ sizeLine) (hdf : d.params.defaults = []) (hr : Room k callerA)
    (hY : ∀ (w : World) (h : Heap), YP w h → (K w.params).In h)
    (F : ∀ (w : World) (mg : Str → Option Value) (fa : Addr) (h : Heap), (K w.params).In h → h.Ns mainGlobals mg → mg d.name = some (.ref fa) →
      ∃ fd : FuncData, (∀ (s : Shared) (u : Value), BindsTo s fd ⟨[u], []⟩ [(x, u)]) ∧
        ∀ base : Heap, (K w.params).In base → base.Ns mainGlobals mg → FnOk l.prog w (K w.params) mg base (CX w) k fa fd [x] (sp w))
    (hsp : ∀ (w : World) (H : Hp) (a : Addr) (ns : List Int), ns.length ≤ n → Only H → SqL (K w.params) H a (ns.map V.int) → sp w [.ref a] H (fun v _ => v = .bl true) fun _ _ _ => False)
    (hCX : ∀ (w : World) (H : Hp) (s : Shared) (e : Value) (s' : Shared), CX w [] H s (fun _ _ _ => False) e s' → False) :
    PySem.W.WalkO q loose XP YP l.row.toRowW d [] (fun f vs => PySem.call f vs) := by
  refine Att.attach_call hn hdf fun w s₀ s₁ mg mb fa o pm cd doc a vs ns G Y ho hd hcd hmg hobj hints hlen hg => ?_
  have KX := hY w _ Y
  obtain ⟨fd, hb, hF⟩ := F w mg fa _ KX G.T.g hmg
  exact law_call KX G.T.g G.T.b G.T.builtins G.T.nolimit hg hobj hints (Nat.le_trans hlen hn2) hr hF hb (fun H hO hS => hsp w H a ns hlen hO hS) fun H e s' => hCX w H s₁ e s'
end L2

/- THE LAST THEOREM (shape; LID, My.* are yours):
   My.Adr: a structure of the addresses that your layer names (classes, functions); My.Txt K t: a structure (Prop) of the equations over K;
   My.txt_mk : {K} {implicit addresses ..} (e1 : nsIn K mainGlobals "law" = some (some (.ref f))) (e2 : K.lookup f = some ⟨oc, od, .func (fnOf "law" "law" params body scope dV kV doc pm an cdv ct), sl⟩) (e3 : codeIn K cdv "law" = true) .. : ∃ t, My.Txt K t

set_option maxRecDepth 100000 in
set_option maxHeartbeats 0 in
theorem PySem.Challenge.cw_LID_holds : PySem.Challenge.rw_LID.Holds := by
  w_on; o_law; k_head; (case hw => w_witness2)
  k_fill
  refine L2.walk_of (l := PySem.Challenge.rw_LID) (n := 63) (k := 40) (x := "script") (CX := fun w => ..) (sp := fun _ => My.sp_law) rfl (by decide) rfl ⟨rfl, by decide, by decide⟩ (fun w h Y => PySem.W.kIn_of Y) ?F ?S ?C
  case F =>
    intro w mg fa h KX G hmg
    have T : ∃ t, My.Txt (L2.KOf KX) t := by
      dsimp only [L2.KOf]                          -- K must stand as «<heap const> w.params» for k_is
      refine' My.txt_mk ?e1 ?e2 ?e3 ..
      (case e1 => PySem.W.k_is)                    -- in the order: a name -> its address -> its object -> its parts
      (case e2 => PySem.W.k_is)
      ..
    obtain ⟨t, T⟩ := T
    have e0 := hmg.symm.trans (PySem.W.mg_of KX G T.law)
    cases e0                                       -- fa is the law's own address
    exact ⟨_, fun s u => .of_eq rfl, fun base kb nb => My.law_fn T kb nb⟩     -- if «.of_eq rfl» comes too early: refine' ⟨_, ?b, fun base kb nb => My.law_fn T kb nb⟩; exact fun s u => .of_eq rfl
  case S => exact fun w H a ns hl hO hS => ..
  case C => exact ..
(the tactic k_is has no namespace: write k_is) -/

/-! SHORT WORDS over the layer: a def of the text, its body, what a loop and a test want. -/
namespace L2
open PySem PySem.Spec PyProof.Rows

/-! ### the text by places -/
/-- the j-th statement of a class's body -/
def inClass (s : Stmt) (j : Nat) : Stmt := match s with
  | .ClassDef _ _ _ body _ _ _ _ _ _ _ => body.getD j (.Pass ⟨0, 0, 0, 0⟩)
  | _ => .Pass ⟨0, 0, 0, 0⟩
def defArgs (s : Stmt) : Arguments := match s with
  | .FunctionDef _ a _ _ _ _ _ _ _ _ => a
  | _ => { posonlyargs := [], args := [], vararg := none, kwonlyargs := [], kw_defaults := [], kwarg := none, defaults := [] }
def defBody (s : Stmt) : List Stmt := match s with
  | .FunctionDef _ _ b _ _ _ _ _ _ _ => b
  | _ => []
def defScope (s : Stmt) : Scope := match s with
  | .FunctionDef _ _ _ _ _ _ sc _ _ _ => sc
  | _ => { kind := .function, names := [], isGenerator := false, isCoroutine := false }

/-! ### no exception leaves a def -/
abbrev CX0 : CXT := fun _ _ _ _ _ _ => False
abbrev E0 : XK := fun _ _ _ => False

/-! ### a def (or method) of the text as it stands behind the top -/
structure Fun (K : PySem.W.Frag) (x qual : Str) (st : Stmt) (f : Addr) (fd : FuncData) : Prop where
  ex : ∃ (oc : Value) (od : Option Addr) (kV doc pm : Value) (an : Option Addr) (cdv ct : Value) (osl : Array (Option Value)),
    fd = PySem.W.fnOf x qual (defArgs st) (defBody st) (defScope st) .none kV doc pm an cdv ct ∧ K.lookup f = some ⟨oc, od, .func fd, osl⟩ ∧ PySem.W.codeIn K cdv qual = true
  kp : PySem.W.keepIn K (.ref f) = true
section
variable {P : Program} {w : World} {K : PySem.W.Frag} {mg : Str → Option Value} {base : Heap}
/-- how its arguments bind (no defaults): h is «fun _ _ _ _ _ _ us hl => match us, hl with | [_, _], _ => rfl», one _ a parameter -/
theorem Fun.binds {x qual : Str} {st : Stmt} {f : Addr} {fd : FuncData} {ps : List Str} (F : Fun K x qual st f fd)
    (h : ∀ (kV doc pm : Value) (an : Option Addr) (cdv ct : Value) (us : List Value), us.length = ps.length → bindArgs (PySem.W.fnOf x qual (defArgs st) (defBody st) (defScope st) .none kV doc pm an cdv ct) ⟨us, []⟩ = pure (ps.zip us)) : Binds K fd ps [] := by
  obtain ⟨oc, od, kV, doc, pm, an, cdv, ct, osl, rfl, lk, hcd⟩ := F.ex
  exact .all (h kV doc pm an cdv ct)
theorem fun_mk {x qual : Str} {st : Stmt} {f : Addr} {oc : Value} {od an : Option Addr} {osl : Array (Option Value)} {kV doc pm cdv ct : Value} (l : K.lookup f = some ⟨oc, od, .func (PySem.W.fnOf x qual (defArgs st) (defBody st) (defScope st) .none kV doc pm an cdv ct), osl⟩)
    (c : PySem.W.codeIn K cdv qual = true) (k : PySem.W.keepIn K (.ref f) = true) : Fun K x qual st f (PySem.W.fnOf x qual (defArgs st) (defBody st) (defScope st) .none kV doc pm an cdv ct) := ⟨⟨oc, od, kV, doc, pm, an, cdv, ct, osl, rfl, l, c⟩, k⟩
end

/-! ### expressions in short: the name that stands in the i-th slot -/
section
variable {X : Cx}
end

/-! ### tests -/
theorem iteF {A B : Prop} (h : B) : if false = true then A else B := by
  rw [if_neg Bool.false_ne_true]
  exact h
theorem iteT {A B : Prop} (h : A) : if true = true then A else B := by
  rw [if_pos rfl]
  exact h

/-! ### heaps -/
/-- all that was tracked is as it was -/
def Same (H H' : Hp) : Prop := ∀ b o, H b = some o → H' b = some o
theorem Same.refl (H : Hp) : Same H H := fun _ _ h => h
theorem Same.trans {H H1 H2 : Hp} (a : Same H H1) (b : Same H1 H2) : Same H H2 := fun c o h => b c o (a c o h)
theorem Same.free {H H' : Hp} (e : Same H H') {l : Addr} (h : H' l = Option.none) : H l = Option.none := by
  cases q : H l with
  | none => rfl
  | some o =>
    rw [e l o q] at h
    cases h
theorem Same.seq {K : PySem.W.Frag} {H H' : Hp} {a : Addr} {xs : List V} (e : Same H H') (h : SqL K H a xs) : SqL K H' a xs := by
  rcases h with (h | ⟨o, h⟩) | h
  · exact .inl (.inl (e _ _ h))
  · exact .inl (.inr ⟨o, e _ _ h⟩)
  · exact .inr h

end L2
set_option Elab.async false
set_option linter.all false
namespace Tx
/-- the parts with c between -/
def glue (c : Nat) : List (List Nat) → List Nat
  | [] => []
  | [x] => x
  | x :: y :: r => x ++ c :: glue c (y :: r)
theorem app_inj {c : Nat} : ∀ (x y a b : List Nat), c ∉ x → c ∉ y → x ++ c :: a = y ++ c :: b → x = y ∧ a = b
  | [], [], a, b, _, _, h => ⟨rfl, by simpa using h⟩
  | [], y :: ys, a, b, _, hy, h => by
    simp only [List.nil_append, List.cons_append, List.cons.injEq] at h
    exact absurd (by rw [h.1]; exact List.mem_cons_self) hy
  | x :: xs, [], a, b, hx, _, h => by
    simp only [List.nil_append, List.cons_append, List.cons.injEq] at h
    exact absurd (by rw [h.1]; exact List.mem_cons_self) hx
  | x :: xs, y :: ys, a, b, hx, hy, h => by
    simp only [List.cons_append, List.cons.injEq] at h
    obtain ⟨h1, h2⟩ := app_inj xs ys a b (fun z => hx (List.mem_cons_of_mem _ z)) (fun z => hy (List.mem_cons_of_mem _ z)) h.2
    exact ⟨by rw [h.1, h1], h2⟩
theorem glue_inj {c : Nat} : ∀ (ps qs : List (List Nat)), ps ≠ [] → qs ≠ [] → (∀ p ∈ ps, c ∉ p) → (∀ q ∈ qs, c ∉ q) → glue c ps = glue c qs → ps = qs
  | [], _, h, _, _, _, _ => absurd rfl h
  | _ :: _, [], _, h, _, _, _ => absurd rfl h
  | [x], [y], _, _, _, _, h => by rw [show x = y from h]
  | [x], y :: z :: r, _, _, hp, _, h => by
    have e : x = y ++ c :: glue c (z :: r) := h
    exact absurd (by rw [e]; exact List.mem_append_right _ List.mem_cons_self) (hp x List.mem_cons_self)
  | x :: w :: s, [y], _, _, _, hq, h => by
    have e : x ++ c :: glue c (w :: s) = y := h
    exact absurd (by rw [← e]; exact List.mem_append_right _ List.mem_cons_self) (hq y List.mem_cons_self)
  | x :: w :: s, y :: z :: r, _, _, hp, hq, h => by
    have e : x ++ c :: glue c (w :: s) = y ++ c :: glue c (z :: r) := h
    obtain ⟨h1, h2⟩ := app_inj x y _ _ (hp x List.mem_cons_self) (hq y List.mem_cons_self) e
    rw [h1, glue_inj (w :: s) (z :: r) (by simp) (by simp) (fun p z => hp p (List.mem_cons_of_mem _ z)) (fun q z => hq q (List.mem_cons_of_mem _ z)) h2]
theorem glue_snoc {c : Nat} : ∀ (ps : List (List Nat)) (q : List Nat), ps ≠ [] → glue c (ps ++ [q]) = glue c ps ++ c :: q
  | [], _, h => absurd rfl h
  | [x], q, _ => rfl
  | x :: y :: r, q, _ => by
    show x ++ c :: glue c ((y :: r) ++ [q]) = (x ++ c :: glue c (y :: r)) ++ c :: q
    rw [glue_snoc (y :: r) q (by simp), List.append_assoc]
    rfl
theorem glue_last {c : Nat} : ∀ (ps : List (List Nat)) (q a : List Nat), glue c (ps ++ [q ++ a]) = glue c (ps ++ [q]) ++ a
  | [], q, a => rfl
  | [x], q, a => by
    show x ++ c :: (q ++ a) = (x ++ c :: q) ++ a
    simp
  | x :: y :: r, q, a => by
    show x ++ c :: glue c ((y :: r) ++ [q ++ a]) = (x ++ c :: glue c ((y :: r) ++ [q])) ++ a
    rw [glue_last (y :: r) q a]
    simp
theorem glue_mem {c : Nat} {x : Nat} : ∀ (ps : List (List Nat)), x ∈ glue c ps → x = c ∨ ∃ p ∈ ps, x ∈ p
  | [], h => by cases h
  | [p], h => .inr ⟨p, List.mem_cons_self, h⟩
  | p :: q :: r, h => by
    rcases List.mem_append.mp h with h | h
    · exact .inr ⟨p, List.mem_cons_self, h⟩
    · rcases List.mem_cons.mp h with h | h
      · exact .inl h
      · rcases glue_mem (q :: r) h with h | ⟨p', h1, h2⟩
        · exact .inl h
        · exact .inr ⟨p', List.mem_cons_of_mem _ h1, h2⟩
/-- members once each -/
def ustep {α : Type} [DecidableEq α] (s : List α) (a : α) : List α := if a ∈ s then s else s ++ [a]
def uniq {α : Type} [DecidableEq α] (l : List α) : List α := l.foldl ustep []
section
variable {α : Type} [DecidableEq α]
theorem uniq_snoc (l : List α) (a : α) : uniq (l ++ [a]) = ustep (uniq l) a := by
  unfold uniq; rw [List.foldl_append]; rfl
theorem ustep_mem (s : List α) (a x : α) : x ∈ ustep s a ↔ x ∈ s ∨ x = a := by
  unfold ustep
  split
  · rename_i h
    exact ⟨.inl, fun z => z.elim id fun e => e ▸ h⟩
  · rw [List.mem_append, List.mem_singleton]
theorem ustep_len (s : List α) (a : α) : (ustep s a).length = if a ∈ s then s.length else s.length + 1 := by
  unfold ustep; split <;> simp
theorem uniq_len (l : List α) : ∀ s : List α, s.Nodup → (l.foldl ustep s).length ≤ s.length + l.length ∧ ((l.foldl ustep s).length = s.length + l.length ↔ (s ++ l).Nodup) := by
  induction l with
  | nil => intro s h; exact ⟨Nat.le_refl _, fun _ => by simpa using h, fun _ => rfl⟩
  | cons a l ih =>
    intro s h
    rw [List.foldl_cons, List.length_cons]
    by_cases ha : a ∈ s
    · have e : ustep s a = s := if_pos ha
      rw [e]
      obtain ⟨i1, _⟩ := ih s h
      refine ⟨by omega, fun z => by omega, fun z => ?_⟩
      rw [List.nodup_append] at z
      exact absurd rfl (z.2.2 a ha a List.mem_cons_self)
    · have e : ustep s a = s ++ [a] := if_neg ha
      have hn : (s ++ [a]).Nodup := by
        rw [List.nodup_append]
        exact ⟨h, by simp, fun x hx y hy z => by rw [List.mem_singleton.mp hy] at z; exact ha (z ▸ hx)⟩
      rw [e]
      obtain ⟨i1, i2⟩ := ih (s ++ [a]) hn
      rw [List.length_append, List.length_singleton, List.append_assoc] at i2
      rw [List.length_append, List.length_singleton] at i1
      have e2 : s ++ ([a] ++ l) = s ++ a :: l := rfl
      rw [e2] at i2
      exact ⟨by omega, by rw [← i2]; omega⟩
theorem uniq_le (l : List α) : (uniq l).length ≤ l.length := by
  have := (uniq_len l [] List.nodup_nil).1
  show (l.foldl ustep []).length ≤ _
  simpa using this
theorem uniq_eq (l : List α) : (uniq l).length = l.length ↔ l.Nodup := by
  have := (uniq_len l [] List.nodup_nil).2
  show (l.foldl ustep []).length = _ ↔ _
  simpa using this
end
end Tx
set_option Elab.async false
set_option linter.all false
set_option maxRecDepth 100000
namespace Z
open PySem PySem.Spec PyProof.Rows L2

/-! ### data -/
inductive D where
  | non | bl (b : Bool) | int (i : Int) | str (x : Str)
  | tup (xs : List D) | lst (xs : List D)
  | ins (C : Addr) (ns : List Str) (vs : List D)
  | exc (C : Addr)
abbrev St := L2.St
abbrev MP := Addr → Prop
abbrev Frag := PySem.W.Frag
def NoM : MP := fun _ => False

def KLst (K : Frag) (a : Addr) (xs : List V) : Prop :=
  ∃ (o : Obj) (its : Array Value) (n : Nat), K.lookup a = some o ∧ o.cls = .type "list" ∧ o.dict = none ∧ o.data = .seq its n ∧ its.size ≤ sizeLine ∧ Vals xs its.toList
/-- a list that is read and does not change: not among M -/
def SqM (K : Frag) (M : MP) (H : Hp) (a : Addr) (xs : List V) : Prop := (Rd H a (.lst xs) ∧ ¬ M a) ∨ KLst K a xs
def excO (a C : Addr) : HO := .ext fun h => ∃ o, h.get? a = some o ∧ o.cls = .ref C ∧ o.dict = none ∧ ∃ vs, o.data = .fields vs

mutual
def Dn (K : Frag) (M : MP) (H : Hp) : D → V → Prop
  | .non, v => v = .non
  | .bl b, v => v = .bl b
  | .int i, v => v = .int i
  | .str x, v => v = .str x
  | .tup ds, v => ∃ a xs, v = .ref a ∧ SqT K H a xs ∧ Dns K M H ds xs
  | .lst ds, v => ∃ a xs, v = .ref a ∧ SqM K M H a xs ∧ Dns K M H ds xs
  | .ins C ns ds, v => ∃ a dx fs, v = .ref a ∧ H a = some (.ins C dx fs) ∧ fs.map (·.1) = ns ∧ Dns K M H ds (fs.map (·.2))
  | .exc C, v => ∃ a, v = .ref a ∧ H a = some (excO a C)
def Dns (K : Frag) (M : MP) (H : Hp) : List D → List V → Prop
  | [], xs => xs = []
  | d :: ds, xs => ∃ v r, xs = v :: r ∧ Dn K M H d v ∧ Dns K M H ds r
end

def Keep (M : MP) (H H' : Hp) : Prop := ∀ b o, H b = some o → (∀ xs, o = .lst xs → ¬ M b) → H' b = some o
section
variable {K : Frag} {M M' : MP} {H H' : Hp} {a : Addr} {xs : List V}
theorem keep_of (s : Same H H') : Keep M H H' := fun b o e _ => s b o e
theorem Keep.tup (k : Keep M H H') (h : SqT K H a xs) : SqT K H' a xs := by
  rcases h with (h | ⟨o, h⟩) | h
  · exact .inl (.inl (k _ _ h (fun _ e => nomatch e)))
  · exact .inl (.inr ⟨o, k _ _ h (fun _ e => nomatch e)⟩)
  · exact .inr h
theorem Keep.sqm (k : Keep M H H') (h : SqM K M H a xs) : SqM K M H' a xs := by
  rcases h with ⟨h | ⟨o, h⟩, m⟩ | h
  · exact .inl ⟨.inl (k _ _ h fun _ _ => m), m⟩
  · exact .inl ⟨.inr ⟨o, k _ _ h (fun _ e => nomatch e)⟩, m⟩
  · exact .inr h
theorem SqM.l (h : SqM K M H a xs) : SqL K H a xs := by
  rcases h with ⟨h, _⟩ | h
  · exact .inl h
  · exact .inr h
theorem SqM.re (hm : ∀ a, M' a → M a ∨ H a = none) (h : SqM K M H a xs) : SqM K M' H a xs := by
  rcases h with ⟨h, m⟩ | h
  · refine .inl ⟨h, fun m' => ?_⟩
    rcases hm _ m' with z | z
    · exact m z
    · rcases h with h | ⟨o, h⟩ <;> (rw [z] at h; cases h)
  · exact .inr h
mutual
theorem Dn.keep (k : Keep M H H') : ∀ {d : D} {v : V}, Dn K M H d v → Dn K M H' d v
  | .non, _, x => x
  | .bl _, _, x => x
  | .int _, _, x => x
  | .str _, _, x => x
  | .tup ds, _, ⟨a, xs, e, s, r⟩ => ⟨a, xs, e, k.tup s, Dns.keep k r⟩
  | .lst ds, _, ⟨a, xs, e, s, r⟩ => ⟨a, xs, e, k.sqm s, Dns.keep k r⟩
  | .ins _ _ ds, _, ⟨a, dx, fs, e, s, n, r⟩ => ⟨a, dx, fs, e, k _ _ s (fun _ e => nomatch e), n, Dns.keep k r⟩
  | .exc _, _, ⟨a, e, s⟩ => ⟨a, e, k _ _ s (fun _ e => nomatch e)⟩
theorem Dns.keep (k : Keep M H H') : ∀ {ds : List D} {vs : List V}, Dns K M H ds vs → Dns K M H' ds vs
  | [], _, x => x
  | _ :: _, _, ⟨v, r, e, p, q⟩ => ⟨v, r, e, Dn.keep k p, Dns.keep k q⟩
end
mutual
theorem Dn.re (hm : ∀ a, M' a → M a ∨ H a = none) : ∀ {d : D} {v : V}, Dn K M H d v → Dn K M' H d v
  | .non, _, x => x
  | .bl _, _, x => x
  | .int _, _, x => x
  | .str _, _, x => x
  | .tup ds, _, ⟨a, xs, e, s, r⟩ => ⟨a, xs, e, s, Dns.re hm r⟩
  | .lst ds, _, ⟨a, xs, e, s, r⟩ => ⟨a, xs, e, s.re hm, Dns.re hm r⟩
  | .ins _ _ ds, _, ⟨a, dx, fs, e, s, n, r⟩ => ⟨a, dx, fs, e, s, n, Dns.re hm r⟩
  | .exc _, _, ⟨a, e, s⟩ => ⟨a, e, s⟩
theorem Dns.re (hm : ∀ a, M' a → M a ∨ H a = none) : ∀ {ds : List D} {vs : List V}, Dns K M H ds vs → Dns K M' H ds vs
  | [], _, x => x
  | _ :: _, _, ⟨v, r, e, p, q⟩ => ⟨v, r, e, Dn.re hm p, Dns.re hm q⟩
end
theorem Dn.same (s : Same H H') {d : D} {v : V} (h : Dn K M H d v) : Dn K M H' d v := h.keep (keep_of s)
theorem Dns.same (s : Same H H') {d : List D} {v : List V} (h : Dns K M H d v) : Dns K M H' d v := h.keep (keep_of s)
theorem Dn.less (hm : ∀ a, M' a → M a) {d : D} {v : V} (h : Dn K M H d v) : Dn K M' H d v := h.re fun a z => .inl (hm a z)
theorem Dns.less (hm : ∀ a, M' a → M a) {d : List D} {v : List V} (h : Dns K M H d v) : Dns K M' H d v := h.re fun a z => .inl (hm a z)
theorem Dns.len : ∀ {ds : List D} {vs : List V}, Dns K M H ds vs → vs.length = ds.length
  | [], _, x => by rw [show _ = [] from x]; rfl
  | _ :: _, _, ⟨v, r, e, p, q⟩ => by rw [e, List.length_cons, List.length_cons, Dns.len q]
theorem Dns.app : ∀ {ds es : List D} {vs us : List V}, Dns K M H ds vs → Dns K M H es us → Dns K M H (ds ++ es) (vs ++ us)
  | [], _, _, _, x, y => by rw [show _ = [] from x]; exact y
  | _ :: _, _, _, _, ⟨v, r, e, p, q⟩, y => by rw [e]; exact ⟨v, _, rfl, p, Dns.app q y⟩
theorem Dns.one {d : D} {v : V} (h : Dn K M H d v) : Dns K M H [d] [v] := ⟨v, [], rfl, h, rfl⟩
theorem Dns.get : ∀ {ds : List D} {vs : List V}, Dns K M H ds vs → ∀ {i : Nat} {d : D}, ds[i]? = some d → ∃ v, vs[i]? = some v ∧ Dn K M H d v
  | [], _, _, _, _, e => by simp at e
  | _ :: _, _, ⟨v, r, e, p, q⟩, 0, d, h => by simp at h; subst h; rw [e]; exact ⟨v, rfl, p⟩
  | _ :: _, _, ⟨v, r, e, p, q⟩, i + 1, d, h => by
    obtain ⟨u, h1, h2⟩ := Dns.get q (i := i) (by simpa using h)
    rw [e]; exact ⟨u, by simpa using h1, h2⟩
theorem Dns.getV : ∀ {ds : List D} {vs : List V}, Dns K M H ds vs → ∀ {i : Nat} {v : V}, vs[i]? = some v → ∃ d, ds[i]? = some d ∧ Dn K M H d v
  | [], _, x, i, v, e => by rw [show _ = [] from x] at e; simp at e
  | d :: _, _, ⟨u, r, e, p, q⟩, 0, v, h => by rw [e] at h; simp at h; subst h; exact ⟨d, rfl, p⟩
  | _ :: _, _, ⟨u, r, e, p, q⟩, i + 1, v, h => by
    rw [e] at h
    obtain ⟨d, h1, h2⟩ := Dns.getV q (i := i) (by simpa using h)
    exact ⟨d, by simpa using h1, h2⟩
theorem Dns.of_ints : ∀ (ns : List Int), Dns K M H (ns.map .int) (ns.map V.int)
  | [] => rfl
  | n :: ns => ⟨_, _, rfl, rfl, Dns.of_ints ns⟩
end

/-- the top list may be one that changes -/
def DnT (K : Frag) (M : MP) (H : Hp) : D → V → Prop
  | .lst ds, v => ∃ a xs, v = .ref a ∧ SqL K H a xs ∧ Dns K M H ds xs
  | d, v => Dn K M H d v
section
variable {K : Frag} {M M' : MP} {H H' : Hp}
theorem Dn.t {d : D} {v : V} (h : Dn K M H d v) : DnT K M H d v := by
  cases d with
  | lst ds => obtain ⟨a, xs, e, s, r⟩ := h; exact ⟨a, xs, e, s.l, r⟩
  | _ => exact h
theorem DnT.same {d : D} {v : V} (s : Same H H') (h : DnT K M H d v) : DnT K M H' d v := by
  cases d with
  | lst ds => obtain ⟨a, xs, e, q, r⟩ := h; exact ⟨a, xs, e, s.seq q, r.same s⟩
  | _ => exact Dn.same s h
end

/-! ### the state by data -/
inductive Sl where
  | un | im (d : D) | mu (ds : List D)
abbrev Rho := List Sl
def MM (M0 : MP) (ρ : Rho) (α : Nat → Addr) : MP := fun a => M0 a ∨ ∃ (i : Nat) (ds : List D), ρ[i]? = some (.mu ds) ∧ α i = a
structure Rep (K : Frag) (M0 : MP) (H0 : Hp) (γ : List (D × V)) (α : Nat → Addr) (ρ : Rho) (σ : St) (H : Hp) : Prop where
  same : Same H0 H
  old : ∀ a, M0 a → H0 a ≠ none
  inj : ∀ (i j : Nat) (ds es : List D), ρ[i]? = some (.mu ds) → ρ[j]? = some (.mu es) → α i = α j → i = j
  im : ∀ (i : Nat) (d : D), ρ[i]? = some (.im d) → ∃ v, σ[i]? = some (some v) ∧ Dn K (MM M0 ρ α) H d v
  mu : ∀ (i : Nat) (ds : List D), ρ[i]? = some (.mu ds) → H0 (α i) = none ∧ σ[i]? = some (some (.ref (α i))) ∧ ∃ xs, H (α i) = some (.lst xs) ∧ Dns K (MM M0 ρ α) H ds xs
  gh : ∀ p ∈ γ, Dn K (MM M0 ρ α) H p.1 p.2
  len : σ.length = ρ.length

section
variable {K : Frag} {M0 : MP} {H0 H H' H1 : Hp} {γ : List (D × V)} {α : Nat → Addr} {ρ : Rho} {σ : St}
theorem get_set {α : Type} {l : List α} {i j : Nat} {x y : α} (h : (l.set i x)[j]? = some y) : (j = i ∧ y = x) ∨ (j ≠ i ∧ l[j]? = some y) := by
  rw [List.getElem?_set] at h
  split at h
  · rename_i e
    split at h
    · exact .inl ⟨e.symm, (Option.some.inj h).symm⟩
    · cases h
  · rename_i e
    exact .inr ⟨fun z => e z.symm, h⟩
theorem set_get {α : Type} {l : List α} {i : Nat} {x : α} (h : i < l.length) : (l.set i x)[i]? = some x := by
  rw [List.getElem?_set, if_pos rfl, if_pos h]
theorem set_get_ne {α : Type} {l : List α} {i j : Nat} {x : α} (h : j ≠ i) : (l.set i x)[j]? = l[j]? := by
  rw [List.getElem?_set, if_neg fun z => h z.symm]
theorem mm_set_im {i : Nat} {s : Sl} (hs : ∀ ds, s ≠ .mu ds) {a : Addr} (h : MM M0 (ρ.set i s) α a) : MM M0 ρ α a := by
  rcases h with h | ⟨j, ds, e, z⟩
  · exact .inl h
  · rcases get_set e with ⟨_, q⟩ | ⟨_, q⟩
    · exact absurd q.symm (hs ds)
    · exact .inr ⟨j, ds, q, z⟩
/-- behind an expression: only new things -/
theorem Rep.next (r : Rep K M0 H0 γ α ρ σ H) (s : Same H H') : Rep K M0 H0 γ α ρ σ H' :=
  ⟨r.same.trans s, r.old, r.inj, fun i d e => let ⟨v, h1, h2⟩ := r.im i d e; ⟨v, h1, h2.same s⟩,
    fun i ds e => let ⟨h1, h2, xs, h3, h4⟩ := r.mu i ds e; ⟨h1, h2, xs, s _ _ h3, h4.same s⟩, fun p hp => (r.gh p hp).same s, r.len⟩
theorem Rep.set_im {i : Nat} {d : D} {v : V} (r : Rep K M0 H0 γ α ρ σ H) (hi : i < ρ.length) (h : Dn K (MM M0 ρ α) H d v) : Rep K M0 H0 γ α (ρ.set i (.im d)) (σ.set i (some v)) H := by
  have lm : ∀ a, MM M0 (ρ.set i (.im d)) α a → MM M0 ρ α a := fun a => mm_set_im (by intro _ e; cases e)
  refine ⟨r.same, r.old, fun j k ds es e1 e2 => ?_, fun j e q => ?_, fun j ds q => ?_, fun p hp => (r.gh p hp).less lm, by rw [List.length_set, List.length_set, r.len]⟩
  · rcases get_set e1 with ⟨_, z⟩ | ⟨_, z1⟩
    · cases z
    · rcases get_set e2 with ⟨_, z⟩ | ⟨_, z2⟩
      · cases z
      · exact r.inj j k ds es z1 z2
  · rcases get_set q with ⟨rfl, z⟩ | ⟨n, z⟩
    · cases z
      exact ⟨v, set_get (by rw [r.len]; exact hi), h.less lm⟩
    · obtain ⟨u, h1, h2⟩ := r.im j e z
      exact ⟨u, by rw [set_get_ne n]; exact h1, h2.less lm⟩
  · rcases get_set q with ⟨rfl, z⟩ | ⟨n, z⟩
    · cases z
    · obtain ⟨h1, h2, xs, h3, h4⟩ := r.mu j ds z
      exact ⟨h1, by rw [set_get_ne n]; exact h2, xs, h3, h4.less lm⟩
theorem Rep.forget {i : Nat} (r : Rep K M0 H0 γ α ρ σ H) {ov : Option V} : Rep K M0 H0 γ α (ρ.set i .un) (σ.set i ov) H := by
  have lm : ∀ a, MM M0 (ρ.set i .un) α a → MM M0 ρ α a := fun a => mm_set_im (by intro _ e; cases e)
  refine ⟨r.same, r.old, fun j k ds es e1 e2 => ?_, fun j e q => ?_, fun j ds q => ?_, fun p hp => (r.gh p hp).less lm, by rw [List.length_set, List.length_set, r.len]⟩
  · rcases get_set e1 with ⟨_, z⟩ | ⟨_, z1⟩
    · cases z
    · rcases get_set e2 with ⟨_, z⟩ | ⟨_, z2⟩
      · cases z
      · exact r.inj j k ds es z1 z2
  · rcases get_set q with ⟨rfl, z⟩ | ⟨n, z⟩
    · cases z
    · obtain ⟨u, h1, h2⟩ := r.im j e z
      exact ⟨u, by rw [set_get_ne n]; exact h1, h2.less lm⟩
  · rcases get_set q with ⟨rfl, z⟩ | ⟨n, z⟩
    · cases z
    · obtain ⟨h1, h2, xs, h3, h4⟩ := r.mu j ds z
      exact ⟨h1, by rw [set_get_ne n]; exact h2, xs, h3, h4.less lm⟩
/-- a slot less is known -/
theorem Rep.drop1 {i : Nat} (r : Rep K M0 H0 γ α ρ σ H) : Rep K M0 H0 γ α (ρ.set i .un) σ H := by
  have h := r.forget (i := i) (ov := (σ[i]?).join)
  have e : σ.set i (σ[i]?).join = σ := by
    apply List.ext_getElem?
    intro j
    rw [List.getElem?_set]
    split
    · rename_i e
      subst e
      split
      · rename_i h
        rw [List.getElem?_eq_getElem h]
        rfl
      · rename_i h
        rw [List.getElem?_eq_none (Nat.le_of_not_lt h)]
    · rfl
  rwa [e] at h
def setα (α : Nat → Addr) (i : Nat) (l : Addr) : Nat → Addr := fun j => if j = i then l else α j
theorem setα_at {i : Nat} {l : Addr} : setα α i l i = l := if_pos rfl
theorem setα_ne {i j : Nat} {l : Addr} (h : j ≠ i) : setα α i l j = α j := if_neg h
/-- a new list at a name -/
theorem Rep.set_mu {i : Nat} {l : Addr} {xs : List V} {ds : List D} (r : Rep K M0 H0 γ α ρ σ H1) (hi : i < ρ.length) (hl : H1 l = none) (s : Same H1 H) (h : H l = some (.lst xs))
    (hd : Dns K (fun a => MM M0 ρ α a ∨ a = l) H ds xs) : Rep K M0 H0 γ (setα α i l) (ρ.set i (.mu ds)) (σ.set i (some (.ref l))) H := by
  have lm : ∀ a, MM M0 (ρ.set i (.mu ds)) (setα α i l) a → MM M0 ρ α a ∨ a = l := fun a z => by
    rcases z with z | ⟨j, es, e, z⟩
    · exact .inl (.inl z)
    · rcases get_set e with ⟨rfl, q⟩ | ⟨n, q⟩
      · rw [setα_at] at z; exact .inr z.symm
      · rw [setα_ne n] at z; exact .inl (.inr ⟨j, es, q, z⟩)
  have lm' : ∀ a, MM M0 (ρ.set i (.mu ds)) (setα α i l) a → MM M0 ρ α a ∨ H1 a = none := fun a z => by
    rcases lm a z with z | rfl
    · exact .inl z
    · exact .inr hl
  refine ⟨r.same.trans s, r.old, fun j k es fs e1 e2 ej => ?_, fun j e q => ?_, fun j es q => ?_, fun p hp => ((r.gh p hp).re lm').same s, by rw [List.length_set, List.length_set, r.len]⟩
  · have nl : ∀ (k : Nat) (es : List D), ρ[k]? = some (Sl.mu es) → α k ≠ l := fun k es z e => by
      obtain ⟨_, _, ys, h3, _⟩ := r.mu k es z
      rw [e, hl] at h3; cases h3
    rcases get_set e1 with ⟨rfl, z⟩ | ⟨n1, z1⟩
    · rcases get_set e2 with ⟨rfl, z⟩ | ⟨n2, z2⟩
      · rfl
      · rw [setα_at, setα_ne n2] at ej; exact absurd ej.symm (nl k fs z2)
    · rcases get_set e2 with ⟨rfl, z⟩ | ⟨n2, z2⟩
      · rw [setα_at, setα_ne n1] at ej; exact absurd ej (nl j es z1)
      · rw [setα_ne n1, setα_ne n2] at ej; exact r.inj j k es fs z1 z2 ej
  · rcases get_set q with ⟨rfl, z⟩ | ⟨n, z⟩
    · cases z
    · obtain ⟨u, h1, h2⟩ := r.im j e z
      exact ⟨u, by rw [set_get_ne n]; exact h1, (h2.re lm').same s⟩
  · rcases get_set q with ⟨rfl, z⟩ | ⟨n, z⟩
    · cases z
      exact ⟨by rw [setα_at]; exact r.same.free hl, by rw [setα_at]; exact set_get (by rw [r.len]; exact hi), xs, by rw [setα_at]; exact h, hd.less lm⟩
    · obtain ⟨h1, h2, ys, h3, h4⟩ := r.mu j es z
      exact ⟨by rw [setα_ne n]; exact h1, by rw [set_get_ne n, setα_ne n]; exact h2, ys, by rw [setα_ne n]; exact s _ _ h3, (h4.re lm').same s⟩
theorem same_upd_none {l : Addr} {o : HO} (s : Same H0 H) (h : H0 l = none) : Same H0 (upd H l o) := fun b u e => by
  rw [upd_ne (ne_of_none e h)]; exact s b u e
theorem same_new {l : Addr} {o : HO} (h : H l = none) : Same H (upd H l o) := same_upd_none (Same.refl H) h
/-- the list at a name has changed -/
theorem Rep.upd_mu {i : Nat} {ds es : List D} {ys : List V} (r : Rep K M0 H0 γ α ρ σ H) (hi : ρ[i]? = some (.mu ds)) (hd : Dns K (MM M0 ρ α) H es ys) : Rep K M0 H0 γ α (ρ.set i (.mu es)) σ (upd H (α i) (.lst ys)) := by
  obtain ⟨a1, a2, xs, a3, a4⟩ := r.mu i ds hi
  have hlt : i < ρ.length := (List.getElem?_eq_some_iff.mp hi).1
  have me : ∀ (j : Nat) (es' : List D), (ρ.set i (Sl.mu es))[j]? = some (Sl.mu es') → ∃ fs, ρ[j]? = some (Sl.mu fs) := fun j es' e => by
    rcases get_set e with ⟨rfl, _⟩ | ⟨_, q⟩
    · exact ⟨ds, hi⟩
    · exact ⟨es', q⟩
  have lm : ∀ a, MM M0 (ρ.set i (.mu es)) α a → MM M0 ρ α a := fun a z => by
    rcases z with z | ⟨j, es', e, z⟩
    · exact .inl z
    · obtain ⟨fs, q⟩ := me j es' e
      exact .inr ⟨j, fs, q, z⟩
  have kp : Keep (MM M0 ρ α) H (upd H (α i) (.lst ys)) := fun b o e n => by
    by_cases hb : b = α i
    · subst hb
      rw [a3] at e; cases e
      exact absurd (.inr ⟨i, ds, hi, rfl⟩) (n _ rfl)
    · rw [upd_ne hb]; exact e
  refine ⟨same_upd_none r.same a1, r.old, fun j k f1 f2 e1 e2 => ?_, fun j e q => ?_, fun j f q => ?_, fun p hp => ((r.gh p hp).keep kp).less lm, by rw [List.length_set, r.len]⟩
  · obtain ⟨g1, z1⟩ := me j f1 e1
    obtain ⟨g2, z2⟩ := me k f2 e2
    exact r.inj j k g1 g2 z1 z2
  · rcases get_set q with ⟨rfl, z⟩ | ⟨n, z⟩
    · cases z
    · obtain ⟨u, h1, h2⟩ := r.im j e z
      exact ⟨u, h1, (h2.keep kp).less lm⟩
  · rcases get_set q with ⟨rfl, z⟩ | ⟨n, z⟩
    · cases z
      exact ⟨a1, a2, ys, upd_same, (hd.keep kp).less lm⟩
    · obtain ⟨h1, h2, zs, h3, h4⟩ := r.mu j f z
      refine ⟨h1, h2, zs, ?_, (h4.keep kp).less lm⟩
      rw [upd_ne fun e => n (r.inj j i f ds z hi e)]; exact h3
/-- the list at a name changes no more -/
theorem Rep.freeze {i : Nat} {ds : List D} (r : Rep K M0 H0 γ α ρ σ H) (hi : ρ[i]? = some (.mu ds)) : Rep K M0 H0 γ α (ρ.set i (.im (.lst ds))) σ H := by
  obtain ⟨a1, a2, xs, a3, a4⟩ := r.mu i ds hi
  have lm : ∀ a, MM M0 (ρ.set i (.im (.lst ds))) α a → MM M0 ρ α a := fun a => mm_set_im (by intro _ e; cases e)
  refine ⟨r.same, r.old, fun j k d1 d2 e1 e2 => ?_, fun j e q => ?_, fun j es q => ?_, fun p hp => (r.gh p hp).less lm, by rw [List.length_set, r.len]⟩
  · rcases get_set e1 with ⟨_, z⟩ | ⟨_, z1⟩
    · cases z
    · rcases get_set e2 with ⟨_, z⟩ | ⟨_, z2⟩
      · cases z
      · exact r.inj j k d1 d2 z1 z2
  · rcases get_set q with ⟨rfl, z⟩ | ⟨n, z⟩
    · cases z
      refine ⟨_, a2, α j, xs, rfl, .inl ⟨.inl a3, fun m => ?_⟩, a4.less lm⟩
      rcases m with m | ⟨k, es, e, m⟩
      · exact r.old _ m a1
      · rcases get_set e with ⟨_, z⟩ | ⟨n, z⟩
        · cases z
        · exact n (r.inj k j es ds z hi m)
    · obtain ⟨u, h1, h2⟩ := r.im j e z
      exact ⟨u, h1, h2.less lm⟩
  · rcases get_set q with ⟨rfl, z⟩ | ⟨n, z⟩
    · cases z
    · obtain ⟨h1, h2, ys, h3, h4⟩ := r.mu j es z
      exact ⟨h1, h2, ys, h3, h4.less lm⟩
end

/-! ### what an expression is worth -/
section
variable {X : Cx} {e : Expr} {es : List Expr} {st : Stmt} {sts : List Stmt} {σ : St} {H : Hp}
def tE (X : Cx) (e : Expr) : TE := fun σ H Q => ∀ (pins : List (Addr × Obj)) (s : Shared), Inv X pins σ H s → wpAny (model X.prog X.w) X.A (eval e X.env) (EP X pins σ Q) X.xe s
def tT (X : Cx) (e : Expr) : TT := fun σ H Q => ∀ (pins : List (Addr × Obj)) (s : Shared), Inv X pins σ H s → wpAny (model X.prog X.w) X.A (isTrue e X.env (eval e X.env)) (TP X pins σ Q) X.xe s
def tW (X : Cx) (e : Expr) : TT := fun σ H Q => ∀ (whole : Sem Value) (pins : List (Addr × Obj)) (s : Shared), Inv X pins σ H s → wpAny (model X.prog X.w) X.A (isTrue e X.env whole) (TP X pins σ Q) X.xe s
def tA (X : Cx) (es : List Expr) : TA := fun σ H Q => ∀ (pos : Pos) (pins : List (Addr × Obj)) (s : Shared), Inv X pins σ H s → wpAny (model X.prog X.w) X.A (spliced (backTo pos (starEach es X.env))) (AP X pins σ Q) X.xe s
def tS (X : Cx) (st : Stmt) : TS := fun D σ H => ∀ (pins : List (Addr × Obj)) (s : Shared), Inv X pins σ H s → wpAny (model X.prog X.w) X.A (exec st X.env) (SP X pins D) X.xe s
def tSs (X : Cx) (st : List Stmt) : TS := fun D σ H => ∀ (pins : List (Addr × Obj)) (s : Shared), Inv X pins σ H s → wpAny (model X.prog X.w) X.A (execs st X.env) (SP X pins D) X.xe s
theorem peE : PE X e (tE X e) := fun pins s σ H Q I h => h pins s I
theorem ptT : PT X e (tT X e) := fun pins s σ H Q I h => h pins s I
theorem pwW : PW X e (tW X e) := fun w pins s σ H Q I h => h w pins s I
theorem paA : PA X es (tA X es) := fun p pins s σ H Q I h => h p pins s I
theorem psS : PS X st (tS X st) := fun pins s σ H Q I h => h pins s I
theorem psSs : PSs X sts (tSs X sts) := fun pins s σ H Q I h => h pins s I
theorem _root_.L2.PE.to {t : TE} {Q : VK} (h : PE X e t) (q : t σ H Q) : tE X e σ H Q := fun pins s I => h pins s σ H Q I q
theorem _root_.L2.PT.to {t : TT} {Q : Bool → Hp → Prop} (h : PT X e t) (q : t σ H Q) : tT X e σ H Q := fun pins s I => h pins s σ H Q I q
theorem _root_.L2.PW.to {t : TT} {Q : Bool → Hp → Prop} (h : PW X e t) (q : t σ H Q) : tW X e σ H Q := fun w pins s I => h w pins s σ H Q I q
theorem _root_.L2.PA.to {t : TA} {Q : List V → Hp → Prop} (h : PA X es t) (q : t σ H Q) : tA X es σ H Q := fun p pins s I => h p pins s σ H Q I q
theorem _root_.L2.PS.to {t : TS} {D : Ends} (h : PS X st t) (q : t D σ H) : tS X st D σ H := fun pins s I => h pins s σ H D I q
theorem _root_.L2.PSs.to {t : TS} {D : Ends} (h : PSs X sts t) (q : t D σ H) : tSs X sts D σ H := fun pins s I => h pins s σ H D I q
end

/-- EvD: a value that stays; EvR: the top list may change later; EvF: a new list; TvD: a test; AvD: arguments -/
def EvD (X : Cx) (ρ : Rho) (e : Expr) (d : D) : Prop := ∀ (M0 : MP) (H0 : Hp) (γ : List (D × V)) (α : Nat → Addr) (σ : St) (H : Hp) (Q : VK), Rep X.K M0 H0 γ α ρ σ H →
  (∀ v H', Same H H' → Dn X.K (MM M0 ρ α) H' d v → Q v H') → tE X e σ H Q
def EvR (X : Cx) (ρ : Rho) (e : Expr) (d : D) : Prop := ∀ (M0 : MP) (H0 : Hp) (γ : List (D × V)) (α : Nat → Addr) (σ : St) (H : Hp) (Q : VK), Rep X.K M0 H0 γ α ρ σ H →
  (∀ v H', Same H H' → DnT X.K (MM M0 ρ α) H' d v → Q v H') → tE X e σ H Q
def EvF (X : Cx) (ρ : Rho) (e : Expr) (ds : List D) : Prop := ∀ (M0 : MP) (H0 : Hp) (γ : List (D × V)) (α : Nat → Addr) (σ : St) (H : Hp) (Q : VK), Rep X.K M0 H0 γ α ρ σ H →
  (∀ l xs H1 H', Same H H1 → H1 l = none → Same H1 H' → H' l = some (.lst xs) → Dns X.K (fun a => MM M0 ρ α a ∨ a = l) H' ds xs → Q (.ref l) H') → tE X e σ H Q
def TvD (X : Cx) (ρ : Rho) (e : Expr) (b : Bool) : Prop := ∀ (M0 : MP) (H0 : Hp) (γ : List (D × V)) (α : Nat → Addr) (σ : St) (H : Hp) (Q : Bool → Hp → Prop), Rep X.K M0 H0 γ α ρ σ H →
  (∀ H', Same H H' → Q b H') → tT X e σ H Q
def TwD (X : Cx) (ρ : Rho) (e : Expr) (b : Bool) : Prop := ∀ (M0 : MP) (H0 : Hp) (γ : List (D × V)) (α : Nat → Addr) (σ : St) (H : Hp) (Q : Bool → Hp → Prop), Rep X.K M0 H0 γ α ρ σ H →
  (∀ H', Same H H' → Q b H') → tW X e σ H Q
def AvD (X : Cx) (ρ : Rho) (es : List Expr) (ds : List D) : Prop := ∀ (M0 : MP) (H0 : Hp) (γ : List (D × V)) (α : Nat → Addr) (σ : St) (H : Hp) (Q : List V → Hp → Prop), Rep X.K M0 H0 γ α ρ σ H →
  (∀ vs H', Same H H' → Dns X.K (MM M0 ρ α) H' ds vs → Q vs H') → tA X es σ H Q
def DnTs (K : Frag) (M : MP) (H : Hp) : List D → List V → Prop
  | [], xs => xs = []
  | d :: ds, xs => ∃ v r, xs = v :: r ∧ DnT K M H d v ∧ DnTs K M H ds r
def AvR (X : Cx) (ρ : Rho) (es : List Expr) (ds : List D) : Prop := ∀ (M0 : MP) (H0 : Hp) (γ : List (D × V)) (α : Nat → Addr) (σ : St) (H : Hp) (Q : List V → Hp → Prop), Rep X.K M0 H0 γ α ρ σ H →
  (∀ vs H', Same H H' → DnTs X.K (MM M0 ρ α) H' ds vs → Q vs H') → tA X es σ H Q

section
variable {X : Cx} {ρ : Rho} {e a b : Expr} {es : List Expr} {d : D} {ds : List D} {pos p : Pos}
theorem EvD.r (h : EvD X ρ e d) : EvR X ρ e d := fun M0 H0 γ α σ H Q R k => h M0 H0 γ α σ H Q R fun v H' s x => k v H' s x.t
theorem EvF.toD (h : EvF X ρ e ds) : EvD X ρ e (.lst ds) := fun M0 H0 γ α σ H Q R k => h M0 H0 γ α σ H Q R fun l xs H1 H' s n s' x y =>
  k _ H' (s.trans s') ⟨l, xs, rfl, .inl ⟨.inl x, fun m => by
    rcases m with m | ⟨i, es, e, m⟩
    · exact R.old _ m (R.same.free (s.free n))
    · obtain ⟨_, _, ys, h3, _⟩ := R.mu i es e
      rw [m] at h3
      have := s _ _ h3
      rw [n] at this; cases this⟩, y.less fun a m => .inl m⟩
theorem EvD.to {d' : D} (h : EvD X ρ e d) (q : d = d') : EvD X ρ e d' := q ▸ h
theorem TvD.to {c c' : Bool} (h : TvD X ρ e c) (q : c = c') : TvD X ρ e c' := q ▸ h

theorem EvD.int {i : Int} {j} : EvD X ρ (.Constant (.int i) j pos) (.int i) := fun _ _ _ _ _ H _ _ k => pe_int.to (k _ H (Same.refl _) rfl)
theorem EvD.bl {i : Bool} {j} : EvD X ρ (.Constant (.bool i) j pos) (.bl i) := fun _ _ _ _ _ H _ _ k => pe_bl.to (k _ H (Same.refl _) rfl)
theorem EvD.non {j} : EvD X ρ (.Constant .none j pos) .non := fun _ _ _ _ _ H _ _ k => pe_non.to (k _ H (Same.refl _) rfl)
theorem EvD.str {x : Str} {j} : EvD X ρ (.Constant (.str x) j pos) (.str x) := fun _ _ _ _ _ H _ _ k => pe_str.to (k _ H (Same.refl _) rfl)
theorem EvD.name {x : Str} (i : Nat) (hN : X.N[i]? = some x) (hv : Vis X.env.scope x) (hρ : ρ[i]? = some (.im d)) (hd : (x == ("__debug__" : Str)) = false := by decide) (hcd : (x == ("__classdict__" : Str)) = false := by decide) : EvD X ρ (.Name x pos) d :=
  fun _ _ _ _ _ H _ R k => (pe_var hN hv hd hcd).to (let ⟨v, h1, h2⟩ := R.im i d hρ; ⟨v, h1, k v H (Same.refl _) h2⟩)
theorem EvR.name {x : Str} (i : Nat) (hN : X.N[i]? = some x) (hv : Vis X.env.scope x) (hρ : ρ[i]? = some (.mu ds)) (hd : (x == ("__debug__" : Str)) = false := by decide) (hcd : (x == ("__classdict__" : Str)) = false := by decide) : EvR X ρ (.Name x pos) (.lst ds) :=
  fun _ _ _ α _ H _ R k => (pe_var hN hv hd hcd).to (let ⟨_, h1, xs, h3, h4⟩ := R.mu i ds hρ; ⟨_, h1, k _ H (Same.refl _) ⟨α i, xs, rfl, SqL.of h3, h4⟩⟩)
theorem EvD.glob {x : Str} {v : V} {u : Value} (hg : Gl X x) (hm : X.mg x = some u) (r : RelV v u) (hn : ∀ M H, Dn X.K M H d v) (hd : (x == ("__debug__" : Str)) = false := by decide) : EvD X ρ (.Name x pos) d :=
  fun _ _ _ _ _ H _ _ k => (pe_glob hg hm r hd).to (k _ H (Same.refl _) (hn _ _))

theorem AvD.nil : AvD X ρ [] [] := fun _ _ _ _ _ H _ _ k => pa_nil.to (k _ H (Same.refl _) rfl)
theorem AvD.cons (h : EvD X ρ e d) (t : AvD X ρ es ds) (hs : starEach (e :: es) X.env = (false, eval e X.env) :: starEach es X.env := by rfl) : AvD X ρ (e :: es) (d :: ds) :=
  fun M0 H0 γ α σ H Q R k => (pa_cons peE paA hs).to (h M0 H0 γ α σ H _ R fun v H1 s1 d1 => t M0 H0 γ α σ H1 _ (R.next s1) fun vs H2 s2 d2 => k _ H2 (s1.trans s2) ⟨v, vs, rfl, d1.same s2, d2⟩)
theorem AvR.nil : AvR X ρ [] [] := fun _ _ _ _ _ H _ _ k => pa_nil.to (k _ H (Same.refl _) rfl)
theorem AvR.cons (h : EvR X ρ e d) (t : AvR X ρ es ds) (hs : starEach (e :: es) X.env = (false, eval e X.env) :: starEach es X.env := by rfl) : AvR X ρ (e :: es) (d :: ds) :=
  fun M0 H0 γ α σ H Q R k => (pa_cons peE paA hs).to (h M0 H0 γ α σ H _ R fun v H1 s1 d1 => t M0 H0 γ α σ H1 _ (R.next s1) fun vs H2 s2 d2 => k _ H2 (s1.trans s2) ⟨v, vs, rfl, d1.same s2, d2⟩)
theorem le_line {n : Nat} (h : n ≤ 1000000) : n ≤ sizeLine := Nat.le_trans h (by decide)
theorem fresh_re {K : Frag} {M : MP} {H : Hp} {l : Addr} {ds : List D} {vs : List V} (hl : H l = none) (h : Dns K M H ds vs) : Dns K (fun a => M a ∨ a = l) H ds vs :=
  h.re fun a m => m.elim .inl fun z => .inr (by rw [z]; exact hl)
theorem EvF.lst (h : AvD X ρ es ds) (hl : ds.length ≤ 1000000 := by exact Nat.le_of_ble_eq_true rfl) : EvF X ρ (.List es pos) ds :=
  fun M0 H0 γ α σ H Q R k => (pe_lst paA).to (h M0 H0 γ α σ H _ R fun vs H1 s1 d1 => ⟨by rw [d1.len]; exact le_line hl, fun q hq =>
    k q vs H1 _ s1 hq (same_new hq) upd_same ((fresh_re hq d1).same (same_new hq))⟩)

/-! two operands -/
theorem EvD.op2 {op : Operator} {r : R2} {da db : D} (ho : OpR X (binaryOp op) r) (ha : EvR X ρ a da) (hb : EvR X ρ b db)
    (hr : ∀ (M : MP) (H : Hp) (x y : V) (Q : VK), DnT X.K M H da x → DnT X.K M H db y → (∀ v H', Same H H' → Dn X.K M H' d v → Q v H') → r x y H Q) : EvD X ρ (.BinOp a op b pos) d :=
  fun M0 H0 γ α σ H Q R k => (pe_op ho peE peE).to (ha M0 H0 γ α σ H _ R fun v H1 s1 d1 => hb M0 H0 γ α σ H1 _ (R.next s1) fun u H2 s2 d2 => hr _ H2 v u Q (d1.same s2) d2 fun w' H3 s3 d3 => k w' H3 ((s1.trans s2).trans s3) d3)
theorem EvD.add {i j : Int} (ha : EvD X ρ a (.int i)) (hb : EvD X ρ b (.int j)) : EvD X ρ (.BinOp a .Add b pos) (.int (i + j)) :=
  EvD.op2 op_add ha.r hb.r fun M H x y Q dx dy k => ⟨i, j, dx, dy, k _ H (Same.refl _) rfl⟩
theorem EvD.mod {i j : Int} (ha : EvD X ρ a (.int i)) (hb : EvD X ρ b (.int j)) (hc : 0 < j) : EvD X ρ (.BinOp a .Mod b pos) (.int (i % j)) :=
  EvD.op2 op_mod ha.r hb.r fun M H x y Q dx dy k => ⟨i, j, dx, dy, hc, k _ H (Same.refl _) rfl⟩
theorem EvD.fdiv {i j : Int} (ha : EvD X ρ a (.int i)) (hb : EvD X ρ b (.int j)) (hc : CDiv i j) : EvD X ρ (.BinOp a .FloorDiv b pos) (.int (i / j)) :=
  EvD.op2 op_fdiv ha.r hb.r fun M H x y Q dx dy k => ⟨i, j, dx, dy, hc, k _ H (Same.refl _) rfl⟩
theorem EvD.neg {i : Int} (ha : EvD X ρ a (.int i)) : EvD X ρ (.UnaryOp .USub a pos) (.int (-i)) :=
  fun M0 H0 γ α σ H Q R k => (pe_un un_neg peE).to (ha M0 H0 γ α σ H _ R fun v H1 s1 d1 => ⟨i, d1, k _ H1 s1 rfl⟩)

/-! comparisons -/
theorem EvD.cmp {op : CmpOp} {r : R2} {da db : D} {c : Bool} (ho : OpR X (compareOp op) r) (ha : EvR X ρ a da) (hb : EvR X ρ b db) (hm : behindInMarks op b = false)
    (hr : ∀ (M : MP) (H : Hp) (x y : V) (Q : VK), DnT X.K M H da x → DnT X.K M H db y → Q (.bl c) H → r x y H Q) : EvD X ρ (.Compare a [op] [b] pos) (.bl c) :=
  fun M0 H0 γ α σ H Q R k => (pe_cmpR ho peE peE hm).to (ha M0 H0 γ α σ H _ R fun v H1 s1 d1 => hb M0 H0 γ α σ H1 _ (R.next s1) fun u H2 s2 d2 => hr _ H2 v u Q (d1.same s2) d2 (k _ H2 (s1.trans s2) rfl))
theorem TvD.cmp {op : CmpOp} {r : R2} {da db : D} {c : Bool} (ho : OpR X (compareOp op) r) (ha : EvR X ρ a da) (hb : EvR X ρ b db) (hm : behindInMarks op b = false)
    (hr : ∀ (M : MP) (H : Hp) (x y : V) (Q : VK), DnT X.K M H da x → DnT X.K M H db y → Q (.bl c) H → r x y H Q) : TvD X ρ (.Compare a [op] [b] pos) c :=
  fun M0 H0 γ α σ H Q R k => (pt_cmpR ho peE peE hm).to (ha M0 H0 γ α σ H _ R fun v H1 s1 d1 => hb M0 H0 γ α σ H1 _ (R.next s1) fun u H2 s2 d2 => hr _ H2 v u _ (d1.same s2) d2 ⟨c, rfl, k H2 (s1.trans s2)⟩)
/-- the comparisons of ints -/
inductive CI : CmpOp → (Int → Int → Bool) → Prop where
  | lt : CI .Lt fun i j => decide (i < j)
  | le : CI .LtE fun i j => decide (i ≤ j)
  | gt : CI .Gt fun i j => decide (j < i)
  | ge : CI .GtE fun i j => decide (j ≤ i)
  | eq : CI .Eq fun i j => decide (i = j)
  | ne : CI .NotEq fun i j => !decide (i = j)
theorem dec_vint {i j : Int} : decide (V.int i = V.int j) = decide (i = j) := by
  by_cases h : i = j
  · subst h; simp
  · rw [decide_eq_false h, decide_eq_false fun q => h (by injection q)]
theorem CI.op {op : CmpOp} {g : Int → Int → Bool} (h : CI op g) : OpR X (compareOp op) (rI0 fun i j => .bl (g i j)) := by
  cases h with
  | lt => exact op_lt
  | le => exact op_le
  | gt => exact op_gt
  | ge => exact op_ge
  | eq =>
    intro pins s σ H x y v u Q I rx ry ⟨i, j, ex, ey, q⟩
    subst ex; subst ey
    exact op_eq pins s σ H _ _ v u Q I rx ry ⟨rfl, by rw [dec_vint]; exact q⟩
  | ne =>
    intro pins s σ H x y v u Q I rx ry ⟨i, j, ex, ey, q⟩
    subst ex; subst ey
    exact op_ne pins s σ H _ _ v u Q I rx ry ⟨rfl, by rw [dec_vint]; exact q⟩
theorem CI.mark {op : CmpOp} {g : Int → Int → Bool} (h : CI op g) (b : Expr) : behindInMarks op b = false := by cases h <;> exact nomark b
theorem EvD.cI {op : CmpOp} {g : Int → Int → Bool} {i j : Int} (hc : CI op g) (ha : EvD X ρ a (.int i)) (hb : EvD X ρ b (.int j)) : EvD X ρ (.Compare a [op] [b] pos) (.bl (g i j)) :=
  EvD.cmp hc.op ha.r hb.r (hc.mark b) fun M H x y Q dx dy k => ⟨i, j, dx, dy, k⟩
theorem TvD.cI {op : CmpOp} {g : Int → Int → Bool} {i j : Int} (hc : CI op g) (ha : EvD X ρ a (.int i)) (hb : EvD X ρ b (.int j)) : TvD X ρ (.Compare a [op] [b] pos) (g i j) :=
  TvD.cmp hc.op ha.r hb.r (hc.mark b) fun M H x y Q dx dy k => ⟨i, j, dx, dy, k⟩
theorem EvD.chain {op op' : CmpOp} {g g' : Int → Int → Bool} {c : Expr} {i j k : Int} (h1 : CI op g) (h2 : CI op' g') (ha : EvD X ρ a (.int i)) (hb : EvD X ρ b (.int j)) (hc : EvD X ρ c (.int k))
    (hm : lastMarks [op, op'] [b, c] = false := by with_unfolding_all rfl) : EvD X ρ (.Compare a [op, op'] [b, c] pos) (.bl (g i j && g' j k)) :=
  fun M0 H0 γ α σ H Q R kk => (pe_chain h1.op h2.op peE peE peE hm).to (ha M0 H0 γ α σ H _ R fun v H1 s1 d1 => hb M0 H0 γ α σ H1 _ (R.next s1) fun u H2 s2 d2 => ⟨i, j, d1, d2, g i j, rfl, by
    cases e : g i j with
    | true => exact iteT (hc M0 H0 γ α σ H2 _ ((R.next s1).next s2) fun z H3 s3 d3 => ⟨j, k, d2, d3, by have := kk (.bl (g' j k)) H3 ((s1.trans s2).trans s3); rw [e] at this; exact this rfl⟩)
    | false => exact iteF (by have := kk (.bl false) H2 (s1.trans s2); rw [e] at this; exact this rfl)⟩)
theorem TvD.chain {op op' : CmpOp} {g g' : Int → Int → Bool} {c : Expr} {i j k : Int} (h1 : CI op g) (h2 : CI op' g') (ha : EvD X ρ a (.int i)) (hb : EvD X ρ b (.int j)) (hc : EvD X ρ c (.int k))
    (hm : lastMarks [op, op'] [b, c] = false := by with_unfolding_all rfl) : TvD X ρ (.Compare a [op, op'] [b, c] pos) (g i j && g' j k) :=
  fun M0 H0 γ α σ H Q R kk => (pt_chain h1.op h2.op peE peE peE hm).to (ha M0 H0 γ α σ H _ R fun v H1 s1 d1 => hb M0 H0 γ α σ H1 _ (R.next s1) fun u H2 s2 d2 => ⟨i, j, d1, d2, g i j, rfl, by
    cases e : g i j with
    | true => exact iteT (hc M0 H0 γ α σ H2 _ ((R.next s1).next s2) fun z H3 s3 d3 => ⟨j, k, d2, d3, _, rfl, by have := kk H3 ((s1.trans s2).trans s3); rw [e] at this; exact this⟩)
    | false => exact iteF ⟨_, rfl, by have := kk H2 (s1.trans s2); rw [e] at this; exact this⟩⟩)

/-! truth: a value that is a bool -/
theorem TvD.val {c : Bool} (h : EvD X ρ e (.bl c)) (he : ∀ whole, isTrue e X.env whole = (do let v ← whole; standAt e.pos; holding [v] (truthy v)) := by intro _; rfl) : TvD X ρ e c :=
  fun M0 H0 γ α σ H Q R k => (pt_val peE he).to (h M0 H0 γ α σ H _ R fun v H1 s1 d1 => ⟨c, d1, k H1 s1⟩)
theorem TwD.t {c : Bool} (h : TwD X ρ e c) : TvD X ρ e c := fun M0 H0 γ α σ H Q R k => pwW.pt.to (h M0 H0 γ α σ H Q R k)
theorem TvD.not {c : Bool} (h : TvD X ρ a c) : TvD X ρ (.UnaryOp .Not a pos) (!c) :=
  fun M0 H0 γ α σ H Q R k => (pt_not ptT).to (h M0 H0 γ α σ H _ R fun H1 s1 => k H1 s1)
theorem EvD.not {c : Bool} (h : EvD X ρ a (.bl c)) : EvD X ρ (.UnaryOp .Not a pos) (.bl (!c)) :=
  fun M0 H0 γ α σ H Q R k => (pe_not peE).to (h M0 H0 γ α σ H _ R fun v H1 s1 d1 => ⟨c, d1, k _ H1 s1 rfl⟩)
theorem TwD.or1 {c : Bool} (h : TvD X ρ a c) : TwD X ρ (.BoolOp .Or [a] pos) c := fun M0 H0 γ α σ H Q R k => (pw_or1 ptT).to (h M0 H0 γ α σ H Q R k)
theorem TwD.or {c c' : Bool} (h : TvD X ρ a c) (h' : c = false → TwD X ρ (.BoolOp .Or (b :: es) pos) c') : TwD X ρ (.BoolOp .Or (a :: b :: es) pos) (c || c') :=
  fun M0 H0 γ α σ H Q R k => (pw_or ptT pwW).to (h M0 H0 γ α σ H _ R fun H1 s1 => by
    cases e : c with
    | false => rw [e] at k; exact iteF (h' e M0 H0 γ α σ H1 _ (R.next s1) fun H2 s2 => k H2 (s1.trans s2))
    | true => rw [e] at k; exact iteT (k H1 s1))
theorem EvD.one {op} (h : EvD X ρ a d) : EvD X ρ (.BoolOp op [a] pos) d := fun M0 H0 γ α σ H Q R k => (pe_one peE).to (h M0 H0 γ α σ H Q R k)
theorem EvD.and {c c' : Bool} (h : EvD X ρ a (.bl c)) (h' : c = true → EvD X ρ (.BoolOp .And (b :: es) pos) (.bl c')) : EvD X ρ (.BoolOp .And (a :: b :: es) pos) (.bl (c && c')) :=
  fun M0 H0 γ α σ H Q R k => (pe_and peE peE).to (h M0 H0 γ α σ H _ R fun v H1 s1 d1 => ⟨c, d1, by
    cases e : c with
    | true => rw [e] at k; exact iteT (h' e M0 H0 γ α σ H1 _ (R.next s1) fun u H2 s2 d2 => k u H2 (s1.trans s2) d2)
    | false => rw [e] at k; exact iteF (k _ H1 s1 rfl)⟩)
theorem EvD.or {c c' : Bool} (h : EvD X ρ a (.bl c)) (h' : c = false → EvD X ρ (.BoolOp .Or (b :: es) pos) (.bl c')) : EvD X ρ (.BoolOp .Or (a :: b :: es) pos) (.bl (c || c')) :=
  fun M0 H0 γ α σ H Q R k => (pe_or peE peE).to (h M0 H0 γ α σ H _ R fun v H1 s1 d1 => ⟨c, d1, by
    cases e : c with
    | false => rw [e] at k; exact iteF (h' e M0 H0 γ α σ H1 _ (R.next s1) fun u H2 s2 d2 => k u H2 (s1.trans s2) d2)
    | true => rw [e] at k; exact iteT (k _ H1 s1 rfl)⟩)
end
end Z
set_option Elab.async false
set_option linter.all false
set_option maxRecDepth 100000
namespace Z
open PySem PySem.Spec PyProof.Rows L2

/-! ### statements -/
structure Post where
  N : Rho → Prop
  R : D → Prop
  B : Rho → Prop := fun _ => False
  C : Rho → Prop := fun _ => False
def ends (K : Frag) (M0 : MP) (H0 : Hp) (γ : List (D × V)) (P : Post) : Ends where
  nx := fun σ H => ∃ α ρ, Rep K M0 H0 γ α ρ σ H ∧ P.N ρ
  rt := fun v H => ∃ d, P.R d ∧ Same H0 H ∧ Dn K M0 H d v
  bk := fun σ H => ∃ α ρ, Rep K M0 H0 γ α ρ σ H ∧ P.B ρ
  ct := fun σ H => ∃ α ρ, Rep K M0 H0 γ α ρ σ H ∧ P.C ρ
def W1 (X : Cx) (M0 : MP) (H0 : Hp) (st : Stmt) (ρ : Rho) (P : Post) : Prop := ∀ (γ : List (D × V)) (α : Nat → Addr) (σ : St) (H : Hp), Rep X.K M0 H0 γ α ρ σ H → tS X st (ends X.K M0 H0 γ P) σ H
def WS (X : Cx) (M0 : MP) (H0 : Hp) (st : List Stmt) (ρ : Rho) (P : Post) : Prop := ∀ (γ : List (D × V)) (α : Nat → Addr) (σ : St) (H : Hp), Rep X.K M0 H0 γ α ρ σ H → tSs X st (ends X.K M0 H0 γ P) σ H
section
variable {X : Cx} {M0 : MP} {H0 : Hp} {st : Stmt} {sts : List Stmt} {ρ : Rho} {P P' : Post} {e a b c : Expr} {d : D} {ds : List D} {pos pos' : Pos} {En En' : Ends} {σ : St} {H : Hp}
theorem SP.mono {pins : List (Addr × Obj)} {f : Flow} {s : Shared} (h1 : ∀ σ H, En.nx σ H → En'.nx σ H) (h2 : ∀ v H, En.rt v H → En'.rt v H) (h3 : ∀ σ H, En.bk σ H → En'.bk σ H) (h4 : ∀ σ H, En.ct σ H → En'.ct σ H) (h : SP X pins En f s) : SP X pins En' f s := by
  cases f with
  | next => obtain ⟨σ, H, I, q⟩ := h; exact ⟨σ, H, I, h1 _ _ q⟩
  | brk => obtain ⟨σ, H, I, q⟩ := h; exact ⟨σ, H, I, h3 _ _ q⟩
  | cont => obtain ⟨σ, H, I, q⟩ := h; exact ⟨σ, H, I, h4 _ _ q⟩
  | ret u => obtain ⟨v, σ, H, I, r, q⟩ := h; exact ⟨v, σ, H, I, r, h2 _ _ q⟩
theorem tS.mono (h1 : ∀ σ H, En.nx σ H → En'.nx σ H) (h2 : ∀ v H, En.rt v H → En'.rt v H) (h3 : ∀ σ H, En.bk σ H → En'.bk σ H) (h4 : ∀ σ H, En.ct σ H → En'.ct σ H) (h : tS X st En σ H) : tS X st En' σ H :=
  fun pins s I => thn (h pins s I) fun f s' q => SP.mono h1 h2 h3 h4 q
theorem tSs.mono (h1 : ∀ σ H, En.nx σ H → En'.nx σ H) (h2 : ∀ v H, En.rt v H → En'.rt v H) (h3 : ∀ σ H, En.bk σ H → En'.bk σ H) (h4 : ∀ σ H, En.ct σ H → En'.ct σ H) (h : tSs X sts En σ H) : tSs X sts En' σ H :=
  fun pins s I => thn (h pins s I) fun f s' q => SP.mono h1 h2 h3 h4 q
theorem WS.nil (h : P.N ρ) : WS X M0 H0 [] ρ P := fun γ α σ H R => pss_nil.to ⟨α, ρ, R, h⟩
theorem WS.cons (h : W1 X M0 H0 st ρ { P with N := fun ρ' => WS X M0 H0 sts ρ' P }) : WS X M0 H0 (st :: sts) ρ P := fun γ α σ H R =>
  (pss_cons psS psSs).to (tS.mono (En := ends X.K M0 H0 γ { P with N := fun ρ' => WS X M0 H0 sts ρ' P }) (fun σ' H' ⟨α', ρ', R', w⟩ => w γ α' σ' H' R') (fun _ _ q => q) (fun _ _ q => q) (fun _ _ q => q) (h γ α σ H R))
theorem WS.one (h : W1 X M0 H0 st ρ P) : WS X M0 H0 [st] ρ P := fun γ α σ H R => (pss_one psS).to (h γ α σ H R)
theorem W1.imp (h : W1 X M0 H0 st ρ P) (h1 : ∀ ρ, P.N ρ → P'.N ρ) (h2 : ∀ d, P.R d → P'.R d) (h3 : ∀ ρ, P.B ρ → P'.B ρ) (h4 : ∀ ρ, P.C ρ → P'.C ρ) : W1 X M0 H0 st ρ P' := fun γ α σ H R =>
  tS.mono (En := ends X.K M0 H0 γ P) (fun _ _ ⟨α, ρ, R, q⟩ => ⟨α, ρ, R, h1 _ q⟩) (fun _ _ ⟨d, q, r⟩ => ⟨d, h2 _ q, r⟩) (fun _ _ ⟨α, ρ, R, q⟩ => ⟨α, ρ, R, h3 _ q⟩) (fun _ _ ⟨α, ρ, R, q⟩ => ⟨α, ρ, R, h4 _ q⟩) (h γ α σ H R)
theorem WS.freeze {i : Nat} (hi : ρ[i]? = some (.mu ds)) (h : WS X M0 H0 sts (ρ.set i (.im (.lst ds))) P) : WS X M0 H0 sts ρ P := fun γ α σ H R => h γ α σ H (R.freeze hi)

theorem W1.ret (h : EvD X ρ e d) (q : P.R d) : W1 X M0 H0 (.Return (some e) pos) ρ P := fun γ α σ H R =>
  (ps_ret peE).to (h M0 H0 γ α σ H _ R fun v H' s x => ⟨d, q, R.same.trans s, x.less fun a m => .inl m⟩)
theorem W1.ite {s1 s2 : List Stmt} {t : Bool} (h : TvD X ρ c t) (h1 : t = true → WS X M0 H0 s1 ρ P) (h2 : t = false → WS X M0 H0 s2 ρ P) : W1 X M0 H0 (.If c s1 s2 pos) ρ P := fun γ α σ H R =>
  (ps_if ptT psSs psSs).to (h M0 H0 γ α σ H _ R fun H1 s => by
    cases e : t with
    | true => exact iteT (h1 e γ α σ H1 (R.next s))
    | false => exact iteF (h2 e γ α σ H1 (R.next s)))
theorem W1.set {i : Nat} {x : Str} (hN : X.N.Nodup) (hi : X.N[i]? = some x) (hx : Loc X.env.scope x) (hl : i < ρ.length) (h : EvD X ρ e d) (q : P.N (ρ.set i (.im d)))
    (hs : swapsWith e (some (.Name x pos')) pos.line X.env = pure false := by rfl) (hf : X.fn x = true ∨ X.env.scope.names.lookup x = some .local := by first | exact .inl rfl | exact .inr rfl | assumption) : W1 X M0 H0 (.Assign [.Name x pos'] e pos) ρ P := fun γ α σ H R =>
  (ps_set hN hi hx peE hs hf).to (h M0 H0 γ α σ H _ R fun v H' s x => ⟨α, _, (R.next s).set_im hl x, q⟩)
theorem W1.setF {i : Nat} {x : Str} (hN : X.N.Nodup) (hi : X.N[i]? = some x) (hx : Loc X.env.scope x) (hl : i < ρ.length) (h : EvF X ρ e ds) (q : P.N (ρ.set i (.mu ds)))
    (hs : swapsWith e (some (.Name x pos')) pos.line X.env = pure false := by rfl) (hf : X.fn x = true ∨ X.env.scope.names.lookup x = some .local := by first | exact .inl rfl | exact .inr rfl | assumption) : W1 X M0 H0 (.Assign [.Name x pos'] e pos) ρ P := fun γ α σ H R =>
  (ps_set hN hi hx peE hs hf).to (h M0 H0 γ α σ H _ R fun l xs H1 H' s n s' y z => ⟨_, _, (R.next s).set_mu hl n s' y z, q⟩)

/-! ### loops -/
def tG (X : Cx) (tg : Expr) : TG := fun v σ H Q => ∀ (pins : List (Addr × Obj)) (s : Shared) (u : Value), Inv X pins σ H s → RelV v u → wpAny (model X.prog X.w) X.A (assign tg X.env u) (fun _ s' => ∃ σ' H', Inv X pins σ' H' s' ∧ Q σ' H') X.xe s
theorem pgG {tg : Expr} : PG X tg (tG X tg) := fun pins s σ H v u Q I r h => h pins s u I r
theorem _root_.L2.PG.to {tg : Expr} {t : TG} {v : V} {Q : St → Hp → Prop} (h : PG X tg t) (q : t v σ H Q) : tG X tg v σ H Q := fun pins s u I r => h pins s σ H v u Q I r q
/-- the target takes d: the names behind it are ρ' -/
def GvD (X : Cx) (tg : Expr) (d : D) (ρ ρ' : Rho) : Prop := ∀ (M0 : MP) (H0 : Hp) (γ : List (D × V)) (α : Nat → Addr) (σ : St) (H : Hp) (v : V) (Q : St → Hp → Prop), Rep X.K M0 H0 γ α ρ σ H → Dn X.K (MM M0 ρ α) H d v →
  (∀ σ', Rep X.K M0 H0 γ α ρ' σ' H → Q σ' H) → tG X tg v σ H Q
theorem GvD.name {i : Nat} {x : Str} (hN : X.N.Nodup) (hi : X.N[i]? = some x) (hx : Loc X.env.scope x) (hl : i < ρ.length)
    (hf : X.fn x = true ∨ X.env.scope.names.lookup x = some .local := by first | exact .inl rfl | exact .inr rfl | assumption) : GvD X (.Name x pos) d ρ (ρ.set i (.im d)) := fun M0 H0 γ α σ H v Q R h k =>
  (pg_name hN hi hx hf).to (k _ (R.set_im hl h))

theorem bodyTo {body : List Stmt} {γ γ' : List (D × V)} {α : Nat → Addr} {J : Rho → Prop} (hg : ∀ {α : Nat → Addr} {ρ : Rho} {σ : St} {H : Hp}, Rep X.K M0 H0 γ' α ρ σ H → Rep X.K M0 H0 γ α ρ σ H)
    (R : Rep X.K M0 H0 γ' α ρ σ H) (w : WS X M0 H0 body ρ { P with N := J, C := J, B := P.N }) :
    tSs X body { ends X.K M0 H0 γ P with nx := fun σ H => ∃ α ρ, Rep X.K M0 H0 γ' α ρ σ H ∧ J ρ, ct := fun σ H => ∃ α ρ, Rep X.K M0 H0 γ' α ρ σ H ∧ J ρ, bk := (ends X.K M0 H0 γ P).nx } σ H :=
  tSs.mono (En := ends X.K M0 H0 γ' { P with N := J, C := J, B := P.N }) (fun _ _ q => q) (fun _ _ q => q) (fun _ _ ⟨α, ρ, R, q⟩ => ⟨α, ρ, hg R, q⟩) (fun _ _ q => q) (w γ' α σ H R)

/-! ### the methods of a list at a name -/
/-- o.name(e), o.name(): how the call is written -/
def MC1 (X : Cx) (o : Expr) (name : Str) (e : Expr) (apos cpos : Pos) : Prop := attributeBase o name X.env (eval o X.env) = eval o X.env ∧
  ((backTo cpos (starEach [e] X.env)).all (fun x => !x.1) && (backToKw cpos (keywordEach [] X.env)).all (fun x => x.1.isSome) && decide ([e].length + ([] : List Keyword).length + (if ([] : List Keyword).isEmpty then 0 else 1) < 30)) = true ∧
  (apos.endLine == cpos.line) = true ∧ starEach [e] X.env = [(false, eval e X.env)]
def MC2 (X : Cx) (o : Expr) (name : Str) (e f : Expr) (apos cpos : Pos) : Prop := attributeBase o name X.env (eval o X.env) = eval o X.env ∧
  ((backTo cpos (starEach [e, f] X.env)).all (fun x => !x.1) && (backToKw cpos (keywordEach [] X.env)).all (fun x => x.1.isSome) && decide ([e, f].length + ([] : List Keyword).length + (if ([] : List Keyword).isEmpty then 0 else 1) < 30)) = true ∧
  (apos.endLine == cpos.line) = true ∧ starEach [e, f] X.env = [(false, eval e X.env), (false, eval f X.env)] ∧ starEach [f] X.env = [(false, eval f X.env)] ∧ (backTo cpos (starEach [f] X.env)).any (·.1) = false
def MC0 (X : Cx) (o : Expr) (name : Str) (apos cpos : Pos) : Prop := attributeBase o name X.env (eval o X.env) = eval o X.env ∧ (apos.endLine == cpos.line) = true
theorem lt_line {n : Nat} (h : n < 1000000) : n < sizeLine := Nat.lt_of_lt_of_le h (by decide)
def rExtD (K : Frag) : V → List V → Hp → VK → Prop := fun x vs H Q => ∃ l b xs zs, x = .ref l ∧ vs = [.ref b] ∧ H l = some (.lst xs) ∧ (SqL K H b zs ∨ SqT K H b zs) ∧ xs.length + zs.length ≤ sizeLine ∧ Q .non (upd H l (.lst (xs ++ zs)))
end
end Z
set_option Elab.async false
set_option linter.all false
set_option maxRecDepth 100000
namespace Z
open PySem PySem.Spec PyProof.Rows L2

section
variable {X : Cx} {M0 : MP} {H0 : Hp} {ρ : Rho} {P : Post} {e a b c : Expr} {es : List Expr} {d : D} {ds : List D} {pos p : Pos}
/-! ### items -/
theorem Dns.at {K : Frag} {M : MP} {H : Hp} {ds : List D} {vs : List V} {k : Int} {d : D} (h : Dns K M H ds vs) (e : atI ds k = some d) : ∃ v, atI vs k = some v ∧ Dn K M H d v := by
  obtain ⟨j, h1, h2, h3, h4, h5⟩ := atI_get e
  obtain ⟨v, q1, q2⟩ := h.get h2
  refine ⟨v, ?_, q2⟩
  unfold atI at e ⊢
  rw [h.len]
  cases z : ixN ds.length k with
  | none => rw [z] at e; cases e
  | some j' =>
    obtain ⟨w, _⟩ := ixN_seq z
    rw [h1] at w; cases w
    exact q1
theorem EvD.ixL {k : Int} (ha : EvR X ρ a (.lst ds)) (hb : EvD X ρ b (.int k)) (hk : atI ds k = some d) (hs : PlainIx b := by intro _ _; rfl) : EvD X ρ (.Subscript a b pos) d :=
  fun M0 H0 γ α σ H Q R kk => (pe_ix ix_list peE peE hs).to (ha M0 H0 γ α σ H _ R fun v H1 s1 d1 => hb M0 H0 γ α σ H1 _ (R.next s1) fun u H2 s2 d2 => by
    obtain ⟨q, xs, rfl, sq, dn⟩ := d1.same s2
    obtain ⟨w, e1, e2⟩ := dn.at hk
    exact ⟨q, xs, k, w, rfl, d2, sq, e1, kk w H2 (s1.trans s2) e2⟩)

/-! ### built-in calls -/
theorem EvD.callB {id : String} {x : Str} {r : List V → Hp → VK → Prop} (hc : CallR X (.builtin id) r) (hg : Gl X x) (hm : X.mg x = none) (hv : bootBuiltins x = some (.builtin id)) (ha : AvR X ρ (e :: es) ds)
    (hr : ∀ (M : MP) (H : Hp) (vs : List V) (Q : VK), DnTs X.K M H ds vs → (∀ v H', Same H H' → Dn X.K M H' d v → Q v H') → r vs H Q) (hn : x ≠ "__name__" := by decide) (hdb : (x == ("__debug__" : Str)) = false := by decide)
    (he : starEach (e :: es) X.env = (false, eval e X.env) :: starEach es X.env := by rfl) (hpl : (backTo pos (starEach es X.env)).any (·.1) = false := by rfl) : EvD X ρ (.Call (.Name x p) (e :: es) [] pos) d :=
  fun M0 H0 γ α σ H Q R k => (pe_callB hc hg hm hv paA hn hdb he hpl).to (ha M0 H0 γ α σ H _ R fun vs H1 s1 d1 => hr _ H1 vs Q d1 fun v H2 s2 d2 => k v H2 (s1.trans s2) d2)
theorem EvD.callTy {T : String} {x : Str} {r : List V → Hp → VK → Prop} (hc : CallR X (.type T) r) (hg : Gl X x) (hm : X.mg x = none) (hv : bootBuiltins x = some (.type T)) (ha : AvR X ρ (e :: es) ds)
    (hr : ∀ (M : MP) (H : Hp) (vs : List V) (Q : VK), DnTs X.K M H ds vs → (∀ v H', Same H H' → Dn X.K M H' d v → Q v H') → r vs H Q) (hn : x ≠ "__name__" := by decide) (hdb : (x == ("__debug__" : Str)) = false := by decide)
    (he : starEach (e :: es) X.env = (false, eval e X.env) :: starEach es X.env := by rfl) (hpl : (backTo pos (starEach es X.env)).any (·.1) = false := by rfl) : EvD X ρ (.Call (.Name x p) (e :: es) [] pos) d :=
  fun M0 H0 γ α σ H Q R k => (pe_callTy hc hg hm hv paA hn hdb he hpl).to (ha M0 H0 γ α σ H _ R fun vs H1 s1 d1 => hr _ H1 vs Q d1 fun v H2 s2 d2 => k v H2 (s1.trans s2) d2)
theorem AvR.one (h : EvR X ρ e d) (hs : starEach [e] X.env = [(false, eval e X.env)] := by rfl) : AvR X ρ [e] [d] := AvR.cons h AvR.nil hs
/-- len, list, tuple of a list or tuple -/
def isSeq : D → List D → Prop
  | .lst ds, es => ds = es
  | .tup ds, es => ds = es
  | _, _ => False
theorem seq_of {K : Frag} {M : MP} {H : Hp} {d : D} {ds : List D} {v : V} (hq : isSeq d ds) (h : DnT K M H d v) : ∃ q xs, v = .ref q ∧ (SqL K H q xs ∨ SqT K H q xs) ∧ Dns K M H ds xs := by
  cases d with
  | lst es => cases hq; obtain ⟨q, xs, e, s, r⟩ := h; exact ⟨q, xs, e, .inl s, r⟩
  | tup es => cases hq; obtain ⟨q, xs, e, s, r⟩ := h; exact ⟨q, xs, e, .inr s, r⟩
  | _ => exact hq.elim
theorem EvD.len (hg : Gl X "len") (hm : X.mg "len" = none) (h : EvR X ρ e d) (hq : isSeq d ds) (he : starEach [e] X.env = [(false, eval e X.env)] := by rfl) : EvD X ρ (.Call (.Name "len" p) [e] [] pos) (.int ds.length) :=
  EvD.callB call_len_seq hg hm PySem.boot_len (AvR.one h he) (fun M H vs Q dn k => by
    obtain ⟨v, r, rfl, e1, e2⟩ := dn
    cases e2
    obtain ⟨q, xs, rfl, s, z⟩ := seq_of hq e1
    exact ⟨q, xs, rfl, s, k _ H (Same.refl _) (by rw [z.len]; exact rfl)⟩) (he := he)
theorem EvD.tuple (hg : Gl X "tuple") (hm : X.mg "tuple" = none) (hv : bootBuiltins "tuple" = some (.type "tuple")) (h : EvR X ρ e d) (hq : isSeq d ds) (he : starEach [e] X.env = [(false, eval e X.env)] := by rfl) : EvD X ρ (.Call (.Name "tuple" p) [e] [] pos) (.tup ds) :=
  EvD.callTy call_tuple_of hg hm hv (AvR.one h he) (fun M H vs Q dn k => by
    obtain ⟨v, r, rfl, e1, e2⟩ := dn
    cases e2
    obtain ⟨q, xs, rfl, s, z⟩ := seq_of hq e1
    refine ⟨q, xs, rfl, ?_⟩
    rcases s with s | s
    · exact .inl ⟨s, fun l hl => k _ _ (same_new hl) ⟨l, xs, rfl, SqT.of upd_same, z.same (same_new hl)⟩⟩
    · exact .inr ⟨s, k _ H (Same.refl _) ⟨q, xs, rfl, s, z⟩⟩) (he := he)

/-! ### equality, in: over data -/
mutual
def D.pd : D → PyData
  | .non => .none
  | .bl b => .bool b
  | .int i => .int i
  | .str x => .str x
  | .tup ds => .tuple (D.pds ds)
  | .lst ds => .list (D.pds ds)
  | .ins _ _ _ => .none
  | .exc _ => .none
def D.pds : List D → List PyData
  | [] => []
  | d :: ds => D.pd d :: D.pds ds
end
/-- plain data, n deep at most -/
def D.flat : Nat → D → Prop
  | _, .non => True
  | _, .bl _ => True
  | _, .int _ => True
  | _, .str x => PyData.strOk x = true
  | n + 1, .tup ds => ∀ d ∈ ds, D.flat n d
  | n + 1, .lst ds => ∀ d ∈ ds, D.flat n d
  | _, _ => False
theorem reads_of {pins : List (Addr × Obj)} {s : Shared} {σ : St} {H : Hp} {M : MP} (I : Inv X pins σ H s) : ∀ (n : Nat),
    (∀ (d : D) (v : V) (u : Value), D.flat n d → DnT X.K M H d v → RelV v u → ∃ as, Reads s.heap u d.pd as) := by
  intro n
  have all : ∀ m : Nat, (∀ (d : D) (v : V) (u : Value), D.flat m d → DnT X.K M H d v → RelV v u → ∃ as, Reads s.heap u d.pd as) →
      ∀ (ds : List D) (vs : List V) (us : List Value), (∀ d ∈ ds, D.flat m d) → Dns X.K M H ds vs → Vals vs us → ∃ as, ReadsAll s.heap us (D.pds ds) as := by
    intro m ih ds
    induction ds with
    | nil => intro vs us _ h r; cases (show vs = [] from h); cases r; exact ⟨_, .nil⟩
    | cons d ds hi =>
      intro vs us hf h r
      obtain ⟨v, t, rfl, h1, h2⟩ := h
      cases r with
      | cons r1 r2 =>
        obtain ⟨as, q1⟩ := ih d v _ (hf d (.head _)) h1.t r1
        obtain ⟨bs, q2⟩ := hi t _ (fun x hx => hf x (.tail _ hx)) h2 r2
        exact ⟨_, .cons q1 q2⟩
  have base : ∀ (m : Nat) (d : D) (v : V) (u : Value), (∀ ds, d ≠ .tup ds) → (∀ ds, d ≠ .lst ds) → D.flat m d → DnT X.K M H d v → RelV v u → ∃ as, Reads s.heap u d.pd as := by
    intro m d v u n1 n2 hf h r
    cases d with
    | non => cases (show v = .non from h); cases (show u = Value.none from r); exact ⟨_, .none⟩
    | bl b => cases (show v = .bl b from h); cases (show u = Value.bool b from r); exact ⟨_, .bool b⟩
    | int i => cases (show v = .int i from h); obtain ⟨t, rfl⟩ := r; exact ⟨_, .int i t⟩
    | str x => cases (show v = .str x from h); obtain ⟨t, rfl⟩ := r; exact ⟨_, .str x t⟩
    | tup ds => exact absurd rfl (n1 ds)
    | lst ds => exact absurd rfl (n2 ds)
    | ins _ _ _ => cases m <;> exact hf.elim
    | exc _ => cases m <;> exact hf.elim
  induction n with
  | zero =>
    intro d v u hf h r
    refine base 0 d v u (fun ds e => ?_) (fun ds e => ?_) hf h r <;> (subst e; exact hf.elim)
  | succ n ih =>
    intro d v u hf h r
    cases d with
    | tup ds =>
      obtain ⟨a, xs, rfl, sq, dn⟩ := h
      cases (show u = Value.ref a from r)
      obtain ⟨its, rv, ⟨o, e1, e2, m, e3⟩, _⟩ := I.tuple sq
      obtain ⟨as, q⟩ := all n ih ds xs its hf dn rv
      exact ⟨_, .tuple e1 e2 e3 (by simpa [D.pds] using q)⟩
    | lst ds =>
      obtain ⟨a, xs, rfl, sq, dn⟩ := h
      cases (show u = Value.ref a from r)
      obtain ⟨its, rv, ⟨o, m, e1, e2, _, e3⟩, _⟩ := I.list sq
      obtain ⟨as, q⟩ := all n ih ds xs its hf dn rv
      exact ⟨_, .list e1 e2 e3 (by simpa [D.pds] using q)⟩
    | _ => exact base (n + 1) _ v u (fun ds e => nomatch e) (fun ds e => nomatch e) hf h r
theorem shaped_of : ∀ (n : Nat) (d : D), D.flat n d → d.pd.canLay0 = true ∧ d.pd.depth ≤ n := by
  have all : ∀ m : Nat, (∀ d : D, D.flat m d → d.pd.canLay0 = true ∧ d.pd.depth ≤ m) → ∀ ds : List D, (∀ d ∈ ds, D.flat m d) → PyData.canLayAll0 (D.pds ds) = true ∧ PyData.depthAll (D.pds ds) ≤ m := by
    intro m ih ds
    induction ds with
    | nil => intro _; exact ⟨by simp [D.pds, PyData.canLayAll0], by simp [D.pds, PyData.depthAll]⟩
    | cons d ds hi =>
      intro hf
      obtain ⟨a1, a2⟩ := ih d (hf d (.head _))
      obtain ⟨b1, b2⟩ := hi fun x hx => hf x (.tail _ hx)
      exact ⟨by simp [D.pds, PyData.canLayAll0, a1, b1], by simp only [D.pds, PyData.depthAll]; omega⟩
  intro n
  induction n with
  | zero => intro d hf; cases d <;> simp_all [D.flat, D.pd, PyData.canLay0, PyData.depth]
  | succ n ih =>
    intro d hf
    cases d with
    | tup ds => obtain ⟨b1, b2⟩ := all n ih ds hf; exact ⟨by simpa [D.pd, PyData.canLay0] using b1, by simp only [D.pd, PyData.depth]; omega⟩
    | lst ds => obtain ⟨b1, b2⟩ := all n ih ds hf; exact ⟨by simpa [D.pd, PyData.canLay0] using b1, by simp only [D.pd, PyData.depth]; omega⟩
    | _ => simp_all [D.flat, D.pd, PyData.canLay0, PyData.depth]
theorem shaped_flat {d : D} (h : D.flat 60 d) : SeqAt.shaped d.pd = true := by
  obtain ⟨a, b⟩ := shaped_of 60 d h
  unfold SeqAt.shaped
  rw [a, Bool.true_and]
  exact decide_eq_true (by omega)
def D.eqv (a b : D) : Bool := PyData.eqv a.pd b.pd
def rEqD (K : Frag) (neg : Bool) : R2 := fun x y H Q => ∃ M da db, DnT K M H da x ∧ DnT K M H db y ∧ D.flat 60 da ∧ D.flat 60 db ∧ Q (.bl (if neg then !D.eqv da db else D.eqv da db)) H
theorem op_eqD (hu : X.A.units + 64 < cLine) : OpR X (compareOp .Eq) (rEqD X.K false) := by
  intro pins s σ H x y v u Q I rx ry ⟨M, da, db, h1, h2, f1, f2, q⟩
  obtain ⟨as, r1⟩ := reads_of I 60 da x v f1 h1 rx
  obtain ⟨bs, r2⟩ := reads_of I 60 db y u f2 h2 ry
  exact eq_dataH r1 r2 (shaped_flat f1) (shaped_flat f2) hu ⟨.bl _, H, I, rfl, q⟩
theorem op_neD (hu : X.A.units + 64 < cLine) : OpR X (compareOp .NotEq) (rEqD X.K true) := by
  intro pins s σ H x y v u Q I rx ry ⟨M, da, db, h1, h2, f1, f2, q⟩
  obtain ⟨as, r1⟩ := reads_of I 60 da x v f1 h1 rx
  obtain ⟨bs, r2⟩ := reads_of I 60 db y u f2 h2 ry
  exact ne_dataH r1 r2 (shaped_flat f1) (shaped_flat f2) hu ⟨.bl _, H, I, rfl, q⟩
theorem EvD.eq {da db : D} (hu : X.A.units + 64 < cLine) (ha : EvR X ρ a da) (hb : EvR X ρ b db) (f1 : D.flat 60 da) (f2 : D.flat 60 db) : EvD X ρ (.Compare a [.Eq] [b] pos) (.bl (D.eqv da db)) :=
  EvD.cmp (op_eqD hu) ha hb (nomark b) fun M H x y Q dx dy k => ⟨M, da, db, dx, dy, f1, f2, k⟩
theorem TvD.ne {da db : D} (hu : X.A.units + 64 < cLine) (ha : EvR X ρ a da) (hb : EvR X ρ b db) (f1 : D.flat 60 da) (f2 : D.flat 60 db) : TvD X ρ (.Compare a [.NotEq] [b] pos) (!D.eqv da db) :=
  TvD.cmp (op_neD hu) ha hb (nomark b) fun M H x y Q dx dy k => ⟨M, da, db, dx, dy, f1, f2, k⟩
def inD (d : D) (ds : List D) : Bool := ds.any fun y => D.eqv y d
def rInD (K : Frag) (neg : Bool) : R2 := fun x y H Q => ∃ M da ds, DnT K M H da x ∧ (DnT K M H (.lst ds) y ∨ DnT K M H (.tup ds) y) ∧ D.flat 60 da ∧ (∀ d ∈ ds, D.flat 59 d) ∧ Q (.bl (if neg then !inD da ds else inD da ds)) H
/-! is None -/
def D.isNon : D → Bool
  | .non => true
  | _ => false
theorem isNon_of {K : Frag} {M : MP} {H : Hp} {d : D} {v : V} (h : DnT K M H d v) : decide (v = .non) = d.isNon := by
  cases d with
  | non => cases (show v = .non from h); rfl
  | bl b => cases (show v = .bl b from h); rfl
  | int b => cases (show v = .int b from h); rfl
  | str b => cases (show v = .str b from h); rfl
  | tup ds => obtain ⟨a, _, rfl, _⟩ := h; rfl
  | lst ds => obtain ⟨a, _, rfl, _⟩ := h; rfl
  | ins _ _ _ => obtain ⟨a, _, _, rfl, _⟩ := h; rfl
  | exc _ => obtain ⟨a, rfl, _⟩ := h; rfl
theorem TvD.isN {da : D} {j p'} (ha : EvR X ρ a da) : TvD X ρ (.Compare a [.Is] [.Constant .none j p'] pos) da.isNon :=
  TvD.cmp op_isN ha EvD.non.r (nomark _) fun M H x y Q dx dy k => ⟨dy, by rw [isNon_of dx]; exact k⟩
theorem EvD.isN {da : D} {j p'} (ha : EvR X ρ a da) : EvD X ρ (.Compare a [.Is] [.Constant .none j p'] pos) (.bl da.isNon) :=
  EvD.cmp op_isN ha EvD.non.r (nomark _) fun M H x y Q dx dy k => ⟨dy, by rw [isNon_of dx]; exact k⟩

/-! ### list + list, tuple + tuple -/
def rCatL (K : Frag) : R2 := fun x y H Q => ∃ l b xs zs, x = .ref l ∧ y = .ref b ∧ SqL K H l xs ∧ SqL K H b zs ∧ xs.length + zs.length ≤ sizeLine ∧ ∀ p, H p = none → Q (.ref p) (upd H p (.lst (xs ++ zs)))
theorem add_meets (l b : Addr) (xs ys : Array Value) (n m : Nat) (dd de : Option Addr) (sl tl : Array (Option Value)) (h0 : xs.size + ys.size ≤ sizeLine) :
    Meets (Builtin.«list.__add__» ⟨[.ref l, .ref b], []⟩) (fun _ R s => s.heap.get? l = some { cls := .type "list", dict := dd, data := .seq xs n, slots := sl } ∧ s.heap.get? b = some { cls := .type "list", dict := de, data := .seq ys m, slots := tl } ∧
      R (.ok (.ret (Value.ref s.heap.objs.size))) { s with heap := s.heap.push { cls := Value.type "list", data := Data.seq (xs ++ ys) }, toks := s.toks }) :=
  .of_wp fun prog w A R s h => by
    obtain ⟨hp, g, d, tk, os⟩ := s
    obtain ⟨hl, hb, h⟩ := h
    have f3 := AutoSeq1.sub_list_list
    wp_walk using AutoSeq1.wpAny_loadPart' hl, AutoSeq1.wpAny_loadPart' hb
    exact ⟨_, rfl, h⟩
end
end Z
set_option Elab.async false
set_option linter.all false
set_option maxRecDepth 100000
namespace Z
open PySem PySem.Spec PyProof.Rows L2

/-! ### what a loop or a comprehension walks -/
def Walk (K : Frag) (J : It) (ds : List D) (gs : List (D × V)) : Prop := ∀ (M : MP) (H : Hp), (∀ p ∈ gs, Dn K M H p.1 p.2) →
  (∀ i d, ds[i]? = some d → J.go i H ∧ ∀ x H', J.yld i H x H' → Same H H' ∧ Dn K M H' d x) ∧ J.stop ds.length H
def tI (X : Cx) (tg iter : Expr) : TI := fun σ H R => ∀ (pins : List (Addr × Obj)) (s : Shared), Inv X pins σ H s →
  wpAny (model X.prog X.w) X.A (eval iter X.env) (fun v s1 => wpAny (model X.prog X.w) X.A (pyIter v) (PIE X pins σ tg R) X.xe s1) X.xe s
def IvD (X : Cx) (ρ : Rho) (tg iter : Expr) (ds : List D) : Prop := ∀ (M0 : MP) (H0 : Hp) (γ : List (D × V)) (α : Nat → Addr) (σ : St) (H : Hp) (R : It → Hp → Prop), Rep X.K M0 H0 γ α ρ σ H →
  (∀ J H1 gs, Same H H1 → (∀ p ∈ gs, Dn X.K (MM M0 ρ α) H1 p.1 p.2) → Walk X.K J ds gs → R J H1) → tI X tg iter σ H R
section
variable {X : Cx} {M0 : MP} {H0 : Hp} {ρ : Rho} {P : Post} {e a b c tg iter : Expr} {es : List Expr} {d : D} {ds : List D} {pos p : Pos} {σ : St} {H : Hp}
theorem piI : PI X tg iter (tI X tg iter) := fun pins s σ H R I h => h pins s I
theorem _root_.L2.PI.to {t : TI} {R : It → Hp → Prop} (h : PI X tg iter t) (q : t σ H R) : tI X tg iter σ H R := fun pins s I => h pins s σ H R I q
theorem IvD.list (h : EvD X ρ e (.lst ds)) : IvD X ρ tg e ds := fun M0 H0 γ α σ H R r k => (pi_list peE).to (h M0 H0 γ α σ H _ r fun v H1 s x => by
  obtain ⟨q, xs, rfl, sq, dn⟩ := id x
  refine ⟨q, rfl, ⟨xs, sq.l⟩, k (Itl X.K q) H1 [(.lst ds, .ref q)] s (fun p hp => by rw [List.mem_singleton.mp hp]; exact x) fun M H2 hg => ?_⟩
  obtain ⟨q', xs', e1, sq', dn'⟩ := hg _ (List.mem_singleton.mpr rfl)
  cases e1
  refine ⟨fun i d hi => ⟨?_, fun x H' hy => ?_⟩, ⟨xs', sq'.l, by rw [dn'.len]; exact Nat.le_refl _⟩⟩
  · obtain ⟨v, h1, h2⟩ := dn'.get hi
    exact ⟨xs', v, sq'.l, h1⟩
  · obtain ⟨rfl, hy⟩ := hy
    obtain ⟨d', h1, h2⟩ := dn'.getV (hy xs' sq'.l)
    rw [hi] at h1; cases h1
    exact ⟨Same.refl _, h2⟩)
theorem IvD.tup (h : EvD X ρ e (.tup ds)) : IvD X ρ tg e ds := fun M0 H0 γ α σ H R r k => (pi_tup peE).to (h M0 H0 γ α σ H _ r fun v H1 s x => by
  obtain ⟨q, xs, rfl, sq, dn⟩ := id x
  refine ⟨q, rfl, ⟨xs, sq⟩, k (Itt X.K q) H1 [(.tup ds, .ref q)] s (fun p hp => by rw [List.mem_singleton.mp hp]; exact x) fun M H2 hg => ?_⟩
  obtain ⟨q', xs', e1, sq', dn'⟩ := hg _ (List.mem_singleton.mpr rfl)
  cases e1
  refine ⟨fun i d hi => ⟨?_, fun x H' hy => ?_⟩, ⟨xs', sq', by rw [dn'.len]; exact Nat.le_refl _⟩⟩
  · obtain ⟨v, h1, h2⟩ := dn'.get hi
    exact ⟨xs', v, sq', h1⟩
  · obtain ⟨rfl, hy⟩ := hy
    obtain ⟨d', h1, h2⟩ := dn'.getV (hy xs' sq')
    rw [hi] at h1; cases h1
    exact ⟨Same.refl _, h2⟩)
/-- lo, lo + 1, .., n of them -/
def rngD (lo : Int) (n : Nat) : List D := (List.range n).map fun (i : Nat) => D.int (lo + (i : Int))
theorem walk_rng {K : Frag} (lo : Int) (n : Nat) : Walk K (Itr lo n) (rngD lo n) [] := fun M H _ => by
  refine ⟨fun i d hi => ?_, ?_⟩
  · unfold rngD at hi
    rw [List.getElem?_map] at hi
    cases e : (List.range n)[i]? with
    | none => rw [e] at hi; cases hi
    | some j =>
      rw [e] at hi
      obtain ⟨h1, h2⟩ := List.getElem?_eq_some_iff.mp e
      rw [List.length_range] at h1
      rw [List.getElem_range] at h2
      subst h2
      cases hi
      exact ⟨h1, fun x H' ⟨e1, e2⟩ => ⟨by rw [e1]; exact Same.refl _, e2⟩⟩
  · show n ≤ _
    unfold rngD
    rw [List.length_map, List.length_range]
    exact Nat.le_refl _
theorem IvD.range {j : Int} {p1 p2 : Pos} (hg : Gl X "range") (hm : X.mg "range" = none) (hs : EvD X ρ e (.int j)) (hj : -(2 ^ 62) ≤ j ∧ j < 2 ^ 62) (hss : starEach [e] X.env = [(false, eval e X.env)] := by rfl) :
    IvD X ρ tg (.Call (.Name "range" p1) [e] [] p2) (rngD 0 j.toNat) := fun M0 H0 γ α σ H R r k => (pi_range1 hg hm paA hss).to ((AvD.cons hs AvD.nil hss) M0 H0 γ α σ H _ r fun vs H1 s x => by
  obtain ⟨v, r, rfl, e1, e2⟩ := x
  cases e1; cases e2
  exact ⟨j, rfl, hj.1, hj.2, k _ H1 [] s (fun _ hp => nomatch hp) (walk_rng 0 _)⟩)
theorem Rep.ghosts {K : Frag} {γ : List (D × V)} {α : Nat → Addr} : ∀ {gs : List (D × V)}, Rep K M0 H0 γ α ρ σ H → (∀ p ∈ gs, Dn K (MM M0 ρ α) H p.1 p.2) → Rep K M0 H0 (gs ++ γ) α ρ σ H := fun {gs} r h =>
  ⟨r.same, r.old, r.inj, r.im, r.mu, fun p hp => (List.mem_append.mp hp).elim (h p) (r.gh p), r.len⟩
theorem Rep.unghosts {K : Frag} {gs γ : List (D × V)} {α : Nat → Addr} (r : Rep K M0 H0 (gs ++ γ) α ρ σ H) : Rep K M0 H0 γ α ρ σ H :=
  ⟨r.same, r.old, r.inj, r.im, r.mu, fun q hq => r.gh q (List.mem_append_right _ hq), r.len⟩
/-- for, over anything that is walked -/
theorem W1.for {body : List Stmt} (I : Nat → Rho → Prop) (hp : PassesOwn (model X.prog X.w) X.A X.env X.xe) (hc : X.calm = true) (hs : IvD X ρ tg e ds) (h0 : I 0 ρ)
    (ht : ∀ i d ρ, ds[i]? = some d → I i ρ → ∃ ρ', GvD X tg d ρ ρ' ∧ WS X M0 H0 body ρ' { P with N := I (i + 1), C := I (i + 1), B := P.N }) (hd : ∀ ρ, I ds.length ρ → P.N ρ)
    (hf : ∀ x, foldedSetIterable e X.env x = pure x := by intro _; rfl) : W1 X M0 H0 (.For tg e body [] pos) ρ P := fun γ α σ H R => by
  refine (ps_for hp hc piI pgG psSs hf).to (hs M0 H0 γ α σ H _ R fun J H1 gs s hg w => ?_)
  refine ⟨fun i m σ H => m = ds.length - i ∧ i ≤ ds.length ∧ ∃ α ρ, Rep X.K M0 H0 (gs ++ γ) α ρ σ H ∧ I i ρ, ⟨ds.length, by simp, Nat.zero_le _, α, ρ, (R.next s).ghosts hg, h0⟩, ?_⟩
  rintro i m σ2 H2 ⟨rfl, hi, α2, ρ2, R2, i2⟩
  obtain ⟨w1, w2⟩ := w (MM M0 ρ2 α2) H2 fun p hp => R2.gh p (List.mem_append_left _ hp)
  by_cases hlt : i < ds.length
  · obtain ⟨g1, g2⟩ := w1 i ds[i] (List.getElem?_eq_getElem hlt)
    refine .inr ⟨g1, fun σ' H' => ∃ α ρ, Rep X.K M0 H0 (gs ++ γ) α ρ σ' H' ∧ I (i + 1) ρ, fun σ' H' ⟨α', ρ', R', i'⟩ => ⟨ds.length - (i + 1), by omega, rfl, hlt, α', ρ', R', i'⟩, fun y H' hy => ?_⟩
    obtain ⟨s2, dd⟩ := g2 y H' hy
    obtain ⟨ρ3, g, wb⟩ := ht i _ ρ2 (List.getElem?_eq_getElem hlt) i2
    exact g M0 H0 _ α2 σ2 _ y _ (R2.next s2) dd fun σ' R3 => bodyTo Rep.unghosts R3 wb
  · have e : i = ds.length := by omega
    subst e
    exact .inl ⟨w2, α2, ρ2, R2.unghosts, hd _ i2⟩
end

/-! ### comprehensions -/
def compCx (X : Cx) (N' : List Str) (scope : Scope) (cl : List (Str × Addr)) (C : Addr) (s₀ : Shared) (H₀ : Hp) (fp : List Addr) (pins : List (Addr × Obj)) : Cx :=
  { X with N := N', s₀ := s₀, H₀ := H₀, env := compEnvC scope cl C X.env, outer := X.stack, stack := X.stack, ex := fp, fn := fun _ => false, pn := X.pn ++ pins, xe := fun _ _ => False }
/-- what the text of a comprehension must have: its own name first, then the names it takes from around (cells of the def) -/
structure CompOk (X : Cx) (N' : List Str) (js : List Nat) (scope : Scope) (x : Str) (cl : List (Str × Addr)) : Prop where
  clos : closureFor scope X.env = pure cl
  cell : ∀ y ∈ scope.names, y.2 ≠ .cell
  kind : scope.kind = .function
  names : ∀ y ∈ scope.names, y.2 = .local → scope.names.lookup y.1 = some .local
  own : scope.names.lookup x = some .local
  hN : ∃ r, N' = x :: r ∧ r.length = js.length ∧ ∀ (i : Nat) (y : Str) (j : Nat), r[i]? = some y → js[i]? = some j → X.N[j]? = some y ∧ X.env.scope.names.lookup y = some .cell ∧ (relabel scope X.env).names.lookup y = some .cell ∧ ∀ c, X.env.cells.lookup y = some c → cl.lookup y = some c
  sub : ∀ y c, cl.lookup y = some c → X.env.cells.lookup y = some c
  has : ∀ y, ((relabel scope X.env).names.lookup y = some .cell ∨ (relabel scope X.env).names.lookup y = some .free) → ∃ c, cl.lookup y = some c

section
variable {X : Cx} {pins : List (Addr × Obj)} {σ : St} {H H' : Hp} {s : Shared} {N' : List Str} {js : List Nat} {scope : Scope} {x : Str} {cl : List (Str × Addr)} {px pos : Pos} {elt iter : Expr}
theorem stk_not (I : Inv X pins σ H s) {b : Addr} (h1 : b ≠ X.env.locals) (h2 : b ∉ X.fs) : b ∉ frs X.stack := fun z => by
  rcases List.mem_cons.mp (I.stkSub b z) with e | e
  · exact h1 e
  · exact h2 e
/-- the block's context stands -/
theorem CompOk.cx (ok : CompOk X N' js scope x cl) (I : Inv X pins σ H s) {fp : List Addr} (hf : ∀ b ∈ fp, FpOk X pins H b) (ho : ∀ b ∈ fp, b < s.heap.objs.size) :
    (compCx X N' scope cl s.heap.objs.size s H fp pins).Ok where
  mod := I.ok.mod
  kind := ok.kind
  glob := I.ok.glob
  blt := I.ok.blt
  above := Nat.le_refl _
  inj := fun y z c h1 h2 => I.ok.inj y z c (ok.sub y c h1) (ok.sub z c h2)
  has := fun y h => ok.has y h
  cab := fun y c h _ => absurd (show false = true from h) Bool.false_ne_true
  hd := I.ok.hd
  frames := I.ok.frames
  stk := .inl rfl
  exf := fun b hb => ⟨Nat.ne_of_lt (ho b hb), fun y c e => (hf b hb).2.2.2.2.1 y c (ok.sub y c e)⟩
  bs := I.bs
  bsz := Nat.le_trans I.ok.bsz I.sz
  noex := fun b o e hb => by
    rcases (hf b hb).2.2.2.1 with z | z
    · exact I.ok.noex b o e z
    · exact absurd (Nat.lt_of_lt_of_le (Heap.lt_size e) (Nat.le_trans I.ok.bsz z)) (Nat.lt_irrefl _)
  exfs := fun b hb => stk_not I (hf b hb).2.1 (hf b hb).2.2.1
  funs := I.stack
  frf := I.stkFree
/-- the names' values at the block's entry -/
def capt (σ : St) (js : List Nat) : St := none :: js.map fun j => (σ[j]?).join
theorem CompOk.inv (ok : CompOk X N' js scope x cl) (I : Inv X pins σ H s) {fp : List Addr} (hf : ∀ b ∈ fp, FpOk X pins H b) (ho : ∀ b ∈ fp, b < s.heap.objs.size) {h₁ : Heap} {tk : Nat} {m : Str → Option Value}
    (hn : h₁.Ns s.heap.objs.size m) (k : ∀ b o, s.heap.get? b = some o → h₁.get? b = some o) : Inv (compCx X N' scope cl s.heap.objs.size s H fp pins) [] (capt σ js) H { s with heap := h₁, toks := tk } := by
  obtain ⟨r, rfl, hrl, hr⟩ := ok.hN
  refine ⟨ok.cx I hf ho, rfl, I.bare, Un.kept k, ⟨m, hn, fun i y v h1 h2 _ => ?_⟩, fun y c e => ?_, I.hok.fresh (Nat.le_refl _), fun y c e => I.freeC y c (ok.sub y c e), fun p hp => ?_, I.hok.kept k, ?_⟩
  · cases i with
    | zero => have h2' : (none : Option V) = some v := Option.some.inj h2; cases h2'
    | succ i =>
      have h1' : r[i]? = some y := h1
      have h2' : (js.map fun j => (σ[j]?).join)[i]? = some (some v) := h2
      rw [List.getElem?_map] at h2'
      cases ej : js[i]? with
      | none => rw [ej] at h2'; cases h2'
      | some j =>
        rw [ej] at h2'
        have h3 : (σ[j]?).join = some v := Option.some.inj h2'
        have h4 : σ[j]? = some (some v) := by
          cases e : σ[j]? with
          | none => rw [e] at h3; cases h3
          | some w => rw [e] at h3; exact congrArg some h3
        obtain ⟨q1, q2, q3, q4⟩ := hr i y j h1' ej
        obtain ⟨m0, _, hl⟩ := I.loc
        obtain ⟨u, ru, lk⟩ := hl j y v q1 h4 (.inr (.inl q2))
        refine ⟨u, ru, ?_⟩
        rcases lk with ⟨z, _⟩ | ⟨_, c, e1, o, e2, e3⟩
        · have z' : X.env.scope.names.lookup y = some .local := z
          rw [q2] at z'; cases z'
        · exact .inr ⟨.inl q3, c, q4 c e1, o, k _ _ e2, e3⟩
  · obtain ⟨v, o, e1, e2⟩ := I.cell y c (ok.sub y c e)
    exact ⟨v, o, k _ _ e1, e2⟩
  · have hp' : p ∈ X.pn ++ pins := by
      have z : p ∈ (X.pn ++ pins) ++ [] := hp
      rwa [List.append_nil] at z
    obtain ⟨e, n, ne, nf, d⟩ := I.pin p hp'
    exact ⟨k _ _ e, n, Nat.ne_of_lt (Heap.lt_size e), stk_not I ne nf, d⟩
  · show (none :: js.map fun j => (σ[j]?).join).length = (x :: r).length
    rw [List.length_cons, List.length_map, List.length_cons, hrl]
/-- the block is left: the def's own state -/
theorem CompOk.out (ok : CompOk X N' js scope x cl) (I : Inv X pins σ H s) {fp : List Addr} (hf : ∀ b ∈ fp, FpOk X pins H b) {σ' : St} {s' : Shared} (J : Inv (compCx X N' scope cl s.heap.objs.size s H fp pins) [] σ' H' s') :
    Inv X pins σ H' s' ∧ FpOk X pins H' s.heap.objs.size := by
  have I' : Inv X pins σ H' s' := I.call' (ch := fp) J.os J.base J.hok J.bare fun b hb => ⟨(hf b hb).2.2.2.1, (hf b hb).2.1, (hf b hb).2.2.2.2.1, (hf b hb).2.2.2.2.2⟩
  exact ⟨I', I.fpOk (Nat.le_refl _) J.free⟩
end
end Z
set_option Elab.async false
set_option linter.all false
set_option maxRecDepth 100000
namespace Z
open PySem PySem.Spec PyProof.Rows L2

section
variable {prog : Program} {w : World} {A : Around} {R : Result → Shared → Prop} {s : Shared}
abbrev NoE : Value → Shared → Prop := fun _ _ => False
/-- the loop of a comprehension without a test: what no turn raises -/
theorem comp_loop {elt target iter : Expr} {scope : Scope} {pos : Pos} {it acc : Value} {env : Env} (I : Nat → Shared → Prop)
    (turn : ∀ n s, I n s → wpAny (model prog w) A (pyNext it) (fun r s₁ => match r with
      | none => R (.ok .next) s₁
      | some v => wpAny (model prog w) A (letOwnedTupleGo target it v) (fun _ s₂ => wpAny (model prog w) A (assign target env v) (fun _ s₃ => wpAny (model prog w) A (eval elt env) (fun y s₄ =>
          wpAny (model prog w) A (call (.builtin "list.append") [acc, y]) (fun _ s₅ => ∃ m, m < n ∧ I m s₅) NoE s₄) NoE s₃) NoE s₂) NoE s₁) NoE s) (n : Nat) (h : I n s) :
    codeAny (model prog w) A (.compLoop (.ListComp elt [⟨target, iter, [], 0⟩] scope pos) 0 it acc env) R s := by
  refine codeAny_loop rfl I (fun n s hI => ?_) n h
  show wpAny _ A ((compTurn (.ListComp elt [⟨target, iter, [], 0⟩] scope pos) 0 it acc env).onRaise (fun x => do noteFrame x env; theTreesLotGoes x)) _ _ s
  refine wpAny_noted ?_
  rw [compTurn_list]
  refine wpAny_bind (wpAny_standAt (wpAny_bind (wpAny_mono (turn n s hI) (fun r s₁ h₁ => ?_) fun _ _ z => z.elim)))
  cases r with
  | none => exact wpAny_pure h₁
  | some v =>
    refine wpAny_bind (wpAny_mono h₁ (fun _ s₂ h₂ => ?_) fun _ _ z => z.elim)
    refine wpAny_bind (wpAny_mono h₂ (fun _ s₃ h₃ => wpAny_bind (wpAny_pure ?_)) fun _ _ z => z.elim)
    exact wpAny_bind (wpAny_bind (wpAny_mono h₃ (fun y s₄ h₄ => wpAny_bind (wpAny_mono h₄ (fun _ s₅ h₅ => wpAny_pure (wpAny_pure ⟨rfl, h₅⟩)) fun _ _ z => z.elim)) fun _ _ z => z.elim))
end

/-- the list so far, the heap: between two turns of a comprehension -/
structure CInv (K : Frag) (M : MP) (H1 : Hp) (es : List D) (i : Nat) (D0 : Addr) (ys : List V) (H : Hp) : Prop where
  same : Same H1 H
  at_ : H D0 = some (.lst ys)
  dn : Dns K (fun a => M a ∨ a = D0) H (es.take i) ys

section
variable {X : Cx} {pins : List (Addr × Obj)} {σ : St} {H1 : Hp} {s₂ : Shared} {N' : List Str} {js : List Nat} {scope : Scope} {x : Str} {cl : List (Str × Addr)} {px pos : Pos} {elt iter : Expr} {J : It} {fp : List Addr} {it : Addr} {tn : Nat → Heap → Prop}
  {ds es cs : List D} {gs : List (D × V)} {M : MP} {E : Value → Shared → Prop} {RR : Value → Addr → Result → Shared → Prop}
def capR (d : D) (cs : List D) : Rho := .im d :: cs.map .im
/-- the values that are taken from around -/
def CapOk (K : Frag) (M : MP) (H : Hp) (σ : St) (js : List Nat) (cs : List D) : Prop := js.length = cs.length ∧ ∀ (k j : Nat) (c : D), js[k]? = some j → cs[k]? = some c → ∃ v, σ[j]? = some (some v) ∧ Dn K M H c v
theorem comp_block (ok : CompOk X N' js scope x cl) (hc : X.calm = true) (hnd : N'.Nodup) (I : Inv X pins σ H1 s₂) (T : Turn X.prog X.w X.K (.Name x px) J fp it tn) (st : tn 0 s₂.heap) (hf : ∀ b ∈ fp, FpOk X pins H1 b)
    (hg : ∀ p ∈ gs, Dn X.K M H1 p.1 p.2) (w : Walk X.K J ds gs) (hl : es.length = ds.length) (hsz : ds.length ≤ 1000000) (hcap : CapOk X.K M H1 σ js cs) (hM : ∀ a, M a → H1 a ≠ none)
    (helt : ∀ (C : Addr) (s₀ : Shared) (H₀ : Hp) (i : Nat) (d e : D), ds[i]? = some d → es[i]? = some e → EvD (compCx X N' scope cl C s₀ H₀ fp pins) (capR d cs) elt e)
    (hRR : ∀ (D0 C : Addr) (m : Str → Option Value) (s1 : Shared) (H : Hp) (ys : List V), Inv X pins σ H s1 → s1.heap.Ns C m → FpOk X pins H C → H1 D0 = none → Same H1 H → H D0 = some (.lst ys) → Dns X.K (fun a => M a ∨ a = D0) H es ys → RR (.ref D0) C (.ok .next) s1) :
    wpAny (model X.prog X.w) X.A (newList []) (fun acc s₃ => wpAny (model X.prog X.w) X.A (newFunctionEnv scope X.env.globals cl [] X.env.qual none .none (some X.env)) (fun cenv s₄ =>
      codeAny (model X.prog X.w) X.A (.compStart (.ListComp elt [⟨.Name x px, iter, [], 0⟩] scope pos) 0 (.ref it) acc { cenv with scope := relabel scope X.env }) (RR acc cenv.locals) s₄) E s₃) E s₂ := by
  refine wpAny_newObj_type (wpAny_newFunctionEnv ok.cell (by intro y hy; simp at hy) (fun h₁ hns₁ hsb₁ => ?_) ok.kind)
  dsimp only at hns₁ hsb₁ ⊢
  have hD : H1 s₂.heap.objs.size = none := I.fresh
  have I3 : Inv X pins σ (upd H1 s₂.heap.objs.size (.lst [])) { s₂ with heap := s₂.heap.push { cls := .type "list", data := .seq ([] : List Value).toArray } } := I.lnew (its := []) (t' := s₂.toks) (ys := []) .nil (Nat.zero_le _)
  have obj2 : ∀ b ∈ fp, ∃ o, s₂.heap.get? b = some o := fun b hb => let ⟨o, e, _⟩ := T.obj _ _ st b hb; ⟨o, e⟩
  have lt2 : ∀ b ∈ fp, b < s₂.heap.objs.size := fun b hb => let ⟨o, e⟩ := obj2 b hb; Heap.lt_size e
  have hf3 : ∀ b ∈ fp, FpOk X pins (upd H1 s₂.heap.objs.size (.lst [])) b := fun b hb => ⟨by rw [upd_ne (Nat.ne_of_lt (lt2 b hb))]; exact (hf b hb).1, (hf b hb).2⟩
  generalize hH2 : s₂.heap.push { cls := .type "list", data := .seq ([] : List Value).toArray } = H2 at I3 hns₁ hsb₁ ⊢
  have sz3 : H2.objs.size = s₂.heap.objs.size + 1 := by rw [← hH2, Heap.size_push]
  have lt3 : ∀ b ∈ fp, b < H2.objs.size := fun b hb => by rw [sz3]; exact Nat.lt_succ_of_lt (lt2 b hb)
  have k1 : ∀ b o, H2.get? b = some o → h₁.get? b = some o := fun b o e => hsb₁.extBut b o (Nat.ne_of_lt (Heap.lt_size e)) (Heap.get?_push_of_some _ e)
  have k2 : ∀ b o, s₂.heap.get? b = some o → h₁.get? b = some o := fun b o e => k1 b o (by rw [← hH2]; exact Heap.get?_push_of_some _ e)
  have I4 := ok.inv (tk := s₂.toks + ([] : List (Str × Value)).length) I3 hf3 lt3 hns₁ k1
  have st4 : tn 0 h₁ := T.keep _ _ _ st fun b hb o e => k2 b o e
  generalize hX : compCx X N' scope cl H2.objs.size { s₂ with heap := H2 } (upd H1 s₂.heap.objs.size (.lst [])) fp pins = X' at I4
  have hfp : ∀ (H : Hp), (∀ b ∈ fp, H b = none) → ∀ b ∈ fp, FpOk X' [] H b := fun H hn b hb => by
    subst hX
    refine ⟨hn b hb, Nat.ne_of_lt (lt3 b hb), stk_not I3 (hf3 b hb).2.1 (hf3 b hb).2.2.1, .inl hb, fun y c e => (hf3 b hb).2.2.2.2.1 y c (ok.sub y c e), fun p hp => ?_⟩
    have z : p ∈ (X.pn ++ pins) ++ [] := hp
    rw [List.append_nil] at z
    exact (hf3 b hb).2.2.2.2.2 p z
  have out : ∀ (H : Hp) (s1 : Shared) (σ' : St), Inv X' [] σ' H s1 → Inv X pins σ H s1 ∧ FpOk X pins H H2.objs.size := fun H s1 σ' J => by
    subst hX
    exact ok.out I3 hf3 J
  have elt' : ∀ (i : Nat) (d e : D), ds[i]? = some d → es[i]? = some e → EvD X' (capR d cs) elt e := fun i d e h1 h2 => by
    subst hX
    exact helt _ _ _ i d e h1 h2
  have env' : X'.env = compEnvC scope cl H2.objs.size X.env := by rw [← hX]; rfl
  have N0 : X'.N = N' := by rw [← hX]; rfl
  have p1 : X'.prog = X.prog := by rw [← hX]; rfl
  have p2 : X'.w = X.w := by rw [← hX]; rfl
  have p3 : X'.K = X.K := by rw [← hX]; rfl
  have p4 : X'.calm = true := by rw [← hX]; exact hc
  have p5 : X'.A = X.A := by rw [← hX]; rfl
  have p6 : X'.xe = NoE := by rw [← hX]; rfl
  clear hX
  obtain ⟨r0, er0, hrl, hr⟩ := ok.hN
  have hN0 : X'.N[0]? = some x := by rw [N0, er0]; rfl
  have hLoc : X'.env.scope.names.lookup x = some .local := by rw [env']; exact lookup_relabel_local ok.own
  have hMD : ∀ a, (M a ∨ a = s₂.heap.objs.size) → ∀ H, Same H1 H → (∃ ys, H s₂.heap.objs.size = some (.lst ys)) → H a ≠ none := fun a ha H sm hD' z => by
    rcases ha with ha | rfl
    · exact hM a ha (sm.free z)
    · obtain ⟨ys, e⟩ := hD'
      rw [z] at e; cases e
  have loop : ∀ s₃ : Shared, s₃ = { s₂ with heap := h₁, toks := s₂.toks + ([] : List (Str × Value)).length } →
      codeAny (model X.prog X.w) X.A (.compLoop (.ListComp elt [⟨.Name x px, iter, [], 0⟩] scope pos) 0 (.ref it) (.ref s₂.heap.objs.size) (compEnvC scope cl H2.objs.size X.env)) (RR (.ref s₂.heap.objs.size) H2.objs.size) s₃ := by
    intro s₃ es3
    refine comp_loop (fun n s' => ∃ (i : Nat) (ys : List V) (H : Hp) (σ' : St), n = ds.length - i ∧ i ≤ ds.length ∧ Inv X' [] σ' H s' ∧ (∃ ov, σ' = ov :: (capt σ js).tail) ∧ tn i s'.heap ∧ (∀ b ∈ fp, H b = none) ∧ CInv X.K M H1 es i s₂.heap.objs.size ys H) ?_ ds.length
      ⟨0, [], _, _, rfl, Nat.zero_le _, by rw [es3]; exact I4, ⟨none, rfl⟩, by rw [es3]; exact st4, fun b hb => (hf3 b hb).1, same_new hD, upd_same, by rw [List.take_zero]; exact rfl⟩
    rintro n s' ⟨i, ys, H, σ', rfl, hi, Iv, ⟨ov, eσ⟩, sti, fri, ci⟩
    have gsH : ∀ p ∈ gs, Dn X.K (fun a => M a ∨ a = s₂.heap.objs.size) H p.1 p.2 := fun p hp => ((hg p hp).re fun a m => m.elim .inl fun z => .inr (by rw [z]; exact hD)).same ci.same
    obtain ⟨w1, w2⟩ := w _ H gsH
    have item := T.item X' p1 p2 p3 p4 i [] s' σ' H NoE Iv (hfp H fri) sti
    have done := T.done X' p1 p2 p3 p4 i [] s' σ' H NoE Iv (hfp H fri) sti
    rw [p5] at item done
    by_cases hlt : i < ds.length
    · obtain ⟨g1, g2⟩ := w1 i ds[i] (List.getElem?_eq_getElem hlt)
      refine thn (item g1) fun r s4 ⟨u, hr', h4⟩ => ?_
      subst hr'
      refine thn h4 fun _ s5 ⟨y, H5, I5, r5, y5, st5, fr5⟩ => ?_
      obtain ⟨sm5, d5⟩ := g2 y H5 y5
      have I5' := I5.pinned (hfp H5 fr5) (T.obj _ _ st5)
      have asg := pg_name (X := X') (pos := px) (i := 0) (by rw [N0]; exact hnd) hN0 (.inl hLoc) (.inr hLoc) _ s5 σ' H5 y u (fun σ6 H6 => σ6 = σ'.set 0 (some y) ∧ H6 = H5) I5' r5 ⟨rfl, rfl⟩
      rw [p1, p2, p5, p6, env'] at asg
      refine thn asg fun _ s6 ⟨σ6, H6, I6, e6, e6'⟩ => ?_
      subst e6 e6'
      have ei : es[i]? = some (es[i]'(by rw [hl]; exact hlt)) := List.getElem?_eq_getElem _
      have ev := elt' i _ _ (List.getElem?_eq_getElem hlt) ei
      have sm15 : Same H1 H6 := ci.same.trans sm5
      have hD5 : H6 s₂.heap.objs.size = some (.lst ys) := sm5 _ _ ci.at_
      have Rp : Rep X'.K (fun a => M a ∨ a = s₂.heap.objs.size) H6 [] (fun _ => 0) (capR ds[i] cs) (σ'.set 0 (some y)) H6 := by
        refine ⟨Same.refl _, fun a ha => hMD a ha H6 sm15 ⟨ys, hD5⟩, fun k l fs gs' e1 => ?_, fun k d0 e1 => ?_, fun k fs e1 => ?_, (fun p hp => by cases hp), ?_⟩
        · exfalso
          unfold capR at e1
          cases k with
          | zero => cases Option.some.inj e1
          | succ k =>
            rw [List.getElem?_cons_succ, List.getElem?_map] at e1
            cases z : cs[k]? with
            | none => rw [z] at e1; cases e1
            | some c => rw [z] at e1; cases Option.some.inj e1
        · have mmM : ∀ a, MM (fun a => M a ∨ a = s₂.heap.objs.size) (capR ds[i] cs) (fun _ => 0) a → (M a ∨ a = s₂.heap.objs.size) := fun a ha => by
            rcases ha with ha | ⟨k', fs, e2, _⟩
            · exact ha
            · exfalso
              unfold capR at e2
              cases k' with
              | zero => cases Option.some.inj e2
              | succ k' =>
                rw [List.getElem?_cons_succ, List.getElem?_map] at e2
                cases z : cs[k']? with
                | none => rw [z] at e2; cases e2
                | some c => rw [z] at e2; cases Option.some.inj e2
          subst eσ
          unfold capR at e1
          cases k with
          | zero =>
            have z : Sl.im ds[i] = Sl.im d0 := Option.some.inj e1
            cases z
            refine ⟨y, rfl, ?_⟩
            rw [p3]
            exact d5.less mmM
          | succ k =>
            rw [List.getElem?_cons_succ, List.getElem?_map] at e1
            cases z : cs[k]? with
            | none => rw [z] at e1; cases e1
            | some c =>
              rw [z] at e1
              have z' : Sl.im c = Sl.im d0 := Option.some.inj e1
              have hk : k < js.length := by rw [hcap.1]; exact (List.getElem?_eq_some_iff.mp z).1
              obtain ⟨v, hv, dv⟩ := hcap.2 k js[k] c (List.getElem?_eq_getElem hk) z
              cases z'
              refine ⟨v, ?_, ?_⟩
              · show (js.map fun j => (σ[j]?).join)[k]? = some (some v)
                rw [List.getElem?_map, List.getElem?_eq_getElem hk]
                show some (σ[js[k]]?).join = _
                rw [hv]
                rfl
              · rw [p3]
                exact (((dv.re fun a m => m.elim .inl fun q => .inr (by rw [q]; exact hD)).same sm15)).less mmM
        · exfalso
          unfold capR at e1
          cases k with
          | zero => cases Option.some.inj e1
          | succ k =>
            rw [List.getElem?_cons_succ, List.getElem?_map] at e1
            cases z : cs[k]? with
            | none => rw [z] at e1; cases e1
            | some c => rw [z] at e1; cases Option.some.inj e1
        · subst eσ
          rw [List.length_set]
          show (js.map fun j => (σ[j]?).join).length + 1 = (cs.map Sl.im).length + 1
          rw [List.length_map, List.length_map, hcap.1]
      have evw := ev _ H6 [] (fun _ => 0) _ H6 (fun v H' => Same H6 H' ∧ Dn X.K (fun a => M a ∨ a = s₂.heap.objs.size) H' (es[i]'(by rw [hl]; exact hlt)) v) Rp (fun v H' sm dn => ⟨sm, by
        rw [p3] at dn
        exact dn.less fun a ha => .inl ha⟩) _ s6 I6
      rw [p1, p2, p5, p6, env'] at evw
      refine thn evw fun yv s7 ⟨v, H7, I7, r7, sm7, dn7⟩ => ?_
      have ap := mt_append (X := X') _ s7 _ H7 (.ref s₂.heap.objs.size) [v] (.ref s₂.heap.objs.size) [yv] (fun _ H8 => H8 = upd H7 s₂.heap.objs.size (.lst (ys ++ [v]))) I7 rfl (.cons r7 .nil)
        ⟨_, ys, v, rfl, rfl, sm7 _ _ hD5, by rw [ci.dn.len, List.length_take]; exact Nat.lt_of_le_of_lt (Nat.le_trans (Nat.min_le_left _ _) (by omega)) (by decide : (1000000 : Nat) < sizeLine), rfl⟩
      rw [p1, p2, p5, p6] at ap
      refine thn ap fun _ s8 ⟨_, H8, I8, _, e8⟩ => ?_
      subst e8
      refine ⟨ds.length - (i + 1), by omega, i + 1, ys ++ [v], _, _, rfl, hlt, I8.unpinned, ⟨some y, by rw [eσ]; rfl⟩,
        T.keep _ _ _ st5 fun b hb o e => (I8.pin (b, o) (List.mem_append_right _ (List.mem_append_right _ (mem_pinsAt hb e)))).1, fun b hb => ?_, ?_⟩
      · obtain ⟨o, e, _⟩ := T.obj _ _ st5 b hb
        exact (I8.pin (b, o) (List.mem_append_right _ (List.mem_append_right _ (mem_pinsAt hb e)))).2.1
      · refine ⟨same_upd_none (sm15.trans sm7) hD, upd_same, ?_⟩
        have kp : Keep (fun a => M a ∨ a = s₂.heap.objs.size) H7 (upd H7 s₂.heap.objs.size (.lst (ys ++ [v]))) := fun b o e n => by
          by_cases hb : b = s₂.heap.objs.size
          · subst hb
            rw [sm7 _ _ hD5] at e; cases e
            exact absurd (.inr rfl) (n _ rfl)
          · rw [upd_ne hb]; exact e
        rw [List.take_add_one, ei]
        exact (Dns.app (ci.dn.same (sm5.trans sm7)) (Dns.one dn7)).keep kp
    · have e : i = ds.length := by omega
      subst e
      refine thn (done w2) fun r s4 ⟨hr', I5⟩ => ?_
      subst hr'
      obtain ⟨o1, o2⟩ := out H s4 σ' I5
      obtain ⟨m, hn, _⟩ := I5.loc
      rw [env'] at hn
      refine hRR _ _ m s4 H ys o1 hn o2 hD ci.same ci.at_ ?_
      have := ci.dn
      rw [← hl, List.take_length] at this
      exact this
  exact codeAny_compStart_list (loop _ rfl) (T.self X.A 0 _ _ _ st4 (loop _ rfl))
/-- how the names that are taken from around stand there -/
def CapR (ρ : Rho) (js : List Nat) (cs : List D) : Prop := js.length = cs.length ∧ ∀ (k j : Nat) (c : D), js[k]? = some j → cs[k]? = some c → ρ[j]? = some (.im c)
theorem CapR.ok {K : Frag} {M0 : MP} {H0 H H' : Hp} {γ : List (D × V)} {α : Nat → Addr} {ρ : Rho} {σ : St} (h : CapR ρ js cs) (R : Rep K M0 H0 γ α ρ σ H) (s : Same H H') : CapOk K (MM M0 ρ α) H' σ js cs :=
  ⟨h.1, fun k j c e1 e2 => let ⟨v, q1, q2⟩ := R.im j c (h.2 k j c e1 e2); ⟨v, q1, q2.same s⟩⟩
theorem mm_there {K : Frag} {M0 : MP} {H0 H H' : Hp} {γ : List (D × V)} {α : Nat → Addr} {ρ : Rho} {σ : St} (R : Rep K M0 H0 γ α ρ σ H) (s : Same H H') : ∀ a, MM M0 ρ α a → H' a ≠ none := fun a ha z => by
  have z' := s.free z
  rcases ha with ha | ⟨i, ds, e, rfl⟩
  · exact R.old a ha (R.same.free z')
  · obtain ⟨_, _, xs, e3, _⟩ := R.mu i ds e
    rw [z'] at e3; cases e3
theorem EvF.comp {ρ : Rho} (ok : CompOk X N' js scope x cl) (hc : X.calm = true) (hnd : N'.Nodup) (hs : IvD X ρ (.Name x px) iter ds) (hcs : CapR ρ js cs) (hl : es.length = ds.length) (hsz : ds.length ≤ 1000000)
    (helt : ∀ (C : Addr) (s₀ : Shared) (H₀ : Hp) (fp : List Addr) (pins : List (Addr × Obj)) (i : Nat) (d e : D), ds[i]? = some d → es[i]? = some e → EvD (compCx X N' scope cl C s₀ H₀ fp pins) (capR d cs) elt e)
    (hfi : ∀ v, foldedSetIterable iter X.env v = pure v := by intro _; rfl) : EvF X ρ (.ListComp elt [⟨.Name x px, iter, [], 0⟩] scope pos) es := fun M0 H0 γ α σ H Q R k pins s I => by
  rw [eval_ListComp]
  refine wpAny_comprehension_free (use := none) rfl hfi ok.clos ok.kind ok.names ?_
  have h := hs M0 H0 γ α σ H (fun J H1 => ∃ gs, Same H H1 ∧ (∀ p ∈ gs, Dn X.K (MM M0 ρ α) H1 p.1 p.2) ∧ Walk X.K J ds gs) R (fun J H1 gs s g w => ⟨gs, s, g, w⟩) pins s I
  refine thn h fun v s1 h1 => thn h1 fun itv s2 ⟨it, fp, tn, J, H1, e, I2, T, st, f, gs, sm, hg, w⟩ => ?_
  subst e
  refine comp_block ok hc hnd I2 T st f hg w hl hsz (hcs.ok R sm) (mm_there R sm) (fun C s₀ H₀ i d e => helt C s₀ H₀ fp pins i d e) fun D0 C m s1 H2 ys I1 hn fo hD sm1 ha dn => ?_
  exact ⟨m, hn, fun h' sb => ⟨.ref D0, H2, I1.turned (t' := s1.toks) (fun b o hb e => sb.extBut b o hb e) fo.1 fo.2.1 fo.2.2.2.1 fo.2.2.2.2.1 fo.2.2.2.2.2, rfl, k D0 ys H1 H2 sm hD sm1 ha dn⟩⟩
end
end Z
set_option Elab.async false
set_option linter.all false
set_option maxRecDepth 100000
namespace Z
open PySem PySem.Spec PyProof.Rows L2

/-! ### what a def promises, by data -/
def pureSp (K : Frag) {ι : Type} (args : ι → List D) (pre : ι → Prop) (res : ι → Except Addr D) : Sp := fun vs H Q E =>
  ∃ (i : ι) (M0 : MP), (∀ a, M0 a → H a ≠ none) ∧ Dns K M0 H (args i) vs ∧ pre i ∧ (∀ d, res i = .ok d → ∀ v H', Same H H' → Dn K M0 H' d v → Q v H') ∧ (∀ C, res i = .error C → ∀ a H', Same H H' → E (.ref C) a H')
structure FnD (P : Program) (w : World) (K : Frag) (mg : Str → Option Value) (base : Heap) (CX : CXT) (k : Nat) (x : Str) {ι : Type} (args : ι → List D) (pre : ι → Prop) (res : ι → Except Addr D) : Prop where
  ex : ∃ (f : Addr) (fd : FuncData) (ps : List Str), FnOk P w K mg base CX k f fd ps (pureSp K args pre res) ∧ mg x = some (.ref f) ∧ PySem.W.keepIn K (.ref f) = true ∧ Binds K fd ps []
def D.noL : Nat → D → Prop
  | _, .non => True
  | _, .bl _ => True
  | _, .int _ => True
  | _, .str _ => True
  | n + 1, .tup ds => ∀ d ∈ ds, D.noL n d
  | _, _ => False
section
variable {X : Cx} {ρ : Rho} {e : Expr} {es : List Expr} {d : D} {pos p : Pos} {CX : CXT} {k : Nat} {x : Str} {ι : Type} {args : ι → List D} {pre : ι → Prop} {res : ι → Except Addr D}
theorem EvD.call (F : FnD X.prog X.w X.K X.mg X.base CX k x args pre res) (hr : Room k X.A) (hx : Passes CX X E0) (hg : Gl X x) (i : ι) (ha : AvD X ρ (e :: es) (args i)) (hp : pre i) (hres : res i = .ok d) (hdb : (x == ("__debug__" : Str)) = false := by decide)
    (he : starEach (e :: es) X.env = (false, eval e X.env) :: starEach es X.env := by rfl) (hpl : (backTo pos (starEach es X.env)).any (·.1) = false := by rfl) : EvD X ρ (.Call (.Name x p) (e :: es) [] pos) d := fun M0 H0 γ α σ H Q R kk => by
  obtain ⟨f, fd, ps, F, hm, hk, hb⟩ := F.ex
  refine (pe_call F hr hg hm hk hb .nil hx paA hdb he hpl).to (ha M0 H0 γ α σ H _ R fun vs H1 s1 d1 => ?_)
  show pureSp X.K args pre res (vs ++ []) H1 Q E0
  rw [List.append_nil]
  exact ⟨i, MM M0 ρ α, mm_there R s1, d1, hp, fun d' e v H2 s2 dn => by rw [hres] at e; cases e; exact kk v H2 (s1.trans s2) dn, fun C e => by rw [hres] at e; cases e⟩
end
section
variable {X : Cx} {ρ : Rho} {e : Expr} {ds : List D} {pos p : Pos}
theorem EvD.lenL (hg : Gl X "len") (hm : X.mg "len" = none) (h : EvR X ρ e (.lst ds)) (he : starEach [e] X.env = [(false, eval e X.env)] := by rfl) : EvD X ρ (.Call (.Name "len" p) [e] [] pos) (.int ds.length) := EvD.len hg hm h rfl he
theorem EvD.tupleL (hg : Gl X "tuple") (hm : X.mg "tuple" = none) (h : EvR X ρ e (.lst ds)) (he : starEach [e] X.env = [(false, eval e X.env)] := by rfl) : EvD X ρ (.Call (.Name "tuple" p) [e] [] pos) (.tup ds) := EvD.tuple hg hm (by decide +kernel) h rfl he
end
theorem atI_map {α β : Type} (g : α → β) (xs : List α) (k : Int) : atI (xs.map g) k = (atI xs k).map g := by
  unfold atI
  rw [List.length_map]
  cases ixN xs.length k with
  | none => rfl
  | some j => show (xs.map g)[j]? = (xs[j]?).map g; rw [List.getElem?_map]
theorem atI_in {α : Type} {xs : List α} {k : Int} {j : Nat} (hk : k = (j : Int)) (h : j < xs.length) : atI xs k = some xs[j] := by
  subst hk; exact atI_nat (List.getElem?_eq_getElem h)
/-- the names' data at the entry -/
def rho0 (N : List Str) (ds : List D) : Rho := ds.map .im ++ List.replicate (N.length - ds.length) .un
section
variable {P : Program} {w : World} {K : Frag} {mg : Str → Option Value} {base : Heap} {CX : CXT} {k : Nat} {x qual : Str} {st : Stmt} {f : Addr} {fd : FuncData} {N ps : List Str} {ι : Type} {args : ι → List D} {pre : ι → Prop} {res : ι → Except Addr D}
theorem rep0 {ds : List D} {vs : List V} {M0 : MP} {H : Hp} {α : Nat → Addr} (hM : ∀ a, M0 a → H a ≠ none) (h : Dns K M0 H ds vs) : Rep K M0 H [] α (rho0 N ds) (L2.start N vs) H := by
  have hl := h.len
  have get : ∀ (i : Nat) (s : Sl), (rho0 N ds)[i]? = some s → (∃ d, ds[i]? = some d ∧ s = .im d) ∨ s = .un := fun i s e => by
    unfold rho0 at e
    by_cases hi : i < ds.length
    · rw [List.getElem?_append_left (by simpa using hi), List.getElem?_map, List.getElem?_eq_getElem hi] at e
      exact .inl ⟨_, List.getElem?_eq_getElem hi, (Option.some.inj e).symm⟩
    · rw [List.getElem?_append_right (by simpa using hi), List.getElem?_replicate] at e
      split at e
      · exact .inr (Option.some.inj e).symm
      · cases e
  refine ⟨Same.refl _, hM, fun i j es fs e1 => ?_, fun i d e => ?_, fun i es e => ?_, (fun p hp => by cases hp), ?_⟩
  · rcases get i _ e1 with ⟨_, _, z⟩ | z <;> cases z
  · rcases get i _ e with ⟨d', e1, z⟩ | z
    · cases z
      obtain ⟨v, q1, q2⟩ := h.get e1
      have hi : i < vs.length := (List.getElem?_eq_some_iff.mp q1).1
      refine ⟨v, ?_, q2.less fun a z => ?_⟩
      · unfold L2.start
        rw [List.getElem?_append_left (by simpa using hi), List.getElem?_map, q1]
        rfl
      · rcases z with z | ⟨j, es, e2, _⟩
        · exact z
        · rcases get j _ e2 with ⟨_, _, z⟩ | z <;> cases z
    · cases z
  · rcases get i _ e with ⟨_, _, z⟩ | z <;> cases z
  · unfold L2.start rho0
    simp only [List.length_append, List.length_map, List.length_replicate, hl]
/-- a def that raises nothing -/
theorem fnD_of (F : Fun K x qual st f fd) (S : FnScope N ps (defScope st)) (hm : mg x = some (.ref f)) (hb : Binds K fd ps []) (hl : ∀ i, (args i).length = ps.length)
    (body : ∀ (cdv : Value) (A : Around) (outer : List Env) (s : Shared) (H : Hp) (E : XK) (i : ι) (M0 : MP), pre i → Room k (A.deeper (envOfC qual (defScope st) s.heap.objs.size f cdv)) →
      ∃ d, res i = .ok d ∧ WS (cxOf CX P w K mg base N qual (defScope st) f cdv A outer s H E).nox M0 H (defBody st) (rho0 N (args i)) { N := fun _ => d = .non, R := fun d' => d' = d }) : FnD P w K mg base CX (k + 1) x args pre res := by
  refine ⟨f, fd, ps, ?_, hm, F.kp, hb⟩
  obtain ⟨oc, od, kV, doc, pm, an, cdv, ct, osl, rfl, lk, hcd⟩ := F.ex
  refine fn_of lk hcd S (fun vs H Q E ⟨i, M0, _, h, _⟩ => by rw [h.len, hl]) fun A outer s H vs Q E hr hsp => ?_
  obtain ⟨i, M0, hM, h, hp, k1, k2⟩ := hsp
  obtain ⟨d, hd, ws⟩ := body cdv A outer s H E i M0 hp hr
  refine ⟨tSs _ (defBody st), (psSs (X := (cxOf CX P w K mg base N qual (defScope st) f cdv A outer s H E).nox)).nox, ?_⟩
  refine tSs.mono (En := ends K M0 H [] { N := fun _ => d = .non, R := fun d' => d' = d }) (fun σ' H' ⟨α, ρ, R, e⟩ => ?_) (fun v H' ⟨d', e, sm, dn⟩ => ?_) (fun _ _ ⟨_, _, _, z⟩ => z.elim) (fun _ _ ⟨_, _, _, z⟩ => z.elim) (ws [] (fun _ => 0) _ H (rep0 hM h))
  · exact k1 d hd .non H' R.same (by rw [e]; exact rfl)
  · subst e
    exact k1 _ hd v H' sm dn
end
end Z
set_option Elab.async false
set_option linter.all false
set_option maxRecDepth 100000
namespace Z
open PySem PySem.Spec PyProof.Rows L2

/-! ### isinstance -/
def tyN : D → String
  | .non => "NoneType"
  | .bl _ => "bool"
  | .int _ => "int"
  | .str _ => "str"
  | .tup _ => "tuple"
  | .lst _ => "list"
  | .ins _ _ _ => ""
  | .exc _ => ""
def plainD : D → Bool
  | .ins _ _ _ => false
  | .exc _ => false
  | _ => true
def isT (T : String) (d : D) : Bool := tyN d == T || (T == "int" && tyN d == "bool")
section
variable {K : Frag}
theorem kit_ty {d : D} {T : String} (hp : plainD d = true) (hT : T = "int" ∨ T = "bool" ∨ T = "str" ∨ T = "tuple" ∨ T = "list") : PySem.W.kitOne K (.type (tyN d)) (.type T) = some (isT T d) := by
  rcases hT with rfl | rfl | rfl | rfl | rfl <;> cases d <;> first | rfl | (cases hp)
end
section
variable {X : Cx} {ρ : Rho} {M0 : MP} {H0 : Hp} {P : Post} {e a b : Expr} {es : List Expr} {d : D} {ds : List D} {pos p p2 : Pos}
theorem isi_ok {pins : List (Addr × Obj)} {σ : St} {H : Hp} {s : Shared} {M : MP} {v : V} {u c : Value} {r : Bool} {Q : Value → Shared → Prop} {E : Value → Shared → Prop} {A : Around} (I : Inv X pins σ H s) (h : DnT X.K M H d v) (rv : RelV v u) (hp : plainD d = true)
    (e : PySem.W.kitOne X.K (.type (tyN d)) c = some r) (k : ∀ tk, Q (.bool r) { s with toks := tk }) : wpAny (model X.prog X.w) A (call (.builtin "isinstance") [u, c]) Q E s := by
  cases d with
  | non => cases (show v = .non from h); cases (show u = Value.none from rv); exact PySem.W.kia_one PySem.W.kitx_none I.kIn True.intro e (fun z => nomatch z) k
  | bl y => cases (show v = .bl y from h); cases (show u = Value.bool y from rv); exact PySem.W.kia_one PySem.W.kitx_bool I.kIn True.intro e (fun z => nomatch z) k
  | int i => cases (show v = .int i from h); obtain ⟨t, q⟩ := (show ∃ t, u = Value.int i t from rv); cases q; exact PySem.W.kia_one PySem.W.kitx_int I.kIn True.intro e (fun z => nomatch z) k
  | str y => cases (show v = .str y from h); obtain ⟨t, q⟩ := (show ∃ t, u = Value.str y t from rv); cases q; exact PySem.W.kia_one PySem.W.kitx_str I.kIn True.intro e (fun z => nomatch z) k
  | tup ds =>
    obtain ⟨a, xs, rfl, sq, _⟩ := h
    cases (show u = Value.ref a from rv)
    obtain ⟨its, _, ⟨o, h1, h2, _⟩, _⟩ := I.tuple sq
    exact PySem.W.kia_one PySem.W.kitx_tuple I.kIn ⟨o, h1, h2⟩ e (fun z => nomatch z) k
  | lst ds =>
    obtain ⟨a, xs, rfl, sq, _⟩ := h
    cases (show u = Value.ref a from rv)
    obtain ⟨its, _, ⟨o, n, h1, h2, _⟩, _⟩ := I.list sq
    exact PySem.W.kia_one PySem.W.kitx_list I.kIn ⟨o, h1, h2⟩ e (fun z => nomatch z) k
  | _ => cases hp
def rIsi (K : Frag) : List V → Hp → VK → Prop := fun xs H Q => ∃ v T M d, xs = [v, .ty T] ∧ DnT K M H d v ∧ plainD d = true ∧ (T = "int" ∨ T = "bool" ∨ T = "str" ∨ T = "tuple" ∨ T = "list") ∧ Q (.bl (isT T d)) H
theorem call_isi : CallR X (.builtin "isinstance") (rIsi X.K) := by
  intro pins s σ H xs us Q I r ⟨v, T, M, d, e, h, hp, hT, q⟩
  subst e
  obtain ⟨u, c, rfl, r1, r2⟩ := vals2 r
  cases (show c = Value.type T from r2)
  exact isi_ok I h r1 hp (kit_ty hp hT) fun tk => ⟨.bl _, H, I.tok tk, rfl, q⟩
theorem EvD.isi {T : String} {x : Str} (hg : Gl X "isinstance") (hm : X.mg "isinstance" = none) (hgT : Gl X x) (hmT : X.mg x = none) (hv : bootBuiltins x = some (.type T)) (hT : T = "int" ∨ T = "bool" ∨ T = "str" ∨ T = "tuple" ∨ T = "list") (h : EvR X ρ e d) (hp : plainD d = true)
    (he : starEach [e, .Name x p2] X.env = (false, eval e X.env) :: starEach [.Name x p2] X.env := by rfl) (he2 : starEach [.Name x p2] X.env = [(false, eval (.Name x p2) X.env)] := by rfl) (hpl : (backTo pos (starEach [.Name x p2] X.env)).any (·.1) = false := by rfl)
    (hn : x ≠ "__name__" := by decide) (hd : (x == ("__debug__" : Str)) = false := by decide) : EvD X ρ (.Call (.Name "isinstance" p) [e, .Name x p2] [] pos) (.bl (isT T d)) := fun M0 H0 γ α σ H Q R k =>
  (pe_callB call_isi hg hm boot_isinstance (pa_cons peE (pa_cons (pe_bltn (v := .ty T) hgT hmT hv rfl hn hd) pa_nil he2) he) (by decide) (by decide) he hpl).to (h M0 H0 γ α σ H _ R fun v H1 s1 d1 => ⟨v, T, _, d, rfl, d1, hp, hT, k _ H1 s1 rfl⟩)

/-! ### len(set(..)) of ints -/
def dN (ns : List Int) : Nat := (firstMet (fun i => ns.getD i 0) ns.length).length
/-! ### list + list -/
theorem op_catL : OpR X (binaryOp .Add) (rCatL X.K) := by
  intro pins s σ H x y v u Q I rx ry h
  obtain ⟨l, b, xs, zs, rfl, rfl, hH, hB, hz, q⟩ := h
  cases rx
  cases ry
  obtain ⟨its, r, ⟨⟨oc, od, odt, osl⟩, n, e1, ec, ed, edt⟩, _⟩ := I.list hH
  obtain ⟨its2, r2, ⟨⟨oc2, od2, odt2, osl2⟩, n2, e2, ec2, ed2, edt2⟩, _⟩ := I.list hB
  have hl := r.length
  have hl2 := r2.length
  simp only at ec ed edt ec2 ed2 edt2
  subst ec ed edt ec2 ed2 edt2
  refine concat_meets ⟨_, e1, rfl⟩ ⟨_, e2, rfl⟩ noFill_list_add seq_list_add F.slot_list_add F.entry_list_add (F.args_list_add_2 _ _) (add_meets l b its.toArray its2.toArray n n2 none none osl osl2 (by rw [List.size_toArray, List.size_toArray]; omega)) ⟨e1, e2, ?_⟩
  have ea : its.toArray ++ its2.toArray = (its ++ its2).toArray := by simp
  rw [ea]
  exact ⟨.ref _, _, I.lnew (t' := s.toks) (r.append r2) (by rw [List.length_append]; omega), rfl, q _ I.fresh⟩
theorem EvF.cat {fs : List D} (ha : EvR X ρ a (.lst ds)) (hb : EvR X ρ b (.lst fs)) (hl : ds.length + fs.length ≤ 1000000) : EvF X ρ (.BinOp a .Add b pos) (ds ++ fs) := fun M0 H0 γ α σ H Q R k =>
  (pe_op op_catL peE peE).to (ha M0 H0 γ α σ H _ R fun v H1 s1 d1 => hb M0 H0 γ α σ H1 _ (R.next s1) fun u H2 s2 d2 => by
    obtain ⟨q, xs, rfl, sq, dn⟩ := d1.same s2
    obtain ⟨q2, xs2, rfl, sq2, dn2⟩ := d2
    exact ⟨q, q2, xs, xs2, rfl, rfl, sq, sq2, by rw [dn.len, dn2.len]; exact le_line hl, fun l hl' => k l _ H2 _ (s1.trans s2) hl' (same_new hl') upd_same ((fresh_re hl' (Dns.app dn dn2)).same (same_new hl'))⟩)

/-! ### pop, a place stored, extend -/
end
/-! ### a list or a tuple -/
def sqD (t : Bool) (ds : List D) : D := if t then .tup ds else .lst ds
section
variable {X : Cx} {ρ : Rho} {e a b tg : Expr} {d : D} {ds : List D} {pos p : Pos} {t : Bool}
theorem sq_is (t : Bool) (ds : List D) : isSeq (sqD t ds) ds := by cases t <;> rfl
theorem EvD.tupleS (hg : Gl X "tuple") (hm : X.mg "tuple" = none) (h : EvD X ρ e (sqD t ds)) (he : starEach [e] X.env = [(false, eval e X.env)] := by rfl) : EvD X ρ (.Call (.Name "tuple" p) [e] [] pos) (.tup ds) := EvD.tuple hg hm (by decide +kernel) h.r (sq_is t ds) he
theorem IvD.seq (h : EvD X ρ e (sqD t ds)) : IvD X ρ tg e ds := by
  cases t with
  | true => exact IvD.tup h
  | false => exact IvD.list h
end
/-- a comprehension that takes nothing from around -/
theorem relabel_none {scope : Scope} {env : Env} (h : ∀ y ∈ scope.names, y.2 ≠ .free) : (relabel scope env).names = scope.names := by
  unfold relabel
  dsimp only
  have : ∀ l : List (Str × NameKind), (∀ y ∈ l, y.2 ≠ .free) → (l.map fun (n, k) => if (k == NameKind.free && env.scope.kind == .function && env.kindOf n == some .cell) then (n, NameKind.cell) else (n, k)) = l := by
    intro l
    induction l with
    | nil => intro _; rfl
    | cons y l ih =>
      intro hl
      obtain ⟨n, k⟩ := y
      rw [List.map_cons, ih fun z hz => hl z (.tail _ hz)]
      have hk : (k == NameKind.free) = false := by
        have := hl (n, k) (.head _)
        cases k <;> first | rfl | exact absurd rfl this
      simp [hk]
  exact this _ h
theorem CompOk.closed {X : Cx} {scope : Scope} {x : Str} (hf : ∀ y ∈ scope.names, y.2 ≠ .free) (hc : ∀ y ∈ scope.names, y.2 ≠ .cell) (hk : scope.kind = .function) (hn : ∀ y ∈ scope.names, y.2 = .local → scope.names.lookup y.1 = some .local) (ho : scope.names.lookup x = some .local) :
    CompOk X [x] [] scope x [] where
  clos := closureFor_none hf
  cell := hc
  kind := hk
  names := hn
  own := ho
  hN := ⟨[], rfl, rfl, fun i y j h => by simp at h⟩
  sub := fun y c h => by simp at h
  has := fun y h => by
    rw [relabel_none hf] at h
    rcases h with h | h
    · exact absurd rfl (hc _ (PySem.mem_of_lookup h))
    · exact absurd rfl (hf _ (PySem.mem_of_lookup h))
theorem capNil {ρ : Rho} : CapR ρ [] [] := ⟨rfl, fun k j c h => by simp at h⟩

/-! ### short words -/
theorem IvD.to {X : Cx} {ρ : Rho} {tg e : Expr} {ds ds' : List D} (h : IvD X ρ tg e ds) (q : ds = ds') : IvD X ρ tg e ds' := q ▸ h
section
variable {X : Cx} {ρ : Rho} {x : Str} {d : D} {ds : List D} {pos : Pos}
theorem ltL {i : Nat} {ρ : Rho} (h : Nat.ble (i + 1) ρ.length = true) : i < ρ.length := Nat.le_of_ble_eq_true h
/-- the name in slot i -/
theorem nm (i : Nat) (hN : X.N[i]? = some x) (hρ : ρ[i]? = some (.im d)) (hv : Vis X.env.scope x := by first | exact Or.inl rfl | exact Or.inr (Or.inl rfl) | exact Or.inr (Or.inr rfl)) (hd : (x == ("__debug__" : Str)) = false := by decide) (hcd : (x == ("__classdict__" : Str)) = false := by decide) : EvD X ρ (.Name x pos) d := EvD.name i hN hv hρ hd hcd
theorem nmR (i : Nat) (hN : X.N[i]? = some x) (hρ : ρ[i]? = some (.mu ds)) (hv : Vis X.env.scope x := by first | exact Or.inl rfl | exact Or.inr (Or.inl rfl) | exact Or.inr (Or.inr rfl)) (hd : (x == ("__debug__" : Str)) = false := by decide) (hcd : (x == ("__classdict__" : Str)) = false := by decide) : EvR X ρ (.Name x pos) (.lst ds) := EvR.name i hN hv hρ hd hcd
theorem rngD_get {lo : Int} {n i : Nat} {d : D} (h : (rngD lo n)[i]? = some d) : d = .int (lo + (i : Int)) ∧ i < n := by
  unfold rngD at h
  rw [List.getElem?_map] at h
  cases e : (List.range n)[i]? with
  | none => rw [e] at h; cases h
  | some j =>
    rw [e] at h
    obtain ⟨h1, h2⟩ := List.getElem?_eq_some_iff.mp e
    rw [List.length_range] at h1
    rw [List.getElem_range] at h2
    subst h2
    exact ⟨(Option.some.inj h).symm, h1⟩
theorem rngD_len {lo : Int} {n : Nat} : (rngD lo n).length = n := by unfold rngD; rw [List.length_map, List.length_range]
end
end Z
set_option Elab.async false
set_option linter.all false
set_option maxRecDepth 100000
namespace Z
open PySem PySem.Spec PyProof.Rows L2
section
variable {X : Cx} {ρ : Rho} {M0 : MP} {H0 : Hp} {P : Post} {e a b : Expr} {d : D} {ds : List D} {pos p : Pos}
/-! ### all, any of a list of bools -/
theorem bools_at {K : Frag} {M : MP} {H : Hp} {bs : List Bool} {xs : List V} {its : List Value} (h : Dns K M H (bs.map .bl) xs) (r : Vals xs its) : its = bs.map Value.bool := by
  induction bs generalizing xs its with
  | nil => cases (show xs = [] from h); cases r; rfl
  | cons b bs ih =>
    obtain ⟨v, t, rfl, h1, h2⟩ := h
    cases r with
    | cons r1 r2 =>
      cases (show v = .bl b from h1)
      rw [List.map_cons, ih h2 r2, show _ = Value.bool b from r1]
theorem range_bools (bs : List Bool) (tr : Nat → Bool) (h : ∀ i b, bs[i]? = some b → tr i = b) : (List.range bs.length).all tr = bs.all id ∧ (List.range bs.length).any tr = bs.any id := by
  have e : (List.range bs.length).map tr = bs := by
    apply List.ext_getElem?
    intro i
    rw [List.getElem?_map]
    by_cases hi : i < bs.length
    · rw [List.getElem?_range hi, List.getElem?_eq_getElem hi]
      exact congrArg some (h i _ (List.getElem?_eq_getElem hi))
    · rw [List.getElem?_eq_none (by rw [List.length_range]; omega), List.getElem?_eq_none (by omega)]
      rfl
  constructor
  · rw [← e, List.all_map, e]; rfl
  · rw [← e, List.any_map, e]; rfl
theorem truth_bools {A : Around} (bs : List Bool) : TruthOf X.prog X.w A (fun i v => (bs.map Value.bool)[i]? = some v) (fun i => bs.getD i false) := fun i v s Q E h k => by
  dsimp only at h k
  rw [List.getElem?_map] at h
  cases e : bs[i]? with
  | none => rw [e] at h; cases h
  | some b =>
    rw [e] at h
    cases h
    rw [List.getD_eq_getElem?_getD, e] at k
    exact wpAny_truthy_bool k
theorem call_allB (hc : X.calm = true) : CallR X (.builtin "all") (fun xs H Q => ∃ (q : Addr) (M : MP) (bs : List Bool), xs = [.ref q] ∧ DnT X.K M H (.lst (bs.map .bl)) (.ref q) ∧ Q (.bl (bs.all id)) H) := by
  intro pins s σ H xs us Q I r ⟨q, M, bs, e, hq, k⟩
  subst e
  obtain ⟨u, rfl, rx⟩ := vals1 r
  cases rx
  obtain ⟨q', ys, eq, sq, dn⟩ := hq
  cases eq
  obtain ⟨its, r', pl, hz⟩ := I.list sq
  have hb := bools_at dn r'
  subst hb
  have hlt : q < s.heap.objs.size := by obtain ⟨o, n, e, _⟩ := pl; exact Heap.lt_size e
  refine call_all_walk (wpAny_pyIter_list pl.isList ?_)
  refine ⟨_, _, _, _, _, _, fun i => bs.getD i false, rfl, Walks.list (by simp [I.ok.hd hc]) s.heap.objs.size q (Nat.ne_of_lt hlt) _, ⟨⟨_, Heap.get?_push_size _ rfl, rfl, rfl⟩, pl.isList.push _⟩, ?_, fun h' tk hk => ?_⟩
  · have := truth_bools (X := X) (A := X.A.in1) bs
    intro i v s Q E h
    exact this i v s Q E (by rw [List.getElem?_toArray] at h; exact h)
  · refine ⟨.bl (bs.all id), H, I.kept (t' := tk) (fun b o e => hk b o (by intro z; rw [List.mem_singleton.mp z] at e; exact absurd (Heap.lt_size e) (Nat.lt_irrefl _)) (Heap.get?_push_of_some _ e)), ?_, k⟩
    show _ = Value.bool _
    rw [List.size_toArray, List.length_map, (range_bools bs _ fun i b h => by rw [List.getD_eq_getElem?_getD, h]; rfl).1]
theorem EvD.all {bs : List Bool} (hc : X.calm = true) (hg : Gl X "all") (hm : X.mg "all" = none) (h : EvR X ρ e (.lst (bs.map .bl))) (he : starEach [e] X.env = [(false, eval e X.env)] := by rfl) : EvD X ρ (.Call (.Name "all" p) [e] [] pos) (.bl (bs.all id)) :=
  EvD.callB (call_allB hc) hg hm (by decide +kernel) (AvR.one h he) (fun M H vs Q dn k => by
    obtain ⟨v, r, rfl, e1, e2⟩ := dn
    cases e2
    obtain ⟨q, xs, rfl, sq, z⟩ := id e1
    exact ⟨q, M, bs, rfl, e1, k _ H (Same.refl _) rfl⟩) (he := he)
end
/-! ### tuples: slices, + -/
section
variable {X : Cx} {ρ : Rho} {e a b : Expr} {d : D} {ds : List D} {pos p p2 : Pos}
def rSlTD (K : Frag) : V → Option Int → Option Int → Hp → VK → Prop := fun x lo hi H Q => ∃ a xs, x = .ref a ∧ SqT K H a xs ∧
  (HT.sIx xs.length 0 lo = 0 ∧ HT.sIx xs.length xs.length hi = xs.length → Q (.ref a) H) ∧ (¬ (HT.sIx xs.length 0 lo = 0 ∧ HT.sIx xs.length xs.length hi = xs.length) → ∀ p, H p = none → Q (.ref p) (upd H p (.tup (cutV xs lo hi))))
def cutD (ds : List D) (lo hi : Option Int) : List D := (ds.drop (HT.sIx ds.length 0 lo)).take (HT.sIx ds.length ds.length hi - HT.sIx ds.length 0 lo)
/-- the bounds of a slice -/
def OvD (X : Cx) (ρ : Rho) (e : Option Expr) (o : Option Int) : Prop := match e, o with
  | none, o => o = none
  | some e, o => ∃ i, o = some i ∧ EvD X ρ e (.int i)
theorem OvD.none : OvD X ρ none none := rfl
theorem OvD.some {i : Int} (h : EvD X ρ e (.int i)) : OvD X ρ (some e) (some i) := ⟨i, rfl, h⟩
theorem OvD.run {eo : Option Expr} {o : Option Int} (h : OvD X ρ eo o) : ∃ t, PO X eo t ∧ ∀ (M0 : MP) (H0 : Hp) (γ : List (D × V)) (α : Nat → Addr) (σ : St) (H : Hp) (Q : Option Int → Hp → Prop), Rep X.K M0 H0 γ α ρ σ H → (∀ H', Same H H' → Q o H') → t σ H Q := by
  cases eo with
  | none =>
    cases (show o = Option.none from h)
    exact ⟨_, po_none, fun M0 H0 γ α σ H Q R k => k H (Same.refl _)⟩
  | some e =>
    obtain ⟨i, rfl, h⟩ := h
    exact ⟨_, po_some peE, fun M0 H0 γ α σ H Q R k => h M0 H0 γ α σ H _ R fun v H1 s1 d1 => ⟨i, d1, k H1 s1⟩⟩
/-- tuple + tuple -/
def rCatTD (K : Frag) : R2 := fun x y H Q => ∃ a b xs ys, x = .ref a ∧ y = .ref b ∧ SqT K H a xs ∧ SqT K H b ys ∧ xs.length + ys.length ≤ sizeLine ∧ (xs = [] → Q (.ref b) H) ∧ (xs ≠ [] → ys = [] → Q (.ref a) H) ∧ (xs ≠ [] → ys ≠ [] → ∀ p, H p = none → Q (.ref p) (upd H p (.tup (xs ++ ys))))
end
end Z
set_option Elab.async false
set_option linter.all false
set_option maxRecDepth 100000
namespace Z
open PySem PySem.Spec PyProof.Rows L2

theorem valsGetV : ∀ {xs : List V} {us : List Value} {i : Nat} {u : Value}, Vals xs us → us[i]? = some u → ∃ x, xs[i]? = some x ∧ RelV x u
  | _, _, _, _, .nil, e => by simp at e
  | _, _, 0, _, .cons r _, e => by simp at e; subst e; exact ⟨_, rfl, r⟩
  | _, _, i + 1, u, .cons _ t, e => by
    obtain ⟨x, h1, h2⟩ := valsGetV (i := i) (u := u) t (by simpa using e)
    exact ⟨x, by simpa using h1, h2⟩
theorem valsOf : ∀ {xs : List V} {us : List Value}, xs.length = us.length → (∀ (i : Nat) (x : V) (u : Value), xs[i]? = some x → us[i]? = some u → RelV x u) → Vals xs us
  | [], [], _, _ => .nil
  | [], _ :: _, h, _ => by simp at h
  | _ :: _, [], h, _ => by simp at h
  | x :: xs, u :: us, h, k => .cons (k 0 x u rfl rfl) (valsOf (by simpa using h) fun i y v h1 h2 => k (i + 1) y v (by simpa using h1) (by simpa using h2))
/-! ### texts: the signs one by one -/
def Its (x : Str) : It := ⟨fun i _ => i < x.cps.size, fun i H v H' => H' = H ∧ ∃ c, x.cps[i]? = some c ∧ v = .str ⟨#[c]⟩, fun i _ => x.cps.size ≤ i⟩
theorem turn_str {P : Program} {w : World} {K : Frag} {tg : Expr} (x : Str) (t : Tok) (it : Addr) (ty : String) (hty : ty = "str_ascii_iterator" ∨ ty = "str_iterator") : Turn P w K tg (Its x) [it] it (fun i h => h.IsStrIter it ty x t i) where
  mem := by simp
  obj := fun i h st b hb => by
    have e : b = it := by simpa using hb
    subst e
    obtain ⟨o, e, c, d⟩ := st
    exact ⟨o, e, fun v z => by rw [d] at z; cases z⟩
  keep := fun i h h' st k => let ⟨o, e, r⟩ := st; ⟨o, k it (by simp) o e, r⟩
  item := by
    intro X hP hw hK hc i pins s σ H E I hf st hg
    subst hP hw hK
    obtain ⟨f0, f1, f2, f3, f4, f5⟩ := hf it (by simp)
    have hg' : i < x.cps.size := hg
    have fin : ∀ h', h'.IsStrIter it ty x t (i + 1) → Heap.SameBut it s.heap h' → (∃ u, some (Value.str ⟨#[x.cps[i]]⟩ s.toks) = some u ∧
        wpAny (model X.prog X.w) X.A (letOwnedTupleGo tg (.ref it) u) (fun _ s2 => ∃ y H', Inv X pins σ H' s2 ∧ RelV y u ∧ (Its x).yld i H y H' ∧ s2.heap.IsStrIter it ty x t (i + 1) ∧ ∀ b ∈ [it], H' b = none) E { s with heap := h', toks := s.toks + 1 }) := fun h' st' sb => by
      have I1 : Inv X pins σ H { s with heap := h', toks := s.toks + 1 } := I.turned (t' := s.toks + 1) (fun b o hb e => (sb.2 b hb).trans e) f0 f1 f3 f4 f5
      obtain ⟨o, e, c, d⟩ := id st'
      exact ⟨_, rfl, go_of (s := { s with heap := h', toks := s.toks + 1 }) e c d (by rcases hty with rfl | rfl <;> decide) ⟨.str ⟨#[x.cps[i]]⟩, H, I1, ⟨_, rfl⟩, ⟨rfl, x.cps[i], by simp [hg'], rfl⟩, st', fun b hb => (hf b hb).1⟩⟩
    rcases hty with rfl | rfl
    · exact wpAny_pyNext_ascii_item st (c := x.cps[i]) (by simp [hg']) fun h' st' sb => fin h' st' sb
    · exact wpAny_pyNext_wide_item st (c := x.cps[i]) (by simp [hg']) fun h' st' sb => fin h' st' sb
  done := by
    intro X hP hw hK hc i pins s σ H E I hf st hg
    subst hP hw hK
    obtain ⟨f0, f1, f2, f3, f4, f5⟩ := hf it (by simp)
    have hg' : x.cps.size ≤ i := hg
    rcases hty with rfl | rfl
    · exact wpAny_pyNext_ascii_end (I.ok.hd hc) st (by simp [hg']) fun h' eb => ⟨rfl, I.turned (t' := s.toks) (fun b o hb e => eb b o hb e) f0 f1 f3 f4 f5⟩
    · exact wpAny_pyNext_wide_end (I.ok.hd hc) st (by simp [hg']) fun h' eb => ⟨rfl, I.turned (t' := s.toks) (fun b o hb e => eb b o hb e) f0 f1 f3 f4 f5⟩
  self := fun _ _ _ _ _ st h => by
    rcases hty with rfl | rfl
    · exact wpAny_pyIter_striter_ascii st h
    · exact wpAny_pyIter_striter_wide st h
def iStr (tl : TE) : TI := fun σ H R => tl σ H fun x H1 => ∃ z, x = .str z ∧ R (Its z) H1
section
variable {X : Cx} {tg : Expr}
theorem pi_str {l : Expr} {tl : TE} (hl : PE X l tl) : PI X tg l (iStr tl) := by
  intro pins s σ H R I h
  refine thn (hl pins s σ H _ I h) fun v s1 ⟨x, H1, I1, r1, q1⟩ => ?_
  obtain ⟨z, e, q⟩ := q1
  subst e
  obtain ⟨t, rfl⟩ := r1
  have fin : ∀ ty, (ty = "str_ascii_iterator" ∨ ty = "str_iterator") → PIE X pins σ tg R (.ref s1.heap.objs.size) { s1 with heap := s1.heap.push { cls := .type ty, data := .fields #[.str z t, .int 0 0] } } := fun ty hty => by
    refine ⟨s1.heap.objs.size, [s1.heap.objs.size], _, _, H1, rfl, I1.kept (t' := s1.toks) fun b o e => Heap.get?_push_of_some _ e, turn_str z t _ ty hty, ⟨_, Heap.get?_push_size _ rfl, rfl, rfl⟩, fun b hb => ?_, q⟩
    have e : b = s1.heap.objs.size := by simpa using hb
    subst e
    exact I1.fpOk (Nat.le_refl _) (I1.hok.fresh (Nat.le_refl _))
  cases ha : z.cps.all (· < 128)
  · exact wpAny_pyIter_wide ha (fin _ (.inr rfl))
  · exact wpAny_pyIter_ascii ha (fin _ (.inl rfl))
end
def signs (x : Str) : List D := x.cps.toList.map fun c => D.str ⟨#[c]⟩
theorem signs_len (x : Str) : (signs x).length = x.length := by unfold signs; simp [Str.length]
theorem signs_get {x : Str} {i : Nat} {d : D} (h : (signs x)[i]? = some d) : ∃ c, x.cps.toList[i]? = some c ∧ d = .str ⟨#[c]⟩ := by
  unfold signs at h
  rw [List.getElem?_map] at h
  cases e : x.cps.toList[i]? with
  | none => rw [e] at h; cases h
  | some c => rw [e] at h; exact ⟨c, rfl, (Option.some.inj h).symm⟩
section
variable {X : Cx} {ρ : Rho} {M0 : MP} {H0 : Hp} {P : Post} {e a b o tg : Expr} {es : List Expr} {d : D} {ds : List D} {pos p p2 p3 apos cpos : Pos}
theorem IvD.str {x : Str} (h : EvD X ρ e (.str x)) : IvD X ρ tg e (signs x) := fun M0 H0 γ α σ H R r k => (pi_str peE).to (h M0 H0 γ α σ H _ r fun v H1 s y => by
  refine ⟨x, y, k (Its x) H1 [] s (fun _ hp => nomatch hp) fun M H2 _ => ⟨fun i d hi => ?_, ?_⟩⟩
  · obtain ⟨c, e, rfl⟩ := signs_get hi
    have e' : x.cps[i]? = some c := by simpa using e
    refine ⟨(Array.getElem?_eq_some_iff.mp e').1, fun v H' ⟨h1, c', h2, h3⟩ => ⟨by rw [h1]; exact Same.refl _, ?_⟩⟩
    rw [e'] at h2
    cases h2
    exact h3
  · show x.cps.size ≤ (signs x).length
    rw [signs_len]
    exact Nat.le_refl _)
/-! ### texts: +, index, ==, in, len, str, int -/
theorem EvD.catS {i j : Str} (ha : EvD X ρ a (.str i)) (hb : EvD X ρ b (.str j)) (hl : i.length + j.length ≤ 1000000) : EvD X ρ (.BinOp a .Add b pos) (.str (i ++ j)) :=
  EvD.op2 op_add_str ha.r hb.r fun M H x y Q dx dy k => ⟨i, j, dx, dy, le_line hl, k _ H (Same.refl _) rfl⟩
theorem EvD.ixStr {x : Str} {k : Int} {c : Nat} (ha : EvD X ρ a (.str x)) (hb : EvD X ρ b (.int k)) (hk : atI x.cps.toList k = some c) (hl : x.length ≤ 1000000) (hs : PlainIx b := by intro _ _; rfl) : EvD X ρ (.Subscript a b pos) (.str ⟨#[c]⟩) :=
  fun M0 H0 γ α σ H Q R kk => (pe_ix ix_str peE peE hs).to (ha M0 H0 γ α σ H _ R fun v H1 s1 d1 => hb M0 H0 γ α σ H1 _ (R.next s1) fun u H2 s2 d2 => ⟨x, k, c, d1, d2, le_line hl, hk, kk _ H2 (s1.trans s2) rfl⟩)
theorem dec_vstr {i j : Str} : decide (V.str i = V.str j) = decide (i = j) := by
  by_cases h : i = j
  · subst h; simp
  · rw [decide_eq_false h, decide_eq_false fun q => h (by injection q)]
theorem EvD.eqS {i j : Str} (ha : EvD X ρ a (.str i)) (hb : EvD X ρ b (.str j)) : EvD X ρ (.Compare a [.Eq] [b] pos) (.bl (decide (i = j))) :=
  EvD.cmp op_eq ha.r hb.r (nomark b) fun M H x y Q dx dy k => by
    cases (show x = .str i from dx)
    cases (show y = .str j from dy)
    exact ⟨rfl, by rw [dec_vstr]; exact k⟩
theorem TvD.eqS {i j : Str} (ha : EvD X ρ a (.str i)) (hb : EvD X ρ b (.str j)) : TvD X ρ (.Compare a [.Eq] [b] pos) (decide (i = j)) :=
  TvD.cmp op_eq ha.r hb.r (nomark b) fun M H x y Q dx dy k => by
    cases (show x = .str i from dx)
    cases (show y = .str j from dy)
    exact ⟨rfl, by rw [dec_vstr]; exact k⟩
theorem EvD.inS {c : Nat} {x : Str} (ha : EvD X ρ a (.str ⟨#[c]⟩)) (hb : EvD X ρ b (.str x)) (hm : behindInMarks .In b = false := by with_unfolding_all rfl) : EvD X ρ (.Compare a [.In] [b] pos) (.bl (decide (c ∈ x.cps.toList))) :=
  EvD.cmp op_in_str ha.r hb.r hm fun M H u v Q dx dy k => ⟨_, _, dx, dy, by rw [StrLaws.found_one]; exact k⟩
theorem TvD.inS {c : Nat} {x : Str} (ha : EvD X ρ a (.str ⟨#[c]⟩)) (hb : EvD X ρ b (.str x)) (hm : behindInMarks .In b = false := by with_unfolding_all rfl) : TvD X ρ (.Compare a [.In] [b] pos) (decide (c ∈ x.cps.toList)) :=
  TvD.cmp op_in_str ha.r hb.r hm fun M H u v Q dx dy k => ⟨_, _, dx, dy, by rw [StrLaws.found_one]; exact k⟩
theorem EvD.lenStr {x : Str} (hg : Gl X "len") (hm : X.mg "len" = none) (h : EvD X ρ e (.str x)) (hl : x.length ≤ 1000000) (he : starEach [e] X.env = [(false, eval e X.env)] := by rfl) : EvD X ρ (.Call (.Name "len" p) [e] [] pos) (.int x.length) :=
  EvD.callB call_len_str hg hm PySem.boot_len (AvR.one h.r he) (fun M H vs Q dn k => by
    obtain ⟨v, r, rfl, e1, e2⟩ := dn
    cases e2
    cases (show v = .str x from e1)
    exact ⟨x, rfl, le_line hl, k _ H (Same.refl _) rfl⟩) (he := he)
theorem call_intS : CallR X (.type "int") (fun xs H Q => ∃ x n, xs = [.str x] ∧ PySem.intText? x = some n ∧ x.length ≤ 640 ∧ Q (.int n) H) := by
  intro pins s σ H xs us Q I r h
  obtain ⟨x, n, rfl, hn, hl, q⟩ := h
  obtain ⟨u, rfl, t, rfl⟩ := vals1 r
  exact PySem.W.KIN.call_text hn hl ⟨.int n, H, I.tok _, ⟨_, rfl⟩, q⟩
theorem EvD.intS {x : Str} {n : Int} (hg : Gl X "int") (hm : X.mg "int" = none) (h : EvD X ρ e (.str x)) (hn : PySem.intText? x = some n) (hl : x.length ≤ 640) (he : starEach [e] X.env = [(false, eval e X.env)] := by rfl) : EvD X ρ (.Call (.Name "int" p) [e] [] pos) (.int n) :=
  EvD.callTy call_intS hg hm (by decide +kernel) (AvR.one h.r he) (fun M H vs Q dn k => by
    obtain ⟨v, r, rfl, e1, e2⟩ := dn
    cases e2
    cases (show v = .str x from e1)
    exact ⟨x, n, rfl, hn, hl, k _ H (Same.refl _) rfl⟩) (he := he)
/-! ### join, split -/
theorem strs_are : ∀ {xs : List Str} {its : List Value}, Vals (xs.map V.str) its → StrsAre its xs
  | [], _, r => by cases r; exact .nil
  | x :: xs, _, r => by
    cases r with
    | cons r1 r2 =>
      obtain ⟨t, rfl⟩ := r1
      exact .cons x t (strs_are r2)
theorem vals_strs : ∀ (l : List (Str × Tok)), Vals ((l.map (·.1)).map V.str) (strValues l)
  | [] => .nil
  | p :: l => .cons ⟨p.2, rfl⟩ (vals_strs l)
theorem Dns.strs {K : Frag} {M : MP} {H : Hp} : ∀ {xs : List Str} {vs : List V}, Dns K M H (xs.map .str) vs → vs = xs.map V.str
  | [], _, x => x
  | n :: ns, _, ⟨u, r, e, p, q⟩ => by rw [e, Dns.strs q, show u = V.str n from p]; rfl
theorem Dns.of_strs {K : Frag} {M : MP} {H : Hp} : ∀ (xs : List Str), Dns K M H (xs.map .str) (xs.map V.str)
  | [] => rfl
  | n :: ns => ⟨_, _, rfl, rfl, Dns.of_strs ns⟩
theorem mt_join : MtR X "str.join" (fun x vs H Q => ∃ (z : Str) (q : Addr) (xs : List Str), x = .str z ∧ vs = [.ref q] ∧ SqL X.K H q (xs.map V.str) ∧ (xs.map (·.length)).sum + xs.length * z.length ≤ 16777216 ∧ Q (.str (Str.join z xs)) H) := by
  intro pins s σ H x vs v us Q I rx rv ⟨z, q, xs, e1, e2, sq, hl, k⟩
  subst e1 e2
  obtain ⟨t, rfl⟩ := rx
  obtain ⟨u, rfl, ru⟩ := rv.one
  cases ru
  obtain ⟨its, r, pl, hz⟩ := I.list sq
  refine join_list pl.isList (by simpa using strs_are r) hl fun t' k' => ⟨.str _, H, I.tok _, ⟨_, rfl⟩, ?_⟩
  show Q (.str (Builtin.Str.glued z xs)) H
  rw [StrLaws.glued_eq_join]
  exact k
theorem EvD.join {z : Str} {xs : List Str} (ho : EvD X ρ o (.str z)) (he : EvR X ρ e (.lst (xs.map .str))) (hl : (xs.map (·.length)).sum + xs.length * z.length ≤ 16777216) (mc : MC1 X o "join" e apos cpos) :
    EvD X ρ (.Call (.Attribute o "join" apos) [e] [] cpos) (.str (Str.join z xs)) := fun M0 H0 γ α σ H Q R k => by
  obtain ⟨m1, m2, m3, m4⟩ := mc
  refine (pe_bm PySem.F.plainAttrs_str PySem.F.slot_str_join PySem.F.type_str_join mt_join peE paA m1 m2 m3 m4 rfl).to ?_
  refine ho M0 H0 γ α σ H _ R fun v H1 s1 d1 => ⟨?_, (AvR.one he m4) M0 H0 γ α σ H1 _ (R.next s1) fun vs H2 s2 dn => ?_⟩
  · cases (show v = .str z from d1)
    rfl
  · obtain ⟨u, r, rfl, e1, e2⟩ := dn
    cases e2
    obtain ⟨q, ys, rfl, sq, dn⟩ := e1
    rw [dn.strs] at sq
    exact ⟨z, q, xs, d1, rfl, sq, hl, k _ H2 (s1.trans s2) rfl⟩
theorem mt_split : MtR X "str.split" (fun x vs H Q => ∃ (z y : Str), x = .str z ∧ vs = [.str y] ∧ (y.length == 0) = false ∧ z.length + 2 ≤ sizeLine ∧ ∀ l, H l = none → Q (.ref l) (upd H l (.lst ((Txt.split z y).map V.str)))) := by
  intro pins s σ H x vs v us Q I rx rv ⟨x, y, e1, e2, hy, hsz, k⟩
  subst e1 e2
  obtain ⟨t, rfl⟩ := rx
  obtain ⟨u', rfl, ru⟩ := rv.one
  obtain ⟨u, rfl⟩ := ru
  have hn : (Builtin.Str.partsBetween x (Builtin.Str.occurrences x y 0 x.length (x.length + 1)) y.length).length ≤ sizeLine := by
    have e1 := StrLaws.occ_length_le x y 0 x.length (x.length + 1)
    rw [length_partsBetween]; omega
  have fin : ∀ (l : List (Str × Tok)) (tk : Nat), l.map (·.1) = Txt.split x y → (Txt.split x y).length ≤ sizeLine →
      EP X pins σ Q (.ref s.heap.objs.size) { s with toks := tk, heap := s.heap.push { cls := .type "list", data := .seq (strValues l).toArray } } := fun l tk e hl =>
    ⟨.ref _, _, I.lnew (t' := tk) (ys := (Txt.split x y).map V.str) (by rw [← e]; exact vals_strs l) (by rw [List.length_map]; exact hl), rfl, k _ I.fresh⟩
  cases h1 : (decide (x.length < y.length) || decide (Builtin.Str.strKind x < Builtin.Str.strKind y))
  · cases hf : (Builtin.Str.occurrences x y 0 x.length (x.length + 1)).isEmpty
    · have es : Txt.split x y = Builtin.Str.partsBetween x (Builtin.Str.occurrences x y 0 x.length (x.length + 1)) y.length := (if_neg (ne_true_of_eq_false h1)).trans (if_neg (ne_true_of_eq_false hf))
      refine call_meets PySem.F.slot_str_split (typeIs_str _ _ _) PySem.F.entry_str_split (PySem.F.args_str_split_2 _ _) (meets_str_split_sep x y t u h1 hy hf (by omega) hn) ?_
      show EP X pins σ Q _ { s with toks := _, heap := s.heap.push { cls := .type "list", data := .seq (strsFrom s.toks (Builtin.Str.partsBetween x (Builtin.Str.occurrences x y 0 x.length (x.length + 1)) y.length)).toArray } }
      rw [strsFrom_eq]
      exact fin _ _ ((numbered_texts _ _).trans es.symm) (by rw [es]; exact hn)
    · have es : Txt.split x y = [x] := (if_neg (ne_true_of_eq_false h1)).trans (if_pos hf)
      exact call_meets PySem.F.slot_str_split (typeIs_str _ _ _) PySem.F.entry_str_split (PySem.F.args_str_split_2 _ _) (meets_str_split_not_found x y t u h1 hy hf) (fin [(x, t)] s.toks es.symm (by rw [es]; show 1 ≤ sizeLine; decide))
  · have es : Txt.split x y = [x] := if_pos h1
    exact call_meets PySem.F.slot_str_split (typeIs_str _ _ _) PySem.F.entry_str_split (PySem.F.args_str_split_2 _ _) (meets_str_split_cannot_occur x y t u h1) (fin [(x, t)] s.toks es.symm (by rw [es]; show 1 ≤ sizeLine; decide))
theorem EvF.split {z y : Str} (ho : EvD X ρ o (.str z)) (he : EvD X ρ e (.str y)) (hy : (y.length == 0) = false) (hl : z.length ≤ 100000) (mc : MC1 X o "split" e apos cpos) :
    EvF X ρ (.Call (.Attribute o "split" apos) [e] [] cpos) ((Txt.split z y).map .str) := fun M0 H0 γ α σ H Q R k => by
  obtain ⟨m1, m2, m3, m4⟩ := mc
  refine (pe_bm PySem.F.plainAttrs_str PySem.F.slot_str_split PySem.F.type_str_split mt_split peE paA m1 m2 m3 m4 rfl).to ?_
  refine ho M0 H0 γ α σ H _ R fun v H1 s1 d1 => ⟨?_, (AvD.cons he AvD.nil m4) M0 H0 γ α σ H1 _ (R.next s1) fun vs H2 s2 dn => ?_⟩
  · cases (show v = .str z from d1)
    rfl
  · obtain ⟨u, r, rfl, e1, e2⟩ := dn
    cases e2
    cases (show u = .str y from e1)
    exact ⟨z, y, d1, rfl, hy, Nat.le_trans (show z.length + 2 ≤ 1000000 by omega) (by decide), fun l hl' => k l _ H2 _ (s1.trans s2) hl' (same_new hl') upd_same (Dns.of_strs _)⟩
end
end Z
set_option Elab.async false
set_option linter.all false
set_option maxRecDepth 100000
namespace Z
open PySem PySem.Spec PyProof.Rows L2

/-! ### set(..) of what is walked: the members of a kind, each once -/
theorem mapRange {α : Type} (val : Nat → α) (i : Nat) : (List.range (i + 1)).map val = (List.range i).map val ++ [val i] := by
  rw [List.range_succ, List.map_append]; rfl
theorem setOf_congr {prog : Program} {w : World} {K : Type} [DecidableEq K] {knd : PySem.KeyKind prog w K} {h : Heap} {a : Addr} {S S' : K → Bool} {n n' : Nat}
    (hS : h.SetOf knd a S n) (e : ∀ k, S k = S' k) (en : n = n') : h.SetOf knd a S' n' := by
  have : S = S' := funext e
  subst this; subst en; exact hS
section
variable {prog : Program} {w : World} {A : Around} {R : Result → Shared → Prop} {I : Addr} {fp wr : List Addr} {G : Array GenState → Array GenState → Prop} {n : Nat} {P : Nat → Value → Prop} {St : Nat → Shared → Prop}
  {K : Type} [DecidableEq K] {knd : PySem.KeyKind prog w K}
theorem set_loopK (W : WalksS prog w A.in1 I fp wr G n P St) (S : Addr) (hSf : S ∉ fp)
    (val : Nat → K) (hval : ∀ i v, P i v → knd.is (val i) v = true ∧ v.scannable = true) (hb : n + 1 < scanBound) :
    ∀ (k i : Nat) (s : Shared), n - i = k → i ≤ n → St i s →
      s.heap.SetOf knd S (fun k' => decide (k' ∈ Tx.uniq ((List.range i).map val))) (Tx.uniq ((List.range i).map val)).length →
      (∀ s', Moved (S :: wr) G s s' → s'.heap.SetOf knd S (fun k' => decide (k' ∈ Tx.uniq ((List.range n).map val))) (Tx.uniq ((List.range n).map val)).length → R (.ok (.ret .none)) s') →
      codeAny (model prog w) A (.builtin "set.update.loop" ⟨[.ref S, .ref I], []⟩) R s := by
  have hSw : S ∉ wr := fun h => hSf (W.sub _ h)
  have hsub : ∀ b ∈ wr, b ∈ S :: wr := fun b hb => List.mem_cons_of_mem _ hb
  intro k
  induction k with
  | zero =>
    intro i s hk hi hst hS hR
    have hin : i = n := by omega
    subst hin
    refine codeAny_builtin PyProof.Rows.F.entry_set_update_loop ?_
    rw [Around.under_plainId PyProof.Rows.F.plain_set_update_loop _]
    show wpAny _ A.in1 (pyNext (.ref I) >>= _) _ _ s
    refine wpAny_bind (W.done s _ _ hst fun s' hm => ?_)
    show wpAny _ A.in1 (ret Value.none) _ _ s'
    exact wpAny_pure (hR s' (hm.mono hsub) (by
      obtain ⟨o, es, ep, t, ho, rest⟩ := hS
      exact ⟨o, es, ep, t, hm.heap S _ hSw ho, rest⟩))
  | succ k ih =>
    intro i s hk hi hst hS hR
    have hlt : i < n := by omega
    refine codeAny_builtin PyProof.Rows.F.entry_set_update_loop ?_
    rw [Around.under_plainId PyProof.Rows.F.plain_set_update_loop _]
    show wpAny _ A.in1 (pyNext (.ref I) >>= _) _ _ s
    refine wpAny_bind (W.item i s _ _ hlt hst fun v s' hP hst' hm => ?_)
    obtain ⟨his, hsc⟩ := hval i v hP
    have hS' : s'.heap.SetOf knd S (fun k' => decide (k' ∈ Tx.uniq ((List.range i).map val))) (Tx.uniq ((List.range i).map val)).length := by
      obtain ⟨o, es, ep, tb, ho, rest⟩ := hS
      exact ⟨o, es, ep, tb, hm.heap S _ hSw ho, rest⟩
    show wpAny _ A.in1 (holding [v] (setAdd S v) >>= _) _ _ s'
    refine wpAny_bind (wpAny_holding ?_)
    unfold setAdd
    refine wpAny_holding ?_
    refine wpAny_bind (knd.pyHash (k := val i) his ?_)
    have hroom : (Tx.uniq ((List.range i).map val)).length + 1 < scanBound := by
      have := Tx.uniq_le ((List.range i).map val)
      rw [List.length_map, List.length_range] at this
      omega
    refine wpAny_setAddHashed_of (knd := knd) (s := { s' with toks := s'.toks + 1 }) his hsc hS' hroom fun h' hsb hS2 => ?_
    have hSi : h'.SetOf knd S (fun k' => decide (k' ∈ Tx.uniq ((List.range (i + 1)).map val))) (Tx.uniq ((List.range (i + 1)).map val)).length :=
      setOf_congr hS2 (fun k' => by
        rw [mapRange, Tx.uniq_snoc, Bool.eq_iff_iff]
        simp only [Bool.or_eq_true, decide_eq_true_eq, Tx.ustep_mem]) (by
        rw [mapRange, Tx.uniq_snoc, Tx.ustep_len]
        by_cases hm : val i ∈ Tx.uniq ((List.range i).map val)
        · rw [if_pos hm, if_pos (decide_eq_true hm)]
        · rw [if_neg hm, if_neg (by simpa using hm)])
    refine wpAny_pure ⟨plainId_quiet PyProof.Rows.F.plain_set_update_loop _, ih (i + 1) _ (by omega) hlt (W.frame _ s' _ _ hst' (Nat.le_succ _) fun b hb o e => ?_) hSi fun s'' hm'' hS'' => ?_⟩
    · rw [hsb.2 b (fun h : b = S => hSf (by rw [← h]; exact hb))]; exact e
    · refine hR s'' (Moved.trans W.gtrans ((hm.mono hsub).then_heap (Nat.le_succ _) fun b o hb e => ?_) hm'') hS''
      rw [hsb.2 b (fun h : b = S => hb (by rw [h]; exact List.mem_cons_self))]; exact e
end
section
variable {prog : Program} {w : World} {A : Around} {E : Value → Shared → Prop} {s : Shared} {K : Type} [DecidableEq K] {knd : PySem.KeyKind prog w K}
set_option maxHeartbeats 3200000 in
theorem set_any {src : Value} {T : String} {Q : Value → Shared → Prop} {n : Nat} {val : Nat → K} (hT : ∀ s' : Shared, (∀ b o, s.heap.get? b = some o → s'.heap.get? b = some o) → s'.TypeIs src T)
    (f1 : isSubtype (.type T) (.type "set") = pure false) (f2 : isSubtype (.type T) (.type "frozenset") = pure false) (f3 : (Value.type T == Value.type "dict") = false) (hb : n + 1 < scanBound)
    (hit : ∀ (A' : Around) (E' : Value → Shared → Prop) (s' : Shared) (R : Value → Shared → Prop), A'.handled = A.handled → (∀ b o, s.heap.get? b = some o → s'.heap.get? b = some o) →
      (∀ (o : Obj) (fp wr : List Addr) (P : Nat → Value → Prop) (St : Nat → Heap → Prop), (∀ A'' : Around, A''.handled = A.handled → Walks prog w A'' s'.heap.objs.size fp wr n P St) → St 0 (s'.heap.push o) → (∀ b ∈ fp, b = s'.heap.objs.size ∨ b < s.heap.objs.size) → (∀ b ∈ wr, b = s'.heap.objs.size) →
        (∀ i v, P i v → knd.is (val i) v = true ∧ v.scannable = true) → R (.ref s'.heap.objs.size) { s' with heap := s'.heap.push o }) → wpAny (model prog w) A' (pyIter src) R E' s')
    (h : ∀ (h' : Heap) (tk : Nat), h'.SetOf knd s.heap.objs.size (fun k' => decide (k' ∈ Tx.uniq ((List.range n).map val))) (Tx.uniq ((List.range n).map val)).length →
      (∀ b o, b < s.heap.objs.size → s.heap.get? b = some o → h'.get? b = some o) → Q (.ref s.heap.objs.size) { s with heap := h', toks := tk }) :
    wpAny (model prog w) A (call (.type "set") [src]) Q E s := by
  obtain ⟨c, tl, hmro⟩ := PySem.F.called_set.mro
  have hmade := PySem.F.called_set.made
  have hsub := PySem.F.called_set.sub
  refine wpAny_call (codeAny_of_tree ?_)
  show wpAny _ _ (callAny (.type "set") _) _ _ _
  refine wpAny_pure ⟨Code.quiet_builtin _ (by decide +kernel), codeAny_builtin PySem.F.entry_type_call ?_⟩
  rw [Around.under_plain (weight_type_call_type "set" [src] []) rfl]
  have h1 := PySem.F.called_set.notType
  have h2 := PySem.F.called_set.canCreate
  have hct := PySem.F.typeCall_set_1 src
  repeat (any_goals (first | assumption | wp_step))
  refine codeAny_mono (code_set_new_1 src (E := E) (Q₁ := fun obj s₁ => ∃ led : Bool, obj = .ref s.heap.objs.size ∧ s₁ = { s with heap := s.heap.push { cls := .type "set", dict := none, data := .set #[] 0 (.fresh 0 0 led) } }) fun led => ⟨led, rfl, rfl⟩) fun r s₁ hr => ?_
  cases r with
  | error e => exact hr
  | ok fl =>
    cases fl with
    | ret obj =>
      obtain ⟨led, rfl, rfl⟩ := hr
      have hS : (s.heap.push { cls := .type "set", dict := none, data := .set #[] 0 (.fresh 0 0 led) }).get? s.heap.objs.size = some { cls := .type "set", dict := none, data := .set #[] 0 (.fresh 0 0 led) } := Heap.get?_push_size _ rfl
      have hT1 : Shared.TypeIs { s with heap := s.heap.push { cls := .type "set", dict := none, data := .set #[] 0 (.fresh 0 0 led) } } (.ref s.heap.objs.size) "set" := ⟨_, hS, rfl⟩
      have hli := PySem.F.called_set.init.lookup
      have hbi := PySem.F.called_set.init.bind (.ref s.heap.objs.size)
      repeat (any_goals (first | assumption | wp_step))
      refine codeAny_mono (codeAny_call_builtin (R := wants (fun r s₂ => r = .none ∧ ∃ h' tk, s₂ = { s with heap := h', toks := tk } ∧
          h'.SetOf knd s.heap.objs.size (fun k' => decide (k' ∈ Tx.uniq ((List.range n).map val))) (Tx.uniq ((List.range n).map val)).length ∧
          (∀ b o, b < s.heap.objs.size → s.heap.get? b = some o → h'.get? b = some o)) E) PySem.F.called_set.init.plain PySem.F.entry_set_init (check_set_init_1 hT1 ?_)) fun r₂ s₂ hr₂ => ?_
      · have hT2 : Shared.TypeIs { s with heap := s.heap.push { cls := .type "set", dict := none, data := .set #[] 0 (.fresh 0 0 led) } } src T := hT _ fun b o e => Heap.get?_push_of_some _ e
        unfold Builtin.«set.__init__» noKeywords Builtin.Frozenset.updateFrom
        generalize hPI : pyIter = PI
        repeat (any_goals (first | assumption | wp_step))
        subst hPI
        refine hit _ _ _ _ (by simp) (fun b o e => Heap.get?_push_of_some _ e) fun o fp wr P St W st0 hfp hwr hval => ?_
        refine wpAny_bind (wpAny_runValue ?_)
        have hSf : s.heap.objs.size ∉ fp := fun z => by
          rcases hfp _ z with z | z
          · rw [Heap.size_push] at z; exact absurd z (Nat.ne_of_lt (Nat.lt_succ_self _))
          · exact absurd z (Nat.lt_irrefl _)
        refine set_loopK ((W _ (by simp)).toS) s.heap.objs.size hSf val hval hb (n - 0) 0 _ (by omega) (Nat.zero_le _) st0 ?hS0 ?hR
        case hS0 =>
          have hget : ((s.heap.push { cls := .type "set", dict := none, data := .set #[] 0 (.fresh 0 0 led) }).push o).get? s.heap.objs.size
              = some { cls := .type "set", dict := none, data := .set #[] 0 (.fresh 0 0 led) } := Heap.get?_push_of_some _ hS
          exact setOf_congr ((PyProof.Rows.setObjOf_fresh (knd := knd) led).setOf hget (by unfold scanBound; omega)) (fun _ => rfl) rfl
        case hR =>
          intro s' hm hS'
          obtain ⟨h', g', d', tk', os'⟩ := s'
          have eg : g' = s.gens := hm.gens
          have ed : d' = s.drawn := hm.drawn
          have eo : os' = s.os := hm.os
          subst eg; subst ed; subst eo
          show wpAny _ _ _ _ _ _
          refine wpAny_pure ?_
          show wpAny _ _ (ret Value.none) _ _ _
          refine wpAny_pure ⟨rfl, h', tk', rfl, hS', fun b o' hb' e => ?_⟩
          refine hm.heap b o' ?_ (Heap.get?_push_of_some _ (Heap.get?_push_of_some _ e))
          intro z
          rcases List.mem_cons.mp z with z | z
          · exact absurd z (Nat.ne_of_lt hb')
          · have := hwr b z
            rw [Heap.size_push] at this
            exact absurd this (Nat.ne_of_lt (Nat.lt_succ_of_lt hb'))
      · cases r₂ with
        | error e => exact hr₂
        | ok fl₂ =>
          cases fl₂ with
          | ret r =>
            obtain ⟨rfl, h', tk, rfl, hS', hk'⟩ := hr₂
            repeat (any_goals (first | assumption | wp_step))
            exact h _ _ hS' hk'
          | _ => exact hr₂.elim
    | _ => exact hr.elim
end
/-- a set of texts -/
def setS (P : Program) (w : World) (a : Addr) (xs : List Str) : HO := .ext fun h => h.SetOf (PySem.strKind P w) a (fun k' => decide (k' ∈ Tx.uniq xs)) (Tx.uniq xs).length
theorem setS_ok {P : Program} {w : World} {H : Hp} {h : Heap} {a : Addr} {xs : List Str} (hS : h.SetOf (PySem.strKind P w) a (fun k' => decide (k' ∈ Tx.uniq xs)) (Tx.uniq xs).length) : ObjOk P w H h a (setS P w a xs) := by
  refine ⟨hS, ?_, fun h1 h2 ⟨o, es, ep, t, ho, r⟩ k => ⟨o, es, ep, t, k o ho, r⟩⟩
  obtain ⟨o, es, ep, t, ho, r⟩ := hS
  exact ⟨o, ho⟩
section
variable {X : Cx} {ρ : Rho} {e : Expr} {pos p p2 p3 : Pos}
def ones (x : Str) : List Str := x.cps.toList.map fun c => ⟨#[c]⟩
theorem ones_range (x : Str) : (List.range x.cps.size).map (fun i => (⟨#[x.cps.getD i 0]⟩ : Str)) = ones x := by
  unfold ones
  apply List.ext_getElem?
  intro i
  rw [List.getElem?_map, List.getElem?_map]
  by_cases h : i < x.cps.size
  · rw [List.getElem?_range h]
    simp [h]
  · rw [List.getElem?_eq_none (by rw [List.length_range]; omega), List.getElem?_eq_none (by simp; omega)]
    rfl
theorem call_setStr (hc : X.calm = true) : CallR X (.type "set") (fun xs H Q => ∃ x, xs = [.str x] ∧ x.length < 4000 ∧ ∀ l, H l = none → Q (.ref l) (upd H l (setS X.prog X.w l (ones x)))) := by
  intro pins s σ H xs us Q I r ⟨x, e, hl, k⟩
  subst e
  obtain ⟨u, rfl, t, rfl⟩ := vals1 r
  have hh := I.ok.hd hc
  refine set_any (knd := PySem.strKind X.prog X.w) (n := x.cps.size) (val := fun i => ⟨#[x.cps.getD i 0]⟩) (T := "str") (fun s' _ => typeIs_str s' x t) PySem.F.sub_str_set PySem.F.sub_str_frozenset (by decide) (by unfold scanBound; have : x.length = x.cps.size := rfl; omega) ?_ ?_
  · intro A' E' s' R hA hk hR
    refine wpAny_pyIter_str fun o St W st => hR o _ _ _ St (fun A'' hA'' => W A'' (hA''.trans hh)) st (fun b hb => .inl (by simpa using hb)) (fun b hb => by simpa using hb) fun i v hv => ?_
    obtain ⟨c, u, h1, rfl⟩ := hv
    have : x.cps.getD i 0 = c := by rw [Array.getD_eq_getD_getElem?, h1]; rfl
    rw [this]
    exact ⟨by simp [PySem.strKind, Value.isStrOf], rfl⟩
  · intro h' tk hS hk
    rw [ones_range] at hS
    exact ⟨.ref s.heap.objs.size, _, I.laid (t' := tk) (fun b o e => hk b o (Heap.lt_size e) e) (Nat.le_refl _) (setS_ok hS), rfl, k _ I.fresh⟩
theorem call_setStrs (hc : X.calm = true) : CallR X (.type "set") (fun xs H Q => ∃ q zs, xs = [.ref q] ∧ SqL X.K H q (zs.map V.str) ∧ zs.length < 4000 ∧ ∀ l, H l = none → Q (.ref l) (upd H l (setS X.prog X.w l zs))) := by
  intro pins s σ H xs us Q I r ⟨q, zs, e, hq, hl, k⟩
  subst e
  obtain ⟨u, rfl, rx⟩ := vals1 r
  cases rx
  have hh := I.ok.hd hc
  obtain ⟨its, r', pl, hz⟩ := I.list hq
  have hlen := r'.length
  rw [List.length_map] at hlen
  obtain ⟨ol, nl, hol, hcl, hdd, hdl⟩ := id pl
  have hlt : q < s.heap.objs.size := Heap.lt_size hol
  refine set_any (knd := PySem.strKind X.prog X.w) (n := its.toArray.size) (val := fun i => zs.getD i Str.empty) (T := "list") (fun s' hk => ⟨ol, hk _ _ hol, hcl⟩) PySem.F.sub_list_set PySem.F.sub_list_frozenset (by decide) (by rw [List.size_toArray]; unfold scanBound; omega) ?_ ?_
  · intro A' E' s' R hA hk hR
    have hl1 : s'.heap.IsList q its.toArray := ⟨ol, hk _ _ hol, hcl, nl, hdl⟩
    refine wpAny_pyIter_list hl1 (hR _ _ _ _ _ (fun A'' hA'' => Walks.list (hA''.trans hh) _ q (Nat.ne_of_lt (Heap.lt_size (hk _ _ hol))) _) ⟨⟨_, Heap.get?_push_size _ rfl, rfl, rfl⟩, hl1.push _⟩ (fun b hb => ?_) (fun b hb => by simpa using hb) fun i v hv => ?_)
    · simp only [List.mem_cons, List.not_mem_nil, or_false] at hb
      rcases hb with rfl | rfl
      · exact .inl rfl
      · exact .inr hlt
    · have hv' : its[i]? = some v := by simpa using hv
      obtain ⟨y, hy, ry⟩ := valsGetV r' hv'
      rw [List.getElem?_map] at hy
      cases ez : zs[i]? with
      | none => rw [ez] at hy; cases hy
      | some z =>
        rw [ez] at hy
        cases hy
        obtain ⟨t, rfl⟩ := ry
        rw [List.getD_eq_getElem?_getD, ez]
        exact ⟨by simp [PySem.strKind, Value.isStrOf], rfl⟩
  · intro h' tk hS hk
    have er : (List.range its.toArray.size).map (fun i => zs.getD i Str.empty) = zs := by
      rw [List.size_toArray, ← hlen]
      apply List.ext_getElem?
      intro i
      rw [List.getElem?_map]
      by_cases h : i < zs.length
      · rw [List.getElem?_range h, List.getElem?_eq_getElem h]
        show some (zs.getD i _) = _
        rw [List.getD_eq_getElem?_getD, List.getElem?_eq_getElem h]
        rfl
      · rw [List.getElem?_eq_none (by rw [List.length_range]; omega), List.getElem?_eq_none (by omega)]
        rfl
    rw [er] at hS
    exact ⟨.ref s.heap.objs.size, _, I.laid (t' := tk) (fun b o e => hk b o (Heap.lt_size e) e) (Nat.le_refl _) (setS_ok hS), rfl, k _ I.fresh⟩
theorem call_lenSetS : CallR X (.builtin "len") (fun xs H Q => ∃ q zs, xs = [.ref q] ∧ H q = some (setS X.prog X.w q zs) ∧ Q (.int (Tx.uniq zs).length) H) := by
  intro pins s σ H xs us Q I r ⟨q, zs, e, hq, k⟩
  subst e
  obtain ⟨u, rfl, rx⟩ := vals1 r
  cases rx
  obtain ⟨o, es, ep, t, h1, h2, h3, _, _, h6, h7, h8⟩ := (I.hok q _ hq).1
  refine call_len_set h1 h2 h3 h7 (by unfold scanBound at h6; omega) ⟨.int (Tx.uniq zs).length, H, I.tok _, ⟨_, by rw [h8]⟩, k⟩
theorem EvD.lenSetStr {x : Str} (hc : X.calm = true) (hg : Gl X "len") (hm : X.mg "len" = none) (hg2 : Gl X "set") (hm2 : X.mg "set" = none) (h : EvD X ρ e (.str x)) (hl : x.length < 4000)
    (he : starEach [e] X.env = [(false, eval e X.env)] := by rfl) (he2 : starEach [.Call (.Name "set" p2) [e] [] p3] X.env = [(false, eval (.Call (.Name "set" p2) [e] [] p3) X.env)] := by rfl) : EvD X ρ (.Call (.Name "len" p) [.Call (.Name "set" p2) [e] [] p3] [] pos) (.int (Tx.uniq (ones x)).length) := fun M0 H0 γ α σ H Q R k =>
  (pe_callB call_lenSetS hg hm PySem.boot_len (pa_cons (pe_callTy (call_setStr hc) hg2 hm2 (by decide +kernel) (pa_cons peE pa_nil he) (by decide) (by decide) he) pa_nil he2) (by decide) (by decide) he2).to (h M0 H0 γ α σ H _ R fun v H1 s1 d1 => by
    cases (show v = .str x from d1)
    exact ⟨x, rfl, hl, fun l hl' => ⟨l, _, rfl, upd_same, k _ _ (s1.trans (same_new hl')) rfl⟩⟩)
theorem EvD.lenSetStrs {zs : List Str} (hc : X.calm = true) (hg : Gl X "len") (hm : X.mg "len" = none) (hg2 : Gl X "set") (hm2 : X.mg "set" = none) (h : EvR X ρ e (.lst (zs.map .str))) (hl : zs.length < 4000)
    (he : starEach [e] X.env = [(false, eval e X.env)] := by rfl) (he2 : starEach [.Call (.Name "set" p2) [e] [] p3] X.env = [(false, eval (.Call (.Name "set" p2) [e] [] p3) X.env)] := by rfl) : EvD X ρ (.Call (.Name "len" p) [.Call (.Name "set" p2) [e] [] p3] [] pos) (.int (Tx.uniq zs).length) := fun M0 H0 γ α σ H Q R k =>
  (pe_callB call_lenSetS hg hm PySem.boot_len (pa_cons (pe_callTy (call_setStrs hc) hg2 hm2 (by decide +kernel) (pa_cons peE pa_nil he) (by decide) (by decide) he) pa_nil he2) (by decide) (by decide) he2).to (h M0 H0 γ α σ H _ R fun v H1 s1 d1 => by
    obtain ⟨q, xs, rfl, sq, dn⟩ := d1
    rw [dn.strs] at sq
    exact ⟨q, zs, rfl, sq, hl, fun l hl' => ⟨l, _, rfl, upd_same, k _ _ (s1.trans (same_new hl')) rfl⟩⟩)
end
end Z
set_option Elab.async false
set_option linter.all false
set_option maxRecDepth 100000
namespace Z
open PySem PySem.Spec PyProof.Rows L2

theorem isT_int {i : Int} : isT "int" (.int i) = true := by simp [isT, tyN]
theorem isT_bool {i : Int} : isT "bool" (.int i) = false := by simp [isT, tyN]
theorem isT_str {x : Str} : isT "str" (.str x) = true := by simp [isT, tyN]
theorem isT_tup {ds : List D} : isT "tuple" (.tup ds) = true := by simp [isT, tyN]
theorem eqv_self {d : D} (h : D.flat 60 d) : D.eqv d d = true := by
  unfold D.eqv
  exact PySem.SeqAt.eqv_refl _ (shaped_of 60 d h).1

/-! ### list(range(n)) -/
section
variable {X : Cx} {ρ : Rho} {e : Expr} {pos p p2 p3 : Pos}
end
/-! ### texts by their codes -/
theorem str_ext {a b : Str} (h : a.cps.toList = b.cps.toList) : a = b := Str.ext' (Array.toList_inj.mp h)
theorem app_toList (a b : Str) : (a ++ b).cps.toList = a.cps.toList ++ b.cps.toList := by rw [Str.cps_append, Array.toList_append]
theorem join_glue (c : Nat) : ∀ ps : List Str, (Str.join ⟨#[c]⟩ ps).cps.toList = Tx.glue c (ps.map fun p => p.cps.toList)
  | [] => rfl
  | [x] => rfl
  | x :: y :: r => by
    show (x ++ ⟨#[c]⟩ ++ Str.join ⟨#[c]⟩ (y :: r)).cps.toList = x.cps.toList ++ c :: Tx.glue c ((y :: r).map fun p => p.cps.toList)
    rw [app_toList, app_toList, join_glue c (y :: r)]
    simp
theorem join_flat : ∀ ps : List Str, (Str.join ⟨#[]⟩ ps).cps.toList = (ps.map fun p => p.cps.toList).flatten
  | [] => rfl
  | [x] => by show x.cps.toList = _; simp
  | x :: y :: r => by
    show (x ++ ⟨#[]⟩ ++ Str.join ⟨#[]⟩ (y :: r)).cps.toList = _
    rw [app_toList, app_toList, join_flat (y :: r)]
    simp
theorem split_glue {c : Nat} {ps : List (List Nat)} (hne : ps ≠ []) (hc : ∀ p ∈ ps, c ∉ p) : Txt.split ⟨(Tx.glue c ps).toArray⟩ ⟨#[c]⟩ = ps.map fun p => (⟨p.toArray⟩ : Str) := by
  have h1 : Tx.glue c ((Txt.split ⟨(Tx.glue c ps).toArray⟩ ⟨#[c]⟩).map fun p => p.cps.toList) = Tx.glue c ps := by
    rw [← join_glue, StrLaws.join_split]
  have h2 := Tx.glue_inj _ ps (by
    intro z
    have := split_pos ⟨(Tx.glue c ps).toArray⟩ ⟨#[c]⟩
    rw [List.map_eq_nil_iff.mp z] at this
    exact absurd this (by decide)) hne (fun p hp => by
      obtain ⟨q, hq, rfl⟩ := List.mem_map.mp hp
      exact StrLaws.split_free _ _ q hq) hc h1
  have h3 := congrArg (List.map fun (p : List Nat) => (⟨p.toArray⟩ : Str)) h2
  rw [List.map_map] at h3
  rw [← h3]
  have : ∀ l : List Str, l.map ((fun (p : List Nat) => (⟨p.toArray⟩ : Str)) ∘ fun p => p.cps.toList) = l := fun l => by
    induction l with
    | nil => rfl
    | cons a l ih => rw [List.map_cons, ih]; rfl
  rw [this]
/-- the parts of a text, by codes -/
theorem split_codes (x : Str) (c : Nat) : Tx.glue c ((Txt.split x ⟨#[c]⟩).map fun p => p.cps.toList) = x.cps.toList := by rw [← join_glue, StrLaws.join_split]
end Z
namespace Z
open PySem PySem.Spec PyProof.Rows L2
section
variable {P : Program} {w : World} {K : Frag} {mg : Str → Option Value} {base : Heap} {CX : CXT} {k : Nat} {x qual : Str} {st : Stmt} {f : Addr} {fd : FuncData} {N ps : List Str} {ι : Type} {args : ι → List D} {pre : ι → Prop} {res : ι → Except Addr D}
theorem fnOk_of (F : Fun K x qual st f fd) (S : FnScope N ps (defScope st)) (hl : ∀ i, (args i).length = ps.length)
    (body : ∀ (cdv : Value) (A : Around) (outer : List Env) (s : Shared) (H : Hp) (E : XK) (i : ι) (M0 : MP), pre i → Room k (A.deeper (envOfC qual (defScope st) s.heap.objs.size f cdv)) →
      ∃ d, res i = .ok d ∧ WS (cxOf CX P w K mg base N qual (defScope st) f cdv A outer s H E).nox M0 H (defBody st) (rho0 N (args i)) { N := fun _ => d = .non, R := fun d' => d' = d }) : FnOk P w K mg base CX (k + 1) f fd ps (pureSp K args pre res) := by
  obtain ⟨oc, od, kV, doc, pm, an, cdv, ct, osl, rfl, lk, hcd⟩ := F.ex
  refine fn_of lk hcd S (fun vs H Q E ⟨i, M0, _, h, _⟩ => by rw [h.len, hl]) fun A outer s H vs Q E hr hsp => ?_
  obtain ⟨i, M0, hM, h, hp, k1, k2⟩ := hsp
  obtain ⟨d, hd, ws⟩ := body cdv A outer s H E i M0 hp hr
  refine ⟨tSs _ (defBody st), (psSs (X := (cxOf CX P w K mg base N qual (defScope st) f cdv A outer s H E).nox)).nox, ?_⟩
  refine tSs.mono (En := ends K M0 H [] { N := fun _ => d = .non, R := fun d' => d' = d }) (fun σ' H' ⟨α, ρ, R, e⟩ => ?_) (fun v H' ⟨d', e, sm, dn⟩ => ?_) (fun _ _ ⟨_, _, _, z⟩ => z.elim) (fun _ _ ⟨_, _, _, z⟩ => z.elim) (ws [] (fun _ => 0) _ H (rep0 hM h))
  · exact k1 d hd .non H' R.same (by rw [e]; exact rfl)
  · subst e
    exact k1 _ hd v H' sm dn
end
/-- the law's promise -/
abbrev spLaw (K : Frag) : Sp := pureSp K (fun ns : List Int => [D.lst (ns.map .int)]) (fun ns => ns.length ≤ 63) (fun _ => .ok (.bl true))
end Z
set_option Elab.async false
set_option linter.all false
set_option maxRecDepth 100000
namespace Z
open PySem PySem.Spec PyProof.Rows

/-! ### the probe of a table of eight slots -/
def advK (t : SetTable) : Nat → SetTable.Probe → SetTable.Probe
  | 0, p => p
  | k + 1, p => advK t k (t.advance p)
structure PrOk (p : SetTable.Probe) : Prop where
  more : p.more = 0
  ij : p.i = p.j
  lt : p.j < 8
  dm : p.dummy = none
def lcg (j : Nat) : Nat := (j * 5 + 1) % 8
def lcgK : Nat → Nat → Nat
  | 0, j => j
  | k + 1, j => lcgK k (lcg j)

/-! ### the places of at most four among eight slots, by decision -/
def subsOf : List Nat → List (List Nat)
  | [] => [[]]
  | a :: l => (subsOf l).map (a :: ·) ++ subsOf l
def subs : List (List Nat) := (subsOf [0, 1, 2, 3, 4, 5, 6, 7]).filter fun l => l.length ≤ 4
end Z
set_option Elab.async false
set_option linter.all false
set_option maxRecDepth 100000
namespace Z
open PySem PySem.Spec PyProof.Rows

/-! ### a small set of tuples of ints -/
section
variable {prog : Program} {w : World}
abbrev TK (prog : Program) (w : World) (h : Heap) (ks : List Int) (b : Addr) : Prop := IsTupleKey (intKind prog w) h ks b
abbrev tkH (prog : Program) (w : World) (ks : List Int) : Int := tupleKeyHash (intKind prog w) ks
/-- the entries: tuples with these keys; the table has eight slots and nothing was ever taken out -/
structure PS (prog : Program) (w : World) (led : Bool) (h : Heap) (a : Addr) (o : Obj) (es : Array (Int × Value)) (ep : Nat) (t : SetTable) : Prop where
  get : h.get? a = some o
  ex : o.ExactSet
  dat : o.data = .set es ep t
  mask : t.mask = 7
  dum : t.dummies = #[]
  size : t.place.size = es.size
  plain : t.plain = true
  led : t.led = led
  few : es.size ≤ 4
  pl : t.place.toList ∈ subs
  el : ∀ e ∈ es.toList, ∃ ks b, e = (tkH prog w ks, Value.ref b) ∧ TK prog w h ks b
variable {led : Bool} {a : Addr} {o : Obj} {es : Array (Int × Value)} {ep : Nat} {t : SetTable} {A : Around} {E : Value → Shared → Prop} {s : Shared}
end
end Z
set_option Elab.async false
set_option linter.all false
set_option maxRecDepth 100000
namespace Z
open PySem PySem.Spec PyProof.Rows

/-! ### set(..) of a list of at most four tuples of ints -/
abbrev byT (w : World) : Bool := w.params.followText "set-order"
section
variable {prog : Program} {w : World}
/-- the set behind i tuples: their keys, each by one of them -/
def SetI (prog : Program) (w : World) (h : Heap) (a : Addr) (val : Nat → List Int) (T : Nat → Addr) (i : Nat) : Prop :=
  ∃ o es ep t, PS prog w (!byT w) h a o es ep t ∧ es.size ≤ i ∧ (∀ e ∈ es.toList, ∃ j, j < i ∧ e = (tkH prog w (val j), Value.ref (T j))) ∧ ∀ j, j < i → ∃ j', j' < i ∧ (tkH prog w (val j'), Value.ref (T j')) ∈ es.toList ∧ val j' = val j
variable {A : Around} {R : Result → Shared → Prop} {I : Addr} {fp wr : List Addr} {G : Array GenState → Array GenState → Prop} {n : Nat} {P : Nat → Value → Prop} {St : Nat → Shared → Prop}
end
end Z
set_option Elab.async false
set_option linter.all false
set_option maxRecDepth 100000
namespace Z
open PySem PySem.Spec PyProof.Rows
section
variable {prog : Program} {w : World} {A : Around} {E : Value → Shared → Prop} {s : Shared}
end
end Z
set_option Elab.async false
set_option linter.all false
set_option maxRecDepth 100000
namespace Z
open PySem PySem.Spec PyProof.Rows
namespace F
end F
end Z
set_option Elab.async false
set_option linter.all false
set_option maxRecDepth 100000
namespace Z
open PySem PySem.Spec PyProof.Rows

/-! ### a set of tuples is walked -/
section
variable {prog : Program} {w : World}
/-- the order of the walk -/
def ordOf (w : World) (a : Addr) (ep : Nat) (es : Array (Int × Value)) : Array (Int × Value) := if byT w then pickOrder (w.params.setOrder a ep) es else es
def slotAt (w : World) (t : SetTable) (i : Nat) : Nat := if byT w then 0 else if i = 0 then 0 else t.place.getD (i - 1) 0 + 1
def itObj (w : World) (a : Addr) (ep n : Nat) (t : SetTable) (i : Nat) : Obj := { cls := .type "set_iterator", data := .fields #[.int (slotAt w t i) 0, .int i 0, .ref a, .int n 0, .int ep 0] }
variable {a : Addr} {o : Obj} {es : Array (Int × Value)} {ep : Nat} {t : SetTable} {A : Around} {E : Value → Shared → Prop} {s : Shared}
/-- what of a set is seen when it is walked -/
structure PF (led : Bool) (o : Obj) (es : Array (Int × Value)) (ep : Nat) (t : SetTable) : Prop where
  ex : o.ExactSet
  dat : o.data = .set es ep t
  mask : t.mask = 7
  dum : t.dummies = #[]
  size : t.place.size = es.size
  plain : t.plain = true
  led : t.led = led
  few : es.size ≤ 4
  pl : t.place.toList ∈ subs
/-! the iterator -/
/-! collect -/
end
end Z
set_option Elab.async false
set_option linter.all false
set_option maxRecDepth 100000
namespace Z
open PySem PySem.Spec PySem.W PyProof.Rows

/-! ### a sort of fewer than 64 items, whatever the comparisons say: the same items -/
def leaves {α : Type} (n : Nat) : KasT α → (α → Prop) → Prop
  | .ret a, P => P a
  | .ask i j k, P => i < n ∧ j < n ∧ ∀ b, leaves n (k b) P
def PR (n : Nat) (p : Array Nat) : Prop := p.toList.Perm (List.range n)
section
variable {n : Nat} (hn : 0 < n)
include hn
end
/-! tuples of ints are compared -/
section
variable {prog : Program} {w : World} {A : Around} {E : Value → Shared → Prop} {s : Shared}
/-- each is a tuple of ints, not empty -/
def Tups (prog : Program) (w : World) (h : Heap) (vs : List Value) : Prop := ∀ v ∈ vs, ∃ ks b, v = Value.ref b ∧ TK prog w h ks b ∧ ks ≠ []
end
end Z
set_option Elab.async false
set_option linter.all false
set_option maxRecDepth 100000
namespace Z
open PySem PySem.Spec PyProof.Rows L2

/-! ### a value of which something is known -/
def EvP (X : Cx) (ρ : Rho) (e : Expr) (P : D → Prop) : Prop := ∀ (M0 : MP) (H0 : Hp) (γ : List (D × V)) (α : Nat → Addr) (σ : St) (H : Hp) (Q : VK), Rep X.K M0 H0 γ α ρ σ H →
  (∀ d v H', P d → Same H H' → Dn X.K (MM M0 ρ α) H' d v → Q v H') → tE X e σ H Q
section
variable {X : Cx} {ρ : Rho} {M0 : MP} {H0 : Hp} {P : Post} {e a b : Expr} {d : D} {ds : List D} {pos pos' p p2 p3 p4 p5 : Pos}
/-! ### tuple(sorted(set(pairs))): the same pairs -/
def pairD (p : Int × Int) : D := .tup [.int p.1, .int p.2]
def pairV (p : Int × Int) : List V := [.int p.1, .int p.2]
def kOf (p : Int × Int) : List Int := [p.1, p.2]
/-- the set of the tuples at T 0, .., T (n - 1) -/
def pSetO (w : World) (l : Addr) (n : Nat) (val : Nat → Int × Int) (T : Nat → Addr) : HO := .ext fun h => ∃ o es ep t, h.get? l = some o ∧ PF (!byT w) o es ep t ∧ (∀ e ∈ es.toList, ∃ j, j < n ∧ e.2 = Value.ref (T j)) ∧
  ∀ j, j < n → ∃ j', j' < n ∧ (∃ e ∈ es.toList, e.2 = Value.ref (T j')) ∧ val j' = val j
end
end Z
set_option Elab.async false
set_option linter.all false
set_option maxRecDepth 100000
namespace Z
open PySem PySem.Spec PyProof.Rows
section
variable {prog : Program} {w : World} {A : Around} {E : Value → Shared → Prop} {s : Shared}
/-- the zip, whatever it has handed out before -/
def ZipAt (h : Heap) (z TI TO i1 i2 : Addr) : Prop := (∃ f0 f1, h.get? z = some { cls := .type "zip", dict := none, data := .fields #[f0, .bool f1, .bool false, .ref TI, .ref TO], slots := #[] } ∧ (f0 = .none ∨ ∃ T : Nat, f0 = rawInt T)) ∧ IsPair h TI (.ref i1) (.ref i2) ∧ ∃ a b, IsPair h TO a b
structure Ap5 (z TI TO i1 i2 : Addr) : Prop where
  TIz : TI ≠ z
  TOz : TO ≠ z
  i1z : i1 ≠ z
  i2z : i2 ≠ z
  TITO : TI ≠ TO
  TIi1 : TI ≠ i1
  TIi2 : TI ≠ i2
  TOi1 : TO ≠ i1
  TOi2 : TO ≠ i2
  i12 : i1 ≠ i2
/-! zip(t1, t2) made -/
abbrev zT1 (h : Heap) (t1 : Addr) : Heap := h.push { cls := .type "tuple_iterator", data := .fields #[.ref t1, .int 0 0] }
abbrev zT2 (h : Heap) (t1 t2 : Addr) : Heap := (zT1 h t1).push { cls := .type "tuple_iterator", data := .fields #[.ref t2, .int 0 0] }
abbrev zT3 (h : Heap) (t1 t2 : Addr) : Heap := (zT2 h t1 t2).push { cls := .type "tuple", data := .seq #[.ref h.objs.size, .ref (zT1 h t1).objs.size] }
abbrev zT4 (h : Heap) (t1 t2 : Addr) : Heap := (zT3 h t1 t2).push { cls := .type "tuple", data := .seq #[.none, .none] }
abbrev zT5 (h : Heap) (t1 t2 : Addr) : Heap := (zT4 h t1 t2).push { cls := .type "zip", data := .fields #[.none, .bool false, .bool false, .ref (zT2 h t1 t2).objs.size, .ref (zT3 h t1 t2).objs.size] }
end
end Z
set_option Elab.async false
set_option linter.all false
set_option maxRecDepth 100000
namespace Z
open PySem PySem.Spec PyProof.Rows L2

section
variable {X : Cx} {pins : List (Addr × Obj)} {σ : St} {H H' : Hp} {s : Shared} {h' : Heap} {fp : List Addr}
end

/-! ### zip over two tuples -/
def Itz (K : Frag) (t1 t2 : Addr) : It :=
  ⟨fun i H => ∃ xs ys x y, SqT K H t1 xs ∧ SqT K H t2 ys ∧ xs[i]? = some x ∧ ys[i]? = some y,
   fun i H v H' => ∃ T x y, v = .ref T ∧ H T = none ∧ H' = upd H T (.tup [x, y]) ∧ (∀ xs, SqT K H t1 xs → xs[i]? = some x) ∧ ∀ ys, SqT K H t2 ys → ys[i]? = some y,
   fun i H => ∃ xs ys, SqT K H t1 xs ∧ SqT K H t2 ys ∧ (xs.length ≤ i ∨ ys.length ≤ i)⟩
section
variable {prog : Program} {w : World} {A : Around} {E : Value → Shared → Prop} {s : Shared}
end
def iZip (K : Frag) (ta : TA) : TI := fun σ H R => ta σ H fun vs H1 => ∃ t1 t2, vs = [.ref t1, .ref t2] ∧ (∃ xs, SqT K H1 t1 xs) ∧ (∃ ys, SqT K H1 t2 ys) ∧ R (Itz K t1 t2) H1
section
variable {X : Cx} {ρ : Rho} {e a b : Expr} {d : D} {ds es : List D} {p pos px : Pos} {x : Str}
def zipD (ds es : List D) : List D := (ds.zip es).map fun p => D.tup [p.1, p.2]
end
end Z
set_option Elab.async false
set_option linter.all false
set_option maxRecDepth 100000
namespace Z
open PySem PySem.Spec PyProof.Rows L2

/-! ### objects -/
def fldD : List Str → List D → Str → Option D
  | n :: ns, d :: ds, f => if f == n then some d else fldD ns ds f
  | _, _, _ => none
/-- what a method promises -/
structure MtD (P : Program) (w : World) (K : Frag) (mg : Str → Option Value) (base : Heap) (CX : CXT) (k : Nat) (C : Addr) (m : Str) {ι : Type} (args : ι → List D) (pre : ι → Prop) (res : ι → Except Addr D) : Prop where
  ex : ∃ (f : Addr) (fd : FuncData) (ps : List Str), FnOk P w K mg base CX k f fd ps (pureSp K args pre res) ∧ Meth K C m f ∧ Binds K fd ps []
section
variable {X : Cx} {ρ : Rho} {M0 : MP} {H0 : Hp} {o e : Expr} {es : List Expr} {d : D} {ds : List D} {ns : List Str} {C : Addr} {f m : Str} {pos p apos : Pos} {CX : CXT} {k : Nat} {x : Str} {ι : Type} {args : ι → List D} {pre : ι → Prop} {res : ι → Except Addr D}
end
section
variable {P : Program} {w : World} {K : Frag} {mg : Str → Option Value} {base : Heap} {CX : CXT} {k : Nat} {x qual : Str} {st : Stmt} {f C : Addr} {fd : FuncData} {N ps : List Str} {ι : Type} {args : ι → List D} {pre : ι → Prop} {res : ι → Except Addr D}
end

/-! ### an object that is being made -/
def hideH (H : Hp) (x : Addr) : Hp := fun b => if b = x then none else H b
/-- no object of a class in it -/
def D.noI : Nat → D → Prop
  | _, .non => True
  | _, .bl _ => True
  | _, .int _ => True
  | _, .str _ => True
  | n + 1, .tup ds => ∀ d ∈ ds, D.noI n d
  | n + 1, .lst ds => ∀ d ∈ ds, D.noI n d
  | _, _ => False
theorem Dns_all {K : Frag} {M : MP} {H H' : Hp} : ∀ {ds : List D} {xs : List V}, (∀ d ∈ ds, ∀ v, Dn K M H d v → Dn K M H' d v) → Dns K M H ds xs → Dns K M H' ds xs
  | [], _, _, r => r
  | d :: ds, _, h, ⟨v, t, e, h1, h2⟩ => ⟨v, t, e, h d (.head _) v h1, Dns_all (fun x hx => h x (.tail _ hx)) h2⟩
section
variable {X : Cx} {ρ : Rho} {M0 : MP} {H0 H : Hp} {γ : List (D × V)} {α : Nat → Addr} {σ : St} {En : Ends} {c e : Expr} {d : D} {s1 : List Stmt} {pos pos' p : Pos} {x C dx : Addr} {f y : Str} {fs : List (Str × V)}
theorem skipIf (h : TvD X ρ c false) (R : Rep X.K M0 H0 γ α ρ σ H) (k : ∀ H', Same H H' → En.nx σ H') : tS X (.If c s1 [] pos) En σ H :=
  (ps_if ptT psSs psSs).to (h M0 H0 γ α σ H _ R fun H1 s => iteF (pss_nil.to (k H1 s)))
end
/-- what __init__ promises: the fields' data -/
def mkSp (K : Frag) (C : Addr) (ns : List Str) {ι : Type} (args : ι → List D) (pre : ι → Prop) (res : ι → List D → Prop) : Sp := fun vs H Q E =>
  ∃ (i : ι) (M0 : MP) (x dx : Addr) (us : List V), vs = .ref x :: us ∧ H x = some (.ins C dx []) ∧ (∀ a, M0 a → hideH H x a ≠ none) ∧ Dns K M0 H (args i) us ∧ pre i ∧
    ∀ ds fs H', res i ds → Same (hideH H x) H' → H' x = some (.ins C dx fs) → fs.map (·.1) = ns → Dns K M0 H' ds (fs.map (·.2)) → Q .non H'
structure MkD (P : Program) (w : World) (K : Frag) (mg : Str → Option Value) (base : Heap) (CX : CXT) (k : Nat) (x : Str) (C : Addr) (ns : List Str) {ι : Type} (args : ι → List D) (pre : ι → Prop) (res : ι → List D → Prop) : Prop where
  ex : ∃ (f : Addr) (fd : FuncData) (ps : List Str), FnOk P w K mg base CX k f fd ps (mkSp K C ns args pre res) ∧ Mk K C f ∧ mg x = some (.ref C) ∧ Binds K fd ps []
section
variable {X : Cx} {ρ : Rho} {e : Expr} {es : List Expr} {C : Addr} {x : Str} {ns : List Str} {pos p : Pos} {CX : CXT} {k : Nat} {ι : Type} {args : ι → List D} {pre : ι → Prop} {res : ι → List D → Prop}
end
end Z
set_option Elab.async false
set_option linter.all false
set_option maxRecDepth 100000
namespace Z
open PySem PySem.Spec PyProof.Rows L2

/-! ### a comprehension that takes one name from around -/
def cfStep (env : Env) (x : Str × NameKind) (r : List (Str × Addr)) : Sem (ForInStep (List (Str × Addr))) := do
  if x.2 == NameKind.free then do
    let a ← cellOf env x.1
    pure (ForInStep.yield ((x.1, a) :: r))
  else pure (ForInStep.yield r)
theorem cf_skip {env : Env} : ∀ (l rest : List (Str × NameKind)) (acc : List (Str × Addr)), (∀ z ∈ l, z.2 ≠ .free) → forIn (l ++ rest) acc (cfStep env) = forIn rest acc (cfStep env)
  | [], _, _, _ => rfl
  | z :: l, rest, acc, h => by
    have hz : (z.2 == NameKind.free) = false := by simpa using h z (.head _)
    rw [List.cons_append, List.forIn_cons]
    have e : cfStep env z acc = pure (ForInStep.yield acc) := by unfold cfStep; rw [hz]; rfl
    rw [e]
    simp only [pure_bind]
    exact cf_skip l rest acc fun w hw => h w (.tail _ hw)
theorem closureFor_one {scope : Scope} {env : Env} {y : Str} {c : Addr} {pre post : List (Str × NameKind)} (hs : scope.names = pre ++ (y, .free) :: post) (h1 : ∀ z ∈ pre, z.2 ≠ .free) (h2 : ∀ z ∈ post, z.2 ≠ .free) (hc : env.cells.lookup y = some c) : closureFor scope env = pure [(y, c)] := by
  have all : forIn scope.names ([] : List (Str × Addr)) (cfStep env) = pure [(y, c)] := by
    rw [hs, cf_skip pre _ [] h1, List.forIn_cons]
    have e : cellOf env y = pure c := by unfold cellOf; rw [hc]
    have e2 : cfStep env (y, .free) [] = pure (ForInStep.yield [(y, c)]) := by
      unfold cfStep
      simp only [beq_self_eq_true, if_true, e, pure_bind]
    rw [e2]
    simp only [pure_bind]
    have := cf_skip (env := env) post [] [(y, c)] h2
    rw [List.append_nil] at this
    rw [this]
    rfl
  have e2 := congrArg (fun m => m >>= fun r => (pure r : Sem (List (Str × Addr)))) all
  have e3 : closureFor scope env = (forIn scope.names ([] : List (Str × Addr)) (cfStep env) >>= fun r => pure r) := rfl
  rw [e3, all]
  rfl
theorem CompOk.cap1 {X : Cx} {scope : Scope} {x y : Str} {c : Addr} {j : Nat} {pre post rn : List (Str × NameKind)} (hs : scope.names = pre ++ (y, .free) :: post) (h1 : ∀ z ∈ pre, z.2 ≠ .free) (h2 : ∀ z ∈ post, z.2 ≠ .free) (hcl : X.env.cells.lookup y = some c)
    (hc : ∀ z ∈ scope.names, z.2 ≠ .cell) (hk : scope.kind = .function) (hn : ∀ y ∈ scope.names, y.2 = .local → scope.names.lookup y.1 = some .local) (ho : scope.names.lookup x = some .local) (hj : X.N[j]? = some y) (hy : X.env.scope.names.lookup y = some .cell)
    (hrel : (relabel scope X.env).names = rn) (hrn : rn.lookup y = some .cell) (hall : ∀ z ∈ rn, (z.2 = .cell ∨ z.2 = .free) → z.1 = y) : CompOk X [x, y] [j] scope x [(y, c)] where
  clos := closureFor_one hs h1 h2 hcl
  cell := hc
  kind := hk
  names := hn
  own := ho
  hN := ⟨[y], rfl, rfl, fun i z k e1 e2 => by
    cases i with
    | zero =>
      have e1' : y = z := by simpa using e1
      have e2' : j = k := by simpa using e2
      subst e1' e2'
      refine ⟨hj, hy, by rw [hrel]; exact hrn, fun c' e => ?_⟩
      rw [hcl] at e
      cases e
      simp
    | succ i => simp at e1⟩
  sub := fun z d h => by
    rw [List.lookup_cons] at h
    cases hb : z == y with
    | true =>
      rw [hb] at h
      cases h
      rw [beq_iff_eq.mp hb]
      exact hcl
    | false => rw [hb] at h; simp at h
  has := fun z h => by
    rw [hrel] at h
    have : z = y := by
      rcases h with h | h
      · exact hall _ (PySem.mem_of_lookup h) (.inl rfl)
      · exact hall _ (PySem.mem_of_lookup h) (.inr rfl)
    subst this
    exact ⟨c, by simp⟩
theorem cap1R {ρ : Rho} {j : Nat} {c : D} (h : ρ[j]? = some (.im c)) : CapR ρ [j] [c] := ⟨rfl, fun k i d e1 e2 => by
  cases k with
  | zero =>
    have e1' : j = i := by simpa using e1
    have e2' : c = d := by simpa using e2
    subst e1' e2'
    exact h
  | succ k => simp at e1⟩

/-! ### isinstance of one of two types -/
section
variable {X : Cx} {ρ : Rho} {e a b : Expr} {d : D} {ds : List D} {pos p p2 p3 p4 : Pos}
def rIsi2 (K : Frag) : List V → Hp → VK → Prop := fun xs H Q => ∃ v tp M d, xs = [v, .ref tp] ∧ H tp = some (.tup [.ty "list", .ty "tuple"]) ∧ DnT K M H d v ∧ plainD d = true ∧ Q (.bl (isT "list" d || isT "tuple" d)) H
end
end Z
set_option Elab.async false
set_option linter.all false
set_option maxRecDepth 100000
namespace Z
open PySem PySem.Spec PyProof.Rows L2

/-! ### sorted(..) of ints -/
def srt (ns : List Int) : List Int := ns.mergeSort fun a b => decide (a ≤ b)
section
variable {X : Cx} {ρ : Rho} {M0 : MP} {H0 : Hp} {P : Post} {e a b c tg : Expr} {d : D} {ds : List D} {pos p p1 p2 : Pos}
/-! ### is not True -/
/-! ### range downwards -/
def Itdn (lo : Int) (n : Nat) : It := ⟨fun i _ => i < n, fun i H x H' => H' = H ∧ x = .int (lo - i), fun i _ => n ≤ i⟩
def iDown (ta : TA) : TI := fun σ H R => ta σ H fun vs H1 => ∃ i j : Int, vs = [.int i, .int j, .int (-1)] ∧ (-(2 ^ 30) ≤ i ∧ i < 2 ^ 30 ∧ -(2 ^ 30) ≤ j ∧ j < 2 ^ 30) ∧ R (Itdn i (i - j).toNat) H1
/-- lo, lo - 1, .., n of them -/
def dnD (lo : Int) (n : Nat) : List D := (List.range n).map fun (i : Nat) => D.int (lo - (i : Int))
end
end Z
set_option Elab.async false
set_option linter.all false
set_option maxRecDepth 100000
namespace Z
open PySem PySem.Spec PyProof.Rows L2

/-! ### a comprehension whose items are new lists of ints: all apart -/
/-- the list at D0 holds the lists at as, which hold the rows -/
structure RowsAt (H1 : Hp) (D0 : Addr) (as : List Addr) (rows : List (List Int)) (H : Hp) : Prop where
  at_ : H D0 = some (.lst (as.map V.ref))
  len : as.length = rows.length
  nd : as.Nodup
  no : D0 ∉ as
  old : H1 D0 = none
  row : ∀ (j : Nat) (a : Addr) (r : List Int), as[j]? = some a → rows[j]? = some r → H1 a = none ∧ H a = some (.lst (r.map V.int))
structure CInvF (H1 : Hp) (es : List (List Int)) (i : Nat) (D0 : Addr) (as : List Addr) (H : Hp) : Prop where
  same : Same H1 H
  rows : RowsAt H1 D0 as (es.take i) H
theorem RowsAt.same {H1 H H' : Hp} {D0 : Addr} {as : List Addr} {rows : List (List Int)} (h : RowsAt H1 D0 as rows H) (s : Same H H') : RowsAt H1 D0 as rows H' :=
  ⟨s _ _ h.at_, h.len, h.nd, h.no, h.old, fun j a r e1 e2 => ⟨(h.row j a r e1 e2).1, s _ _ (h.row j a r e1 e2).2⟩⟩
theorem RowsAt.snoc {H1 H6 H7 : Hp} {D0 l : Addr} {as : List Addr} {rows : List (List Int)} {r : List Int} (h : RowsAt H1 D0 as rows H6) (s1 : Same H1 H6) (s7 : Same H6 H7) (hl : H6 l = none) (h7 : H7 l = some (.lst (r.map V.int))) : RowsAt H1 D0 (as ++ [l]) (rows ++ [r]) (upd H7 D0 (.lst ((as ++ [l]).map V.ref))) := by
  have lD : l ≠ D0 := fun e => by subst e; rw [h.at_] at hl; cases hl
  have las : l ∉ as := fun m => by
    obtain ⟨j, hj, e⟩ := List.getElem_of_mem m
    have hr : j < rows.length := by rw [← h.len]; exact hj
    have := (h.row j l rows[j] (by rw [List.getElem?_eq_getElem hj, e]) (List.getElem?_eq_getElem hr)).2
    rw [hl] at this; cases this
  refine ⟨upd_same, by rw [List.length_append, List.length_append, h.len]; rfl, ?_, ?_, h.old, fun j a r' e1 e2 => ?_⟩
  · rw [List.nodup_append]
    refine ⟨h.nd, by simp, fun a ha b hb => ?_⟩
    have : b = l := by simpa using hb
    subst this
    exact fun e => las (e ▸ ha)
  · intro m
    rcases List.mem_append.mp m with m | m
    · exact h.no m
    · have : D0 = l := by simpa using m
      exact lD this.symm
  · by_cases hj : j < as.length
    · rw [List.getElem?_append_left hj] at e1
      rw [List.getElem?_append_left (by rw [← h.len]; exact hj)] at e2
      obtain ⟨q1, q2⟩ := h.row j a r' e1 e2
      have ne : a ≠ D0 := fun e => h.no (e ▸ List.mem_of_getElem? e1)
      exact ⟨q1, by rw [upd_ne ne]; exact s7 _ _ q2⟩
    · rw [List.getElem?_append_right (by omega)] at e1
      rw [List.getElem?_append_right (by rw [← h.len]; omega), ← h.len] at e2
      cases hz : j - as.length with
      | zero =>
        rw [hz] at e1 e2
        have e1' : l = a := by simpa using e1
        have e2' : r = r' := by simpa using e2
        subst e1' e2'
        exact ⟨s1.free hl, by rw [upd_ne lD]; exact h7⟩
      | succ z => rw [hz] at e1; simp at e1
section
variable {X : Cx} {pins : List (Addr × Obj)} {σ : St} {H1 : Hp} {s₂ : Shared} {N' : List Str} {js : List Nat} {scope : Scope} {x : Str} {cl : List (Str × Addr)} {px pos : Pos} {elt iter : Expr} {J : It} {fp : List Addr} {it : Addr} {tn : Nat → Heap → Prop}
  {ds cs : List D} {es : List (List Int)} {gs : List (D × V)} {M : MP} {E : Value → Shared → Prop} {RR : Value → Addr → Result → Shared → Prop}
end
end Z
set_option Elab.async false
set_option linter.all false
set_option maxRecDepth 100000
namespace Z
open PySem PySem.Spec PyProof.Rows L2
/-! ### lists of ints inside a list, changed -/
def rowL (r : List Int) : D := .lst (r.map .int)
def rowsL (rows : List (List Int)) : D := .lst (rows.map rowL)
theorem Dns_of_get {K : Frag} {M : MP} {H : Hp} : ∀ {ds : List D} {xs : List V}, xs.length = ds.length → (∀ (j : Nat) d v, ds[j]? = some d → xs[j]? = some v → Dn K M H d v) → Dns K M H ds xs
  | [], [], _, _ => rfl
  | [], _ :: _, h, _ => by simp at h
  | _ :: _, [], h, _ => by simp at h
  | d :: ds, v :: xs, h, k => ⟨v, xs, rfl, k 0 d v rfl rfl, Dns_of_get (by simpa using h) fun j d v e1 e2 => k (j + 1) d v (by simpa using e1) (by simpa using e2)⟩
section
variable {K : Frag} {M0 M : MP} {H0 Hs H H' : Hp} {γ : List (D × V)} {α : Nat → Addr} {ρ : Rho} {σ : St} {D0 : Addr} {as : List Addr} {rows : List (List Int)}
theorem RowsAt.dn (ra : RowsAt Hs D0 as rows H) (hM : ∀ a, M a → Hs a ≠ none) : Dn K M H (rowsL rows) (.ref D0) := by
  refine ⟨D0, _, rfl, .inl ⟨.inl ra.at_, fun m => hM _ m ra.old⟩, Dns_of_get (by rw [List.length_map, List.length_map, ra.len]) fun j d v e1 e2 => ?_⟩
  rw [List.getElem?_map] at e1 e2
  cases ea : as[j]? with
  | none => rw [ea] at e2; cases e2
  | some a =>
    rw [ea] at e2
    cases e2
    cases er : rows[j]? with
    | none => rw [er] at e1; cases e1
    | some r =>
      rw [er] at e1
      cases e1
      obtain ⟨q1, q2⟩ := ra.row j a r ea er
      exact ⟨a, _, rfl, .inl ⟨.inl q2, fun m => hM _ m q1⟩, Dns.of_ints r⟩
theorem RowsAt.setRow {n : Nat} {a : Addr} {r : List Int} (ra : RowsAt Hs D0 as rows H) (ha : as[n]? = some a) : RowsAt Hs D0 as (rows.set n r) (upd H a (.lst (r.map V.int))) := by
  have neD : D0 ≠ a := fun e => ra.no (e ▸ List.mem_of_getElem? ha)
  refine ⟨by rw [upd_ne neD]; exact ra.at_, by rw [List.length_set]; exact ra.len, ra.nd, ra.no, ra.old, fun j b r' e1 e2 => ?_⟩
  rcases get_set e2 with ⟨rfl, z⟩ | ⟨ne, z⟩
  · rw [ha] at e1
    cases e1
    subst z
    have hr : j < rows.length := by rw [← ra.len]; exact (List.getElem?_eq_some_iff.mp ha).1
    exact ⟨(ra.row j a rows[j] ha (List.getElem?_eq_getElem hr)).1, upd_same⟩
  · obtain ⟨q1, q2⟩ := ra.row j b r' e1 z
    have nb : b ≠ a := fun e => by
      subst e
      have h1 := List.getElem?_eq_some_iff.mp e1
      have h2 := List.getElem?_eq_some_iff.mp ha
      exact ne ((List.getElem_inj ra.nd).mp (h1.2.trans h2.2.symm))
    exact ⟨q1, by rw [upd_ne nb]; exact q2⟩
/-- no list, no object: slots that do not mind -/
theorem Dn.noLk (kk : ∀ b o, H b = some o → (∀ xs, o ≠ .lst xs) → H' b = some o) : ∀ (n : Nat) {d : D} {v : V}, D.noL n d → Dn K M H d v → Dn K M H' d v := by
  intro n
  induction n with
  | zero => intro d v hf h; cases d <;> first | exact h | exact hf.elim
  | succ n ih =>
    intro d v hf h
    cases d with
    | tup ds =>
      obtain ⟨a, xs, e, s, r⟩ := h
      refine ⟨a, xs, e, ?_, Dns_all (fun d hd v => ih (hf d hd)) r⟩
      rcases s with (s | ⟨o, s⟩) | s
      · exact .inl (.inl (kk _ _ s (by intro _ z; cases z)))
      · exact .inl (.inr ⟨o, kk _ _ s (by intro _ z; cases z)⟩)
      · exact .inr s
    | non => exact h
    | bl _ => exact h
    | int _ => exact h
    | str _ => exact h
    | _ => exact hf.elim
def plainRho (ρ : Rho) : Prop := ∀ s ∈ ρ, s = .un ∨ ∃ d, s = .im d ∧ D.noL 9 d
theorem Rep.updL {a : Addr} {xs ys : List V} (r : Rep K M0 H0 [] α ρ σ H) (h0 : H0 a = none) (ha : H a = some (.lst xs)) (hi : plainRho ρ) : Rep K M0 H0 [] α ρ σ (upd H a (.lst ys)) := by
  have nomu : ∀ (i : Nat) (ds : List D), ρ[i]? = some (.mu ds) → False := fun i ds e => by
    rcases hi _ (List.mem_of_getElem? e) with z | ⟨d, z, _⟩ <;> cases z
  refine ⟨same_upd_none r.same h0, r.old, r.inj, fun i d e => ?_, fun i ds e => (nomu i ds e).elim, (fun p hp => by cases hp), r.len⟩
  obtain ⟨v, h1, h2⟩ := r.im i d e
  rcases hi _ (List.mem_of_getElem? e) with z | ⟨d', z, n⟩
  · cases z
  · cases z
    refine ⟨v, h1, Dn.noLk (fun b o e n => ?_) 9 n h2⟩
    by_cases hb : b = a
    · subst hb
      rw [ha] at e; cases e
      exact absurd rfl (n _)
    · rw [upd_ne hb]; exact e
/-- the rows seen as data -/
theorem Rep.rowsIm {i : Nat} (r : Rep K M0 H0 [] α ρ σ H) (hi : i < ρ.length) (hσ : σ[i]? = some (some (.ref D0))) (hp : plainRho ρ) (ra : RowsAt Hs D0 as rows H) (s : Same H0 Hs) : Rep K M0 H0 [] α (ρ.set i (.im (rowsL rows))) σ H := by
  have nomu : ∀ (i : Nat) (ds : List D), ρ[i]? = some (.mu ds) → False := fun i ds e => by
    rcases hp _ (List.mem_of_getElem? e) with z | ⟨d, z, _⟩ <;> cases z
  have h := r.set_im hi (ra.dn (K := K) (M := MM M0 ρ α) fun a ha z => by
    rcases ha with ha | ⟨j, ds, e, _⟩
    · exact r.old a ha (s.free z)
    · exact nomu j ds e)
  have e : σ.set i (some (.ref D0)) = σ := by
    apply List.ext_getElem?
    intro j
    rw [List.getElem?_set]
    split
    · rename_i e
      subst e
      rw [if_pos (List.getElem?_eq_some_iff.mp hσ).1, hσ]
    · rfl
  rwa [e] at h
end
section
variable {X : Cx} {ρ : Rho} {M0 : MP} {H0 Hs H : Hp} {γ : List (D × V)} {α : Nat → Addr} {σ : St} {En : Ends} {D0 : Addr} {as : List Addr} {rows : List (List Int)} {x : Str} {b e f : Expr} {p1 p2 p3 p4 p5 pos : Pos} {i n : Nat} {r : List Int}
def rInsert : V → List V → Hp → VK → Prop := fun x vs H Q => ∃ l xs k y, x = .ref l ∧ vs = [.int k, .int y] ∧ H l = some (.lst xs) ∧ 0 ≤ k ∧ k ≤ xs.length ∧ xs.length < 1000000 ∧ Q .non (upd H l (.lst (xs.take k.toNat ++ V.int y :: xs.drop k.toNat)))
end
section
variable {P : Program} {w : World} {K : Frag} {mg : Str → Option Value} {base : Heap} {CX : CXT} {k : Nat} {x qual : Str} {st : Stmt} {f : Addr} {fd : FuncData} {N ps : List Str} {ι : Type} {args : ι → List D} {pre : ι → Prop} {res : ι → Except Addr D}
/-- a def that raises nothing, its body at the state of the entry -/
theorem fnD_ofT (F : Fun K x qual st f fd) (S : FnScope N ps (defScope st)) (hm : mg x = some (.ref f)) (hb : Binds K fd ps []) (hl : ∀ i, (args i).length = ps.length)
    (body : ∀ (cdv : Value) (A : Around) (outer : List Env) (s : Shared) (H : Hp) (E : XK) (i : ι) (M0 : MP), pre i → Room k (A.deeper (envOfC qual (defScope st) s.heap.objs.size f cdv)) →
      ∃ d, res i = .ok d ∧ ∀ (σ : St), Rep K M0 H [] (fun _ => 0) (rho0 N (args i)) σ H → tSs (cxOf CX P w K mg base N qual (defScope st) f cdv A outer s H E).nox (defBody st) (ends K M0 H [] { N := fun _ => d = .non, R := fun d' => d' = d }) σ H) : FnD P w K mg base CX (k + 1) x args pre res := by
  refine ⟨f, fd, ps, ?_, hm, F.kp, hb⟩
  obtain ⟨oc, od, kV, doc, pm, an, cdv, ct, osl, rfl, lk, hcd⟩ := F.ex
  refine fn_of lk hcd S (fun vs H Q E ⟨i, M0, _, h, _⟩ => by rw [h.len, hl]) fun A outer s H vs Q E hr hsp => ?_
  obtain ⟨i, M0, hM, h, hp, k1, k2⟩ := hsp
  obtain ⟨d, hd, ws⟩ := body cdv A outer s H E i M0 hp hr
  refine ⟨tSs _ (defBody st), (psSs (X := (cxOf CX P w K mg base N qual (defScope st) f cdv A outer s H E).nox)).nox, ?_⟩
  refine tSs.mono (En := ends K M0 H [] { N := fun _ => d = .non, R := fun d' => d' = d }) (fun σ' H' ⟨α, ρ, R, e⟩ => ?_) (fun v H' ⟨d', e, sm, dn⟩ => ?_) (fun _ _ ⟨_, _, _, z⟩ => z.elim) (fun _ _ ⟨_, _, _, z⟩ => z.elim) (ws _ (rep0 hM h))
  · exact k1 d hd .non H' R.same (by rw [e]; exact rfl)
  · subst e
    exact k1 _ hd v H' sm dn
end
end Z
set_option Elab.async false
set_option linter.all false
set_option maxRecDepth 100000
namespace Z
open PySem PySem.Spec PyProof.Rows

/-! ### an exception leaves a frame: what changes -/
abbrev frL (l : List Env) : List Addr := l.filterMap (·.frame)
/-- the exception at e has the traceback at T -/
def Trd (h : Heap) (e T : Addr) (cls : Value) : Prop :=
  T ≠ e ∧ (∃ oe vs, h.get? e = some oe ∧ oe.cls = cls ∧ oe.data = .fields vs ∧ vs[1]? = some (.ref T) ∧ oe.dict = none) ∧ ∃ oT ts, h.get? T = some oT ∧ oT.data = .fields ts ∧ ts[3]? = some .none
/-- all but the records at ch, the frames' slots -/
structure LeftX (l : List Env) (ch : List Addr) (e T : Addr) (cls : Value) (h h' : Heap) : Prop where
  new : h.objs.size ≤ T
  tr : Trd h' e T cls
  keep : ∀ b o, b ∉ ch → b ∉ frL l → h.get? b = some o → h'.get? b = some o
  slot : ∀ b o, b ∈ frL l → h.get? b = some o → ∃ sl, h'.get? b = some { o with slots := sl }
section
variable {M : Model} {A : Around} {E : Value → Shared → Prop} {s : Shared}
theorem dict_map (f : Array Value → Array Value) (o : Obj) : (Obj.mapFields f o).dict = o.dict := by
  obtain ⟨c, d, dt, sl⟩ := o
  cases dt <;> rfl
theorem leave_core {base : Heap} {env : Env} {outer : List Env} {L e : Addr} {oe : Obj} {vs : Array Value} {head : Value} {hn : Bool} {Q : Unit → Shared → Prop}
    (hfr : A.frames = some (env :: outer)) (hl : s.heap.FunFrames base (env :: outer)) (hf : env.frame = some L) (he : s.heap.get? e = some oe) (hd : oe.data = .fields vs) (hsz : 1 < vs.size) (hdn : oe.dict = none)
    (h : ∀ h' T, LeftX (env :: outer) [e] e T oe.cls s.heap h' → Q () { s with heap := h' }) :
    wpAny M A (do let a ← frameOf env; let pl ← entryPlaceOf L hn; let b ← EntryCells.newEntry head a .none (rawInt L) .none pl; setField (.ref e) 1 b) (fun _ s' => wpAny M A (setFlight (.ref e) none) Q E s') E s := by
  have nofr : ∀ b ∈ frL (env :: outer), b ≠ e := fun b hb q => by
    obtain ⟨_, o, ho, nf⟩ := hl.mem hb
    rw [q, he] at ho
    cases ho
    exact nf vs hd
  refine wpAny_bind (wpAny_frameOf_fun hfr hl hf fun h1 sl1 => wpAny_bind (wpAny_entryPlaceOf fun pl hpl => ?_))
  unfold EntryCells.newEntry newFields
  refine wpAny_bind (wpAny_newObj_type ?_ (hpl.sizeOk5 _ _ _ _ _))
  have e1 : h1.get? e = some oe := (sl1.2.1 e fun m => nofr e m rfl).trans he
  generalize hO : ({ cls := .type "traceback", dict := none, data := .fields ([head, .ref L, .none, rawInt L, .none] ++ (if pl.isEmpty then List.replicate 6 Value.none else pl)).toArray } : Obj) = oT
  have dT : ∃ ts : Array Value, oT.data = .fields ts ∧ 3 < ts.size := ⟨_, by rw [← hO], by simp only [List.size_toArray, List.length_append, List.length_cons]; omega⟩
  have fT : oT.isFreed = false := by obtain ⟨ts, q, _⟩ := dT; exact Obj.isFreed_of_fields q
  have e2 : (h1.push oT).get? e = some oe := Heap.get?_push_of_some _ e1
  have t2 : (h1.push oT).get? h1.objs.size = some oT := Heap.get?_push_size _ fT
  have ne : h1.objs.size ≠ e := Nat.ne_of_gt (Heap.lt_size e1)
  refine wpAny_setField e2 hd hsz ?_
  generalize hU : (h1.push oT).update e (Obj.mapFields (·.setIfInBounds 1 (Value.ref h1.objs.size))) = h3
  have d3 := Obj.data_mapFields hd (·.setIfInBounds 1 (Value.ref h1.objs.size))
  have e3 : h3.get? e = some (Obj.mapFields (·.setIfInBounds 1 (Value.ref h1.objs.size)) oe) := by rw [← hU]; exact Heap.get?_update_self _ e2 (Obj.isFreed_of_fields d3)
  have k3 : ∀ b, b ≠ e → h3.get? b = (h1.push oT).get? b := fun b hb => by rw [← hU]; exact Heap.get?_update_other _ _ hb.symm
  have t3 : h3.get? h1.objs.size = some oT := (k3 _ ne).trans t2
  obtain ⟨ts, dts, lts⟩ := dT
  unfold setFlight
  refine wpAny_bind (wpAny_field e3 d3 (x := .ref h1.objs.size) (by simp [hsz]) ?_)
  rw [if_pos (show (Value.ref h1.objs.size != Value.none) = true from by simp)]
  refine wpAny_setField t3 dts lts (h _ h1.objs.size ⟨Nat.le_of_eq sl1.1.symm, ⟨ne, ⟨_, _, ?_, Obj.cls_mapFields _ _, d3, by simp [hsz], (dict_map _ _).trans hdn⟩, ⟨_, _, Heap.get?_update_self _ t3 (Obj.isFreed_of_fields (Obj.data_mapFields dts _)), Obj.data_mapFields dts _, by simp [lts]⟩⟩, fun b o n1 n2 q => ?_, fun b o m q => ?_⟩)
  · rw [Heap.get?_update_other _ _ ne]
    exact e3
  · have q1 : h1.get? b = some o := (sl1.2.1 b n2).trans q
    have nb : h1.objs.size ≠ b := Nat.ne_of_gt (Heap.lt_size q1)
    rw [Heap.get?_update_other _ _ nb, k3 b fun z => n1 (by simp [z])]
    exact Heap.get?_push_of_some _ q1
  · obtain ⟨sl, q1⟩ := sl1.2.2 b o q
    have nb : h1.objs.size ≠ b := Nat.ne_of_gt (Heap.lt_size q1)
    refine ⟨sl, ?_⟩
    rw [Heap.get?_update_other _ _ nb, k3 b (nofr b m)]
    exact Heap.get?_push_of_some _ q1
theorem leave_first {base : Heap} {env : Env} {outer : List Env} {L e : Addr} {oe : Obj} {vs : Array Value} {Q : Unit → Shared → Prop} (hfr : A.frames = some (env :: outer)) (hl : s.heap.FunFrames base (env :: outer)) (hf : env.frame = some L)
    (he : s.heap.get? e = some oe) (hd : oe.data = .fields vs) (h1 : vs[1]? = some .none) (hdn : oe.dict = none) (h : ∀ h' T, LeftX (env :: outer) [e] e T oe.cls s.heap h' → Q () { s with heap := h' }) : wpAny M A (leaving env (.ref e)) Q E s := by
  unfold leaving noteFrame
  simp only [hf]
  refine wpAny_bind (wpAny_bind (wpAny_field he hd h1 ?_))
  rw [if_neg (by decide)]
  exact leave_core hfr hl hf he hd (Array.getElem?_eq_some_iff.mp h1).1 hdn h
end
end Z
set_option Elab.async false
set_option linter.all false
set_option maxRecDepth 100000
namespace Z
open PySem PySem.Spec PyProof.Rows L2
/-! ### exceptions: how one lies behind a call -/
/-- the callers' frames up to slots; the exception at a, of the class at C, its traceback at T: both new, not tracked -/
def CXr (P : Program) (w : World) : CXT := fun outer H s E e s' => ∃ (a T C : Addr) (H' : Hp), e = .ref a ∧ s'.os = s.os ∧ AllBare s'.gens ∧ Un (frs outer) [] H H' s.heap s'.heap ∧ HOk P w H' s'.heap ∧ s.heap.get? a = none ∧ s.heap.get? T = none ∧ H' a = none ∧ H' T = none ∧ Trd s'.heap a T (.ref C) ∧ E (.ref C) none H'
theorem cxr_no {P : Program} {w : World} : ∀ l H s e s', CXr P w l H s E0 e s' → False := fun _ _ _ _ _ ⟨_, _, _, _, _, _, _, _, _, _, _, _, _, _, z⟩ => z
section
variable {P : Program} {w : World} {H : Hp} {h : Heap} {a : Addr} {o : HO}
theorem obj_there (x : ObjOk P w H h a o) : ∃ u, h.get? a = some u := by
  cases o with
  | lst xs => obtain ⟨_, _, _, _, e⟩ := x; exact ⟨_, e⟩
  | tup xs => obtain ⟨_, _, _, o, e, _⟩ := x; exact ⟨_, e⟩
  | dK kvs => obtain ⟨_, _, _, _, o, _, _, e, _⟩ := x; exact ⟨_, e⟩
  | dT kvs => obtain ⟨_, _, xs, _, o, es, ep, e, _⟩ := x; exact ⟨_, e⟩
  | set S n => obtain ⟨o, es, ep, t, e, _⟩ := x; exact ⟨_, e⟩
  | ins C dx fs => obtain ⟨_, _, _, e, _⟩ := x; exact ⟨_, e⟩
  | own b => exact x
  | xd fs => obtain ⟨_, ⟨_, _, _, e, _⟩, _⟩ := x; exact ⟨_, e⟩
  | rng lo hi => obtain ⟨_, _, _, e⟩ := x; exact ⟨_, e⟩
  | frz o u => exact ⟨_, x.1⟩
  | tbl ps => exact ⟨_, x⟩
  | met f y => exact ⟨_, x⟩
  | ext φ => exact x.2.1
theorem hok_none (x : HOk P w H h) (e : h.get? a = none) : H a = none := by
  cases q : H a with
  | none => rfl
  | some o =>
    obtain ⟨u, z⟩ := obj_there (x a o q)
    rw [e] at z; cases z
end
section
variable {X : Cx} {pins : List (Addr × Obj)} {σ : St} {H : Hp} {s : Shared} {h' : Heap} {ch : List Addr} {e T : Addr} {cls : Value}
/-- out of the frame -/
theorem left_out (I : Inv X pins σ H s) (hst : X.stack = X.env :: X.outer) (hex : X.ex = []) (hf : X.env.frame = some X.env.locals) (x : LeftX (X.env :: X.outer) ch e T cls s.heap h') (hch : ∀ b ∈ ch, H b = none ∧ X.s₀.heap.get? b = none) :
    Un (frs X.outer) [] X.H₀ H X.s₀.heap h' ∧ HOk X.prog X.w H h' := by
  have B : Un (frs X.outer) [] X.H₀ H X.s₀.heap s.heap := by have := I.base; rwa [hex] at this
  have nch : ∀ b o, X.s₀.heap.get? b = some o → b ∉ ch := fun b o q m => by rw [(hch b m).2] at q; cases q
  have frl : ∀ b, b ∈ frL (X.env :: X.outer) ↔ b = X.env.locals ∨ b ∈ frs X.outer := fun b => by
    show b ∈ List.filterMap (·.frame) (X.env :: X.outer) ↔ _
    rw [List.filterMap_cons, hf]
    exact List.mem_cons
  have nL : ∀ b o, X.s₀.heap.get? b = some o → b ≠ X.env.locals := fun b o q => Nat.ne_of_lt (Nat.lt_of_lt_of_le (Heap.lt_size q) I.ok.above)
  refine ⟨⟨fun b o q n hb _ => ?_, fun b o q n hb hx => ?_, fun b o q n hx => B.free b o q n hx, fun b o q hx => ?_, B.tups, B.frzs, B.tbls⟩, fun b u q => ?_⟩
  · exact x.keep b o (nch b o q) (fun m => ((frl b).mp m).elim (nL b o q) hb) (B.keep b o q n hb (by simp))
  · obtain ⟨sl, q1⟩ := B.slot b o q n hb hx
    obtain ⟨sl', q2⟩ := x.slot b _ ((frl b).mpr (.inr hb)) q1
    exact ⟨sl', q2⟩
  · obtain ⟨o', q1⟩ := B.there b o q hx
    by_cases m : b ∈ frL (X.env :: X.outer)
    · obtain ⟨sl, q2⟩ := x.slot b o' m q1
      exact ⟨_, q2⟩
    · exact ⟨o', x.keep b o' (nch b o q) m q1⟩
  · have ok : ∀ c v, H c = some v → c ∉ ch ∧ c ∉ frL (X.env :: X.outer) := fun c v z => by
      refine ⟨fun m => ?_, fun m => ?_⟩
      · rw [(hch c m).1] at z
        cases z
      · have := I.stkFree c (by rw [hst]; exact m)
        rw [this] at z
        cases z
    refine (I.hok b u q).stay (fun c v hc z => ?_) (fun _ z => z) fun _ _ z => z
    have := hc.elim (fun z => by rw [z]; exact ok b u q) fun z => ok c _ z
    exact x.keep c v this.1 this.2 z
end
section
variable {P : Program} {w : World} {K : Frag} {mg : Str → Option Value} {base : Heap} {N : List Str} {qual : Str} {scope : Scope} {f : Addr} {cd : Value} {A : Around} {outer : List Env} {s0 : Shared} {H0 : Hp} {E : XK}
abbrev cxR (P : Program) (w : World) (K : Frag) (mg : Str → Option Value) (base : Heap) (N : List Str) (qual : Str) (scope : Scope) (f : Addr) (cd : Value) (A : Around) (outer : List Env) (s0 : Shared) (H0 : Hp) (E : XK) : Cx := cxOf (CXr P w) P w K mg base N qual scope f cd A outer s0 H0 E
/-- an exception made here -/
theorem raise_here {pins : List (Addr × Obj)} {σ : St} {H : Hp} {s : Shared} {h1 : Heap} {e C : Addr} {vs : List Value} (I : Inv (cxR P w K mg base N qual scope f cd A outer s0 H0 E) pins σ H s) (m : Heap.MadeExcOf s.heap h1 e (.ref C) vs) (hE : E (.ref C) none H) :
    (cxR P w K mg base N qual scope f cd A outer s0 H0 E).xe (.ref e) { s with heap := h1 } := by
  have I1 : Inv (cxR P w K mg base N qual scope f cd A outer s0 H0 E) pins σ H { s with heap := h1 } := I.kept (t' := s.toks) m.keeps
  obtain ⟨t, he, _, _⟩ := m.there
  have n0 : s0.heap.get? e = none := by
    cases q : s0.heap.get? e with
    | none => rfl
    | some o =>
      obtain ⟨o', z⟩ := I.base.there e o q (by simp [cxOf])
      rw [m.new] at z; cases z
  refine leave_first (s := { s with heap := h1 }) (base := base) I1.ok.frames I1.stack rfl he rfl rfl rfl fun h2 T x => ?_
  have hH : H e = none := hok_none I.hok m.new
  obtain ⟨u, hk⟩ := left_out I1 rfl rfl rfl x (fun b hb => by
    have : b = e := by simpa using hb
    subst this
    exact ⟨hH, n0⟩)
  have nT : s0.heap.get? T = none := Heap.get?_none_of_le (Nat.le_trans I1.sz x.new)
  exact ⟨e, T, C, H, rfl, I.os, I.bare, u, hk, n0, nT, hH, I1.hok.fresh x.new, x.tr, hE⟩
end
end Z
set_option Elab.async false
set_option linter.all false
set_option maxRecDepth 100000
namespace Z
open PySem PySem.Spec PyProof.Rows L2
/-- what lies above ValueError -/
abbrev vErr : List Value := [.type "ValueError", .type "Exception", .type "BaseException", .type "object"]
/-- an own class of errors -/
structure OwnE (x : Str) (C : Addr) (mg : Str → Option Value) (base : Heap) : Prop where
  ex : ∃ (newId Bn inN : String) (bmN : List Value), OwnCls x C vErr newId mg base ∧ ExcBaseFacts Bn newId inN bmN ∧ vErr.contains (.type Bn) = true
/-- the evaluation raises -/
def RvD (X : Cx) (ρ : Rho) (E : XK) (e : Expr) (C : Addr) : Prop := ∀ (M0 : MP) (H0 : Hp) (γ : List (D × V)) (α : Nat → Addr) (σ : St) (H : Hp) (Q : VK), Rep X.K M0 H0 γ α ρ σ H → (∀ a H', Same H H' → E (.ref C) a H') → tE X e σ H Q
def RsD (X : Cx) (ρ : Rho) (E : XK) (st : Stmt) (C : Addr) : Prop := ∀ (M0 : MP) (H0 : Hp) (γ : List (D × V)) (α : Nat → Addr) (σ : St) (H : Hp) (En : Ends), Rep X.K M0 H0 γ α ρ σ H → (∀ a H', Same H H' → E (.ref C) a H') → tS X st En σ H
def RssD (X : Cx) (ρ : Rho) (E : XK) (st : List Stmt) (C : Addr) : Prop := ∀ (M0 : MP) (H0 : Hp) (γ : List (D × V)) (α : Nat → Addr) (σ : St) (H : Hp) (En : Ends), Rep X.K M0 H0 γ α ρ σ H → (∀ a H', Same H H' → E (.ref C) a H') → tSs X st En σ H
section
variable {X : Cx} {ρ : Rho} {E : XK} {e c : Expr} {es : List Expr} {st : Stmt} {sts s1 s2 : List Stmt} {C : Addr} {d : D} {pos p pos' : Pos} {CX : CXT} {k : Nat} {x : Str} {ι : Type} {args : ι → List D} {pre : ι → Prop} {res : ι → Except Addr D}
theorem RsD.ite {t : Bool} (h : TvD X ρ c t) (h1 : t = true → RssD X ρ E s1 C) (h2 : t = false → RssD X ρ E s2 C) : RsD X ρ E (.If c s1 s2 pos) C := fun M0 H0 γ α σ H En R kE =>
  (ps_if ptT psSs psSs).to (h M0 H0 γ α σ H _ R fun H1 s => by
    cases e : t with
    | true => exact iteT (h1 e M0 H0 γ α σ H1 _ (R.next s) fun a H' s' => kE a H' (s.trans s'))
    | false => exact iteF (h2 e M0 H0 γ α σ H1 _ (R.next s) fun a H' s' => kE a H' (s.trans s')))
theorem RssD.here (h : RsD X ρ E st C) : RssD X ρ E (st :: sts) C := fun M0 H0 γ α σ H En R kE => (pss_cons psS psSs).to (h M0 H0 γ α σ H _ R kE)
/-- a test that is false is passed by -/
theorem RssD.skip (h : TvD X ρ c false) (k : RssD X ρ E sts C) : RssD X ρ E (.If c s1 [] pos :: sts) C := fun M0 H0 γ α σ H En R kE =>
  (pss_cons psS psSs).to (skipIf h R fun H' s => k M0 H0 γ α σ H' En (R.next s) fun a H2 s2 => kE a H2 (s.trans s2))
theorem RssD.setF {i : Nat} {ds : List D} (hN : X.N.Nodup) (hi : X.N[i]? = some x) (hx : Loc X.env.scope x) (hl : i < ρ.length) (h : EvF X ρ e ds) (k : RssD X (ρ.set i (.mu ds)) E sts C) (hs : swapsWith e (some (.Name x pos')) pos.line X.env = pure false := by rfl) (hf : X.fn x = true ∨ X.env.scope.names.lookup x = some .local := by first | exact .inl rfl | exact .inr rfl | assumption) :
    RssD X ρ E (.Assign [.Name x pos'] e pos :: sts) C := fun M0 H0 γ α σ H En R kE =>
  (pss_cons psS psSs).to ((ps_set hN hi hx peE hs hf).to (h M0 H0 γ α σ H _ R fun l xs H1 H' s n s' y dn => k M0 H0 γ _ _ H' En ((R.next s).set_mu hl n s' y dn) fun a H2 s2 => kE a H2 ((s.trans s').trans s2)))
end
section
variable {P : Program} {w : World} {K : Frag} {mg : Str → Option Value} {base : Heap} {N : List Str} {qual : Str} {scope : Scope} {f : Addr} {cd : Value} {A : Around} {outer : List Env} {s0 : Shared} {H0 : Hp} {E : XK}
/-- raise C(e) -/
theorem RsD.raise {ρ : Rho} {x : Str} {C : Addr} {e : Expr} {d : D} {np cpos pos : Pos} (O : OwnE x C mg base) (hg : Gl (cxR P w K mg base N qual scope f cd A outer s0 H0 E) x) (he : EvD (cxR P w K mg base N qual scope f cd A outer s0 H0 E) ρ e d)
    (hs : starEach [e] (cxR P w K mg base N qual scope f cd A outer s0 H0 E).env = [(false, eval e (cxR P w K mg base N qual scope f cd A outer s0 H0 E).env)] := by rfl) (hdb : (x == ("__debug__" : Str)) = false := by decide) :
    RsD (cxR P w K mg base N qual scope f cd A outer s0 H0 E) ρ E (.Raise (some (.Call (.Name x np) [e] [] cpos)) none pos) C := fun M0 Hb γ α σ H En R kE pins s I => by
  obtain ⟨newId, Bn, inN, bmN, O, Fn, hBn⟩ := O.ex
  obtain ⟨tl, N', nm, q, bs, hdct, sn, sub, ab, col, dd, k0, k1, k2, k3, k5, mN, hC, hN, hni, T⟩ := O.obj
  have hlen : ∀ us : List Value, us.length = 1 → us.length ≤ sizeLine := fun us h => by rw [h]; decide
  refine wpAny_Raise_call_subU (C := C) (nm := nm) (q := q) (N := N') (bs := bs) (bm := tl) (hdct := hdct) (sn := sn) (sub := sub) (ab := ab) (col := col) (dd := dd) (k0 := k0) (k1 := k1) (k2 := k2) (k3 := k3) (k5 := k5) (newId := newId) Fn hBn PySem.F.excBase_ValueError (mN := mN) (T.hasType PySem.F.excBase_ValueError.hasBase) (I.ok.hd rfl) (by rw [hs]; rfl) hni (ld_glob I hg O.bound ⟨rfl, ?_⟩ hdb)
  have run := (pa_cons (peE (X := cxR P w K mg base N qual scope f cd A outer s0 H0 E) (e := e)) pa_nil hs) cpos pins s σ H (fun vs H1 => vs.length = 1 ∧ Same H H1) I (he M0 Hb γ α σ H _ R fun v H1 s1 _ => ⟨rfl, s1⟩)
  rw [hs] at run ⊢
  refine Calls.evalArgs_plain (wpAny_mono run (fun us s2 h2 => ?_) fun _ _ z => z)
  obtain ⟨vs, H1, I2, r2, l1, sm⟩ := h2
  have kp : ∀ b o, base.get? b = some o → s2.heap.get? b = some o := I2.bk
  exact ⟨rfl, hlen us (r2.length ▸ l1), kp _ _ hC, hN.keeps kp, T.keeps kp, fun h' ex m => raise_here I2 m (kE none H1 sm)⟩
end
section
variable {P : Program} {w : World} {K : Frag} {mg : Str → Option Value} {base : Heap} {k : Nat} {x qual : Str} {st : Stmt} {f : Addr} {fd : FuncData} {N ps : List Str} {ι : Type} {args : ι → List D} {pre : ι → Prop} {res : ι → Except Addr D}
/-- a def that may raise -/
theorem fnD_ofX (F : Fun K x qual st f fd) (S : FnScope N ps (defScope st)) (hm : mg x = some (.ref f)) (hb : Binds K fd ps []) (hl : ∀ i, (args i).length = ps.length)
    (body : ∀ (cdv : Value) (A : Around) (outer : List Env) (s : Shared) (H : Hp) (E : XK) (i : ι) (M0 : MP), pre i → Room k (A.deeper (envOfC qual (defScope st) s.heap.objs.size f cdv)) →
      (∃ d, res i = .ok d ∧ WS (cxR P w K mg base N qual (defScope st) f cdv A outer s H E).nox M0 H (defBody st) (rho0 N (args i)) { N := fun _ => d = .non, R := fun d' => d' = d }) ∨
      ∃ C, res i = .error C ∧ RssD (cxR P w K mg base N qual (defScope st) f cdv A outer s H E) (rho0 N (args i)) E (defBody st) C) : FnD P w K mg base (CXr P w) (k + 1) x args pre res := by
  refine ⟨f, fd, ps, ?_, hm, F.kp, hb⟩
  obtain ⟨oc, od, kV, doc, pm, an, cdv, ct, osl, rfl, lk, hcd⟩ := F.ex
  refine fn_of lk hcd S (fun vs H Q E ⟨i, M0, _, h, _⟩ => by rw [h.len, hl]) fun A outer s H vs Q E hr hsp => ?_
  obtain ⟨i, M0, hM, h, hp, k1, k2⟩ := hsp
  rcases body cdv A outer s H E i M0 hp hr with ⟨d, hd, ws⟩ | ⟨C, hC, rs⟩
  · refine ⟨tSs _ (defBody st), (psSs (X := (cxR P w K mg base N qual (defScope st) f cdv A outer s H E).nox)).nox, ?_⟩
    refine tSs.mono (En := ends K M0 H [] { N := fun _ => d = .non, R := fun d' => d' = d }) (fun σ' H' ⟨α, ρ, R, e⟩ => ?_) (fun v H' ⟨d', e, sm, dn⟩ => ?_) (fun _ _ ⟨_, _, _, z⟩ => z.elim) (fun _ _ ⟨_, _, _, z⟩ => z.elim) (ws [] (fun _ => 0) _ H (rep0 hM h))
    · exact k1 d hd .non H' R.same (by rw [e]; exact rfl)
    · subst e
      exact k1 _ hd v H' sm dn
  · exact ⟨tSs _ (defBody st), psSs (X := cxR P w K mg base N qual (defScope st) f cdv A outer s H E), rs M0 H [] (fun _ => 0) _ H _ (rep0 hM h) fun a H' sm => k2 C hC a H' sm⟩
end
end Z
set_option Elab.async false
set_option linter.all false
set_option maxRecDepth 100000
namespace Z
open PySem PySem.Spec PyProof.Rows L2
/-! ### defs that are called while an exception is handled -/
abbrev hush (A : Around) : Around := { A with handled := none }
abbrev Cx.loud (X : Cx) : Cx := { X with calm := false }
/-- the same promise, whatever is handled -/
structure FnOkH (P : Program) (w : World) (K : Frag) (mg : Str → Option Value) (base : Heap) (CX : CXT) (k : Nat) (f : Addr) (fd : FuncData) (ps : List Str) (sp : Sp) : Prop where
  len : ∀ vs H Q E, sp vs H Q E → vs.length = ps.length
  run : ∀ (A : Around) (outer : List Env) (s : Shared) (H : Hp) (args : Args) (us : List Value) (vs : List V) (Q : VK) (E : XK), Room k (hush A) → Env0 P w K mg base A outer s H → BindsTo s fd args (ps.zip us) → Vals vs us → sp vs H Q E →
    codeAny (model P w) A (.call (.ref f) args) (CR CX outer P w H s Q E) s
theorem loud_inv {CX : CXT} {P : Program} {w : World} {K : Frag} {mg : Str → Option Value} {base : Heap} {N : List Str} {qual : Str} {scope : Scope} {f : Addr} {cd : Value} {A : Around} {outer : List Env} {s s1 : Shared} {H H1 : Hp} {E : XK} {pins : List (Addr × Obj)} {σ : St}
    (I : Inv (cxOf CX P w K mg base N qual scope f cd (hush A) outer s H E) pins σ H1 s1) : Inv (Cx.loud (cxOf CX P w K mg base N qual scope f cd A outer s H E)) pins σ H1 s1 :=
  ⟨⟨I.ok.mod, I.ok.kind, I.ok.glob, I.ok.blt, I.ok.above, I.ok.inj, I.ok.has, I.ok.cab, fun h => absurd h Bool.false_ne_true, I.ok.frames, I.ok.stk, I.ok.exf, I.ok.bs, I.ok.bsz, I.ok.noex, I.ok.exfs, I.ok.funs, I.ok.frf⟩, I.os, I.bare, I.base, I.loc, I.cell, I.free, I.freeC, I.pin, I.hok, I.len⟩
theorem fn_ofH {CX : CXT} {P : Program} {w : World} {K : Frag} {mg : Str → Option Value} {base : Heap} {k : Nat} {f : Addr} {name qual : Str} {params : Arguments} {body : List Stmt} {scope : Scope} {dV kV doc pm cdv ct oc : Value} {an od : Option Addr}
    {osl : Array (Option Value)} {N ps : List Str} {sp : Sp} (lk : K.lookup f = some ⟨oc, od, .func (PySem.W.fnOf name qual params body scope dV kV doc pm an cdv ct), osl⟩) (hcd : PySem.W.codeIn K cdv qual = true) (S : FnScope N ps scope)
    (len : ∀ vs H Q E, sp vs H Q E → vs.length = ps.length)
    (hbody : ∀ (A : Around) (outer : List Env) (s : Shared) (H : Hp) (vs : List V) (Q : VK) (E : XK), Room k (hush (A.deeper (envOfC qual scope s.heap.objs.size f cdv))) → sp vs H Q E →
      tSs (Cx.loud (cxOf CX P w K mg base N qual scope f cdv A outer s H E)).nox body { nx := fun _ H' => Q .non H', rt := Q } (start N vs) H) :
    FnOkH P w K mg base CX (k + 1) f (PySem.W.fnOf name qual params body scope dV kV doc pm an cdv ct) ps sp := by
  refine ⟨len, fun A outer s H args us vs Q E hr e0 hb r hsp => ?_⟩
  have hl := len _ _ _ _ hsp
  have KX : K.In s.heap := e0.mod.kin.keeps fun b o e => (e0.bs b o e).1
  have lim : s.heap.NoLimit := e0.mod.nolimit.keeps fun b o e => (e0.bs b o e).1
  have hkind : ∀ y ∈ ps.zip us, scope.names.lookup y.1 = some .local ∨ (scope.names.lookup y.1 = some .cell ∧ ((cellsFrom (s.heap.objs.size + 1) scope.names []).lookup y.1).isSome = true) := fun ⟨n, v⟩ hy =>
    (S.par n (List.of_mem_zip hy).1).elim .inl fun q => .inr ⟨q, PySem.W.cellsFrom_some _ _ _ (.inl q)⟩
  have hdep := hr.depth
  refine codeAny_call_function (A := A) hdep (KX _ _ lk) rfl S.co S.gen rfl (PySem.W.codeRec_of KX hcd) (hb _ _ _ _ ?_)
  refine wpAny_newFunctionEnv_cells S.kind hkind fun env he s1 x => ?_
  subst he
  refine ⟨lim.keeps x.toInCall.keep, codeAny_func ?_⟩
  have e1 : Env0 P w K mg base (hush A) outer s H := ⟨e0.frames, e0.mod, e0.bs, e0.bsz, e0.funs, e0.frf, e0.hok, e0.bare⟩
  have I := loud_inv (CX := CX) (A := A) (E := E) (inv_start (A := hush A) (CX := CX) (E := E) S rfl e1 hl r x)
  have t := hbody A outer s H vs Q E (hr.deeper _) hsp
  have I' : Inv (Cx.loud (cxOf CX P w K mg base N qual scope f cdv A outer s H E)).nox [] (start N vs) H s1 := ⟨⟨I.ok.mod, I.ok.kind, I.ok.glob, I.ok.blt, I.ok.above, I.ok.inj, I.ok.has, I.ok.cab, I.ok.hd, I.ok.frames, I.ok.stk, I.ok.exf, I.ok.bs, I.ok.bsz, I.ok.noex, I.ok.exfs, I.ok.funs, I.ok.frf⟩, I.os, I.bare, I.base, I.loc, I.cell, I.free, I.freeC, I.pin, I.hok, I.len⟩
  refine wpAny_mono (t [] s1 I') (fun fl s' hs => ?_) fun e s' hs => hs.elim
  cases fl with
  | ret u => obtain ⟨v, σ', H', J, rv, q⟩ := hs; exact ⟨v, H', J.os, J.bare, J.base, J.hok, rv, q⟩
  | next => obtain ⟨σ', H', J, q⟩ := hs; exact ⟨.non, H', J.os, J.bare, J.base, J.hok, rfl, q⟩
  | brk => obtain ⟨_, _, _, q⟩ := hs; exact False.elim q
  | cont => obtain ⟨_, _, _, q⟩ := hs; exact False.elim q
/-- what a def promises, whatever is handled -/
structure FnDH (P : Program) (w : World) (K : Frag) (mg : Str → Option Value) (base : Heap) (CX : CXT) (k : Nat) (x : Str) {ι : Type} (args : ι → List D) (pre : ι → Prop) (res : ι → D) : Prop where
  ex : ∃ (f : Addr) (fd : FuncData) (ps : List Str), FnOkH P w K mg base CX k f fd ps (pureSp K args pre fun i => .ok (res i)) ∧ mg x = some (.ref f) ∧ PySem.W.keepIn K (.ref f) = true ∧ Binds K fd ps []
section
variable {X : Cx} {ρ : Rho} {e : Expr} {es : List Expr} {d : D} {pos p : Pos} {CX : CXT} {k : Nat} {x : Str} {ι : Type} {args : ι → List D} {pre : ι → Prop} {res : ι → D}
theorem run_fnH {pins : List (Addr × Obj)} {σ : St} {H : Hp} {s : Shared} {Q : VK} {us : List Value} {vs : List V} {f : Addr} {fd : FuncData} {ps : List Str} {sp : Sp} {E : XK} (F : FnOkH X.prog X.w X.K X.mg X.base CX k f fd ps sp) (hr : Room k (hush X.A)) (hb : Binds X.K fd ps []) (hx : Passes CX X E)
    (I : Inv X pins σ H s) (r : Vals vs us) (h : sp vs H Q E) : wpAny (model X.prog X.w) X.A (call (.ref f) us) (EP X pins σ Q) X.xe s := by
  have hl : us.length = ps.length := by rw [← r.length]; exact F.len _ _ _ _ h
  have hbt := hb s us I.kIn (by rw [List.append_nil]; exact hl)
  rw [List.append_nil] at hbt
  refine wpAny_call (codeAny_mono (F.run X.A X.stack s H ⟨us, []⟩ us vs Q E hr I.env0 hbt r h) fun r s' hq => ?_)
  cases r with
  | error e => exact hx pins σ H s e s' I hq
  | ok fl =>
    cases fl with
    | ret u => exact I.after hq
    | next => exact False.elim hq
    | brk => exact False.elim hq
    | cont => exact False.elim hq
theorem EvD.callH {i : ι} (F : FnDH X.prog X.w X.K X.mg X.base CX k x args pre res) (hr : Room k (hush X.A)) (hx : Passes CX X E0) (hg : Gl X x) (ha : AvD X ρ (e :: es) (args i)) (hp : pre i) (hres : res i = d) (hdb : (x == ("__debug__" : Str)) = false := by decide)
    (he : starEach (e :: es) X.env = (false, eval e X.env) :: starEach es X.env := by rfl) (hpl : (backTo pos (starEach es X.env)).any (·.1) = false := by rfl) : EvD X ρ (.Call (.Name x p) (e :: es) [] pos) d := fun M0 H0 γ α σ H Q R kk => by
  obtain ⟨f, fd, ps, F, hm, hk, hb⟩ := F.ex
  intro pins s I
  refine wpAny_Call_Name_kw (ld_glob I hg hm ?_ hdb)
  have run := paA (X := X) (es := e :: es) pos pins s σ H (fun vs H1 => Same H H1 ∧ Dns X.K (MM M0 ρ α) H1 (args i) vs) I (ha M0 H0 γ α σ H _ R fun vs H1 s1 d1 => ⟨s1, d1⟩)
  refine PySem.W.callWith_K (h₀ := X.base) I.ok.mod.kin hk (thn run fun us s1 ⟨vs, H1, I1, r, sm, d1⟩ => ⟨I1.kIn, ?_⟩) he hpl
  exact run_fnH F hr hb hx I1 r ⟨i, MM M0 ρ α, mm_there R sm, d1, hp, (fun d' e v H2 s2 dn => by cases e; exact kk v H2 (sm.trans s2) (hres ▸ dn)), fun C e => by cases e⟩
end
section
variable {P : Program} {w : World} {K : Frag} {mg : Str → Option Value} {base : Heap} {CX : CXT} {k : Nat} {x qual : Str} {st : Stmt} {f : Addr} {fd : FuncData} {N ps : List Str} {ι : Type} {args : ι → List D} {pre : ι → Prop} {res : ι → D}
theorem fnDH_of (F : Fun K x qual st f fd) (S : FnScope N ps (defScope st)) (hm : mg x = some (.ref f)) (hb : Binds K fd ps []) (hl : ∀ i, (args i).length = ps.length)
    (body : ∀ (cdv : Value) (A : Around) (outer : List Env) (s : Shared) (H : Hp) (E : XK) (i : ι) (M0 : MP), pre i → Room k (hush (A.deeper (envOfC qual (defScope st) s.heap.objs.size f cdv))) →
      WS (Cx.loud (cxOf CX P w K mg base N qual (defScope st) f cdv A outer s H E)).nox M0 H (defBody st) (rho0 N (args i)) { N := fun _ => res i = .non, R := fun d' => d' = res i }) : FnDH P w K mg base CX (k + 1) x args pre res := by
  refine ⟨f, fd, ps, ?_, hm, F.kp, hb⟩
  obtain ⟨oc, od, kV, doc, pm, an, cdv, ct, osl, rfl, lk, hcd⟩ := F.ex
  refine fn_ofH lk hcd S (fun vs H Q E ⟨i, M0, _, h, _⟩ => by rw [h.len, hl]) fun A outer s H vs Q E hr hsp => ?_
  obtain ⟨i, M0, hM, h, hp, k1, k2⟩ := hsp
  refine tSs.mono (En := ends K M0 H [] { N := fun _ => res i = .non, R := fun d' => d' = res i }) (fun σ' H' ⟨α, ρ, R, e⟩ => ?_) (fun v H' ⟨d', e, sm, dn⟩ => ?_) (fun _ _ ⟨_, _, _, z⟩ => z.elim) (fun _ _ ⟨_, _, _, z⟩ => z.elim) (body cdv A outer s H E i M0 hp hr [] (fun _ => 0) _ H (rep0 hM h))
  · exact k1 _ rfl .non H' R.same (by rw [e]; exact rfl)
  · subst e
    exact k1 _ rfl v H' sm dn
end
end Z
set_option Elab.async false
set_option linter.all false
set_option maxRecDepth 100000
namespace Z
open PySem PySem.Spec PyProof.Rows L2
/-! ### try -/
section
variable {X : Cx} {ρ : Rho} {M0 : MP} {H0 : Hp} {P : Post} {body : List Stmt} {h0 : ExceptHandler} {hs : List ExceptHandler} {pos : Pos}
/-- nothing is raised -/
theorem W1.tryOk (hx : ∀ e s, X.xe e s → False) (h : WS X M0 H0 body ρ P) : W1 X M0 H0 (.Try body (h0 :: hs) [] [] pos) ρ P := fun γ α σ H R pins s I => by
  refine wpAny_Try_except (wpAny_mono (h γ α σ H R pins s I) (fun f s1 q => ?_) fun e s1 z => (hx e s1 z).elim)
  cases f with
  | next => exact wpAny_execs_nil q
  | ret u => exact q
  | brk => exact q
  | cont => exact q
end
/-! ### an exception is caught: what changes -/
section
variable {M : Model} {A : Around} {E : Value → Shared → Prop} {s : Shared}
theorem look_next {base : Heap} {env : Env} {outer : List Env} {L e T : Addr} {cls : Value} {Q : Unit → Shared → Prop} (hfr : A.frames = some (env :: outer)) (hl : s.heap.FunFrames base (env :: outer)) (hf : env.frame = some L) (ht : Trd s.heap e T cls)
    (h : ∀ h' T', LeftX (env :: outer) [e, T] e T' cls s.heap h' → Q () { s with heap := h' }) : wpAny M A (noteFrame (.ref e) env) (fun _ s' => wpAny M A (setFlight (.ref e) none) Q E s') E s := by
  obtain ⟨ne, ⟨oe, vs, he, hc, hd, h1, hdn⟩, oT, ts, hT, hdT, h3⟩ := ht
  subst hc
  unfold noteFrame
  simp only [hf]
  refine wpAny_bind (wpAny_field he hd h1 ?_)
  rw [if_pos (show (Value.ref T != Value.none) = true from by simp)]
  refine wpAny_bind (wpAny_field hT hdT h3 ?_)
  rw [if_neg (show ¬ ((Value.none == rawInt L) = true) from by simp [rawInt])]
  refine wpAny_bind (wpAny_setField hT hdT (Array.getElem?_eq_some_iff.mp h3).1 ?_)
  have k : ∀ b, b ≠ T → (s.heap.update T (Obj.mapFields (·.setIfInBounds 3 Value.none))).get? b = s.heap.get? b := fun b hb => Heap.get?_update_other _ _ hb.symm
  have nfT : ∀ b ∈ frL (env :: outer), b ≠ T := fun b hb q => by
    obtain ⟨_, o, ho, nf⟩ := hl.mem hb
    rw [q, hT] at ho
    cases ho
    exact nf ts hdT
  refine leave_core (s := { s with heap := s.heap.update T (Obj.mapFields (·.setIfInBounds 3 Value.none)) }) hfr (hl.of_keeps fun b o q nf => ⟨o, (k b fun z => ?_).trans q, rfl⟩) hf ((k e ne.symm).trans he) hd (Array.getElem?_eq_some_iff.mp h1).1 hdn fun h' T' x => h h' T' ⟨?_, x.tr, fun b o n1 n2 q => ?_, fun b o m q => ?_⟩
  · rw [z, hT] at q
    cases q
    exact nf ts hdT
  · have := x.new
    rw [show (Shared.heap { s with heap := s.heap.update T (Obj.mapFields (·.setIfInBounds 3 Value.none)) }).objs.size = s.heap.objs.size from Heap.size_after_update ..] at this
    exact this
  · exact x.keep b o (fun z => n1 (by simp at z; simp [z])) n2 ((k b fun z => n1 (by simp [z])).trans q)
  · exact x.slot b o m ((k b (nfT b m)).trans q)
theorem flight_again {e T : Addr} {cls : Value} {Q : Unit → Shared → Prop} (ht : Trd s.heap e T cls) (h : ∀ h', Trd h' e T cls → (∀ b, b ≠ T → h'.get? b = s.heap.get? b) → Q () { s with heap := h' }) : wpAny M A (setFlight (.ref e) none) Q E s := by
  obtain ⟨ne, ⟨oe, vs, he, hc, hd, h1, hdn⟩, oT, ts, hT, hdT, h3⟩ := ht
  have l3 := (Array.getElem?_eq_some_iff.mp h3).1
  unfold setFlight
  refine wpAny_bind (wpAny_field he hd h1 ?_)
  rw [if_pos (show (Value.ref T != Value.none) = true from by simp)]
  refine wpAny_setField hT hdT l3 (h _ ⟨ne, ⟨oe, vs, ?_, hc, hd, h1, hdn⟩, ⟨_, _, Heap.get?_update_self _ hT (Obj.isFreed_of_fields (Obj.data_mapFields hdT _)), Obj.data_mapFields hdT _, by simp [l3]⟩⟩ fun b hb => Heap.get?_update_other _ _ hb.symm)
  rw [Heap.get?_update_other _ _ ne]
  exact he
end
section
variable {X : Cx} {pins : List (Addr × Obj)} {σ : St} {H H' : Hp} {s : Shared} {h' : Heap}
/-- records that were not there at the entry have changed, frames up to slots, something may be tracked anew -/
theorem inv_free {g' : Array GenState} {t' : Nat} {d' : Drawn} {ch : List Addr} (I : Inv X pins σ H s) (hch : ∀ b ∈ ch, X.s₀.heap.get? b = none ∧ (∀ o, s.heap.get? b = some o → ∃ vs, o.data = .fields vs) ∧ ∀ p ∈ X.pn ++ pins, p.1 ≠ b)
    (keep : ∀ b o, b ∉ ch → b ∉ frs X.stack → s.heap.get? b = some o → h'.get? b = some o) (slot : ∀ b o, b ∈ frs X.stack → s.heap.get? b = some o → ∃ sl, h'.get? b = some { o with slots := sl })
    (sm : Same H H') (free : ∀ b o, b ∉ ch → s.heap.get? b = some o → H b = none → H' b = none) (hok : HOk X.prog X.w H' h') (hg : AllBare g') : Inv X pins σ H' { s with heap := h', gens := g', drawn := d', toks := t' } := by
  have any : ∀ b o, b ∉ ch → s.heap.get? b = some o → ∃ sl, h'.get? b = some { o with slots := sl } := fun b o n q => by
    by_cases m : b ∈ frs X.stack
    · exact slot b o m q
    · exact ⟨o.slots, keep b o n m q⟩
  have neC : ∀ b o, X.s₀.heap.get? b = some o → b ∉ ch := fun b o q m => by rw [(hch b m).1] at q; cases q
  obtain ⟨m, hn, hl⟩ := id I.loc
  obtain ⟨oL, esL, epL, hoL, hdL, rL⟩ := id hn
  have nL : X.env.locals ∉ ch := fun z => by
    obtain ⟨vs, q⟩ := (hch _ z).2.1 oL hoL
    rw [hdL] at q; cases q
  have cellK : ∀ x c, X.env.cells.lookup x = some c → ∀ v, s.heap.IsCell c v → h'.IsCell c v ∧ c ∉ ch := fun x c e v ⟨o, ho, hd⟩ => by
    have nc : c ∉ ch := fun z => by
      obtain ⟨vs, q⟩ := (hch c z).2.1 o ho
      rw [hd] at q; cases q
    obtain ⟨sl, q⟩ := any c o nc ho
    exact ⟨⟨_, q, hd⟩, nc⟩
  have nfs : ∀ b o, b ∉ X.fs → X.s₀.heap.get? b = some o → b ∉ frs X.stack := fun b o nf q z => by
    rcases List.mem_cons.mp (I.stkSub b z) with w | w
    · exact absurd w (Nat.ne_of_lt (Nat.lt_of_lt_of_le (Heap.lt_size q) I.ok.above))
    · exact nf w
  refine ⟨I.ok, I.os, hg, ⟨fun b o e n hb hx => ?_, fun b o e n hb hx => ?_, fun b o e n hx => ?_, fun b o e hx => ?_, fun b xs e => sm _ _ (I.base.tups b xs e), fun b o xs e => sm _ _ (I.base.frzs b o xs e), fun b ps e => ?_⟩, ⟨m, ?_, fun i x v e1 e2 e3 => ?_⟩, fun x c e => ?_, free _ _ nL hoL I.free, fun x c e => ?_, fun p hp => ?_, hok, I.len⟩
  · exact keep b o (neC b o e) (nfs b o hb e) (I.base.keep b o e n hb hx)
  · obtain ⟨sl, e1⟩ := I.base.slot b o e n hb hx
    obtain ⟨sl', e2⟩ := any b _ (neC b o e) e1
    exact ⟨sl', e2⟩
  · obtain ⟨o', e1⟩ := I.base.there b o e hx
    exact free b o' (neC b o e) e1 (I.base.free b o e n hx)
  · obtain ⟨o', e1⟩ := I.base.there b o e hx
    obtain ⟨sl, e2⟩ := any b o' (neC b o e) e1
    exact ⟨_, e2⟩
  · obtain ⟨m1, e1⟩ := I.base.tbls b ps e
    exact ⟨m1, sm _ _ e1⟩
  · obtain ⟨sl, e2⟩ := any _ oL nL hoL
    exact ⟨_, esL, epL, e2, hdL, rL⟩
  · obtain ⟨u, r, l⟩ := hl i x v e1 e2 e3
    refine ⟨u, r, ?_⟩
    rcases l with l | ⟨k, c, e, z⟩
    · exact .inl l
    · exact .inr ⟨k, c, e, (cellK x c e _ z).1⟩
  · obtain ⟨v, z⟩ := I.cell x c e
    exact ⟨v, (cellK x c e v z).1⟩
  · obtain ⟨v, z⟩ := I.cell x c e
    obtain ⟨o, ho, _⟩ := id z
    exact free c o (cellK x c e v z).2 ho (I.freeC x c e)
  · obtain ⟨e, n, ne, nf, d⟩ := I.pin p hp
    have nch : p.1 ∉ ch := fun z => (hch p.1 z).2.2 p hp rfl
    have nst : p.1 ∉ frs X.stack := fun z => by
      rcases List.mem_cons.mp (I.stkSub _ z) with w | w
      · exact ne w
      · exact nf w
    exact ⟨keep _ _ nch nst e, free _ _ nch e n, ne, nf, d⟩
end
end Z
set_option Elab.async false
set_option linter.all false
set_option maxRecDepth 100000
namespace Z
open PySem PySem.Spec PyProof.Rows L2
/-! ### a body that raises, to be caught -/
/-- the state in which it has raised -/
def Rsd (X : Cx) (pn : List (Addr × Obj)) (W : Addr → St → Hp → Prop) (e : Value) (s' : Shared) : Prop :=
  ∃ (a T C : Addr) (σ' : St) (H' : Hp) (pins' : List (Addr × Obj)), e = .ref a ∧ Inv { X with pn := pn } pins' σ' H' s' ∧ Trd s'.heap a T (.ref C) ∧ H' a = none ∧ H' T = none ∧ X.s₀.heap.get? a = none ∧ X.s₀.heap.get? T = none ∧ (∀ p ∈ pn, p.1 ≠ a ∧ p.1 ≠ T) ∧ W C σ' H'
def CaX (X : Cx) (pn : List (Addr × Obj)) (W : Addr → St → Hp → Prop) : Cx := { X with pn := pn, xe := Rsd X pn W }
theorem inv_wish {X : Cx} {pins : List (Addr × Obj)} {σ : St} {H : Hp} {s : Shared} {E : Value → Shared → Prop} (I : Inv X pins σ H s) : Inv { X with xe := E } pins σ H s :=
  ⟨⟨I.ok.mod, I.ok.kind, I.ok.glob, I.ok.blt, I.ok.above, I.ok.inj, I.ok.has, I.ok.cab, I.ok.hd, I.ok.frames, I.ok.stk, I.ok.exf, I.ok.bs, I.ok.bsz, I.ok.noex, I.ok.exfs, I.ok.funs, I.ok.frf⟩, I.os, I.bare, I.base, I.loc, I.cell, I.free, I.freeC, I.pin, I.hok, I.len⟩
theorem inv_ca {X : Cx} {pins : List (Addr × Obj)} {σ : St} {H : Hp} {s : Shared} {W : Addr → St → Hp → Prop} (I : Inv X pins σ H s) : Inv (CaX X (X.pn ++ pins) W) [] σ H s :=
  ⟨⟨I.ok.mod, I.ok.kind, I.ok.glob, I.ok.blt, I.ok.above, I.ok.inj, I.ok.has, I.ok.cab, I.ok.hd, I.ok.frames, I.ok.stk, I.ok.exf, I.ok.bs, I.ok.bsz, I.ok.noex, I.ok.exfs, I.ok.funs, I.ok.frf⟩, I.os, I.bare, I.base, I.loc, I.cell, I.free, I.freeC, (fun p hp => I.pin p (by
    have z : p ∈ (X.pn ++ pins) ++ [] := hp
    rwa [List.append_nil] at z)), I.hok, I.len⟩
theorem inv_un {X : Cx} {pins pins' : List (Addr × Obj)} {σ : St} {H : Hp} {s : Shared} (I : Inv { X with pn := X.pn ++ pins } pins' σ H s) : Inv X pins σ H s :=
  ⟨⟨I.ok.mod, I.ok.kind, I.ok.glob, I.ok.blt, I.ok.above, I.ok.inj, I.ok.has, I.ok.cab, I.ok.hd, I.ok.frames, I.ok.stk, I.ok.exf, I.ok.bs, I.ok.bsz, I.ok.noex, I.ok.exfs, I.ok.funs, I.ok.frf⟩, I.os, I.bare, I.base, I.loc, I.cell, I.free, I.freeC, (fun p hp => I.pin p (List.mem_append_left _ hp)), I.hok, I.len⟩
section
variable {X : Cx} {pn : List (Addr × Obj)} {W : Addr → St → Hp → Prop}
/-- an exception of a callee comes to the state -/
theorem ca_in (hex : X.ex = []) {pins : List (Addr × Obj)} {σ : St} {H : Hp} {s : Shared} {e : Value} {s' : Shared} (I : Inv (CaX X pn W) pins σ H s) (h : CXr X.prog X.w X.stack H s (fun v _ H' => ∃ C, v = .ref C ∧ W C σ H') e s') : (CaX X pn W).xe e s' := by
  obtain ⟨a, T, C, H', ee, os, bare, un, hok, na, nT, ha, hT, tr, C', eC, hW⟩ := h
  subst ee
  cases eC
  obtain ⟨hh, g, d, tk, os'⟩ := s'
  obtain rfl : os' = s.os := os
  have I1 : Inv (CaX X pn W) pins σ H' { s with heap := hh, gens := g, drawn := d, toks := tk } := I.call (h' := hh) (g' := g) (d' := d) (t' := tk) (ch := []) un hok bare (fun b z => absurd z (by simp))
  have n0 : ∀ b, s.heap.get? b = none → X.s₀.heap.get? b = none := fun b z => by
    cases q : X.s₀.heap.get? b with
    | none => rfl
    | some o =>
      obtain ⟨o', z'⟩ := I.base.there b o q (by show b ∉ X.ex; rw [hex]; simp)
      rw [z] at z'; cases z'
  refine ⟨a, T, C, σ, H', pins, rfl, inv_wish (E := X.xe) I1, tr, ha, hT, n0 _ na, n0 _ nT, fun p hp => ?_, hW⟩
  have q := (I.pin p (List.mem_append_left _ hp)).1
  exact ⟨(fun z => by rw [z, na] at q; cases q), (fun z => by rw [z, nT] at q; cases q)⟩
/-- the evaluation raises C, where W is asked of the state -/
def RtD (X : Cx) (W : Addr → St → Hp → Prop) (ρ : Rho) (e : Expr) (C : Addr) : Prop := ∀ (M0 : MP) (H0 : Hp) (γ : List (D × V)) (α : Nat → Addr) (σ : St) (H : Hp) (Q : VK), Rep X.K M0 H0 γ α ρ σ H → (∀ H', Same H H' → W C σ H') → tE X e σ H Q
def RttD (X : Cx) (W : Addr → St → Hp → Prop) (ρ : Rho) (st : List Stmt) (C : Addr) : Prop := ∀ (M0 : MP) (H0 : Hp) (γ : List (D × V)) (α : Nat → Addr) (σ : St) (H : Hp) (En : Ends), Rep X.K M0 H0 γ α ρ σ H → (∀ H', Same H H' → W C σ H') → tSs X st En σ H
end
section
variable {X : Cx} {pn : List (Addr × Obj)} {W : Addr → St → Hp → Prop} {ρ : Rho} {e c : Expr} {es : List Expr} {sts s1 s2 : List Stmt} {C : Addr} {pos p pos' : Pos} {k : Nat} {x y : Str} {ι : Type} {args : ι → List D} {pre : ι → Prop} {res : ι → Except Addr D}
theorem RtD.call {i : ι} (hex : X.ex = []) (F : FnD X.prog X.w X.K X.mg X.base (CXr X.prog X.w) k x args pre res) (hr : Room k X.A) (hg : Gl X x) (ha : AvD (CaX X pn W) ρ (e :: es) (args i)) (hp : pre i) (hres : res i = .error C) (hdb : (x == ("__debug__" : Str)) = false := by decide)
    (he : starEach (e :: es) X.env = (false, eval e X.env) :: starEach es X.env := by rfl) (hpl : (backTo pos (starEach es X.env)).any (·.1) = false := by rfl) : RtD (CaX X pn W) W ρ (.Call (.Name x p) (e :: es) [] pos) C := fun M0 H0 γ α σ H Q R kE => by
  obtain ⟨f, fd, ps, F, hm, hk, hb⟩ := F.ex
  intro pins s I
  refine wpAny_Call_Name_kw (ld_glob I hg hm ?_ hdb)
  have run := paA (X := CaX X pn W) (es := e :: es) pos pins s σ H (fun vs H1 => Same H H1 ∧ Dns X.K (MM M0 ρ α) H1 (args i) vs) I (ha M0 H0 γ α σ H _ R fun vs H1 s1 d1 => ⟨s1, d1⟩)
  refine PySem.W.callWith_K (h₀ := X.base) I.ok.mod.kin hk (thn run fun us s1 ⟨vs, H1, I1, r, sm, d1⟩ => ⟨I1.kIn, ?_⟩) he hpl
  have hsp : pureSp X.K args pre res vs H1 Q (fun v _ H' => ∃ C, v = .ref C ∧ W C σ H') := ⟨i, MM M0 ρ α, mm_there R sm, d1, hp, (fun d' e => by rw [hres] at e; cases e), (fun C' e a H2 s2 => by rw [hres] at e; cases e; exact ⟨C, rfl, kE H2 (sm.trans s2)⟩)⟩
  have hl : us.length = ps.length := by rw [← r.length]; exact F.len _ _ _ _ hsp
  have hbt := hb s1 us I1.kIn (by rw [List.append_nil]; exact hl)
  rw [List.append_nil] at hbt
  refine wpAny_call (codeAny_mono (F.run X.A X.stack s1 H1 ⟨us, []⟩ us vs Q _ hr I1.env0 hbt r hsp) fun r s' hq => ?_)
  cases r with
  | error e => exact ca_in hex I1 hq
  | ok fl =>
    cases fl with
    | ret u => exact I1.after hq
    | next => exact False.elim hq
    | brk => exact False.elim hq
    | cont => exact False.elim hq
theorem RttD.set {i : Nat} (hN : X.N.Nodup) (hi : X.N[i]? = some y) (hx : Loc X.env.scope y) (h : RtD X W ρ e C) (hs : swapsWith e (some (.Name y pos')) pos.line X.env = pure false := by rfl) (hf : X.fn y = true ∨ X.env.scope.names.lookup y = some .local := by first | exact .inl rfl | exact .inr rfl | assumption) :
    RttD X W ρ (.Assign [.Name y pos'] e pos :: sts) C := fun M0 H0 γ α σ H En R kE => (pss_cons psS psSs).to ((ps_set hN hi hx peE hs hf).to (h M0 H0 γ α σ H _ R kE))
end
end Z
set_option Elab.async false
set_option linter.all false
set_option maxRecDepth 100000
namespace Z
open PySem PySem.Spec PyProof.Rows
/-- the class at C stands below the one at D0; both are own classes of errors -/
structure Below2 (C D0 : Addr) (h : Heap) : Prop where
  lo : ∃ nm q N bs bm hdct sn sub ab col dd k0 k1 k2 k3 k5 newId, h.get? C = some (excClassObj nm q C N bs bm hdct sn sub ab col dd k0 k1 k2 k3 k5 newId) ∧ (Value.ref C :: bm).contains (.ref D0) = true
  up : ∃ nm q N bs bm hdct sn sub ab col dd k0 k1 k2 k3 k5 newId, h.get? D0 = some (excClassObj nm q D0 N bs bm hdct sn sub ab col dd k0 k1 k2 k3 k5 newId) ∧ (Value.ref D0 :: bm).contains (.type "BaseException") = true
theorem Below2.keeps {C D0 : Addr} {h h' : Heap} (x : Below2 C D0 h) (k : ∀ b o, h.get? b = some o → h'.get? b = some o) : Below2 C D0 h' := by
  obtain ⟨⟨nm, q, N, bs, bm, hdct, sn, sub, ab, col, dd, k0, k1, k2, k3, k5, newId, e1, e2⟩, ⟨nm', q', N', bs', bm', hdct', sn', sub', ab', col', dd', k0', k1', k2', k3', k5', newId', e3, e4⟩⟩ := x
  exact ⟨⟨nm, q, N, bs, bm, hdct, sn, sub, ab, col, dd, k0, k1, k2, k3, k5, newId, k _ _ e1, e2⟩, ⟨nm', q', N', bs', bm', hdct', sn', sub', ab', col', dd', k0', k1', k2', k3', k5', newId', k _ _ e3, e4⟩⟩
theorem matches_own {M : Model} {A : Around} {E : Value → Shared → Prop} {s : Shared} {e C D0 : Addr} {oe : Obj} {Q : Bool → Shared → Prop} (x : Below2 C D0 s.heap) (he : s.heap.get? e = some oe) (hcls : oe.cls = .ref C) (hq : Q true s) : wpAny M A (excMatches (.ref e) (.ref D0)) Q E s := by
  obtain ⟨⟨nm, q, N, bs, bm, hdct, sn, sub, ab, col, dd, k0, k1, k2, k3, k5, newId, hC, hcC⟩, ⟨nm', q', N', bs', bm', hdct', sn', sub', ab', col', dd', k0', k1', k2', k3', k5', newId', hD, hcB⟩⟩ := x
  obtain ⟨h, g, d, t, os⟩ := s
  have f := tc_notTuple
  unfold excMatches
  repeat (first | (with_reducible refine wpAny_loadPart_at he ?_; rw [hcls]) | with_reducible refine wpAny_loadPart_at hD ?_ | (with_reducible refine wpAny_isSubtype_exc hD ?_; rw [hcB]) | (with_reducible refine wpAny_isSubtype_exc hC ?_; rw [hcC]) | wp_step)
  exact hq
end Z
set_option Elab.async false
set_option linter.all false
set_option maxRecDepth 100000
namespace Z
open PySem PySem.Spec PyProof.Rows L2
/-- the context of an except suite -/
abbrev sX (X : Cx) (a : Addr) : Cx := { X with A := X.A.mark (some (.ref a)), calm := false, xe := fun _ _ => False }
theorem inv_s {X : Cx} {pins : List (Addr × Obj)} {σ : St} {H : Hp} {s : Shared} {a : Addr} (I : Inv X pins σ H s) : Inv (sX X a) pins σ H s :=
  ⟨⟨I.ok.mod, I.ok.kind, I.ok.glob, I.ok.blt, I.ok.above, I.ok.inj, I.ok.has, I.ok.cab, fun h => absurd h Bool.false_ne_true, I.ok.frames, I.ok.stk, I.ok.exf, I.ok.bs, I.ok.bsz, I.ok.noex, I.ok.exfs, I.ok.funs, I.ok.frf⟩, I.os, I.bare, I.base, I.loc, I.cell, I.free, I.freeC, I.pin, I.hok, I.len⟩
theorem inv_s_back {X : Cx} {pins : List (Addr × Obj)} {σ : St} {H : Hp} {s : Shared} {a : Addr} (ok : X.Ok) (I : Inv (sX X a) pins σ H s) : Inv X pins σ H s :=
  ⟨ok, I.os, I.bare, I.base, I.loc, I.cell, I.free, I.freeC, I.pin, I.hok, I.len⟩
/-- the frame's own names have changed -/
theorem inv_ns {X : Cx} {pins : List (Addr × Obj)} {σ σ' : St} {H : Hp} {s : Shared} {h' : Heap} {m' : Str → Option Value} {tk : Nat} (I : Inv X pins σ H s) (hn : h'.Ns X.env.locals m') (sb : Heap.SameBut X.env.locals s.heap h') (hlen : σ'.length = X.N.length)
    (hl : ∀ (i : Nat) (x : Str) (v : V), X.N[i]? = some x → σ'[i]? = some (some v) → Vis X.env.scope x → ∃ u, RelV v u ∧ Look X.env h' m' x u) : Inv X pins σ' H { s with heap := h', toks := tk } := by
  have nL : ∀ b o, X.s₀.heap.get? b = some o → b ≠ X.env.locals := fun b o e => Nat.ne_of_lt (Nat.lt_of_lt_of_le (Heap.lt_size e) I.ok.above)
  refine ⟨I.ok, I.os, I.bare, ⟨fun b o e n hb hx => ?_, fun b o e n hb hx => ?_, I.base.free, fun b o e hx => ?_, I.base.tups, I.base.frzs, I.base.tbls⟩, ⟨m', hn, hl⟩, fun y c e => ?_, I.free, I.freeC, fun p hp => ?_, fun b u q => ?_, hlen⟩
  · exact (sb.2 b (nL b o e)).trans (I.base.keep b o e n hb hx)
  · obtain ⟨sl, e1⟩ := I.base.slot b o e n hb hx
    exact ⟨sl, (sb.2 b (nL b o e)).trans e1⟩
  · obtain ⟨o', e1⟩ := I.base.there b o e hx
    exact ⟨o', (sb.2 b (nL b o e)).trans e1⟩
  · obtain ⟨v, o, e1, e2⟩ := I.cell y c e
    exact ⟨v, o, (sb.2 c (I.cne y c e)).trans e1, e2⟩
  · obtain ⟨e, n, ne, nf, d⟩ := I.pin p hp
    exact ⟨(sb.2 _ ne).trans e, n, ne, nf, d⟩
  · have nl : ∀ c v, H c = some v → c ≠ X.env.locals := fun c v z w => by rw [w, I.free] at z; cases z
    refine (I.hok b u q).stay (fun c v hc z => (sb.2 c ?_).trans z) (fun _ z => z) fun _ _ z => z
    rcases hc with w | w
    · rw [w]; exact nl b u q
    · exact nl c _ w
section
variable {X : Cx} {ρ : Rho} {M0 : MP} {H0 : Hp} {P : Post} {body suite : List Stmt} {b0 : Stmt} {cx n : Str} {np hpos pos : Pos} {j : Nat} {C D0 : Addr}
/-- the body raises C, which the clause takes -/
theorem W1.tryRaise (hst : X.stack = X.env :: X.outer) (hex : X.ex = []) (hfr : X.env.frame = some X.env.locals) (hN : X.N.Nodup) (hj : X.N[j]? = some n) (hn : X.env.scope.names.lookup n = some .local) (hlt : j < ρ.length) (hg : Gl X cx) (hm : X.mg cx = some (.ref D0)) (hb : Below2 C D0 X.base)
    (rb : ∀ pn W, RttD (CaX X pn W) W ρ body C) (su : ∀ a, WS (sX X a) M0 H0 (b0 :: suite) (ρ.set j (.im (.exc C))) { N := fun ρ' => P.N (ρ'.set j .un), R := fun _ => False }) (hdb : (cx == ("__debug__" : Str)) = false := by decide) :
    W1 X M0 H0 (.Try body [.ExceptHandler (some (.Name cx np)) (some n) (b0 :: suite) hpos] [] [] pos) ρ P := fun γ α σ H R pins s I => by
  have run := rb (X.pn ++ pins) (fun C' σ' H' => C' = C ∧ Rep X.K M0 H0 γ α ρ σ' H') M0 H0 γ α σ H { nx := fun _ _ => False, rt := fun _ _ => False, bk := fun _ _ => False, ct := fun _ _ => False } R (fun H' sm => ⟨rfl, R.next sm⟩) [] s (inv_ca I)
  refine wpAny_Try_except (wpAny_mono run (fun f s1 q => ?_) fun e s1 z => ?_)
  · cases f with
    | next => obtain ⟨_, _, _, q⟩ := q; exact q.elim
    | ret u => obtain ⟨_, _, _, _, _, q⟩ := q; exact q.elim
    | brk => obtain ⟨_, _, _, q⟩ := q; exact q.elim
    | cont => obtain ⟨_, _, _, q⟩ := q; exact q.elim
  obtain ⟨a, T, C', σ', H', pins', ee, I1, tr, ha, hT, na, nT, hpn, eC, R1⟩ := z
  subst ee eC
  have I2 : Inv X pins σ' H' s1 := inv_un I1
  have frq : frL (X.env :: X.outer) = frs X.stack := by rw [hst]; rfl
  refine look_next (base := X.base) (by rw [← hst]; exact I2.ok.frames) (by rw [← hst]; exact I2.stack) hfr tr fun h2 T' x => ?_
  obtain ⟨ne1, ⟨oe1, vs1, he1, hc1, hd1, _⟩, oT1, ts1, hT1, hdT1, _⟩ := id tr
  obtain ⟨ne2, ⟨oe2, vs2, he2, hc2, hd2, _⟩, oT2, ts2, hT2, hdT2, _⟩ := id x.tr
  have okH : ∀ c v, H' c = some v → c ∉ [a, T] ∧ c ∉ frs X.stack := fun c v z => by
    refine ⟨fun m => ?_, fun m => ?_⟩
    · have : c = a ∨ c = T := by simpa using m
      rcases this with rfl | rfl
      · rw [ha] at z; cases z
      · rw [hT] at z; cases z
    · rw [I2.stkFree c m] at z; cases z
  have k2 : HOk X.prog X.w H' h2 := fun b u q => by
    refine (I2.hok b u q).stay (fun c v hc z => ?_) (fun _ z => z) fun _ _ z => z
    have := hc.elim (fun w => by rw [w]; exact okH b u q) fun w => okH c _ w
    exact x.keep c v this.1 (by rw [frq]; exact this.2) z
  have I3 : Inv X pins σ' H' { s1 with heap := h2 } := by
    refine inv_free (g' := s1.gens) (d' := s1.drawn) (t' := s1.toks) (ch := [a, T]) I2 (fun b hb' => ?_) (fun b o n1 n2 q => x.keep b o n1 (by rw [frq]; exact n2) q) (fun b o m q => x.slot b o (by rw [frq]; exact m) q) (Same.refl _) (fun _ _ _ _ z => z) k2 I2.bare
    have : b = a ∨ b = T := by simpa using hb'
    rcases this with rfl | rfl
    · exact ⟨na, (fun o q => by rw [he1] at q; cases q; exact ⟨_, hd1⟩), fun p hp => (hpn p hp).1⟩
    · exact ⟨nT, (fun o q => by rw [hT1] at q; cases q; exact ⟨_, hdT1⟩), fun p hp => (hpn p hp).2⟩
  refine wpAny_handleBy_cons (codeAny_handlers_test (ld_glob (X := sX X a) (inv_s I3) hg hm ?_ hdb)) (by intro q; cases q)
  refine matches_own (s := { s1 with heap := h2 }) (hb.keeps I3.bk) he2 hc2 ?_
  refine codeAny_handlers_suite_as (flight_again (s := { s1 with heap := h2 }) x.tr fun h4 tr4 k4 => ?_)
  obtain ⟨_, ⟨oe4, vs4, he4, hc4, hd4, _, hdn4⟩, _⟩ := id tr4
  have hT' : H' T' = none := I2.hok.fresh x.new
  have I5 : Inv X pins σ' (upd H' a (excO a C')) { s1 with heap := h4 } := by
    refine inv_free (s := { s1 with heap := h2 }) (g' := s1.gens) (d' := s1.drawn) (t' := s1.toks) (ch := [a, T']) I3 (fun b hb' => ?_) (fun b o n1 n2 q => (k4 b fun z => n1 (by simp [z])).trans q) (fun b o m q => ⟨o.slots, (k4 b fun z => ?_).trans q⟩) (same_new ha) (fun b o n1 q z => by rw [upd_ne fun w => n1 (by simp [w])]; exact z) (fun b u q => ?_) I2.bare
    · have : b = a ∨ b = T' := by simpa using hb'
      rcases this with rfl | rfl
      · exact ⟨na, (fun o q => by rw [show Heap.get? h2 b = some oe2 from he2] at q; cases q; exact ⟨_, hd2⟩), fun p hp => (hpn p hp).1⟩
      · refine ⟨Heap.get?_none_of_le (Nat.le_trans I2.sz x.new), (fun o q => by rw [show Heap.get? h2 b = some oT2 from hT2] at q; cases q; exact ⟨_, hdT2⟩), fun p hp z => ?_⟩
        have := Heap.lt_size (I2.pin p hp).1
        rw [z] at this
        exact absurd (Nat.lt_of_lt_of_le this x.new) (Nat.lt_irrefl _)
    · obtain ⟨_, o', ho', nf⟩ := I3.stack.mem m
      rw [z, show Heap.get? h2 T' = some oT2 from hT2] at ho'
      cases ho'
      exact nf _ hdT2
    · by_cases hba : b = a
      · subst hba
        rw [upd_same] at q
        cases q
        exact ⟨⟨oe4, he4, hc4, hdn4, vs4, hd4⟩, ⟨oe4, he4⟩, fun h1 h2 ⟨o, e, c⟩ kk => ⟨o, kk o e, c⟩⟩
      · rw [upd_ne hba] at q
        refine (I3.hok b u q).stay (fun c v hc z => (k4 c fun w => ?_).trans z) (fun c z => same_new ha c _ z) fun c _ z => same_new ha c _ z
        rcases hc with w' | w'
        · rw [w'] at w
          rw [w, hT'] at q; cases q
        · rw [w, hT'] at w'; cases w'
  refine store_ok2 (v := .ref a) I5 hN hj (.inl hn) rfl (fun s6 I6 _ => ?_) (.inr hn)
  have R5 : Rep X.K M0 H0 γ α (ρ.set j (.im (.exc C'))) (σ'.set j (some (.ref a))) (upd H' a (excO a C')) := (R1.next (same_new ha)).set_im hlt ⟨a, rfl, upd_same⟩
  refine wpAny_mono (su a γ α _ _ R5 pins s6 (inv_s I6)) (fun f s7 q => ?_) fun _ _ z => z.elim
  cases f with
  | ret u => obtain ⟨_, _, _, _, _, _, q, _⟩ := q; exact q.elim
  | brk => obtain ⟨_, _, _, _, _, _, q⟩ := q; exact q.elim
  | cont => obtain ⟨_, _, _, _, _, _, q⟩ := q; exact q.elim
  | next =>
    obtain ⟨σ7, H7, I7', α7, ρ7, R7, pN⟩ := q
    have I7 : Inv X pins σ7 H7 s7 := inv_s_back I2.ok I7'
    obtain ⟨m, hn7, hl7⟩ := id I7.loc
    refine wpAny_nameGoes_keeps (show X.env.kindOf n = some .local from hn) hn7 (by rw [I7.ok.kind]; rfl) fun h8 v hn8 sb => ?_
    refine ⟨σ7.set j none, H7, inv_ns I7 hn8 sb (by rw [List.length_set]; exact I7.len) (fun i y w e1 e2 e3 => ?_), α7, ρ7.set j .un, R7.forget, pN⟩
    rcases get_set e2 with ⟨_, z⟩ | ⟨ni, z⟩
    · cases z
    · obtain ⟨u, r, l⟩ := hl7 i y w e1 z e3
      refine ⟨u, r, ?_⟩
      rcases l with ⟨k, l⟩ | ⟨k, c, e, l⟩
      · have ny : y ≠ n := fun w => ni (nodup_ix hN e1 (w ▸ hj))
        exact .inl ⟨k, by simp [ny, l]⟩
      · obtain ⟨o, ho, hd⟩ := l
        exact .inr ⟨k, c, e, o, (sb.2 c (I7.cne y c e)).trans ho, hd⟩
end
end Z
set_option Elab.async false
set_option linter.all false
set_option maxRecDepth 100000
namespace Z
open PySem PySem.Spec PySem.W PyProof.Rows
section
variable {prog : Program} {w : World} {A : Around} {E : Value → Shared → Prop} {h : Heap} {g : Array GenState} {d : Drawn} {t : Nat} {os : OsState} {a C : Addr} {o : Obj} {K : Frag}
theorem excls_entry {tk : Tok} {Q : PySem.Fin → Shared → Prop} (X : K.In h) (hx : h.get? a = some o) (hc : o.cls = .ref C) (hcl : findIn K (.ref C) "__class__" = some (some (.builtin "object.__class__"))) (hm : mroIn K C (.type "object") = some true) (I : InstAt h a o C none) (hq : Q (.done (.ret (.ref C))) ⟨h, g, d, t, os⟩) :
    wpAny (model prog w) A (Builtin.«object.__getattribute__» ⟨[.ref a, .str "__class__" tk], []⟩) Q E ⟨h, g, d, t, os⟩ := by
  have f6 := F.slot_gs_get.lookup
  have f7 := F.slot_gs_set.lookup
  have f5 : typeOf (.builtin "object.__class__") = pure (.type "getset_descriptor") := by show builtinType _ = _; rw [builtinType_eq_fast]; kernel_rfl
  have hT5 : (⟨h, g, d, t, os⟩ : Shared).TypeIs (.builtin "object.__class__") "getset_descriptor" := f5
  have L1 := looks_findIn (M := model prog w) X hcl
  repeat (any_goals (first | assumption | (with_reducible refine wpAny_loadPart_at hx ?_; rw [hc]) | (with_reducible refine L1.at ?_) | wp_step))
  refine class_get (s := ⟨h, g, d, t, os⟩) X I hm ?_
  exact wpAny_pure hq
/-- what of an own class of errors is asked when a thing of it is asked for its class -/
structure ExcCl (K : Frag) (C : Addr) : Prop where
  cl : findIn K (.ref C) "__class__" = some (some (.builtin "object.__class__"))
  ga : findIn K (.ref C) "__getattribute__" = some (some (.builtin "BaseException.__getattribute__"))
  gt : findIn K (.ref C) "__getattr__" = some none
  ob : mroIn K C (.type "object") = some true
  be : subIn K (.ref C) (.type "BaseException") = some true
theorem excls_check {M : Model} {nameV : Value} {Q : Unit → Shared → Prop} (T : ExcCl K C) (X : K.In h) (hx : h.get? a = some o) (hc : o.cls = .ref C) (hq : Q () ⟨h, g, d, t, os⟩) : wpAny M A (checkBuiltinCall "BaseException.__getattribute__" ⟨[.ref a, nameV], []⟩) Q E ⟨h, g, d, t, os⟩ := by
  have hk : builtinKind "BaseException.__getattribute__" = some .slot := by decide +kernel
  have hsplit : splitId "BaseException.__getattribute__" = some ("BaseException", "__getattribute__") := by decide +kernel
  have ha := F.args_bexc_ga (.ref a) nameV
  have L2 := looks_subIn (M := M) X T.be
  simp only [checkBuiltinCall, hk, hsplit]
  refine wpAny_bind ?_
  unfold isInstance
  repeat (first | (with_reducible refine wpAny_loadPart_at hx ?_; rw [hc]) | (with_reducible refine L2.at ?_) | wp_step)
  exact hq
theorem excls_by {tk : Tok} {fill expr : Bool} {Q : Value → Shared → Prop} (T : ExcCl K C) (X : K.In h) (hx : h.get? a = some o) (hc : o.cls = .ref C) (I : InstAt h a o C none) (hq : Q (.ref C) ⟨h, g, d, t, os⟩) :
    wpAny (model prog w) A (getAttrBy (.ref a) (.str "__class__" tk) fill expr) Q E ⟨h, g, d, t, os⟩ := by
  have FB := F.excAttr_ValueError
  have f3 := FB.ga.bind (.ref a)
  have hx0 : (expr && onTheHeap (Value.builtin "BaseException.__getattribute__")) = false := by cases expr <;> rfl
  have hx2 : (Value.builtin "BaseException.__getattribute__" == Value.builtin "object.__getattribute__") = false := by decide +kernel
  have hx1 : (onTheHeap (Value.ref C) && Value.builtin "BaseException.__getattribute__" == Value.builtin "object.__getattribute__") = false := by rw [hx2]; rfl
  have L1 := looks_findIn (M := model prog w) X T.ga
  have L2 := looks_findIn (M := model prog w) X T.gt
  repeat (any_goals (first | assumption | (with_reducible refine wpAny_loadPart_at hx ?_; rw [hc]) | (with_reducible refine L1.at ?_) | (with_reducible refine L2.at ?_) | wp_step))
  refine codeAny_call_builtin FB.ga.plain F.entry_bexc_ga (excls_check T X hx hc (excls_entry X hx hc T.cl T.ob I ?_))
  repeat (any_goals (first | assumption | wp_step))
theorem excls_attr {Q : Option Value → Shared → Prop} {s : Shared} (T : ExcCl K C) (X : K.In s.heap) (I : InstAt s.heap a o C none) (hq : Q (some (.ref C)) { s with toks := s.toks + 1 }) : wpAny (model prog w) A (getAttr? (.ref a) "__class__") Q E s := by
  obtain ⟨h, g, d, t, os⟩ := s
  have hx := I.at_
  have hc := I.cls
  unfold getAttr?
  repeat (any_goals (first | assumption | with_reducible apply excls_by T X hx hc I | wp_step))
end
section
variable {K : Frag} {a C : Addr}
/-- a thing of an own class of errors -/
def ExcAt (a C : Addr) (h : Heap) : Prop := ∃ o, h.get? a = some o ∧ o.cls = .ref C ∧ o.dict = none ∧ ∃ vs, o.data = .fields vs
theorem ExcAt.inst {h : Heap} (x : ExcAt a C h) : ∃ o, InstAt h a o C none := by
  obtain ⟨o, e, c, d, vs, f⟩ := x
  refine ⟨o, e, c, ?_, ?_⟩
  · obtain ⟨oc, od, dt, sl⟩ := o
    cases (show dt = _ from f)
    rfl
  · rw [d]
    trivial
theorem kitx_exc (T : ExcCl K C) (hcl : (clsIn K C).isSome = true) : KitX K (.ref a) (.ref C) (ExcAt a C) where
  ty := fun _ _ _ x => let ⟨o, I⟩ := x.inst; I.type
  it := fun _ _ X _ => by
    obtain ⟨cdD, hcD⟩ := Option.isSome_iff_exists.mp hcl
    unfold clsIn at hcD
    split at hcD
    · rename_i c' d' cd' sl' ho
      intro A' Q' E' s' k q
      unfold isType loadHead
      exact wpAny_bind (wpAny_loadPart (k _ _ (X _ _ ho)) (wpAny_pure q))
    · cases hcD
  ne := fun h tp dd its n sl X htp => by
    obtain ⟨cdD, hcD⟩ := Option.isSome_iff_exists.mp hcl
    refine Bool.eq_false_iff.mpr fun q => ?_
    have e : C = tp := Value.ref.inj (beq_iff_eq.mp q)
    subst e
    unfold clsIn at hcD
    split at hcD
    · rename_i c' d' cd' sl' ho
      have z := (X _ _ ho).symm.trans htp
      cases z
    · cases hcD
  ca := fun X x k => let ⟨o, I⟩ := x.inst; excls_attr T X I k
end
end Z
set_option Elab.async false
set_option linter.all false
set_option maxRecDepth 100000
namespace Z
open PySem PySem.Spec PyProof.Rows L2
/-- what the text has of an own class of errors -/
structure ExcT (K : Frag) (C : Addr) : Prop where
  t : ExcCl K C
  c : (PySem.W.clsIn K C).isSome = true
section
variable {X : Cx} {ρ : Rho} {e : Expr} {C : Addr} {p p2 pos : Pos} {x : Str} {b : Bool}
theorem call_isiE : CallR X (.builtin "isinstance") (fun xs H Q => ∃ (a C : Addr) (v : V) (c : Value) (b : Bool), xs = [.ref a, v] ∧ RelV v c ∧ (∀ u, RelV v u → u = c) ∧ H a = some (excO a C) ∧ ExcT X.K C ∧ PySem.W.kitOne X.K (.ref C) c = some b ∧ Q (.bl b) H) := by
  intro pins s σ H xs us Q I r ⟨a, C, v, c, b, e, rc, ru, ha, T, hk, q⟩
  subst e
  obtain ⟨u, c', rfl, r1, r2⟩ := vals2 r
  cases (show u = Value.ref a from r1)
  cases ru c' r2
  obtain ⟨⟨o, e1, e2, e3, vs, e4⟩, _⟩ := (show ObjOk X.prog X.w H s.heap a (excO a C) from I.hok a _ ha)
  exact PySem.W.kia_one (kitx_exc T.t T.c) I.kIn ⟨o, e1, e2, e3, vs, e4⟩ hk (fun z => nomatch z) fun tk => ⟨.bl b, H, I.tok tk, rfl, q⟩
/-- isinstance(e, C') for a class of the text -/
theorem EvD.isiE {C' : Addr} (hg : Gl X "isinstance") (hm : X.mg "isinstance" = none) (hgC : Gl X x) (hmC : X.mg x = some (.ref C')) (h : EvD X ρ e (.exc C)) (T : ExcT X.K C) (hk : PySem.W.kitOne X.K (.ref C) (.ref C') = some b)
    (he : starEach [e, .Name x p2] X.env = (false, eval e X.env) :: starEach [.Name x p2] X.env := by rfl) (he2 : starEach [.Name x p2] X.env = [(false, eval (.Name x p2) X.env)] := by rfl) (hpl : (backTo pos (starEach [.Name x p2] X.env)).any (·.1) = false := by rfl)
    (hd : (x == ("__debug__" : Str)) = false := by decide) : EvD X ρ (.Call (.Name "isinstance" p) [e, .Name x p2] [] pos) (.bl b) := fun M0 H0 γ α σ H Q R k =>
  (pe_callB call_isiE hg hm boot_isinstance (pa_cons peE (pa_cons (pe_glob (v := .ref C') hgC hmC rfl hd) pa_nil he2) he) (by decide) (by decide) he hpl).to (h M0 H0 γ α σ H _ R fun v H1 s1 d1 => by
    obtain ⟨a, rfl, ha⟩ := d1
    exact ⟨a, C, .ref C', .ref C', b, rfl, rfl, fun _ z => z, ha, T, hk, k _ H1 s1 rfl⟩)
/-- isinstance(e, T) for a built-in class -/
theorem EvD.isiET {n : String} (hg : Gl X "isinstance") (hm : X.mg "isinstance" = none) (hgC : Gl X x) (hmC : X.mg x = none) (hv : bootBuiltins x = some (.type n)) (h : EvD X ρ e (.exc C)) (T : ExcT X.K C) (hk : PySem.W.kitOne X.K (.ref C) (.type n) = some b)
    (he : starEach [e, .Name x p2] X.env = (false, eval e X.env) :: starEach [.Name x p2] X.env := by rfl) (he2 : starEach [.Name x p2] X.env = [(false, eval (.Name x p2) X.env)] := by rfl) (hpl : (backTo pos (starEach [.Name x p2] X.env)).any (·.1) = false := by rfl)
    (hn : x ≠ "__name__" := by decide) (hd : (x == ("__debug__" : Str)) = false := by decide) : EvD X ρ (.Call (.Name "isinstance" p) [e, .Name x p2] [] pos) (.bl b) := fun M0 H0 γ α σ H Q R k =>
  (pe_callB call_isiE hg hm boot_isinstance (pa_cons peE (pa_cons (pe_bltn (v := .ty n) hgC hmC hv rfl hn hd) pa_nil he2) he) (by decide) (by decide) he hpl).to (h M0 H0 γ α σ H _ R fun v H1 s1 d1 => by
    obtain ⟨a, rfl, ha⟩ := d1
    exact ⟨a, C, .ty n, .type n, b, rfl, rfl, fun _ z => z, ha, T, hk, k _ H1 s1 rfl⟩)
end
end Z
set_option Elab.async false
set_option linter.all false
set_option maxRecDepth 100000
namespace Z
open PySem PySem.Spec PyProof.Rows L2
/-! ### what a call gives is new: a list inside it may be changed -/
/-- no list inside; objects are let -/
def D.bare : Nat → D → Prop
  | _, .non => True
  | _, .bl _ => True
  | _, .int _ => True
  | _, .str _ => True
  | n + 1, .tup ds => ∀ d ∈ ds, D.bare n d
  | n + 1, .ins _ _ ds => ∀ d ∈ ds, D.bare n d
  | _, _ => False
theorem set_join (σ : St) (i : Nat) : σ.set i (σ[i]?).join = σ := by
  apply List.ext_getElem?
  intro j
  rw [List.getElem?_set]
  split
  · rename_i e
    subst e
    split
    · rename_i h
      rw [List.getElem?_eq_getElem h]
      rfl
    · rename_i h
      rw [List.getElem?_eq_none (Nat.le_of_not_lt h)]
  · rfl
section
variable {K : Frag} {M : MP} {H : Hp} {a b : Addr} {o : Obj} {xs ys : List V}
theorem rdL_thaw (ha : H a = some (.frz o (.lst xs))) (h : Rd H b (.lst ys)) : Rd (upd H a (.lst xs)) b (.lst ys) := by
  by_cases hb : b = a
  · subst hb
    rcases h with h | ⟨o', h⟩
    · rw [ha] at h; cases h
    · rw [ha] at h; cases h; exact .inl upd_same
  · rcases h with h | ⟨o', h⟩
    · exact .inl (by rw [upd_ne hb]; exact h)
    · exact .inr ⟨o', by rw [upd_ne hb]; exact h⟩
theorem sqT_thaw (ha : H a = some (.frz o (.lst xs))) (h : SqT K H b ys) : SqT K (upd H a (.lst xs)) b ys := by
  rcases h with (h | ⟨o', h⟩) | h
  · exact .inl (.inl (by rw [upd_ne fun z => by rw [z, ha] at h; cases h]; exact h))
  · exact .inl (.inr ⟨o', by rw [upd_ne fun z => by rw [z, ha] at h; cases h]; exact h⟩)
  · exact .inr h
theorem sqM_thaw (ha : H a = some (.frz o (.lst xs))) (h : SqM K M H b ys) : SqM K M (upd H a (.lst xs)) b ys := by
  rcases h with ⟨h, m⟩ | h
  · exact .inl ⟨rdL_thaw ha h, m⟩
  · exact .inr h
mutual
theorem Dn.thaw (ha : H a = some (.frz o (.lst xs))) : ∀ {d : D} {v : V}, Dn K M H d v → Dn K M (upd H a (.lst xs)) d v
  | .non, _, x => x
  | .bl _, _, x => x
  | .int _, _, x => x
  | .str _, _, x => x
  | .tup ds, _, ⟨b, ys, e, s, r⟩ => ⟨b, ys, e, sqT_thaw ha s, Dns.thaw ha r⟩
  | .lst ds, _, ⟨b, ys, e, s, r⟩ => ⟨b, ys, e, sqM_thaw ha s, Dns.thaw ha r⟩
  | .ins _ _ ds, _, ⟨b, dx, fs, e, s, n, r⟩ => ⟨b, dx, fs, e, by rw [upd_ne fun z => by rw [z, ha] at s; cases s]; exact s, n, Dns.thaw ha r⟩
  | .exc C, _, ⟨b, e, s⟩ => ⟨b, e, by rw [upd_ne fun z => by rw [z, ha] at s; cases s]; exact s⟩
theorem Dns.thaw (ha : H a = some (.frz o (.lst xs))) : ∀ {ds : List D} {vs : List V}, Dns K M H ds vs → Dns K M (upd H a (.lst xs)) ds vs
  | [], _, x => x
  | _ :: _, _, ⟨v, r, e, p, q⟩ => ⟨v, r, e, Dn.thaw ha p, Dns.thaw ha q⟩
end
end
section
variable {X : Cx} {ρ : Rho} {M0 : MP} {H0 H H' : Hp} {γ : List (D × V)} {α : Nat → Addr} {σ : St} {En : Ends} {sts s1 body : List Stmt} {e c tg : Expr} {es : List Expr} {d : D} {pos p pos' : Pos} {CX : CXT} {k : Nat} {x : Str} {ι : Type} {args : ι → List D} {pre : ι → Prop} {res : ι → Except Addr D} {Q : VK}
end
end Z
set_option Elab.async false
set_option linter.all false
set_option maxRecDepth 100000
namespace Z
open PySem PySem.Spec PyProof.Rows L2
/-! ### facts on the classes of errors, out of what the top has written -/
section
variable {K : Frag} {h : Heap} {mg : Str → Option Value} {x : Str} {C D0 : Addr} {tl : List Value} {nid : String}
/-- the object of an own class of errors -/
theorem exc_obj (ok : PySem.W.excIn K C tl nid = true) : ∃ nm q N bs bm hdct sn sub ab col dd k0 k1 k2 k3 k5, K.lookup C = some (excClassObj nm q C N bs bm hdct sn sub ab col dd k0 k1 k2 k3 k5 nid) ∧ PySem.W.tailIn K tl bm = true ∧ PySem.W.nsOkIn K N = true ∧ PySem.W.nsIn K N "__init__" = some none := by
  unfold PySem.W.excIn at ok
  split at ok
  case h_2 => cases ok
  rename_i dct cdat slots look
  split at ok
  case h_2 => cases ok
  rename_i C2 above s0 s1 s2 s3 bid s5 em es
  simp only [Bool.not_eq_true', Bool.and_eq_true, beq_iff_eq] at ok
  obtain ⟨⟨⟨⟨⟨w1, w2⟩, w3⟩, w4⟩, w5⟩, w6⟩ := ok
  subst w1 w2
  obtain ⟨v1, v2, v3, v4, v5, v6, v7, v8, v9, v10, v11⟩ := cdat
  dsimp only at em w3 w5 w6
  subst em w3
  obtain ⟨sl⟩ := slots
  have es' : sl = [s0, s1, s2, s3, some (.builtin bid), s5] := es
  subst es'
  exact ⟨v1, v5, v4, v2, above, v6, v7, v8, v9, v10, dct, s0, s1, s2, s3, s5, look, w4, w5, w6⟩
theorem ownCls_of (kin : K.In h) (hmg : mg x = some (.ref C)) (ok : PySem.W.excIn K C tl nid = true) : OwnCls x C tl nid mg h := by
  obtain ⟨nm, q, N, bs, bm, hdct, sn, sub, ab, col, dd, k0, k1, k2, k3, k5, look, w4, w5, w6⟩ := exc_obj ok
  exact ⟨hmg, bm, N, nm, q, bs, hdct, sn, sub, ab, col, dd, k0, k1, k2, k3, k5, _, kin _ _ look, .of_isNs (PySem.W.isNs_of_in kin w5), PySem.W.nsMap_none_of_in kin w5 w6, PySem.W.tail_of_in kin w4⟩
theorem ownE_of (kin : K.In h) (hmg : mg x = some (.ref C)) (ok : PySem.W.excIn K C vErr "ValueError.__new__" = true) : OwnE x C mg h :=
  ⟨_, _, _, _, ownCls_of kin hmg ok, PySem.F.excBase_ValueError, by decide +kernel⟩
theorem exc_above {v : Value} (kin : K.In h) (ok : PySem.W.excIn K C tl nid = true) (hm : PySem.W.mroIn K C v = some true) :
    ∃ nm q N bs bm hdct sn sub ab col dd k0 k1 k2 k3 k5 newId, h.get? C = some (excClassObj nm q C N bs bm hdct sn sub ab col dd k0 k1 k2 k3 k5 newId) ∧ (Value.ref C :: bm).contains v = true := by
  obtain ⟨nm, q, N, bs, bm, hdct, sn, sub, ab, col, dd, k0, k1, k2, k3, k5, look, w4, w5, w6⟩ := exc_obj ok
  refine ⟨nm, q, N, bs, bm, hdct, sn, sub, ab, col, dd, k0, k1, k2, k3, k5, nid, kin _ _ look, ?_⟩
  unfold PySem.W.mroIn PySem.W.clsIn at hm
  rw [look] at hm
  have hm' : some ((Value.ref C :: bm).contains v) = some true := hm
  exact Option.some.inj hm'
theorem below_of {tl' : List Value} {nid' : String} (kin : K.In h) (o1 : PySem.W.excIn K C tl nid = true) (o2 : PySem.W.excIn K D0 tl' nid' = true) (m1 : PySem.W.mroIn K C (.ref D0) = some true) (m2 : PySem.W.mroIn K D0 (.type "BaseException") = some true) : Below2 C D0 h := ⟨exc_above kin o1 m1, exc_above kin o2 m2⟩
end
/-- no list was made by the top -/
def noLst (K : Frag) : Bool := K.all fun p => !(p.2.cls == .type "list")
theorem lawWalkX {l : PySem.W.OpenLaw} {q : Program} {loose : List Str} {XP : (Str → Option Value) → Heap → Prop} {YP : World → Heap → Prop} {d : DefRec} {K : Params → Frag} {k : Nat} (hr : Room k callerA) (hn : l.most = some 63) (hdf : d.params.defaults = [])
    (hY : ∀ (w : World) (h : Heap), YP w h → (K w.params).In h)
    (F : ∀ (w : World) (mg : Str → Option Value) (fa : Addr) (h : Heap), (K w.params).In h → h.Ns mainGlobals mg → mg d.name = some (.ref fa) →
      ∃ fd : FuncData, (∀ (s : Shared) (u : Value), BindsTo s fd ⟨[u], []⟩ [("script", u)]) ∧ ∀ base : Heap, (K w.params).In base → base.Ns mainGlobals mg → FnOk l.prog w (K w.params) mg base (CXr l.prog w) k fa fd ["script"] (spLaw (K w.params))) :
    PySem.W.WalkO q loose XP YP l.row.toRowW d [] (fun f vs => PySem.call f vs) :=
  L2.walk_of (n := 63) (k := k) (x := "script") (CX := fun w => CXr l.prog w) (sp := fun w => spLaw (K w.params)) hn (by decide) hdf hr hY F (fun w H a ns hl _ hS => by
    refine ⟨ns, NoM, fun _ z => z.elim, ⟨.ref a, [], rfl, ⟨a, ns.map V.int, rfl, ?_, Dns.of_ints ns⟩, rfl⟩, hl, fun d' e v H' _ dn => ?_, fun C e => by cases e⟩
    · rcases hS with s | s
      · exact .inl ⟨s, fun z => z⟩
      · exact .inr s
    · cases e
      exact dn) fun w H s e s' z => cxr_no [] H s e s' z
end Z
set_option Elab.async false
set_option linter.all false
set_option maxRecDepth 100000
namespace Z
open PySem PySem.Spec PyProof.Rows L2
/-! ### texts: slices, index, list(text), text + list.pop(..) -/
section
variable {X : Cx} {ρ : Rho} {M0 : MP} {H0 : Hp} {P : Post} {a b e o : Expr} {pos p p2 apos cpos : Pos}
theorem sl_str : SlR X (fun x lo hi H Q => ∃ z, x = .str z ∧ z.length ≤ 1000000 ∧ Q (.str (Txt.slice z lo hi)) H) := by
  intro pins s σ H x v vl vu lo hi sl Q I rx hs pl pu ⟨z, e, hl, q⟩
  subst e
  obtain ⟨t, rfl⟩ := rx
  refine ⟨"str", _, PySem.F.slot_str_getitem.lookup, typeIs_str _ _ _, ?_⟩
  have fin : ∀ t' k, EP X pins σ Q (.str (Txt.slice z lo hi) t') { s with toks := k } := fun t' k => ⟨.str _, H, I.tok _, ⟨_, rfl⟩, q⟩
  have hz : (Txt.slice z lo hi).length ≤ sizeLine := Nat.le_trans (Txt.slice_le z _ _) (le_line hl)
  cases pl with
  | none =>
    cases pu with
    | none => exact wpAny_getItem_str_slice (l := none) (u := none) (st := none) hs rfl (post_val_or_str ⟨hz, fin⟩)
    | int j tj => exact wpAny_getItem_str_slice (l := none) (u := some (j, tj)) (st := none) hs rfl (post_val_or_str ⟨hz, fin⟩)
  | int i ti =>
    cases pu with
    | none => exact wpAny_getItem_str_slice (l := some (i, ti)) (u := none) (st := none) hs rfl (post_val_or_str ⟨hz, fin⟩)
    | int j tj => exact wpAny_getItem_str_slice (l := some (i, ti)) (u := some (j, tj)) (st := none) hs rfl (post_val_or_str ⟨hz, fin⟩)
theorem EvD.cutS {lo hi : Option Expr} {l u : Option Int} {z : Str} (ha : EvD X ρ a (.str z)) (hl : OvD X ρ lo l) (hh : OvD X ρ hi u) (hz : z.length ≤ 1000000) : EvD X ρ (.Subscript a (.Slice lo hi none p2) pos) (.str (Txt.slice z l u)) := by
  obtain ⟨tl, l1, l2⟩ := hl.run
  obtain ⟨th, h1, h2⟩ := hh.run
  intro M0 H0 γ α σ H Q R k
  exact (pe_slice sl_str peE l1 h1).to (ha M0 H0 γ α σ H _ R fun v H1 s1 d1 => l2 M0 H0 γ α σ H1 _ (R.next s1) fun H2 s2 => h2 M0 H0 γ α σ H2 _ ((R.next s1).next s2) fun H3 s3 => ⟨z, d1, hz, k _ H3 ((s1.trans s2).trans s3) rfl⟩)
theorem mt_indexS : MtR X "str.index" (fun x vs H Q => ∃ (z y : Str) (i : Nat) (rest : List Nat), x = .str z ∧ vs = [.str y] ∧ Builtin.Str.occurrences z y 0 z.length 1 = i :: rest ∧ Q (.int i) H) := by
  intro pins s σ H x vs v us Q I rx rv ⟨z, y, i, rest, e1, e2, ho, k⟩
  subst e1 e2
  obtain ⟨t, rfl⟩ := rx
  obtain ⟨u, rfl, t2, rfl⟩ := rv.one
  refine call_gives PySem.F.slot_str_index (typeIs_str _ _ _) PySem.F.entry_str_index (PySem.F.args_str_index_2 _ _) (gives_str_index z y t t2 i rest ho) ?_
  exact ⟨.int i, H, I.tok _, ⟨_, rfl⟩, k⟩
theorem EvD.indexS {z y : Str} {i : Nat} {rest : List Nat} (ho : EvD X ρ o (.str z)) (he : EvD X ρ e (.str y)) (hi : Builtin.Str.occurrences z y 0 z.length 1 = i :: rest) (mc : MC1 X o "index" e apos cpos) :
    EvD X ρ (.Call (.Attribute o "index" apos) [e] [] cpos) (.int i) := fun M0 H0 γ α σ H Q R k => by
  obtain ⟨m1, m2, m3, m4⟩ := mc
  refine (pe_bm PySem.F.plainAttrs_str PySem.F.slot_str_index PySem.F.type_str_index mt_indexS peE paA m1 m2 m3 m4 rfl).to ?_
  refine ho M0 H0 γ α σ H _ R fun v H1 s1 d1 => ⟨?_, (AvD.cons he AvD.nil m4) M0 H0 γ α σ H1 _ (R.next s1) fun vs H2 s2 dn => ?_⟩
  · cases (show v = .str z from d1)
    rfl
  · obtain ⟨u, r, rfl, e1, e2⟩ := dn
    cases e2
    exact ⟨z, y, i, rest, d1, by rw [show u = .str y from e1], hi, k _ H2 (s1.trans s2) rfl⟩
theorem call_listStr (hc : X.calm = true) : CallR X (.type "list") (fun xs H Q => ∃ z : Str, xs = [.str z] ∧ z.length ≤ 1000000 ∧ ∀ l, H l = none → Q (.ref l) (upd H l (.lst ((ones z).map V.str)))) := by
  intro pins s σ H xs us Q I r ⟨z, e, hz, k⟩
  subst e
  obtain ⟨u, rfl, t, rfl⟩ := vals1 r
  refine call_list_str (I.ok.hd hc) z t (fun h' tk acc c' hk hS hacc => ?_) (le_line hz)
  have hl : ((ones z).map V.str).length = z.cps.size := by unfold ones; simp
  refine ⟨.ref s.heap.objs.size, _, I.laid (t' := tk) hk (Nat.le_refl _) (o := .lst ((ones z).map V.str)) ⟨?_, acc.toList, c', valsOf ?_ fun i x u hx hu => ?_, by simpa using hS⟩, rfl, k _ I.fresh⟩
  · rw [hl]; exact le_line hz
  · rw [hl, Array.length_toList, hacc.1]
  · have hu' : acc[i]? = some u := by simpa using hu
    obtain ⟨c, tk, hcc, rfl⟩ := hacc.2 i u hu'
    unfold ones at hx
    rw [List.map_map, List.getElem?_map] at hx
    have hc2 : z.cps.toList[i]? = some c := by simpa using hcc
    rw [hc2] at hx
    cases hx
    exact ⟨tk, rfl⟩
theorem EvF.listStr {z : Str} (hc : X.calm = true) (hg : Gl X "list") (hm : X.mg "list" = none) (h : EvD X ρ e (.str z)) (hz : z.length ≤ 1000000) (he : starEach [e] X.env = [(false, eval e X.env)] := by rfl) : EvF X ρ (.Call (.Name "list" p) [e] [] pos) ((ones z).map .str) := fun M0 H0 γ α σ H Q R k =>
  (pe_callTy (call_listStr hc) hg hm (by decide +kernel) (pa_cons peE pa_nil he) (by decide) (by decide) he).to (h M0 H0 γ α σ H _ R fun v H1 s1 d1 => by
    cases (show v = .str z from d1)
    exact ⟨z, rfl, hz, fun l hl => k l _ _ _ s1 hl (same_new hl) upd_same (Dns.of_strs _)⟩)
/-- y = y + x.pop(e), texts -/
theorem W1.catPop {i j n : Nat} {x y t c : Str} {zs : List Str} {k : Int} {p1 p3 p4 p5 p6 : Pos} (hN : X.N.Nodup) (hi : X.N[i]? = some x) (hv : Vis X.env.scope x) (hρ : ρ[i]? = some (.mu (zs.map .str))) (hj : X.N[j]? = some y) (hy : Loc X.env.scope y) (hvy : Vis X.env.scope y) (hρj : ρ[j]? = some (.im (.str t))) (h : EvD X ρ e (.int k))
    (hk : k = (n : Int)) (hn : zs[n]? = some c) (hn2 : n < 1000000) (hl : t.length + c.length ≤ 1000000) (q : P.N ((ρ.set i (.mu ((zs.eraseIdx n).map .str))).set j (.im (.str (t ++ c)))))
    (mc : MC1 X (.Name x p1) "pop" e p2 p3) (hd : (x == ("__debug__" : Str)) = false := by decide) (hcd : (x == ("__classdict__" : Str)) = false := by decide) (hdy : (y == ("__debug__" : Str)) = false := by decide) (hcdy : (y == ("__classdict__" : Str)) = false := by decide)
    (hs : swapsWith (.BinOp (.Name y p5) .Add (.Call (.Attribute (.Name x p1) "pop" p2) [e] [] p3) p6) (some (.Name y p4)) pos.line X.env = pure false := by rfl) (hf : X.fn y = true ∨ X.env.scope.names.lookup y = some .local := by first | exact .inl rfl | exact .inr rfl | assumption) :
    W1 X M0 H0 (.Assign [.Name y p4] (.BinOp (.Name y p5) .Add (.Call (.Attribute (.Name x p1) "pop" p2) [e] [] p3) p6) pos) ρ P := fun γ α σ H R => by
  obtain ⟨m1, m2, m3, m4⟩ := mc
  obtain ⟨a1, a2, xs, a3, a4⟩ := R.mu i _ hρ
  obtain ⟨v, hv1, hv2⟩ := R.im j _ hρj
  cases (show v = .str t from hv2)
  refine (ps_set hN hj hy (pe_op op_add_str (pe_var hj hvy hdy hcdy) (pe_bm PySem.F.plainAttrs_list PySem.F.slot_list_pop PySem.F.type_list_pop mt_popAt (pe_var hi hv hd hcd) paA m1 m2 m3 m4 rfl)) hs hf).to ?_
  refine ⟨_, hv1, _, a2, .inl ⟨rfl, _, SqL.of a3⟩, (AvD.cons h AvD.nil m4) M0 H0 γ α σ H _ R fun vs H1 s y1 => ?_⟩
  obtain ⟨u1, r, rfl, e1, e2⟩ := y1
  cases e2
  cases (show u1 = .int k from e1)
  subst hk
  have hxs : xs = zs.map V.str := a4.strs
  subst hxs
  have hnl : n < zs.length := (List.getElem?_eq_some_iff.mp hn).1
  have R1 := (R.next s).upd_mu (es := (zs.eraseIdx n).map .str) (ys := (zs.eraseIdx n).map V.str) hρ (Dns.of_strs _)
  have er : (zs.map V.str).eraseIdx n = (zs.eraseIdx n).map V.str := by
    rw [List.eraseIdx_eq_take_drop_succ, List.eraseIdx_eq_take_drop_succ, List.map_append, List.map_take, List.map_drop]
  refine ⟨α i, zs.map V.str, (n : Int), n, .str c, rfl, rfl, s _ _ a3, by omega, by omega, (ixN_seq (by unfold ixN; rw [List.length_map, if_pos (by omega), if_pos (by omega)]; simp)).1, by rw [List.getElem?_map, hn]; rfl, t, c, rfl, rfl, le_line hl, ?_⟩
  rw [er]
  exact ⟨α, _, R1.set_im (d := .str (t ++ c)) (by rw [List.length_set]; exact (List.getElem?_eq_some_iff.mp hρj).1) rfl, q⟩
end
end Z
set_option Elab.async false
set_option linter.all false
set_option maxRecDepth 100000
namespace Z
open PySem PySem.Spec PyProof.Rows L2
/-! ### lists inside a list that grow, at the state -/
theorem iteT' {b : Bool} {A B : Prop} (e : b = true) (h : A) : if b = true then A else B := by rw [if_pos e]; exact h
theorem iteF' {b : Bool} {A B : Prop} (e : b = false) (h : B) : if b = true then A else B := by rw [if_neg (by rw [e]; exact Bool.false_ne_true)]; exact h
section
variable {K : Frag} {M0 : MP} {H0 Hs H : Hp} {γ : List (D × V)} {α : Nat → Addr} {ρ : Rho} {σ : St} {D0 l : Addr} {as : List Addr} {rows : List (List Int)} {o : HO}
theorem RowsAt.other (ra : RowsAt Hs D0 as rows H) (h1 : l ≠ D0) (h2 : l ∉ as) : RowsAt Hs D0 as rows (upd H l o) :=
  ⟨by rw [upd_ne (Ne.symm h1)]; exact ra.at_, ra.len, ra.nd, ra.no, ra.old, fun j a r e1 e2 => ⟨(ra.row j a r e1 e2).1, by rw [upd_ne fun z : a = l => h2 (z ▸ List.mem_of_getElem? e1)]; exact (ra.row j a r e1 e2).2⟩⟩
/-- a slot seen as data -/
theorem Rep.view {i : Nat} {d : D} {v : V} (r : Rep K M0 H0 γ α ρ σ H) (hi : i < ρ.length) (hσ : σ[i]? = some (some v)) (h : Dn K (MM M0 ρ α) H d v) : Rep K M0 H0 γ α (ρ.set i (.im d)) σ H := by
  have e : σ.set i (some v) = σ := by
    have := set_join σ i
    rw [hσ] at this
    exact this
  have h' := r.set_im hi h
  rwa [e] at h'
end
section
variable {X : Cx} {ρ : Rho} {M0 : MP} {H0 Hs H : Hp} {γ : List (D × V)} {α : Nat → Addr} {σ : St} {En : Ends} {body : List Stmt} {b e tg : Expr} {d : D} {ds : List D} {pos p1 p2 p3 p4 : Pos} {x : Str} {i : Nat} {D0 l : Addr} {as : List Addr} {rows : List (List Int)} {xs : List V}
/-- x.append(e), at the state -/
theorem appAt (hi : X.N[i]? = some x) (hv : Vis X.env.scope x) (R : Rep X.K M0 H0 γ α ρ σ H) (hσ : σ[i]? = some (some (.ref l))) (hl : H l = some (.lst xs)) (hz : xs.length < 1000000) (he : EvD X ρ e d)
    (q : ∀ H1 v, Same H H1 → Dn X.K (MM M0 ρ α) H1 d v → En.nx σ (upd H1 l (.lst (xs ++ [v])))) (mc : MC1 X (.Name x p1) "append" e p2 p3) (hd : (x == ("__debug__" : Str)) = false := by decide) (hcd : (x == ("__classdict__" : Str)) = false := by decide)
    (hsw : swapsWith (.Call (.Attribute (.Name x p1) "append" p2) [e] [] p3) none pos.line X.env = pure false := by rfl) : tS X (.Expr (.Call (.Attribute (.Name x p1) "append" p2) [e] [] p3) pos) En σ H := by
  obtain ⟨m1, m2, m3, m4⟩ := mc
  refine (ps_expr (pe_bm PySem.F.plainAttrs_list PySem.F.slot_list_append PySem.F.type_list_append mt_append (pe_var hi hv hd hcd) paA m1 m2 m3 m4 rfl) hsw).to ?_
  refine ⟨_, hσ, .inl ⟨rfl, _, SqL.of hl⟩, (AvD.cons he AvD.nil m4) M0 H0 γ α σ H _ R fun vs H1 s y => ?_⟩
  obtain ⟨v, r, rfl, e1, e2⟩ := y
  cases e2
  exact ⟨l, xs, v, rfl, rfl, s _ _ hl, lt_line hz, q H1 v s e1⟩
/-- x.append(e), e a new list -/
theorem appNew (hi : X.N[i]? = some x) (hv : Vis X.env.scope x) (R : Rep X.K M0 H0 γ α ρ σ H) (hσ : σ[i]? = some (some (.ref l))) (hl : H l = some (.lst xs)) (hz : xs.length < 1000000) (he : EvF X ρ e ds)
    (q : ∀ a ys H1 H2, Same H H1 → H1 a = none → Same H1 H2 → H2 a = some (.lst ys) → Dns X.K (fun b => MM M0 ρ α b ∨ b = a) H2 ds ys → En.nx σ (upd H2 l (.lst (xs ++ [.ref a])))) (mc : MC1 X (.Name x p1) "append" e p2 p3) (hd : (x == ("__debug__" : Str)) = false := by decide) (hcd : (x == ("__classdict__" : Str)) = false := by decide)
    (hsw : swapsWith (.Call (.Attribute (.Name x p1) "append" p2) [e] [] p3) none pos.line X.env = pure false := by rfl) : tS X (.Expr (.Call (.Attribute (.Name x p1) "append" p2) [e] [] p3) pos) En σ H := by
  obtain ⟨m1, m2, m3, m4⟩ := mc
  refine (ps_expr (pe_bm PySem.F.plainAttrs_list PySem.F.slot_list_append PySem.F.type_list_append mt_append (pe_var hi hv hd hcd) (pa_cons peE pa_nil m4) m1 m2 m3 m4 rfl) hsw).to ?_
  exact ⟨_, hσ, .inl ⟨rfl, _, SqL.of hl⟩, he M0 H0 γ α σ H _ R fun a ys H1 H2 s n s' h dn => ⟨l, xs, .ref a, rfl, rfl, s' _ _ (s _ _ hl), lt_line hz, q a ys H1 H2 s n s' h dn⟩⟩
/-- x[b].append(e) -/
theorem appRow {k v : Int} {n : Nat} {a : Addr} {r : List Int} (hi : X.N[i]? = some x) (hv : Vis X.env.scope x) (R : Rep X.K M0 H0 γ α ρ σ H) (hσ : σ[i]? = some (some (.ref D0))) (ra : RowsAt Hs D0 as rows H) (hb : EvD X ρ b (.int k)) (hk : atI (as.map V.ref) k = some (.ref a)) (hn : as[n]? = some a) (hr : rows[n]? = some r) (he : EvD X ρ e (.int v)) (hl : r.length < 1000000)
    (q : ∀ H1, Same H H1 → H1 a = some (.lst (r.map V.int)) → En.nx σ (upd H1 a (.lst ((r ++ [v]).map V.int))))
    (mc : MC1 X (.Subscript (.Name x p1) b p2) "append" e p3 p4) (hs : PlainIx b := by intro _ _; rfl) (hd : (x == ("__debug__" : Str)) = false := by decide) (hcd : (x == ("__classdict__" : Str)) = false := by decide)
    (hsw : swapsWith (.Call (.Attribute (.Subscript (.Name x p1) b p2) "append" p3) [e] [] p4) none pos.line X.env = pure false := by rfl) :
    tS X (.Expr (.Call (.Attribute (.Subscript (.Name x p1) b p2) "append" p3) [e] [] p4) pos) En σ H := by
  obtain ⟨m1, m2, m3, m4⟩ := mc
  refine (ps_expr (pe_bm PySem.F.plainAttrs_list PySem.F.slot_list_append PySem.F.type_list_append mt_append (pe_ix ix_list (pe_var hi hv hd hcd) peE hs) paA m1 m2 m3 m4 rfl) hsw).to ?_
  refine ⟨_, hσ, hb M0 H0 γ α σ H _ R fun u H1 s1 d1 => ?_⟩
  cases (show u = .int k from d1)
  obtain ⟨q1, q2⟩ := ra.row n _ _ hn hr
  refine ⟨D0, as.map V.ref, k, .ref a, rfl, rfl, SqL.of (s1 _ _ ra.at_), hk, .inl ⟨rfl, _, SqL.of (s1 _ _ q2)⟩, (AvD.cons he AvD.nil m4) M0 H0 γ α σ H1 _ (R.next s1) fun vs H2 s2 y => ?_⟩
  obtain ⟨v1, r1, rfl, e1, e2⟩ := y
  cases e1; cases e2
  refine ⟨a, _, .int v, rfl, rfl, s2 _ _ (s1 _ _ q2), by rw [List.length_map]; exact lt_line hl, ?_⟩
  have := q H2 (s1.trans s2) (s2 _ _ (s1 _ _ q2))
  rw [List.map_append] at this
  exact this
/-- for over a text, at the state -/
theorem forST {z : Str} (J : Nat → St → Hp → Prop) (hp : PassesOwn (model X.prog X.w) X.A X.env X.xe) (hc : X.calm = true) (hs : EvD X ρ e (.str z)) (R : Rep X.K M0 H0 γ α ρ σ H) (h0 : ∀ H', Same H H' → J 0 σ H')
    (ht : ∀ i c σ' H', z.cps.toList[i]? = some c → J i σ' H' → tG X tg (.str ⟨#[c]⟩) σ' H' fun σ2 H2 => tSs X body { En with nx := J (i + 1), ct := J (i + 1), bk := En.nx } σ2 H2) (hd : ∀ σ' H', J z.cps.toList.length σ' H' → En.nx σ' H')
    (hf : ∀ x, foldedSetIterable e X.env x = pure x := by intro _; rfl) : tS X (.For tg e body [] pos) En σ H := by
  refine (ps_for hp hc (pi_str peE) pgG psSs hf).to (hs M0 H0 γ α σ H _ R fun v H1 s y => ⟨z, y, fun i m σ H => m = z.cps.toList.length - i ∧ i ≤ z.cps.toList.length ∧ J i σ H, ⟨z.cps.toList.length, by simp, Nat.zero_le _, h0 _ s⟩, ?_⟩)
  rintro i m σ2 H2 ⟨rfl, hi, p⟩
  by_cases hlt : i < z.cps.toList.length
  · refine .inr ⟨show i < z.cps.size by rwa [Array.length_toList] at hlt, J (i + 1), fun σ' H' p' => ⟨z.cps.toList.length - (i + 1), by omega, rfl, hlt, p'⟩, fun x H' y => ?_⟩
    obtain ⟨e, c, hc', hx⟩ := y
    subst e hx
    exact ht i c σ2 _ (by simpa using hc') p
  · have e : i = z.cps.toList.length := by omega
    subst e
    exact .inl ⟨show z.cps.size ≤ z.cps.toList.length by rw [Array.length_toList]; exact Nat.le_refl _, hd _ _ p⟩
end
end Z
set_option Elab.async false
set_option linter.all false
set_option maxRecDepth 100000
namespace K
open PySem L2 Z
abbrev St := L2.St
def top (i : Nat) : Stmt := PySem.Challenge.pw_cranefloor_k11_read.main.body.getD i (.Pass ⟨0, 0, 0, 0⟩)
abbrev sCell : Stmt := top 22

/-- what of the built-in names the text has not bound -/
structure Bn (mg : Str → Option Value) : Prop where
  len : mg "len" = none
  range : mg "range" = none
  list : mg "list" = none
  tuple : mg "tuple" = none
  set : mg "set" = none
def NX (CX : CXT) : Prop := ∀ l H s e s', CX l H s E0 e s' → False
theorem passNX {CX : CXT} {X : Cx} (h : NX CX) : Passes CX X E0 := fun _ _ H s e s' _ z => (h _ H s e s' z).elim

def cellAt (ns : List Int) (k : Nat) : Int := ns.getD k 0
section
variable {P : Program} {w : World} {K : Frag} {mg : Str → Option Value} {base : Heap} {CX : CXT}
theorem scCell : FnScope ["script", "k"] ["script", "k"] (defScope sCell) := ⟨rfl, rfl, rfl, by decide +kernel, rfl, by decide +kernel, by decide +kernel⟩
abbrev FCell (P : Program) (w : World) (K : Frag) (mg : Str → Option Value) (base : Heap) (CX : CXT) : Prop :=
  FnD P w K mg base CX 1 "_law_cell_at" (fun i : List Int × Nat => [.lst (i.1.map .int), .int i.2]) (fun _ => True) (fun i => .ok (.int (cellAt i.1 i.2)))
theorem ok_cell {f : Addr} {fd : FuncData} (B : Bn mg) (F : Fun K "_law_cell_at" "_law_cell_at" sCell f fd) (hm : mg "_law_cell_at" = some (.ref f)) (hb : Binds K fd ["script", "k"] []) : FCell P w K mg base CX := by
  refine fnD_of F scCell hm hb (fun i => rfl) fun cdv A outer s H E i M0 hp hr => ⟨_, rfl, ?_⟩
  obtain ⟨ns, k⟩ := i
  refine WS.cons (W1.ite (TvD.cI .lt (EvD.name 1 rfl (.inl rfl) rfl) (EvD.lenL rfl B.len (EvD.name 0 rfl (.inl rfl) rfl).r)) (fun h => ?_) fun h => ?_)
  · have h' : (k : Int) < ns.length := by simpa using of_decide_eq_true h
    have hk : k < ns.length := by omega
    refine WS.one (W1.ret (EvD.ixL (EvD.name 0 rfl (.inl rfl) rfl).r (EvD.name 1 rfl (.inl rfl) rfl) (d := .int (cellAt ns k)) ?_) rfl)
    rw [atI_map, atI_in rfl hk]
    show some (D.int ns[k]) = some (D.int (ns.getD k 0))
    rw [List.getD_eq_getElem?_getD, List.getElem?_eq_getElem hk]
    rfl
  · refine WS.nil (WS.one (W1.ret EvD.int ?_))
    have h' : ¬ (k : Int) < ns.length := by simpa using of_decide_eq_false h
    show D.int 0 = D.int (ns.getD k 0)
    rw [List.getD_eq_getElem?_getD, List.getElem?_eq_none (by omega)]
    rfl

end
theorem hu65 {k : Nat} {A : Around} (hr : Room k A) : A.units + 65 < cLine := by have := hr.un; omega
def rowsD (t : Bool) (rows : List (List Int)) : List D := rows.map fun r => sqD t (r.map .int)
theorem rowsD_get {t : Bool} {rows : List (List Int)} {i : Nat} {d : D} (h : (rowsD t rows)[i]? = some d) : ∃ r, rows[i]? = some r ∧ d = sqD t (r.map .int) := by
  unfold rowsD at h
  rw [List.getElem?_map] at h
  cases e : rows[i]? with
  | none => rw [e] at h; cases h
  | some r => rw [e] at h; exact ⟨r, rfl, (Option.some.inj h).symm⟩
theorem rowsD_len {t : Bool} {rows : List (List Int)} : (rowsD t rows).length = rows.length := List.length_map ..
end K
set_option Elab.async false
set_option linter.all false
set_option maxRecDepth 100000
namespace K
open PySem L2 Z

/-! ### figures -/
def fig (i : Int) : Nat := 48 + i.toNat
def figs (r : List Int) : Str := ⟨(r.map fig).toArray⟩
def FIG : Str := Str.ofString "0123456789"
def SLA : Str := Str.ofString "/"
theorem SLA_eq : SLA = ⟨#[47]⟩ := by decide +kernel
theorem NIL_eq : Str.ofString "" = ⟨#[]⟩ := by decide +kernel
theorem FIG_eq : FIG.cps.toList = [48, 49, 50, 51, 52, 53, 54, 55, 56, 57] := by decide +kernel
theorem FIG_mem (c : Nat) : c ∈ FIG.cps.toList ↔ 48 ≤ c ∧ c ≤ 57 := by
  rw [FIG_eq]
  simp only [List.mem_cons, List.not_mem_nil, or_false]
  omega
def okSign (c : Nat) : Bool := decide (c ∈ FIG.cps.toList) || decide ((⟨#[c]⟩ : Str) = SLA)
theorem okSign_iff (c : Nat) : okSign c = true ↔ (48 ≤ c ∧ c ≤ 57) ∨ c = 47 := by
  unfold okSign
  rw [Bool.or_eq_true, decide_eq_true_eq, decide_eq_true_eq, FIG_mem, SLA_eq]
  constructor
  · rintro (h | h)
    · exact .inl h
    · injection h with h
      have := congrArg Array.toList h
      simpa using Or.inr this
  · rintro (h | rfl)
    · exact .inl h
    · exact .inr rfl
/-- a figure's worth -/
def dig (c : Nat) : Int := (c : Int) - 48
theorem int_fig {c : Nat} (h : 48 ≤ c ∧ c ≤ 57) : PySem.intText? ⟨#[c]⟩ = some (dig c) := by
  have e := PySem.intText_digits (x := ⟨#[c]⟩) (fun d hd => by
    have : d = c := by simpa using hd
    rw [this]; exact h) (by simp) (by show 1 ≤ 4300; decide)
  rw [e]
  show some (((0 * 10 + (c - 48) : Nat)) : Int) = some ((c : Int) - 48)
  congr 1
  omega
theorem dig_fig {i : Int} (h0 : 0 ≤ i) : dig (fig i) = i := by unfold dig fig; omega

structure Bm (mg : Str → Option Value) : Prop extends Bn mg where
  isi : mg "isinstance" = none
  int : mg "int" = none
  bool : mg "bool" = none
  str : mg "str" = none
  all : mg "all" = none
  figs : ∃ t, mg "FIGURES" = some (.str FIG t)
  slash : ∃ t, mg "BETWEEN_STACKS" = some (.str SLA t)
  few : ∃ t, mg "FEWEST_STACKS" = some (.int 2 t)
  most : ∃ t, mg "MOST_STACKS" = some (.int 4 t)
theorem gStr {X : Cx} {ρ : Rho} {x : Str} {z : Str} {pos : Pos} (h : ∃ t, X.mg x = some (.str z t)) (hg : Gl X x) (hd : (x == ("__debug__" : Str)) = false := by decide) : EvD X ρ (.Name x pos) (.str z) :=
  let ⟨t, e⟩ := h; EvD.glob (v := .str z) hg e ⟨t, rfl⟩ (fun _ _ => rfl) hd
theorem gInt {X : Cx} {ρ : Rho} {x : Str} {z : Int} {pos : Pos} (h : ∃ t, X.mg x = some (.int z t)) (hg : Gl X x) (hd : (x == ("__debug__" : Str)) = false := by decide) : EvD X ρ (.Name x pos) (.int z) :=
  let ⟨t, e⟩ := h; EvD.glob (v := .int z) hg e ⟨t, rfl⟩ (fun _ _ => rfl) hd

abbrev sWithin : Stmt := top 13
abbrev sRead : Stmt := top 17
abbrev sStackRead : Stmt := top 18
abbrev sSigns : Stmt := top 19
abbrev sTwice : Stmt := top 20
abbrev sWhole : Stmt := top 23
section
variable {P : Program} {w : World} {K : Frag} {mg : Str → Option Value} {base : Heap} {CX : CXT}
theorem scWithin : FnScope ["value", "least", "most"] ["value", "least", "most"] (defScope sWithin) := ⟨rfl, rfl, rfl, by decide +kernel, rfl, by decide +kernel, by decide +kernel⟩
abbrev FWithin (P : Program) (w : World) (K : Frag) (mg : Str → Option Value) (base : Heap) (CX : CXT) : Prop :=
  FnD P w K mg base CX 1 "is_within" (fun i : Int × Int × Int => [.int i.1, .int i.2.1, .int i.2.2]) (fun _ => True) (fun i => .ok (.bl (decide (i.2.1 ≤ i.1) && decide (i.1 ≤ i.2.2))))
theorem ok_within {f : Addr} {fd : FuncData} (B : Bm mg) (F : Fun K "is_within" "is_within" sWithin f fd) (hm : mg "is_within" = some (.ref f)) (hb : Binds K fd ["value", "least", "most"] []) : FWithin P w K mg base CX := by
  refine fnD_of F scWithin hm hb (fun i => rfl) fun cdv A outer s H E i M0 hp hr => ⟨_, rfl, ?_⟩
  obtain ⟨v, lo, hi⟩ := i
  refine WS.cons (W1.ite (TwD.t (TwD.or (TvD.not (TvD.val (EvD.isi rfl B.isi rfl B.int (by decide +kernel) (.inl rfl) (EvD.r (nm 0 rfl rfl)) rfl))) fun _ => TwD.or1 (TvD.val (EvD.isi rfl B.isi rfl B.bool (by decide +kernel) (.inr (.inl rfl)) (EvD.r (nm 0 rfl rfl)) rfl)))) (fun h => ?_) fun h => WS.nil ?_)
  · rw [isT_int, isT_bool] at h
    cases h
  · exact WS.one (W1.ret (EvD.chain .le .le (nm 1 rfl rfl) (nm 0 rfl rfl) (nm 2 rfl rfl)) rfl)
theorem scWhole : FnScope ["found"] ["found"] (defScope sWhole) := ⟨rfl, rfl, rfl, by decide +kernel, rfl, by decide +kernel, by decide +kernel⟩
abbrev FWhole (P : Program) (w : World) (K : Frag) (mg : Str → Option Value) (base : Heap) (CX : CXT) : Prop :=
  FnD P w K mg base CX 1 "_law_whole" (fun i : Int => [.int i]) (fun _ => True) (fun _ => .ok (.bl true))
theorem ok_whole {f : Addr} {fd : FuncData} (B : Bm mg) (F : Fun K "_law_whole" "_law_whole" sWhole f fd) (hm : mg "_law_whole" = some (.ref f)) (hb : Binds K fd ["found"] []) : FWhole P w K mg base CX := by
  refine fnD_of F scWhole hm hb (fun i => rfl) fun cdv A outer s H E i M0 hp hr => ⟨_, rfl, ?_⟩
  refine WS.one (W1.ret (EvD.and (EvD.isi rfl B.isi rfl B.int (by decide +kernel) (.inl rfl) (EvD.r (nm 0 rfl rfl)) rfl) fun _ => EvD.one (EvD.not (EvD.isi rfl B.isi rfl B.bool (by decide +kernel) (.inr (.inl rfl)) (EvD.r (nm 0 rfl rfl)) rfl))) ?_)
  show D.bl (isT "int" (.int i) && !isT "bool" (.int i)) = D.bl true
  rw [isT_int, isT_bool]
  rfl

end
def text (rows : List (List Int)) : Str := ⟨(Tx.glue 47 (rows.map fun r => r.map fig)).toArray⟩
section
variable {P : Program} {w : World} {K : Frag} {mg : Str → Option Value} {base : Heap} {CX : CXT}
theorem scSigns : FnScope ["text"] ["text"] (defScope sSigns) := ⟨rfl, rfl, rfl, by decide +kernel, rfl, by decide +kernel, by decide +kernel⟩
abbrev FSigns (P : Program) (w : World) (K : Frag) (mg : Str → Option Value) (base : Heap) (CX : CXT) : Prop :=
  FnD P w K mg base CX 1 "has_signs_of_a_standing" (fun x : Str => [.str x]) (fun x => x.length ≤ 1000) (fun x => .ok (.bl (x.cps.toList.all okSign)))
theorem ok_signs {f : Addr} {fd : FuncData} (B : Bm mg) (F : Fun K "has_signs_of_a_standing" "has_signs_of_a_standing" sSigns f fd) (hm : mg "has_signs_of_a_standing" = some (.ref f)) (hb : Binds K fd ["text"] []) : FSigns P w K mg base CX := by
  refine fnD_of F scSigns hm hb (fun i => rfl) fun cdv A outer s H E x M0 hp hr => ⟨_, rfl, ?_⟩
  have hp' : x.length ≤ 1000 := hp
  refine WS.one (W1.ret (EvD.and (EvD.isi rfl B.isi rfl B.str (by decide +kernel) (.inr (.inr (.inl rfl))) (EvD.r (nm 0 rfl rfl)) rfl) fun _ => EvD.one (EvD.all (bs := x.cps.toList.map okSign) rfl rfl B.all (EvD.r (EvF.toD (EvF.comp (ds := signs x) (es := (x.cps.toList.map okSign).map D.bl) (cs := [])
    (CompOk.closed (by decide +kernel) (by decide +kernel) rfl (by decide +kernel) rfl) rfl (by decide +kernel) (IvD.str (nm 0 rfl rfl)) capNil (by rw [signs_len]; simp [Str.length]) (by rw [signs_len]; omega) ?_))))) ?_)
  · intro C s₀ H₀ fp pins i d e h1 h2
    obtain ⟨c, hc, rfl⟩ := signs_get h1
    rw [List.getElem?_map, List.getElem?_map, hc] at h2
    cases h2
    exact EvD.or (EvD.inS (nm 0 rfl rfl) (gStr B.figs rfl)) fun _ => EvD.one (EvD.eqS (nm 0 rfl rfl) (gStr B.slash rfl))
  · show D.bl (isT "str" (.str x) && (x.cps.toList.map okSign).all id) = D.bl (x.cps.toList.all okSign)
    rw [isT_str, List.all_map]
    rfl
theorem scTwice : FnScope ["signs"] ["signs"] (defScope sTwice) := ⟨rfl, rfl, rfl, by decide +kernel, rfl, by decide +kernel, by decide +kernel⟩
abbrev FTwice (P : Program) (w : World) (K : Frag) (mg : Str → Option Value) (base : Heap) (CX : CXT) : Prop :=
  FnD P w K mg base CX 1 "has_a_sign_twice" (fun x : Str => [.str x]) (fun x => x.length ≤ 1000) (fun x => .ok (.bl (!decide x.cps.toList.Nodup)))
theorem ones_nodup (x : Str) : (ones x).Nodup ↔ x.cps.toList.Nodup := by
  unfold ones
  generalize x.cps.toList = l
  induction l with
  | nil => simp
  | cons a l ih =>
    rw [List.map_cons, List.nodup_cons, List.nodup_cons, ih]
    constructor
    · rintro ⟨h1, h2⟩
      exact ⟨fun h => h1 (List.mem_map.mpr ⟨a, h, rfl⟩), h2⟩
    · rintro ⟨h1, h2⟩
      refine ⟨fun h => ?_, h2⟩
      obtain ⟨b, hb, e⟩ := List.mem_map.mp h
      injection e with e
      have : b = a := by simpa using congrArg Array.toList e
      exact h1 (this ▸ hb)
theorem ones_len (x : Str) : (ones x).length = x.length := by unfold ones; simp [Str.length]
theorem ok_twice {f : Addr} {fd : FuncData} (B : Bm mg) (F : Fun K "has_a_sign_twice" "has_a_sign_twice" sTwice f fd) (hm : mg "has_a_sign_twice" = some (.ref f)) (hb : Binds K fd ["signs"] []) : FTwice P w K mg base CX := by
  refine fnD_of F scTwice hm hb (fun i => rfl) fun cdv A outer s H E x M0 hp hr => ⟨_, rfl, ?_⟩
  have hp' : x.length ≤ 1000 := hp
  refine WS.one (W1.ret (EvD.cI .ne (EvD.lenSetStr rfl rfl B.len rfl B.set (nm 0 rfl rfl) (by omega)) (EvD.lenStr rfl B.len (nm 0 rfl rfl) (by omega))) ?_)
  show D.bl (!decide (((Tx.uniq (ones x)).length : Int) = (x.length : Int))) = D.bl (!decide x.cps.toList.Nodup)
  congr 2
  apply decide_eq_decide.mpr
  rw [← ones_nodup, ← Tx.uniq_eq, ones_len]
  omega
theorem scStackRead : FnScope ["figures"] ["figures"] (defScope sStackRead) := ⟨rfl, rfl, rfl, by decide +kernel, rfl, by decide +kernel, by decide +kernel⟩
def digs (x : Str) : List Int := x.cps.toList.map dig
abbrev FStackRead (P : Program) (w : World) (K : Frag) (mg : Str → Option Value) (base : Heap) (CX : CXT) : Prop :=
  FnD P w K mg base CX 1 "stack_read" (fun x : Str => [.str x]) (fun x => x.length ≤ 1000 ∧ ∀ c ∈ x.cps.toList, 48 ≤ c ∧ c ≤ 57) (fun x => .ok (sqD true ((digs x).map .int)))
theorem ok_stackRead {f : Addr} {fd : FuncData} (B : Bm mg) (F : Fun K "stack_read" "stack_read" sStackRead f fd) (hm : mg "stack_read" = some (.ref f)) (hb : Binds K fd ["figures"] []) : FStackRead P w K mg base CX := by
  refine fnD_of F scStackRead hm hb (fun i => rfl) fun cdv A outer s H E x M0 hp hr => ⟨_, rfl, ?_⟩
  obtain ⟨hp1, hp2⟩ : x.length ≤ 1000 ∧ ∀ c ∈ x.cps.toList, 48 ≤ c ∧ c ≤ 57 := hp
  refine WS.one (W1.ret (EvD.tupleL rfl B.tuple (EvD.r (EvF.toD (EvF.comp (ds := signs x) (es := (digs x).map .int) (cs := []) (CompOk.closed (by decide +kernel) (by decide +kernel) rfl (by decide +kernel) rfl) rfl (by decide +kernel) (IvD.str (nm 0 rfl rfl)) capNil (by rw [signs_len]; simp [Str.length, digs]) (by rw [signs_len]; omega) ?_)))) rfl)
  intro C s₀ H₀ fp pins i d e h1 h2
  obtain ⟨c, hc, rfl⟩ := signs_get h1
  unfold digs at h2
  rw [List.getElem?_map, List.getElem?_map, hc] at h2
  cases h2
  exact EvD.intS rfl B.int (nm 0 rfl rfl) (int_fig (hp2 c (List.mem_of_getElem? hc))) (by show 1 ≤ 640; decide)
/-! read, where the text writes a standing -/
theorem scRead : FnScope ["text", "stacks"] ["text"] (defScope sRead) := ⟨rfl, rfl, rfl, by decide +kernel, rfl, by decide +kernel, by decide +kernel⟩
def parts (x : Str) : List Str := Txt.split x ⟨#[47]⟩
structure GoodText (x : Str) : Prop where
  len : x.length ≤ 500
  ok : x.cps.toList.all okSign = true
  few : 2 ≤ (parts x).length
  most : (parts x).length ≤ 4
  once : ((parts x).map fun p => p.cps.toList).flatten.Nodup
theorem parts_mem {x p : Str} (hp : p ∈ parts x) {c : Nat} (hc : c ∈ p.cps.toList) : c ∈ x.cps.toList ∧ c ≠ 47 := by
  refine ⟨?_, fun e => ?_⟩
  · have h := split_codes x 47
    rw [← h]
    have : ∀ l : List (List Nat), (∃ q ∈ l, c ∈ q) → c ∈ Tx.glue 47 l := by
      intro l
      induction l with
      | nil => rintro ⟨q, hq, _⟩; cases hq
      | cons a l ih =>
        rintro ⟨q, hq, hcq⟩
        cases l with
        | nil =>
          rcases List.mem_cons.mp hq with rfl | hq
          · exact hcq
          · cases hq
        | cons b l =>
          rcases List.mem_cons.mp hq with rfl | hq
          · exact List.mem_append_left _ hcq
          · exact List.mem_append_right _ (List.mem_cons_of_mem _ (ih ⟨q, hq, hcq⟩))
    exact this _ ⟨_, List.mem_map.mpr ⟨p, hp, rfl⟩, hc⟩
  · rw [e] at hc
    exact StrLaws.split_free x 47 p hp hc
theorem parts_dig {x p : Str} (h : x.cps.toList.all okSign = true) (hp : p ∈ parts x) {c : Nat} (hc : c ∈ p.cps.toList) : 48 ≤ c ∧ c ≤ 57 := by
  obtain ⟨h1, h2⟩ := parts_mem hp hc
  rcases (okSign_iff c).mp (List.all_eq_true.mp h c h1) with h | h
  · exact h
  · exact absurd h h2
theorem glue_flat_len (c : Nat) : ∀ ps : List (List Nat), ps.flatten.length ≤ (Tx.glue c ps).length
  | [] => Nat.le_refl _
  | [p] => by simp [Tx.glue]
  | p :: q :: r => by
    have := glue_flat_len c (q :: r)
    show _ ≤ (p ++ c :: Tx.glue c (q :: r)).length
    rw [List.flatten_cons, List.length_append, List.length_append, List.length_cons]
    omega
theorem parts_flat_len (x : Str) : ((parts x).map fun p => p.cps.toList).flatten.length ≤ x.length := by
  have h := glue_flat_len 47 ((parts x).map fun p => p.cps.toList)
  have e := split_codes x 47
  have e' : Tx.glue 47 ((parts x).map fun p => p.cps.toList) = x.cps.toList := e
  rw [e'] at h
  simpa [Str.length] using h
theorem sum_flat (l : List Str) : (l.map (·.length)).sum = (l.map fun p => p.cps.toList).flatten.length := by
  induction l with
  | nil => rfl
  | cons a l ih =>
    rw [List.map_cons, List.sum_cons, ih, List.map_cons, List.flatten_cons, List.length_append]
    simp [Str.length]
theorem part_len {x p : Str} (hp : p ∈ parts x) : p.length ≤ x.length := PyProof.Rows.part_short hp
end
/-! ### the text that is due -/
theorem text_parts {rows : List (List Int)} (hne : rows ≠ []) (hd : ∀ r ∈ rows, ∀ i ∈ r, 0 ≤ i ∧ i ≤ 9) : parts (text rows) = rows.map figs := by
  unfold parts text
  rw [split_glue (by simpa using hne) ?_, List.map_map]
  · rfl
  · intro p hp hc
    obtain ⟨r, hr, rfl⟩ := List.mem_map.mp hp
    obtain ⟨i, hi, e⟩ := List.mem_map.mp hc
    have := (hd r hr i hi).1
    unfold fig at e
    omega
theorem digs_figs {r : List Int} (hd : ∀ i ∈ r, 0 ≤ i ∧ i ≤ 9) : digs (figs r) = r := by
  unfold digs figs
  rw [List.map_map]
  have : ∀ l : List Int, (∀ i ∈ l, 0 ≤ i ∧ i ≤ 9) → l.map (dig ∘ fig) = l := fun l => by
    induction l with
    | nil => intro _; rfl
    | cons a l ih =>
      intro h
      rw [List.map_cons, ih fun i hi => h i (.tail _ hi)]
      show dig (fig a) :: l = a :: l
      rw [dig_fig (h a (.head _)).1]
  exact this r hd
theorem flat_figs (rows : List (List Int)) : ((rows.map figs).map fun p => p.cps.toList).flatten = rows.flatten.map fig := by
  induction rows with
  | nil => rfl
  | cons r rows ih =>
    simp only [List.map_cons, List.flatten_cons, List.map_append]
    rw [ih]
    rfl
end K
set_option Elab.async false
set_option linter.all false
set_option maxRecDepth 100000
namespace K
open PySem L2 Z
abbrev sKind : Stmt := top 24
abbrev sOne : Stmt := top 25
def errNames : List Str := ["NoFloor", "NoStanding", "NoLift", "OtherCrates", "TooMany", "NoNames", "NoOrder", "BadText"]
/-- the eight classes of errors -/
structure ErrT (K : Frag) (mg : Str → Option Value) (cl : Nat → Addr) (raised : Nat → Prop) : Prop where
  n0 : mg "NoFloor" = some (.ref (cl 0))
  n1 : mg "NoStanding" = some (.ref (cl 1))
  n2 : mg "NoLift" = some (.ref (cl 2))
  n3 : mg "OtherCrates" = some (.ref (cl 3))
  n4 : mg "TooMany" = some (.ref (cl 4))
  n5 : mg "NoNames" = some (.ref (cl 5))
  n6 : mg "NoOrder" = some (.ref (cl 6))
  n7 : mg "BadText" = some (.ref (cl 7))
  ve : mg "ValueError" = none
  is : ∀ i j, raised i → j < 8 → PySem.W.kitOne K (.ref (cl i)) (.ref (cl j)) = some (decide (i = j))
  up : ∀ i, raised i → PySem.W.kitOne K (.ref (cl i)) (.type "ValueError") = some true
  t : ∀ i, raised i → ExcT K (cl i)
def oneL (i : Nat) : List Bool := [decide (i = 0), decide (i = 1), decide (i = 2), decide (i = 3), decide (i = 4), decide (i = 5), decide (i = 6), decide (i = 7), true]
section
variable {P : Program} {w : World} {K : Frag} {mg : Str → Option Value} {base : Heap} {CX : CXT} {cl : Nat → Addr} {raised : Nat → Prop}
theorem scKind : FnScope ["e", "kinds"] ["e"] (defScope sKind) := ⟨rfl, rfl, rfl, by decide +kernel, rfl, by decide +kernel, by decide +kernel⟩
abbrev FKind (P : Program) (w : World) (K : Frag) (mg : Str → Option Value) (base : Heap) (CX : CXT) (cl : Nat → Addr) (raised : Nat → Prop) : Prop :=
  FnDH P w K mg base CX 1 "_law_kind" (fun i : Nat => [.exc (cl i)]) raised (fun i => .lst ((oneL i).map .bl))
theorem ok_kind {f : Addr} {fd : FuncData} (B : Bm mg) (T : ErrT K mg cl raised) (F : Fun K "_law_kind" "_law_kind" sKind f fd) (hm : mg "_law_kind" = some (.ref f)) (hb : Binds K fd ["e"] []) : FKind P w K mg base CX cl raised := by
  refine fnDH_of F scKind hm hb (fun i => rfl) fun cdv A outer s H E i M0 hp hr => ?_
  have px := scKind.nd
  have hp' : raised i := hp
  have tt := T.t i hp'
  change WS _ M0 H (defBody sKind) [.im (.exc (cl i)), .un] { N := fun _ => D.lst ((oneL i).map .bl) = .non, R := fun d' => d' = .lst ((oneL i).map .bl) }
  refine WS.cons (W1.setF (i := 1) px rfl (.inl rfl) (ltL rfl) (EvF.lst (AvD.cons (EvD.isiE rfl B.isi rfl T.n0 (nm 0 rfl rfl) tt (T.is i 0 hp' (by decide))) (AvD.cons (EvD.isiE rfl B.isi rfl T.n1 (nm 0 rfl rfl) tt (T.is i 1 hp' (by decide))) (AvD.cons (EvD.isiE rfl B.isi rfl T.n2 (nm 0 rfl rfl) tt (T.is i 2 hp' (by decide))) (AvD.cons (EvD.isiE rfl B.isi rfl T.n3 (nm 0 rfl rfl) tt (T.is i 3 hp' (by decide))) AvD.nil))))) ?_)
  refine WS.cons (W1.setF (i := 1) px rfl (.inl rfl) (ltL rfl) (EvF.cat (nmR 1 rfl rfl) (EvD.r (EvF.toD (EvF.lst (AvD.cons (EvD.isiE rfl B.isi rfl T.n4 (nm 0 rfl rfl) tt (T.is i 4 hp' (by decide))) (AvD.cons (EvD.isiE rfl B.isi rfl T.n5 (nm 0 rfl rfl) tt (T.is i 5 hp' (by decide))) (AvD.cons (EvD.isiE rfl B.isi rfl T.n6 (nm 0 rfl rfl) tt (T.is i 6 hp' (by decide))) (AvD.cons (EvD.isiE rfl B.isi rfl T.n7 (nm 0 rfl rfl) tt (T.is i 7 hp' (by decide))) AvD.nil))))))) (Nat.le_of_ble_eq_true rfl)) ?_)
  exact WS.one (W1.ret (EvF.toD (EvF.cat (nmR 1 rfl rfl) (EvD.r (EvF.toD (EvF.lst (AvD.cons (EvD.isiET rfl B.isi rfl T.ve (by decide +kernel) (nm 0 rfl rfl) tt (T.up i hp')) AvD.nil)))) (Nat.le_of_ble_eq_true rfl))) rfl)
theorem scOne : FnScope ["k"] ["k"] (defScope sOne) := ⟨rfl, rfl, rfl, by decide +kernel, rfl, by decide +kernel, by decide +kernel⟩
abbrev FOne (P : Program) (w : World) (K : Frag) (mg : Str → Option Value) (base : Heap) (CX : CXT) : Prop :=
  FnD P w K mg base CX 1 "_law_one" (fun k : Nat => [.int k]) (fun _ => True) (fun k => .ok (.lst ((oneL k).map .bl)))
theorem ok_one {f : Addr} {fd : FuncData} (B : Bm mg) (F : Fun K "_law_one" "_law_one" sOne f fd) (hm : mg "_law_one" = some (.ref f)) (hb : Binds K fd ["k"] []) : FOne P w K mg base CX := by
  refine fnD_of F scOne hm hb (fun i => rfl) fun cdv A outer s H E k M0 hp hr => ⟨_, rfl, ?_⟩
  change WS _ M0 H (defBody sOne) [.im (.int k)] _
  refine WS.one (W1.ret (EvF.toD (EvF.cat (ds := (List.range 8).map fun j => D.bl (decide (k = j))) (EvD.r (EvF.toD (EvF.comp (ds := rngD 0 8) (es := (List.range 8).map fun j => D.bl (decide (k = j))) (cs := [.int k]) (N' := ["j", "k"]) (js := [0])
    (CompOk.cap1 (pre := [(".0", .local), ("j", .local)]) (post := []) (rn := [(".0", .local), ("j", .local), ("k", .cell)]) rfl (by decide +kernel) (by decide +kernel) rfl (by decide +kernel) rfl (by decide +kernel) rfl rfl rfl rfl rfl (by decide +kernel)) rfl (by decide +kernel)
    (IvD.to (IvD.range (j := 8) rfl B.range EvD.int (by decide)) rfl) (cap1R rfl) (by rw [List.length_map, List.length_range, rngD_len]) (by rw [rngD_len]; decide) ?_))) (EvD.r (EvF.toD (EvF.lst (AvD.cons EvD.bl AvD.nil)))) (by rw [List.length_map, List.length_range]; decide))) rfl)
  intro C s₀ H₀ fp pins i d e h1 h2
  obtain ⟨rfl, hi⟩ := rngD_get h1
  rw [List.getElem?_map, List.getElem?_range hi] at h2
  cases h2
  refine EvD.to (EvD.cI .eq (nm 1 rfl rfl) (nm 0 rfl rfl)) ?_
  congr 1
  exact decide_eq_decide.mpr (by omega)
end
end K
set_option Elab.async false
set_option linter.all false
set_option maxRecDepth 100000
namespace K
open PySem L2 Z
abbrev sText : Stmt := top 27
def goodT (x : Str) : Bool := x.cps.toList.all okSign && (decide (2 ≤ ((parts x).length : Int)) && decide (((parts x).length : Int) ≤ 4)) && decide ((parts x).map fun p => p.cps.toList).flatten.Nodup
section
variable {P : Program} {w : World} {K : Frag} {mg : Str → Option Value} {base : Heap} {CB : Addr}
/-! ### read, where it raises -/
abbrev FReadX (P : Program) (w : World) (K : Frag) (mg : Str → Option Value) (base : Heap) (CB : Addr) : Prop :=
  FnD P w K mg base (CXr P w) 2 "read" (fun x : Str => [.str x]) (fun x => x.length ≤ 500) (fun x => if goodT x then .ok (.tup (rowsD true ((parts x).map digs))) else .error CB)
theorem ok_readX {f : Addr} {fd : FuncData} (B : Bm mg) (er : OwnE "BadText" CB mg base) (G1 : FSigns P w K mg base (CXr P w)) (G2 : FWithin P w K mg base (CXr P w)) (G3 : FTwice P w K mg base (CXr P w)) (G4 : FStackRead P w K mg base (CXr P w)) (F : Fun K "read" "read" sRead f fd) (hm : mg "read" = some (.ref f)) (hb : Binds K fd ["text"] []) : FReadX P w K mg base CB := by
  have nx : NX (CXr P w) := cxr_no
  refine fnD_ofX F scRead hm hb (fun i => rfl) fun cdv A outer s H E x M0 hp hr => ?_
  have p1 : x.length ≤ 500 := hp
  have px := scRead.nd
  have es : Txt.split x SLA = parts x := by rw [SLA_eq]; rfl
  have fl := parts_flat_len x
  have ej : (Str.join (Str.ofString "") (parts x)).cps.toList = ((parts x).map fun p => p.cps.toList).flatten := by rw [NIL_eq, join_flat]
  have lj : (Str.join (Str.ofString "") (parts x)).length ≤ 1000 := by
    have : (Str.join (Str.ofString "") (parts x)).cps.toList.length = (Str.join (Str.ofString "") (parts x)).length := Array.length_toList
    rw [← this, ej]
    omega
  have sj : ((parts x).map (·.length)).sum + (parts x).length * (Str.ofString "").length ≤ 16777216 := by
    rw [sum_flat, NIL_eq]
    show _ + (parts x).length * 0 ≤ _
    omega
  by_cases h1 : x.cps.toList.all okSign = true
  · by_cases h2 : (decide (2 ≤ ((parts x).length : Int)) && decide (((parts x).length : Int) ≤ 4)) = true
    · by_cases h3 : ((parts x).map fun p => p.cps.toList).flatten.Nodup
      · refine .inl ⟨_, if_pos (by unfold goodT; rw [h1, h2, decide_eq_true h3]; rfl), ?_⟩
        have h2' := h2
        simp only [Bool.and_eq_true, decide_eq_true_eq] at h2'
        change WS _ M0 H (defBody sRead) [.im (.str x), .un] { N := fun _ => D.tup (rowsD true ((parts x).map digs)) = .non, R := fun d' => d' = .tup (rowsD true ((parts x).map digs)) }
        refine WS.cons (W1.ite (TvD.not (TvD.val (EvD.call G1 hr (passNX nx) rfl x (AvD.cons (nm 0 rfl rfl) AvD.nil) (show x.length ≤ 1000 by omega) rfl))) (fun h => ?_) fun h => WS.nil ?_)
        · rw [h1] at h; cases h
        refine WS.cons (W1.setF (i := 1) (ds := (parts x).map .str) px rfl (.inl rfl) (ltL rfl) (es ▸ EvF.split (nm 0 rfl rfl) (gStr B.slash rfl) (by rw [SLA_eq]; rfl) (by omega) ⟨rfl, rfl, rfl, rfl⟩) ?_)
        refine WS.cons (W1.ite (TvD.not (TvD.val (EvD.call G2 hr (passNX nx) rfl (((parts x).length : Int), 2, 4) (AvD.cons (EvD.to (EvD.lenL rfl B.len (nmR 1 rfl rfl)) (by rw [List.length_map])) (AvD.cons (gInt B.few rfl) (AvD.cons (gInt B.most rfl) AvD.nil))) trivial rfl))) (fun h => ?_) fun h => WS.nil ?_)
        · dsimp only at h
          rw [h2] at h
          cases h
        refine WS.cons (W1.ite (TvD.val (EvD.call G3 hr (passNX nx) rfl (Str.join (Str.ofString "") (parts x)) (AvD.cons (EvD.join EvD.str (nmR 1 rfl rfl) sj ⟨rfl, rfl, rfl, rfl⟩) AvD.nil) lj rfl)) (fun h => ?_) fun h => WS.nil ?_)
        · rw [ej, decide_eq_true h3] at h
          cases h
        · refine WS.freeze (i := 1) rfl (WS.one (W1.ret (EvD.tupleL rfl B.tuple (EvD.r (EvF.toD (EvF.comp (ds := (parts x).map .str) (es := rowsD true ((parts x).map digs)) (cs := []) (CompOk.closed (by decide +kernel) (by decide +kernel) rfl (by decide +kernel) rfl) rfl (by decide +kernel) (IvD.list (nm 1 rfl rfl)) capNil (by rw [rowsD_len, List.length_map, List.length_map]) (by rw [List.length_map]; omega) ?_)))) rfl))
          intro C s₀ H₀ fp pins i d e h1' h2'
          obtain ⟨r, hr1, rfl⟩ := rowsD_get h2'
          rw [List.getElem?_map] at h1' hr1
          cases ei : (parts x)[i]? with
          | none => rw [ei] at h1'; cases h1'
          | some p =>
            rw [ei] at h1' hr1
            cases h1'
            cases hr1
            have hpm := List.mem_of_getElem? ei
            exact EvD.call G4 hr (passNX nx) rfl p (AvD.cons (nm 0 rfl rfl) AvD.nil) ⟨by have := part_len hpm; omega, fun c hc => parts_dig h1 hpm hc⟩ rfl
      · refine .inr ⟨CB, if_neg (by unfold goodT; rw [decide_eq_false h3, Bool.and_false]; exact Bool.false_ne_true), ?_⟩
        change RssD _ [.im (.str x), .un] E (defBody sRead) CB
        refine RssD.skip (TvD.to (TvD.not (TvD.val (EvD.call G1 hr (passNX nx) rfl x (AvD.cons (nm 0 rfl rfl) AvD.nil) (show x.length ≤ 1000 by omega) rfl))) (by rw [h1]; rfl)) ?_
        refine RssD.setF (i := 1) (ds := (parts x).map .str) px rfl (.inl rfl) (ltL rfl) (es ▸ EvF.split (nm 0 rfl rfl) (gStr B.slash rfl) (by rw [SLA_eq]; rfl) (by omega) ⟨rfl, rfl, rfl, rfl⟩) ?_
        refine RssD.skip (TvD.to (TvD.not (TvD.val (EvD.call G2 hr (passNX nx) rfl (((parts x).length : Int), 2, 4) (AvD.cons (EvD.to (EvD.lenL rfl B.len (nmR 1 rfl rfl)) (by rw [List.length_map])) (AvD.cons (gInt B.few rfl) (AvD.cons (gInt B.most rfl) AvD.nil))) trivial rfl))) (by dsimp only; rw [h2]; rfl)) ?_
        exact RssD.here (RsD.ite (t := true) (TvD.to (TvD.val (EvD.call G3 hr (passNX nx) rfl (Str.join (Str.ofString "") (parts x)) (AvD.cons (EvD.join EvD.str (nmR 1 rfl rfl) sj ⟨rfl, rfl, rfl, rfl⟩) AvD.nil) lj rfl)) (by rw [ej, decide_eq_false h3]; rfl)) (fun _ => RssD.here (RsD.raise er rfl EvD.str)) fun h => by cases h)
    · refine .inr ⟨CB, if_neg (by unfold goodT; rw [Bool.eq_false_iff.mpr h2, Bool.and_false, Bool.false_and]; exact Bool.false_ne_true), ?_⟩
      change RssD _ [.im (.str x), .un] E (defBody sRead) CB
      refine RssD.skip (TvD.to (TvD.not (TvD.val (EvD.call G1 hr (passNX nx) rfl x (AvD.cons (nm 0 rfl rfl) AvD.nil) (show x.length ≤ 1000 by omega) rfl))) (by rw [h1]; rfl)) ?_
      refine RssD.setF (i := 1) (ds := (parts x).map .str) px rfl (.inl rfl) (ltL rfl) (es ▸ EvF.split (nm 0 rfl rfl) (gStr B.slash rfl) (by rw [SLA_eq]; rfl) (by omega) ⟨rfl, rfl, rfl, rfl⟩) ?_
      exact RssD.here (RsD.ite (t := true) (TvD.to (TvD.not (TvD.val (EvD.call G2 hr (passNX nx) rfl (((parts x).length : Int), 2, 4) (AvD.cons (EvD.to (EvD.lenL rfl B.len (nmR 1 rfl rfl)) (by rw [List.length_map])) (AvD.cons (gInt B.few rfl) (AvD.cons (gInt B.most rfl) AvD.nil))) trivial rfl))) (by dsimp only; rw [Bool.eq_false_iff.mpr h2]; rfl)) (fun _ => RssD.here (RsD.raise er rfl EvD.str)) fun h => by cases h)
  · refine .inr ⟨CB, if_neg (by unfold goodT; rw [Bool.eq_false_iff.mpr h1, Bool.false_and, Bool.false_and]; exact Bool.false_ne_true), ?_⟩
    change RssD _ [.im (.str x), .un] E (defBody sRead) CB
    exact RssD.here (RsD.ite (t := true) (TvD.to (TvD.not (TvD.val (EvD.call G1 hr (passNX nx) rfl x (AvD.cons (nm 0 rfl rfl) AvD.nil) (show x.length ≤ 1000 by omega) rfl))) (by rw [Bool.eq_false_iff.mpr h1]; rfl)) (fun _ => RssD.here (RsD.raise er rfl EvD.str)) fun h => by cases h)
end
/-! ### _law_text -/
def textStep (ns : List Int) (st : List Str × Str) (k : Nat) : List Str × Str :=
  if cellAt ns (3 + k) % 4 = 0 then (st.1, st.2 ++ SLA)
  else if st.1 = [] then st
  else (st.1.eraseIdx (cellAt ns (3 + k) / 4 % (st.1.length : Int)).toNat, st.2 ++ st.1.getD (cellAt ns (3 + k) / 4 % (st.1.length : Int)).toNat ⟨#[]⟩)
def textAt (ns : List Int) : Nat → List Str × Str
  | 0 => (ones FIG, ⟨#[]⟩)
  | k + 1 => textStep ns (textAt ns k) k
def lawText (ns : List Int) : Str := (textAt ns (cellAt ns 0 % 15).toNat).2
theorem len_app (a b : Str) : (a ++ b).length = a.length + b.length := by
  have := congrArg List.length (app_toList a b)
  simpa [Str.length] using this
theorem textAt_ok (ns : List Int) : ∀ k, (∀ z ∈ (textAt ns k).1, z ∈ ones FIG) ∧ (textAt ns k).2.length ≤ k ∧ (textAt ns k).1.length ≤ 10
  | 0 => ⟨fun z hz => hz, Nat.le_refl _, by show (ones FIG).length ≤ 10; decide +kernel⟩
  | k + 1 => by
    obtain ⟨i1, i2, i3⟩ := textAt_ok ns k
    show (∀ z ∈ (textStep ns (textAt ns k) k).1, _) ∧ (textStep ns (textAt ns k) k).2.length ≤ _ ∧ (textStep ns (textAt ns k) k).1.length ≤ _
    unfold textStep
    split
    · refine ⟨i1, ?_, i3⟩
      rw [len_app, show SLA.length = 1 by decide +kernel]
      omega
    · split
      · exact ⟨i1, by omega, i3⟩
      · refine ⟨fun z hz => i1 z (List.mem_of_mem_eraseIdx hz), ?_, Nat.le_trans (List.length_eraseIdx_le _ _) i3⟩
        dsimp only
        rw [len_app, List.getD_eq_getElem?_getD]
        generalize (cellAt ns (3 + k) / 4 % ((textAt ns k).1.length : Int)).toNat = n
        cases e : (textAt ns k).1[n]? with
        | none => show _ + 0 ≤ _; omega
        | some z =>
          have hz := i1 z (List.mem_of_getElem? e)
          unfold ones at hz
          obtain ⟨c, _, rfl⟩ := List.mem_map.mp hz
          show _ + 1 ≤ _
          omega
theorem ones_flat {zs : List Str} (h : ∀ z ∈ zs, z ∈ ones FIG) (n : Nat) : D.flat (n + 1) (.lst (zs.map .str)) := fun d hd => by
  obtain ⟨z, hz, rfl⟩ := List.mem_map.mp hd
  have hz' := h z hz
  unfold ones at hz'
  rw [FIG_eq] at hz'
  have : PyData.strOk z = true := by
    simp only [List.map_cons, List.map_nil, List.mem_cons, List.not_mem_nil, or_false] at hz'
    rcases hz' with rfl | rfl | rfl | rfl | rfl | rfl | rfl | rfl | rfl | rfl <;> decide +kernel
  cases n <;> exact this
theorem eqv_nilS (zs : List Str) : D.eqv (.lst (zs.map .str)) (.lst []) = decide (zs = []) := by cases zs <;> rfl
section
variable {P : Program} {w : World} {K : Frag} {mg : Str → Option Value} {base : Heap} {CX : CXT}
theorem scText : FnScope ["script", "left", "text", "k", "cell"] ["script"] (defScope sText) := ⟨rfl, rfl, rfl, by decide +kernel, rfl, by decide +kernel, by decide +kernel⟩
abbrev FText (P : Program) (w : World) (K : Frag) (mg : Str → Option Value) (base : Heap) (CX : CXT) : Prop :=
  FnD P w K mg base CX 2 "_law_text" (fun ns : List Int => [.lst (ns.map .int)]) (fun _ => True) (fun ns => .ok (.str (lawText ns)))
theorem ok_text {f : Addr} {fd : FuncData} (nx : NX CX) (B : Bm mg) (G1 : FCell P w K mg base CX) (F : Fun K "_law_text" "_law_text" sText f fd) (hm : mg "_law_text" = some (.ref f)) (hb : Binds K fd ["script"] []) : FText P w K mg base CX := by
  refine fnD_of F scText hm hb (fun i => rfl) fun cdv A outer s H E ns M0 hp hr => ⟨_, rfl, ?_⟩
  have px := scText.nd
  have hu := Nat.lt_of_succ_lt (hu65 hr)
  change WS _ M0 H (defBody sText) [.im (.lst (ns.map .int)), .un, .un, .un, .un] { N := fun _ => D.str (lawText ns) = .non, R := fun d' => d' = .str (lawText ns) }
  have c0 : 0 ≤ cellAt ns 0 % 15 := Int.emod_nonneg _ (by decide)
  have c1 : cellAt ns 0 % 15 < 15 := Int.emod_lt_of_pos _ (by decide)
  refine WS.cons (W1.setF (i := 1) px rfl (.inl rfl) (ltL rfl) (EvF.listStr (z := FIG) rfl rfl B.list EvD.str (by decide +kernel)) ?_)
  refine WS.cons (W1.set (i := 2) px rfl (.inl rfl) (ltL rfl) EvD.str ?_)
  refine WS.cons (W1.for (ds := rngD 0 (cellAt ns 0 % 15).toNat) (fun i ρ => ∃ a b, ρ = [.im (.lst (ns.map .int)), .mu ((textAt ns i).1.map .str), .im (.str (textAt ns i).2), a, b]) PassesOwn.never rfl (IvD.range rfl B.range (EvD.mod (EvD.call G1 hr (passNX nx) rfl (ns, 0) (AvD.cons (nm 0 rfl rfl) (AvD.cons EvD.int AvD.nil)) trivial rfl) EvD.int (by decide)) (by omega)) ⟨_, _, by rw [NIL_eq]; rfl⟩ ?_ ?_)
  · rintro i d ρ hd ⟨a, b, rfl⟩
    obtain ⟨rfl, hi⟩ := rngD_get hd
    obtain ⟨t1, t2, t3⟩ := textAt_ok ns i
    have stp : textAt ns (i + 1) = textStep ns (textAt ns i) i := rfl
    refine ⟨_, GvD.name (i := 3) px rfl (.inl rfl) (ltL rfl), ?_⟩
    refine WS.cons (W1.set (i := 4) px rfl (.inl rfl) (ltL rfl) (EvD.call G1 hr (passNX nx) rfl (ns, 3 + i) (AvD.cons (nm 0 rfl rfl) (AvD.cons (EvD.to (EvD.add EvD.int (nm 3 rfl rfl)) (congrArg D.int (by omega))) AvD.nil)) trivial rfl) ?_)
    change WS _ M0 H _ [.im (.lst (ns.map .int)), .mu ((textAt ns i).1.map .str), .im (.str (textAt ns i).2), .im (.int (0 + (i : Int))), .im (.int (cellAt ns (3 + i)))] _
    rw [stp]
    unfold textStep
    generalize cellAt ns (3 + i) = c
    clear stp
    generalize textAt ns i = st at t1 t2 t3
    obtain ⟨zs, t⟩ := st
    dsimp only at t1 t2 t3 ⊢
    refine WS.one (W1.ite (TvD.cI .eq (EvD.mod (nm 4 rfl rfl) EvD.int (by decide)) EvD.int) (fun h => ?_) fun h => ?_)
    · have h' : c % 4 = 0 := of_decide_eq_true h
      refine WS.one (W1.set (i := 2) px rfl (.inl rfl) (ltL rfl) (EvD.catS (nm 2 rfl rfl) EvD.str (by rw [show (Str.ofString "/").length = 1 by decide +kernel]; omega)) ⟨.im (.int (0 + (i : Int))), .im (.int c), ?_⟩)
      rw [if_pos h']
      rfl
    · have h' : ¬ c % 4 = 0 := of_decide_eq_false h
      refine WS.one (W1.ite (TvD.ne hu (nmR 1 rfl rfl) (EvD.r (EvF.toD (EvF.lst AvD.nil))) (ones_flat t1 59) (fun d hd => by cases hd)) (fun h2 => ?_) fun h2 => WS.nil ⟨.im (.int (0 + (i : Int))), .im (.int c), ?_⟩)
      · rw [eqv_nilS] at h2
        have hz : ¬ zs = [] := by simpa using h2
        have lp : 0 < zs.length := List.length_pos_iff.mpr hz
        have lpI : (0 : Int) < ((zs.map D.str).length : Int) := by rw [List.length_map]; omega
        have m0 := Int.emod_nonneg (c / 4) (show ((zs.length : Int)) ≠ 0 by omega)
        have m1 := Int.emod_lt_of_pos (c / 4) (show (0 : Int) < (zs.length : Int) by omega)
        have mlt : (c / 4 % (zs.length : Int)).toNat < zs.length := by omega
        have el : (c / 4 % ((zs.map D.str).length : Int)) = (((c / 4 % (zs.length : Int)).toNat : Nat) : Int) := by rw [List.length_map]; omega
        have e1 := List.getElem?_eq_getElem mlt
        refine WS.one (W1.catPop (i := 1) (j := 2) (c := zs[(c / 4 % (zs.length : Int)).toNat]) px rfl (.inl rfl) rfl rfl (.inl rfl) (.inl rfl) rfl (EvD.mod (EvD.fdiv (nm 4 rfl rfl) EvD.int ⟨by decide, by decide⟩) (EvD.lenL rfl B.len (nmR 1 rfl rfl)) lpI) el e1 (by omega) ?_ ⟨.im (.int (0 + (i : Int))), .im (.int c), ?_⟩ ⟨rfl, rfl, rfl, rfl⟩)
        · have hz := t1 _ (List.getElem_mem mlt)
          unfold ones at hz
          obtain ⟨c', _, e⟩ := List.mem_map.mp hz
          rw [← e]
          show t.length + 1 ≤ _
          omega
        · rw [if_neg h', if_neg hz, List.getD_eq_getElem?_getD, e1]
          rfl
      · rw [eqv_nilS] at h2
        have hz : zs = [] := by simpa using h2
        rw [if_neg h', if_pos hz]
  · rintro ρ ⟨a, b, rfl⟩
    rw [rngD_len]
    exact WS.one (W1.ret (nm 2 rfl rfl) rfl)
end
end K
set_option Elab.async false
set_option linter.all false
set_option maxRecDepth 100000
namespace K
open PySem L2 Z
abbrev sDue : Stmt := top 26
abbrev rT (rows : List (List Int)) : D := .tup (rowsD true rows)
def dueD (x : Str) : D := if goodT x then rT ((parts x).map digs) else .non
theorem goodT_text {rows : List (List Int)} (hne : rows ≠ []) (hd : ∀ r ∈ rows, ∀ i ∈ r, 0 ≤ i ∧ i ≤ 9) : goodT (text rows) = ((decide (2 ≤ (rows.length : Int)) && decide ((rows.length : Int) ≤ 4)) && decide (rows.flatten.map fig).Nodup) := by
  unfold goodT
  have h : (text rows).cps.toList.all okSign = true := by
    rw [List.all_eq_true]
    intro c hc
    have hc' : c ∈ Tx.glue 47 (rows.map fun r => r.map fig) := by simpa [text] using hc
    rw [okSign_iff]
    rcases Tx.glue_mem _ hc' with h | ⟨p, hp, hcp⟩
    · exact .inr h
    · obtain ⟨r, hr, rfl⟩ := List.mem_map.mp hp
      obtain ⟨i, hi, rfl⟩ := List.mem_map.mp hcp
      have := hd r hr i hi
      unfold fig
      exact .inl ⟨by omega, by omega⟩
  rw [h, text_parts hne hd, flat_figs, List.length_map, Bool.true_and]
theorem parts_back {rows : List (List Int)} (hne : rows ≠ []) (hd : ∀ r ∈ rows, ∀ i ∈ r, 0 ≤ i ∧ i ≤ 9) : (parts (text rows)).map digs = rows := by
  rw [text_parts hne hd, List.map_map]
  have : ∀ l : List (List Int), (∀ r ∈ l, ∀ i ∈ r, 0 ≤ i ∧ i ≤ 9) → l.map (digs ∘ figs) = l := fun l => by
    induction l with
    | nil => intro _; rfl
    | cons a l ih =>
      intro h
      rw [List.map_cons, ih fun r hr => h r (.tail _ hr)]
      show digs (figs a) :: l = a :: l
      rw [digs_figs (h a (.head _))]
  exact this rows hd
theorem FIG_index {c : Nat} (h : 48 ≤ c ∧ c ≤ 57) : ∃ rest, Builtin.Str.occurrences FIG ⟨#[c]⟩ 0 FIG.length 1 = (c - 48) :: rest := by
  have : c = 48 ∨ c = 49 ∨ c = 50 ∨ c = 51 ∨ c = 52 ∨ c = 53 ∨ c = 54 ∨ c = 55 ∨ c = 56 ∨ c = 57 := by omega
  rcases this with rfl | rfl | rfl | rfl | rfl | rfl | rfl | rfl | rfl | rfl <;> exact ⟨[], by decide +kernel⟩
/-- so far: the rows, the signs that are figures -/
structure DueAt (cs : List Nat) (i : Nat) (ini : List (List Int)) (r : List Int) (seen : List Nat) : Prop where
  dg : ∀ q ∈ ini ++ [r], ∀ j ∈ q, 0 ≤ j ∧ j ≤ 9
  tx : Tx.glue 47 ((ini ++ [r]).map fun r => r.map fig) = cs.take i
  sn : seen = (ini ++ [r]).flatten.map fig
theorem DueAt.stroke {cs : List Nat} {i : Nat} {ini : List (List Int)} {r : List Int} {seen : List Nat} (h : DueAt cs i ini r seen) (hc : cs[i]? = some 47) : DueAt cs (i + 1) (ini ++ [r]) [] seen := by
  refine ⟨fun q hq j hj => ?_, ?_, ?_⟩
  · rcases List.mem_append.mp hq with hq | hq
    · exact h.dg q hq j hj
    · rw [List.mem_singleton.mp hq] at hj; cases hj
  · rw [List.map_append (l₂ := [[]]), List.take_add_one, hc, ← h.tx]
    exact Tx.glue_snoc _ _ (by simp)
  · rw [h.sn, List.flatten_append (L₁ := ini ++ [r]) (L₂ := [[]])]
    simp
theorem DueAt.figure {cs : List Nat} {i c : Nat} {ini : List (List Int)} {r : List Int} {seen : List Nat} (h : DueAt cs i ini r seen) (hc : cs[i]? = some c) (hf : 48 ≤ c ∧ c ≤ 57) : DueAt cs (i + 1) ini (r ++ [((c - 48 : Nat) : Int)]) (seen ++ [c]) := by
  have ef : fig ((c - 48 : Nat) : Int) = c := by unfold fig; omega
  refine ⟨fun q hq j hj => ?_, ?_, ?_⟩
  · rcases List.mem_append.mp hq with hq | hq
    · exact h.dg q (List.mem_append_left _ hq) j hj
    · rw [List.mem_singleton.mp hq] at hj
      rcases List.mem_append.mp hj with hj | hj
      · exact h.dg r (List.mem_append_right _ (List.mem_singleton.mpr rfl)) j hj
      · rw [List.mem_singleton.mp hj]; omega
  · rw [List.take_add_one, hc, ← h.tx, List.map_append, List.map_append]
    show Tx.glue 47 (ini.map (fun r => r.map fig) ++ [(r ++ [((c - 48 : Nat) : Int)]).map fig]) = Tx.glue 47 (ini.map (fun r => r.map fig) ++ [r.map fig]) ++ [c]
    rw [List.map_append, Tx.glue_last]
    show _ ++ [fig ((c - 48 : Nat) : Int)] = _
    rw [ef]
  · rw [h.sn, List.flatten_append, List.flatten_append, List.map_append, List.map_append]
    simp [ef]
theorem DueAt.text {x : Str} {ini : List (List Int)} {r : List Int} {seen : List Nat} (h : DueAt x.cps.toList x.cps.toList.length ini r seen) : x = text (ini ++ [r]) := by
  apply str_ext
  have := h.tx
  rw [List.take_length] at this
  show x.cps.toList = Tx.glue 47 _
  rw [this]
section
variable {P : Program} {w : World} {K : Frag} {mg : Str → Option Value} {base : Heap} {CX : CXT}
theorem scDue : FnScope ["text", "rows", "seen", "sign"] ["text"] (defScope sDue) := ⟨rfl, rfl, rfl, by decide +kernel, rfl, by decide +kernel, by decide +kernel⟩
abbrev FDue (P : Program) (w : World) (K : Frag) (mg : Str → Option Value) (base : Heap) (CX : CXT) : Prop :=
  FnD P w K mg base CX 1 "_law_due" (fun x : Str => [.str x]) (fun x => x.length ≤ 500) (fun x => .ok (dueD x))
theorem ok_due {f : Addr} {fd : FuncData} (B : Bm mg) (F : Fun K "_law_due" "_law_due" sDue f fd) (hm : mg "_law_due" = some (.ref f)) (hb : Binds K fd ["text"] []) : FDue P w K mg base CX := by
  refine fnD_ofT F scDue hm hb (fun i => rfl) fun cdv A outer s H E x M0 hp hr => ⟨_, rfl, fun σ R => ?_⟩
  have p1 : x.length ≤ 500 := hp
  have px := scDue.nd
  have lx : x.cps.toList.length = x.length := by rw [Array.length_toList]; rfl
  have R' : Rep K M0 H [] (fun _ => 0) [.im (.str x), .un, .un, .un] σ H := R
  have plain : ∀ s, plainRho [.im (.str x), .un, .un, s] ↔ (s = .un ∨ ∃ d, s = .im d ∧ D.noL 9 d) := fun s => by
    unfold plainRho
    constructor
    · intro h; exact h s (by simp)
    · intro h t ht
      simp only [List.mem_cons, List.not_mem_nil, or_false] at ht
      rcases ht with rfl | rfl | rfl | rfl
      · exact .inr ⟨_, rfl, trivial⟩
      · exact .inl rfl
      · exact .inl rfl
      · exact h
  -- rows = [[]]
  refine (pss_cons psS psSs).to ((ps_set (i := 1) px rfl (.inl rfl) (pe_lst (pa_cons peE pa_nil rfl)) rfl (.inr rfl)).to ((EvF.lst AvD.nil) M0 H [] _ σ H _ R' fun a ys H1 H2 s1 n1 s2 h2 dn => ⟨le_line (Nat.le_of_ble_eq_true rfl), fun D0 hD => ?_⟩))
  cases (show ys = [] from dn)
  have sD : Same H (upd H2 D0 (.lst [.ref a])) := (s1.trans s2).trans (same_new hD)
  have na : H a = none := s1.free n1
  have nD : H D0 = none := (s1.trans s2).free hD
  have neD : D0 ≠ a := fun e => by rw [e, h2] at hD; cases hD
  have ra0 : RowsAt H D0 [a] [[]] (upd H2 D0 (.lst [.ref a])) := ⟨upd_same, rfl, by simp, by simpa using neD, nD, fun j b r e1 e2 => by
    cases j with
    | zero =>
      cases (Option.some.inj e1)
      cases (Option.some.inj e2)
      exact ⟨na, by rw [upd_ne (Ne.symm neD)]; exact h2⟩
    | succ j => simp at e1⟩
  have R1 : Rep K M0 H [] (fun _ => 0) [.im (.str x), .un, .un, .un] (σ.set 1 (some (.ref D0))) (upd H2 D0 (.lst [.ref a])) := (R'.next sD).forget (i := 1)
  have l4 : σ.length = 4 := R'.len
  -- seen = []
  refine (pss_cons psS psSs).to ((ps_set (i := 2) px rfl (.inl rfl) peE rfl (.inr rfl)).to ((EvF.lst AvD.nil) M0 H [] _ _ _ _ R1 fun As ys H3 H4 s3 n3 s4 h4 dn => ?_))
  cases (show ys = [] from dn)
  have R2 : Rep K M0 H [] (fun _ => 0) [.im (.str x), .un, .un, .un] ((σ.set 1 (some (.ref D0))).set 2 (some (.ref As))) H4 := (R1.next (s3.trans s4)).forget (i := 2)
  have ra1 := ra0.same (s3.trans s4)
  have nAs : H As = none := sD.free (s3.free n3)
  have AsD : As ≠ D0 := fun e => by rw [e, s3 _ _ ra0.at_] at n3; cases n3
  have Asa : As ≠ a := fun e => by rw [e, s3 _ _ (ra0.row 0 a [] rfl rfl).2] at n3; cases n3
  have g1 : ((σ.set 1 (some (.ref D0))).set 2 (some (.ref As)))[1]? = some (some (.ref D0)) := by rw [set_get_ne (by decide)]; exact set_get (by rw [l4]; decide)
  have g2 : ((σ.set 1 (some (.ref D0))).set 2 (some (.ref As)))[2]? = some (some (.ref As)) := set_get (by rw [List.length_set, l4]; decide)
  show tSs _ _ _ ((σ.set 1 (some (.ref D0))).set 2 (some (.ref As))) H4
  generalize (σ.set 1 (some (.ref D0))).set 2 (some (.ref As)) = σ2 at R2 g1 g2 ⊢
  -- the walk
  refine (pss_cons psS psSs).to (forST (z := x) (fun i σ' H' => ∃ (ini : List (List Int)) (r : List Int) (seen : List Nat) (as : List Addr), Rep K M0 H [] (fun _ => 0) [.im (.str x), .un, .un, .un] σ' H' ∧ σ'[1]? = some (some (.ref D0)) ∧ σ'[2]? = some (some (.ref As)) ∧ RowsAt H D0 as (ini ++ [r]) H' ∧ As ∉ as ∧
      H' As = some (.lst ((seen.map fun c => (⟨#[c]⟩ : Str)).map V.str)) ∧ DueAt x.cps.toList i ini r seen ∧ ini.length ≤ i ∧ seen.length ≤ i ∧ r.length ≤ i ∧ x.cps.toList.take i = (x.cps.toList.take i).filter okSign) PassesOwn.never rfl (nm 0 rfl rfl) R2 (fun H5 s5 => ⟨[], [], [], [a], R2.next s5, g1, g2, ra1.same s5, by simpa using Asa, s5 _ _ h4, ⟨(fun q hq j hj => by rw [List.mem_singleton.mp hq] at hj; cases hj), rfl, rfl⟩, Nat.le_refl _, Nat.le_refl _, Nat.le_refl _, rfl⟩) ?_ ?_)
  · rintro i c σ' H5 hc ⟨ini, r, seen, as, R5, k1, k2, ra, nas, hs, da, b1, b2, b3, fl⟩
    have hi : i < x.length := by have := (List.getElem?_eq_some_iff.mp hc).1; omega
    refine (pg_name (i := 3) px rfl (.inl rfl) (.inr rfl)).to ?_
    have R6 : Rep K M0 H [] (fun _ => 0) [.im (.str x), .un, .un, .im (.str ⟨#[c]⟩)] (σ'.set 3 (some (.str ⟨#[c]⟩))) H5 := R5.set_im (i := 3) (d := .str ⟨#[c]⟩) (ltL rfl) rfl
    have k1' : (σ'.set 3 (some (.str ⟨#[c]⟩)))[1]? = some (some (.ref D0)) := by rw [set_get_ne (by decide)]; exact k1
    have k2' : (σ'.set 3 (some (.str ⟨#[c]⟩)))[2]? = some (some (.ref As)) := by rw [set_get_ne (by decide)]; exact k2
    show tSs _ _ _ (σ'.set 3 (some (.str ⟨#[c]⟩))) H5
    generalize σ'.set 3 (some (.str ⟨#[c]⟩)) = σ3 at R6 k1' k2' ⊢
    have pl : plainRho [.im (.str x), .un, .un, .im (.str ⟨#[c]⟩)] := (plain _).mpr (.inr ⟨_, rfl, trivial⟩)
    have al : as.length = ini.length + 1 := by rw [ra.len, List.length_append]; rfl
    refine (pss_one psS).to ((ps_if ptT psSs psSs).to ((TvD.eqS (nm 3 rfl rfl) EvD.str) M0 H [] _ σ3 H5 _ R6 fun H6 s6 => ?_))
    by_cases c47 : c = 47
    · -- rows.append([])
      subst c47
      refine iteT' (decide_eq_true (by decide +kernel)) ?_
      refine (pss_one psS).to (appNew (i := 1) (ds := []) rfl (.inl rfl) (R6.next s6) k1' ((ra.same s6).at_) (by rw [List.length_map]; omega) (EvF.lst AvD.nil) (fun l ys H7 H8 s7 n7 s8 h8 dn => ?_) ⟨rfl, rfl, rfl, rfl⟩)
      cases (show ys = [] from dn)
      have ra6 := (ra.same s6).same s7
      have e : as.map V.ref ++ [V.ref l] = (as ++ [l]).map V.ref := by rw [List.map_append]; rfl
      have ra8 := ra6.snoc (r := []) ((R6.next s6).next s7).same s8 n7 h8
      rw [e]
      have R8 := ((R6.next s6).next (s7.trans s8)).updL (a := D0) (ys := (as ++ [l]).map V.ref) nD ((ra6.same s8).at_) pl
      have lAs : As ≠ l := fun z => by rw [← z, s7 _ _ (s6 _ _ hs)] at n7; cases n7
      refine ⟨ini ++ [r], [], seen, as ++ [l], R8.drop1 (i := 3), k1', k2', ra8, ?_, ?_, da.stroke hc, ?_, by omega, Nat.zero_le _, ?_⟩
      · intro m
        rcases List.mem_append.mp m with m | m
        · exact nas m
        · exact lAs (List.mem_singleton.mp m)
      · rw [upd_ne AsD]; exact s8 _ _ (s7 _ _ (s6 _ _ hs))
      · rw [List.length_append, List.length_singleton]; omega
      · rw [List.take_add_one, hc, List.filter_append, ← fl]
        rfl
    · refine iteF' (decide_eq_false fun z => c47 ?_) ?_
      · have := congrArg (fun s : Str => s.cps.toList) z
        rw [show Str.ofString "/" = ⟨#[47]⟩ from SLA_eq] at this
        simpa using this
      refine (pss_one psS).to ((ps_if ptT psSs psSs).to ((TvD.inS (nm 3 rfl rfl) EvD.str) M0 H [] _ σ3 H6 _ (R6.next s6) fun H7 s7 => ?_))
      by_cases cd : 48 ≤ c ∧ c ≤ 57
      · refine iteT' (decide_eq_true ((FIG_mem c).mpr cd)) ?_
        obtain ⟨rest, ho⟩ := FIG_index cd
        have R7 := (R6.next s6).next s7
        have ra7 := (ra.same s6).same s7
        have hn : as[ini.length]? = some (as[ini.length]'(by omega)) := List.getElem?_eq_getElem _
        generalize as[ini.length]'(by omega) = al' at hn
        have hk : atI (as.map V.ref) (-1) = some (.ref al') := by
          rw [atI_map]
          unfold atI ixN
          rw [if_neg (by omega), if_pos (by omega)]
          show (as[((as.length : Int) + -1).toNat]?).map _ = _
          rw [show ((as.length : Int) + -1).toNat = ini.length by omega, hn]
          rfl
        have hrr : (ini ++ [r])[ini.length]? = some r := by simp
        -- rows[-1].append(..)
        refine (pss_cons psS psSs).to (appRow (i := 1) (v := ((c - 48 : Nat) : Int)) rfl (.inl rfl) R7 k1' ra7 (EvD.neg EvD.int) hk hn hrr (EvD.indexS EvD.str (nm 3 rfl rfl) ho ⟨rfl, rfl, rfl, rfl⟩) (by omega) (fun H8 s8 h8 => ?_) ⟨rfl, rfl, rfl, rfl⟩)
        have ra8 := (ra7.same s8).setRow (r := r ++ [((c - 48 : Nat) : Int)]) hn
        have eset : (ini ++ [r]).set ini.length (r ++ [((c - 48 : Nat) : Int)]) = ini ++ [r ++ [((c - 48 : Nat) : Int)]] := by simp
        rw [eset] at ra8
        have Hal : H al' = none := (ra7.row _ _ _ hn hrr).1
        have R8 := (R7.next s8).updL (a := al') (ys := (r ++ [((c - 48 : Nat) : Int)]).map V.int) Hal h8 pl
        have neA : As ≠ al' := fun z => nas (z ▸ List.mem_of_getElem? hn)
        have hs8 : (upd H8 al' (.lst ((r ++ [((c - 48 : Nat) : Int)]).map V.int))) As = some (.lst ((seen.map fun c => (⟨#[c]⟩ : Str)).map V.str)) := by rw [upd_ne neA]; exact s8 _ _ (s7 _ _ (s6 _ _ hs))
        -- seen.append(sign)
        refine (pss_one psS).to (appAt (i := 2) (d := .str ⟨#[c]⟩) rfl (.inl rfl) R8 k2' hs8 (by rw [List.length_map, List.length_map]; omega) (nm 3 rfl rfl) (fun H9 v s9 dv => ?_) ⟨rfl, rfl, rfl, rfl⟩)
        cases (show v = .str ⟨#[c]⟩ from dv)
        have R9 := (R8.next s9).updL (a := As) (ys := (seen.map fun c => (⟨#[c]⟩ : Str)).map V.str ++ [.str ⟨#[c]⟩]) nAs (s9 _ _ hs8) pl
        refine ⟨ini, r ++ [((c - 48 : Nat) : Int)], seen ++ [c], as, R9.drop1 (i := 3), k1', k2', (ra8.same s9).other AsD nas, nas, ?_, da.figure hc cd, by omega, ?_, ?_, ?_⟩
        · rw [upd_same, List.map_append, List.map_append]
          rfl
        · rw [List.length_append, List.length_singleton]; omega
        · rw [List.length_append, List.length_singleton]; omega
        · rw [List.take_add_one, hc, List.filter_append, ← fl]
          congr 1
          show [c] = [c].filter okSign
          rw [List.filter_cons, if_pos ((okSign_iff c).mpr (.inl cd))]
          rfl
      · refine iteF' (decide_eq_false fun z => cd ((FIG_mem c).mp z)) ?_
        -- return None
        have nok : ¬ okSign c = true := fun z => (okSign_iff c).mp z |>.elim cd c47
        refine (pss_one psS).to ((ps_ret peE).to (EvD.non M0 H [] _ σ3 H7 _ ((R6.next s6).next s7) fun v H8 s8 dv => ⟨.non, ?_, ((R6.next s6).next s7).same.trans s8, dv⟩))
        show D.non = dueD x
        unfold dueD
        rw [if_neg]
        unfold goodT
        rw [Bool.eq_false_iff.mpr fun z => nok (List.all_eq_true.mp z c (List.mem_of_getElem? hc)), Bool.false_and, Bool.false_and]
        exact Bool.false_ne_true
  -- behind the walk
  rintro σ' H5 ⟨ini, r, seen, as, R5, k1, k2, ra, nas, hs, da, b1, b2, b3, fl⟩
  have ex := da.text
  have hne : ini ++ [r] ≠ [] := by simp
  have lrows : (ini ++ [r]).length ≤ 501 := by rw [List.length_append, List.length_singleton]; omega
  have hdue : dueD x = if ((decide (2 ≤ ((ini ++ [r]).length : Int)) && decide (((ini ++ [r]).length : Int) ≤ 4)) && decide seen.Nodup) then rT (ini ++ [r]) else .non := by
    unfold dueD
    rw [ex, goodT_text hne da.dg, parts_back hne da.dg, ← da.sn]
  have pl0 : plainRho [.im (.str x), .un, .un, .un] := (plain _).mpr (.inl rfl)
  have Rr := R5.rowsIm (i := 1) (ltL rfl) k1 pl0 ra (Same.refl _)
  have Rs : Rep K M0 H [] (fun _ => 0) [.im (.str x), .im (rowsL (ini ++ [r])), .im (.lst ((seen.map fun c => (⟨#[c]⟩ : Str)).map .str)), .un] σ' H5 := Rr.view (i := 2) (ltL rfl) k2 ⟨As, _, rfl, .inl ⟨.inl hs, fun m => by
    rcases m with m | ⟨j, ds, e, _⟩
    · exact R'.old _ m nAs
    · match j, e with
      | 0, e => cases e
      | 1, e => cases e
      | 2, e => cases e
      | 3, e => cases e
      | j + 4, e => simp at e⟩, Dns.of_strs _⟩
  generalize ini ++ [r] = rows at *
  refine (?_ : WS _ M0 H _ [.im (.str x), .im (rowsL rows), .im (.lst ((seen.map fun c => (⟨#[c]⟩ : Str)).map .str)), .un] { N := fun _ => dueD x = .non, R := fun d' => d' = dueD x }) [] _ _ _ Rs
  rw [hdue]
  have ls : (seen.map fun c => (⟨#[c]⟩ : Str)).length = seen.length := List.length_map ..
  have lr : (rows.map rowL).length = rows.length := List.length_map ..
  have nd : (seen.map fun c => (⟨#[c]⟩ : Str)).Nodup ↔ seen.Nodup := by
    have := ones_nodup ⟨seen.toArray⟩
    simpa [ones] using this
  have ul := Tx.uniq_le (seen.map fun c => (⟨#[c]⟩ : Str))
  have ue := Tx.uniq_eq (seen.map fun c => (⟨#[c]⟩ : Str))
  refine WS.cons (W1.ite (TwD.t (TwD.or (TvD.cI .lt (EvD.lenSetStrs rfl rfl B.len rfl B.set (EvD.r (nm 2 rfl rfl)) (by rw [ls]; omega)) (EvD.lenL rfl B.len (EvD.r (nm 2 rfl rfl)))) fun _ => TwD.or1 (TvD.not (TvD.chain .le .le EvD.int (EvD.lenL rfl B.len (EvD.r (nm 1 rfl rfl))) EvD.int)))) (fun h => ?_) fun h => WS.nil ?_)
  · refine WS.one (W1.ret EvD.non ?_)
    rw [if_neg]
    intro hh
    rw [Bool.and_eq_true, decide_eq_true_eq] at hh
    rw [← nd, ← ue] at hh
    rw [lr, hh.1] at h
    rw [List.length_map] at h
    simp at h
    omega
  · have hh : ((decide (2 ≤ (rows.length : Int)) && decide ((rows.length : Int) ≤ 4)) && decide seen.Nodup) = true := by
      rw [lr, List.length_map] at h
      rw [Bool.or_eq_false_iff] at h
      obtain ⟨h1, h2⟩ := h
      rw [Bool.and_eq_true, decide_eq_true_eq]
      refine ⟨by simpa using h2, ?_⟩
      rw [← nd, ← ue]
      have := of_decide_eq_false h1
      omega
    rw [if_pos hh]
    refine WS.one (W1.ret (EvD.tupleL rfl B.tuple (EvD.r (EvF.toD (EvF.comp (ds := rows.map rowL) (es := rowsD true rows) (cs := []) (CompOk.closed (by decide +kernel) (by decide +kernel) rfl (by decide +kernel) rfl) rfl (by decide +kernel) (IvD.list (nm 1 rfl rfl)) capNil (by rw [rowsD_len, lr]) (by rw [lr]; omega) ?_)))) rfl)
    intro C s₀ H₀ fp pins i d e h1 h2
    obtain ⟨r2, hr2, rfl⟩ := rowsD_get h2
    rw [List.getElem?_map, hr2] at h1
    cases h1
    exact EvD.tupleS (t := false) rfl B.tuple (nm 0 rfl rfl)
end
end K
set_option Elab.async false
set_option linter.all false
set_option maxRecDepth 100000
namespace K
open PySem L2 Z
abbrev sLaw : Stmt := top 28
def SIG : Str := Str.ofString "0123456789/ -a\n\t"
theorem SIG_at {k : Int} (h0 : 0 ≤ k) (h1 : k < 16) : ∃ c, atI SIG.cps.toList k = some c := by
  have : k = 0 ∨ k = 1 ∨ k = 2 ∨ k = 3 ∨ k = 4 ∨ k = 5 ∨ k = 6 ∨ k = 7 ∨ k = 8 ∨ k = 9 ∨ k = 10 ∨ k = 11 ∨ k = 12 ∨ k = 13 ∨ k = 14 ∨ k = 15 := by omega
  rcases this with rfl | rfl | rfl | rfl | rfl | rfl | rfl | rfl | rfl | rfl | rfl | rfl | rfl | rfl | rfl | rfl <;> exact ⟨_, rfl⟩
theorem lawText_len (ns : List Int) : (lawText ns).length ≤ 15 := by
  have := (textAt_ok ns (cellAt ns 0 % 15).toNat).2.1
  have c1 : cellAt ns 0 % 15 < 15 := Int.emod_lt_of_pos _ (by decide)
  unfold lawText
  omega
theorem flat_rT (n : Nat) (rows : List (List Int)) : D.flat (n + 2) (rT rows) := fun d hd => by
  obtain ⟨r, _, rfl⟩ := List.mem_map.mp hd
  intro e he
  obtain ⟨i, _, rfl⟩ := List.mem_map.mp (show e ∈ r.map D.int from he)
  cases n <;> trivial
theorem flat_bls (n : Nat) (l : List Bool) : D.flat (n + 1) (.lst (l.map .bl)) := fun d hd => by
  obtain ⟨i, _, rfl⟩ := List.mem_map.mp hd
  cases n <;> exact True.intro
section
variable {P : Program} {w : World} {K : Frag} {mg : Str → Option Value} {base : Heap} {C0 : Addr} {cl : Nat → Addr} {raised : Nat → Prop}
theorem scLaw : FnScope ["script", "text", "mode", "cell", "at", "sign", "due", "found", "kinds", "e", "stack"] ["script"] (defScope sLaw) := ⟨rfl, rfl, rfl, by decide +kernel, rfl, by decide +kernel, by decide +kernel⟩
theorem ok_law {f : Addr} {fd : FuncData} (hr7 : raised 7) (hC0 : mg "CraneError" = some (.ref C0)) (hbl : Below2 (cl 7) C0 base) (B : Bm mg) (G1 : FCell P w K mg base (CXr P w)) (G2 : FText P w K mg base (CXr P w)) (G3 : FDue P w K mg base (CXr P w)) (G4 : FReadX P w K mg base (cl 7)) (G5 : FKind P w K mg base (CXr P w) cl raised) (G6 : FOne P w K mg base (CXr P w)) (G7 : FWhole P w K mg base (CXr P w))
    (F : Fun K "law" "law" sLaw f fd) : FnOk P w K mg base (CXr P w) 4 f fd ["script"] (spLaw K) := by
  have nx : NX (CXr P w) := cxr_no
  refine fnOk_of F scLaw (fun i => rfl) fun cdv A outer s H E ns M0 hp hr => ⟨_, rfl, ?_⟩
  have px := scLaw.nd
  have hr1 : Room 1 _ := hr.mono (by decide)
  have hr2 : Room 2 _ := hr.mono (by decide)
  have hu := Nat.lt_of_succ_lt (hu65 hr)
  change WS _ M0 H (defBody sLaw) [.im (.lst (ns.map .int)), .un, .un, .un, .un, .un, .un, .un, .un, .un, .un] { N := fun _ => D.bl true = .non, R := fun d' => d' = .bl true }
  refine WS.cons (W1.set (i := 1) px rfl (.inl rfl) (ltL rfl) (EvD.call G2 hr2 (passNX nx) rfl ns (AvD.cons (nm 0 rfl rfl) AvD.nil) trivial rfl) ?_)
  have tl := lawText_len ns
  generalize lawText ns = t0 at tl
  refine WS.cons (W1.set (i := 2) px rfl (.inl rfl) (ltL rfl) (EvD.mod (EvD.call G1 hr1 (passNX nx) rfl (ns, 1) (AvD.cons (nm 0 rfl rfl) (AvD.cons EvD.int AvD.nil)) trivial rfl) EvD.int (by decide)) ?_)
  generalize cellAt ns 1 % 4 = mode
  refine WS.cons (W1.set (i := 3) px rfl (.inl rfl) (ltL rfl) (EvD.call G1 hr1 (passNX nx) rfl (ns, 2) (AvD.cons (nm 0 rfl rfl) (AvD.cons EvD.int AvD.nil)) trivial rfl) ?_)
  generalize cellAt ns 2 = cell
  refine WS.cons (W1.set (i := 4) px rfl (.inl rfl) (ltL rfl) (EvD.mod (nm 3 rfl rfl) (EvD.add (EvD.lenStr rfl B.len (nm 1 rfl rfl) (by omega)) EvD.int) (by omega)) ?_)
  generalize cell % ((t0.length : Int) + 1) = at'
  obtain ⟨c, hc⟩ := SIG_at (Int.emod_nonneg (cell / 16) (by decide)) (Int.emod_lt_of_pos (cell / 16) (show (0 : Int) < 16 by decide))
  refine WS.cons (W1.set (i := 5) px rfl (.inl rfl) (ltL rfl) (EvD.ixStr (x := SIG) EvD.str (EvD.mod (EvD.fdiv (nm 3 rfl rfl) EvD.int ⟨by decide, by decide⟩) EvD.int (by decide)) hc (by decide +kernel)) ?_)
  change WS _ M0 H _ [.im (.lst (ns.map .int)), .im (.str t0), .im (.int mode), .im (.int cell), .im (.int at'), .im (.str ⟨#[c]⟩), .un, .un, .un, .un, .un] _
  have l1 : (⟨#[c]⟩ : Str).length = 1 := rfl
  -- mode 1
  refine WS.cons (P := _) (W1.imp (P := { N := fun ρ' => ∃ t : Str, t.length ≤ 31 ∧ ρ' = [.im (.lst (ns.map .int)), .im (.str t), .im (.int mode), .im (.int cell), .im (.int at'), .im (.str ⟨#[c]⟩), .un, .un, .un, .un, .un], R := fun _ => False }) (W1.ite (TvD.cI .eq (nm 2 rfl rfl) EvD.int) (fun h => ?_) fun h => WS.nil ⟨t0, by omega, rfl⟩) ?_ (fun _ z => z.elim) (fun _ z => z.elim) fun _ z => z.elim)
  · have a1 := Txt.slice_le t0 none (some at')
    have a2 := Txt.slice_le t0 (some at') none
    refine WS.one (W1.set (i := 1) px rfl (.inl rfl) (ltL rfl) (EvD.catS (EvD.catS (EvD.cutS (nm 1 rfl rfl) OvD.none (OvD.some (nm 4 rfl rfl)) (by omega)) (nm 5 rfl rfl) (by rw [l1]; omega)) (EvD.cutS (nm 1 rfl rfl) (OvD.some (nm 4 rfl rfl)) OvD.none (by omega)) (by rw [len_app, l1]; omega)) ⟨_, ?_, rfl⟩)
    rw [len_app, len_app, l1]
    omega
  rintro ρ ⟨t1, b1, rfl⟩
  -- mode 2
  refine WS.cons (P := _) (W1.imp (P := { N := fun ρ' => ∃ t : Str, t.length ≤ 63 ∧ ρ' = [.im (.lst (ns.map .int)), .im (.str t), .im (.int mode), .im (.int cell), .im (.int at'), .im (.str ⟨#[c]⟩), .un, .un, .un, .un, .un], R := fun _ => False }) (W1.ite (TvD.cI .eq (nm 2 rfl rfl) EvD.int) (fun h => ?_) fun h => WS.nil ⟨t1, by omega, rfl⟩) ?_ (fun _ z => z.elim) (fun _ z => z.elim) fun _ z => z.elim)
  · have a1 := Txt.slice_le t1 none (some at')
    have a2 := Txt.slice_le t1 (some (at' + 1)) none
    refine WS.one (W1.set (i := 1) px rfl (.inl rfl) (ltL rfl) (EvD.catS (EvD.catS (EvD.cutS (nm 1 rfl rfl) OvD.none (OvD.some (nm 4 rfl rfl)) (by omega)) (nm 5 rfl rfl) (by rw [l1]; omega)) (EvD.cutS (nm 1 rfl rfl) (OvD.some (EvD.add (nm 4 rfl rfl) EvD.int)) OvD.none (by omega)) (by rw [len_app, l1]; omega)) ⟨_, ?_, rfl⟩)
    rw [len_app, len_app, l1]
    omega
  rintro ρ ⟨t2, b2, rfl⟩
  -- mode 3
  refine WS.cons (P := _) (W1.imp (P := { N := fun ρ' => ∃ t : Str, t.length ≤ 127 ∧ ρ' = [.im (.lst (ns.map .int)), .im (.str t), .im (.int mode), .im (.int cell), .im (.int at'), .im (.str ⟨#[c]⟩), .un, .un, .un, .un, .un], R := fun _ => False }) (W1.ite (TvD.cI .eq (nm 2 rfl rfl) EvD.int) (fun h => ?_) fun h => WS.nil ⟨t2, by omega, rfl⟩) ?_ (fun _ z => z.elim) (fun _ z => z.elim) fun _ z => z.elim)
  · have a1 := Txt.slice_le t2 none (some at')
    have a2 := Txt.slice_le t2 (some (at' + 1)) none
    refine WS.one (W1.set (i := 1) px rfl (.inl rfl) (ltL rfl) (EvD.catS (EvD.cutS (nm 1 rfl rfl) OvD.none (OvD.some (nm 4 rfl rfl)) (by omega)) (EvD.cutS (nm 1 rfl rfl) (OvD.some (EvD.add (nm 4 rfl rfl) EvD.int)) OvD.none (by omega)) (by omega)) ⟨_, ?_, rfl⟩)
    rw [len_app]
    omega
  rintro ρ ⟨x, b3, rfl⟩
  -- due, found, kinds
  refine WS.cons (W1.set (i := 6) px rfl (.inl rfl) (ltL rfl) (EvD.call G3 hr1 (passNX nx) rfl x (AvD.cons (nm 1 rfl rfl) AvD.nil) (show x.length ≤ 500 by omega) rfl) ?_)
  refine WS.cons (W1.set (i := 7) px rfl (.inl rfl) (ltL rfl) EvD.non ?_)
  refine WS.cons (W1.setF (i := 8) px rfl (.inl rfl) (ltL rfl) (EvF.lst AvD.nil) ?_)
  have f10 : D.flat 60 (.lst ([] : List D)) := fun d hd => by cases hd
  by_cases hg : goodT x = true
  · have ed : dueD x = rT ((parts x).map digs) := if_pos hg
    dsimp only
    rw [ed]
    change WS _ M0 H _ [.im (.lst (ns.map .int)), .im (.str x), .im (.int mode), .im (.int cell), .im (.int at'), .im (.str ⟨#[c]⟩), .im (rT ((parts x).map digs)), .im .non, .mu [], .un, .un] _
    have rl : ∀ r ∈ (parts x).map digs, r.length ≤ 500 := fun r hr' => by
      obtain ⟨p, hp, rfl⟩ := List.mem_map.mp hr'
      have := part_len hp
      show (p.cps.toList.map dig).length ≤ 500
      rw [List.length_map, Array.length_toList]
      show p.length ≤ 500
      omega
    refine WS.cons (W1.tryOk (fun _ _ z => z) (WS.one (W1.set (i := 7) (d := rT ((parts x).map digs)) px rfl (.inl rfl) (ltL rfl) (EvD.call G4 hr2 (passNX nx) rfl x (AvD.cons (nm 1 rfl rfl) AvD.nil) (show x.length ≤ 500 by omega) (if_pos hg)) ?_)))
    generalize (parts x).map digs = rows at rl
    refine WS.freeze (i := 8) rfl ?_
    change WS _ M0 H _ [.im (.lst (ns.map .int)), .im (.str x), .im (.int mode), .im (.int cell), .im (.int at'), .im (.str ⟨#[c]⟩), .im (rT rows), .im (rT rows), .im (.lst []), .un, .un] _
    refine WS.cons (W1.ite (TvD.isN (EvD.r (nm 6 rfl rfl))) (fun h => by cases h) fun _ => WS.nil ?_)
    refine WS.cons (W1.ite (TwD.t (TwD.or (TvD.ne hu (EvD.r (nm 8 rfl rfl)) (EvD.r (EvF.toD (EvF.lst AvD.nil))) f10 f10) fun _ => TwD.or (TvD.not (TvD.val (EvD.isi rfl B.isi rfl B.tuple (by decide +kernel) (.inr (.inr (.inr (.inl rfl)))) (EvD.r (nm 7 rfl rfl)) rfl))) fun _ => TwD.or1 (TvD.ne hu (EvD.r (nm 7 rfl rfl)) (EvD.r (nm 6 rfl rfl)) (flat_rT 58 _) (flat_rT 58 _)))) (fun h => ?_) fun _ => WS.nil ?_)
    · rw [eqv_self f10, isT_tup, eqv_self (flat_rT 58 _)] at h
      cases h
    refine WS.cons (W1.for (ds := rowsD true rows) (fun j ρ => ∃ a, ρ = [.im (.lst (ns.map .int)), .im (.str x), .im (.int mode), .im (.int cell), .im (.int at'), .im (.str ⟨#[c]⟩), .im (rT rows), .im (rT rows), .im (.lst []), .un, a]) PassesOwn.never rfl (IvD.tup (nm 7 rfl rfl)) ⟨_, rfl⟩ ?_ ?_)
    · rintro j d ρ hd ⟨a, rfl⟩
      obtain ⟨r, hr', rfl⟩ := rowsD_get hd
      refine ⟨_, GvD.name (i := 10) px rfl (.inl rfl) (ltL rfl), ?_⟩
      refine WS.one (W1.ite (TwD.t (TwD.or (TvD.not (TvD.val (EvD.isi (d := .tup (r.map .int)) rfl B.isi rfl B.tuple (by decide +kernel) (.inr (.inr (.inr (.inl rfl)))) (EvD.r (nm 10 rfl rfl)) rfl))) fun _ => TwD.or1 (TvD.not (TvD.val (EvD.all (bs := r.map fun _ => true) rfl rfl B.all (EvD.r (EvF.toD (EvF.comp (ds := r.map .int) (es := (r.map fun _ => true).map D.bl) (cs := [])
        (CompOk.closed (by decide +kernel) (by decide +kernel) rfl (by decide +kernel) rfl) rfl (by decide +kernel) (IvD.seq (t := true) (nm 10 rfl rfl)) capNil (by simp) (by rw [List.length_map]; have := rl r (List.mem_of_getElem? hr'); omega) ?_)))))))) (fun h => ?_) fun h => WS.nil ⟨_, rfl⟩)
      · intro C s₀ H₀ fp pins i d e h1 h2
        rw [List.getElem?_map] at h1
        rw [List.getElem?_map, List.getElem?_map] at h2
        cases ei : r[i]? with
        | none => rw [ei] at h1; cases h1
        | some v =>
          rw [ei] at h1 h2
          cases h1
          cases h2
          exact EvD.call G7 hr1 (passNX nx) rfl v (AvD.cons (nm 0 rfl rfl) AvD.nil) trivial rfl
      · rw [isT_tup, List.all_map] at h
        simp at h
    · rintro ρ ⟨a, rfl⟩
      exact WS.one (W1.ret EvD.bl rfl)
  · have ed : dueD x = .non := if_neg hg
    dsimp only
    rw [ed]
    change WS _ M0 H _ [.im (.lst (ns.map .int)), .im (.str x), .im (.int mode), .im (.int cell), .im (.int at'), .im (.str ⟨#[c]⟩), .im .non, .im .non, .mu [], .un, .un] _
    refine WS.cons (W1.tryRaise (j := 9) (C := cl 7) (D0 := C0) rfl rfl rfl px rfl rfl (ltL rfl) rfl hC0 hbl (fun pn W => RttD.set (i := 7) px rfl (.inl rfl) (RtD.call (i := x) rfl G4 hr2 rfl (AvD.cons (nm 1 rfl rfl) AvD.nil) (show x.length ≤ 500 by omega) (if_neg hg))) fun a => WS.one (W1.set (i := 8) px rfl (.inl rfl) (ltL rfl) (EvD.callH (i := 7) G5 ⟨rfl, hr1.dp, hr1.un⟩ (passNX nx) rfl (AvD.cons (nm 9 rfl rfl) AvD.nil) hr7 rfl) ?_))
    change WS _ M0 H _ [.im (.lst (ns.map .int)), .im (.str x), .im (.int mode), .im (.int cell), .im (.int at'), .im (.str ⟨#[c]⟩), .im .non, .im .non, .im (.lst ((oneL 7).map .bl)), .un, .un] _
    refine WS.cons (W1.ite (TvD.isN (EvD.r (nm 6 rfl rfl))) (fun _ => ?_) fun h => by cases h)
    refine WS.one (W1.ret (EvD.and (EvD.isN (EvD.r (nm 7 rfl rfl))) fun _ => EvD.one (EvD.eq hu (EvD.r (nm 8 rfl rfl)) (EvD.r (EvD.call G6 hr1 (passNX nx) rfl 7 (AvD.cons EvD.int AvD.nil) trivial rfl)) (flat_bls 59 _) (flat_bls 59 _))) ?_)
    rw [eqv_self (flat_bls 59 _)]
    rfl
end
end K
set_option Elab.async false
set_option linter.all false
set_option maxRecDepth 100000
namespace K
open PySem L2 Z
theorem all_mk {l : PySem.W.OpenLaw} {w : World} {K : Frag} {h : Heap} {mg : Str → Option Value} {fa : Addr} (KX : K.In h) (G : h.Ns mainGlobals mg) (hfa : mg "law" = some (.ref fa))
    {C_CraneError : Addr}
    {C_NoFloor : Addr}
    {C_NoStanding : Addr}
    {C_NoLift : Addr}
    {C_OtherCrates : Addr}
    {C_TooMany : Addr}
    {C_NoNames : Addr}
    {C_NoOrder : Addr}
    {C_BadText : Addr}
    {f0 : Addr} {od0 an0 : Option Addr} {sl0 : Array (Option Value)} {oc0 kV0 dc0 pm0 cd0 ct0 : Value}
    {f1 : Addr} {od1 an1 : Option Addr} {sl1 : Array (Option Value)} {oc1 kV1 dc1 pm1 cd1 ct1 : Value}
    {f2 : Addr} {od2 an2 : Option Addr} {sl2 : Array (Option Value)} {oc2 kV2 dc2 pm2 cd2 ct2 : Value}
    {f3 : Addr} {od3 an3 : Option Addr} {sl3 : Array (Option Value)} {oc3 kV3 dc3 pm3 cd3 ct3 : Value}
    {f4 : Addr} {od4 an4 : Option Addr} {sl4 : Array (Option Value)} {oc4 kV4 dc4 pm4 cd4 ct4 : Value}
    {f5 : Addr} {od5 an5 : Option Addr} {sl5 : Array (Option Value)} {oc5 kV5 dc5 pm5 cd5 ct5 : Value}
    {f6 : Addr} {od6 an6 : Option Addr} {sl6 : Array (Option Value)} {oc6 kV6 dc6 pm6 cd6 ct6 : Value}
    {f7 : Addr} {od7 an7 : Option Addr} {sl7 : Array (Option Value)} {oc7 kV7 dc7 pm7 cd7 ct7 : Value}
    {f8 : Addr} {od8 an8 : Option Addr} {sl8 : Array (Option Value)} {oc8 kV8 dc8 pm8 cd8 ct8 : Value}
    {f9 : Addr} {od9 an9 : Option Addr} {sl9 : Array (Option Value)} {oc9 kV9 dc9 pm9 cd9 ct9 : Value}
    {f10 : Addr} {od10 an10 : Option Addr} {sl10 : Array (Option Value)} {oc10 kV10 dc10 pm10 cd10 ct10 : Value}
    {f11 : Addr} {od11 an11 : Option Addr} {sl11 : Array (Option Value)} {oc11 kV11 dc11 pm11 cd11 ct11 : Value}
    {v_FEWEST_STACKS : Value}
    {v_MOST_STACKS : Value}
    {v_FIGURES : Value}
    {v_BETWEEN_STACKS : Value}
    (a0 : PySem.W.nsIn K mainGlobals "_law_cell_at" = some (some (.ref f0)))
    (l0 : K.lookup f0 = some ⟨oc0, od0, .func (PySem.W.fnOf "_law_cell_at" "_law_cell_at" (defArgs sCell) (defBody sCell) (defScope sCell) .none kV0 dc0 pm0 an0 cd0 ct0), sl0⟩)
    (c0 : PySem.W.codeIn K cd0 "_law_cell_at" = true)
    (k0 : PySem.W.keepIn K (.ref f0) = true)
    (a1 : PySem.W.nsIn K mainGlobals "is_within" = some (some (.ref f1)))
    (l1 : K.lookup f1 = some ⟨oc1, od1, .func (PySem.W.fnOf "is_within" "is_within" (defArgs sWithin) (defBody sWithin) (defScope sWithin) .none kV1 dc1 pm1 an1 cd1 ct1), sl1⟩)
    (c1 : PySem.W.codeIn K cd1 "is_within" = true)
    (k1 : PySem.W.keepIn K (.ref f1) = true)
    (a2 : PySem.W.nsIn K mainGlobals "read" = some (some (.ref f2)))
    (l2 : K.lookup f2 = some ⟨oc2, od2, .func (PySem.W.fnOf "read" "read" (defArgs sRead) (defBody sRead) (defScope sRead) .none kV2 dc2 pm2 an2 cd2 ct2), sl2⟩)
    (c2 : PySem.W.codeIn K cd2 "read" = true)
    (k2 : PySem.W.keepIn K (.ref f2) = true)
    (a3 : PySem.W.nsIn K mainGlobals "stack_read" = some (some (.ref f3)))
    (l3 : K.lookup f3 = some ⟨oc3, od3, .func (PySem.W.fnOf "stack_read" "stack_read" (defArgs sStackRead) (defBody sStackRead) (defScope sStackRead) .none kV3 dc3 pm3 an3 cd3 ct3), sl3⟩)
    (c3 : PySem.W.codeIn K cd3 "stack_read" = true)
    (k3 : PySem.W.keepIn K (.ref f3) = true)
    (a4 : PySem.W.nsIn K mainGlobals "has_signs_of_a_standing" = some (some (.ref f4)))
    (l4 : K.lookup f4 = some ⟨oc4, od4, .func (PySem.W.fnOf "has_signs_of_a_standing" "has_signs_of_a_standing" (defArgs sSigns) (defBody sSigns) (defScope sSigns) .none kV4 dc4 pm4 an4 cd4 ct4), sl4⟩)
    (c4 : PySem.W.codeIn K cd4 "has_signs_of_a_standing" = true)
    (k4 : PySem.W.keepIn K (.ref f4) = true)
    (a5 : PySem.W.nsIn K mainGlobals "has_a_sign_twice" = some (some (.ref f5)))
    (l5 : K.lookup f5 = some ⟨oc5, od5, .func (PySem.W.fnOf "has_a_sign_twice" "has_a_sign_twice" (defArgs sTwice) (defBody sTwice) (defScope sTwice) .none kV5 dc5 pm5 an5 cd5 ct5), sl5⟩)
    (c5 : PySem.W.codeIn K cd5 "has_a_sign_twice" = true)
    (k5 : PySem.W.keepIn K (.ref f5) = true)
    (a6 : PySem.W.nsIn K mainGlobals "_law_whole" = some (some (.ref f6)))
    (l6 : K.lookup f6 = some ⟨oc6, od6, .func (PySem.W.fnOf "_law_whole" "_law_whole" (defArgs sWhole) (defBody sWhole) (defScope sWhole) .none kV6 dc6 pm6 an6 cd6 ct6), sl6⟩)
    (c6 : PySem.W.codeIn K cd6 "_law_whole" = true)
    (k6 : PySem.W.keepIn K (.ref f6) = true)
    (a7 : PySem.W.nsIn K mainGlobals "_law_kind" = some (some (.ref f7)))
    (l7 : K.lookup f7 = some ⟨oc7, od7, .func (PySem.W.fnOf "_law_kind" "_law_kind" (defArgs sKind) (defBody sKind) (defScope sKind) .none kV7 dc7 pm7 an7 cd7 ct7), sl7⟩)
    (c7 : PySem.W.codeIn K cd7 "_law_kind" = true)
    (k7 : PySem.W.keepIn K (.ref f7) = true)
    (a8 : PySem.W.nsIn K mainGlobals "_law_one" = some (some (.ref f8)))
    (l8 : K.lookup f8 = some ⟨oc8, od8, .func (PySem.W.fnOf "_law_one" "_law_one" (defArgs sOne) (defBody sOne) (defScope sOne) .none kV8 dc8 pm8 an8 cd8 ct8), sl8⟩)
    (c8 : PySem.W.codeIn K cd8 "_law_one" = true)
    (k8 : PySem.W.keepIn K (.ref f8) = true)
    (a9 : PySem.W.nsIn K mainGlobals "_law_text" = some (some (.ref f9)))
    (l9 : K.lookup f9 = some ⟨oc9, od9, .func (PySem.W.fnOf "_law_text" "_law_text" (defArgs sText) (defBody sText) (defScope sText) .none kV9 dc9 pm9 an9 cd9 ct9), sl9⟩)
    (c9 : PySem.W.codeIn K cd9 "_law_text" = true)
    (k9 : PySem.W.keepIn K (.ref f9) = true)
    (a10 : PySem.W.nsIn K mainGlobals "_law_due" = some (some (.ref f10)))
    (l10 : K.lookup f10 = some ⟨oc10, od10, .func (PySem.W.fnOf "_law_due" "_law_due" (defArgs sDue) (defBody sDue) (defScope sDue) .none kV10 dc10 pm10 an10 cd10 ct10), sl10⟩)
    (c10 : PySem.W.codeIn K cd10 "_law_due" = true)
    (k10 : PySem.W.keepIn K (.ref f10) = true)
    (a11 : PySem.W.nsIn K mainGlobals "law" = some (some (.ref f11)))
    (l11 : K.lookup f11 = some ⟨oc11, od11, .func (PySem.W.fnOf "law" "law" (defArgs sLaw) (defBody sLaw) (defScope sLaw) .none kV11 dc11 pm11 an11 cd11 ct11), sl11⟩)
    (c11 : PySem.W.codeIn K cd11 "law" = true)
    (k11 : PySem.W.keepIn K (.ref f11) = true)
    (aC_CraneError : PySem.W.nsIn K mainGlobals "CraneError" = some (some (.ref C_CraneError)))
    (aC_NoFloor : PySem.W.nsIn K mainGlobals "NoFloor" = some (some (.ref C_NoFloor)))
    (aC_NoStanding : PySem.W.nsIn K mainGlobals "NoStanding" = some (some (.ref C_NoStanding)))
    (aC_NoLift : PySem.W.nsIn K mainGlobals "NoLift" = some (some (.ref C_NoLift)))
    (aC_OtherCrates : PySem.W.nsIn K mainGlobals "OtherCrates" = some (some (.ref C_OtherCrates)))
    (aC_TooMany : PySem.W.nsIn K mainGlobals "TooMany" = some (some (.ref C_TooMany)))
    (aC_NoNames : PySem.W.nsIn K mainGlobals "NoNames" = some (some (.ref C_NoNames)))
    (aC_NoOrder : PySem.W.nsIn K mainGlobals "NoOrder" = some (some (.ref C_NoOrder)))
    (aC_BadText : PySem.W.nsIn K mainGlobals "BadText" = some (some (.ref C_BadText)))
    (xe_BadText : PySem.W.excIn K C_BadText vErr "ValueError.__new__" = true)
    (xe_CraneError : PySem.W.excIn K C_CraneError vErr "ValueError.__new__" = true)
    (xb_CraneError : PySem.W.mroIn K C_CraneError (.type "BaseException") = some true)
    (nl : noLst K = true)
    (xr_BadText : PySem.W.mroIn K C_BadText (.ref C_CraneError) = some true)
    (xc_BadText : PySem.W.findIn K (.ref C_BadText) "__class__" = some (some (.builtin "object.__class__")))
    (xg_BadText : PySem.W.findIn K (.ref C_BadText) "__getattribute__" = some (some (.builtin "BaseException.__getattribute__")))
    (xt_BadText : PySem.W.findIn K (.ref C_BadText) "__getattr__" = some none)
    (xo_BadText : PySem.W.mroIn K C_BadText (.type "object") = some true)
    (xs_BadText : PySem.W.subIn K (.ref C_BadText) (.type "BaseException") = some true)
    (xi_BadText : (PySem.W.clsIn K C_BadText).isSome = true)
    (xk_BadText_NoFloor : PySem.W.kitOne K (.ref C_BadText) (.ref C_NoFloor) = some false)
    (xk_BadText_NoStanding : PySem.W.kitOne K (.ref C_BadText) (.ref C_NoStanding) = some false)
    (xk_BadText_NoLift : PySem.W.kitOne K (.ref C_BadText) (.ref C_NoLift) = some false)
    (xk_BadText_OtherCrates : PySem.W.kitOne K (.ref C_BadText) (.ref C_OtherCrates) = some false)
    (xk_BadText_TooMany : PySem.W.kitOne K (.ref C_BadText) (.ref C_TooMany) = some false)
    (xk_BadText_NoNames : PySem.W.kitOne K (.ref C_BadText) (.ref C_NoNames) = some false)
    (xk_BadText_NoOrder : PySem.W.kitOne K (.ref C_BadText) (.ref C_NoOrder) = some false)
    (xk_BadText_BadText : PySem.W.kitOne K (.ref C_BadText) (.ref C_BadText) = some true)
    (xv_BadText : PySem.W.kitOne K (.ref C_BadText) (.type "ValueError") = some true)
    (z_len : PySem.W.nsIn K mainGlobals "len" = some none)
    (z_range : PySem.W.nsIn K mainGlobals "range" = some none)
    (z_list : PySem.W.nsIn K mainGlobals "list" = some none)
    (z_tuple : PySem.W.nsIn K mainGlobals "tuple" = some none)
    (z_set : PySem.W.nsIn K mainGlobals "set" = some none)
    (z_isinstance : PySem.W.nsIn K mainGlobals "isinstance" = some none)
    (z_int : PySem.W.nsIn K mainGlobals "int" = some none)
    (z_bool : PySem.W.nsIn K mainGlobals "bool" = some none)
    (z_str : PySem.W.nsIn K mainGlobals "str" = some none)
    (z_all : PySem.W.nsIn K mainGlobals "all" = some none)
    (z_ValueError : PySem.W.nsIn K mainGlobals "ValueError" = some none)
    (g_FEWEST_STACKS : PySem.W.nsIn K mainGlobals "FEWEST_STACKS" = some (some v_FEWEST_STACKS))
    (e_FEWEST_STACKS : ∃ t, v_FEWEST_STACKS = .int 2 t)
    (g_MOST_STACKS : PySem.W.nsIn K mainGlobals "MOST_STACKS" = some (some v_MOST_STACKS))
    (e_MOST_STACKS : ∃ t, v_MOST_STACKS = .int 4 t)
    (g_FIGURES : PySem.W.nsIn K mainGlobals "FIGURES" = some (some v_FIGURES))
    (e_FIGURES : ∃ t, v_FIGURES = .str FIG t)
    (g_BETWEEN_STACKS : PySem.W.nsIn K mainGlobals "BETWEEN_STACKS" = some (some v_BETWEEN_STACKS))
    (e_BETWEEN_STACKS : ∃ t, v_BETWEEN_STACKS = .str SLA t) :
    ∃ fd : FuncData, (∀ (s : Shared) (v : Value), BindsTo s fd ⟨[v], []⟩ [("script", v)]) ∧ ∀ base : Heap, K.In base → base.Ns mainGlobals mg → FnOk l.prog w K mg base (CXr l.prog w) 4 fa fd ["script"] (spLaw K) := by
  have e := hfa.symm.trans (PySem.W.mg_of KX G a11)
  cases e
  have F0 := fun_mk (st := sCell) l0 c0 k0
  have b0 := F0.binds (ps := ["script", "k"]) fun _ _ _ _ _ _ us hl => match us, hl with | [_, _], _ => rfl
  have m0 := PySem.W.mg_of KX G a0
  have F1 := fun_mk (st := sWithin) l1 c1 k1
  have b1 := F1.binds (ps := ["value", "least", "most"]) fun _ _ _ _ _ _ us hl => match us, hl with | [_, _, _], _ => rfl
  have m1 := PySem.W.mg_of KX G a1
  have F2 := fun_mk (st := sRead) l2 c2 k2
  have b2 := F2.binds (ps := ["text"]) fun _ _ _ _ _ _ us hl => match us, hl with | [_], _ => rfl
  have m2 := PySem.W.mg_of KX G a2
  have F3 := fun_mk (st := sStackRead) l3 c3 k3
  have b3 := F3.binds (ps := ["figures"]) fun _ _ _ _ _ _ us hl => match us, hl with | [_], _ => rfl
  have m3 := PySem.W.mg_of KX G a3
  have F4 := fun_mk (st := sSigns) l4 c4 k4
  have b4 := F4.binds (ps := ["text"]) fun _ _ _ _ _ _ us hl => match us, hl with | [_], _ => rfl
  have m4 := PySem.W.mg_of KX G a4
  have F5 := fun_mk (st := sTwice) l5 c5 k5
  have b5 := F5.binds (ps := ["signs"]) fun _ _ _ _ _ _ us hl => match us, hl with | [_], _ => rfl
  have m5 := PySem.W.mg_of KX G a5
  have F6 := fun_mk (st := sWhole) l6 c6 k6
  have b6 := F6.binds (ps := ["found"]) fun _ _ _ _ _ _ us hl => match us, hl with | [_], _ => rfl
  have m6 := PySem.W.mg_of KX G a6
  have F7 := fun_mk (st := sKind) l7 c7 k7
  have b7 := F7.binds (ps := ["e"]) fun _ _ _ _ _ _ us hl => match us, hl with | [_], _ => rfl
  have m7 := PySem.W.mg_of KX G a7
  have F8 := fun_mk (st := sOne) l8 c8 k8
  have b8 := F8.binds (ps := ["k"]) fun _ _ _ _ _ _ us hl => match us, hl with | [_], _ => rfl
  have m8 := PySem.W.mg_of KX G a8
  have F9 := fun_mk (st := sText) l9 c9 k9
  have b9 := F9.binds (ps := ["script"]) fun _ _ _ _ _ _ us hl => match us, hl with | [_], _ => rfl
  have m9 := PySem.W.mg_of KX G a9
  have F10 := fun_mk (st := sDue) l10 c10 k10
  have b10 := F10.binds (ps := ["text"]) fun _ _ _ _ _ _ us hl => match us, hl with | [_], _ => rfl
  have m10 := PySem.W.mg_of KX G a10
  have F11 := fun_mk (st := sLaw) l11 c11 k11
  have nx : NX (CXr l.prog w) := cxr_no
  have cs : ∀ {x : Str} {v : Value} {z : Str}, PySem.W.nsIn K mainGlobals x = some (some v) → (∃ t, v = .str z t) → ∃ t, mg x = some (.str z t) := fun g ⟨t, e⟩ => ⟨t, by rw [PySem.W.mg_of KX G g, e]⟩
  have ci : ∀ {x : Str} {v : Value} {z : Int}, PySem.W.nsIn K mainGlobals x = some (some v) → (∃ t, v = .int z t) → ∃ t, mg x = some (.int z t) := fun g ⟨t, e⟩ => ⟨t, by rw [PySem.W.mg_of KX G g, e]⟩
  have un : ∀ {x : Str}, PySem.W.nsIn K mainGlobals x = some none → mg x = none := fun z => PySem.W.mg_none_of KX G z
  have mC_CraneError := PySem.W.mg_of KX G aC_CraneError
  have mC_NoFloor := PySem.W.mg_of KX G aC_NoFloor
  have mC_NoStanding := PySem.W.mg_of KX G aC_NoStanding
  have mC_NoLift := PySem.W.mg_of KX G aC_NoLift
  have mC_OtherCrates := PySem.W.mg_of KX G aC_OtherCrates
  have mC_TooMany := PySem.W.mg_of KX G aC_TooMany
  have mC_NoNames := PySem.W.mg_of KX G aC_NoNames
  have mC_NoOrder := PySem.W.mg_of KX G aC_NoOrder
  have mC_BadText := PySem.W.mg_of KX G aC_BadText
  let cl : Nat → Addr := fun i => if i = 0 then C_NoFloor else if i = 1 then C_NoStanding else if i = 2 then C_NoLift else if i = 3 then C_OtherCrates else if i = 4 then C_TooMany else if i = 5 then C_NoNames else if i = 6 then C_NoOrder else C_BadText
  have ET : ErrT K mg cl (fun i => i = 7) := by
    refine ⟨mC_NoFloor, mC_NoStanding, mC_NoLift, mC_OtherCrates, mC_TooMany, mC_NoNames, mC_NoOrder, mC_BadText, un z_ValueError, fun i j hi hj => ?_, fun i hi => ?_, fun i hi => ?_⟩
    · rcases hi with rfl
      · match j, hj with
        | 0, _ => exact xk_BadText_NoFloor
        | 1, _ => exact xk_BadText_NoStanding
        | 2, _ => exact xk_BadText_NoLift
        | 3, _ => exact xk_BadText_OtherCrates
        | 4, _ => exact xk_BadText_TooMany
        | 5, _ => exact xk_BadText_NoNames
        | 6, _ => exact xk_BadText_NoOrder
        | 7, _ => exact xk_BadText_BadText
    · rcases hi with rfl
      · exact xv_BadText
    · rcases hi with rfl
      · exact ⟨⟨xc_BadText, xg_BadText, xt_BadText, xo_BadText, xs_BadText⟩, xi_BadText⟩
  have B : Bm mg := { len := un z_len, range := un z_range, list := un z_list, tuple := un z_tuple, set := un z_set, isi := un z_isinstance, int := un z_int, bool := un z_bool, str := un z_str, all := un z_all, figs := cs g_FIGURES e_FIGURES, slash := cs g_BETWEEN_STACKS e_BETWEEN_STACKS, few := ci g_FEWEST_STACKS e_FEWEST_STACKS, most := ci g_MOST_STACKS e_MOST_STACKS }
  refine ⟨PySem.W.fnOf "law" "law" (defArgs sLaw) (defBody sLaw) (defScope sLaw) .none kV11 dc11 pm11 an11 cd11 ct11, fun s v => .of_eq rfl, fun base KB GB => ?_⟩
  have G0 : FCell l.prog w K mg base (CXr l.prog w) := ok_cell B.toBn F0 m0 b0
  have G1 : FWithin l.prog w K mg base (CXr l.prog w) := ok_within B F1 m1 b1
  have G3 : FStackRead l.prog w K mg base (CXr l.prog w) := ok_stackRead B F3 m3 b3
  have G4 : FSigns l.prog w K mg base (CXr l.prog w) := ok_signs B F4 m4 b4
  have G5 : FTwice l.prog w K mg base (CXr l.prog w) := ok_twice B F5 m5 b5
  have ER : OwnE "BadText" C_BadText mg base := ownE_of KB mC_BadText xe_BadText
  have G2 : FReadX l.prog w K mg base C_BadText := ok_readX B ER G4 G1 G5 G3 F2 m2 b2
  have G6 : FWhole l.prog w K mg base (CXr l.prog w) := ok_whole B F6 m6 b6
  have G7 : FKind l.prog w K mg base (CXr l.prog w) cl (fun i => i = 7) := ok_kind B ET F7 m7 b7
  have G8 : FOne l.prog w K mg base (CXr l.prog w) := ok_one B F8 m8 b8
  have G9 : FText l.prog w K mg base (CXr l.prog w) := ok_text nx B G0 F9 m9 b9
  have G10 : FDue l.prog w K mg base (CXr l.prog w) := ok_due B F10 m10 b10
  have BL : Below2 (cl 7) C_CraneError base := below_of KB xe_BadText xe_CraneError xr_BadText xb_CraneError
  exact ok_law (cl := cl) (raised := fun i => i = 7) rfl mC_CraneError BL B G0 G9 G10 G2 G7 G8 G6 F11
end K
set_option Elab.async false
open PySem PySem.W PyProof.Rows
set_option maxRecDepth 100000 in
set_option maxHeartbeats 0 in
theorem PySem.Challenge.cw_cranefloor_k11_read_holds : PySem.Challenge.rw_cranefloor_k11_read.Holds := by
  w_on; o_law; k_head; (case hw => w_witness2)
  k_fill
  refine Z.lawWalkX (k := 4) (l := PySem.Challenge.rw_cranefloor_k11_read) ⟨rfl, by decide, by decide⟩ rfl rfl (fun w h Y => PySem.W.kIn_of Y) ?F
  case F =>
    intro w mg fa h KX G hmg
    refine' K.all_mk KX G hmg ?a0 ?l0 ?c0 ?k0 ?a1 ?l1 ?c1 ?k1 ?a2 ?l2 ?c2 ?k2 ?a3 ?l3 ?c3 ?k3 ?a4 ?l4 ?c4 ?k4 ?a5 ?l5 ?c5 ?k5 ?a6 ?l6 ?c6 ?k6 ?a7 ?l7 ?c7 ?k7 ?a8 ?l8 ?c8 ?k8 ?a9 ?l9 ?c9 ?k9 ?a10 ?l10 ?c10 ?k10 ?a11 ?l11 ?c11 ?k11 ?aC_CraneError ?aC_NoFloor ?aC_NoStanding ?aC_NoLift ?aC_OtherCrates ?aC_TooMany ?aC_NoNames ?aC_NoOrder ?aC_BadText ?xe_BadText ?xe_CraneError ?xb_CraneError ?nl ?xr_BadText ?xc_BadText ?xg_BadText ?xt_BadText ?xo_BadText ?xs_BadText ?xi_BadText ?xk_BadText_NoFloor ?xk_BadText_NoStanding ?xk_BadText_NoLift ?xk_BadText_OtherCrates ?xk_BadText_TooMany ?xk_BadText_NoNames ?xk_BadText_NoOrder ?xk_BadText_BadText ?xv_BadText ?z_len ?z_range ?z_list ?z_tuple ?z_set ?z_isinstance ?z_int ?z_bool ?z_str ?z_all ?z_ValueError ?g_FEWEST_STACKS ?e_FEWEST_STACKS ?g_MOST_STACKS ?e_MOST_STACKS ?g_FIGURES ?e_FIGURES ?g_BETWEEN_STACKS ?e_BETWEEN_STACKS
    (case a0 => k_is)
    (case l0 => k_is)
    (case c0 => k_is)
    (case k0 => k_is)
    (case a1 => k_is)
    (case l1 => k_is)
    (case c1 => k_is)
    (case k1 => k_is)
    (case a2 => k_is)
    (case l2 => k_is)
    (case c2 => k_is)
    (case k2 => k_is)
    (case a3 => k_is)
    (case l3 => k_is)
    (case c3 => k_is)
    (case k3 => k_is)
    (case a4 => k_is)
    (case l4 => k_is)
    (case c4 => k_is)
    (case k4 => k_is)
    (case a5 => k_is)
    (case l5 => k_is)
    (case c5 => k_is)
    (case k5 => k_is)
    (case a6 => k_is)
    (case l6 => k_is)
    (case c6 => k_is)
    (case k6 => k_is)
    (case a7 => k_is)
    (case l7 => k_is)
    (case c7 => k_is)
    (case k7 => k_is)
    (case a8 => k_is)
    (case l8 => k_is)
    (case c8 => k_is)
    (case k8 => k_is)
    (case a9 => k_is)
    (case l9 => k_is)
    (case c9 => k_is)
    (case k9 => k_is)
    (case a10 => k_is)
    (case l10 => k_is)
    (case c10 => k_is)
    (case k10 => k_is)
    (case a11 => k_is)
    (case l11 => k_is)
    (case c11 => k_is)
    (case k11 => k_is)
    (case aC_CraneError => k_is)
    (case aC_NoFloor => k_is)
    (case aC_NoStanding => k_is)
    (case aC_NoLift => k_is)
    (case aC_OtherCrates => k_is)
    (case aC_TooMany => k_is)
    (case aC_NoNames => k_is)
    (case aC_NoOrder => k_is)
    (case aC_BadText => k_is)
    (case xe_BadText => k_exc)
    (case xe_CraneError => k_exc)
    (case xb_CraneError => k_is)
    (case nl => kernel_rfl)
    (case xr_BadText => k_is)
    (case xc_BadText => k_is)
    (case xg_BadText => k_is)
    (case xt_BadText => k_is)
    (case xo_BadText => k_is)
    (case xs_BadText => k_is)
    (case xi_BadText => kernel_rfl)
    (case xk_BadText_NoFloor => kernel_rfl)
    (case xk_BadText_NoStanding => kernel_rfl)
    (case xk_BadText_NoLift => kernel_rfl)
    (case xk_BadText_OtherCrates => kernel_rfl)
    (case xk_BadText_TooMany => kernel_rfl)
    (case xk_BadText_NoNames => kernel_rfl)
    (case xk_BadText_NoOrder => kernel_rfl)
    (case xk_BadText_BadText => kernel_rfl)
    (case xv_BadText => kernel_rfl)
    (case z_len => k_is)
    (case z_range => k_is)
    (case z_list => k_is)
    (case z_tuple => k_is)
    (case z_set => k_is)
    (case z_isinstance => k_is)
    (case z_int => k_is)
    (case z_bool => k_is)
    (case z_str => k_is)
    (case z_all => k_is)
    (case z_ValueError => k_is)
    (case g_FEWEST_STACKS => k_is)
    (case e_FEWEST_STACKS => exact ⟨_, rfl⟩)
    (case g_MOST_STACKS => k_is)
    (case e_MOST_STACKS => exact ⟨_, rfl⟩)
    (case g_FIGURES => k_is)
    (case e_FIGURES => exact ⟨_, congrArg (fun z => Value.str z _) (by decide +kernel)⟩)
    (case g_BETWEEN_STACKS => k_is)
    (case e_BETWEEN_STACKS => exact ⟨_, congrArg (fun z => Value.str z _) (by decide +kernel)⟩)
