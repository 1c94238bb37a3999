import PyProof.Rows.All
import Wide.All
import OpenK.AllK
import Wide.FinOn
import Lean
import PyProof.EqAt
import PyProof.EqKinds
import PyProof.TupleCall
import PySem.Challenge.RW_hingedraw_k31_linkages_looked_at
set_option Elab.async false
set_option linter.all false
set_option maxRecDepth 100000
set_option Elab.async false
set_option linter.all false
set_option maxRecDepth 100000
/-! THE HAND LAYER, for ints, bools, texts, own classes, LISTS and tuples (index, slices, in, append, pop ..), calls, loops. Paste it whole ahead of your own text; what your proof does not reach may be deleted. -/
namespace L2
open PySem PySem.Spec PyProof.Rows

/-- a key: an int or a str -/
abbrev Key := Sum Int Str
def keyIs : Key → Value → Bool
  | .inl k, v => Value.isInt k v
  | .inr x, v => Value.isStrOf x v
def keyH (w : World) : Key → Int
  | .inl k => hashInt k
  | .inr x => hashStr w x
theorem keyIs_shape : ∀ {k : Key} {v : Value}, keyIs k v = true → (∃ i t, k = Sum.inl i ∧ v = Value.int i t) ∨ (∃ x t, k = Sum.inr x ∧ v = Value.str x t)
  | .inl i, v, h => by
    obtain ⟨t, e⟩ := Value.isInt_shape (k := i) (v := v) h
    exact .inl ⟨i, t, rfl, e⟩
  | .inr x, v, h => by
    obtain ⟨t, e⟩ := Value.isStrOf_shape (x := x) (v := v) h
    exact .inr ⟨x, t, rfl, e⟩
theorem key_ll (a b : Int) : decide ((Sum.inl a : Key) = Sum.inl b) = (a == b) := by
  by_cases e : a = b
  · subst e; simp
  · have h : ¬ (Sum.inl a : Key) = Sum.inl b := fun q => e (Sum.inl.inj q)
    rw [decide_eq_false h]
    exact (beq_eq_false_iff_ne.mpr e).symm
theorem key_rr (a b : Str) : decide ((Sum.inr a : Key) = Sum.inr b) = decide (a = b) := by
  by_cases e : a = b
  · subst e; simp
  · have h : ¬ (Sum.inr a : Key) = Sum.inr b := fun q => e (Sum.inr.inj q)
    rw [decide_eq_false h, decide_eq_false e]
theorem key_lr (a : Int) (b : Str) : decide ((Sum.inl a : Key) = Sum.inr b) = false := decide_eq_false (fun q => nomatch q)
theorem key_rl (a : Str) (b : Int) : decide ((Sum.inr a : Key) = Sum.inl b) = false := decide_eq_false (fun q => nomatch q)

def mixKind (prog : Program) (w : World) : PySem.KeyKind prog w Key where
  is := keyIs
  hash := keyH w
  inj := fun v a b ha hb => by
    rcases keyIs_shape ha with ⟨i, t, rfl, rfl⟩ | ⟨x, t, rfl, rfl⟩
    · rcases keyIs_shape hb with ⟨j, u, rfl, e⟩ | ⟨y, u, rfl, e⟩
      · injection e with e1 _; rw [e1]
      · exact nomatch e
    · rcases keyIs_shape hb with ⟨j, u, rfl, e⟩ | ⟨y, u, rfl, e⟩
      · exact nomatch e
      · injection e with e1 _; rw [e1]
  byValue := fun k v h => by
    rcases keyIs_shape h with ⟨i, t, rfl, rfl⟩ | ⟨x, t, rfl, rfl⟩ <;> rfl
  pyHash := fun hv h => by
    rcases keyIs_shape hv with ⟨i, t, rfl, rfl⟩ | ⟨x, t, rfl, rfl⟩
    · exact wpAny_pyHash_int h
    · exact wpAny_pyHash_str h
  eqBool := fun hu hv h => by
    rcases keyIs_shape hu with ⟨i, t, rfl, rfl⟩ | ⟨x, t, rfl, rfl⟩
    · rcases keyIs_shape hv with ⟨j, u, rfl, rfl⟩ | ⟨y, u, rfl, rfl⟩
      · rw [key_ll] at h; exact wpAny_eqBool_int h
      · rw [key_lr] at h; exact SeqAt.EqAt.int_str i t y u _ _ _ _ h
    · rcases keyIs_shape hv with ⟨j, u, rfl, rfl⟩ | ⟨y, u, rfl, rfl⟩
      · rw [key_rl] at h; exact SeqAt.EqAt.str_int x t j u _ _ _ _ h
      · rw [key_rr] at h; exact wpAny_eqBool_str h
  «strs» := fun k x t v h => by
    rcases keyIs_shape h with ⟨i, u, rfl, e⟩ | ⟨y, u, rfl, e⟩
    · exact nomatch e
    · injection e with e1 _
      subst e1
      cases v <;> rfl

end L2

namespace L2
open PySem PySem.Spec PyProof.Rows

/-- a value, without the heap -/
inductive V where
  | non | bl (b : Bool) | int (i : Int) | str (x : Str) | byt (b : Array UInt8) | flt (b : UInt64) | ref (a : Addr) | ty (n : String)
  deriving DecidableEq

def RelV : V → Value → Prop
  | .non, u => u = Value.none
  | .bl b, u => u = Value.bool b
  | .int i, u => ∃ t, u = Value.int i t
  | .str x, u => ∃ t, u = Value.str x t
  | .byt b, u => ∃ t, u = Value.bytes b t
  | .flt b, u => ∃ t, u = Value.float b t
  | .ref a, u => u = Value.ref a
  | .ty n, u => u = Value.type n

abbrev Vals : List V → List Value → Prop := Paired RelV
theorem Vals.length {xs : List V} {us : List Value} (r : Vals xs us) : xs.length = us.length := Paired.length r
theorem Vals.get : ∀ {xs : List V} {us : List Value} {i : Nat} {x : V}, Vals xs us → xs[i]? = some x → ∃ u, us[i]? = some u ∧ RelV x u
  | _, _, _, _, .nil, e => by simp at e
  | _, _, 0, _, .cons r _, e => by simp at e; subst e; exact ⟨_, rfl, r⟩
  | _, _, i + 1, x, .cons _ t, e => by
    obtain ⟨u, h1, h2⟩ := Vals.get (i := i) (x := x) t (by simpa using e)
    exact ⟨u, by simpa using h1, h2⟩
theorem Vals.set {x : V} {u : Value} (r : RelV x u) : ∀ {xs : List V} {us : List Value} (i : Nat), Vals xs us → Vals (xs.set i x) (us.set i u)
  | _, _, _, .nil => .nil
  | _, _, 0, .cons _ t => .cons r t
  | _, _, i + 1, .cons q t => .cons q (Vals.set r i t)
theorem Vals.append : ∀ {xs ys : List V} {us ws : List Value}, Vals xs us → Vals ys ws → Vals (xs ++ ys) (us ++ ws)
  | _, _, _, _, .nil, s => s
  | _, _, _, _, .cons r t, s => .cons r (Vals.append t s)
theorem Vals.take : ∀ {xs : List V} {us : List Value} (n : Nat), Vals xs us → Vals (xs.take n) (us.take n)
  | _, _, 0, _ => .nil
  | _, _, _ + 1, .nil => .nil
  | _, _, n + 1, .cons r t => .cons r (Vals.take n t)
theorem Vals.drop : ∀ {xs : List V} {us : List Value} (n : Nat), Vals xs us → Vals (xs.drop n) (us.drop n)
  | _, _, 0, r => r
  | _, _, _ + 1, .nil => .nil
  | _, _, n + 1, .cons _ t => Vals.drop n t

def RelO : Option V → Option Value → Prop
  | some v, some u => RelV v u
  | none, none => True
  | _, _ => False
def KV {κ : Type} : List (κ × V) → List (κ × Value) → Prop := Paired fun (p : κ × V) (q : κ × Value) => p.1 = q.1 ∧ RelV p.2 q.2

/-- a key of a dict (00_mix): an int or a text -/
def kV : Key → V
  | .inl i => .int i
  | .inr x => .str x

/-- what stands at a tracked address -/
inductive HO where
  /-- a list -/
  | lst (xs : List V)
  /-- a tuple (never changes) -/
  | tup (xs : List V)
  /-- a dict whose keys are ints and texts; one whose keys are tuples of ints and texts (the empty one is both) -/
  | dK (kvs : List (Key × V)) | dT (kvs : List (List Key × V))
  /-- a set of ints: its members, its size -/
  | set (S : Int → Bool) (n : Nat)
  /-- an instance of the class at C, its dict at dx, its attributes -/
  | ins (C dx : Addr) (fs : List (Str × V))
  /-- the dict of the instance at x -/
  | own (x : Addr)
  /-- the dict of an exception -/
  | xd (fs : List (Str × V))
  /-- a bound method, f of x -/
  | met (f x : Addr)
  /-- a range object lo, lo + 1, .. below hi -/
  | rng (lo hi : Int)
  /-- a thing that is known to the object (the script; a dict while a loop walks it): read, never written while it is so -/
  | frz (o : Obj) (u : HO)
  /-- a code object's table -/
  | tbl (ps : Array Value)
  /-- any other thing, by what is true of its one object (a def of one's own: SetO a S n := HO.ext fun h => ..) -/
  | ext (φ : Heap → Prop)

abbrev Hp := Addr → Option HO
def upd (H : Hp) (a : Addr) (o : HO) : Hp := fun b => if b = a then some o else H b
theorem upd_same {H : Hp} {a : Addr} {o : HO} : upd H a o a = some o := by unfold upd; rw [if_pos rfl]
theorem upd_ne {H : Hp} {a b : Addr} {o : HO} (h : b ≠ a) : upd H a o b = H b := by unfold upd; rw [if_neg h]
theorem ne_of_none {H : Hp} {a b : Addr} {o : HO} (h : H a = some o) (h' : H b = none) : a ≠ b := by
  intro e; subst e; rw [h] at h'; cases h'

section
variable (P : Program) (w : World)
def ObjOk (H : Hp) (h : Heap) (a : Addr) : HO → Prop
  | .lst xs => xs.length ≤ sizeLine ∧ ∃ (its : List Value) (n : Nat), Vals xs its ∧ h.get? a = some { cls := .type "list", data := .seq its.toArray n }
  | .tup xs => xs.length ≤ sizeLine ∧ ∃ its : List Value, Vals xs its ∧ IsTup h a its.toArray
  | .dK kvs => kvs.length ≤ sizeLine ∧ (a == sysModules) = false ∧ ∃ vs, KV kvs vs ∧ h.DictOf (mixKind P w) a vs
  | .dT kvs => kvs.length ≤ sizeLine ∧ (a == sysModules) = false ∧ ∃ xs : List (List Key × Addr × Value),
      Paired (fun (p : List Key × V) (q : List Key × Addr × Value) => p.1 = q.1 ∧ H q.2.1 = some (.tup (p.1.map kV)) ∧ RelV p.2 q.2.2) kvs xs ∧
      ∃ o es ep, h.get? a = some o ∧ o.ExactDict ∧ o.data = .dict es ep ∧ es.toList = xs.map (entryOfKey (tupleKind (mixKind P w))) ∧ (xs.map (·.1)).Nodup
  | .set S n => h.SetOf (intKind P w) a S n
  | .ins C dx fs => H dx = some (.own a) ∧ fs.length ≤ 1000 ∧ dx ≠ a ∧ h.get? a = some (PySem.W.instObj C dx) ∧
      ∃ mA, h.Ns1 dx mA ∧ (∀ f, RelO (fs.lookup f) (mA f)) ∧ PySem.Within mA (fs.map (·.1))
  | .own _ => ∃ o, h.get? a = some o
  | .xd fs => ∃ mA, h.Ns1 a mA ∧ ∀ f, RelO (fs.lookup f) (mA f)
  | .rng lo hi => ∃ t u v, h.get? a = some { cls := .type "range", data := .fields #[.int lo t, .int hi u, .int 1 v] }
  | .frz o u => h.get? a = some o ∧ ObjOk H h a u
  | .tbl ps => h.get? a = some { cls := .none, data := .fields ps }
  | .met f x => h.get? a = some (PySem.W.methodObj (.ref f) (.ref x))
  | .ext φ => φ h ∧ (∃ o, h.get? a = some o) ∧ ∀ h1 h2 : Heap, φ h1 → (∀ o, h1.get? a = some o → h2.get? a = some o) → φ h2
/-- the abstract heap is held -/
def HOk (H : Hp) (h : Heap) : Prop := ∀ a o, H a = some o → ObjOk P w H h a o
end

section
variable {P : Program} {w : World} {H H' : Hp} {h h' : Heap} {a : Addr} {o : HO}
theorem ObjOk.lt (x : ObjOk P w H h a o) : a < h.objs.size := by
  cases o with
  | lst xs => obtain ⟨_, _, _, _, e⟩ := x; exact Heap.lt_size e
  | tup xs => obtain ⟨_, _, _, p⟩ := x; exact p.lt
  | dK kvs => obtain ⟨_, _, _, _, o, _, _, e, _⟩ := x; exact Heap.lt_size e
  | dT kvs => obtain ⟨_, _, _, _, o, _, _, e, _⟩ := x; exact Heap.lt_size e
  | set S n => obtain ⟨o, _, _, _, e, _⟩ := x; exact Heap.lt_size e
  | ins C dx fs => obtain ⟨_, _, _, e, _⟩ := x; exact Heap.lt_size e
  | own y => obtain ⟨_, e⟩ := x; exact Heap.lt_size e
  | xd fs => obtain ⟨_, ⟨_, _, _, e, _⟩, _⟩ := x; exact Heap.lt_size e
  | rng lo hi => obtain ⟨_, _, _, e⟩ := x; exact Heap.lt_size e
  | frz ob u => obtain ⟨e, _⟩ := x; exact Heap.lt_size e
  | tbl ps => exact Heap.lt_size (show h.get? a = some _ from x)
  | met f y => exact Heap.lt_size (show h.get? a = some _ from x)
  | ext φ => obtain ⟨_, ⟨_, e⟩, _⟩ := x; exact Heap.lt_size e
theorem Paired.mapP {α β : Type} {F G : α → β → Prop} : ∀ {l₁ : List α} {l₂ : List β}, Paired F l₁ l₂ → (∀ a b, F a b → G a b) → Paired G l₁ l₂
  | _, _, .nil, _ => .nil
  | _, _, .cons r t, f => .cons (f _ _ r) (Paired.mapP t f)
/-- what an object's description leans on: its own object, its own dict, the tuples -/
theorem ObjOk.stay (x : ObjOk P w H h a o) (k : ∀ b u, (b = a ∨ H b = some (.own a)) → h.get? b = some u → h'.get? b = some u)
    (ho : ∀ b, H b = some (.own a) → H' b = some (.own a)) (ht : ∀ b xs, H b = some (.tup xs) → H' b = some (.tup xs)) : ObjOk P w H' h' a o := by
  induction o with
  | lst xs => obtain ⟨z, its, n, r, e⟩ := x; exact ⟨z, its, n, r, k _ _ (.inl rfl) e⟩
  | tup xs => obtain ⟨z, its, r, ob, e, c⟩ := x; exact ⟨z, its, r, ob, k _ _ (.inl rfl) e, c⟩
  | dK kvs => obtain ⟨z, y, vs, r, ob, es, ep, e, c⟩ := x; exact ⟨z, y, vs, r, ob, es, ep, k _ _ (.inl rfl) e, c⟩
  | dT kvs =>
    obtain ⟨z, y, xs, r, ob, es, ep, e, c⟩ := x
    exact ⟨z, y, xs, Paired.mapP r fun p q z => ⟨z.1, ht _ _ z.2.1, z.2.2⟩, ob, es, ep, k _ _ (.inl rfl) e, c⟩
  | set S n => obtain ⟨ob, es, ep, t, e, c⟩ := x; exact ⟨ob, es, ep, t, k _ _ (.inl rfl) e, c⟩
  | ins C dx fs =>
    obtain ⟨d, z, ne, e, mA, ⟨od, es, ep, e2, c⟩, r⟩ := x
    exact ⟨ho _ d, z, ne, k _ _ (.inl rfl) e, mA, ⟨od, es, ep, k _ _ (.inr d) e2, c⟩, r⟩
  | own y => obtain ⟨ob, e⟩ := x; exact ⟨ob, k _ _ (.inl rfl) e⟩
  | xd fs => obtain ⟨mA, ⟨od, es, ep, e, c⟩, r⟩ := x; exact ⟨mA, ⟨od, es, ep, k _ _ (.inl rfl) e, c⟩, r⟩
  | rng lo hi => obtain ⟨t, u, v, e⟩ := x; exact ⟨t, u, v, k _ _ (.inl rfl) e⟩
  | frz ob u ih => obtain ⟨e, q⟩ := x; exact ⟨k _ _ (.inl rfl) e, ih q⟩
  | tbl ps =>
    have e : h.get? a = some { cls := .none, data := .fields ps } := x
    show h'.get? a = some { cls := .none, data := .fields ps }
    exact k a _ (.inl rfl) e
  | met f y =>
    have e : h.get? a = some (PySem.W.methodObj (.ref f) (.ref y)) := x
    show h'.get? a = some (PySem.W.methodObj (.ref f) (.ref y))
    exact k a _ (.inl rfl) e
  | ext φ => obtain ⟨p, ⟨o, e⟩, st⟩ := x; exact ⟨st _ _ p fun o q => k _ _ (.inl rfl) q, ⟨o, k _ _ (.inl rfl) e⟩, st⟩
theorem HOk.lt (x : HOk P w H h) (e : H a = some o) : a < h.objs.size := (x a o e).lt
theorem HOk.fresh (x : HOk P w H h) (e : h.objs.size ≤ a) : H a = none := by
  cases q : H a with
  | none => rfl
  | some u => exact absurd (Nat.lt_of_lt_of_le (x.lt q) e) (Nat.lt_irrefl _)
/-- every object of the heap is kept -/
theorem HOk.kept (x : HOk P w H h) (k : ∀ b u, h.get? b = some u → h'.get? b = some u) : HOk P w H h' := fun a o e =>
  (x a o e).stay (fun b u _ q => k b u q) (fun _ q => q) fun _ _ q => q
/-- a new object is laid and tracked -/
theorem HOk.laid (x : HOk P w H h) (k : ∀ b u, h.get? b = some u → h'.get? b = some u) (hp : h.objs.size ≤ a) (new : ObjOk P w (upd H a o) h' a o) : HOk P w (upd H a o) h' := fun b u e => by
  have hn := x.fresh hp
  by_cases hb : b = a
  · subst hb; rw [upd_same] at e; cases e; exact new
  · rw [upd_ne hb] at e
    exact (x b u e).stay (fun c v _ q => k c v q) (fun c q => by rw [upd_ne (ne_of_none q hn)]; exact q) fun c xs q => by rw [upd_ne (ne_of_none q hn)]; exact q
end

/-- what may be read as u: it is u, or a known u -/
def Rd (H : Hp) (a : Addr) (u : HO) : Prop := H a = some u ∨ ∃ o, H a = some (.frz o u)
theorem Rd.ok {P : Program} {w : World} {H : Hp} {h : Heap} {a : Addr} {u : HO} (r : Rd H a u) (x : HOk P w H h) : ObjOk P w H h a u := by
  rcases r with r | ⟨o, r⟩
  · exact x a u r
  · obtain ⟨_, q⟩ := x a _ r
    exact q
/-- what may be written -/
def Mut : Option HO → Prop
  | some (.lst _) => True
  | some (.dK _) => True
  | some (.dT _) => True
  | some (.set _ _) => True
  | some (.ins _ _ _) => True
  | some (.ext _) => True
  | _ => False
section
variable {P : Program} {w : World} {H : Hp} {h h' : Heap} {x e : Addr} {o' : HO}
/-- the object at e is changed: x itself, or the dict of the instance x -/
theorem HOk.write (ok : HOk P w H h) (mu : Mut (H x)) (he : e = x ∨ H e = some (.own x)) (k : ∀ b u, b ≠ e → h.get? b = some u → h'.get? b = some u) (heo : ∃ u, h'.get? e = some u)
    (new : ObjOk P w (upd H x o') h' x o') : HOk P w (upd H x o') h' := fun b u q => by
  have nown : ∀ c y, H c = some (.own y) → c ≠ x := fun c y r z => by subst z; rw [r] at mu; exact mu
  have ntup : ∀ c xs, H c = some (.tup xs) → c ≠ x := fun c xs r z => by subst z; rw [r] at mu; exact mu
  by_cases hb : b = x
  · subst hb; rw [upd_same] at q; cases q; exact new
  · rw [upd_ne hb] at q
    by_cases hbe : b = e
    · have q' : H b = some (.own x) := by
        rcases he with z | z
        · exact absurd (hbe.trans z) hb
        · rw [hbe]; exact z
      rw [q] at q'; cases q'
      obtain ⟨v, hv⟩ := heo
      exact ⟨v, by rw [hbe]; exact hv⟩
    · refine (ok b u q).stay (fun c v hc r => k c v ?_ r) (fun c r => by rw [upd_ne (nown c b r)]; exact r) fun c xs r => by rw [upd_ne (ntup c xs r)]; exact r
      rcases hc with rfl | hc
      · exact hbe
      · rintro rfl
        rcases he with z | z
        · exact nown c b hc z
        · rw [hc] at z; cases z; exact hb rfl
end

/-! ### kept unless tracked; of the frames at fs (the callers') the slots may change (an exception that passes writes there); of the records at ex (iterators) nothing is said -/
structure Un (fs ex : List Addr) (H H' : Hp) (h h' : Heap) : Prop where
  keep : ∀ b o, h.get? b = some o → H b = none → b ∉ fs → b ∉ ex → h'.get? b = some o
  slot : ∀ b o, h.get? b = some o → H b = none → b ∈ fs → b ∉ ex → ∃ sl, h'.get? b = some { o with slots := sl }
  free : ∀ b o, h.get? b = some o → H b = none → b ∉ ex → H' b = none
  there : ∀ b o, h.get? b = some o → b ∉ ex → ∃ o', h'.get? b = some o'
  tups : ∀ b xs, H b = some (.tup xs) → H' b = some (.tup xs)
  frzs : ∀ b o u, H b = some (.frz o u) → H' b = some (.frz o u)
  tbls : ∀ b ps, H b = some (.tbl ps) → ∃ more, H' b = some (.tbl (ps ++ more))
section
variable {fs fs' ex ex' : List Addr} {H H1 H2 : Hp} {h h1 h2 h' : Heap} {a x e : Addr} {o : HO}
theorem Un.any (u : Un fs ex H H1 h h1) {b : Addr} {ob : Obj} (q : h.get? b = some ob) (n : H b = none) (hx : b ∉ ex) : ∃ sl, h1.get? b = some { ob with slots := sl } := by
  by_cases hb : b ∈ fs
  · exact u.slot b ob q n hb hx
  · exact ⟨ob.slots, u.keep b ob q n hb hx⟩
theorem Un.trans (a : Un fs ex H H1 h h1) (b : Un fs ex H1 H2 h1 h2) : Un fs ex H H2 h h2 where
  keep := fun c ob q n hc hx => b.keep c ob (a.keep c ob q n hc hx) (a.free c ob q n hx) hc hx
  slot := fun c ob q n hc hx => by
    obtain ⟨sl, e1⟩ := a.slot c ob q n hc hx
    obtain ⟨sl', e2⟩ := b.slot c _ e1 (a.free c ob q n hx) hc hx
    exact ⟨sl', e2⟩
  free := fun c ob q n hx => by
    obtain ⟨o', e1⟩ := a.there c ob q hx
    exact b.free c o' e1 (a.free c ob q n hx) hx
  there := fun c ob q hx => by
    obtain ⟨o', e1⟩ := a.there c ob q hx
    exact b.there c o' e1 hx
  tups := fun c xs q => b.tups c xs (a.tups c xs q)
  frzs := fun c ob xs q => b.frzs c ob xs (a.frzs c ob xs q)
  tbls := fun c ps q => by
    obtain ⟨m1, e1⟩ := a.tbls c ps q
    obtain ⟨m2, e2⟩ := b.tbls c _ e1
    exact ⟨m1 ++ m2, by rw [e2, Array.append_assoc]⟩
theorem Un.kept (k : ∀ b u, h.get? b = some u → h'.get? b = some u) : Un fs ex H H h h' :=
  ⟨fun b ob q _ _ _ => k b ob q, fun b ob q _ _ _ => ⟨ob.slots, k b ob q⟩, fun _ _ _ n _ => n, fun b ob q _ => ⟨ob, k b ob q⟩, fun _ _ q => q, fun _ _ _ q => q, fun _ ps q => ⟨#[], by rw [q]; simp⟩⟩
theorem Un.refl : Un fs ex H H h h := Un.kept fun _ _ q => q
theorem Un.laid (k : ∀ b u, h.get? b = some u → h'.get? b = some u) (hp : h.objs.size ≤ a) (hn : H a = none) : Un fs ex H (upd H a o) h h' where
  keep := fun b u q _ _ _ => k b u q
  slot := fun b u q _ _ _ => ⟨u.slots, k b u q⟩
  free := fun b u q n _ => by rw [upd_ne (Nat.ne_of_lt (Nat.lt_of_lt_of_le (Heap.lt_size q) hp))]; exact n
  there := fun b u q _ => ⟨u, k b u q⟩
  tups := fun b xs q => by rw [upd_ne (ne_of_none q hn)]; exact q
  frzs := fun b u xs q => by rw [upd_ne (ne_of_none q hn)]; exact q
  tbls := fun b ps q => ⟨#[], by rw [upd_ne (ne_of_none q hn), q]; simp⟩
theorem Un.write (mu : Mut (H x)) (he : e = x ∨ H e = some (.own x)) (k : ∀ b u, b ≠ e → h.get? b = some u → h'.get? b = some u) (heo : ∃ u, h'.get? e = some u) : Un fs ex H (upd H x o) h h' := by
  have hx : ∀ b, H b = none → b ≠ x := fun b n z => by subst z; rw [n] at mu; exact mu
  have hb : ∀ b, H b = none → b ≠ e := fun b n z => by
    subst z
    rcases he with r | r
    · exact hx b n r
    · rw [n] at r; cases r
  have hm : ∀ b u, H b = some u → ¬ Mut (some u) → b ≠ x := fun b u q nm z => by subst z; rw [q] at mu; exact nm mu
  refine ⟨fun b u q n _ _ => k b u (hb b n) q, fun b u q n _ _ => ⟨u.slots, k b u (hb b n) q⟩, fun b u q n _ => by rw [upd_ne (hx b n)]; exact n, fun b u q _ => ?_,
    fun b xs q => by rw [upd_ne (hm b _ q fun z => z)]; exact q, fun b u xs q => by rw [upd_ne (hm b _ q fun z => z)]; exact q, fun b ps q => ⟨#[], by rw [upd_ne (hm b _ q fun z => z), q]; simp⟩⟩
  by_cases hbe : b = e
  · subst hbe; exact heo
  · exact ⟨u, k b u hbe q⟩
end

/-! ### the heap without what is tracked -/
def trk (h : Heap) (H : Hp) : List Addr := (List.range h.objs.size).filter fun a => (H a).isSome
def hidT (h : Heap) (H : Hp) : Heap := PySem.W.hideAll h (trk h H)
theorem hidT_size (h : Heap) (H : Hp) : (hidT h H).objs.size = h.objs.size := PySem.W.hideAll_size _ _
theorem hidT_get {h : Heap} {H : Hp} {b : Addr} {o : Obj} (e : h.get? b = some o) (n : H b = none) : (hidT h H).get? b = some o :=
  PySem.W.hideAll_get _ e fun hm => by
    have q : (H b).isSome = true := (List.mem_filter.mp hm).2
    rw [n] at q; simp at q
theorem of_hidT {h : Heap} {H : Hp} {b : Addr} {o : Obj} (e : (hidT h H).get? b = some o) : h.get? b = some o ∧ H b = none := by
  have e' : h.get? b = some o := PySem.W.of_hideAll (trk h H) e
  refine ⟨e', ?_⟩
  cases q : H b with
  | none => rfl
  | some x =>
    have hm : b ∈ trk h H := List.mem_filter.mpr ⟨List.mem_range.mpr (Heap.lt_size e'), by simp [q]⟩
    have z : (hidT h H).get? b = none := PySem.W.hideAll_none (trk h H) hm
    rw [z] at e; cases e

/-! ### OpenK's ledger, filled with every new object but one -/
def allNews (g h : Heap) (L : Addr) : List (Addr × Obj) := (List.range h.objs.size).filterMap fun a => if a = L ∨ (g.get? a).isSome = true then none else (h.get? a).map fun o => (a, o)
def rest (g h : Heap) (L d : Addr) : List (Addr × Obj) := (allNews g h L).filter fun p => decide (p.1 ≠ d)
end L2

namespace L2
open PySem PySem.Spec PyProof.Rows

/-- the module's facts, over the base: the heap at the law's entry without what is tracked there -/
structure Mod (K : PySem.W.Frag) (mg : Str → Option Value) (base : Heap) : Prop where
  kin : K.In base
  glob : base.Ns mainGlobals mg
  blt : ∃ mb, base.Ns builtinsNs mb ∧ ∀ x : Str, x ≠ "__name__" → mb x = bootBuiltins x
  nolimit : base.NoLimit

/-- the context: a def's body (or a comprehension's block) running. base: fixed through the whole law; s₀, H₀: the entry; outer: the frames whose slots others may change (a def's callers); stack: all frames that run;
   ex: iterators that were made ahead of the entry and are walked here (a comprehension's); fn: the names whose cells were made at the entry (a def: all; a comprehension's block: its own); calm: not within an except suite; pn: pins that every state bears; xe: what is wanted of an exception that leaves the code -/
structure Cx where
  prog : Program
  w : World
  K : PySem.W.Frag
  mg : Str → Option Value
  base : Heap
  A : Around
  N : List Str
  s₀ : Shared
  H₀ : Hp
  env : Env
  outer : List Env
  stack : List Env
  ex : List Addr
  fn : Str → Bool
  calm : Bool
  pn : List (Addr × Obj)
  xe : Value → Shared → Prop
/-- the callers' frames -/
def frs (l : List Env) : List Addr := l.filterMap (·.frame)
abbrev Cx.fs (X : Cx) : List Addr := frs X.outer

def Vis (sc : Scope) (x : Str) : Prop := sc.names.lookup x = some .local ∨ sc.names.lookup x = some .cell ∨ sc.names.lookup x = some .free
def Loc (sc : Scope) (x : Str) : Prop := sc.names.lookup x = some .local ∨ sc.names.lookup x = some .cell
def Look (env : Env) (h : Heap) (m : Str → Option Value) (x : Str) (u : Value) : Prop :=
  (env.kindOf x = some .local ∧ m x = some u) ∨ ((env.kindOf x = some .cell ∨ env.kindOf x = some .free) ∧ ∃ c, env.cells.lookup x = some c ∧ h.IsCell c (some u))

structure Cx.Ok (X : Cx) : Prop where
  mod : Mod X.K X.mg X.base
  kind : X.env.scope.kind = .function
  glob : X.env.globals = mainGlobals
  blt : X.env.builtins = builtinsNs
  above : X.s₀.heap.objs.size ≤ X.env.locals
  inj : ∀ x y c, X.env.cells.lookup x = some c → X.env.cells.lookup y = some c → x = y
  has : ∀ x, (X.env.kindOf x = some .cell ∨ X.env.kindOf x = some .free) → ∃ c, X.env.cells.lookup x = some c
  cab : ∀ x c, X.fn x = true → X.env.cells.lookup x = some c → X.s₀.heap.objs.size ≤ c
  hd : X.calm = true → X.A.handled = none
  frames : X.A.frames = some X.stack
  stk : X.stack = X.outer ∨ (X.stack = X.env :: X.outer ∧ X.env.frame = some X.env.locals)
  exf : ∀ b ∈ X.ex, b ≠ X.env.locals ∧ ∀ x c, X.env.cells.lookup x = some c → c ≠ b
  bs : ∀ b o, X.base.get? b = some o → X.s₀.heap.get? b = some o ∧ X.H₀ b = none
  bsz : X.base.objs.size ≤ X.s₀.heap.objs.size
  noex : ∀ b o, X.base.get? b = some o → b ∉ X.ex
  exfs : ∀ b ∈ X.ex, b ∉ X.fs
  funs : X.s₀.heap.FunFrames X.base X.outer
  frf : ∀ b ∈ X.fs, X.H₀ b = none

structure Inv (X : Cx) (pins : List (Addr × Obj)) (σ : List (Option V)) (H : Hp) (s : Shared) : Prop where
  ok : X.Ok
  os : s.os = X.s₀.os
  bare : AllBare s.gens
  base : Un X.fs X.ex X.H₀ H X.s₀.heap s.heap
  loc : ∃ m, s.heap.Ns X.env.locals m ∧ ∀ (i : Nat) (x : Str) (v : V), X.N[i]? = some x → σ[i]? = some (some v) → Vis X.env.scope x → ∃ u, RelV v u ∧ Look X.env s.heap m x u
  cell : ∀ x c, X.env.cells.lookup x = some c → ∃ v, s.heap.IsCell c v
  free : H X.env.locals = none
  freeC : ∀ x c, X.env.cells.lookup x = some c → H c = none
  pin : ∀ p ∈ X.pn ++ pins, s.heap.get? p.1 = some p.2 ∧ H p.1 = none ∧ p.1 ≠ X.env.locals ∧ p.1 ∉ X.fs ∧ ∀ v, p.2.data ≠ .cell v
  hok : HOk X.prog X.w H s.heap
  len : σ.length = X.N.length

section
variable {X : Cx} {pins : List (Addr × Obj)} {σ : List (Option V)} {H H' : Hp} {s : Shared} {h' : Heap}

theorem Cx.Ok.nofr (ok : X.Ok) {b : Addr} {o : Obj} (e : X.base.get? b = some o) : b ∉ X.fs := fun hb => by
  have := (ok.funs.mem hb).1
  rw [e] at this; cases this
theorem Inv.bs (I : Inv X pins σ H s) : ∀ b o, X.base.get? b = some o → s.heap.get? b = some o ∧ H b = none := fun b o e =>
  ⟨I.base.keep b o (I.ok.bs b o e).1 (I.ok.bs b o e).2 (I.ok.nofr e) (I.ok.noex b o e), I.base.free b o (I.ok.bs b o e).1 (I.ok.bs b o e).2 (I.ok.noex b o e)⟩
theorem Inv.bk (I : Inv X pins σ H s) : ∀ b o, X.base.get? b = some o → s.heap.get? b = some o := fun b o e => (I.bs b o e).1
theorem Inv.mod (I : Inv X pins σ H s) : Mod X.K X.mg X.base := I.ok.mod
theorem Inv.kIn (I : Inv X pins σ H s) : X.K.In s.heap := I.ok.mod.kin.keeps I.bk
theorem Inv.lt (I : Inv X pins σ H s) : X.env.locals < s.heap.objs.size := let ⟨_, hn, _⟩ := I.loc; hn.lt
theorem Inv.sz (I : Inv X pins σ H s) : X.s₀.heap.objs.size ≤ s.heap.objs.size := Nat.le_trans I.ok.above (Nat.le_of_lt I.lt)
theorem Inv.nofs (I : Inv X pins σ H s) {a : Addr} (h : s.heap.objs.size ≤ a) : a ∉ X.fs := fun hb => by
  obtain ⟨_, o, ho, _⟩ := I.ok.funs.mem hb
  exact absurd (Nat.lt_of_lt_of_le (Heap.lt_size ho) (Nat.le_trans I.sz h)) (Nat.lt_irrefl _)
theorem Inv.cne (I : Inv X pins σ H s) : ∀ x c, X.env.cells.lookup x = some c → c ≠ X.env.locals := fun x c e z => by
  obtain ⟨v, o, ho, hd⟩ := I.cell x c e
  obtain ⟨m, ⟨o', es, ep, ho', hd', _⟩, _⟩ := I.loc
  rw [z, ho'] at ho; cases ho; rw [hd'] at hd; cases hd
theorem Inv.funs (I : Inv X pins σ H s) : s.heap.FunFrames X.base X.outer := by
  have all : ∀ (l : List Env), (∀ b ∈ frs l, b ∈ X.fs) → X.s₀.heap.FunFrames X.base l → s.heap.FunFrames X.base l := by
    intro l
    induction l with
    | nil => intro _ _; trivial
    | cons env r ih =>
      intro hs hl
      obtain ⟨hk, ⟨L, o, hf, hn, ho, hd⟩, hr⟩ := hl
      have hL : L ∈ X.fs := hs L (by unfold frs; rw [List.filterMap_cons, hf]; exact List.mem_cons_self)
      obtain ⟨sl, e⟩ := I.base.slot L o ho (I.ok.frf L hL) hL fun z => I.ok.exfs L z hL
      exact ⟨hk, ⟨L, _, hf, hn, e, hd⟩, ih (fun b hb => hs b (by unfold frs; rw [List.filterMap_cons, hf]; exact List.mem_cons_of_mem _ hb)) hr⟩
  exact all X.outer (fun _ hb => hb) I.ok.funs

/-- the frames that run, for a call -/
theorem Inv.stack (I : Inv X pins σ H s) : s.heap.FunFrames X.base X.stack := by
  rcases I.ok.stk with e | ⟨e, hf⟩
  · rw [e]; exact I.funs
  · rw [e]
    obtain ⟨m, hn, _⟩ := I.loc
    refine .cons (by rw [I.ok.kind]; decide) hf hn ?_ I.funs
    exact Heap.get?_none_of_le (Nat.le_trans I.ok.bsz I.ok.above)
theorem Inv.stkSub (I : Inv X pins σ H s) : ∀ b ∈ frs X.stack, b ∈ X.env.locals :: X.fs := fun b hb => by
  rcases I.ok.stk with e | ⟨e, hf⟩
  · rw [e] at hb; exact List.mem_cons_of_mem _ hb
  · rw [e] at hb
    unfold frs at hb
    rw [List.filterMap_cons, hf] at hb
    exact hb
theorem Inv.stkFree (I : Inv X pins σ H s) : ∀ b ∈ frs X.stack, H b = none := fun b hb => by
  rcases List.mem_cons.mp (I.stkSub b hb) with e | hb
  · rw [e]; exact I.free
  · obtain ⟨_, o, ho, _⟩ := I.ok.funs.mem hb
    exact I.base.free b o ho (I.ok.frf b hb) fun z => I.ok.exfs b z hb

/-- THE STEP: the untracked objects but the frame and the records at ch are kept (the callers' frames up to slots), the frame's map is kept, the new abstract heap is held -/
theorem Inv.step {g' : Array GenState} {t' : Nat} {d' : Drawn} {ch : List Addr} (I : Inv X pins σ H s)
    (hch : ∀ b ∈ ch, (b ∈ X.ex ∨ X.s₀.heap.objs.size ≤ b) ∧ b ≠ X.env.locals ∧ (∀ x c, X.env.cells.lookup x = some c → c ≠ b) ∧ ∀ p ∈ X.pn ++ pins, p.1 ≠ b)
    (keep : ∀ b o, b ≠ X.env.locals → b ∉ X.fs → b ∉ ch → s.heap.get? b = some o → H b = none → h'.get? b = some o)
    (slot : ∀ b o, b ≠ X.env.locals → b ∈ X.fs → b ∉ ch → s.heap.get? b = some o → H b = none → ∃ sl, h'.get? b = some { o with slots := sl }) (free : ∀ b o, b ∉ ch → s.heap.get? b = some o → H b = none → H' b = none)
    (there : ∀ b o, b ∉ ch → s.heap.get? b = some o → ∃ o', h'.get? b = some o')
    (tups : ∀ b xs, H b = some (.tup xs) → H' b = some (.tup xs)) (frzs : ∀ b o u, H b = some (.frz o u) → H' b = some (.frz o u)) (tbls : ∀ b ps, H b = some (.tbl ps) → ∃ more, H' b = some (.tbl (ps ++ more)))
    (ns : ∀ m, s.heap.Ns X.env.locals m → h'.Ns X.env.locals m) (hok : HOk X.prog X.w H' h') (hg : AllBare g') :
    Inv X pins σ H' { s with heap := h', gens := g', drawn := d', toks := t' } := by
  have neL : ∀ b o, X.s₀.heap.get? b = some o → b ≠ X.env.locals := fun b o e => Nat.ne_of_lt (Nat.lt_of_lt_of_le (Heap.lt_size e) I.ok.above)
  have neC : ∀ b o, X.s₀.heap.get? b = some o → b ∉ X.ex → b ∉ ch := fun b o e hx hb => by
    rcases (hch b hb).1 with z | z
    · exact hx z
    · exact absurd (Nat.lt_of_lt_of_le (Heap.lt_size e) z) (Nat.lt_irrefl _)
  have cellK : ∀ x c, X.env.cells.lookup x = some c → ∀ v, s.heap.IsCell c v → h'.IsCell c v := fun x c e v ⟨o, ho, hd⟩ => by
    have nch : c ∉ ch := fun z => (hch c z).2.2.1 x c e rfl
    by_cases hc : c ∈ X.fs
    · obtain ⟨sl, q⟩ := slot c o (I.cne x c e) hc nch ho (I.freeC x c e)
      exact ⟨_, q, hd⟩
    · exact ⟨o, keep c o (I.cne x c e) hc nch ho (I.freeC x c e), hd⟩
  refine ⟨I.ok, I.os, hg, ⟨fun b o e n hb hx => ?_, fun b o e n hb hx => ?_, fun b o e n hx => ?_, fun b o e hx => ?_, fun b xs e => tups b xs (I.base.tups b xs e), fun b o xs e => frzs b o xs (I.base.frzs b o xs e), fun b ps e => ?_⟩, ?_, fun x c e => ?_, ?_, fun x c e => ?_, fun p hp => ?_, hok, I.len⟩
  · exact keep b o (neL b o e) hb (neC b o e hx) (I.base.keep b o e n hb hx) (I.base.free b o e n hx)
  · obtain ⟨sl, e1⟩ := I.base.slot b o e n hb hx
    obtain ⟨sl', e2⟩ := slot b _ (neL b o e) hb (neC b o e hx) e1 (I.base.free b o e n hx)
    exact ⟨sl', e2⟩
  · obtain ⟨o', e1⟩ := I.base.there b o e hx
    exact free b o' (neC b o e hx) e1 (I.base.free b o e n hx)
  · obtain ⟨o', e1⟩ := I.base.there b o e hx
    exact there b o' (neC b o e hx) e1
  · obtain ⟨m1, e1⟩ := I.base.tbls b ps e
    obtain ⟨m2, e2⟩ := tbls b _ e1
    exact ⟨m1 ++ m2, by rw [e2, Array.append_assoc]⟩
  · obtain ⟨m, hn, hl⟩ := I.loc
    refine ⟨m, ns m hn, fun i x v e1 e2 e3 => ?_⟩
    obtain ⟨u, r, l⟩ := hl i x v e1 e2 e3
    refine ⟨u, r, ?_⟩
    rcases l with l | ⟨k, c, e, z⟩
    · exact .inl l
    · exact .inr ⟨k, c, e, cellK x c e _ z⟩
  · obtain ⟨v, z⟩ := I.cell x c e
    exact ⟨v, cellK x c e v z⟩
  · obtain ⟨m, ⟨o, _, _, ho, _⟩, _⟩ := I.loc
    exact free _ o (fun z => (hch _ z).2.1 rfl) ho I.free
  · obtain ⟨v, o, ho, hd⟩ := I.cell x c e
    exact free c o (fun z => (hch c z).2.2.1 x c e rfl) ho (I.freeC x c e)
  · obtain ⟨e, n, ne, nf, d⟩ := I.pin p hp
    have nch : p.1 ∉ ch := fun z => (hch p.1 z).2.2.2 p hp rfl
    exact ⟨keep p.1 p.2 ne nf nch e n, free p.1 p.2 nch e n, ne, nf, d⟩
/-- .. where the frame's own object is kept too -/
theorem Inv.un {t' : Nat} (I : Inv X pins σ H s) (u : Un X.fs [] H H' s.heap h') (hok : HOk X.prog X.w H' h') : Inv X pins σ H' { s with heap := h', toks := t' } := by
  obtain ⟨m, ⟨o, es, ep, ho, r⟩, _⟩ := id I.loc
  obtain ⟨sl, hL⟩ := u.any ho I.free (by simp)
  exact I.step (g' := s.gens) (d' := s.drawn) (ch := []) (fun _ z => nomatch z) (fun b o _ hb _ e n => u.keep b o e n hb (by simp)) (fun b o _ hb _ e n => u.slot b o e n hb (by simp)) (fun b o _ e n => u.free b o e n (by simp)) (fun b o _ e => u.there b o e (by simp)) u.tups u.frzs u.tbls (fun m' hm => by
    obtain ⟨o', es', ep', ho', r'⟩ := hm
    rw [ho] at ho'; cases ho'
    exact ⟨_, es', ep', hL, r'⟩) hok I.bare
/-- behind a call (or a comprehension's block): the slots of this frame may have changed too, the records at ch may have turned -/
theorem Inv.call {g' : Array GenState} {t' : Nat} {d' : Drawn} {ch : List Addr} (I : Inv X pins σ H s) (u : Un (frs X.stack) ch H H' s.heap h') (hok : HOk X.prog X.w H' h') (hg : AllBare g')
    (hch : ∀ b ∈ ch, (b ∈ X.ex ∨ X.s₀.heap.objs.size ≤ b) ∧ b ≠ X.env.locals ∧ (∀ x c, X.env.cells.lookup x = some c → c ≠ b) ∧ ∀ p ∈ X.pn ++ pins, p.1 ≠ b) :
    Inv X pins σ H' { s with heap := h', gens := g', drawn := d', toks := t' } := by
  obtain ⟨m, ⟨o, es, ep, ho, r⟩, _⟩ := id I.loc
  obtain ⟨sl, hL⟩ := u.any ho I.free fun z => (hch _ z).2.1 rfl
  exact I.step (ch := ch) hch (fun b o hL hb hc e n => u.keep b o e n (fun z => (List.mem_cons.mp (I.stkSub b z)).elim hL hb) hc) (fun b o _ _ hc e n => u.any e n hc) (fun b o hc e n => u.free b o e n hc) (fun b o hc e => u.there b o e hc) u.tups u.frzs u.tbls (fun m' hm => by
    obtain ⟨o', es', ep', ho', r'⟩ := hm
    rw [ho] at ho'; cases ho'
    exact ⟨_, es', ep', hL, r'⟩) hok hg
/-- an untracked record of ours (an iterator) has turned -/
theorem Inv.turned {t' : Nat} {it : Addr} (I : Inv X pins σ H s) (k : ∀ b o, b ≠ it → s.heap.get? b = some o → h'.get? b = some o) (hn : H it = none) (hL : it ≠ X.env.locals)
    (h1 : it ∈ X.ex ∨ X.s₀.heap.objs.size ≤ it) (h2 : ∀ x c, X.env.cells.lookup x = some c → c ≠ it) (h3 : ∀ p ∈ X.pn ++ pins, p.1 ≠ it) : Inv X pins σ H { s with heap := h', toks := t' } := by
  have nit : ∀ b u, H b = some u → b ≠ it := fun b u e z => by rw [z, hn] at e; cases e
  refine I.step (g' := s.gens) (d' := s.drawn) (ch := [it]) (fun b hb => ?_) (fun b o _ _ hc e _ => k b o (fun z => hc (by simp [z])) e) (fun b o _ _ hc e _ => ⟨o.slots, k b o (fun z => hc (by simp [z])) e⟩) (fun _ _ _ _ n => n)
    (fun b o hc e => ⟨o, k b o (fun z => hc (by simp [z])) e⟩) (fun _ _ e => e) (fun _ _ _ e => e) (fun b ps e => ⟨#[], by rw [e]; simp⟩) (fun m hm => ?_) (fun b u e => ?_) I.bare
  · have e : b = it := by simpa using hb
    subst e
    exact ⟨h1, hL, h2, h3⟩
  · obtain ⟨o, es, ep, ho, r⟩ := hm
    exact ⟨o, es, ep, k _ o (Ne.symm hL) ho, r⟩
  · refine (I.hok b u e).stay (fun c v hc q => k c v ?_ q) (fun _ q => q) fun _ _ q => q
    rcases hc with z | z
    · rw [z]; exact nit b u e
    · exact nit c _ z
theorem Inv.tok (I : Inv X pins σ H s) (t : Nat) : Inv X pins σ H { s with toks := t } := I.un (h' := s.heap) (t' := t) Un.refl I.hok
/-- all objects kept -/
theorem Inv.kept {t' : Nat} (I : Inv X pins σ H s) (k : ∀ b u, s.heap.get? b = some u → h'.get? b = some u) : Inv X pins σ H { s with heap := h', toks := t' } := I.un (Un.kept k) (I.hok.kept k)
/-- a new object laid and tracked -/
theorem Inv.laid {a : Addr} {o : HO} {t' : Nat} (I : Inv X pins σ H s) (k : ∀ b u, s.heap.get? b = some u → h'.get? b = some u) (hp : s.heap.objs.size ≤ a) (new : ObjOk X.prog X.w (upd H a o) h' a o) :
    Inv X pins σ (upd H a o) { s with heap := h', toks := t' } := I.un (Un.laid k hp (I.hok.fresh hp)) (I.hok.laid k hp new)
/-- an object written -/
theorem Inv.write {x e : Addr} {o : HO} {t' : Nat} (I : Inv X pins σ H s) (mu : Mut (H x)) (he : e = x ∨ H e = some (.own x)) (k : ∀ b u, b ≠ e → s.heap.get? b = some u → h'.get? b = some u) (heo : ∃ u, h'.get? e = some u)
    (new : ObjOk X.prog X.w (upd H x o) h' x o) : Inv X pins σ (upd H x o) { s with heap := h', toks := t' } := I.un (Un.write mu he k heo) (I.hok.write mu he k heo new)
theorem Inv.pins_of {pins' : List (Addr × Obj)} (I : Inv X pins σ H s) (h : ∀ p ∈ pins', s.heap.get? p.1 = some p.2 ∧ H p.1 = none ∧ p.1 ≠ X.env.locals ∧ p.1 ∉ X.fs ∧ ∀ v, p.2.data ≠ .cell v) : Inv X pins' σ H s :=
  ⟨I.ok, I.os, I.bare, I.base, I.loc, I.cell, I.free, I.freeC, fun p hp => (List.mem_append.mp hp).elim (fun z => I.pin p (List.mem_append_left _ z)) (h p), I.hok, I.len⟩

theorem nodup_ix {N : List Str} (hN : N.Nodup) {i j : Nat} {x : Str} (a : N[i]? = some x) (b : N[j]? = some x) : i = j := by
  obtain ⟨h1, e1⟩ := List.getElem?_eq_some_iff.mp a
  obtain ⟨h2, e2⟩ := List.getElem?_eq_some_iff.mp b
  exact (List.getElem_inj hN).mp (e1.trans e2.symm)

/-- a name is stored; what changed -/
theorem store_ok2 {M : Model} {A : Around} {E : Value → Shared → Prop} {i : Nat} {x : Str} {v : V} {u : Value} {Q : Unit → Shared → Prop} (I : Inv X pins σ H s) (hN : X.N.Nodup) (hi : X.N[i]? = some x) (hx : Loc X.env.scope x) (r : RelV v u)
    (h : ∀ s', Inv X pins (σ.set i (some v)) H s' → (∃ a, Heap.SameBut a s.heap s'.heap ∧ (a = X.env.locals ∨ X.env.cells.lookup x = some a)) → Q () s') (hf : X.fn x = true ∨ X.env.scope.names.lookup x = some .local := by first | exact .inl rfl | exact .inr rfl | assumption) : wpAny M A (storeName X.env x u) Q E s := by
  obtain ⟨m, hn, hl⟩ := id I.loc
  have hcls : (X.env.scope.kind == .class || (X.env.scope.kind == .module && X.env.locals != X.env.globals)) = false := by rw [I.ok.kind]; rfl
  have hiσ : i < σ.length := by rw [I.len]; exact (List.getElem?_eq_some_iff.mp hi).1
  have cne := I.cne
  have tracked : ∀ {a : Addr} {h' : Heap}, (∃ o, s.heap.get? a = some o ∧ H a = none) → Heap.SameBut a s.heap h' → HOk X.prog X.w H h' := fun {a h'} ha hs b ob e => by
    obtain ⟨_, _, hfree⟩ := ha
    refine (I.hok b ob e).stay (fun c w' hc q => (hs.2 c ?_).trans q) (fun _ q => q) fun _ _ q => q
    rintro rfl
    rcases hc with rfl | hc
    · rw [hfree] at e; cases e
    · rw [hfree] at hc; cases hc
  rcases hx with hk | hk
  · refine wpAny_storeName_local hk hn (fun h' hn' hs => ?_) hcls
    obtain ⟨oL, _, _, hoL, _⟩ := id hn
    refine h _ ⟨I.ok, I.os, I.bare, ⟨fun b o e n hb hx => ?_, fun b o e n hb hx => ?_, I.base.free, fun b o e hx => ?_, I.base.tups, I.base.frzs, I.base.tbls⟩, ⟨_, hn', fun j y v' e1 e2 e3 => ?_⟩, fun y c e => ?_, I.free, I.freeC, fun p hp => ?_, tracked ⟨oL, hoL, I.free⟩ hs, by simpa using I.len⟩ ⟨_, hs, .inl rfl⟩
    · exact (hs.2 b (Nat.ne_of_lt (Nat.lt_of_lt_of_le (Heap.lt_size e) I.ok.above))).trans (I.base.keep b o e n hb hx)
    · obtain ⟨sl, e1⟩ := I.base.slot b o e n hb hx
      exact ⟨sl, (hs.2 b (Nat.ne_of_lt (Nat.lt_of_lt_of_le (Heap.lt_size e) I.ok.above))).trans e1⟩
    · obtain ⟨o', e1⟩ := I.base.there b o e hx
      exact ⟨o', (hs.2 b (Nat.ne_of_lt (Nat.lt_of_lt_of_le (Heap.lt_size e) I.ok.above))).trans e1⟩
    · by_cases hj : j = i
      · subst hj
        rw [hi] at e1; cases e1
        rw [List.getElem?_set_self hiσ] at e2
        cases e2
        exact ⟨u, r, .inl ⟨hk, by simp⟩⟩
      · rw [List.getElem?_set_ne (Ne.symm hj)] at e2
        obtain ⟨u', r', q⟩ := hl j y v' e1 e2 e3
        refine ⟨u', r', ?_⟩
        rcases q with ⟨k, e⟩ | ⟨k, c, e, z⟩
        · refine .inl ⟨k, ?_⟩
          have : y ≠ x := fun e => hj (nodup_ix hN e1 (e ▸ hi))
          simp [this, e]
        · exact .inr ⟨k, c, e, z.sameBut hs (cne y c e)⟩
    · obtain ⟨w', z⟩ := I.cell y c e
      exact ⟨w', z.sameBut hs (cne y c e)⟩
    · obtain ⟨e, n, ne, nf, d⟩ := I.pin p hp
      exact ⟨(hs.2 p.1 ne).trans e, n, ne, nf, d⟩
  · have hfn : X.fn x = true := by
      rcases hf with z | z
      · exact z
      · rw [z] at hk; cases hk
    obtain ⟨c, hc⟩ := I.ok.has x (.inl hk)
    obtain ⟨w', z⟩ := I.cell x c hc
    refine wpAny_storeName_cell I.ok.kind hk hc z (fun h' hc' hs => ?_)
    obtain ⟨oc, hoc, hocd⟩ := id z
    refine h { s with heap := h' } ⟨I.ok, I.os, I.bare, ⟨fun b o e n hb hx => ?_, fun b o e n hb hx => ?_, I.base.free, fun b o e hx => ?_, I.base.tups, I.base.frzs, I.base.tbls⟩, ⟨m, hn.sameBut hs (Ne.symm (cne x c hc)), fun j y v' e1 e2 e3 => ?_⟩, fun y c' e => ?_, I.free, I.freeC, fun p hp => ?_, tracked ⟨oc, hoc, I.freeC x c hc⟩ hs, by simpa using I.len⟩ ⟨c, hs, .inr hc⟩
    · exact (hs.2 b (Nat.ne_of_lt (Nat.lt_of_lt_of_le (Heap.lt_size e) (I.ok.cab x c hfn hc)))).trans (I.base.keep b o e n hb hx)
    · obtain ⟨sl, e1⟩ := I.base.slot b o e n hb hx
      exact ⟨sl, (hs.2 b (Nat.ne_of_lt (Nat.lt_of_lt_of_le (Heap.lt_size e) (I.ok.cab x c hfn hc)))).trans e1⟩
    · obtain ⟨o', e1⟩ := I.base.there b o e hx
      exact ⟨o', (hs.2 b (Nat.ne_of_lt (Nat.lt_of_lt_of_le (Heap.lt_size e) (I.ok.cab x c hfn hc)))).trans e1⟩
    · by_cases hj : j = i
      · subst hj
        rw [hi] at e1; cases e1
        rw [List.getElem?_set_self hiσ] at e2
        cases e2
        exact ⟨u, r, .inr ⟨.inl hk, c, hc, hc'⟩⟩
      · rw [List.getElem?_set_ne (Ne.symm hj)] at e2
        obtain ⟨u', r', q⟩ := hl j y v' e1 e2 e3
        refine ⟨u', r', ?_⟩
        rcases q with q | ⟨k, c', e, z'⟩
        · exact .inl q
        · refine .inr ⟨k, c', e, z'.sameBut hs ?_⟩
          rintro rfl
          exact hj (nodup_ix hN e1 (I.ok.inj _ _ _ e hc ▸ hi))
    · by_cases hcc : c' = c
      · subst hcc; exact ⟨_, hc'⟩
      · obtain ⟨w2, z2⟩ := I.cell y c' e
        exact ⟨w2, z2.sameBut hs hcc⟩
    · obtain ⟨e, n, ne, nf, d⟩ := I.pin p hp
      refine ⟨(hs.2 p.1 ?_).trans e, n, ne, nf, d⟩
      intro q
      rw [q, hoc] at e
      have q' : oc = p.2 := Option.some.inj e
      exact d w' (by rw [← q']; exact hocd)
theorem store_ok {M : Model} {A : Around} {E : Value → Shared → Prop} {i : Nat} {x : Str} {v : V} {u : Value} {Q : Unit → Shared → Prop} (I : Inv X pins σ H s) (hN : X.N.Nodup) (hi : X.N[i]? = some x) (hx : Loc X.env.scope x) (r : RelV v u)
    (h : ∀ s', Inv X pins (σ.set i (some v)) H s' → Q () s') (hf : X.fn x = true ∨ X.env.scope.names.lookup x = some .local := by first | exact .inl rfl | exact .inr rfl | assumption) : wpAny M A (storeName X.env x u) Q E s :=
  store_ok2 I hN hi hx r (fun s' I' _ => h s' I') hf
/-- behind a call or a block, the state as it is -/
theorem Inv.call' {s' : Shared} {ch : List Addr} (I : Inv X pins σ H s) (ho : s'.os = s.os) (u : Un (frs X.stack) ch H H' s.heap s'.heap) (hok : HOk X.prog X.w H' s'.heap) (hg : AllBare s'.gens)
    (hch : ∀ b ∈ ch, (b ∈ X.ex ∨ X.s₀.heap.objs.size ≤ b) ∧ b ≠ X.env.locals ∧ (∀ x c, X.env.cells.lookup x = some c → c ≠ b) ∧ ∀ p ∈ X.pn ++ pins, p.1 ≠ b) : Inv X pins σ H' s' := by
  obtain ⟨h', g', d', t', o'⟩ := s'
  have e : o' = s.os := ho
  subst e
  exact I.call (g' := g') (t' := t') (d' := d') u hok hg hch
end

/-! ### the judgements -/
/-- an exception: its class, its own dict's address (where it has one), the abstract heap behind it -/
abbrev XK := Value → Option Addr → Hp → Prop
abbrev St := List (Option V)
abbrev VK := V → Hp → Prop
/-- an expression's reading; a test's; an argument list's -/
abbrev TE := St → Hp → VK → Prop
abbrev TT := St → Hp → (Bool → Hp → Prop) → Prop
abbrev TA := St → Hp → (List V → Hp → Prop) → Prop
/-- what is wanted behind a statement -/
structure Ends where
  nx : St → Hp → Prop
  rt : VK
  bk : St → Hp → Prop := fun _ _ => False
  ct : St → Hp → Prop := fun _ _ => False
abbrev TS := Ends → St → Hp → Prop

def EP (X : Cx) (pins : List (Addr × Obj)) (σ : St) (Q : VK) (u : Value) (s' : Shared) : Prop := ∃ v H', Inv X pins σ H' s' ∧ RelV v u ∧ Q v H'
def TP (X : Cx) (pins : List (Addr × Obj)) (σ : St) (Q : Bool → Hp → Prop) (b : Bool) (s' : Shared) : Prop := ∃ H', Inv X pins σ H' s' ∧ Q b H'
def AP (X : Cx) (pins : List (Addr × Obj)) (σ : St) (Q : List V → Hp → Prop) (us : List Value) (s' : Shared) : Prop := ∃ vs H', Inv X pins σ H' s' ∧ Vals vs us ∧ Q vs H'
def SP (X : Cx) (pins : List (Addr × Obj)) (D : Ends) (f : Flow) (s' : Shared) : Prop :=
  match f with
  | .next => ∃ σ' H', Inv X pins σ' H' s' ∧ D.nx σ' H'
  | .brk => ∃ σ' H', Inv X pins σ' H' s' ∧ D.bk σ' H'
  | .cont => ∃ σ' H', Inv X pins σ' H' s' ∧ D.ct σ' H'
  | .ret u => ∃ v σ' H', Inv X pins σ' H' s' ∧ RelV v u ∧ D.rt v H'

def PE (X : Cx) (e : Expr) (t : TE) : Prop :=
  ∀ (pins : List (Addr × Obj)) (s : Shared) (σ : St) (H : Hp) (Q : VK), Inv X pins σ H s → t σ H Q → wpAny (model X.prog X.w) X.A (eval e X.env) (EP X pins σ Q) X.xe s
def PT (X : Cx) (e : Expr) (t : TT) : Prop :=
  ∀ (pins : List (Addr × Obj)) (s : Shared) (σ : St) (H : Hp) (Q : Bool → Hp → Prop), Inv X pins σ H s → t σ H Q → wpAny (model X.prog X.w) X.A (isTrue e X.env (eval e X.env)) (TP X pins σ Q) X.xe s
/-- a test whatever its 'whole' is (and, or) -/
def PW (X : Cx) (e : Expr) (t : TT) : Prop :=
  ∀ (whole : Sem Value) (pins : List (Addr × Obj)) (s : Shared) (σ : St) (H : Hp) (Q : Bool → Hp → Prop), Inv X pins σ H s → t σ H Q → wpAny (model X.prog X.w) X.A (isTrue e X.env whole) (TP X pins σ Q) X.xe s
theorem PW.pt {X : Cx} {e : Expr} {t : TT} (h : PW X e t) : PT X e t := h _
/-- an argument list (no star), from the left -/
def PA (X : Cx) (es : List Expr) (t : TA) : Prop :=
  ∀ (pos : Pos) (pins : List (Addr × Obj)) (s : Shared) (σ : St) (H : Hp) (Q : List V → Hp → Prop), Inv X pins σ H s → t σ H Q → wpAny (model X.prog X.w) X.A (spliced (backTo pos (starEach es X.env))) (AP X pins σ Q) X.xe s
def PS (X : Cx) (st : Stmt) (t : TS) : Prop :=
  ∀ (pins : List (Addr × Obj)) (s : Shared) (σ : St) (H : Hp) (D : Ends), Inv X pins σ H s → t D σ H → wpAny (model X.prog X.w) X.A (exec st X.env) (SP X pins D) X.xe s
def PSs (X : Cx) (st : List Stmt) (t : TS) : Prop :=
  ∀ (pins : List (Addr × Obj)) (s : Shared) (σ : St) (H : Hp) (D : Ends), Inv X pins σ H s → t D σ H → wpAny (model X.prog X.w) X.A (execs st X.env) (SP X pins D) X.xe s
/-- weaken the end -/
theorem thn {α : Type} {t : Sem α} {Q Q' : α → Shared → Prop} {M : Model} {A : Around} {E : Value → Shared → Prop} {s : Shared} (h : wpAny M A t Q E s) (hQ : ∀ a s, Q a s → Q' a s) : wpAny M A t Q' E s := wpAny_mono h hQ fun _ _ x => x
end L2

namespace L2
open PySem PySem.Spec PyProof.Rows
section
variable {X : Cx}


/-! ### names and constants -/
def tVar (i : Nat) : TE := fun σ H Q => ∃ v, σ[i]? = some (some v) ∧ Q v H
def tC (v : V) : TE := fun _ H Q => Q v H
theorem pe_var {i : Nat} {x : Str} {pos : Pos} (hN : X.N[i]? = some x) (hv : Vis X.env.scope x) (hd : (x == ("__debug__" : Str)) = false := by decide) (hcd : (x == ("__classdict__" : Str)) = false := by decide) : PE X (.Name x pos) (tVar i) := by
  intro pins s σ H Q I h
  obtain ⟨v, e, h⟩ := h
  obtain ⟨m, hn, hl⟩ := I.loc
  obtain ⟨u, r, l⟩ := hl i x v hN e hv
  have fin : EP X pins σ Q u s := ⟨v, H, I, r, h⟩
  rcases l with ⟨hk, hm⟩ | ⟨hk, c, hc, hcell⟩
  · exact wpAny_Name (wpAny_loadName_local I.ok.kind hk hn hm fin) hd
  · rcases hk with hk | hk
    · exact wpAny_Name (wpAny_loadName_cell I.ok.kind hk hc hcell fin) hd
    · exact wpAny_Name (wpAny_loadName_free I.ok.kind hk hc hcell fin hcd) hd
theorem pe_int {i j pos} : PE X (.Constant (.int i) j pos) (tC (.int i)) := fun _ _ _ H _ I h => wpAny_Constant_int ⟨.int i, H, I.tok _, ⟨_, rfl⟩, h⟩
theorem pe_bl {b j pos} : PE X (.Constant (.bool b) j pos) (tC (.bl b)) := fun _ _ _ H _ I h => Constant_bool ⟨.bl b, H, I, rfl, h⟩
theorem pe_non {j pos} : PE X (.Constant .none j pos) (tC .non) := fun _ _ _ H _ I h => Constant_none ⟨.non, H, I, rfl, h⟩

/-- a global name of the def -/
def Gl (X : Cx) (x : Str) : Prop := X.env.kindOf x = some .globalImplicit
theorem ld_glob {E : Value → Shared → Prop} {pins : List (Addr × Obj)} {s : Shared} {σ : St} {H : Hp} {x : Str} {u : Value} {pos : Pos} {Q : Value → Shared → Prop} (I : Inv X pins σ H s) (hg : Gl X x) (hm : X.mg x = some u) (h : Q u s)
    (hd : (x == ("__debug__" : Str)) = false := by decide) : wpAny (model X.prog X.w) X.A (eval (.Name x pos) X.env) Q E s :=
  Calls.Name_function_global I.ok.kind hg (Calls.loadGlobal_global (by rw [I.ok.glob]; exact I.mod.glob.keeps I.bk) hm h) hd
theorem ld_blt {E : Value → Shared → Prop} {pins : List (Addr × Obj)} {s : Shared} {σ : St} {H : Hp} {x : Str} {u : Value} {pos : Pos} {Q : Value → Shared → Prop} (I : Inv X pins σ H s) (hg : Gl X x) (hm : X.mg x = none) (hv : bootBuiltins x = some u) (h : Q u s)
    (hn : x ≠ "__name__" := by decide) (hd : (x == ("__debug__" : Str)) = false := by decide) : wpAny (model X.prog X.w) X.A (eval (.Name x pos) X.env) Q E s := by
  obtain ⟨mb, h1, h2⟩ := I.mod.blt
  exact Calls.Name_function_global I.ok.kind hg (Calls.loadGlobal_builtin (by rw [I.ok.glob]; exact I.mod.glob.keeps I.bk) hm (by rw [I.ok.blt]; exact h1.keeps I.bk) ((h2 x hn).trans hv) h) hd
/-- a module's constant, a class, a function, as a value -/
theorem pe_glob {x : Str} {v : V} {u : Value} {pos : Pos} (hg : Gl X x) (hm : X.mg x = some u) (r : RelV v u) (hd : (x == ("__debug__" : Str)) = false := by decide) : PE X (.Name x pos) (tC v) :=
  fun _ _ _ H _ I h => ld_glob I hg hm ⟨v, H, I, r, h⟩ hd
theorem pe_bltn {x : Str} {v : V} {u : Value} {pos : Pos} (hg : Gl X x) (hm : X.mg x = none) (hv : bootBuiltins x = some u) (r : RelV v u) (hn : x ≠ "__name__" := by decide) (hd : (x == ("__debug__" : Str)) = false := by decide) : PE X (.Name x pos) (tC v) :=
  fun _ _ _ H _ I h => ld_blt I hg hm hv ⟨v, H, I, r, h⟩ hn hd

/-! ### arithmetic -/
/-- two ints -/
def t2I (ta tb : TE) (k : Int → Int → Hp → Prop) : St → Hp → Prop := fun σ H => ta σ H fun x H1 => tb σ H1 fun y H2 => ∃ i j, x = .int i ∧ y = .int j ∧ k i j H2
def tAdd (ta tb : TE) : TE := fun σ H Q => t2I ta tb (fun i j H2 => Q (.int (i + j)) H2) σ H
def tSub (ta tb : TE) : TE := fun σ H Q => t2I ta tb (fun i j H2 => Q (.int (i - j)) H2) σ H
/-- the left factor below 2^64 -/
def tMul (ta tb : TE) : TE := fun σ H Q => t2I ta tb (fun i j H2 => (-(2 ^ 64) < i ∧ i < 2 ^ 64) ∧ Q (.int (i * j)) H2) σ H
variable {a b : Expr} {ta tb : TE} {pos : Pos}

/-! ### comparisons -/
def PC (X : Cx) (op : CmpOp) (a b : Expr) (t : TE) : Prop :=
  ∀ (pins : List (Addr × Obj)) (s : Shared) (σ : St) (H : Hp) (Q : VK), Inv X pins σ H s → t σ H Q →
    wpAny (model X.prog X.w) X.A (eval a X.env) (fun v s₁ => wpAny (model X.prog X.w) X.A (eval b X.env) (fun u s₂ => wpAny (model X.prog X.w) X.A (compareOp op v u) (EP X pins σ Q) X.xe s₂) X.xe s₁) X.xe s
def tCmp (p : Int → Int → Bool) (ta tb : TE) : TE := fun σ H Q => t2I ta tb (fun i j H2 => Q (.bl (p i j)) H2) σ H
abbrev tLt : TE → TE → TE := tCmp fun i j => decide (i < j)
abbrev tLe : TE → TE → TE := tCmp fun i j => decide (i ≤ j)
abbrev tGt : TE → TE → TE := tCmp fun i j => decide (j < i)
abbrev tGe : TE → TE → TE := tCmp fun i j => decide (j ≤ i)
abbrev tEqI : TE → TE → TE := tCmp fun i j => decide (i = j)
abbrev tNeI : TE → TE → TE := tCmp fun i j => !decide (i = j)
/-- is None -/
def tIsN (ta : TE) : TE := fun σ H Q => ta σ H fun x H1 => Q (.bl (decide (x = .non))) H1
def tNotN (ta : TE) : TE := fun σ H Q => ta σ H fun x H1 => Q (.bl (!decide (x = .non))) H1
/-- a comparison as a value, as a test -/
def tB (t : TE) : TT := fun σ H Q => t σ H fun x H1 => ∃ c, x = .bl c ∧ Q c H1
/-- an expression whose value is a bool, as a test -/
theorem pt_val {e : Expr} {t : TE} (h : PE X e t) (he : ∀ whole, isTrue e X.env whole = (do let v ← whole; standAt e.pos; holding [v] (truthy v)) := by intro _; rfl) : PT X e (tB t) := by
  intro pins s σ H Q I hw
  refine isTrue_plain (thn (h pins s σ H _ I hw) fun v s1 ⟨x, H1, I1, r1, q1⟩ => ?_) (he _)
  obtain ⟨d, rfl, q⟩ := q1
  cases r1
  exact wpAny_truthy_bool ⟨H1, I1, q⟩

/-! ### and, or, not -/
variable {tA tB' : TT} {rest : List Expr}
def tAnd (t u : TT) : TT := fun σ H Q => t σ H fun c H1 => if c = true then u σ H1 Q else Q false H1
def tOr (t u : TT) : TT := fun σ H Q => t σ H fun c H1 => if c = true then Q true H1 else u σ H1 Q
def tNot (t : TT) : TT := fun σ H Q => t σ H fun c H1 => Q (!c) H1
theorem pw_or1 (ha : PT X a tA) : PW X (.BoolOp .Or [a] pos) tA := by
  intro wh pins s σ H Q I h
  refine isTrue_or (thn (ha pins s σ H Q I h) fun c s1 e => ?_)
  cases c with
  | false => exact isTrue_or_nil e
  | true => exact e
theorem pw_or (ha : PT X a tA) (hb : PW X (.BoolOp .Or (b :: rest) pos) tB') : PW X (.BoolOp .Or (a :: b :: rest) pos) (tOr tA tB') := by
  intro wh pins s σ H Q I h
  refine isTrue_or (thn (ha pins s σ H _ I h) fun c s1 ⟨H1, I1, q1⟩ => ?_)
  cases c with
  | true => exact ⟨H1, I1, q1⟩
  | false => exact hb wh pins s1 σ H1 Q I1 q1
theorem pt_not (ha : PT X a tA) : PT X (.UnaryOp .Not a pos) (tNot tA) := by
  intro pins s σ H Q I h
  exact isTrue_not (ha pins s σ H (fun c H1 => Q (!c) H1) I h)
/-- .. as values (bools) -/
def tAndV (ta tb : TE) : TE := fun σ H Q => ta σ H fun x H1 => ∃ c, x = .bl c ∧ if c = true then tb σ H1 Q else Q (.bl false) H1
def tOrV (ta tb : TE) : TE := fun σ H Q => ta σ H fun x H1 => ∃ c, x = .bl c ∧ if c = true then Q (.bl true) H1 else tb σ H1 Q
def tNotV (ta : TE) : TE := fun σ H Q => ta σ H fun x H1 => ∃ c, x = .bl c ∧ Q (.bl (!c)) H1
theorem pe_one {op} {t : TE} (h : PE X a t) : PE X (.BoolOp op [a] pos) t := fun pins s σ H Q I hw => BoolOp_one (h pins s σ H Q I hw)
theorem pe_and (ha : PE X a ta) (hb : PE X (.BoolOp .And (b :: rest) pos) tb) : PE X (.BoolOp .And (a :: b :: rest) pos) (tAndV ta tb) := by
  intro pins s σ H Q I h
  refine BoolOp_and (thn (ha pins s σ H _ I h) fun v s1 ⟨x, H1, I1, r1, q1⟩ => ?_)
  obtain ⟨c, rfl, q1⟩ := q1
  cases r1
  refine wpAny_truthy_bool ?_
  cases c with
  | true => exact hb pins s1 σ H1 Q I1 q1
  | false => exact ⟨.bl false, H1, I1, rfl, q1⟩
theorem pe_not (ha : PE X a ta) : PE X (.UnaryOp .Not a pos) (tNotV ta) := by
  intro pins s σ H Q I h
  refine UnaryOp_ (thn (ha pins s σ H _ I h) fun v s1 ⟨x, H1, I1, r1, q1⟩ => ?_)
  obtain ⟨c, rfl, q1⟩ := q1
  cases r1
  exact not_of (wpAny_truthy_bool ⟨.bl (!c), H1, I1, rfl, q1⟩)
/-- a if t else b -/
def tIf (t : TT) (ta tb : TE) : TE := fun σ H Q => t σ H fun c H1 => if c = true then ta σ H1 Q else tb σ H1 Q
end
end L2

namespace L2
open PySem PySem.Spec PyProof.Rows

/-! ### a list, a tuple that is read: tracked, frozen, or an object of the module -/
def SqL (K : PySem.W.Frag) (H : Hp) (a : Addr) (xs : List V) : Prop :=
  Rd H a (.lst xs) ∨
    ∃ (o : Obj) (its : Array Value) (n : Nat), K.lookup a = some o ∧ o.cls = .type "list" ∧ o.dict = none ∧ o.data = .seq its n ∧ its.size ≤ sizeLine ∧ Vals xs its.toList
def SqT (K : PySem.W.Frag) (H : Hp) (a : Addr) (xs : List V) : Prop :=
  Rd H a (.tup xs) ∨
    ∃ (o : Obj) (its : Array Value) (n : Nat), K.lookup a = some o ∧ o.cls = .type "tuple" ∧ o.data = .seq its n ∧ its.size ≤ sizeLine ∧ Vals xs its.toList
def absV : Value → Option V
  | .none => some .non
  | .bool b => some (.bl b)
  | .int i _ => some (.int i)
  | .str x _ => some (.str x)
  | .bytes b _ => some (.byt b)
  | .float b _ => some (.flt b)
  | .ref a => some (.ref a)
  | .type n => some (.ty n)
  | _ => none
theorem RelV.abs {x : V} {u : Value} (r : RelV x u) : absV u = some x := by
  cases x with
  | non => cases r; rfl
  | bl _ => cases r; rfl
  | int _ => obtain ⟨t, rfl⟩ := r; rfl
  | str _ => obtain ⟨t, rfl⟩ := r; rfl
  | byt _ => obtain ⟨t, rfl⟩ := r; rfl
  | flt _ => obtain ⟨t, rfl⟩ := r; rfl
  | ref _ => cases r; rfl
  | ty _ => cases r; rfl
theorem RelV.inj {x y : V} {u : Value} (r : RelV x u) (q : RelV y u) : x = y := Option.some.inj (r.abs.symm.trans q.abs)
theorem Vals.inj : ∀ {xs ys : List V} {us : List Value}, Vals xs us → Vals ys us → xs = ys
  | _, _, _, .nil, .nil => rfl
  | _, _, _, .cons r t, .cons r' t' => by rw [r.inj r', Vals.inj t t']
section
variable {X : Cx} {pins : List (Addr × Obj)} {σ : St} {H : Hp} {s : Shared} {a : Addr} {xs ys : List V}
theorem SqL.of {K : PySem.W.Frag} (h : H a = some (.lst xs)) : SqL K H a xs := .inl (.inl h)
theorem SqT.of {K : PySem.W.Frag} (h : H a = some (.tup xs)) : SqT K H a xs := .inl (.inl h)
theorem Inv.list (I : Inv X pins σ H s) (h : SqL X.K H a xs) : ∃ its : List Value, Vals xs its ∧ PlainL s.heap a its.toArray ∧ xs.length ≤ sizeLine := by
  rcases h with h | ⟨o, its, n, hk, hc, hd, hs, hz, r⟩
  · obtain ⟨z, its, n, r, e⟩ := h.ok I.hok
    exact ⟨its, r, ⟨_, n, e, rfl, rfl, rfl⟩, z⟩
  · refine ⟨its.toList, r, ⟨o, n, I.kIn a o hk, hc, hd, by simpa using hs⟩, ?_⟩
    have e := r.length
    simp only [Array.length_toList] at e
    omega
theorem Inv.tuple (I : Inv X pins σ H s) (h : SqT X.K H a xs) : ∃ its : List Value, Vals xs its ∧ IsTup s.heap a its.toArray ∧ xs.length ≤ sizeLine := by
  rcases h with h | ⟨o, its, n, hk, hc, hs, hz, r⟩
  · obtain ⟨z, its, r, p⟩ := h.ok I.hok
    exact ⟨its, r, p, z⟩
  · refine ⟨its.toList, r, ⟨o, I.kIn a o hk, hc, n, by simpa using hs⟩, ?_⟩
    have e := r.length
    simp only [Array.length_toList] at e
    omega
theorem Inv.list_inj (I : Inv X pins σ H s) (h : SqL X.K H a xs) (h' : SqL X.K H a ys) : xs = ys := by
  obtain ⟨its, r, ⟨o, n, e, _, _, d⟩, _⟩ := I.list h
  obtain ⟨its', r', ⟨o', n', e', _, _, d'⟩, _⟩ := I.list h'
  rw [e] at e'; cases e'
  rw [d] at d'
  injection d' with d1 _
  have : its = its' := by simpa using congrArg Array.toList d1
  subst this
  exact r.inj r'
theorem Inv.tuple_inj (I : Inv X pins σ H s) (h : SqT X.K H a xs) (h' : SqT X.K H a ys) : xs = ys := by
  obtain ⟨its, r, ⟨o, e, _, n, d⟩, _⟩ := I.tuple h
  obtain ⟨its', r', ⟨o', e', _, n', d'⟩, _⟩ := I.tuple h'
  rw [e] at e'; cases e'
  rw [d] at d'
  injection d' with d1 _
  have : its = its' := by simpa using congrArg Array.toList d1
  subst this
  exact r.inj r'
end

/-! ### another wish about exceptions -/
abbrev Cx.wish (X : Cx) (E : Value → Shared → Prop) : Cx := { X with xe := E }
/-- no exception leaves -/
abbrev Cx.nox (X : Cx) : Cx := X.wish fun _ _ => False
theorem Cx.Ok.wish {X : Cx} (ok : X.Ok) (E : Value → Shared → Prop) : (X.wish E).Ok :=
  ⟨ok.mod, ok.kind, ok.glob, ok.blt, ok.above, ok.inj, ok.has, ok.cab, ok.hd, ok.frames, ok.stk, ok.exf, ok.bs, ok.bsz, ok.noex, ok.exfs, ok.funs, ok.frf⟩
theorem Cx.Ok.unwish {X : Cx} {E : Value → Shared → Prop} (ok : (X.wish E).Ok) : X.Ok :=
  ⟨ok.mod, ok.kind, ok.glob, ok.blt, ok.above, ok.inj, ok.has, ok.cab, ok.hd, ok.frames, ok.stk, ok.exf, ok.bs, ok.bsz, ok.noex, ok.exfs, ok.funs, ok.frf⟩
section
variable {X : Cx} {pins : List (Addr × Obj)} {σ : St} {H : Hp} {s : Shared} {E : Value → Shared → Prop}
theorem Inv.wish (I : Inv X pins σ H s) (E : Value → Shared → Prop) : Inv (X.wish E) pins σ H s := ⟨I.ok.wish E, I.os, I.bare, I.base, I.loc, I.cell, I.free, I.freeC, I.pin, I.hok, I.len⟩
theorem Inv.unwish (I : Inv (X.wish E) pins σ H s) : Inv X pins σ H s := ⟨I.ok.unwish, I.os, I.bare, I.base, I.loc, I.cell, I.free, I.freeC, I.pin, I.hok, I.len⟩
theorem SP.unwish {D : Ends} {f : Flow} {s' : Shared} (h : SP (X.wish E) pins D f s') : SP X pins D f s' := by
  cases f with
  | next => obtain ⟨σ', H', I, q⟩ := h; exact ⟨σ', H', I.unwish, q⟩
  | brk => obtain ⟨σ', H', I, q⟩ := h; exact ⟨σ', H', I.unwish, q⟩
  | cont => obtain ⟨σ', H', I, q⟩ := h; exact ⟨σ', H', I.unwish, q⟩
  | ret u => obtain ⟨v, σ', H', I, r, q⟩ := h; exact ⟨v, σ', H', I.unwish, r, q⟩
theorem PSs.nox {st : List Stmt} {t : TS} (h : PSs X.nox st t) : PSs X st t := fun pins s σ H D I hw =>
  wpAny_mono (h pins s σ H D (I.wish _) hw) (fun _ _ q => q.unwish) fun _ _ z => False.elim z
end

/-! ### blocks and small statements -/
section
variable {X : Cx} {st : Stmt} {rest : List Stmt} {t u : TS} {e : Expr} {te : TE} {pos : Pos}
def tNext : TS := fun D σ H => D.nx σ H
def tSeq (t u : TS) : TS := fun D σ H => t { D with nx := u D } σ H
theorem pss_nil : PSs X [] tNext := fun _ _ σ H _ I h => wpAny_execs_nil ⟨σ, H, I, h⟩
theorem pss_cons (h1 : PS X st t) (h2 : PSs X rest u) : PSs X (st :: rest) (tSeq t u) := by
  intro pins s σ H D I h
  refine wpAny_execs_cons (thn (h1 pins s σ H { D with nx := u D } I h) fun f s1 q => ?_)
  cases f with
  | next =>
    obtain ⟨σ', H', I', q⟩ := q
    exact h2 pins s1 σ' H' D I' q
  | ret v => exact q
  | brk => exact q
  | cont => exact q
theorem pss_one (h1 : PS X st t) : PSs X [st] t := by
  intro pins s σ H D I h
  refine wpAny_execs_cons (thn (h1 pins s σ H D I h) fun f s1 q => ?_)
  cases f with
  | next => exact wpAny_execs_nil q
  | ret v => exact q
  | brk => exact q
  | cont => exact q
def tBreak : TS := fun D σ H => D.bk σ H
def tCont : TS := fun D σ H => D.ct σ H
/-- in a def's body nothing is shown -/
theorem Inv.quiet {pins : List (Addr × Obj)} {σ : St} {H : Hp} {s : Shared} (I : Inv X pins σ H s) : interactive X.env = false := by simp [interactive, I.ok.kind]
/-- an expression whose value is dropped -/
def tDrop (te : TE) : TS := fun D σ H => te σ H fun _ H1 => D.nx σ H1
theorem ps_expr (he : PE X e te) (hs : swapsWith e none pos.line X.env = pure false := by rfl) : PS X (.Expr e pos) (tDrop te) := by
  intro pins s σ H D I h
  exact wpAny_Expr_any (thn (he pins s σ H _ I h) fun v s1 ⟨x, H1, I1, r1, q1⟩ => ⟨σ, H1, I1, q1⟩) I.quiet hs
def tRet (te : TE) : TS := fun D σ H => te σ H D.rt
theorem ps_ret (he : PE X e te) : PS X (.Return (some e) pos) (tRet te) := by
  intro pins s σ H D I h
  exact wpAny_Return_some (thn (he pins s σ H _ I h) fun v s1 ⟨x, H1, I1, r1, q1⟩ => ⟨x, σ, H1, I1, r1, q1⟩)
def tRetN : TS := fun D _ H => D.rt .non H
def tIfS (c : TT) (t u : TS) : TS := fun D σ H => c σ H fun b H1 => if b = true then t D σ H1 else u D σ H1
theorem ps_if {c : Expr} {a b : List Stmt} {tc : TT} (hc : PT X c tc) (ha : PSs X a t) (hb : PSs X b u) : PS X (.If c a b pos) (tIfS tc t u) := by
  intro pins s σ H D I h
  refine wpAny_If (thn (hc pins s σ H _ I h) fun d s1 ⟨H1, I1, q1⟩ => ?_)
  cases d with
  | true => exact ha pins s1 σ H1 D I1 q1
  | false => exact hb pins s1 σ H1 D I1 q1
/-- code that the proof never comes to -/
def tNever : TS := fun _ _ _ => False
end

/-! ### targets -/
abbrev TG := V → St → Hp → (St → Hp → Prop) → Prop
abbrev TGs := List V → St → Hp → (St → Hp → Prop) → Prop
def PG (X : Cx) (target : Expr) (t : TG) : Prop :=
  ∀ (pins : List (Addr × Obj)) (s : Shared) (σ : St) (H : Hp) (v : V) (u : Value) (Q : St → Hp → Prop), Inv X pins σ H s → RelV v u → t v σ H Q →
    wpAny (model X.prog X.w) X.A (assign target X.env u) (fun _ s' => ∃ σ' H', Inv X pins σ' H' s' ∧ Q σ' H') X.xe s
/-- several targets, one after another -/
def PGs (X : Cx) (ts : List Expr) (t : TGs) : Prop :=
  ∀ (pins : List (Addr × Obj)) (s : Shared) (σ : St) (H : Hp) (vs : List V) (us : List Value) (Q : St → Hp → Prop), Inv X pins σ H s → Vals vs us → t vs σ H Q →
    wpAny (model X.prog X.w) X.A (assignInOrder ((assignEach ts X.env).map (·.2)) us) (fun _ s' => ∃ σ' H', Inv X pins σ' H' s' ∧ Q σ' H') X.xe s
/-- o[i] = v, by values -/
abbrev TSet := V → V → V → Hp → (Hp → Prop) → Prop
def PSet (X : Cx) (t : TSet) : Prop :=
  ∀ (pins : List (Addr × Obj)) (s : Shared) (σ : St) (H : Hp) (o i v : V) (ov iv u : Value) (Q : Hp → Prop), Inv X pins σ H s → RelV o ov → RelV i iv → RelV v u → t o i v H Q →
    wpAny (model X.prog X.w) X.A (setItem ov iv u) (fun _ s' => ∃ H', Inv X pins σ H' s' ∧ Q H') X.xe s
/-- a op= b, by values -/
abbrev TIp := V → V → Hp → VK → Prop
def PIp (X : Cx) (op : Operator) (t : TIp) : Prop :=
  ∀ (pins : List (Addr × Obj)) (s : Shared) (σ : St) (H : Hp) (x y : V) (v u : Value) (Q : VK), Inv X pins σ H s → RelV x v → RelV y u → t x y H Q →
    wpAny (model X.prog X.w) X.A (inplaceOp op v u) (EP X pins σ Q) X.xe s
section
variable {X : Cx} {pos : Pos}
def gName (i : Nat) : TG := fun v σ H Q => Q (σ.set i (some v)) H
theorem pg_name {i : Nat} {x : Str} (hN : X.N.Nodup) (hi : X.N[i]? = some x) (hx : Loc X.env.scope x) (hf : X.fn x = true ∨ X.env.scope.names.lookup x = some .local := by first | exact .inl rfl | exact .inr rfl | assumption) : PG X (.Name x pos) (gName i) := by
  intro pins s σ H v u Q I r h
  exact wpAny_assign_Name (store_ok I hN hi hx r (fun s' I' => ⟨_, H, I', h⟩) hf)
def gNil : TGs := fun vs σ H Q => vs = [] ∧ Q σ H
def gCons (t : TG) (u : TGs) : TGs := fun vs σ H Q => ∃ v r, vs = v :: r ∧ t v σ H fun σ' H' => u r σ' H' Q
theorem pgs_nil : PGs X [] gNil := by
  intro pins s σ H vs us Q I r h
  obtain ⟨e, h⟩ := h
  subst e
  cases r
  exact assignInOrder_nil ⟨σ, H, I, h⟩
theorem pgs_cons {e : Expr} {es : List Expr} {t : TG} {u : TGs} (h1 : PG X e t) (h2 : PGs X es u)
    (hs : (assignEach (e :: es) X.env).map (·.2) = assign e X.env :: (assignEach es X.env).map (·.2) := by rfl) : PGs X (e :: es) (gCons t u) := by
  intro pins s σ H vs us Q I r h
  obtain ⟨v, vr, e1, h⟩ := h
  subst e1
  cases r with
  | cons r rr =>
    rw [hs]
    refine assignInOrder_cons (thn (h1 pins s σ H _ _ _ I r h) fun _ s1 ⟨σ1, H1, I1, q1⟩ => ?_)
    exact h2 pins s1 σ1 H1 _ _ Q I1 rr q1
/-- (a, b, ..) = a tuple of that length -/
def gTup (K : PySem.W.Frag) (n : Nat) (t : TGs) : TG := fun v σ H Q => ∃ a xs, v = .ref a ∧ SqT K H a xs ∧ xs.length = n ∧ t xs σ H Q
theorem pg_tup {es : List Expr} {k : Nat} {t : TGs} {n : Nat} (hc : X.calm = true) (h : PGs X es t)
    (hn : (assignEach es X.env).length = n := by rfl) (hst : (assignEach es X.env).findIdx? (·.1) = none := by rfl) : PG X (.Tuple es k pos) (gTup X.K n t) := by
  intro pins s σ H v u Q I r hw
  obtain ⟨a, xs, e1, hq, hl, hw⟩ := hw
  subst e1
  cases r
  obtain ⟨its, rv, ht, hz⟩ := I.tuple hq
  refine assign_Tuple_tuple (I.ok.hd hc) ht (by simp [hn, ← hl, rv.length]) hst fun h' hx => ?_
  have I1 : Inv X pins σ H { s with heap := h' } := I.kept (t' := s.toks) fun b o e => hx b o (Nat.ne_of_lt (Heap.lt_size e)) e
  exact h pins _ σ H xs _ Q I1 (by simpa using rv) hw
/-- o[i] = .. -/
def gSub (to ti : TE) (t : TSet) : TG := fun v σ H Q => to σ H fun o H1 => ti σ H1 fun i H2 => t o i v H2 fun H3 => Q σ H3
theorem pg_sub {o i : Expr} {to ti : TE} {t : TSet} (ho : PE X o to) (hi : PE X i ti) (hs : PSet X t)
    (ha : ∀ v, assign (.Subscript o i pos) X.env v = (do
      let ov ← holding [v] (eval o X.env)
      let iv ← holding [v, ov] (eval i X.env)
      standAt pos
      holding [v, ov, iv] (setItem ov iv v)
      release [v, ov, iv] []) := by intro _; rfl) : PG X (.Subscript o i pos) (gSub to ti t) := by
  intro pins s σ H v u Q I r h
  rw [ha]
  refine wpAny_bind (wpAny_holding (thn (ho pins s σ H _ I h) fun ov s1 ⟨x, H1, I1, r1, q1⟩ => ?_))
  refine wpAny_bind (wpAny_holding (thn (hi pins s1 σ H1 _ I1 q1) fun iv s2 ⟨y, H2, I2, r2, q2⟩ => ?_))
  refine wpAny_bind (wpAny_standAt (wpAny_bind (wpAny_holding (thn (hs pins s2 σ H2 x y v ov iv u _ I2 r1 r2 r q2) fun _ s3 ⟨H3, I3, q3⟩ => ?_))))
  exact wpAny_release ⟨σ, H3, I3, q3⟩
/-- target = value -/
def tAsg (te : TE) (g : TG) : TS := fun D σ H => te σ H fun x H1 => g x σ H1 D.nx
theorem ps_asg {tg e : Expr} {te : TE} {g : TG} (he : PE X e te) (hg : PG X tg g) (hs : swapsWithSole [tg] e pos.line X.env = pure false := by rfl) (hw : swappedStores [tg] e X.env = pure none := by rfl)
    (h1 : (assignEach [tg] X.env).map (·.2) = [assign tg X.env] := by rfl) : PS X (.Assign [tg] e pos) (tAsg te g) := by
  intro pins s σ H D I h
  refine wpAny_Assign_stores (thn (he pins s σ H _ I h) fun v s1 ⟨x, H1, I1, r1, q1⟩ => ?_) hs hw
  rw [h1]
  exact thn (hg pins s1 σ H1 x v _ I1 r1 q1) fun _ s2 q => q
/-- name = value -/
theorem ps_set {i : Nat} {x : Str} {e : Expr} {te : TE} {pos' : Pos} (hN : X.N.Nodup) (hi : X.N[i]? = some x) (hx : Loc X.env.scope x) (he : PE X e te) (hs : swapsWith e (some (.Name x pos')) pos.line X.env = pure false := by rfl) (hf : X.fn x = true ∨ X.env.scope.names.lookup x = some .local := by first | exact .inl rfl | exact .inr rfl | assumption) :
    PS X (.Assign [.Name x pos'] e pos) (tAsg te (gName i)) := by
  intro pins s σ H D I h
  refine wpAny_Assign_Name (thn (he pins s σ H _ I h) fun v s1 ⟨y, H1, I1, r1, q1⟩ => ?_) hs
  exact store_ok I1 hN hi hx r1 (fun s2 I2 => ⟨_, H1, I2, q1⟩) hf
/-- a, b = x, y with plain local names: stored from the right; the pair itself is not tracked (the opening rows as in PyProof/Rows/TupAssign.lean:23) -/
def tPar (i j : Nat) (ta : TA) : TS := fun D σ H => ta σ H fun vs H1 => ∃ v w, vs = [v, w] ∧ D.nx ((σ.set i (some v)).set j (some w)) H1
theorem ps_par {i j : Nat} {x y : Str} {a b : Expr} {ta : TA} {px py pt : Pos} {kt k2 pt2} (hc : X.calm = true) (hN : X.N.Nodup) (hi : X.N[i]? = some x) (hj : X.N[j]? = some y) (hij : i ≠ j)
    (hx : X.env.scope.names.lookup x = some .local) (hy : X.env.scope.names.lookup y = some .local) (ha : PA X [a, b] ta)
    (hw : swappedStores [.Tuple [.Name x px, .Name y py] kt pt] (.Tuple [a, b] k2 pt2) X.env = pure (some [x, y]))
    (hs : swapsWithSole [.Tuple [.Name x px, .Name y py] kt pt] (.Tuple [a, b] k2 pt2) pos.line X.env = pure false := by rfl) :
    PS X (.Assign [.Tuple [.Name x px, .Name y py] kt pt] (.Tuple [a, b] k2 pt2) pos) (tPar i j ta) := by
  intro pins s σ H D I h
  rw [exec_Assign_arm]
  refine wpAny_bind (wpAny_standAt ?_)
  rw [hs]
  refine wpAny_bind (wpAny_pure ?_)
  rw [if_neg (by decide)]
  refine wpAny_bind (Tuple_ (thn (ha _ pins s σ H _ I h) fun us s1 ⟨vs, H1, I1, r1, q1⟩ => ?_))
  obtain ⟨v, w, e1, q1⟩ := q1
  subst e1
  obtain ⟨u1, u2, rfl, rv, rw'⟩ : ∃ u1 u2, us = [u1, u2] ∧ RelV v u1 ∧ RelV w u2 := by
    cases r1 with
    | cons p q =>
      cases q with
      | cons p' q' =>
        cases q'
        exact ⟨_, _, rfl, p, p'⟩
  refine wpAny_newObj_type ?_ (by show 2 ≤ sizeLine; decide)
  have I2 : Inv X pins σ H1 { s1 with heap := s1.heap.push { cls := .type "tuple", data := .seq [u1, u2].toArray } } := I1.kept (t' := s1.toks) fun b o e => Heap.get?_push_of_some _ e
  rw [hw]
  refine wpAny_bind (wpAny_pure ?_)
  show wpAny (model X.prog X.w) X.A (do rule "assign.swapped-stores"; let items ← unpackItems (.ref s1.heap.objs.size) 2 none; assignInOrder [fun v => bindName X.env y v, fun v => bindName X.env x v] items.reverse; pure Flow.next) _ _ _
  refine wpAny_bind (wpAny_rule (wpAny_bind (unpackItems_tuple (items := #[u1, u2]) (I.ok.hd hc) (IsTup.new s1.heap _) fun h' hx' => ?_)))
  have I3 := I2.kept (h' := h') (t' := s1.toks) fun b o e => hx' b o (Nat.ne_of_lt (Heap.lt_size e)) e
  show wpAny _ _ (assignInOrder [fun v => bindName X.env y v, fun v => bindName X.env x v] [u2, u1] >>= fun _ => pure Flow.next) _ _ _
  refine wpAny_bind (assignInOrder_cons (wpAny_bindName (store_ok I3 hN hj (.inl hy) rw' (fun s2 I4 => ?_) (.inr hy))))
  refine assignInOrder_cons (wpAny_bindName (store_ok I4 hN hi (.inl hx) rv (fun s3 I5 => assignInOrder_nil (wpAny_pure ?_)) (.inr hx)))
  rw [List.set_comm _ _ (Ne.symm hij)] at I5
  exact ⟨_, H1, I5, q1⟩
/-- name op= e -/
def tAug (i : Nat) (te : TE) (ti : TIp) : TS := fun D σ H => ∃ x, σ[i]? = some (some x) ∧ te σ H fun y H1 => ti x y H1 fun z H2 => D.nx (σ.set i (some z)) H2
/-- o[i] op= e -/
def tAugS (to ti te : TE) (tget : V → V → Hp → VK → Prop) (tip : TIp) (tset : TSet) : TS := fun D σ H => to σ H fun o H1 => ti σ H1 fun i H2 => tget o i H2 fun x H3 => te σ H3 fun y H4 => tip x y H4 fun z H5 => tset o i z H5 fun H6 => D.nx σ H6
/-- o[i], by values -/
def PGet (X : Cx) (t : V → V → Hp → VK → Prop) : Prop :=
  ∀ (pins : List (Addr × Obj)) (s : Shared) (σ : St) (H : Hp) (o i : V) (ov iv : Value) (Q : VK), Inv X pins σ H s → RelV o ov → RelV i iv → t o i H Q →
    wpAny (model X.prog X.w) X.A (getItem ov iv) (EP X pins σ Q) X.xe s
/-- ints -/
def ipI (f : Int → Int → Int) : TIp := fun x y H Q => ∃ i j, x = .int i ∧ y = .int j ∧ Q (.int (f i j)) H
end

/-! ### while -/
section
variable {X : Cx} {pos : Pos}
/-- the invariant W with its measure -/
def tWhile (c : TT) (tb : TS) : TS := fun D σ H => ∃ W : Nat → St → Hp → Prop, (∃ m, W m σ H) ∧ ∀ m σ H, W m σ H →
  c σ H fun b H1 => if b = true then ∃ N : St → Hp → Prop, (∀ σ' H', N σ' H' → ∃ m', m' < m ∧ W m' σ' H') ∧ tb { D with nx := N, ct := N, bk := D.nx } σ H1 else D.nx σ H1
theorem ps_while {c : Expr} {body : List Stmt} {tc : TT} {tb : TS} (hp : PassesOwn (model X.prog X.w) X.A X.env X.xe) (hc : PT X c tc) (hb : PSs X body tb) : PS X (.While c body [] pos) (tWhile tc tb) := by
  intro pins s σ H D I h
  obtain ⟨W, ⟨m0, w0⟩, turn⟩ := h
  refine wpAny_While (codeAny_whileLoop (fun n s' => ∃ σ' H', Inv X pins σ' H' s' ∧ W n σ' H') ?_ m0 ⟨σ, H, I, w0⟩)
  rintro n s1 ⟨σ1, H1, I1, w1⟩
  refine wpAny_passesOwn hp (thn (hc pins s1 σ1 H1 _ I1 (turn n σ1 H1 w1)) fun b s2 ⟨H2, I2, q2⟩ => ?_)
  cases b with
  | true =>
    obtain ⟨N, hN, q2⟩ := q2
    rw [if_pos rfl]
    refine wpAny_passesOwn hp (thn (hb pins s2 σ1 H2 _ I2 q2) fun f s3 q3 => ?_)
    cases f with
    | next =>
      obtain ⟨σ3, H3, I3, n3⟩ := q3
      obtain ⟨m', hm, w3⟩ := hN σ3 H3 n3
      exact ⟨m', hm, σ3, H3, I3, w3⟩
    | cont =>
      obtain ⟨σ3, H3, I3, n3⟩ := q3
      obtain ⟨m', hm, w3⟩ := hN σ3 H3 n3
      exact ⟨m', hm, σ3, H3, I3, w3⟩
    | brk => exact q3
    | ret v => exact q3
  | false =>
    rw [if_neg Bool.false_ne_true]
    exact wpAny_execs_nil ⟨σ1, H2, I2, q2⟩
end

/-! ### what a loop or a comprehension walks -/
/-- at turn i: it yields x (the heap may grow), or it stops -/
structure It where
  go : Nat → Hp → Prop
  yld : Nat → Hp → V → Hp → Prop
  stop : Nat → Hp → Prop
/-- the iterator's own objects may turn: they are not the frame's, not pinned, younger than the entry (or a comprehension's own) -/
def FpOk (X : Cx) (pins : List (Addr × Obj)) (H : Hp) (b : Addr) : Prop :=
  H b = none ∧ b ≠ X.env.locals ∧ b ∉ X.fs ∧ (b ∈ X.ex ∨ X.s₀.heap.objs.size ≤ b) ∧ (∀ x c, X.env.cells.lookup x = some c → c ≠ b) ∧ ∀ p ∈ X.pn ++ pins, p.1 ≠ b
theorem Inv.fpOk {X : Cx} {pins : List (Addr × Obj)} {σ : St} {H H' : Hp} {s : Shared} {b : Addr} (I : Inv X pins σ H s) (hb : s.heap.objs.size ≤ b) (hn : H' b = none) : FpOk X pins H' b := by
  refine ⟨hn, Nat.ne_of_gt (Nat.lt_of_lt_of_le I.lt hb), I.nofs hb, .inr (Nat.le_trans I.sz hb), fun x c e z => ?_, fun p hp z => ?_⟩
  · obtain ⟨v, q⟩ := I.cell x c e
    exact absurd (Nat.lt_of_lt_of_le q.lt (by rw [z]; exact hb)) (Nat.lt_irrefl _)
  · exact absurd (Nat.lt_of_lt_of_le (Heap.lt_size (I.pin p hp).1) (by rw [z]; exact hb)) (Nat.lt_irrefl _)
structure Turn (P : Program) (w : World) (K : PySem.W.Frag) (tg : Expr) (J : It) (fp : List Addr) (it : Addr) (tn : Nat → Heap → Prop) : Prop where
  mem : it ∈ fp
  obj : ∀ i h, tn i h → ∀ b ∈ fp, ∃ o, h.get? b = some o ∧ ∀ v, o.data ≠ .cell v
  keep : ∀ i h h', tn i h → (∀ b ∈ fp, ∀ o, h.get? b = some o → h'.get? b = some o) → tn i h'
  item : ∀ (X : Cx), X.prog = P → X.w = w → X.K = K → X.calm = true → ∀ (i : Nat) (pins : List (Addr × Obj)) (s : Shared) (σ : St) (H : Hp) (E : Value → Shared → Prop), Inv X pins σ H s → (∀ b ∈ fp, FpOk X pins H b) → tn i s.heap → J.go i H →
    wpAny (model P w) X.A (pyNext (.ref it)) (fun r s1 => ∃ u, r = some u ∧
      wpAny (model P w) X.A (letOwnedTupleGo tg (.ref it) u) (fun _ s2 => ∃ x H', Inv X pins σ H' s2 ∧ RelV x u ∧ J.yld i H x H' ∧ tn (i + 1) s2.heap ∧ ∀ b ∈ fp, H' b = none) E s1) E s
  done : ∀ (X : Cx), X.prog = P → X.w = w → X.K = K → X.calm = true → ∀ (i : Nat) (pins : List (Addr × Obj)) (s : Shared) (σ : St) (H : Hp) (E : Value → Shared → Prop), Inv X pins σ H s → (∀ b ∈ fp, FpOk X pins H b) → tn i s.heap → J.stop i H →
    wpAny (model P w) X.A (pyNext (.ref it)) (fun r s1 => r = none ∧ Inv X pins σ H s1) E s
  self : ∀ (A : Around) (i : Nat) (s : Shared) (Q : Value → Shared → Prop) (E : Value → Shared → Prop), tn i s.heap → Q (.ref it) s → wpAny (model P w) A (pyIter (.ref it)) Q E s
abbrev TI := St → Hp → (It → Hp → Prop) → Prop
/-- an iterator has come -/
def PIE (X : Cx) (pins : List (Addr × Obj)) (σ : St) (tg : Expr) (R : It → Hp → Prop) (itv : Value) (s2 : Shared) : Prop :=
  ∃ (it : Addr) (fp : List Addr) (tn : Nat → Heap → Prop) (J : It) (H' : Hp), itv = .ref it ∧ Inv X pins σ H' s2 ∧ Turn X.prog X.w X.K tg J fp it tn ∧ tn 0 s2.heap ∧ (∀ b ∈ fp, FpOk X pins H' b) ∧ R J H'
def PI (X : Cx) (tg iter : Expr) (wi : TI) : Prop :=
  ∀ (pins : List (Addr × Obj)) (s : Shared) (σ : St) (H : Hp) (R : It → Hp → Prop), Inv X pins σ H s → wi σ H R →
    wpAny (model X.prog X.w) X.A (eval iter X.env) (fun v s1 => wpAny (model X.prog X.w) X.A (pyIter v) (PIE X pins σ tg R) X.xe s1) X.xe s

/-- the step ahead of the store is nothing for an iterator that keeps no tuple -/
theorem go_of {M : Model} {A : Around} {E : Value → Shared → Prop} {s : Shared} {tg : Expr} {it : Addr} {u : Value} {o : Obj} {n : String} {vs : Array Value} {Q : Unit → Shared → Prop} (ho : s.heap.get? it = some o) (hc : o.cls = .type n) (hd : o.data = .fields vs)
    (hn : ["enumerate", "zip", "dict_itemiterator", "dict_reverseitemiterator", "odict_iterator", "itertools.zip_longest", "itertools.pairwise"].contains n = false) (hQ : Q () s) : wpAny M A (letOwnedTupleGo tg (.ref it) u) Q E s := by
  unfold letOwnedTupleGo
  cases tg <;> first
    | exact wpAny_pure hQ
    | (cases u <;> first
        | exact wpAny_pure hQ
        | (refine wpAny_bind (wpAny_load ho ?_)
           rw [hc, hd]
           show wpAny M A (if (["enumerate", "zip", "dict_itemiterator", "dict_reverseitemiterator", "odict_iterator", "itertools.zip_longest", "itertools.pairwise"].contains n && vs[0]? == some (rawInt _)) = true then _ else _) Q E s
           rw [if_neg (by intro h; rw [hn, Bool.false_and] at h; cases h)]
           exact wpAny_pure hQ))

/-- the list at a, as it stands at each turn (a loop may append to it) -/
def Itl (K : PySem.W.Frag) (a : Addr) : It :=
  ⟨fun i H => ∃ xs x, SqL K H a xs ∧ xs[i]? = some x, fun i H x H' => H' = H ∧ ∀ xs, SqL K H a xs → xs[i]? = some x, fun i H => ∃ xs, SqL K H a xs ∧ xs.length ≤ i⟩
def Itt (K : PySem.W.Frag) (a : Addr) : It :=
  ⟨fun i H => ∃ xs x, SqT K H a xs ∧ xs[i]? = some x, fun i H x H' => H' = H ∧ ∀ xs, SqT K H a xs → xs[i]? = some x, fun i H => ∃ xs, SqT K H a xs ∧ xs.length ≤ i⟩
/-- lo, lo + 1, .. (n of them) -/
def Itr (lo : Int) (n : Nat) : It := ⟨fun i _ => i < n, fun i H x H' => H' = H ∧ x = .int (lo + i), fun i _ => n ≤ i⟩
theorem turn_list {P : Program} {w : World} {K : PySem.W.Frag} {tg : Expr} (a it : Addr) : Turn P w K tg (Itl K a) [it] it (fun i h => h.IsListIter it a i) where
  mem := by simp
  obj := fun i h st b hb => by
    have e : b = it := by simpa using hb
    subst e
    obtain ⟨o, e, c, d⟩ := st
    exact ⟨o, e, fun v z => by rw [d] at z; cases z⟩
  keep := fun i h h' st k => st.at fun o e => k it (by simp) o e
  item := by
    intro X hP hw hK hc i pins s σ H E I hf st hg
    subst hP hw hK
    obtain ⟨xs, x, hq, hx⟩ := hg
    obtain ⟨its, rv, p, hz⟩ := I.list hq
    obtain ⟨u, hu, ru⟩ := rv.get hx
    obtain ⟨f0, f1, f2, f3, f4, f5⟩ := hf it (by simp)
    refine wpAny_pyNext_list_item st p.isList (x := u) (by simpa using hu) fun h' st' sb => ?_
    have I1 : Inv X pins σ H { s with heap := h' } := I.turned (t' := s.toks) (fun b o hb e => (sb.2 b hb).trans e) f0 f1 f3 f4 f5
    obtain ⟨o, e, c, d⟩ := id st'
    exact ⟨u, rfl, go_of (s := { s with heap := h' }) e c d (by decide) ⟨x, H, I1, ru, ⟨rfl, fun ys hy => by rw [I.list_inj hy hq]; exact hx⟩, st', fun b hb => (hf b hb).1⟩⟩
  done := by
    intro X hP hw hK hc i pins s σ H E I hf st hg
    subst hP hw hK
    obtain ⟨xs, hq, hx⟩ := hg
    obtain ⟨its, rv, p, hz⟩ := I.list hq
    obtain ⟨f0, f1, f2, f3, f4, f5⟩ := hf it (by simp)
    have hl := rv.length
    exact wpAny_pyNext_list_end (I.ok.hd hc) st p.isList (by simp; omega) fun h' eb => ⟨rfl, I.turned (t' := s.toks) (fun b o hb e => eb b o hb e) f0 f1 f3 f4 f5⟩
  self := fun _ _ _ _ _ st h => wpAny_pyIter_listiter st h
theorem turn_tuple {P : Program} {w : World} {K : PySem.W.Frag} {tg : Expr} (a it : Addr) : Turn P w K tg (Itt K a) [it] it (fun i h => h.IsTupleIter it a i) where
  mem := by simp
  obj := fun i h st b hb => by
    have e : b = it := by simpa using hb
    subst e
    obtain ⟨o, e, c, d⟩ := st
    exact ⟨o, e, fun v z => by rw [d] at z; cases z⟩
  keep := fun i h h' st k => st.at fun o e => k it (by simp) o e
  item := by
    intro X hP hw hK hc i pins s σ H E I hf st hg
    subst hP hw hK
    obtain ⟨xs, x, hq, hx⟩ := hg
    obtain ⟨its, rv, p, hz⟩ := I.tuple hq
    obtain ⟨u, hu, ru⟩ := rv.get hx
    obtain ⟨f0, f1, f2, f3, f4, f5⟩ := hf it (by simp)
    refine wpAny_pyNext_tuple_item st (show s.heap.IsTuple a its.toArray from p) (x := u) (by simpa using hu) fun h' st' sb => ?_
    have I1 : Inv X pins σ H { s with heap := h' } := I.turned (t' := s.toks) (fun b o hb e => (sb.2 b hb).trans e) f0 f1 f3 f4 f5
    obtain ⟨o, e, c, d⟩ := id st'
    exact ⟨u, rfl, go_of (s := { s with heap := h' }) e c d (by decide) ⟨x, H, I1, ru, ⟨rfl, fun ys hy => by rw [I.tuple_inj hy hq]; exact hx⟩, st', fun b hb => (hf b hb).1⟩⟩
  done := by
    intro X hP hw hK hc i pins s σ H E I hf st hg
    subst hP hw hK
    obtain ⟨xs, hq, hx⟩ := hg
    obtain ⟨its, rv, p, hz⟩ := I.tuple hq
    obtain ⟨f0, f1, f2, f3, f4, f5⟩ := hf it (by simp)
    have hl := rv.length
    exact wpAny_pyNext_tuple_end (I.ok.hd hc) st (show s.heap.IsTuple a its.toArray from p) (by simp; omega) fun h' eb => ⟨rfl, I.turned (t' := s.toks) (fun b o hb e => eb b o hb e) f0 f1 f3 f4 f5⟩
  self := fun _ _ _ _ _ st h => wpAny_pyIter_tupleiter st h
theorem turn_range {P : Program} {w : World} {K : PySem.W.Frag} {tg : Expr} (it : Addr) (lo : Int) (n : Nat) : Turn P w K tg (Itr lo n) [it] it (fun i h => IsRangeIter h it (lo + (i : Nat) * 1) ((n : Int) - (i : Nat)) 1) where
  mem := by simp
  obj := fun i h st b hb => by
    have e : b = it := by simpa using hb
    subst e
    exact ⟨_, st, fun v z => by
      have z' : Data.fields _ = Data.cell v := z
      cases z'⟩
  keep := fun i h h' st k => k it (by simp) _ st
  item := by
    intro X hP hw hK hc i pins s σ H E I hf st hg
    subst hP hw hK
    obtain ⟨f0, f1, f2, f3, f4, f5⟩ := hf it (by simp)
    have W := Walks.range (prog := X.prog) (w := X.w) (I.ok.hd hc) it lo 1 n
    refine W.item i s _ _ hg st fun v h' tk hv st' kk => ?_
    obtain ⟨t, rfl⟩ := hv
    have I1 : Inv X pins σ H { s with heap := h', toks := tk } := I.turned (fun b o hb e => kk b o (by simpa using hb) e) f0 f1 f3 f4 f5
    refine ⟨_, rfl, go_of (s := { s with heap := h', toks := tk }) (n := "range_iterator") st' rfl rfl (by decide) ⟨.int (lo + i), H, I1, ⟨t, ?_⟩, ⟨rfl, rfl⟩, st', fun b hb => (hf b hb).1⟩⟩
    rw [Int.mul_one]
  done := by
    intro X hP hw hK hc i pins s σ H E I hf st hg
    subst hP hw hK
    obtain ⟨f0, f1, f2, f3, f4, f5⟩ := hf it (by simp)
    exact wpAny_pyNext_range_end (I.ok.hd hc) st (by have : n ≤ i := hg; omega) fun h' eb => ⟨rfl, I.turned (t' := s.toks) (fun b o hb e => eb b o hb e) f0 f1 f3 f4 f5⟩
  self := fun _ _ _ _ _ st h => wpAny_pyIter_rangeiter st h
end L2

namespace L2
open PySem PySem.Spec PyProof.Rows
section
variable {X : Cx} {tg : Expr}
def iList (K : PySem.W.Frag) (tl : TE) : TI := fun σ H R => tl σ H fun x H1 => ∃ a, x = .ref a ∧ (∃ xs, SqL K H1 a xs) ∧ R (Itl K a) H1
def iTup (K : PySem.W.Frag) (tl : TE) : TI := fun σ H R => tl σ H fun x H1 => ∃ a, x = .ref a ∧ (∃ xs, SqT K H1 a xs) ∧ R (Itt K a) H1
/-- a range object just made, walked -/
theorem range_it {pins : List (Addr × Obj)} {σ : St} {H : Hp} {s : Shared} {R : It → Hp → Prop} {E : Value → Shared → Prop} {lo hi : Int} {t u v : Tok} {tk : Nat} (I : Inv X pins σ H s) (h1 : -(2 ^ 62) ≤ lo) (h2 : lo < 2 ^ 62) (h3 : -(2 ^ 62) ≤ hi) (h4 : hi < 2 ^ 62)
    (q : R (Itr lo (hi - lo).toNat) H) : wpAny (model X.prog X.w) X.A (pyIter (.ref s.heap.objs.size)) (PIE X pins σ tg R) E { s with heap := s.heap.push { cls := .type "range", data := .fields #[.int lo t, .int hi u, .int 1 v] }, toks := tk } := by
  refine wpAny_pyIter_range (IsRange.new ..) (small_one h1 h2 h3 h4) ?_
  have I1 : Inv X pins σ H { s with heap := s.heap.push { cls := .type "range", data := .fields #[.int lo t, .int hi u, .int 1 v] }, toks := tk } := I.kept fun b o e => Heap.get?_push_of_some _ e
  refine ⟨(s.heap.push { cls := .type "range", data := .fields #[.int lo t, .int hi u, .int 1 v] }).objs.size, [(s.heap.push { cls := .type "range", data := .fields #[.int lo t, .int hi u, .int 1 v] }).objs.size], _, _, H, rfl,
    I1.kept (t' := tk) fun b o e => Heap.get?_push_of_some _ e, turn_range _ lo (hi - lo).toNat, ?_, fun b hb => ?_, q⟩
  · have e1 : lo + ((0 : Nat) : Int) * 1 = lo := by simp
    have e2 : (((hi - lo).toNat : Nat) : Int) - ((0 : Nat) : Int) = Builtin.Range.rangeSize lo hi 1 := by rw [rangeSize_one]; split <;> omega
    show IsRangeIter _ _ (lo + ((0 : Nat) : Int) * 1) ((((hi - lo).toNat : Nat) : Int) - ((0 : Nat) : Int)) 1
    rw [e1, e2]
    exact Heap.get?_push_size _ rfl
  · have e : b = (s.heap.push { cls := .type "range", data := .fields #[.int lo t, .int hi u, .int 1 v] }).objs.size := by simpa using hb
    subst e
    exact I1.fpOk (Nat.le_refl _) (I1.hok.fresh (Nat.le_refl _))
def iRng1 (ta : TA) : TI := fun σ H R => ta σ H fun vs H1 => ∃ j : Int, vs = [.int j] ∧ -(2 ^ 62) ≤ j ∧ j < 2 ^ 62 ∧ R (Itr 0 j.toNat) H1
def iRng2 (ta : TA) : TI := fun σ H R => ta σ H fun vs H1 => ∃ i j : Int, vs = [.int i, .int j] ∧ (-(2 ^ 62) ≤ i ∧ i < 2 ^ 62 ∧ -(2 ^ 62) ≤ j ∧ j < 2 ^ 62) ∧ R (Itr i (j - i).toNat) H1
theorem pi_range1 {a : Expr} {ta : TA} {p pos : Pos} (hg : Gl X "range") (hm : X.mg "range" = none) (ha : PA X [a] ta) (hs : starEach [a] X.env = [(false, eval a X.env)] := by rfl) : PI X tg (.Call (.Name "range" p) [a] [] pos) (iRng1 ta) := by
  intro pins s σ H R I h
  refine Call_ (ld_blt I hg hm boot_range (PyProof.Rows.callWith_type1 (thn (ha pos pins s σ H _ I h) fun us s1 ⟨vs, H1, I1, r1, q1⟩ => ?_) hs rfl))
  obtain ⟨j, e, q1, q2, q⟩ := q1
  subst e
  cases r1 with
  | cons r rr =>
    cases rr
    obtain ⟨t, rfl⟩ := r
    exact call_range_1 (range_it I1 (by omega) (by omega) q1 q2 (by simpa using q))
theorem pi_range2 {a b : Expr} {ta : TA} {p pos : Pos} (hg : Gl X "range") (hm : X.mg "range" = none) (ha : PA X [a, b] ta) (hs : starEach [a, b] X.env = [(false, eval a X.env), (false, eval b X.env)] := by rfl) (hs2 : starEach [b] X.env = [(false, eval b X.env)] := by rfl) :
    PI X tg (.Call (.Name "range" p) [a, b] [] pos) (iRng2 ta) := by
  intro pins s σ H R I h
  refine Call_ (ld_blt I hg hm boot_range (PyProof.Rows.callWith_type1 (thn (ha pos pins s σ H _ I h) fun us s1 ⟨vs, H1, I1, r1, q1⟩ => ?_) (by rw [hs, hs2]) (by rw [hs2]; rfl)))
  obtain ⟨i, j, e, ⟨q1, q2, q3, q4⟩, q⟩ := q1
  subst e
  cases r1 with
  | cons r rr =>
    cases rr with
    | cons r' rr =>
      cases rr
      obtain ⟨t, rfl⟩ := r
      obtain ⟨t', rfl⟩ := r'
      exact call_range_2 (range_it I1 q1 q2 q3 q4 q)

/-! ### for -/
/-- W: the invariant by the turn and a measure; N: what the body is to reach -/
def tFor (wi : TI) (g : TG) (tb : TS) : TS := fun D σ H => wi σ H fun J H1 => ∃ W : Nat → Nat → St → Hp → Prop, (∃ m, W 0 m σ H1) ∧ ∀ i m σ H, W i m σ H →
  (J.stop i H ∧ D.nx σ H) ∨ (J.go i H ∧ ∃ N : St → Hp → Prop, (∀ σ' H', N σ' H' → ∃ m', m' < m ∧ W (i + 1) m' σ' H') ∧ ∀ x H', J.yld i H x H' → g x σ H' fun σ2 H2 => tb { D with nx := N, ct := N, bk := D.nx } σ2 H2)
/-- the records at fp as they stand -/
def pinsAt (fp : List Addr) (h : Heap) : List (Addr × Obj) := fp.filterMap fun b => (h.get? b).map fun o => (b, o)
theorem mem_pinsAt {fp : List Addr} {h : Heap} {b : Addr} {o : Obj} (hb : b ∈ fp) (e : h.get? b = some o) : (b, o) ∈ pinsAt fp h := List.mem_filterMap.mpr ⟨b, hb, by rw [e]; rfl⟩
theorem of_pinsAt {fp : List Addr} {h : Heap} {p : Addr × Obj} (hp : p ∈ pinsAt fp h) : p.1 ∈ fp ∧ h.get? p.1 = some p.2 := by
  obtain ⟨b, hb, e⟩ := List.mem_filterMap.mp hp
  cases q : h.get? b with
  | none => rw [q] at e; cases e
  | some o =>
    rw [q] at e
    have e' : (b, o) = p := Option.some.inj e
    subst e'
    exact ⟨hb, q⟩
theorem Inv.pinned {pins : List (Addr × Obj)} {σ : St} {H : Hp} {s : Shared} {fp : List Addr} (I : Inv X pins σ H s) (hf : ∀ b ∈ fp, FpOk X pins H b) (ho : ∀ b ∈ fp, ∃ o, s.heap.get? b = some o ∧ ∀ v, o.data ≠ .cell v) : Inv X (pins ++ pinsAt fp s.heap) σ H s :=
  I.pins_of fun p hp => (List.mem_append.mp hp).elim (fun z => I.pin p (List.mem_append_right _ z)) fun z => by
    obtain ⟨hb, e⟩ := of_pinsAt z
    obtain ⟨f0, f1, f2, _⟩ := hf p.1 hb
    obtain ⟨o, e', d⟩ := ho p.1 hb
    rw [e] at e'; cases e'
    exact ⟨e, f0, f1, f2, d⟩
theorem Inv.unpinned {pins pl : List (Addr × Obj)} {σ : St} {H : Hp} {s : Shared} (I : Inv X (pins ++ pl) σ H s) : Inv X pins σ H s := I.pins_of fun p hp => I.pin p (List.mem_append_right _ (List.mem_append_left _ hp))
theorem ps_for {iter : Expr} {body : List Stmt} {wi : TI} {g : TG} {tb : TS} {pos : Pos} (hp : PassesOwn (model X.prog X.w) X.A X.env X.xe) (hc : X.calm = true) (hi : PI X tg iter wi) (hg : PG X tg g) (hb : PSs X body tb)
    (hs : ∀ x, foldedSetIterable iter X.env x = pure x := by intro _; rfl) : PS X (.For tg iter body [] pos) (tFor wi g tb) := by
  intro pins s σ H D I h
  refine wpAny_For (thn (hi pins s σ H _ I h) fun v s1 h1 => thn h1 fun itv s2 h2 => ?_) hs
  obtain ⟨it, fp, tn, J, H2, e, I2, T, st2, f2, W, ⟨m0, w0⟩, turn⟩ := h2
  subst e
  -- what stays true of the iterator's objects through the loop
  have stat : ∀ {H' : Hp}, (∀ b ∈ fp, H' b = none) → ∀ b ∈ fp, FpOk X pins H' b := fun hn b hb => ⟨hn b hb, (f2 b hb).2⟩
  refine codeAny_forLoop_any (fun n s' => ∃ i σ' H', Inv X pins σ' H' s' ∧ tn i s'.heap ∧ (∀ b ∈ fp, H' b = none) ∧ W i n σ' H') ?_ m0 ⟨0, σ, H2, I2, st2, fun b hb => (f2 b hb).1, w0⟩
  rintro n s3 ⟨i, σ3, H3, I3, st3, fr3, w3⟩
  rcases turn i n σ3 H3 w3 with ⟨stop, qn⟩ | ⟨go, N, hN, step⟩
  · refine wpAny_passesOwn hp (thn (T.done X rfl rfl rfl hc i pins s3 σ3 H3 X.xe I3 (stat fr3) st3 stop) fun r s4 ⟨hr, I4⟩ => ?_)
    subst hr
    exact wpAny_execs_nil ⟨σ3, H3, I4, qn⟩
  · refine wpAny_passesOwn hp (thn (T.item X rfl rfl rfl hc i pins s3 σ3 H3 X.xe I3 (stat fr3) st3 go) fun r s4 ⟨u, hr, h4⟩ => ?_)
    subst hr
    refine wpAny_passesOwn hp (thn h4 fun _ s5 ⟨x, H5, I5, r5, y5, st5, fr5⟩ => ?_)
    have I5' := I5.pinned (stat fr5) (T.obj _ _ st5)
    refine wpAny_passesOwn hp (thn (hg _ s5 σ3 H5 x u _ I5' r5 (step x H5 y5)) fun _ s6 ⟨σ6, H6, I6, q6⟩ => ?_)
    refine wpAny_passesOwn hp (thn (hb _ s6 σ6 H6 _ I6 q6) fun f s7 q7 => ?_)
    have again : ∀ {σ7 : St} {H7 : Hp}, Inv X (pins ++ pinsAt fp s5.heap) σ7 H7 s7 → N σ7 H7 → ∃ m, m < n ∧ ∃ i σ' H', Inv X pins σ' H' s7 ∧ tn i s7.heap ∧ (∀ b ∈ fp, H' b = none) ∧ W i m σ' H' := fun {σ7 H7} I7 n7 => by
      obtain ⟨m', hm, w7⟩ := hN σ7 H7 n7
      refine ⟨m', hm, i + 1, σ7, H7, I7.unpinned, T.keep _ _ _ st5 fun b hb o e => (I7.pin (b, o) (List.mem_append_right _ (List.mem_append_right _ (mem_pinsAt hb e)))).1, fun b hb => ?_, w7⟩
      obtain ⟨o, e, d⟩ := T.obj _ _ st5 b hb
      exact (I7.pin (b, o) (List.mem_append_right _ (List.mem_append_right _ (mem_pinsAt hb e)))).2.1
    cases f with
    | next => obtain ⟨σ7, H7, I7, n7⟩ := q7; exact again I7 n7
    | cont => obtain ⟨σ7, H7, I7, n7⟩ := q7; exact again I7 n7
    | brk => obtain ⟨σ7, H7, I7, q7⟩ := q7; exact ⟨σ7, H7, I7.unpinned, q7⟩
    | ret v => obtain ⟨x7, σ7, H7, I7, r7, q7⟩ := q7; exact ⟨x7, σ7, H7, I7.unpinned, r7, q7⟩
end

/-! ### the forms one uses -/
end L2

namespace L2
open PySem PySem.Spec PyProof.Rows

abbrev R2 := V → V → Hp → VK → Prop
/-- a two-place operation on values: f is binaryOp op, inplaceOp op or compareOp op -/
def OpR (X : Cx) (f : Value → Value → Sem Value) (r : R2) : Prop :=
  ∀ (pins : List (Addr × Obj)) (s : Shared) (σ : St) (H : Hp) (x y : V) (v u : Value) (Q : VK), Inv X pins σ H s → RelV x v → RelV y u → r x y H Q →
    wpAny (model X.prog X.w) X.A (f v u) (EP X pins σ Q) X.xe s
/-- a one-place operation -/
def UnR (X : Cx) (f : Value → Sem Value) (r : V → Hp → VK → Prop) : Prop :=
  ∀ (pins : List (Addr × Obj)) (s : Shared) (σ : St) (H : Hp) (x : V) (v : Value) (Q : VK), Inv X pins σ H s → RelV x v → r x H Q →
    wpAny (model X.prog X.w) X.A (f v) (EP X pins σ Q) X.xe s
/-- a call of a value that is known (a builtin, a type) with values -/
def CallR (X : Cx) (f : Value) (r : List V → Hp → VK → Prop) : Prop :=
  ∀ (pins : List (Addr × Obj)) (s : Shared) (σ : St) (H : Hp) (xs : List V) (us : List Value) (Q : VK), Inv X pins σ H s → Vals xs us → r xs H Q →
    wpAny (model X.prog X.w) X.A (call f us) (EP X pins σ Q) X.xe s
/-- a value's truth -/
def TruR (X : Cx) (r : V → Hp → (Bool → Hp → Prop) → Prop) : Prop :=
  ∀ (pins : List (Addr × Obj)) (s : Shared) (σ : St) (H : Hp) (x : V) (v : Value) (Q : Bool → Hp → Prop), Inv X pins σ H s → RelV x v → r x H Q →
    wpAny (model X.prog X.w) X.A (truthy v) (TP X pins σ Q) X.xe s

def tOp (r : R2) (ta tb : TE) : TE := fun σ H Q => ta σ H fun x H1 => tb σ H1 fun y H2 => r x y H2 Q
def tUn (r : V → Hp → VK → Prop) (ta : TE) : TE := fun σ H Q => ta σ H fun x H1 => r x H1 Q
/-- ints in, under C, and a value out -/
def rI (C : Int → Int → Prop) (g : Int → Int → V) : R2 := fun x y H Q => ∃ i j, x = .int i ∧ y = .int j ∧ C i j ∧ Q (g i j) H
def rI0 (g : Int → Int → V) : R2 := fun x y H Q => ∃ i j, x = .int i ∧ y = .int j ∧ Q (g i j) H
def rU (g : Int → V) : V → Hp → VK → Prop := fun x H Q => ∃ i, x = .int i ∧ Q (g i) H

section
variable {X : Cx} {a b c : Expr} {ta tb tc : TE} {pos : Pos}

theorem binT (ha : PE X a ta) (hb : PE X b tb) {pins : List (Addr × Obj)} {s : Shared} {σ : St} {H : Hp} {R : V → V → Hp → Prop} (I : Inv X pins σ H s)
    (h : ta σ H fun x H1 => tb σ H1 fun y H2 => R x y H2) {Q : Value → Shared → Prop} {f : Value → Value → Sem Value}
    (hf : ∀ v u s2 x y H2, Inv X pins σ H2 s2 → RelV x v → RelV y u → R x y H2 → wpAny (model X.prog X.w) X.A (f v u) Q X.xe s2) :
    wpAny (model X.prog X.w) X.A (eval a X.env) (fun v s₁ => wpAny (model X.prog X.w) X.A (eval b X.env) (fun u s₂ => wpAny (model X.prog X.w) X.A (f v u) Q X.xe s₂) X.xe s₁) X.xe s := by
  refine thn (ha pins s σ H _ I h) fun v s1 ⟨x, H1, I1, r1, q1⟩ => ?_
  refine thn (hb pins s1 σ H1 _ I1 q1) fun u s2 ⟨y, H2, I2, r2, q2⟩ => ?_
  exact hf v u s2 x y H2 I2 r1 r2 q2

theorem pe_op {op : Operator} {r : R2} (ho : OpR X (binaryOp op) r) (ha : PE X a ta) (hb : PE X b tb) : PE X (.BinOp a op b pos) (tOp r ta tb) := by
  intro pins s σ H Q I h
  exact wpAny_BinOp (binT ha hb I h fun v u s2 x y H2 I2 rx ry q => ho pins s2 σ H2 x y v u Q I2 rx ry q)
theorem pe_un {op : UnaryOp} {r : V → Hp → VK → Prop} (ho : UnR X (unaryOp op) r) (ha : PE X a ta) : PE X (.UnaryOp op a pos) (tUn r ta) := by
  intro pins s σ H Q I h
  exact UnaryOp_ (thn (ha pins s σ H _ I h) fun v s1 ⟨x, H1, I1, r1, q1⟩ => ho pins s1 σ H1 x v Q I1 r1 q1)

/-! ### ints -/
theorem opI {f : Value → Value → Sem Value} {C : Int → Int → Prop} {g : Int → Int → Int}
    (rule : ∀ (i j : Int) (t u : Tok) (s : Shared) (Q : Value → Shared → Prop) (E : Value → Shared → Prop), C i j → Q (.int (g i j) s.toks) { s with toks := s.toks + 1 } → wpAny (model X.prog X.w) X.A (f (.int i t) (.int j u)) Q E s) :
    OpR X f (rI C fun i j => .int (g i j)) := by
  intro pins s σ H x y v u Q I rx ry h
  obtain ⟨i, j, rfl, rfl, hc, q⟩ := h
  obtain ⟨t, rfl⟩ := rx
  obtain ⟨t', rfl⟩ := ry
  exact rule i j t t' s _ _ hc ⟨.int (g i j), H, I.tok _, ⟨_, rfl⟩, q⟩
theorem opI0 {f : Value → Value → Sem Value} {g : Int → Int → Int}
    (rule : ∀ (i j : Int) (t u : Tok) (s : Shared) (Q : Value → Shared → Prop) (E : Value → Shared → Prop), Q (.int (g i j) s.toks) { s with toks := s.toks + 1 } → wpAny (model X.prog X.w) X.A (f (.int i t) (.int j u)) Q E s) :
    OpR X f (rI0 fun i j => .int (g i j)) := by
  intro pins s σ H x y v u Q I rx ry h
  obtain ⟨i, j, rfl, rfl, q⟩ := h
  obtain ⟨t, rfl⟩ := rx
  obtain ⟨t', rfl⟩ := ry
  exact rule i j t t' s _ _ ⟨.int (g i j), H, I.tok _, ⟨_, rfl⟩, q⟩
theorem opB0 {f : Value → Value → Sem Value} {g : Int → Int → Bool}
    (rule : ∀ (i j : Int) (t u : Tok) (s : Shared) (Q : Value → Shared → Prop) (E : Value → Shared → Prop), Q (.bool (g i j)) s → wpAny (model X.prog X.w) X.A (f (.int i t) (.int j u)) Q E s) :
    OpR X f (rI0 fun i j => .bl (g i j)) := by
  intro pins s σ H x y v u Q I rx ry h
  obtain ⟨i, j, rfl, rfl, q⟩ := h
  obtain ⟨t, rfl⟩ := rx
  obtain ⟨t', rfl⟩ := ry
  exact rule i j t t' s _ _ ⟨.bl (g i j), H, I, rfl, q⟩

def CDiv (i j : Int) : Prop := 0 < j ∧ j < 1073741824
def CDivN (i j : Int) : Prop := j ≠ 0 ∧ j.natAbs < 1073741824
def CPow (i j : Int) : Prop := 0 ≤ j ∧ j ≤ 1000000 ∧ i.natAbs < 2 ^ 64
def CMul (i j : Int) : Prop := (-(2 ^ 64) < i ∧ i < 2 ^ 64) ∨ (-(2 ^ 64) < j ∧ j < 2 ^ 64)

theorem op_add : OpR X (binaryOp .Add) (rI0 fun i j => .int (i + j)) := opI0 fun _ _ _ _ _ _ _ q => add_int q
theorem op_sub : OpR X (binaryOp .Sub) (rI0 fun i j => .int (i - j)) := opI0 fun _ _ _ _ _ _ _ q => sub_int q
theorem op_modN : OpR X (binaryOp .Mod) (rI (fun _ j => j ≠ 0) fun i j => .int (i.fmod j)) := opI fun _ _ _ _ _ _ _ hc q => mod_int' hc q
theorem op_pow : OpR X (binaryOp .Pow) (rI CPow fun i j => .int (i ^ j.toNat)) := opI fun _ _ _ _ _ _ _ hc q => pow_int_small hc.1 hc.2.1 hc.2.2 q


theorem unI {f : Value → Sem Value} {g : Int → Int}
    (rule : ∀ (i : Int) (t : Tok) (s : Shared) (Q : Value → Shared → Prop) (E : Value → Shared → Prop), Q (.int (g i) s.toks) { s with toks := s.toks + 1 } → wpAny (model X.prog X.w) X.A (f (.int i t)) Q E s) :
    UnR X f (rU fun i => .int (g i)) := by
  intro pins s σ H x v Q I rx h
  obtain ⟨i, rfl, q⟩ := h
  obtain ⟨t, rfl⟩ := rx
  exact rule i t s _ _ ⟨.int (g i), H, I.tok _, ⟨_, rfl⟩, q⟩
theorem un_neg : UnR X (unaryOp .USub) (rU fun i => .int (-i)) := unI fun _ _ _ _ _ q => neg_int q

/-! ### bools among ints: n += (a < b) -/
end

/-! ### comparisons -/
/-- the scalars that == tells apart as data does -/
def scal : V → V → Bool
  | .non, .non => true | .non, .int _ => true | .int _, .non => true | .non, .bl _ => true | .bl _, .non => true | .non, .str _ => true | .str _, .non => true
  | .int _, .int _ => true | .bl _, .bl _ => true | .str _, .str _ => true | .byt _, .byt _ => true
  | .int _, .str _ => true | .str _, .int _ => true | .bl _, .str _ => true | .str _, .bl _ => true
  | _, _ => false
def rEq : R2 := fun x y H Q => scal x y = true ∧ Q (.bl (decide (x = y))) H
def rNe : R2 := fun x y H Q => scal x y = true ∧ Q (.bl (!decide (x = y))) H

theorem dec_int {i j : Int} : decide (V.int i = V.int j) = (i == j) := by
  rw [Bool.eq_iff_iff]
  simp
theorem dec_bl {i j : Bool} : decide (V.bl i = V.bl j) = (i == j) := by
  rw [Bool.eq_iff_iff]
  simp
theorem dec_str {i j : Str} : decide (V.str i = V.str j) = (i == j) := by
  rw [Bool.eq_iff_iff]
  simp
theorem dec_byt {i j : Array UInt8} : decide (V.byt i = V.byt j) = (i.toList == j.toList) := by
  rw [Bool.eq_iff_iff]
  cases i
  cases j
  simp

section
variable {X : Cx} {a b c : Expr} {ta tb tc : TE} {pos : Pos}
theorem fin_bl {pins : List (Addr × Obj)} {σ : St} {H : Hp} {s : Shared} {Q : VK} {k k' : Bool} (I : Inv X pins σ H s) (q : Q (.bl k) H) (e : k = k') : EP X pins σ Q (.bool k') s := by
  subst e
  exact ⟨.bl k, H, I, rfl, q⟩
theorem op_eq : OpR X (compareOp .Eq) rEq := by
  intro pins s σ H x y v u Q I rx ry h
  obtain ⟨hs, q⟩ := h
  cases x with
  | non =>
    cases rx
    cases y with
    | non => cases ry; exact PySem.EqNone.eq_none_none (fin_bl I q (by simp))
    | bl j => cases ry; exact PySem.EqNone.eq_none_bool (fin_bl I q (by simp))
    | int j => obtain ⟨t', rfl⟩ := ry; exact PySem.EqNone.eq_none_int (fin_bl I q (by simp))
    | str j => obtain ⟨t', rfl⟩ := ry; exact PySem.EqNone.eq_none_str (fin_bl I q (by simp))
    | _ => exact absurd (show false = true from hs) Bool.false_ne_true
  | bl i =>
    cases rx
    cases y with
    | non => cases ry; exact PySem.EqNone.eq_bool_none (fin_bl I q (by simp))
    | bl j => cases ry; exact eq_bool (fin_bl I q dec_bl)
    | str j => obtain ⟨t', rfl⟩ := ry; exact PySem.EqMixed.eq_bool_str (fin_bl I q (by simp))
    | _ => exact absurd (show false = true from hs) Bool.false_ne_true
  | int i =>
    obtain ⟨t, rfl⟩ := rx
    cases y with
    | non => cases ry; exact PySem.EqNone.eq_int_none (fin_bl I q (by simp))
    | int j => obtain ⟨t', rfl⟩ := ry; exact eq_int (fin_bl I q dec_int)
    | str j => obtain ⟨t', rfl⟩ := ry; exact PySem.EqMixed.eq_int_str (fin_bl I q (by simp))
    | _ => exact absurd (show false = true from hs) Bool.false_ne_true
  | str i =>
    obtain ⟨t, rfl⟩ := rx
    cases y with
    | non => cases ry; exact PySem.EqNone.eq_str_none (fin_bl I q (by simp))
    | bl j => cases ry; exact PySem.EqMixed.eq_str_bool (fin_bl I q (by simp))
    | int j => obtain ⟨t', rfl⟩ := ry; exact PySem.EqMixed.eq_str_int (fin_bl I q (by simp))
    | str j => obtain ⟨t', rfl⟩ := ry; exact eq_str (fin_bl I q dec_str)
    | _ => exact absurd (show false = true from hs) Bool.false_ne_true
  | byt i =>
    obtain ⟨t, rfl⟩ := rx
    cases y with
    | byt j => obtain ⟨t', rfl⟩ := ry; exact PySem.W.eq_bytes (fin_bl I q dec_byt)
    | _ => exact absurd (show false = true from hs) Bool.false_ne_true
  | _ => cases y <;> exact absurd (show false = true from hs) Bool.false_ne_true
theorem op_ne : OpR X (compareOp .NotEq) rNe := by
  intro pins s σ H x y v u Q I rx ry h
  obtain ⟨hs, q⟩ := h
  cases x with
  | non =>
    cases rx
    cases y with
    | non => cases ry; exact PySem.EqNone.ne_none_none (fin_bl I q (by simp))
    | bl j => cases ry; exact PySem.EqNone.ne_none_bool (fin_bl I q (by simp))
    | int j => obtain ⟨t', rfl⟩ := ry; exact PySem.EqNone.ne_none_int (fin_bl I q (by simp))
    | str j => obtain ⟨t', rfl⟩ := ry; exact PySem.EqNone.ne_none_str (fin_bl I q (by simp))
    | _ => exact absurd (show false = true from hs) Bool.false_ne_true
  | bl i =>
    cases rx
    cases y with
    | non => cases ry; exact PySem.EqNone.ne_bool_none (fin_bl I q (by simp))
    | bl j => cases ry; exact ne_bool (fin_bl I q (congrArg not dec_bl))
    | str j => obtain ⟨t', rfl⟩ := ry; exact PySem.EqMixed.ne_bool_str (fin_bl I q (by simp))
    | _ => exact absurd (show false = true from hs) Bool.false_ne_true
  | int i =>
    obtain ⟨t, rfl⟩ := rx
    cases y with
    | non => cases ry; exact PySem.EqNone.ne_int_none (fin_bl I q (by simp))
    | int j => obtain ⟨t', rfl⟩ := ry; exact ne_int (fin_bl I q (congrArg not dec_int))
    | str j => obtain ⟨t', rfl⟩ := ry; exact PySem.EqMixed.ne_int_str (fin_bl I q (by simp))
    | _ => exact absurd (show false = true from hs) Bool.false_ne_true
  | str i =>
    obtain ⟨t, rfl⟩ := rx
    cases y with
    | non => cases ry; exact PySem.EqNone.ne_str_none (fin_bl I q (by simp))
    | bl j => cases ry; exact PySem.EqMixed.ne_str_bool (fin_bl I q (by simp))
    | int j => obtain ⟨t', rfl⟩ := ry; exact PySem.EqMixed.ne_str_int (fin_bl I q (by simp))
    | str j => obtain ⟨t', rfl⟩ := ry; exact ne_str (fin_bl I q (congrArg not dec_str))
    | _ => exact absurd (show false = true from hs) Bool.false_ne_true
  | byt i =>
    obtain ⟨t, rfl⟩ := rx
    cases y with
    | byt j => obtain ⟨t', rfl⟩ := ry; exact PySem.W.ne_bytes (fin_bl I q (congrArg not dec_byt))
    | _ => exact absurd (show false = true from hs) Bool.false_ne_true
  | _ => cases y <;> exact absurd (show false = true from hs) Bool.false_ne_true

theorem op_lt : OpR X (compareOp .Lt) (rI0 fun i j => .bl (decide (i < j))) := opB0 fun _ _ _ _ _ _ _ q => lt_int q
theorem op_le : OpR X (compareOp .LtE) (rI0 fun i j => .bl (decide (i ≤ j))) := opB0 fun _ _ _ _ _ _ _ q => le_int q
theorem op_gt : OpR X (compareOp .Gt) (rI0 fun i j => .bl (decide (j < i))) := opB0 fun _ _ _ _ _ _ _ q => gt_int q
theorem op_ge : OpR X (compareOp .GtE) (rI0 fun i j => .bl (decide (j ≤ i))) := opB0 fun _ _ _ _ _ _ _ q => ge_int q

/-- is None, is not None: the right side a value none -/
theorem op_isN : OpR X (compareOp .Is) (fun x y H Q => y = .non ∧ Q (.bl (decide (x = .non))) H) := by
  intro pins s σ H x y v u Q I rx ry h
  obtain ⟨rfl, q⟩ := h
  cases ry
  refine is_none_gen (fin_bl I q ?_)
  cases x <;> first
    | (cases rx; rfl)
    | (obtain ⟨t, rfl⟩ := rx; rfl)
theorem op_notN : OpR X (compareOp .IsNot) (fun x y H Q => y = .non ∧ Q (.bl (!decide (x = .non))) H) := by
  intro pins s σ H x y v u Q I rx ry h
  obtain ⟨rfl, q⟩ := h
  cases ry
  refine isnot_none_gen (fin_bl I q ?_)
  cases x <;> first
    | (cases rx; rfl)
    | (obtain ⟨t, rfl⟩ := rx; rfl)

/-- is, is not of two objects that are tracked lists or instances -/
def isObj : HO → Bool
  | .lst _ => true
  | .ins _ _ _ => true
  | _ => false


theorem nomark (b : Expr) {op : CmpOp} (h : op ≠ .In := by decide) (h2 : op ≠ .NotIn := by decide) : behindInMarks op b = false := by
  have e1 : (op == CmpOp.In) = false := by cases op <;> first | rfl | exact absurd rfl h
  have e2 : (op == CmpOp.NotIn) = false := by cases op <;> first | rfl | exact absurd rfl h2
  cases b <;> simp [behindInMarks, e1, e2]
/-- a comparison as a value; hm: nomark b, or (for in, not in) by with_unfolding_all rfl -/
theorem pe_cmpR {op : CmpOp} {r : R2} (ho : OpR X (compareOp op) r) (ha : PE X a ta) (hb : PE X b tb) (hm : behindInMarks op b = false) : PE X (.Compare a [op] [b] pos) (tOp r ta tb) := by
  intro pins s σ H Q I h
  exact wpAny_Compare1 (binT ha hb I h fun v u s2 x y H2 I2 rx ry q => ho pins s2 σ H2 x y v u Q I2 rx ry q) hm
/-- a reading of a value as a test -/
def tTest (t : TE) : TT := fun σ H Q => t σ H fun x H' => ∃ k, x = .bl k ∧ Q k H'
theorem pt_cmpR {op : CmpOp} {r : R2} (ho : OpR X (compareOp op) r) (ha : PE X a ta) (hb : PE X b tb) (hm : behindInMarks op b = false) : PT X (.Compare a [op] [b] pos) (tTest (tOp r ta tb)) := by
  intro pins s σ H Q I h
  refine wpAny_isTrue_Compare1 (thn (ha pins s σ H _ I h) fun v s1 ⟨x, H1, I1, r1, q1⟩ => thn (hb pins s1 σ H1 _ I1 q1) fun u s2 ⟨y, H2, I2, r2, q2⟩ =>
    thn (ho pins s2 σ H2 x y v u _ I2 r1 r2 q2) fun c s3 ⟨z, H3, I3, r3, k, e, q3⟩ => ?_) hm
  subst e
  cases r3
  exact wpAny_truthy_bool ⟨H3, I3, q3⟩
/-- a op1 b op2 c -/
def tChain (r r' : R2) (ta tb tc : TE) : TE := fun σ H Q => ta σ H fun x H1 => tb σ H1 fun y H2 => r x y H2 fun z H3 => ∃ k, z = .bl k ∧
  (if k = true then tc σ H3 fun w' H4 => r' y w' H4 Q else Q (.bl false) H3)
theorem pe_chain {op op' : CmpOp} {r r' : R2} (ho : OpR X (compareOp op) r) (ho' : OpR X (compareOp op') r') (ha : PE X a ta) (hb : PE X b tb) (hc : PE X c tc)
    (hm : lastMarks [op, op'] [b, c] = false := by with_unfolding_all rfl) : PE X (.Compare a [op, op'] [b, c] pos) (tChain r r' ta tb tc) := by
  intro pins s σ H Q I h
  refine Compare_chain (thn (ha pins s σ H _ I h) fun v s1 ⟨x, H1, I1, r1, q1⟩ => chain_link (thn (hb pins s1 σ H1 _ I1 q1) fun u s2 ⟨y, H2, I2, r2, q2⟩ =>
    thn (ho pins s2 σ H2 x y v u _ I2 r1 r2 q2) fun d s3 ⟨z, H3, I3, r3, k, e, q3⟩ => ?_)) hm
  subst e
  cases r3
  refine wpAny_truthy_bool ?_
  cases k with
  | false => exact ite_ff ⟨.bl false, H3, I3, rfl, q3⟩
  | true => exact ite_tt (chain_last (thn (hc pins s3 σ H3 _ I3 q3) fun w' s4 ⟨z', H4, I4, r4, q4⟩ => ho' pins s4 σ H4 y z' u w' Q I4 r2 r4 q4))
theorem pt_chain {op op' : CmpOp} {r r' : R2} (ho : OpR X (compareOp op) r) (ho' : OpR X (compareOp op') r') (ha : PE X a ta) (hb : PE X b tb) (hc : PE X c tc)
    (hm : lastMarks [op, op'] [b, c] = false := by with_unfolding_all rfl) : PT X (.Compare a [op, op'] [b, c] pos) (tTest (tChain r r' ta tb tc)) := by
  intro pins s σ H Q I h
  refine isTrue_chain (thn (ha pins s σ H _ I h) fun v s1 ⟨x, H1, I1, r1, q1⟩ => test_link (thn (hb pins s1 σ H1 _ I1 q1) fun u s2 ⟨y, H2, I2, r2, q2⟩ =>
    thn (ho pins s2 σ H2 x y v u _ I2 r1 r2 q2) fun d s3 ⟨z, H3, I3, r3, k, e, q3⟩ => ?_)) hm
  subst e
  cases r3
  refine wpAny_truthy_bool ?_
  cases k with
  | false =>
    obtain ⟨k', e', q'⟩ := q3
    cases e'
    exact ite_ff ⟨H3, I3, q'⟩
  | true =>
    refine ite_tt (test_last (thn (hc pins s3 σ H3 _ I3 q3) fun w' s4 ⟨z', H4, I4, r4, q4⟩ => thn (ho' pins s4 σ H4 y z' u w' _ I4 r2 r4 q4) fun d' s5 ⟨z2, H5, I5, r5, k2, e2, q5⟩ => ?_))
    subst e2
    cases r5
    exact wpAny_truthy_bool ⟨H5, I5, q5⟩

/-! ### truth -/
/-- a value's truth by the abstract heap -/
def TruV (K : PySem.W.Frag) (x : V) (H : Hp) (k : Bool) : Prop :=
  match x with
  | .non => k = false
  | .bl b => k = b
  | .int i => k = (i != 0)
  | .str y => y.length ≤ sizeLine ∧ k = ((y.length : Int) != 0)
  | .byt y => y.size ≤ sizeLine ∧ k = ((y.size : Int) != 0)
  | .ref p => (∃ xs, SqL K H p xs ∧ k = !xs.isEmpty) ∨ (∃ xs, SqT K H p xs ∧ k = !xs.isEmpty) ∨ ∃ kvs, H p = some (.dK kvs) ∧ k = !kvs.isEmpty
  | _ => False
theorem line63 : (sizeLine : Nat) < 2 ^ 63 := by rw [sizeLine_eq]; decide

/-! ### strs and bytes -/
theorem op_add_str : OpR X (binaryOp .Add) (fun x y H Q => ∃ i j, x = .str i ∧ y = .str j ∧ i.length + j.length ≤ sizeLine ∧ Q (.str (i ++ j)) H) := by
  intro pins s σ H x y v u Q I rx ry h
  obtain ⟨i, j, rfl, rfl, hz, q⟩ := h
  obtain ⟨t, rfl⟩ := rx
  obtain ⟨t', rfl⟩ := ry
  exact add_str (fun t' tk => ⟨.str (i ++ j), H, I.tok _, ⟨_, rfl⟩, q⟩) hz

def PlainIxT (b : Expr) : Prop := ∀ o i, subscripted b false o i = operate [o, i] (getItem o i)

/-! ### scalar builtins, by CallR -/
theorem vals1 {x : V} {us : List Value} (r : Vals [x] us) : ∃ u, us = [u] ∧ RelV x u := by
  cases r with
  | cons r1 r2 => cases r2; exact ⟨_, rfl, r1⟩
theorem vals2 {x y : V} {us : List Value} (r : Vals [x, y] us) : ∃ u w', us = [u, w'] ∧ RelV x u ∧ RelV y w' := by
  cases r with
  | cons r1 r2 =>
    cases r2 with
    | cons r3 r4 => cases r4; exact ⟨_, _, rfl, r1, r3⟩
theorem call_abs : CallR X (.builtin "abs") (fun xs H Q => ∃ i, xs = [.int i] ∧ Q (.int (if i < 0 then -i else i)) H) := by
  intro pins s σ H xs us Q I r h
  obtain ⟨i, rfl, q⟩ := h
  obtain ⟨u, rfl, t, rfl⟩ := vals1 r
  exact call_abs_int fun u tk => ⟨.int (if i < 0 then -i else i), H, I.tok _, ⟨_, rfl⟩, q⟩
theorem call_str_int : CallR X (.type "str") (fun xs H Q => ∃ i, xs = [.int i] ∧ i.natAbs.log2 < 1920 ∧ Q (.str (toString i)) H) := by
  intro pins s σ H xs us Q I r h
  obtain ⟨i, rfl, hz, q⟩ := h
  obtain ⟨u, rfl, t, rfl⟩ := vals1 r
  exact PySem.P.str_of_int hz ⟨.str _, H, I.tok _, ⟨_, rfl⟩, q⟩
/-- len of a str, a bytes, a list, a tuple -/
def LenV (K : PySem.W.Frag) (x : V) (H : Hp) (n : Nat) : Prop :=
  match x with
  | .str y => y.length ≤ sizeLine ∧ n = y.length
  | .byt y => y.size ≤ sizeLine ∧ n = y.size
  | .ref p => (∃ xs, SqL K H p xs ∧ n = xs.length) ∨ ∃ xs, SqT K H p xs ∧ n = xs.length
  | _ => False
end
end L2

namespace L2
open PySem PySem.Spec PyProof.Rows

/-! ### an instance, its attributes a map -/
structure ObjM (h : Heap) (x dx C : Addr) (mA : Str → Option Value) : Prop where
  obj : h.get? x = some (PySem.W.instObj C dx)
  ns : h.Ns1 dx mA
  ne : dx ≠ x



section
variable {prog : Program} {w : World} {A : Around} {E : Value → Shared → Prop} {s : Shared} {K : PySem.W.Frag} {x dx C f : Addr} {mA : Str → Option Value} {name : Str} {v : Value}





end

/-! ### the attributes as a list of pairs -/
def putF (f : Str) (v : V) : List (Str × V) → List (Str × V)
  | [] => [(f, v)]
  | (g, x) :: r => if g = f then (g, v) :: r else (g, x) :: putF f v r


section
variable {P : Program} {w : World} {H H' : Hp} {h h' : Heap} {a C dx : Addr} {fs fs' : List (Str × V)}
end

/-! ### what of the text a class must have -/
structure Cls (K : PySem.W.Frag) (C : Addr) : Prop where
  pg : PySem.W.plainGet K C Str.empty = true
  hd : PySem.W.hasDictIn K C = true
  po : PySem.W.plainOver K C = true
  sa : PySem.W.findIn K (.ref C) "__setattr__" = some (some (.builtin "object.__setattr__"))
/-- no class of it has the name -/
def NoAttr (K : PySem.W.Frag) (C : Addr) (f : Str) : Prop := PySem.W.findIn K (.ref C) f = some none
/-- a constant of the class -/
structure Con (K : PySem.W.Frag) (C : Addr) (f : Str) (v : V) (u : Value) : Prop where
  at_ : PySem.W.findIn K (.ref C) f = some (some u)
  rel : RelV v u
  get : PySem.W.specialIn K u "__get__" = some none
  cp : PySem.W.copiedNames.contains f = false
/-- a method: a plain def of the class or of one above it -/
structure Meth (K : PySem.W.Frag) (C : Addr) (m : Str) (f : Addr) : Prop where
  at_ : PySem.W.findIn K (.ref C) m = some (some (.ref f))
  fn : PySem.W.isFn K (.ref f) = true
  kp : PySem.W.keepIn K (.ref f) = true

section
variable {X : Cx} {pins : List (Addr × Obj)} {σ : St} {H : Hp} {s : Shared} {a C dx : Addr} {fs : List (Str × V)} {f : Str} {v : V} {A : Around} {E : Value → Shared → Prop}






end

/-! ### readings and rules -/
/-- e.f, an attribute of the instance -/
def tFld (K : PySem.W.Frag) (ta : TE) (f : Str) : TE := fun σ H Q => ta σ H fun x H1 => ∃ a C dx fs v, x = .ref a ∧ H1 a = some (.ins C dx fs) ∧ Cls K C ∧ NoAttr K C f ∧ fs.lookup f = some v ∧ Q v H1
/-- e.f, a constant of the class -/
def tCon (K : PySem.W.Frag) (ta : TE) (f : Str) : TE := fun σ H Q => ta σ H fun x H1 => ∃ a C dx fs v u, x = .ref a ∧ H1 a = some (.ins C dx fs) ∧ Cls K C ∧ Con K C f v u ∧ fs.lookup f = none ∧ Q v H1
/-- e.f = value -/
def sFld (K : PySem.W.Frag) (ta tv : TE) (f : Str) : TS := fun D σ H => tv σ H fun y H1 => ta σ H1 fun x H2 => ∃ a C dx fs, x = .ref a ∧ H2 a = some (.ins C dx fs) ∧ Cls K C ∧ NoAttr K C f ∧ fs.length < 1000 ∧
  D.nx σ (upd H2 a (.ins C dx (putF f y fs)))
/-- an augmented operator on two values -/
def InOp (X : Cx) (op : Operator) (rd : V → V → Hp → VK → Prop) : Prop :=
  ∀ (pins : List (Addr × Obj)) (s : Shared) (σ : St) (H : Hp) (x y : V) (u v : Value) (Q : VK), Inv X pins σ H s → RelV x u → RelV y v → rd x y H Q → wpAny (model X.prog X.w) X.A (inplaceOp op u v) (EP X pins σ Q) X.xe s
/-- e.f op= value -/
def sFldAug (K : PySem.W.Frag) (ta tv : TE) (rd : V → V → Hp → VK → Prop) (f : Str) : TS := fun D σ H => ta σ H fun x H1 => ∃ a C dx fs v, x = .ref a ∧ H1 a = some (.ins C dx fs) ∧ Cls K C ∧ NoAttr K C f ∧ fs.lookup f = some v ∧
  tv σ H1 fun y H2 => rd v y H2 fun z H3 => ∃ dx' fs', H3 a = some (.ins C dx' fs') ∧ fs'.length < 1000 ∧ D.nx σ (upd H3 a (.ins C dx' (putF f z fs')))

section
variable {X : Cx} {o e value : Expr} {f : Str} {pos pos' tpos : Pos} {ta tv : TE}
def rAdd : V → V → Hp → VK → Prop := fun x y H Q => ∃ i j, x = .int i ∧ y = .int j ∧ Q (.int (i + j)) H
def rSub : V → V → Hp → VK → Prop := fun x y H Q => ∃ i j, x = .int i ∧ y = .int j ∧ Q (.int (i - j)) H

end

/-! ### isinstance -/
section
variable {X : Cx} {pins : List (Addr × Obj)} {σ : St} {H : Hp} {s : Shared} {A : Around} {E : Value → Shared → Prop} {Q : Value → Shared → Prop} {c : Value} {b : Bool}
/-- the type of a value, as the fragment's deciders take it; for an instance its class -/
inductive TyOf (K : PySem.W.Frag) (H : Hp) : V → Value → Prop where
  | non : TyOf K H .non (.type "NoneType")
  | bl (x : Bool) : TyOf K H (.bl x) (.type "bool")
  | int (i : Int) : TyOf K H (.int i) (.type "int")
  | str (x : Str) : TyOf K H (.str x) (.type "str")
  | flt (x : UInt64) : TyOf K H (.flt x) (.type "float")
  | lst {a : Addr} {xs : List V} (e : H a = some (.lst xs)) : TyOf K H (.ref a) (.type "list")
  | frz {a : Addr} {o : Obj} {xs : List V} (e : H a = some (.frz o (.lst xs))) : TyOf K H (.ref a) (.type "list")
  | tup {a : Addr} {xs : List V} (e : H a = some (.tup xs)) : TyOf K H (.ref a) (.type "tuple")
  | dK {a : Addr} {kvs : List (Key × V)} (e : H a = some (.dK kvs)) : TyOf K H (.ref a) (.type "dict")
  | dT {a : Addr} {kvs : List (List Key × V)} (e : H a = some (.dT kvs)) : TyOf K H (.ref a) (.type "dict")
  | ins {a C dx : Addr} {fs : List (Str × V)} (e : H a = some (.ins C dx fs)) (cl : Cls K C) (ha : PySem.W.findIn K (.ref C) "__class__" = some (some (.builtin "object.__class__")))
      (hn : PySem.W.specialIn K (.builtin "object.__class__") "__get__" = some (some (.builtin "getset_descriptor.__get__"))) (htk : PySem.W.takesIn K (.builtin "object.__class__") = some true)
      (hm : PySem.W.mroIn K C (.type "object") = some true) : TyOf K H (.ref a) (.ref C)
end
end L2

namespace L2
open PySem PySem.Spec PyProof.Rows

/-! ### room -/
structure Room (k : Nat) (A : Around) : Prop where
  hd : A.handled = none
  dp : A.depth + 3 * k + 5 < recursionLimit
  un : A.units + 16 * k + 200 < cLine
theorem Room.mono {j k : Nat} {A : Around} (r : Room k A) (h : j ≤ k) : Room j A := ⟨r.hd, by have := r.dp; omega, by have := r.un; omega⟩
theorem Room.deeper {k : Nat} {A : Around} (r : Room (k + 1) A) (env : Env) : Room k (A.deeper env) :=
  ⟨r.hd, by have := r.dp; show A.depth + 1 + 3 * k + 5 < _; omega, by have := r.un; show A.units + 3 + 16 * k + 200 < _; omega⟩
theorem Room.depth {k : Nat} {A : Around} (r : Room k A) : A.depth < recursionLimit := by have := r.dp; omega
theorem Room.units {k : Nat} {A : Around} (r : Room k A) : A.units + 64 < cLine := by have := r.un; omega

/-! ### argument lists and displays -/
def tNil : TA := fun _ H Q => Q [] H
def tCons (ta : TE) (tr : TA) : TA := fun σ H Q => ta σ H fun x H1 => tr σ H1 fun xs H2 => Q (x :: xs) H2
section
variable {X : Cx} {e : Expr} {es : List Expr} {te : TE} {t : TA} {pos : Pos}
theorem pa_nil : PA X [] tNil := fun _ _ _ _ H Q I h => Calls.spliced_nil ⟨[], H, I, .nil, h⟩
theorem pa_cons (ha : PE X e te) (hr : PA X es t) (hs : starEach (e :: es) X.env = (false, eval e X.env) :: starEach es X.env := by rfl) : PA X (e :: es) (tCons te t) := by
  intro pos pins s σ H Q I h
  rw [hs]
  show wpAny _ _ (spliced ((false, eval e X.env) :: backTo pos (starEach es X.env))) _ _ s
  refine Calls.spliced_cons (thn (ha pins s σ H _ I h) fun u s1 ⟨x, H1, I1, r1, q1⟩ => ?_)
  exact thn (hr pos pins s1 σ H1 _ I1 q1) fun us s2 ⟨xs, H2, I2, r2, q2⟩ => ⟨x :: xs, H2, I2, .cons r1 r2, q2⟩

/-- a tuple, a list of written items -/
def tTup (t : TA) : TE := fun σ H Q => t σ H fun xs H1 => xs.length ≤ sizeLine ∧ ∀ p, H1 p = none → Q (.ref p) (upd H1 p (.tup xs))
def tLst (t : TA) : TE := fun σ H Q => t σ H fun xs H1 => xs.length ≤ sizeLine ∧ ∀ p, H1 p = none → Q (.ref p) (upd H1 p (.lst xs))
theorem pe_tup {x1} (h : PA X es t) : PE X (.Tuple es x1 pos) (tTup t) := by
  intro pins s σ H Q I hq
  refine wpAny_Tuple_spliced (thn (h pos pins s σ H _ I hq) fun us s1 ⟨xs, H1, I1, r, z, q⟩ => ⟨by rw [← r.length]; exact z, ?_⟩)
  have hf : H1 s1.heap.objs.size = none := I1.hok.fresh (Nat.le_refl _)
  refine ⟨.ref s1.heap.objs.size, upd H1 s1.heap.objs.size (.tup xs), I1.laid (t' := s1.toks) (fun b u e => Heap.get?_push_of_some _ e) (Nat.le_refl _) ?_, rfl, q _ hf⟩
  exact ⟨z, us, r, ⟨_, Heap.get?_push_size _ rfl, rfl, _, rfl⟩⟩
theorem pe_lst (h : PA X es t) : PE X (.List es pos) (tLst t) := by
  intro pins s σ H Q I hq
  refine wpAny_List_spliced (thn (h pos pins s σ H _ I hq) fun us s1 ⟨xs, H1, I1, r, z, q⟩ => ⟨by rw [← r.length]; exact z, ?_⟩)
  have hf : H1 s1.heap.objs.size = none := I1.hok.fresh (Nat.le_refl _)
  refine ⟨.ref s1.heap.objs.size, upd H1 s1.heap.objs.size (.lst xs), I1.laid (t' := s1.toks) (fun b u e => Heap.get?_push_of_some _ e) (Nat.le_refl _) ?_, rfl, q _ hf⟩
  exact ⟨z, us, 0, r, Heap.get?_push_size _ rfl⟩
end

/-! ### what a def promises -/
/-- a def's promise: the bound arguments in the parameters' order, the heap, the wanted end, the wanted exception -/
abbrev Sp := List V → Hp → VK → XK → Prop
/-- how an exception lies behind a call (file 08 gives it): the callers' frames, abstract heap and state ahead of the call, the wish, the exception, the state -/
abbrev CXT := List Env → Hp → Shared → XK → Value → Shared → Prop

/-- the state at a call -/
structure Env0 (P : Program) (w : World) (K : PySem.W.Frag) (mg : Str → Option Value) (base : Heap) (A : Around) (outer : List Env) (s : Shared) (H : Hp) : Prop where
  frames : A.frames = some outer
  mod : Mod K mg base
  bs : ∀ b o, base.get? b = some o → s.heap.get? b = some o ∧ H b = none
  bsz : base.objs.size ≤ s.heap.objs.size
  funs : s.heap.FunFrames base outer
  frf : ∀ b ∈ frs outer, H b = none
  hok : HOk P w H s.heap
  bare : AllBare s.gens
/-- a call's end -/
def CE (outer : List Env) (P : Program) (w : World) (H : Hp) (s : Shared) (Q : VK) (u : Value) (s' : Shared) : Prop :=
  ∃ v H', s'.os = s.os ∧ AllBare s'.gens ∧ Un (frs outer) [] H H' s.heap s'.heap ∧ HOk P w H' s'.heap ∧ RelV v u ∧ Q v H'
def CR (CX : CXT) (outer : List Env) (P : Program) (w : World) (H : Hp) (s : Shared) (Q : VK) (E : XK) (r : Result) (s' : Shared) : Prop :=
  match r with
  | .ok (.ret u) => CE outer P w H s Q u s'
  | .ok _ => False
  | .error e => CX outer H s E e s'
structure FnOk (P : Program) (w : World) (K : PySem.W.Frag) (mg : Str → Option Value) (base : Heap) (CX : CXT) (k : Nat) (f : Addr) (fd : FuncData) (ps : List Str) (sp : Sp) : Prop where
  len : ∀ vs H Q E, sp vs H Q E → vs.length = ps.length
  run : ∀ (A : Around) (outer : List Env) (s : Shared) (H : Hp) (args : Args) (us : List Value) (vs : List V) (Q : VK) (E : XK), Room k A → Env0 P w K mg base A outer s H → BindsTo s fd args (ps.zip us) → Vals vs us → sp vs H Q E →
    codeAny (model P w) A (.call (.ref f) args) (CR CX outer P w H s Q E) s


section
variable {X : Cx} {pins : List (Addr × Obj)} {σ : St} {H : Hp} {s s' : Shared}
/-- from a body: what a callee wants -/
theorem Inv.env0 (I : Inv X pins σ H s) : Env0 X.prog X.w X.K X.mg X.base X.A X.stack s H :=
  ⟨I.ok.frames, I.ok.mod, I.bs, Nat.le_trans I.ok.bsz I.sz, I.stack, I.stkFree, I.hok, I.bare⟩
/-- behind a call -/
theorem Inv.after {Q : VK} {u : Value} (I : Inv X pins σ H s) (h : CE X.stack X.prog X.w H s Q u s') : EP X pins σ Q u s' := by
  obtain ⟨v, H', os, bare, un, hok, r, q⟩ := h
  obtain ⟨hh, g, d, t, os'⟩ := s'
  obtain rfl : os' = s.os := os
  exact ⟨v, H', I.call (h' := hh) (g' := g) (d' := d) (t' := t) (ch := []) un hok bare (fun b z => absurd z (by simp)), r, q⟩
end

/-! ### calls -/
/-- f(..): the written arguments, then the defaults dvs; E: what is wanted of an exception -/
def tCall (sp : Sp) (dvs : List V) (E : XK) (t : TA) : TE := fun σ H Q => t σ H fun vs H1 => sp (vs ++ dvs) H1 Q E
/-- o.m(..) of an instance of the class at C -/
def tMeth (C : Addr) (m : Str) (sp : Sp) (dvs : List V) (E : XK) (ta : TE) (t : TA) : TE := fun σ H Q => ta σ H fun x H1 => ∃ a dx fs, x = .ref a ∧ H1 a = some (.ins C dx fs) ∧ fs.lookup m = none ∧
  t σ H1 fun vs H2 => sp (x :: (vs ++ dvs)) H2 Q E
/-- C(..): a new instance and its dict, then __init__ -/
def tMake (C : Addr) (sp : Sp) (dvs : List V) (E : XK) (t : TA) : TE := fun σ H Q => t σ H fun vs H1 => ∀ x dx, H1 x = none → H1 dx = none → dx ≠ x →
  sp (.ref x :: (vs ++ dvs)) (upd (upd H1 dx (.own x)) x (.ins C dx [])) (fun v H2 => v = .non ∧ Q (.ref x) H2) E

/-- how the parameters are bound: us the positional arguments, kw the keywords' values by name, ds the defaults that fill up -/
def Binds (K : PySem.W.Frag) (fd : FuncData) (ps : List Str) (ds : List Value) : Prop :=
  ∀ (s : Shared) (us : List Value), K.In s.heap → (us ++ ds).length = ps.length → BindsTo s fd ⟨us, []⟩ (ps.zip (us ++ ds))
/-- every parameter is given -/
theorem Binds.all {K : PySem.W.Frag} {fd : FuncData} {ps : List Str} (h : ∀ us : List Value, us.length = ps.length → bindArgs fd ⟨us, []⟩ = pure (ps.zip us)) : Binds K fd ps [] := fun s us _ hl => by
  rw [List.append_nil] at hl ⊢
  exact .of_eq (h us hl)

/-- an exception of a callee reaches what this body wants of exceptions -/
def Passes (CX : CXT) (X : Cx) (E : XK) : Prop := ∀ (pins : List (Addr × Obj)) (σ : St) (H : Hp) (s : Shared) (e : Value) (s' : Shared), Inv X pins σ H s → CX X.stack H s E e s' → X.xe e s'

section
variable {X : Cx} {CX : CXT} {k : Nat} {f C : Addr} {fd : FuncData} {ps : List Str} {sp : Sp} {dvs : List V} {ds : List Value} {E : XK} {x m : Str} {p pos apos : Pos} {e o : Expr} {es : List Expr} {ta : TE} {t : TA}

/-- the callee runs -/
theorem run_fn {pins : List (Addr × Obj)} {σ : St} {H : Hp} {s : Shared} {Q : VK} {us : List Value} {vs : List V} (F : FnOk X.prog X.w X.K X.mg X.base CX k f fd ps sp) (hr : Room k X.A) (hb : Binds X.K fd ps ds) (hd : Vals dvs ds) (hx : Passes CX X E)
    (I : Inv X pins σ H s) (r : Vals vs us) (h : sp (vs ++ dvs) H Q E) : wpAny (model X.prog X.w) X.A (call (.ref f) us) (EP X pins σ Q) X.xe s := by
  have r2 : Vals (vs ++ dvs) (us ++ ds) := r.append hd
  have hl : (us ++ ds).length = ps.length := by rw [← r2.length]; exact F.len _ _ _ _ h
  refine wpAny_call (codeAny_mono (F.run X.A X.stack s H ⟨us, []⟩ (us ++ ds) (vs ++ dvs) Q E hr I.env0 (hb s us I.kIn hl) r2 h) fun r s' hq => ?_)
  cases r with
  | error e => exact hx pins σ H s e s' I hq
  | ok fl =>
    cases fl with
    | ret u => exact I.after hq
    | next => exact False.elim hq
    | brk => exact False.elim hq
    | cont => exact False.elim hq

theorem pe_call (F : FnOk X.prog X.w X.K X.mg X.base CX k f fd ps sp) (hr : Room k X.A) (hg : Gl X x) (hm : X.mg x = some (.ref f)) (hk : PySem.W.keepIn X.K (.ref f) = true) (hb : Binds X.K fd ps ds) (hd : Vals dvs ds) (hx : Passes CX X E)
    (ha : PA X (e :: es) t) (hdb : (x == ("__debug__" : Str)) = false := by decide) (he : starEach (e :: es) X.env = (false, eval e X.env) :: starEach es X.env := by rfl) (hpl : (backTo pos (starEach es X.env)).any (·.1) = false := by rfl) :
    PE X (.Call (.Name x p) (e :: es) [] pos) (tCall sp dvs E t) := by
  intro pins s σ H Q I h
  refine wpAny_Call_Name_kw (ld_glob I hg hm ?_ hdb)
  refine PySem.W.callWith_K (h₀ := X.base) I.ok.mod.kin hk (thn (ha pos pins s σ H _ I h) fun us s1 ⟨vs, H1, I1, r, q⟩ => ⟨I1.kIn, ?_⟩) he hpl
  exact run_fn F hr hb hd hx I1 r q


/-- what a class must have to be made -/
structure Mk (K : PySem.W.Frag) (C f : Addr) : Prop where
  makes : PySem.W.makesIn K C = true
  init : PySem.W.findIn K (.ref C) "__init__" = some (some (.ref f))
  fn : PySem.W.isFn K (.ref f) = true
  kp : PySem.W.keepIn K (.ref C) = true

end

/-! ### keywords -/
/-- the values of the keywords, from the left -/
def PK (X : Cx) (kws : List Keyword) (t : TA) : Prop :=
  ∀ (pos : Pos) (pins : List (Addr × Obj)) (s : Shared) (σ : St) (H : Hp) (Q : List V → Hp → Prop), Inv X pins σ H s → t σ H Q → wpAny (model X.prog X.w) X.A (evalAll ((backToKw pos (keywordEach kws X.env)).map (·.2))) (AP X pins σ Q) X.xe s
section
variable {X : Cx} {CX : CXT} {k : Nat} {f C : Addr} {fd : FuncData} {ps ks : List Str} {sp : Sp} {E : XK} {x m : Str} {p pos apos kpos : Pos} {e o : Expr} {es : List Expr} {kws : List Keyword} {te ta : TE} {t tk : TA} {nm : Option Str}

/-- how a call with keywords binds: g puts the positional values us and the keywords' values ws (names ks) in the parameters' order, defaults among them -/
structure KBinds (K : PySem.W.Frag) (fd : FuncData) (ps ks : List Str) (g : List Value → List Value → List Value) (gV : List V → List V → List V) : Prop where
  to : ∀ (s : Shared) (us ws : List Value), K.In s.heap → (g us ws).length = ps.length → BindsTo s fd ⟨us, ks.zip ws⟩ (ps.zip (g us ws))
  rel : ∀ {vs : List V} {us : List Value} {zs : List V} {ws : List Value}, Vals vs us → Vals zs ws → Vals (gV vs zs) (g us ws)
def tCallK (sp : Sp) (gV : List V → List V → List V) (E : XK) (t tk : TA) : TE := fun σ H Q => t σ H fun vs H1 => tk σ H1 fun zs H2 => sp (gV vs zs) H2 Q E
variable {g : List Value → List Value → List Value} {gV : List V → List V → List V}
end

/-! ### a def's body keeps its promise -/
/-- names: the parameters first -/
structure FnScope (N P : List Str) (sc : Scope) : Prop where
  kind : sc.kind = .function
  co : sc.isCoroutine = false
  gen : sc.isGenerator = false
  nd : N.Nodup
  pre : N.take P.length = P
  par : ∀ x ∈ P, sc.names.lookup x = some .local ∨ sc.names.lookup x = some .cell
  nofree : ∀ y ∈ sc.names, y.2 ≠ .free

theorem bindL_out {kindOf : Str → Option NameKind} {x : Str} : ∀ {binds : List (Str × Value)} {m : Str → Option Value}, (∀ v, (x, v) ∉ binds) → bindL kindOf binds m x = m x
  | [], _, _ => rfl
  | (n, v) :: r, m, h => by
    unfold bindL
    rw [bindL_out fun w hw => h w (List.mem_cons_of_mem _ hw)]
    split
    · have : x ≠ n := by rintro rfl; exact h v List.mem_cons_self
      simp [this]
    · rfl
theorem bindC_out {kindOf : Str → Option NameKind} {x : Str} : ∀ {binds : List (Str × Value)} {m : Str → Option Value}, (∀ v, (x, v) ∉ binds) → bindC kindOf binds m x = m x
  | [], _, _ => rfl
  | (n, v) :: r, m, h => by
    unfold bindC
    rw [bindC_out fun w hw => h w (List.mem_cons_of_mem _ hw)]
    split
    · rfl
    · have : x ≠ n := by rintro rfl; exact h v List.mem_cons_self
      simp [this]
theorem bindL_get {kindOf : Str → Option NameKind} {x : Str} {v : Value} : ∀ {P : List Str} {vs : List Value} {i : Nat} {m : Str → Option Value}, P.Nodup → P[i]? = some x → vs[i]? = some v → kindOf x = some .local →
    bindL kindOf (P.zip vs) m x = some v
  | [], _, _, _, _, h, _, _ => by simp at h
  | _ :: _, [], _, _, _, _, h, _ => by simp at h
  | p :: P, w :: vs, 0, m, nd, h1, h2, hk => by
    simp at h1 h2; subst h1; subst h2
    show bindL kindOf ((p, w) :: P.zip vs) m p = _
    unfold bindL
    rw [bindL_out fun v hv => (List.nodup_cons.mp nd).1 (List.of_mem_zip hv).1, if_pos hk]
    simp
  | p :: P, w :: vs, i + 1, m, nd, h1, h2, hk => by
    show bindL kindOf ((p, w) :: P.zip vs) m x = _
    unfold bindL
    exact bindL_get (i := i) (List.nodup_cons.mp nd).2 (by simpa using h1) (by simpa using h2) hk
theorem bindC_get {kindOf : Str → Option NameKind} {x : Str} {v : Value} : ∀ {P : List Str} {vs : List Value} {i : Nat} {m : Str → Option Value}, P.Nodup → P[i]? = some x → vs[i]? = some v → kindOf x ≠ some .local →
    bindC kindOf (P.zip vs) m x = some v
  | [], _, _, _, _, h, _, _ => by simp at h
  | _ :: _, [], _, _, _, _, h, _ => by simp at h
  | p :: P, w :: vs, 0, m, nd, h1, h2, hk => by
    simp at h1 h2; subst h1; subst h2
    show bindC kindOf ((p, w) :: P.zip vs) m p = _
    unfold bindC
    rw [bindC_out fun v hv => (List.nodup_cons.mp nd).1 (List.of_mem_zip hv).1, if_neg hk]
    simp
  | p :: P, w :: vs, i + 1, m, nd, h1, h2, hk => by
    show bindC kindOf ((p, w) :: P.zip vs) m x = _
    unfold bindC
    exact bindC_get (i := i) (List.nodup_cons.mp nd).2 (by simpa using h1) (by simpa using h2) hk

/-- the names' values at the entry -/
def start (N : List Str) (vs : List V) : St := vs.map some ++ List.replicate (N.length - vs.length) none

/-- the context of a def's body, at its entry; an exception leaves the frame, then lies as CX says -/
def cxOf (CX : CXT) (P : Program) (w : World) (K : PySem.W.Frag) (mg : Str → Option Value) (base : Heap) (N : List Str) (qual : Str) (scope : Scope) (f : Addr) (cd : Value) (A : Around) (outer : List Env) (s : Shared) (H : Hp) (E : XK) : Cx where
  prog := P
  w := w
  K := K
  mg := mg
  base := base
  A := A.deeper (envOfC qual scope s.heap.objs.size f cd)
  N := N
  s₀ := s
  H₀ := H
  env := envOfC qual scope s.heap.objs.size f cd
  outer := outer
  stack := envOfC qual scope s.heap.objs.size f cd :: outer
  ex := []
  calm := true
  fn := fun _ => true
  pn := []
  xe := fun e s' => wpAny (model P w) (A.deeper (envOfC qual scope s.heap.objs.size f cd)) (leaving (envOfC qual scope s.heap.objs.size f cd) e) (fun _ s'' => CX outer H s E e s'') (fun e' s'' => CX outer H s E e' s'') s'

theorem cell_has {sc : Scope} {n : Nat} {x : Str} (h : sc.names.lookup x = some .cell) : ∃ c, (cellsFrom n sc.names []).lookup x = some c := by
  have q := PySem.W.cellsFrom_some sc.names n [] (.inl h)
  exact Option.isSome_iff_exists.mp q

theorem inv_start {CX : CXT} {P : Program} {w : World} {K : PySem.W.Frag} {mg : Str → Option Value} {base : Heap} {N ps : List Str} {qual : Str} {scope : Scope} {f : Addr} {cd : Value} {A : Around} {outer : List Env} {s s1 : Shared} {H : Hp} {E : XK} {us : List Value} {vs : List V}
    (S : FnScope N ps scope) (hd : A.handled = none) (e0 : Env0 P w K mg base A outer s H) (hl : vs.length = ps.length) (r : Vals vs us)
    (x : InCallC s s.heap.objs.size (bindL (envOfC qual scope s.heap.objs.size f cd).kindOf (ps.zip us) fun _ => none) (cellsFrom (s.heap.objs.size + 1) scope.names []) (bindC (envOfC qual scope s.heap.objs.size f cd).kindOf (ps.zip us) fun _ => none) s1) :
    Inv (cxOf CX P w K mg base N qual scope f cd A outer s H E) [] (start N vs) H s1 := by
  have hpl : ps.length ≤ N.length := by have := congrArg List.length S.pre; rw [List.length_take] at this; omega
  obtain ⟨h1, tk, rfl, hk⟩ := x.done
  have noA : ∀ b : Addr, b ∉ (cxOf CX P w K mg base N qual scope f cd A outer s H E).ex := fun b z => absurd (show b ∈ ([] : List Addr) from z) (by simp)
  refine ⟨⟨e0.mod, S.kind, rfl, rfl, Nat.le_refl _, fun y z c h1 h2 => ?_, fun y hy => ?_, fun y c _ h => ?_, fun _ => hd, Around.frames_deeper e0.frames, .inr ⟨rfl, rfl⟩, fun b z => absurd z (noA b), e0.bs, e0.bsz, fun b _ _ => noA b, fun b z => absurd z (noA b), e0.funs, e0.frf⟩,
    rfl, e0.bare, Un.kept hk, ⟨_, x.toInCall.ns, fun i y v h1 h2 h3 => ?_⟩, fun y c h => ⟨_, x.cell y c h⟩, e0.hok.fresh (Nat.le_refl _), fun y c h => ?_, fun p hp => absurd (show p ∈ ([] : List (Addr × Obj)) from hp) (by simp), e0.hok.kept hk, ?_⟩
  · exact name_of_addr x.apart (PySem.mem_of_lookup h1) (PySem.mem_of_lookup h2)
  · have hy : scope.names.lookup y = some .cell ∨ scope.names.lookup y = some .free := hy
    rcases hy with hy | hy
    · exact cell_has hy
    · exact absurd rfl (S.nofree _ (PySem.mem_of_lookup hy))
  · exact Nat.le_of_lt (x.above y c (PySem.mem_of_lookup h))
  · have hi : i < vs.length := by
      unfold start at h2
      by_cases hi : i < vs.length
      · exact hi
      · rw [List.getElem?_append_right (by simpa using hi)] at h2
        rw [List.getElem?_replicate] at h2
        split at h2 <;> cases h2
    have ha : vs[i]? = some v := by
      unfold start at h2
      rw [List.getElem?_append_left (by simpa using hi), List.getElem?_map] at h2
      cases e : vs[i]? with
      | none => rw [e] at h2; cases h2
      | some a => rw [e] at h2; cases h2; rfl
    obtain ⟨u, hu, rv⟩ := r.get ha
    have hp : ps[i]? = some y := by
      rw [← S.pre, List.getElem?_take_of_lt (by omega)]; exact h1
    have ndP : ps.Nodup := by rw [← S.pre]; exact S.nd.sublist (List.take_sublist _ _)
    refine ⟨u, rv, ?_⟩
    rcases S.par y (List.mem_of_getElem? hp) with k | k
    · exact .inl ⟨k, bindL_get ndP hp hu k⟩
    · obtain ⟨c, e⟩ := cell_has (n := s.heap.objs.size + 1) k
      refine .inr ⟨.inl k, c, e, ?_⟩
      have q := x.cell y c e
      rw [bindC_get ndP hp hu (by show scope.names.lookup y ≠ _; rw [k]; decide)] at q
      exact q
  · exact e0.hok.fresh (Nat.le_of_lt (x.above y c (PySem.mem_of_lookup h)))
  · unfold start
    show _ = N.length
    rw [List.length_append, List.length_map, List.length_replicate]
    omega

/-- THE RULE: a def (or a method) of the text, by its body. The body's reading t is chosen for each entry; it is run at the parameters' values -/
theorem fn_of {CX : CXT} {P : Program} {w : World} {K : PySem.W.Frag} {mg : Str → Option Value} {base : Heap} {k : Nat} {f : Addr} {name qual : Str} {params : Arguments} {body : List Stmt} {scope : Scope} {dV kV doc pm cdv ct oc : Value} {an od : Option Addr}
    {osl : Array (Option Value)} {N ps : List Str} {sp : Sp} (lk : K.lookup f = some ⟨oc, od, .func (PySem.W.fnOf name qual params body scope dV kV doc pm an cdv ct), osl⟩) (hcd : PySem.W.codeIn K cdv qual = true) (S : FnScope N ps scope)
    (len : ∀ vs H Q E, sp vs H Q E → vs.length = ps.length)
    (hbody : ∀ (A : Around) (outer : List Env) (s : Shared) (H : Hp) (vs : List V) (Q : VK) (E : XK), Room k (A.deeper (envOfC qual scope s.heap.objs.size f cdv)) → sp vs H Q E →
      ∃ t, PSs (cxOf CX P w K mg base N qual scope f cdv A outer s H E) body t ∧ t { nx := fun _ H' => Q .non H', rt := Q } (start N vs) H) :
    FnOk P w K mg base CX (k + 1) f (PySem.W.fnOf name qual params body scope dV kV doc pm an cdv ct) ps sp := by
  refine ⟨len, fun A outer s H args us vs Q E hr e0 hb r hsp => ?_⟩
  have hl := len _ _ _ _ hsp
  have KX : K.In s.heap := e0.mod.kin.keeps fun b o e => (e0.bs b o e).1
  have lim : s.heap.NoLimit := e0.mod.nolimit.keeps fun b o e => (e0.bs b o e).1
  have hkind : ∀ y ∈ ps.zip us, scope.names.lookup y.1 = some .local ∨ (scope.names.lookup y.1 = some .cell ∧ ((cellsFrom (s.heap.objs.size + 1) scope.names []).lookup y.1).isSome = true) := fun ⟨n, v⟩ hy => by
    rcases S.par n (List.of_mem_zip hy).1 with q | q
    · exact .inl q
    · exact .inr ⟨q, PySem.W.cellsFrom_some _ _ _ (.inl q)⟩
  refine codeAny_call_function hr.depth (KX _ _ lk) rfl S.co S.gen rfl (PySem.W.codeRec_of KX hcd) (hb _ _ _ _ ?_)
  refine wpAny_newFunctionEnv_cells S.kind hkind fun env he s1 x => ?_
  subst he
  refine ⟨lim.keeps x.toInCall.keep, codeAny_func ?_⟩
  obtain ⟨t, ht, hq⟩ := hbody A outer s H vs Q E (hr.deeper _) hsp
  have I : Inv (cxOf CX P w K mg base N qual scope f cdv A outer s H E) [] (start N vs) H s1 := inv_start S hr.hd e0 hl r x
  refine wpAny_mono (ht [] s1 (start N vs) H _ I hq) (fun fl s' hs => ?_) fun e s' hs => hs
  have fin : ∀ {σ' : St} {H' : Hp} {v : V} {u : Value}, Inv (cxOf CX P w K mg base N qual scope f cdv A outer s H E) [] σ' H' s' → RelV v u → Q v H' → CE outer P w H s Q u s' :=
    fun {σ' H' v u} J rv q => ⟨v, H', J.os, J.bare, J.base, J.hok, rv, q⟩
  cases fl with
  | ret u =>
    obtain ⟨v, σ', H', J, rv, q⟩ := hs
    exact fin J rv q
  | next =>
    obtain ⟨σ', H', J, q⟩ := hs
    exact fin (v := V.non) (u := Value.none) J rfl q
  | brk =>
    obtain ⟨_, _, _, q⟩ := hs
    exact False.elim q
  | cont =>
    obtain ⟨_, _, _, q⟩ := hs
    exact False.elim q
end L2

namespace L2
open PySem PySem.Spec PyProof.Rows
section
variable {X : Cx} {x : Str} {p pos : Pos} {e : Expr} {es : List Expr} {t : TA} {id T : String} {r : List V → Hp → VK → Prop}

def tCB (r : List V → Hp → VK → Prop) (t : TA) : TE := fun σ H Q => t σ H fun vs H1 => r vs H1 Q
/-- f(e, ..), f a built-in function -/
theorem pe_callB (hc : CallR X (.builtin id) r) (hg : Gl X x) (hm : X.mg x = none) (hv : bootBuiltins x = some (.builtin id)) (ha : PA X (e :: es) t) (hn : x ≠ "__name__" := by decide) (hdb : (x == ("__debug__" : Str)) = false := by decide)
    (he : starEach (e :: es) X.env = (false, eval e X.env) :: starEach es X.env := by rfl) (hpl : (backTo pos (starEach es X.env)).any (·.1) = false := by rfl) : PE X (.Call (.Name x p) (e :: es) [] pos) (tCB r t) := by
  intro pins s σ H Q I h
  refine wpAny_Call_Name_kw (ld_blt I hg hm hv ?_ hn hdb)
  exact PyProof.Rows.callWith_builtin1 (thn (ha pos pins s σ H _ I h) fun us s1 ⟨vs, H1, I1, r1, q1⟩ => hc pins s1 σ H1 vs us Q I1 r1 q1) he hpl
/-- T(e, ..), T a built-in type -/
theorem pe_callTy (hc : CallR X (.type T) r) (hg : Gl X x) (hm : X.mg x = none) (hv : bootBuiltins x = some (.type T)) (ha : PA X (e :: es) t) (hn : x ≠ "__name__" := by decide) (hdb : (x == ("__debug__" : Str)) = false := by decide)
    (he : starEach (e :: es) X.env = (false, eval e X.env) :: starEach es X.env := by rfl) (hpl : (backTo pos (starEach es X.env)).any (·.1) = false := by rfl) : PE X (.Call (.Name x p) (e :: es) [] pos) (tCB r t) := by
  intro pins s σ H Q I h
  refine wpAny_Call_Name_kw (ld_blt I hg hm hv ?_ hn hdb)
  exact PyProof.Rows.callWith_type1 (thn (ha pos pins s σ H _ I h) fun us s1 ⟨vs, H1, I1, r1, q1⟩ => hc pins s1 σ H1 vs us Q I1 r1 q1) he hpl
end
end L2

namespace HT
open PySem PyProof.Rows

/-- t < u of tuples of ints -/
def lexLt : List Int → List Int → Bool
  | [], [] => false
  | [], _ :: _ => true
  | _ :: _, [] => false
  | x :: xs, y :: ys => if x = y then lexLt xs ys else decide (x < y)


section
open PySem.SeqAt
open PySem.AutoSeq1 (wpAny_loadPart')
open PySem.MeetsSeq PySem.MeetsSeq2 PySem.MeetsSeq3

end

section
variable {prog : Program} {w : World} {A : Around} {E : Value → Shared → Prop} {s : Shared}


/-- t + u, t not empty -/
theorem cat_tup {t b : Addr} {vs ws : List Value} {Q : Value → Shared → Prop} (ht : IsTup s.heap t vs.toArray) (hb : IsTup s.heap b ws.toArray) (hv : vs ≠ [])
    (h1 : ws = [] → Q (.ref t) s) (h2 : ws ≠ [] → Q (.ref s.heap.objs.size) { s with heap := s.heap.push { cls := .type "tuple", data := .seq (vs ++ ws).toArray } })
    (hsz : vs.length + ws.length ≤ sizeLine) : wpAny (model prog w) A (binaryOp .Add (.ref t) (.ref b)) Q E s := by
  obtain ⟨⟨cls, dd, data, sl⟩, ho, hc, n, hd⟩ := id ht
  obtain ⟨⟨cls2, dd2, data2, sl2⟩, ho2, hc2, n2, hd2⟩ := id hb
  simp only at hc hd hc2 hd2
  subst hc hd hc2 hd2
  have e : vs.toArray ++ ws.toArray = (vs ++ ws).toArray := by simp
  by_cases hw : ws = []
  · exact concat_meets ⟨_, ho, rfl⟩ ⟨_, ho2, rfl⟩ noFill_tuple_add seq_tuple_add PySem.F.slot_tuple_add PySem.F.entry_tuple_add (PySem.F.args_tuple_add_2 _ _)
      (tuple_addW1 t b vs.toArray ws.toArray n n2 dd dd2 sl sl2 (by simpa using hv) (by simp [hw])) ⟨ho, ho2, h1 hw⟩
  · refine concat_meets ⟨_, ho, rfl⟩ ⟨_, ho2, rfl⟩ noFill_tuple_add seq_tuple_add PySem.F.slot_tuple_add PySem.F.entry_tuple_add (PySem.F.args_tuple_add_2 _ _)
      (tuple_addW2 t b vs.toArray ws.toArray n n2 dd dd2 sl sl2 (by simpa using hv) (by simpa using hw) (by rw [List.size_toArray, List.size_toArray]; exact hsz)) ⟨ho, ho2, ?_⟩
    rw [e]
    exact h2 hw

/-! ### t[a:b], not the whole -/
/-- a slice's bound as a place among n (d where it is left out) -/
def sIx (n d : Nat) : Option Int → Nat
  | none => d
  | some v => if v < 0 then (v + (n : Int)).toNat else min v.toNat n
theorem sIx_le (n d : Nat) (hd : d ≤ n) (o : Option Int) : sIx n d o ≤ n := by
  cases o with
  | none => exact hd
  | some v =>
    show (if v < 0 then (v + (n : Int)).toNat else min v.toNat n) ≤ n
    by_cases hv : v < 0
    · rw [if_pos hv]; omega
    · rw [if_neg hv]; exact Nat.min_le_right _ _
theorem clip_eq (v : Int) (n d : Nat) : (if v < 0 then max (v + (n : Int)) 0 else min v (n : Int)) = ((sIx n d (some v) : Nat) : Int) := by
  show (if v < 0 then max (v + (n : Int)) 0 else min v (n : Int)) = (((if v < 0 then (v + (n : Int)).toNat else min v.toNat n) : Nat) : Int)
  by_cases hv : v < 0
  · simp only [if_pos hv]; omega
  · simp only [if_neg hv]; omega
theorem adjust_gen (lo hi : Option Int) (n : Nat) : Builtin.Slice.sliceAdjust lo hi 1 (n : Int) = (((sIx n 0 lo : Nat) : Int), ((sIx n n hi : Nat) : Int)) := by
  have h1 : ¬ ((1 : Int) < 0) := by omega
  unfold Builtin.Slice.sliceAdjust
  simp only [h1, if_false]
  refine Prod.ext ?_ ?_
  · cases lo with
    | none => rfl
    | some v => exact clip_eq v n 0
  · cases hi with
    | none => rfl
    | some v => exact clip_eq v n n
theorem places_gen (i j : Nat) : Builtin.Slice.slicePlaces (i : Int) (j : Int) 1 = j - i := by
  unfold Builtin.Slice.slicePlaces
  have h1 : (1 : Int) > 0 := by omega
  simp only [h1, if_true, Int.ediv_one]
  split <;> omega
theorem slicePart_ {v : Value} {o : Option Int} {Q : Option Int → Shared → Prop} (p : IsPart v o) (h : Q o s) : wpAny (model prog w) A (Builtin.Slice.slicePartIndex v) Q E s := by
  cases p with
  | none => exact slicePart_none h
  | int i t => exact slicePart_int h
theorem sliceApplied_gen {sl : Addr} {vl vu : Value} {lo hi : Option Int} {n : Nat} {Q : Int × Int × Nat → Shared → Prop} (hs : s.heap.IsSliceOf sl vl vu .none) (pl : IsPart vl lo) (pu : IsPart vu hi)
    (h : Q (((sIx n 0 lo : Nat) : Int), 1, sIx n n hi - sIx n 0 lo) s) : wpAny (model prog w) A (Builtin.Slice.sliceApplied (.ref sl) (pure (n : Int))) Q E s := by
  obtain ⟨os, hos, hcs, hds⟩ := id hs
  unfold Builtin.Slice.sliceApplied Builtin.Slice.sliceFields
  refine wpAny_bind (wpAny_bind (wpAny_field hos hds (x := vl) rfl (wpAny_bind (wpAny_field hos hds (x := vu) rfl (wpAny_bind (wpAny_field hos hds (x := .none) rfl (wpAny_pure ?_)))))))
  refine wpAny_bind (slicePart_none ?_)
  show wpAny _ _ (if ((1 : Int) == 0) = true then _ else _) _ _ s
  rw [if_neg (by decide)]
  refine wpAny_bind (slicePart_ pl (wpAny_bind (slicePart_ pu (wpAny_bind (wpAny_pure ?_)))))
  show wpAny _ _ (match Builtin.Slice.sliceAdjust lo hi 1 (n : Int) with | (lo, hi) => pure (lo, (1 : Int), Builtin.Slice.slicePlaces lo hi 1)) _ _ s
  rw [adjust_gen lo hi n]
  show wpAny _ _ (pure (((sIx n 0 lo : Nat) : Int), (1 : Int), Builtin.Slice.slicePlaces ((sIx n 0 lo : Nat) : Int) ((sIx n n hi : Nat) : Int) 1)) _ _ s
  rw [places_gen]
  exact wpAny_pure h
theorem pick_gen (xs : Array Value) (i k : Nat) : ((List.range k).filterMap fun (m : Nat) => xs[((i : Int) + (m : Int) * 1).toNat]?).toArray = ((xs.toList.drop i).take k).toArray := by
  have e : (fun (m : Nat) => xs[((i : Int) + (m : Int) * 1).toNat]?) = fun m => xs[i + m]? := by
    funext m
    have : ((i : Int) + (m : Int) * 1).toNat = i + m := by omega
    rw [this]
  rw [e]
  have := pick_run xs i k
  rw [List.filterMap_map] at this
  have e2 : ((fun x => xs[x]?) ∘ fun x => i + x) = fun m => xs[i + m]? := rfl
  rw [e2] at this
  rw [this]

theorem getItem_tuple_cut {t sl : Addr} {items : Array Value} {vl vu : Value} {lo hi : Option Int} {Q : Value → Shared → Prop} (ht : IsTup s.heap t items) (hs : s.heap.IsSliceOf sl vl vu .none) (pl : IsPart vl lo) (pu : IsPart vu hi)
    (hw : ¬ (sIx items.size 0 lo = 0 ∧ sIx items.size items.size hi = items.size))
    (h : Q (.ref s.heap.objs.size) { s with heap := s.heap.push { cls := .type "tuple", data := .seq ((items.toList.drop (sIx items.size 0 lo)).take (sIx items.size items.size hi - sIx items.size 0 lo)).toArray } })
    (hsz : items.size ≤ sizeLine) : wpAny (model prog w) A (getItem (.ref t) (.ref sl)) Q E s := by
  have htake : sizeOk (.seq ((items.toList.drop (sIx items.size 0 lo)).take (sIx items.size items.size hi - sIx items.size 0 lo)).toArray) := by
    show ((items.toList.drop (sIx items.size 0 lo)).take (sIx items.size items.size hi - sIx items.size 0 lo)).toArray.size ≤ sizeLine
    rw [List.size_toArray, List.length_take, List.length_drop, Array.length_toList]
    omega
  have hj : sIx items.size items.size hi ≤ items.size := sIx_le _ _ (Nat.le_refl _) hi
  obtain ⟨os, hos, hcs, hds⟩ := id hs
  have hTs : s.TypeIs (.ref sl) "slice" := ⟨os, hos, hcs⟩
  unfold getItem
  try with_reducible refine wpAny_holding ?_
  first | refine wpAny_bind (wpAny_pure ?_) | skip
  refine wpAny_bind (wpAny_sequenceKey ht.typeIs (by decide) ?_)
  refine wpAny_bind (wpAny_callSpecial?_slot (name := Str.ofString "__getitem__") ht.typeIs PyProof.Rows.slot_tuple_getitem
    (wpAny_call_entry PyProof.Rows.slot_tuple_getitem ht.typeIs entry_tuple_getitem ?_ (args_tuple_getitem _ _)))
  show wpAny _ _ (Builtin.Tuple.tupleItemsOf (.ref t) >>= _) _ _ s
  refine wpAny_bind (tupleItemsOf_ ht ?_)
  refine wpAny_bind (wpAny_typeOf hTs ?_)
  rw [if_pos (by decide)]
  refine wpAny_bind (sliceApplied_gen hs pl pu ?_)
  have hno : ¬ ((((sIx items.size 0 lo : Nat) : Int) == 0 && (1 : Int) == 1 && (sIx items.size items.size hi - sIx items.size 0 lo) == items.size) = true) := by
    intro q
    rw [Bool.and_eq_true, Bool.and_eq_true] at q
    have q1 : ((sIx items.size 0 lo : Nat) : Int) = 0 := eq_of_beq q.1.1
    have q2 : sIx items.size items.size hi - sIx items.size 0 lo = items.size := eq_of_beq q.2
    exact hw ⟨by omega, by omega⟩
  show wpAny _ _ (if (((sIx items.size 0 lo : Nat) : Int) == 0 && (1 : Int) == 1 && (sIx items.size items.size hi - sIx items.size 0 lo) == items.size) = true then _ else _) _ _ s
  rw [if_neg hno, pick_gen]
  first
    | exact wpAny_bind (m := Builtin.Tuple.tupleExact _) (wpAny_newObj_type (wpAny_pure ⟨_, rfl, wpAny_pure h⟩) htake)
    | exact wpAny_bind (m := Builtin.Tuple.tupleExact _) (wpAny_newObj_type (wpAny_bind (wpAny_pure (wpAny_pure ⟨_, rfl, wpAny_pure h⟩))) htake)
    | exact wpAny_bind (wpAny_bind (m := Builtin.Tuple.tupleExact _) (wpAny_newObj_type (wpAny_pure (wpAny_pure ⟨_, rfl, wpAny_pure h⟩)) htake))
    | exact wpAny_bind (wpAny_bind (m := Builtin.Tuple.tupleExact _) (wpAny_newObj_type (wpAny_pure ⟨_, rfl, wpAny_pure h⟩) htake))
end
end HT

namespace L2
open PySem PySem.Spec PyProof.Rows

/-! ### the parts of a slice -/
abbrev TO := St → Hp → (Option Int → Hp → Prop) → Prop
/-- a slice's part (left out, or an int) -/
def PO (X : Cx) (e : Option Expr) (t : TO) : Prop :=
  ∀ (pins : List (Addr × Obj)) (s : Shared) (σ : St) (H : Hp) (Q : Option Int → Hp → Prop), Inv X pins σ H s → t σ H Q →
    wpAny (model X.prog X.w) X.A (evalPart e X.env) (fun u s' => ∃ o H', Inv X pins σ H' s' ∧ IsPart u o ∧ Q o H') X.xe s
def tNoPart : TO := fun _ H Q => Q none H
def tPart (t : TE) : TO := fun σ H Q => t σ H fun x H1 => ∃ i, x = .int i ∧ Q (some i) H1

theorem intsAre_of {ns : List Int} : ∀ {us : List Value}, Vals (ns.map V.int) us → IntsAre us ns := by
  induction ns with
  | nil => intro us r; rw [List.map_nil] at r; cases r; exact .nil
  | cons n ns ih =>
    intro us r
    rw [List.map_cons] at r
    cases r with
    | cons r1 r2 =>
      obtain ⟨t, e⟩ := r1
      subst e
      exact .cons n t (ih r2)

section
variable {X : Cx} {e : Expr} {te : TE} {lo hi : Option Expr} {tl th : TO} {pos p2 : Pos}

theorem po_none : PO X none tNoPart := by
  intro pins s σ H Q I h
  rw [evalPart_none]
  exact wpAny_pure ⟨none, H, I, .none, h⟩
theorem po_some (h : PE X e te) : PO X (some e) (tPart te) := by
  intro pins s σ H Q I hw
  rw [evalPart_some]
  refine thn (h pins s σ H _ I hw) fun u s1 ⟨x, H1, I1, r1, q1⟩ => ?_
  obtain ⟨i, rfl, q⟩ := q1
  obtain ⟨t, rfl⟩ := r1
  exact ⟨some i, H1, I1, .int i t, q⟩

/-- what a slice of a value is, by values: the slice object stands at sl -/
def SlR (X : Cx) (r : V → Option Int → Option Int → Hp → VK → Prop) : Prop :=
  ∀ (pins : List (Addr × Obj)) (s : Shared) (σ : St) (H : Hp) (x : V) (v vl vu : Value) (lo hi : Option Int) (sl : Addr) (Q : VK), Inv X pins σ H s → RelV x v → s.heap.IsSliceOf sl vl vu .none → IsPart vl lo → IsPart vu hi → r x lo hi H Q →
    ∃ T id, typeLookup (.type T) "__getitem__" = pure (some (.builtin id)) ∧ s.TypeIs v T ∧ wpAny (model X.prog X.w) X.A (getItem v (.ref sl)) (EP X pins σ Q) X.xe s
theorem SlR.or {r r' : V → Option Int → Option Int → Hp → VK → Prop} (h : SlR X r) (h' : SlR X r') : SlR X (fun x lo hi H Q => r x lo hi H Q ∨ r' x lo hi H Q) := by
  intro pins s σ H x v vl vu lo hi sl Q I rx hs pl pu q
  rcases q with q | q
  · exact h pins s σ H x v vl vu lo hi sl Q I rx hs pl pu q
  · exact h' pins s σ H x v vl vu lo hi sl Q I rx hs pl pu q
def tSl (r : V → Option Int → Option Int → Hp → VK → Prop) (te : TE) (tl th : TO) : TE := fun σ H Q => te σ H fun x H1 => tl σ H1 fun l H2 => th σ H2 fun u H3 => r x l u H3 Q
/-- a[lo:hi], any a -/
theorem pe_slice {r : V → Option Int → Option Int → Hp → VK → Prop} (hr : SlR X r) (he : PE X e te) (hl : PO X lo tl) (hu : PO X hi th) : PE X (.Subscript e (.Slice lo hi none p2) pos) (tSl r te tl th) := by
  intro pins s σ H Q I h
  refine Subscript_ (thn (he pins s σ H _ I h) fun v s1 ⟨x, H1, I1, r1, q1⟩ => ?_)
  refine wpAny_Slice (thn (hl pins s1 σ H1 _ I1 q1) fun vl s2 ⟨l, H2, I2, pl, q2⟩ => thn (hu pins s2 σ H2 _ I2 q2) fun vu s3 ⟨u, H3, I3, pu, q3⟩ => ?_)
  rw [evalPart_none]
  refine wpAny_pure ?_
  have I4 : Inv X pins σ H3 { s3 with heap := s3.heap.push { cls := .type "slice", data := .fields #[vl, vu, .none] } } := I3.kept (t' := s3.toks) fun b ob q => Heap.get?_push_of_some _ q
  obtain ⟨T, id, hT, ht, hg⟩ := hr pins { s3 with heap := s3.heap.push { cls := .type "slice", data := .fields #[vl, vu, .none] } } σ H3 x v vl vu l u s3.heap.objs.size Q I4 r1 (Heap.IsSliceOf.new ..) pl pu q3
  show wpAny (model X.prog X.w) X.A (subscriptTail e (.Slice lo hi none p2) v (.ref s3.heap.objs.size)) (EP X pins σ Q) X.xe { s3 with heap := s3.heap.push { cls := .type "slice", data := .fields #[vl, vu, .none] } }
  exact tail_any (ops := [.ref s3.heap.objs.size, v]) ht hT hg (by with_unfolding_all rfl)

/-- the items of xs[lo:hi] -/
def cutV (xs : List V) (lo hi : Option Int) : List V := (xs.drop (HT.sIx xs.length 0 lo)).take (HT.sIx xs.length xs.length hi - HT.sIx xs.length 0 lo)
theorem cutV_length (xs : List V) (lo hi : Option Int) : (cutV xs lo hi).length ≤ xs.length := by
  unfold cutV
  rw [List.length_take, List.length_drop]
  omega
/-- t[lo:hi], not the whole of it (the whole would be t itself) -/
def rSlT (K : PySem.W.Frag) : V → Option Int → Option Int → Hp → VK → Prop := fun x lo hi H Q => ∃ a xs, x = .ref a ∧ SqT K H a xs ∧
  ¬ (HT.sIx xs.length 0 lo = 0 ∧ HT.sIx xs.length xs.length hi = xs.length) ∧ ∀ p, H p = none → Q (.ref p) (upd H p (.tup (cutV xs lo hi)))
theorem sl_tup : SlR X (rSlT X.K) := by
  intro pins s σ H x v vl vu lo hi sl Q I rx hs pl pu h
  obtain ⟨a, xs, rfl, hx, hw, q⟩ := h
  cases rx
  obtain ⟨its, r, ht, hz⟩ := I.tuple hx
  have hlen : its.toArray.size = xs.length := by rw [List.size_toArray]; exact r.length.symm
  refine ⟨"tuple", _, PyProof.Rows.slot_tuple_getitem.lookup, ht.typeIs, ?_⟩
  refine HT.getItem_tuple_cut ht hs pl pu (by rw [hlen]; exact hw) ?_ (by rw [hlen]; exact hz)
  rw [hlen]
  refine ⟨.ref s.heap.objs.size, _, I.laid (t' := s.toks) (o := .tup (cutV xs lo hi)) (fun b ob q => Heap.get?_push_of_some _ q) (Nat.le_refl _) ?_, rfl, q _ (I.hok.fresh (Nat.le_refl _))⟩
  exact ⟨Nat.le_trans (cutV_length xs lo hi) hz, _, (r.drop (HT.sIx xs.length 0 lo)).take (HT.sIx xs.length xs.length hi - HT.sIx xs.length 0 lo), IsTup.new _ _⟩

/-! ### t < u, t + u -/
def rLtT (K : PySem.W.Frag) : R2 := fun x y H Q => ∃ a b ns ms, x = .ref a ∧ y = .ref b ∧ SqT K H a (ns.map V.int) ∧ SqT K H b (ms.map V.int) ∧ Q (.bl (HT.lexLt ns ms)) H
/-- t + u, t not empty: u empty gives t itself -/
def rCatT (K : PySem.W.Frag) : R2 := fun x y H Q => ∃ a b xs ys, x = .ref a ∧ y = .ref b ∧ SqT K H a xs ∧ SqT K H b ys ∧ xs ≠ [] ∧ xs.length + ys.length ≤ sizeLine ∧
  (ys = [] → Q (.ref a) H) ∧ (ys ≠ [] → ∀ p, H p = none → Q (.ref p) (upd H p (.tup (xs ++ ys))))
theorem Vals.nil_iff {xs : List V} {us : List Value} (r : Vals xs us) : us = [] ↔ xs = [] := by
  cases r with
  | nil => simp
  | cons _ _ => simp
theorem op_catT : OpR X (binaryOp .Add) (rCatT X.K) := by
  intro pins s σ H x y v u Q I rx ry h
  obtain ⟨a, b, xs, ys, rfl, rfl, ha, hb, hx, hz, q1, q2⟩ := h
  cases rx
  cases ry
  obtain ⟨its, r1, p1, _⟩ := I.tuple ha
  obtain ⟨its2, r2, p2, _⟩ := I.tuple hb
  refine HT.cat_tup p1 p2 (fun z => hx (r1.nil_iff.mp z)) (fun z => ⟨.ref a, H, I, rfl, q1 (r2.nil_iff.mp z)⟩) (fun z => ?_) (by rw [← r1.length, ← r2.length]; exact hz)
  refine ⟨.ref s.heap.objs.size, _, I.laid (t' := s.toks) (o := .tup (xs ++ ys)) (fun b ob q => Heap.get?_push_of_some _ q) (Nat.le_refl _) ?_, rfl, q2 (fun w => z (r2.nil_iff.mpr w)) _ (I.hok.fresh (Nat.le_refl _))⟩
  exact ⟨by rw [List.length_append]; exact hz, _, r1.append r2, IsTup.new _ _⟩
end
end L2

namespace L2
open PySem PySem.Spec PyProof.Rows

/-! ### places -/
/-- the place that an index of any sign means -/
def ixN (n : Nat) (i : Int) : Option Nat := if 0 ≤ i then (if i < n then some i.toNat else none) else if -(n : Int) ≤ i then some (i + n).toNat else none
def atI {α : Type} (xs : List α) (i : Int) : Option α := (ixN xs.length i).bind fun j => xs[j]?
theorem ixN_seq {n : Nat} {i : Int} {j : Nat} (h : ixN n i = some j) : seqIndex? i n = some j ∧ j < n ∧ -(n : Int) ≤ i ∧ i < n := by
  unfold ixN at h
  by_cases h0 : 0 ≤ i
  · rw [if_pos h0] at h
    by_cases h1 : i < n
    · rw [if_pos h1] at h
      have e : i.toNat = j := Option.some.inj h
      exact ⟨by rw [seqIndex_of h0 h1, e], by omega, by omega, h1⟩
    · rw [if_neg h1] at h; cases h
  · rw [if_neg h0] at h
    by_cases h1 : -(n : Int) ≤ i
    · rw [if_pos h1] at h
      have e : (i + n).toNat = j := Option.some.inj h
      exact ⟨by rw [seqIndex_neg (by omega) h1, e], by omega, h1, by omega⟩
    · rw [if_neg h1] at h; cases h
theorem atI_get {α : Type} {xs : List α} {i : Int} {v : α} (h : atI xs i = some v) : ∃ j, seqIndex? i xs.length = some j ∧ xs[j]? = some v ∧ j < xs.length ∧ -(xs.length : Int) ≤ i ∧ i < xs.length := by
  unfold atI at h
  cases e : ixN xs.length i with
  | none => rw [e] at h; cases h
  | some j =>
    rw [e] at h
    obtain ⟨h1, h2, h3, h4⟩ := ixN_seq e
    exact ⟨j, h1, h, h2, h3, h4⟩
theorem atI_nat {α : Type} {xs : List α} {j : Nat} {v : α} (h : xs[j]? = some v) : atI xs (j : Int) = some v := by
  have hj : j < xs.length := (List.getElem?_eq_some_iff.mp h).1
  have e : ixN xs.length (j : Int) = some j := by
    unfold ixN
    rw [if_pos (by omega), if_pos (by omega)]; simp
  unfold atI; rw [e]; exact h

/-! ### what may be subscripted -/
/-- what stands as an index of a plain subscript -/
def PlainIx (b : Expr) : Prop := ∀ o i, subscripted b false o i = operate [o, i] (getItem o i)
/-- a subscript by values -/
def IxR (X : Cx) (r : R2) : Prop :=
  ∀ (value slice : Expr) (pins : List (Addr × Obj)) (s : Shared) (σ : St) (H : Hp) (x y : V) (v u : Value) (Q : VK), Inv X pins σ H s → RelV x v → RelV y u → r x y H Q →
    subscripted slice false v u = operate [v, u] (getItem v u) → wpAny (model X.prog X.w) X.A (subscriptTail value slice v u) (EP X pins σ Q) X.xe s
/-- a call of a builtin's method by values: the receiver, the arguments -/
def MtR (X : Cx) (id : String) (r : V → List V → Hp → VK → Prop) : Prop :=
  ∀ (pins : List (Addr × Obj)) (s : Shared) (σ : St) (H : Hp) (x : V) (xs : List V) (v : Value) (us : List Value) (Q : VK), Inv X pins σ H s → RelV x v → Vals xs us → r x xs H Q →
    wpAny (model X.prog X.w) X.A (call (.builtin id) (v :: us)) (EP X pins σ Q) X.xe s
section
variable {X : Cx} {a b : Expr} {ta tb : TE} {pos : Pos}
/-- a[b] -/
theorem pe_ix {r : R2} (hr : IxR X r) (ha : PE X a ta) (hb : PE X b tb) (hs : PlainIx b) : PE X (.Subscript a b pos) (tOp r ta tb) := by
  intro pins s σ H Q I h
  exact Subscript_ (binT ha hb I h fun v u s2 x y H2 I2 rx ry q => hr a b pins s2 σ H2 x y v u Q I2 rx ry q (hs _ _))

def rIxL (K : PySem.W.Frag) : R2 := fun x y H Q => ∃ p xs i v, x = .ref p ∧ y = .int i ∧ SqL K H p xs ∧ atI xs i = some v ∧ Q v H
def rIxT (K : PySem.W.Frag) : R2 := fun x y H Q => ∃ p xs i v, x = .ref p ∧ y = .int i ∧ SqT K H p xs ∧ atI xs i = some v ∧ Q v H
def rIxS : R2 := fun x y H Q => ∃ z i c, x = .str z ∧ y = .int i ∧ z.length ≤ sizeLine ∧ atI z.cps.toList i = some c ∧ Q (.str ⟨#[c]⟩) H
theorem ix_list : IxR X (rIxL X.K) := by
  intro value slice pins s σ H x y v u Q I rx ry h hs
  obtain ⟨p, xs, i, z, rfl, rfl, hq, he, q⟩ := h
  cases rx
  obtain ⟨t, rfl⟩ := ry
  obtain ⟨its, r, pl, hz⟩ := I.list hq
  obtain ⟨j, h1, h2, h3, h4, h5⟩ := atI_get he
  obtain ⟨w, ew, rw'⟩ := r.get h2
  have hl := r.length
  have hn := line63
  have fin : EP X pins σ Q w s := ⟨z, H, I, rw', q⟩
  by_cases h0 : 0 ≤ i
  · have hj : i.toNat = j := by
      rw [seqIndex_of h0 h5] at h1
      exact Option.some.inj h1
    exact item_listR pl.isList h0 (by omega) (by rw [hj]; simpa using ew) fin hs
  · have hj : (i + (its.toArray.size : Int)).toNat = j := by
      rw [seqIndex_neg (by omega) h4] at h1
      rw [List.size_toArray, ← hl]
      exact Option.some.inj h1
    exact subscriptTail_builtinR (x := w) pl.isList.typeIs slot_list_getitem.lookup
      (wpAny_getItem_list_neg (Q := fun r s' => r = w ∧ EP X pins σ Q r s') pl.isList (by omega) (by rw [List.size_toArray] <;> omega) (by omega) (by rw [hj]; simpa using ew) ⟨rfl, fin⟩) hs
theorem ix_tup : IxR X (rIxT X.K) := by
  intro value slice pins s σ H x y v u Q I rx ry h hs
  obtain ⟨p, xs, i, z, rfl, rfl, hq, he, q⟩ := h
  cases rx
  obtain ⟨t, rfl⟩ := ry
  obtain ⟨its, r, pl, hz⟩ := I.tuple hq
  obtain ⟨j, h1, h2, h3, h4, h5⟩ := atI_get he
  obtain ⟨w, ew, rw'⟩ := r.get h2
  have hl := r.length
  have hn := line63
  have fin : EP X pins σ Q w s := ⟨z, H, I, rw', q⟩
  exact subscriptTail_builtinR (x := w) pl.typeIs slot_tuple_getitem.lookup
    (getItem_tuple (j := j) (Q := fun r s' => r = w ∧ EP X pins σ Q r s') pl (by omega) (by omega) (by rw [List.size_toArray, ← hl]; exact h1) (by simpa using ew) ⟨rfl, fin⟩) hs
/-- list, tuple or str -/
def rIx (K : PySem.W.Frag) : R2 := fun x y H Q => rIxL K x y H Q ∨ rIxT K x y H Q ∨ rIxS x y H Q

/-! ### xs[i] = v, any sign -/
/-- the list's object behind a store -/
theorem mapSeq_set (its : List Value) (n j : Nat) (u : Value) : Obj.mapSeq (·.setIfInBounds j u) { cls := .type "list", data := .seq its.toArray n } = { cls := .type "list", data := .seq (its.set j u).toArray n } := by
  simp [Obj.mapSeq]
theorem Inv.lst {pins : List (Addr × Obj)} {σ : St} {H : Hp} {s : Shared} {p : Addr} {xs : List V} (I : Inv X pins σ H s) (h : H p = some (.lst xs)) :
    ∃ (its : List Value) (n : Nat), Vals xs its ∧ s.heap.get? p = some { cls := .type "list", data := .seq its.toArray n } ∧ xs.length ≤ sizeLine := by
  obtain ⟨z, its, n, r, e⟩ := I.hok p _ h
  exact ⟨its, n, r, e, z⟩
/-- the list at p is written by an update of its object -/
theorem Inv.lstUpd {pins : List (Addr × Obj)} {σ : St} {H : Hp} {s : Shared} {p : Addr} {xs ys : List V} {its its' : List Value} {n n' : Nat} {f : Obj → Obj} (I : Inv X pins σ H s) (h : H p = some (.lst xs))
    (ho : s.heap.get? p = some { cls := .type "list", data := .seq its.toArray n }) (hf : f { cls := .type "list", data := .seq its.toArray n } = { cls := .type "list", data := .seq its'.toArray n' }) (r : Vals ys its') (hz : ys.length ≤ sizeLine) (t : Nat) :
    Inv X pins σ (upd H p (.lst ys)) { s with heap := s.heap.update p f, toks := t } := by
  have e : (s.heap.update p f).get? p = some { cls := .type "list", data := .seq its'.toArray n' } := by
    rw [Heap.get?_update_self f ho (by rw [hf] <;> rfl), hf]
  refine I.write (x := p) (e := p) (by rw [h]; trivial) (.inl rfl) (fun b u hb q => (Heap.get?_update_other _ _ (Ne.symm hb)).trans q) ⟨_, e⟩ ?_
  exact ⟨hz, its', n', r, e⟩
def rSetL : V → V → V → Hp → (Hp → Prop) → Prop := fun o i v H Q => ∃ p xs k j, o = .ref p ∧ i = .int k ∧ H p = some (.lst xs) ∧ ixN xs.length k = some j ∧ Q (upd H p (.lst (xs.set j v)))
theorem set_list : PSet X rSetL := by
  intro pins s σ H o i v ov iv u Q I ro ri rv h
  obtain ⟨p, xs, k, j, rfl, rfl, hp, hj, q⟩ := h
  cases ro
  obtain ⟨t, rfl⟩ := ri
  obtain ⟨its, n, r, ho, hz⟩ := I.lst hp
  obtain ⟨h1, h2, h3, h4⟩ := ixN_seq hj
  have hl := r.length
  have hn := line63
  have I' : Inv X pins σ (upd H p (.lst (xs.set j v))) { s with heap := s.heap.update p (Obj.mapSeq (·.setIfInBounds j u)) } :=
    I.lstUpd hp ho (mapSeq_set its n j u) (r.set rv j) (by rw [List.length_set]; exact hz) s.toks
  by_cases h0 : 0 ≤ k
  · have hk : k.toNat = j := by
      rw [seqIndex_of h0 h4] at h1
      exact Option.some.inj h1
    exact PySem.W.ki_setAt ho h0 (by omega) (by rw [List.size_toArray, ← hl]; exact h4) (by rw [hk]; exact ⟨_, I', q⟩)
  · have hk : (k + (its.toArray.size : Int)).toNat = j := by
      rw [seqIndex_neg (by omega) h3] at h1
      rw [List.size_toArray, ← hl]
      exact Option.some.inj h1
    exact PySem.W.ki_setBack ho (by omega) (by rw [List.size_toArray, ← hl]; exact h3) (by omega) (by rw [hk]; exact ⟨_, I', q⟩)

/-! ### slices -/
theorem slice_bounds (lo hi : Option Int) (n : Nat) : (sliceBounds lo hi none n).1 = ((HT.sIx n 0 lo : Nat) : Int) ∧ (sliceBounds lo hi none n).2.1 = ((HT.sIx n n hi : Nat) : Int) ∧ (sliceBounds lo hi none n).2.2 = 1 := by
  refine ⟨?_, ?_, rfl⟩
  · cases lo with
    | none => simp [sliceBounds, HT.sIx]
    | some i =>
      simp only [sliceBounds, HT.sIx, Option.getD_none, show (1 : Int) > 0 by decide, if_true]
      by_cases h : i < 0
      · simp only [h, if_true] <;> omega
      · simp only [h, if_false] <;> omega
  · cases hi with
    | none => simp [sliceBounds, HT.sIx]
    | some i =>
      simp only [sliceBounds, HT.sIx, Option.getD_none, show (1 : Int) > 0 by decide, if_true]
      by_cases h : i < 0
      · simp only [h, if_true] <;> omega
      · simp only [h, if_false] <;> omega
theorem slicePick_cut (its : List Value) (lo hi : Option Int) : slicePick its.toArray lo hi none = ((its.drop (HT.sIx its.length 0 lo)).take (HT.sIx its.length its.length hi - HT.sIx its.length 0 lo)).toArray := by
  obtain ⟨h1, h2, h3⟩ := slice_bounds lo hi its.toArray.size
  unfold slicePick
  rw [h1, h2, h3]
  simp only [sliceRange_one, pick_run, List.size_toArray] <;> rfl
/-- xs[lo:hi] of a list: a new list -/
def rSlL (K : PySem.W.Frag) : V → Option Int → Option Int → Hp → VK → Prop := fun x lo hi H Q => ∃ a xs, x = .ref a ∧ SqL K H a xs ∧ ∀ p, H p = none → Q (.ref p) (upd H p (.lst (cutV xs lo hi)))
theorem sl_list : SlR X (rSlL X.K) := by
  intro pins s σ H x v vl vu lo hi sl Q I rx hs pl pu h
  obtain ⟨a, xs, rfl, hx, q⟩ := h
  cases rx
  obtain ⟨its, r, ht, hz⟩ := I.list hx
  have hlen := r.length
  refine ⟨"list", _, slot_list_getitem.lookup, ht.isList.typeIs, ?_⟩
  refine wpAny_getItem_list_slice ht.isList hs pl pu .none (by simp) ?_ (by rw [List.size_toArray] <;> omega)
  rw [slicePick_cut, ← hlen]
  refine ⟨.ref s.heap.objs.size, _, I.laid (t' := s.toks) (o := .lst (cutV xs lo hi)) (fun b ob q => Heap.get?_push_of_some _ q) (Nat.le_refl _) ?_, rfl, q _ (I.hok.fresh (Nat.le_refl _))⟩
  exact ⟨Nat.le_trans (cutV_length xs lo hi) hz, _, 0, (r.drop (HT.sIx xs.length 0 lo)).take (HT.sIx xs.length xs.length hi - HT.sIx xs.length 0 lo), Heap.get?_push_size _ rfl⟩

/-! ### in, not in: flat items -/
def flatV : V → Bool
  | .non => true
  | .bl _ => true
  | .int _ => true
  | .str _ => true
  | _ => false
/-- == of flat values -/
def eqV : V → V → Bool
  | .non, .non => true
  | .bl a, .bl b => a == b
  | .bl a, .int b => (if a then 1 else 0) == b
  | .int a, .bl b => a == (if b then 1 else 0)
  | .int a, .int b => a == b
  | .str a, .str b => a == b
  | _, _ => false
/-- the items' answers, read off the values (a value's own answer does not lean on its token) -/
def eqU (x : V) (u : Value) : Bool := match u with
  | .none => eqV .non x
  | .bool b => eqV (.bl b) x
  | .int i _ => eqV (.int i) x
  | .str z _ => eqV (.str z) x
  | _ => false
def inV (x : V) (xs : List V) : Bool := xs.any fun y => eqV y x
/-- x in a list or tuple of flat items -/
def rIn (K : PySem.W.Frag) (neg : Bool) : R2 := fun x y H Q => ∃ p xs, y = .ref p ∧ (SqL K H p xs ∨ SqT K H p xs) ∧ flatV x = true ∧ xs.all flatV = true ∧ Q (.bl (if neg then !inV x xs else inV x xs)) H

/-! ### len, list(x), tuple(x) of any list or tuple that is read -/
theorem call_len_seq : CallR X (.builtin "len") (fun xs H Q => ∃ p ys, xs = [.ref p] ∧ (SqL X.K H p ys ∨ SqT X.K H p ys) ∧ Q (.int ys.length) H) := by
  intro pins s σ H xs us Q I r h
  obtain ⟨p, ys, rfl, hq, q⟩ := h
  obtain ⟨u, rfl, rx⟩ := vals1 r
  cases rx
  have hn := line63
  rcases hq with hq | hq
  · obtain ⟨its, r', pl, hz⟩ := I.list hq
    have hlen := r'.length
    exact Calls.call_len_list pl.isList (by simp only [List.size_toArray] <;> omega) ⟨.int ys.length, H, I.tok _, ⟨s.toks + 1, by rw [List.size_toArray, hlen]⟩, q⟩
  · obtain ⟨its, r', pl, hz⟩ := I.tuple hq
    have hlen := r'.length
    exact len_tuple pl (by simp only [List.size_toArray] <;> omega) ⟨.int ys.length, H, I.tok _, ⟨s.toks + 1, by rw [List.size_toArray, hlen]⟩, q⟩
theorem call_list_of : CallR X (.type "list") (fun xs H Q => ∃ p ys, xs = [.ref p] ∧ (SqL X.K H p ys ∨ SqT X.K H p ys) ∧ ∀ l, H l = none → Q (.ref l) (upd H l (.lst ys))) := by
  intro pins s σ H xs us Q I r h
  obtain ⟨p, ys, rfl, hq, q⟩ := h
  obtain ⟨u, rfl, rx⟩ := vals1 r
  cases rx
  have fin : ∀ (its : List Value), Vals ys its → ys.length ≤ sizeLine → ∀ (h' : Heap) (c' : Nat), (∀ b o', s.heap.get? b = some o' → h'.get? b = some o') →
      h'.get? s.heap.objs.size = some { cls := .type "list", dict := none, data := .seq its.toArray c', slots := #[] } → EP X pins σ Q (.ref s.heap.objs.size) { s with heap := h' } := fun its r' hz h' c' kp e =>
    ⟨.ref s.heap.objs.size, _, I.laid (t' := s.toks) kp (Nat.le_refl _) (show ObjOk X.prog X.w _ h' _ (.lst ys) from ⟨hz, its, c', r', e⟩), rfl, q _ (I.hok.fresh (Nat.le_refl _))⟩
  rcases hq with hq | hq
  · obtain ⟨its, r', pl, hz⟩ := I.list hq
    have hlen := r'.length
    obtain ⟨o, ho, hc, n, hd⟩ := pl.isList
    exact call_list_seq p (.inl rfl) ho hc hd (fun h' c' kp e => fin its r' hz h' c' kp e) (by simp only [List.size_toArray] <;> omega)
  · obtain ⟨its, r', pl, hz⟩ := I.tuple hq
    have hlen := r'.length
    obtain ⟨o, ho, hc, n, hd⟩ := pl
    exact call_list_seq p (.inr rfl) ho hc hd (fun h' c' kp e => fin its r' hz h' c' kp e) (by simp only [List.size_toArray] <;> omega)
theorem call_tuple_of : CallR X (.type "tuple") (fun xs H Q => ∃ p ys, xs = [.ref p] ∧ ((SqL X.K H p ys ∧ ∀ l, H l = none → Q (.ref l) (upd H l (.tup ys))) ∨ (SqT X.K H p ys ∧ Q (.ref p) H))) := by
  intro pins s σ H xs us Q I r h
  obtain ⟨p, ys, rfl, h⟩ := h
  obtain ⟨u, rfl, rx⟩ := vals1 r
  cases rx
  rcases h with ⟨hq, q⟩ | ⟨hq, q⟩
  · obtain ⟨its, r', pl, hz⟩ := I.list hq
    have hlen := r'.length
    refine call_tuple_list pl.isList (fun h' kp => ?_) (by simp only [List.size_toArray] <;> omega)
    have I1 : Inv X pins σ H { s with heap := h' } := I.kept (t' := s.toks) kp
    have I2 : Inv X pins σ (upd H h'.objs.size (.tup ys)) { s with heap := h'.push { cls := .type "tuple", data := .seq its.toArray } } :=
      I1.laid (t' := s.toks) (fun b o e => Heap.get?_push_of_some _ e) (Nat.le_refl _) (show ObjOk X.prog X.w _ _ _ (.tup ys) from ⟨hz, its, r', IsTup.new _ _⟩)
    exact ⟨.ref h'.objs.size, _, I2, rfl, q _ (I1.hok.fresh (Nat.le_refl _))⟩
  · obtain ⟨its, r', pl, hz⟩ := I.tuple hq
    exact call_tuple_same pl ⟨.ref p, H, I, rfl, q⟩

/-! ### the call of a builtin's method: o.m(..) -/
/-- the value is of that builtin type -/
def tyV (K : PySem.W.Frag) (T : String) (x : V) (H : Hp) : Prop := match x with
  | .str _ => T = "str"
  | .int _ => T = "int"
  | .ref p => (T = "list" ∧ ∃ xs, SqL K H p xs) ∨ (T = "tuple" ∧ ∃ o, K.lookup p = some o ∧ o.cls = .type "tuple" ∧ o.dict = none) ∨
      (T = "dict" ∧ ((∃ kvs, H p = some (.dK kvs)) ∨ ∃ kvs, H p = some (.dT kvs))) ∨ (T = "set" ∧ ∃ S n, H p = some (.set S n))
  | _ => False
theorem tyV_is {pins : List (Addr × Obj)} {σ : St} {H : Hp} {s : Shared} {T : String} {x : V} {v : Value} (I : Inv X pins σ H s) (r : RelV x v) (ty : tyV X.K T x H) :
    s.TypeIs v T ∧ ∀ a, v = .ref a → ∃ ob, s.heap.get? a = some ob ∧ ob.dict = none := by
  cases x with
  | str z =>
    obtain ⟨t, rfl⟩ := r
    cases (show T = "str" from ty)
    exact ⟨typeIs_str s z t, fun _ e => nomatch e⟩
  | int i =>
    obtain ⟨t, rfl⟩ := r
    cases (show T = "int" from ty)
    exact ⟨typeIs_int s i t, fun _ e => nomatch e⟩
  | ref p =>
    cases r
    rcases ty with ⟨rfl, xs, hq⟩ | ⟨rfl, o, hk, hc, hd⟩ | ⟨rfl, hk⟩ | ⟨rfl, S, n, hk⟩
    · obtain ⟨its, _, pl, _⟩ := I.list hq
      refine ⟨pl.isList.typeIs, fun a e => ?_⟩
      cases e
      obtain ⟨o, n, e, c, hd, _⟩ := pl
      exact ⟨o, e, hd⟩
    · refine ⟨⟨o, I.kIn p o hk, hc⟩, fun a e => ?_⟩
      cases e
      exact ⟨o, I.kIn _ o hk, hd⟩
    · have z : ∃ o, s.heap.get? p = some o ∧ o.ExactDict := by
        rcases hk with ⟨kvs, hk⟩ | ⟨kvs, hk⟩
        · obtain ⟨_, _, _, _, o, _, _, e, ex, _⟩ := I.hok p _ hk
          exact ⟨o, e, ex⟩
        · obtain ⟨_, _, _, _, o, _, _, e, ex, _⟩ := I.hok p _ hk
          exact ⟨o, e, ex⟩
      obtain ⟨o, e, ex⟩ := z
      refine ⟨⟨o, e, ex.1⟩, fun a e2 => ?_⟩
      cases e2
      exact ⟨o, e, ex.2.1⟩
    · obtain ⟨o, _, _, _, e, ex, _⟩ := I.hok p _ hk
      refine ⟨⟨o, e, ex.1⟩, fun a e2 => ?_⟩
      cases e2
      exact ⟨o, e, ex.2.1⟩
  | _ => exact False.elim ty
def tBM0 (K : PySem.W.Frag) (T : String) (r : V → List V → Hp → VK → Prop) (to : TE) : TE := fun σ H Q => to σ H fun x H1 => tyV K T x H1 ∧ r x [] H1 Q
def tBM (K : PySem.W.Frag) (T : String) (r : V → List V → Hp → VK → Prop) (to : TE) (t : TA) : TE := fun σ H Q => to σ H fun x H1 => tyV K T x H1 ∧ t σ H1 fun xs H2 => r x xs H2 Q
variable {o e : Expr} {es : List Expr} {to : TE} {t : TA} {name : Str} {apos cpos : Pos} {T id : String} {r : V → List V → Hp → VK → Prop}
theorem pe_bm (pa : PlainAttrs T) (slot : Slot T name id) (hty : typeOf (.builtin id) = pure (.type "method_descriptor")) (hm : MtR X id r) (ho : PE X o to) (ha : PA X (e :: es) t)
    (hbase : attributeBase o name X.env (eval o X.env) = eval o X.env := by rfl)
    (hfew : ((backTo cpos (starEach (e :: es) X.env)).all (fun x => !x.1) && (backToKw cpos (keywordEach [] X.env)).all (fun x => x.1.isSome)
      && decide ((e :: es).length + ([] : List Keyword).length + (if ([] : List Keyword).isEmpty then 0 else 1) < 30)) = true := by rfl)
    (hline : (apos.endLine == cpos.line) = true := by rfl) (hs : starEach (e :: es) X.env = (false, eval e X.env) :: starEach es X.env := by rfl) (hplain : (backTo cpos (starEach es X.env)).any (·.1) = false := by rfl) :
    PE X (.Call (.Attribute o name apos) (e :: es) [] cpos) (tBM X.K T r to t) := by
  intro pins s σ H Q I h
  refine wpAny_Call_method_late hbase hfew hline rfl (thn (ho pins s σ H _ I h) fun v s1 ⟨x, H1, I1, r1, ty, q1⟩ => ?_)
  obtain ⟨h1, h2⟩ := tyV_is I1 r1 ty
  refine ⟨T, id, pa, slot, hty, h1, h2, ?_⟩
  have hA := ha cpos pins s1 σ H1 _ I1 q1
  rw [hs] at hA ⊢
  refine Calls.callWith_builtin (by show (false || (backTo cpos (starEach es X.env)).any (·.1)) = false; rw [hplain] <;> rfl) (Calls.evalArgs_plain ?_)
  exact thn hA fun us s2 ⟨vs, H2, I2, r2, q2⟩ => hm pins s2 σ H2 x vs v us Q I2 r1 r2 q2
/- xs.append(e), list.index on a module's tuple .. are MtR facts of 06m -/
end
end L2

namespace L2
open PySem PySem.Spec PyProof.Rows

def MtM (X : Cx) (id : String) (r : V → List V → Hp → VK → Prop) : Prop :=
  ∀ (pins : List (Addr × Obj)) (s : Shared) (σ : St) (H : Hp) (x : V) (xs : List V) (v : Value) (us : List Value) (Q : VK), Inv X pins σ H s → RelV x v → Vals xs us → r x xs H Q →
    wpAny (model X.prog X.w) X.A (call (.builtin id) (v :: us)) (EP X pins σ Q) X.xe s

/-! ### lists of values -/
theorem Vals.one : ∀ {x : V} {us : List Value}, Vals [x] us → ∃ u, us = [u] ∧ RelV x u
  | _, _, .cons r .nil => ⟨_, rfl, r⟩
theorem Vals.eraseIdx : ∀ {xs : List V} {us : List Value} (i : Nat), Vals xs us → Vals (xs.eraseIdx i) (us.eraseIdx i)
  | _, _, _, .nil => .nil
  | _, _, 0, .cons _ t => t
  | _, _, i + 1, .cons r t => .cons r (Vals.eraseIdx i t)
theorem Vals.rep {xs : List V} {us : List Value} (h : Vals xs us) : ∀ k : Nat, Vals (List.replicate k xs).flatten (List.replicate k us).flatten
  | 0 => .nil
  | k + 1 => by
    rw [List.replicate_succ, List.replicate_succ, List.flatten_cons, List.flatten_cons]
    exact Vals.append h (Vals.rep h k)
theorem len_erase {α : Type} : ∀ (l : List α) (i : Nat), (l.eraseIdx i).length ≤ l.length
  | [], _ => Nat.le_refl _
  | _ :: _, 0 => Nat.le_succ _
  | _ :: r, i + 1 => Nat.succ_le_succ (len_erase r i)
theorem foldl_rep (its : List Value) : ∀ (k : Nat) (acc : List Value),
    List.foldl (fun x1 x2 => x1 ++ x2) acc.toArray (List.replicate k its.toArray) = (acc ++ (List.replicate k its).flatten).toArray
  | 0, acc => by simp
  | k + 1, acc => by
    have e : acc.toArray ++ its.toArray = (acc ++ its).toArray := by simp
    have e2 : (acc ++ its) ++ (List.replicate k its).flatten = acc ++ (List.replicate (k + 1) its).flatten := by
      rw [List.replicate_succ, List.flatten_cons, List.append_assoc]
    rw [← e2, ← foldl_rep its k (acc ++ its), ← e, List.replicate_succ, List.foldl_cons]

section
variable {X : Cx} {pins : List (Addr × Obj)} {σ : St} {H : Hp} {s : Shared} {l b : Addr} {xs ys zs : List V}

/-! ### the two steps: a tracked list is rewritten, a new list is laid -/
theorem Inv.lset {its its' : List Value} {n : Nat} {f : Array Value → Array Value} {t' : Nat} (I : Inv X pins σ H s) (hH : H l = some (.lst xs))
    (e : s.heap.get? l = some { cls := .type "list", data := .seq its.toArray n }) (hf : f its.toArray = its'.toArray) (hv : Vals ys its') (hz : ys.length ≤ sizeLine) :
    Inv X pins σ (upd H l (.lst ys)) { s with heap := s.heap.update l (Obj.mapSeq f), toks := t' } := by
  have q := PySem.IsL.update e f
  rw [hf] at q
  refine I.write (x := l) (e := l) (by rw [hH]; exact trivial) (.inl rfl) (fun b' u hb hu => (Heap.get?_update_other s.heap (Obj.mapSeq f) (Ne.symm hb)).trans hu) ⟨_, q⟩ ?_
  exact ⟨hz, its', _, hv, q⟩
theorem Inv.lnew {its : List Value} {t' : Nat} (I : Inv X pins σ H s) (hv : Vals ys its) (hz : ys.length ≤ sizeLine) :
    Inv X pins σ (upd H s.heap.objs.size (.lst ys)) { s with heap := s.heap.push { cls := .type "list", data := .seq its.toArray }, toks := t' } :=
  I.laid (fun _ _ q => Heap.get?_push_of_some _ q) (Nat.le_refl _) ⟨hz, its, 0, hv, Heap.get?_push_size _ rfl⟩
theorem Inv.fresh (I : Inv X pins σ H s) : H s.heap.objs.size = none := I.hok.fresh (Nat.le_refl _)
theorem Inv.lstM (I : Inv X pins σ H s) (hH : H l = some (.lst xs)) : xs.length ≤ sizeLine ∧ ∃ (its : List Value) (n : Nat), Vals xs its ∧ xs.length = its.length ∧ s.heap.get? l = some { cls := .type "list", data := .seq its.toArray n } := by
  obtain ⟨z, its, n, r, e⟩ := I.hok l _ hH
  exact ⟨z, its, n, r, r.length, e⟩

theorem notLongL {n : Nat} (h : n ≤ sizeLine) : Builtin.List.listTooLong n = false := by
  unfold Builtin.List.listTooLong
  exact decide_eq_false (by omega)
end

section
variable {X : Cx}

/-! ### methods -/
def rAppend : V → List V → Hp → VK → Prop := fun x vs H Q => ∃ l xs y, x = .ref l ∧ vs = [y] ∧ H l = some (.lst xs) ∧ xs.length < sizeLine ∧ Q .non (upd H l (.lst (xs ++ [y])))
theorem mt_append : MtM X "list.append" rAppend := by
  intro pins s σ H x vs v us Q I rx rv h
  obtain ⟨l, xs, y, rfl, rfl, hH, hz, q⟩ := h
  cases rx
  obtain ⟨u, rfl, ru⟩ := rv.one
  obtain ⟨z, its, n, r, hl, e⟩ := I.lstM hH
  refine call_meets F.slot_list_append ⟨_, e, rfl⟩ F.entry_list_append (F.args_list_append_2 _ _) (PySem.list_append l its.toArray n u (by rw [List.size_toArray]; omega)) ⟨e, ?_⟩
  refine ⟨.non, _, I.lset (its' := its ++ [u]) hH e (by simp) (r.append (.cons ru .nil)) ?_, rfl, q⟩
  rw [List.length_append, List.length_singleton]
  omega

def rExtend : V → List V → Hp → VK → Prop := fun x vs H Q => ∃ l b xs zs, x = .ref l ∧ vs = [.ref b] ∧ H l = some (.lst xs) ∧ H b = some (.lst zs) ∧ xs.length + zs.length ≤ sizeLine ∧ Q .non (upd H l (.lst (xs ++ zs)))
theorem mt_extend : MtM X "list.extend" rExtend := by
  intro pins s σ H x vs v us Q I rx rv h
  obtain ⟨l, b, xs, zs, rfl, rfl, hH, hB, hz, q⟩ := h
  cases rx
  obtain ⟨u, rfl, ru⟩ := rv.one
  cases ru
  obtain ⟨z, its, n, r, hl, e⟩ := I.lstM hH
  obtain ⟨z2, its2, n2, r2, hl2, e2⟩ := I.lstM hB
  have hsz : its.toArray.size + its2.toArray.size ≤ sizeLine := by rw [List.size_toArray, List.size_toArray]; omega
  have hlong : ¬ (!its.toArray.isEmpty && Builtin.List.listTooLong (its.toArray.size + its2.toArray.size)) = true := by
    rw [notLongL hsz, Bool.and_false]
    exact Bool.false_ne_true
  refine call_meets F.slot_list_extend ⟨_, e, rfl⟩ F.entry_list_extend (F.args_list_extend_2 _ _)
    (AutoSeq1.list_extend_list_list_0 l its.toArray n b its2.toArray n2 hlong (by rw [List.size_toArray]; omega) (by omega)) ⟨e, e2, ?_⟩
  refine ⟨.non, _, I.lset (its' := its ++ its2) hH e (by simp) (r.append r2) ?_, rfl, q⟩
  rw [List.length_append]
  omega

def rPop : V → List V → Hp → VK → Prop := fun x vs H Q => ∃ l xs y, x = .ref l ∧ vs = [] ∧ H l = some (.lst xs) ∧ xs[xs.length - 1]? = some y ∧ Q y (upd H l (.lst xs.dropLast))

def rPopAt : V → List V → Hp → VK → Prop := fun x vs H Q => ∃ l xs i k y, x = .ref l ∧ vs = [.int i] ∧ H l = some (.lst xs) ∧ -(2 ^ 63) ≤ i ∧ i < 2 ^ 63 ∧ seqIndex? i xs.length = some k ∧ xs[k]? = some y ∧ Q y (upd H l (.lst (xs.eraseIdx k)))
theorem mt_popAt : MtM X "list.pop" rPopAt := by
  intro pins s σ H x vs v us Q I rx rv h
  obtain ⟨l, xs, i, k, y, rfl, rfl, hH, h1, h2, hk, hy, q⟩ := h
  cases rx
  obtain ⟨u, rfl, ru⟩ := rv.one
  obtain ⟨t, rfl⟩ := ru
  obtain ⟨z, its, n, r, hl, e⟩ := I.lstM hH
  obtain ⟨w, hw, rw'⟩ := r.get hy
  refine call_meets F.slot_list_pop ⟨_, e, rfl⟩ F.entry_list_pop (F.args_list_pop_2 _ _)
    (MeetsSeq.list_pop_at l its.toArray n i t k w (fitsIndex_both h1 h2) (by rw [List.size_toArray, ← hl]; exact hk) (by rw [← Array.getElem?_toList]; exact hw) (by rw [List.size_toArray]; omega)) ⟨e, ?_⟩
  refine ⟨y, _, I.lset (its' := its.eraseIdx k) hH e ?_ (r.eraseIdx k) ?_, rw', q⟩
  · show its.toArray.eraseIdxIfInBounds k = (its.eraseIdx k).toArray
    rw [List.eraseIdxIfInBounds_toArray]
  · have := len_erase xs k
    omega

def rReverse : V → List V → Hp → VK → Prop := fun x vs H Q => ∃ l xs, x = .ref l ∧ vs = [] ∧ H l = some (.lst xs) ∧ Q .non (upd H l (.lst xs.reverse))

def rClear : V → List V → Hp → VK → Prop := fun x vs H Q => ∃ l xs, x = .ref l ∧ vs = [] ∧ H l = some (.lst xs) ∧ Q .non (upd H l (.lst []))

/-! ### list + list, list += list, list * int -/
def rCat : R2 := fun x y H Q => ∃ l b xs zs, x = .ref l ∧ y = .ref b ∧ H l = some (.lst xs) ∧ H b = some (.lst zs) ∧ xs.length + zs.length ≤ sizeLine ∧ ∀ p, H p = none → Q (.ref p) (upd H p (.lst (xs ++ zs)))
theorem op_cat : OpR X (binaryOp .Add) rCat := by
  intro pins s σ H x y v u Q I rx ry h
  obtain ⟨l, b, xs, zs, rfl, rfl, hH, hB, hz, q⟩ := h
  cases rx
  cases ry
  obtain ⟨z, its, n, r, hl, e⟩ := I.lstM hH
  obtain ⟨z2, its2, n2, r2, hl2, e2⟩ := I.lstM hB
  refine PySem.P.add_list e e2 ?_ (by rw [List.size_toArray, List.size_toArray]; omega)
  have ea : its.toArray ++ its2.toArray = (its ++ its2).toArray := by simp
  rw [ea]
  exact ⟨.ref _, _, I.lnew (t' := s.toks) (r.append r2) (by rw [List.length_append]; omega), rfl, q _ I.fresh⟩
/-- a list times an int (a negative one is nothing) -/
def rRep : R2 := fun x y H Q => ∃ l k xs, x = .ref l ∧ y = .int k ∧ H l = some (.lst xs) ∧ -(2 ^ 63) ≤ k ∧ k < 2 ^ 63 ∧ xs.length * k.toNat ≤ sizeLine ∧
  ∀ p, H p = none → Q (.ref p) (upd H p (.lst (List.replicate k.toNat xs).flatten))
theorem len_rep {α : Type} (xs : List α) (k : Nat) : (List.replicate k xs).flatten.length = k * xs.length := by
  induction k with
  | zero => simp
  | succ k ih => rw [List.replicate_succ, List.flatten_cons, List.length_append, ih, Nat.succ_mul, Nat.add_comm]
theorem op_rep : OpR X (binaryOp .Mult) rRep := by
  intro pins s σ H x y v u Q I rx ry h
  obtain ⟨l, k, xs, rfl, rfl, hH, h1, h2, hz, q⟩ := h
  cases rx
  obtain ⟨t, rfl⟩ := ry
  obtain ⟨z, its, n, r, hl, e⟩ := I.lstM hH
  have hlen : its.toArray.size * k.toNat ≤ sizeLine := by rw [List.size_toArray, ← hl]; exact hz
  have hcap : ¬ its.toArray.size * k.toNat > (2 ^ 63 - 1) / 8 := by
    have : (sizeLine : Nat) ≤ (2 ^ 63 - 1) / 8 := by decide
    omega
  have hfit : ¬ (!Builtin.List.listFitsIndex k) = true := by
    rw [fitsIndex_both h1 h2]
    exact Bool.false_ne_true
  have hlong : ¬ Builtin.List.listTooLong (its.toArray.size * k.toNat) = true := by
    rw [notLongL hlen]
    exact Bool.false_ne_true
  have hnew : List.foldl (fun x1 x2 => x1 ++ x2) #[] (List.replicate (if its.toArray.isEmpty = true then 0 else k.toNat) its.toArray) = (List.replicate k.toNat its).flatten.toArray := by
    have f0 : ∀ m : Nat, List.foldl (fun x1 x2 => x1 ++ x2) #[] (List.replicate m its.toArray) = (List.replicate m its).flatten.toArray := fun m => by
      have := foldl_rep its m []
      rw [List.nil_append] at this
      exact this
    rw [f0]
    cases its with
    | nil => simp
    | cons a r' => rw [if_neg (by simp)]
  refine wpAny_binaryOp_repeat_ref (T := "list") (U := "int") (by decide) ⟨_, e, rfl⟩ (fun s' => typeIs_int s' k t) noFill_list_mul F.fills_int_mul F.slot_int_rmul repeat_list F.slot_int_index.lookup
    (call_meets F.slot_int_rmul (typeIs_int s k t) F.entry_int_rmul (F.args_int_rmul_2 _ _) (int___rmul___int_list k t l its.toArray n)
      ⟨e, rfl, ⟨_, e, rfl⟩, call_meets F.slot_list_mul ⟨_, e, rfl⟩ F.entry_list_mul (F.args_list_mul_2 _ _) (AutoListH.list___mul___list_int_3 l its.toArray n k t hfit hcap hlong) ⟨e, ?_⟩⟩)
  rw [hnew]
  exact ⟨.ref _, _, I.lnew (t' := s.toks) (r.rep k.toNat) (by rw [len_rep, Nat.mul_comm]; exact hz), rfl, q _ I.fresh⟩

/-! ### del xs[i] -/
end

/-! ### xs[a:b] = ys -/
section
variable {prog : Program} {w : World} {A : Around} {E : Value → Shared → Prop} {s : Shared}
end

section
variable {X : Cx}
end
end L2

namespace L2
open PySem PySem.Spec PyProof.Rows

/-! ### lists of pairs as tables -/
section
variable {κ : Type} [DecidableEq κ]
def valV (kvs : List (κ × V)) (k : κ) : Option V := (kvs.find? fun kv => decide (kv.1 = k)).map (·.2)
/-- in its place, or at the end -/
def putK (kvs : List (κ × V)) (k : κ) (v : V) : List (κ × V) :=
  if (kvs.any fun kv => decide (kv.1 = k)) = true then kvs.map (fun kv => if kv.1 = k then (kv.1, v) else kv) else kvs ++ [(k, v)]
def dropK (kvs : List (κ × V)) (k : κ) : List (κ × V) := kvs.filter fun kv => decide (kv.1 ≠ k)



end


/-! ### a tracked dict, its keys ints and texts or tuples of these -/

/-- raw entries of a dict with tuple keys -/
abbrev KT (H : Hp) : List (List Key × V) → List (List Key × Addr × Value) → Prop := Paired fun p q => p.1 = q.1 ∧ H q.2.1 = some (.tup (p.1.map kV)) ∧ RelV p.2 q.2.2

section
variable {P : Program} {w : World} {H : Hp} {h : Heap} {a : Addr}
end

/-- what the dict at a holds at the key y -/
def DGet (H : Hp) (a : Addr) (y : V) (r : Option V) : Prop :=
  (∃ kvs k, Rd H a (.dK kvs) ∧ y = kV k ∧ r = valV kvs k) ∨ ∃ kvs k b, Rd H a (.dT kvs) ∧ y = .ref b ∧ H b = some (.tup (k.map kV)) ∧ r = valV kvs k
/-- the heap behind a[y] = v -/
def DPut (H : Hp) (a : Addr) (y v : V) (H' : Hp) : Prop :=
  (∃ kvs k, H a = some (.dK kvs) ∧ y = kV k ∧ kvs.length < sizeLine ∧ H' = upd H a (.dK (putK kvs k v))) ∨
  ∃ kvs k b, H a = some (.dT kvs) ∧ y = .ref b ∧ H b = some (.tup (k.map kV)) ∧ kvs.length < sizeLine ∧ H' = upd H a (.dT (putK kvs k v))


section
variable {X : Cx} {pins : List (Addr × Obj)} {σ : St} {H : Hp} {s : Shared} {a : Addr} {y v : V} {u r : Value} {o : Option V} {A : Around} {E : Value → Shared → Prop}


end

section
variable {X : Cx} {pins : List (Addr × Obj)} {σ : St} {H : Hp} {s : Shared} {a : Addr} {kvs : List (Key × V)} {k : Key} {u : Value} {A : Around} {E : Value → Shared → Prop}
end


/-! ### readings and rules -/
/-- the element of a subscription, not a slice -/
def NoSl (i : Expr) : Prop := ∀ ov iv, subscripted i false ov iv = operate [ov, iv] (getItem ov iv)


/-- d[y] -/
def tDGet (td ty : TE) : TE := fun σ H Q => td σ H fun x H1 => ty σ H1 fun y H2 => ∃ a v, x = .ref a ∧ DGet H2 a y (some v) ∧ Q v H2
/-- y in d, y not in d -/
def tDIn (ty td : TE) : TE := fun σ H Q => ty σ H fun y H1 => td σ H1 fun x H2 => ∃ a o, x = .ref a ∧ DGet H2 a y o ∧ Q (.bl o.isSome) H2
def tDNotIn (ty td : TE) : TE := fun σ H Q => ty σ H fun y H1 => td σ H1 fun x H2 => ∃ a o, x = .ref a ∧ DGet H2 a y o ∧ Q (.bl (!o.isSome)) H2
/-- d[y] = v -/
def sDPut (td ty tv : TE) : TS := fun D σ H => tv σ H fun v H1 => td σ H1 fun x H2 => ty σ H2 fun y H3 => ∃ a H4, x = .ref a ∧ DPut H3 a y v H4 ∧ D.nx σ H4
/-- d[y] op= v -/
def sDAug (td ty tv : TE) (rd : V → V → Hp → VK → Prop) : TS := fun D σ H => td σ H fun x H1 => ty σ H1 fun y H2 => ∃ a v, x = .ref a ∧ DGet H2 a y (some v) ∧
  tv σ H2 fun y2 H3 => rd v y2 H3 fun z H4 => ∃ H5, DPut H4 a y z H5 ∧ D.nx σ H5
/-- del d[y] -/
def sDDel (td ty : TE) : TS := fun D σ H => td σ H fun x H1 => ty σ H1 fun y H2 => ∃ a kvs k, x = .ref a ∧ H2 a = some (.dK kvs) ∧ y = kV k ∧ (valV kvs k).isSome = true ∧ D.nx σ (upd H2 a (.dK (dropK kvs k)))

section
variable {X : Cx} {o i e value : Expr} {pos pos' tpos : Pos} {td ty tv : TE}
end


/-! ### displays -/
/-- {}, to be a dict of the kind that is wanted -/
def tDNewK : TE := fun _ H Q => ∀ p, H p = none → Q (.ref p) (upd H p (.dK []))
def tDNewT : TE := fun _ H Q => ∀ p, H p = none → Q (.ref p) (upd H p (.dT []))
section
variable {X : Cx} {pos : Pos}
end

/-- the pairs of a display, from the left -/
def tPairs : List (TE × TE) → St → Hp → (List (V × V) → Hp → Prop) → Prop
  | [], _, H, Q => Q [] H
  | (tk, tv) :: r, σ, H, Q => tk σ H fun x H1 => tv σ H1 fun y H2 => tPairs r σ H2 fun ps H3 => Q ((x, y) :: ps) H3
abbrev VV : List (V × V) → List (Value × Value) → Prop := Paired fun p q => RelV p.1 q.1 ∧ RelV p.2 q.2
def PPs (X : Cx) (pos : Pos) (keys : List (Option Expr)) (values : List Expr) (trs : List (TE × TE)) : Prop :=
  ∀ (pins : List (Addr × Obj)) (s : Shared) (σ : St) (H : Hp) (Q : List (V × V) → Hp → Prop), Inv X pins σ H s → tPairs trs σ H Q →
    wpAny (model X.prog X.w) X.A (evalPairs (pairTrees keys values X.env pos)) (fun vs s' => ∃ ps H', Inv X pins σ H' s' ∧ VV ps vs ∧ Q ps H') X.xe s

def mergeK (kvs more : List (Key × V)) : List (Key × V) := more.foldl (fun acc kv => putK acc kv.1 kv.2) kvs
/-- {k: v, ..} with keys ints and texts; the new dict stands empty while the pairs are made -/
def tDisp (trs : List (TE × TE)) : TE := fun σ H Q => ∀ p, H p = none → tPairs trs σ (upd H p (.dK [])) fun ps H2 => H2 p = some (.dK []) ∧ ∃ kvs : List (Key × V), ps = kvs.map (fun kv => (kV kv.1, kv.2)) ∧ kvs.length ≤ 15 ∧ Q (.ref p) (upd H2 p (.dK (mergeK [] kvs)))


/-! ### methods -/
/-- a method call o.m(e) of a built-in, with one argument: what must be seen of the text -/
structure M1 (X : Cx) (o : Expr) (m : Str) (apos : Pos) (e : Expr) (cpos : Pos) : Prop where
  base : attributeBase o m X.env (eval o X.env) = eval o X.env
  few : ((backTo cpos (starEach [e] X.env)).all (fun x => !x.1) && (backToKw cpos (keywordEach [] X.env)).all (fun x => x.1.isSome)
    && decide (([e] : List Expr).length + ([] : List Keyword).length + (if ([] : List Keyword).isEmpty then 0 else 1) < 30)) = true
  line : (apos.endLine == cpos.line) = true
  trees : backTo cpos (starEach [e] X.env) = [(false, eval e X.env)]
structure M2 (X : Cx) (o : Expr) (m : Str) (apos : Pos) (e f : Expr) (cpos : Pos) : Prop where
  base : attributeBase o m X.env (eval o X.env) = eval o X.env
  few : ((backTo cpos (starEach [e, f] X.env)).all (fun x => !x.1) && (backToKw cpos (keywordEach [] X.env)).all (fun x => x.1.isSome)
    && decide (([e, f] : List Expr).length + ([] : List Keyword).length + (if ([] : List Keyword).isEmpty then 0 else 1) < 30)) = true
  line : (apos.endLine == cpos.line) = true
  trees : backTo cpos (starEach [e, f] X.env) = [(false, eval e X.env), (false, eval f X.env)]

/-- a is a dict, whatever its keys -/
def IsD (H : Hp) (a : Addr) : Prop := (∃ kvs, Rd H a (.dK kvs)) ∨ ∃ kvs, Rd H a (.dT kvs)

section
variable {X : Cx} {pins : List (Addr × Obj)} {σ : St} {H : Hp} {s : Shared} {a : Addr} {y d : V} {u r : Value} {o : Option V} {A : Around} {E : Value → Shared → Prop}
end

def tDGet1 (td ty : TE) : TE := fun σ H Q => td σ H fun x H1 => ∃ a, x = .ref a ∧ IsD H1 a ∧ ty σ H1 fun y H2 => ∃ o, DGet H2 a y o ∧ Q (o.getD .non) H2
def tDGet2 (td ty tx : TE) : TE := fun σ H Q => td σ H fun x H1 => ∃ a, x = .ref a ∧ IsD H1 a ∧ ty σ H1 fun y H2 => tx σ H2 fun z H3 => ∃ o, DGet H3 a y o ∧ Q (o.getD z) H3
/-- d.pop(k): there; d.pop(k, x): there or not -/
def tDPop1 (td ty : TE) : TE := fun σ H Q => td σ H fun x H1 => ∃ a, x = .ref a ∧ IsD H1 a ∧ ty σ H1 fun y H2 => ∃ kvs k v, H2 a = some (.dK kvs) ∧ y = kV k ∧ valV kvs k = some v ∧ Q v (upd H2 a (.dK (dropK kvs k)))
def tDPop2 (td ty tx : TE) : TE := fun σ H Q => td σ H fun x H1 => ∃ a, x = .ref a ∧ IsD H1 a ∧ ty σ H1 fun y H2 => tx σ H2 fun z H3 => ∃ kvs k, H3 a = some (.dK kvs) ∧ y = kV k ∧
  (∀ v, valV kvs k = some v → Q v (upd H3 a (.dK (dropK kvs k)))) ∧ (valV kvs k = none → Q z H3)
section
variable {X : Cx} {o e f : Expr} {apos cpos : Pos} {td ty tx : TE}
end

/-! ### dict(d): a copy -/
section
variable {X : Cx} {pins : List (Addr × Obj)} {σ : St} {H : Hp} {s : Shared} {a : Addr} {kvs : List (Key × V)} {A : Around} {E : Value → Shared → Prop}
end


section
variable {X : Cx} {pins : List (Addr × Obj)} {σ : St} {H : Hp} {s : Shared} {a : Addr} {y : V} {u : Value} {A : Around} {E : Value → Shared → Prop}
end
end L2

namespace Att
open PySem PySem.W PySem.Calls PyProof.Rows

/-! ### the script -/
theorem ints_of_wellAll {P : Params} {h : Heap} : ∀ (ns : List Int) (vs : List Value), WellAll P h vs (ns.map WData.int) → IntsAre vs ns := by
  intro ns
  induction ns with
  | nil =>
    intro vs w
    rw [List.map_nil] at w
    cases w
    exact .nil
  | cons n ns ih =>
    intro vs w
    rw [List.map_cons] at w
    cases w with
    | cons a b =>
      cases a
      exact .cons _ _ (ih _ b)

theorem script_of {l : OpenLaw} {n : Nat} (hn : l.most = some n) {P : Params} {h : Heap} {args : List WData} {vals : List Value}
    (hpre : l.row.toRowW.claim.pre args = true) (hwl : WellAll P h vals args) :
    ∃ a vs ns, vals = [Value.ref a] ∧ args = [WData.list (ns.map WData.int)] ∧ h.get? a = some { cls := .type "list", data := .seq vs.toArray } ∧ IntsAre vs ns ∧ ns.length ≤ n := by
  have hsh : WShape.hasAll [] args [.list .int] = true := (pre_splitW hpre).1
  have hc : l.pre.holds [] { args := args } = true := (pre_splitW hpre).2
  obtain ⟨d, r, rfl, h1, h2⟩ := hasAllW_cons hsh
  obtain rfl := hasAllW_nil h2
  obtain ⟨xs, rfl, h3⟩ := hasW_list h1
  obtain ⟨ns, rfl⟩ := items_int h3
  have hlen : ns.length ≤ n := by
    unfold OpenLaw.pre at hc
    have h4 : (WTm.not (.lt (.lit (.int (n : Int))) (.len (.arg 0)))).holds [] { args := [.list (ns.map .int)] } = true := by
      have h4 := (holds_andW hc).1
      rw [hn] at h4
      exact h4
    have h5 := condW_of h4 (w_not (w_lt w_lit (w_len_list (w_arg rfl))))
    rw [List.length_map] at h5
    refine Nat.le_of_not_lt fun q => ?_
    have q' : (n : Int) < ((ns.length : Nat) : Int) := by omega
    first
      | (rw [decide_eq_true q'] at h5; exact absurd h5 (by decide))
      | (simp at h5; omega)
  cases hwl with
  | cons w1 w2 =>
    cases w2
    cases w1 with
    | list ho hall => exact ⟨_, _, ns, rfl, rfl, ho, ints_of_wellAll ns _ hall, hlen⟩

theorem post_true (l : OpenLaw) (args : List WData) : l.row.toRowW.claim.post args (.bool true) args = true :=
  postW_of (r := l.row.toRowW) (X := (true == true))
    (show WShape.has [] (.bool true) .bool = true by first | rfl | decide | simp [WShape.has, WShape.arms, WShape.armsAll])
    (show (WTm.eq .res (.lit (.bool true))).value [] { args := args, res := some (.bool true), after := args } = some (.bool (true == true)) from w_eq_bool (w_res rfl) w_lit) rfl

/-! ### the attachment: holds_open's last premise (the goal 'hc' behind k_head) from a wpAny of the law's body -/

/-- the same from a codeAny of the CALL (for a layer whose function contracts speak of calls) -/
theorem attach_call {l : OpenLaw} {n : Nat} {q : Program} {loose : List Str} {XP : (Str → Option Value) → Heap → Prop} {YP : World → Heap → Prop} {d : DefRec}
    (hn : l.most = some n) (hdf : d.params.defaults = [])
    (call : ∀ (w : World) (s₀ s₁ : Shared) (mg mb : Str → Option Value) (fa : Addr) (o : Obj) (pm cd doc : Value) (a : Addr) (vs : List Value) (ns : List Int),
      Ground q loose [] XP w s₀ mg mb s₁.heap → YP w s₁.heap →
      s₁.heap.get? fa = some o → o.data = .func (docDef d.name d.params d.body d.scope pm cd doc) → s₁.heap.CodeRec cd d.name → mg d.name = some (.ref fa) →
      s₁.heap.get? a = some { cls := .type "list", data := .seq vs.toArray } → IntsAre vs ns → ns.length ≤ n → s₁.gens = #[] →
      codeAny (model l.prog w) callerA (.call (.ref fa) ⟨[.ref a], []⟩) (fun r s' => r = .ok (.ret (.bool true)) ∧ OldK s₁.heap s'.heap ∧ s'.os = s₁.os ∧ AllBare s'.gens) s₁) :
    WalkO q loose XP YP l.row.toRowW d [] (fun f vs => PySem.call f vs) := by
  intro w s₀ s₁ mg mb G Y fa o pm cd doc dV kV ho hd hcd hD hmg hg args vals as hpre hlay hrd hwl hlo
  obtain rfl : dV = .none := Dflts.none hD hdf
  obtain rfl : kV = .none := Dflts.noKw hD
  obtain ⟨a, vs, ns, rfl, rfl, hobj, hints, hlen⟩ := script_of hn hpre hwl
  refine enter_call (codeAny_mono (call w s₀ s₁ mg mb fa o pm cd doc a vs ns G Y ho (fd_plain hd) hcd hmg hobj hints hlen hg) fun r s' hq => ?_)
  obtain ⟨rfl, h2, h3, h4⟩ := hq
  exact ⟨.inl ⟨.bool true, .bool true, [], rfl, fun _ => rfl, .bool true, post_true l _, fun _ => ⟨List.Pairwise.nil, fun _ hm => (nomatch hm)⟩⟩, h2, h3, h4⟩


/-! ### rules over ANY heap (no ledger) from facts about the written part K: the library's own take a ledger (News) for what they write -/
section
variable {prog : Program} {w : World} {A : Around} {E : Value → Shared → Prop} {s : Shared} {K : Frag}





/-! the whole heap as the ledger: makes every rule that writes through a ledger a rule over any heap -/
def noObjs (h : Heap) : Heap := { h with objs := #[] }
def ledger (h : Heap) (L d : Addr) : List (Addr × Obj) := (List.range h.objs.size).filterMap fun a => if a = L ∨ a = d then none else (h.get? a).map fun o => (a, o)

end
end Att

namespace L2
open PySem PySem.Spec PyProof.Rows

theorem vals_ints : ∀ {vs : List Value} {ns : List Int}, IntsAre vs ns → Vals (ns.map V.int) vs
  | _, _, .nil => .nil
  | _, _, .cons n t h => .cons ⟨t, rfl⟩ (vals_ints h)

/-- nothing is tracked but the script, known to the object (or it is an object of the module) -/
def Only (H : Hp) : Prop := ∀ b, H b = none ∨ ∃ o xs, H b = some (.frz o (.lst xs))

/-- THE HEAD: the law's promise, at the heap behind the top. F, the promise of the law's def, may use that base is part of the heap (so K.In base, base.Ns mainGlobals mg stand in Mod) -/
theorem law_call {P : Program} {w : World} {K : PySem.W.Frag} {mg mb : Str → Option Value} {CX : CXT} {k : Nat} {fa a : Addr} {fd : FuncData} {x : Str} {sp : Sp} {s₁ : Shared} {vs : List Value} {ns : List Int}
    (KX : K.In s₁.heap) (hns : s₁.heap.Ns mainGlobals mg) (hb : s₁.heap.Ns builtinsNs mb) (hbb : ∀ x : Str, x ≠ "__name__" → mb x = bootBuiltins x) (hlim : s₁.heap.NoLimit) (hg : s₁.gens = #[])
    (ha : s₁.heap.get? a = some { cls := .type "list", data := .seq vs.toArray }) (hi : IntsAre vs ns) (hl : ns.length ≤ sizeLine) (hr : Room k callerA)
    (F : ∀ base : Heap, K.In base → base.Ns mainGlobals mg → FnOk P w K mg base CX k fa fd [x] sp) (hbind : ∀ (s : Shared) (u : Value), BindsTo s fd ⟨[u], []⟩ [(x, u)])
    (hsp : ∀ H : Hp, Only H → SqL K H a (ns.map V.int) → sp [.ref a] H (fun v _ => v = .bl true) fun _ _ _ => False)
    (hCX : ∀ H e s', CX [] H s₁ (fun _ _ _ => False) e s' → False) :
    codeAny (model P w) callerA (.call (.ref fa) ⟨[.ref a], []⟩) (fun r s' => r = .ok (.ret (.bool true)) ∧ OldK s₁.heap s'.heap ∧ s'.os = s₁.os ∧ AllBare s'.gens) s₁ := by
  have rv := vals_ints hi
  have lenV := hi.length
  -- from an abstract heap in which nothing but the script may be tracked
  have core : ∀ H : Hp, Only H → SqL K H a (ns.map V.int) → HOk P w H s₁.heap → (∀ b, H b ≠ none → b = a) → (H a ≠ none → K.lookup a = none) →
      codeAny (model P w) callerA (.call (.ref fa) ⟨[.ref a], []⟩) (fun r s' => r = .ok (.ret (.bool true)) ∧ OldK s₁.heap s'.heap ∧ s'.os = s₁.os ∧ AllBare s'.gens) s₁ := by
    intro H hO hS hok hA hK
    have base_of : ∀ {b : Addr} {o : Obj}, s₁.heap.get? b = some o → H b = none → (hidT s₁.heap H).get? b = some o := fun e n => hidT_get e n
    have noA : ∀ {b : Addr} {o : Obj} {es : Array DictEntry} {ep : Nat}, s₁.heap.get? b = some o → o.data = .dict es ep → H b = none := fun {b o es ep} e d => by
      cases q : H b with
      | none => rfl
      | some u =>
        have e' : b = a := hA b (by rw [q]; simp)
        subst e'
        rw [ha] at e; cases e
        have d' : Data.seq vs.toArray _ = Data.dict es ep := d
        cases d'
    have nsK : ∀ {b : Addr} {m : Str → Option Value}, s₁.heap.Ns b m → (hidT s₁.heap H).Ns b m := fun {b m} ⟨o, es, ep, e, d, r⟩ => ⟨o, es, ep, base_of e (noA e d), d, r⟩
    have hKb : K.In (hidT s₁.heap H) := fun b o e => base_of (KX b o e) (by
      cases q : H b with
      | none => rfl
      | some u =>
        have e' : b = a := hA b (by rw [q]; simp)
        subst e'
        rw [hK (by rw [q]; simp)] at e; cases e)
    have hM : Mod K mg (hidT s₁.heap H) := ⟨hKb, nsK hns, ⟨mb, nsK hb, hbb⟩, let ⟨mc, h1, h2⟩ := hlim; ⟨mc, nsK h1, h2⟩⟩
    have e0 : Env0 P w K mg (hidT s₁.heap H) callerA [] s₁ H := ⟨rfl, hM, fun b o e => of_hidT e, Nat.le_of_eq (hidT_size _ _), trivial, fun b hb => absurd (show b ∈ ([] : List Addr) from hb) (by simp), hok, .of_eq hg⟩
    refine codeAny_mono ((F _ hKb (nsK hns)).run callerA [] s₁ H ⟨[.ref a], []⟩ [.ref a] [.ref a] _ _ hr e0 (hbind s₁ (.ref a)) (.cons rfl .nil) (hsp H hO hS)) fun r s' h => ?_
    cases r with
    | error e => exact (hCX H e s' h).elim
    | ok fl =>
      cases fl with
      | next => exact False.elim h
      | brk => exact False.elim h
      | cont => exact False.elim h
      | ret u =>
        obtain ⟨v, H', os, bare, un, hok', r', q⟩ := h
        have q' : v = .bl true := q
        subst q'
        obtain rfl : u = Value.bool true := r'
        refine ⟨rfl, OldK.of_keep fun b o e => ?_, os, bare⟩
        cases q : H b with
        | none => exact un.keep b o e q (by intro z; exact absurd (show b ∈ ([] : List Addr) from z) (by simp)) (by simp)
        | some u =>
          rcases hO b with z | ⟨ob, xs, z⟩
          · rw [q] at z; cases z
          · have z2 := un.frzs b ob _ z
            obtain ⟨e1, _⟩ := hok b _ z
            obtain ⟨e2, _⟩ := hok' b _ z2
            rw [e] at e1; cases e1
            exact e2
  cases hk : K.lookup a with
  | some o =>
    -- the script is one of the module's own objects
    have e := KX a o hk
    rw [ha] at e
    cases e
    refine core (fun _ => none) (fun _ => .inl rfl) (.inr ⟨_, vs.toArray, _, hk, rfl, rfl, rfl, by rw [List.size_toArray, lenV]; exact hl, by simpa using rv⟩) (fun b u z => by have z' : (none : Option HO) = some u := z; cases z') (fun b z => absurd rfl z) fun z => absurd rfl z
  | none =>
    refine core (fun b => if b = a then some (.frz { cls := .type "list", data := .seq vs.toArray } (.lst (ns.map V.int))) else none) (fun b => ?_) (.inl (.inr ⟨{ cls := .type "list", data := .seq vs.toArray }, if_pos rfl⟩)) (fun b u z => ?_) (fun b z => ?_) fun _ => hk
    · by_cases hb : b = a
      · exact .inr ⟨_, _, if_pos hb⟩
      · exact .inl (if_neg hb)
    · by_cases hb : b = a
      · have z' := (if_pos hb).symm.trans z
        cases z'
        subst hb
        exact ⟨ha, by rw [List.length_map]; exact hl, vs, _, rv, ha⟩
      · have z' := (if_neg hb).symm.trans z
        cases z'
    · by_cases hb : b = a
      · exact hb
      · exact absurd (if_neg hb) z
end L2

namespace L2
open PySem PySem.Spec PyProof.Rows

abbrev KOf {K : PySem.W.Frag} {h : Heap} (_ : K.In h) : PySem.W.Frag := K

/-- the goal that k_head leaves (case hc), from the law's promise. F gives the function object fd (K's own) once, then the promise over every base -/
theorem walk_of {l : PySem.W.OpenLaw} {n k : Nat} {q : Program} {loose : List Str} {XP : (Str → Option Value) → Heap → Prop} {YP : World → Heap → Prop} {d : DefRec} {K : Params → PySem.W.Frag} {CX : World → CXT} {sp : World → Sp} {x : Str}
    (hn : l.most = some n) (hn2 : n ≤ sizeLine) (hdf : d.params.defaults = []) (hr : Room k callerA)
    (hY : ∀ (w : World) (h : Heap), YP w h → (K w.params).In h)
    (F : ∀ (w : World) (mg : Str → Option Value) (fa : Addr) (h : Heap), (K w.params).In h → h.Ns mainGlobals mg → mg d.name = some (.ref fa) →
      ∃ fd : FuncData, (∀ (s : Shared) (u : Value), BindsTo s fd ⟨[u], []⟩ [(x, u)]) ∧
        ∀ base : Heap, (K w.params).In base → base.Ns mainGlobals mg → FnOk l.prog w (K w.params) mg base (CX w) k fa fd [x] (sp w))
    (hsp : ∀ (w : World) (H : Hp) (a : Addr) (ns : List Int), ns.length ≤ n → Only H → SqL (K w.params) H a (ns.map V.int) → sp w [.ref a] H (fun v _ => v = .bl true) fun _ _ _ => False)
    (hCX : ∀ (w : World) (H : Hp) (s : Shared) (e : Value) (s' : Shared), CX w [] H s (fun _ _ _ => False) e s' → False) :
    PySem.W.WalkO q loose XP YP l.row.toRowW d [] (fun f vs => PySem.call f vs) := by
  refine Att.attach_call hn hdf fun w s₀ s₁ mg mb fa o pm cd doc a vs ns G Y ho hd hcd hmg hobj hints hlen hg => ?_
  have KX := hY w _ Y
  obtain ⟨fd, hb, hF⟩ := F w mg fa _ KX G.T.g hmg
  exact law_call KX G.T.g G.T.b G.T.builtins G.T.nolimit hg hobj hints (Nat.le_trans hlen hn2) hr hF hb (fun H hO hS => hsp w H a ns hlen hO hS) fun H e s' => hCX w H s₁ e s'
end L2

/- THE LAST THEOREM (shape; LID, My.* are yours):
   My.Adr: a structure of the addresses that your layer names (classes, functions); My.Txt K t: a structure (Prop) of the equations over K;
   My.txt_mk : {K} {implicit addresses ..} (e1 : nsIn K mainGlobals "law" = some (some (.ref f))) (e2 : K.lookup f = some ⟨oc, od, .func (fnOf "law" "law" params body scope dV kV doc pm an cdv ct), sl⟩) (e3 : codeIn K cdv "law" = true) .. : ∃ t, My.Txt K t

set_option maxRecDepth 100000 in
set_option maxHeartbeats 0 in
theorem PySem.Challenge.cw_LID_holds : PySem.Challenge.rw_LID.Holds := by
  w_on; o_law; k_head; (case hw => w_witness2)
  k_fill
  refine L2.walk_of (l := PySem.Challenge.rw_LID) (n := 63) (k := 40) (x := "script") (CX := fun w => ..) (sp := fun _ => My.sp_law) rfl (by decide) rfl ⟨rfl, by decide, by decide⟩ (fun w h Y => PySem.W.kIn_of Y) ?F ?S ?C
  case F =>
    intro w mg fa h KX G hmg
    have T : ∃ t, My.Txt (L2.KOf KX) t := by
      dsimp only [L2.KOf]                          -- K must stand as «<heap const> w.params» for k_is
      refine' My.txt_mk ?e1 ?e2 ?e3 ..
      (case e1 => PySem.W.k_is)                    -- in the order: a name -> its address -> its object -> its parts
      (case e2 => PySem.W.k_is)
      ..
    obtain ⟨t, T⟩ := T
    have e0 := hmg.symm.trans (PySem.W.mg_of KX G T.law)
    cases e0                                       -- fa is the law's own address
    exact ⟨_, fun s u => .of_eq rfl, fun base kb nb => My.law_fn T kb nb⟩     -- if «.of_eq rfl» comes too early: refine' ⟨_, ?b, fun base kb nb => My.law_fn T kb nb⟩; exact fun s u => .of_eq rfl
  case S => exact fun w H a ns hl hO hS => ..
  case C => exact ..
(the tactic k_is has no namespace: write k_is) -/

/-! SHORT WORDS over the layer: a def of the text, its body, what a loop and a test want. -/
namespace L2
open PySem PySem.Spec PyProof.Rows

/-! ### the text by places -/
/-- the j-th statement of a class's body -/
def inClass (s : Stmt) (j : Nat) : Stmt := match s with
  | .ClassDef _ _ _ body _ _ _ _ _ _ _ => body.getD j (.Pass ⟨0, 0, 0, 0⟩)
  | _ => .Pass ⟨0, 0, 0, 0⟩
def defArgs (s : Stmt) : Arguments := match s with
  | .FunctionDef _ a _ _ _ _ _ _ _ _ => a
  | _ => { posonlyargs := [], args := [], vararg := none, kwonlyargs := [], kw_defaults := [], kwarg := none, defaults := [] }
def defBody (s : Stmt) : List Stmt := match s with
  | .FunctionDef _ _ b _ _ _ _ _ _ _ => b
  | _ => []
def defScope (s : Stmt) : Scope := match s with
  | .FunctionDef _ _ _ _ _ _ sc _ _ _ => sc
  | _ => { kind := .function, names := [], isGenerator := false, isCoroutine := false }

/-! ### no exception leaves a def -/
abbrev CX0 : CXT := fun _ _ _ _ _ _ => False
abbrev E0 : XK := fun _ _ _ => False
theorem pass0 {X : Cx} : Passes CX0 X E0 := fun _ _ _ _ _ _ _ h => h.elim

/-! ### a def (or method) of the text as it stands behind the top -/
structure Fun (K : PySem.W.Frag) (x qual : Str) (st : Stmt) (f : Addr) (fd : FuncData) : Prop where
  ex : ∃ (oc : Value) (od : Option Addr) (kV doc pm : Value) (an : Option Addr) (cdv ct : Value) (osl : Array (Option Value)),
    fd = PySem.W.fnOf x qual (defArgs st) (defBody st) (defScope st) .none kV doc pm an cdv ct ∧ K.lookup f = some ⟨oc, od, .func fd, osl⟩ ∧ PySem.W.codeIn K cdv qual = true
  kp : PySem.W.keepIn K (.ref f) = true
section
variable {P : Program} {w : World} {K : PySem.W.Frag} {mg : Str → Option Value} {base : Heap}
/-- THE RULE for a def: its body as a term of rules, and the reading of that term -/
theorem Fun.ok {x qual : Str} {st : Stmt} {f : Addr} {fd : FuncData} {N ps : List Str} {k : Nat} {sp : Sp} (F : Fun K x qual st f fd) (S : FnScope N ps (defScope st)) (len : ∀ vs H Q E, sp vs H Q E → vs.length = ps.length)
    (hbody : ∀ (cdv : Value) (A : Around) (outer : List Env) (s : Shared) (H : Hp) (vs : List V) (Q : VK) (E : XK), Room k (A.deeper (envOfC qual (defScope st) s.heap.objs.size f cdv)) → sp vs H Q E →
      ∃ t, PSs (cxOf CX0 P w K mg base N qual (defScope st) f cdv A outer s H E).nox (defBody st) t ∧ t { nx := fun _ H' => Q .non H', rt := Q } (start N vs) H) : FnOk P w K mg base CX0 (k + 1) f fd ps sp := by
  obtain ⟨oc, od, kV, doc, pm, an, cdv, ct, osl, rfl, lk, hcd⟩ := F.ex
  refine fn_of lk hcd S len fun A outer s H vs Q E hr hsp => ?_
  obtain ⟨t, h, q⟩ := hbody cdv A outer s H vs Q E hr hsp
  exact ⟨t, h.nox, q⟩
/-- how its arguments bind (no defaults): h is «fun _ _ _ _ _ _ us hl => match us, hl with | [_, _], _ => rfl», one _ a parameter -/
theorem Fun.binds {x qual : Str} {st : Stmt} {f : Addr} {fd : FuncData} {ps : List Str} (F : Fun K x qual st f fd)
    (h : ∀ (kV doc pm : Value) (an : Option Addr) (cdv ct : Value) (us : List Value), us.length = ps.length → bindArgs (PySem.W.fnOf x qual (defArgs st) (defBody st) (defScope st) .none kV doc pm an cdv ct) ⟨us, []⟩ = pure (ps.zip us)) : Binds K fd ps [] := by
  obtain ⟨oc, od, kV, doc, pm, an, cdv, ct, osl, rfl, lk, hcd⟩ := F.ex
  exact .all (h kV doc pm an cdv ct)
theorem fun_mk {x qual : Str} {st : Stmt} {f : Addr} {oc : Value} {od an : Option Addr} {osl : Array (Option Value)} {kV doc pm cdv ct : Value} (l : K.lookup f = some ⟨oc, od, .func (PySem.W.fnOf x qual (defArgs st) (defBody st) (defScope st) .none kV doc pm an cdv ct), osl⟩)
    (c : PySem.W.codeIn K cdv qual = true) (k : PySem.W.keepIn K (.ref f) = true) : Fun K x qual st f (PySem.W.fnOf x qual (defArgs st) (defBody st) (defScope st) .none kV doc pm an cdv ct) := ⟨⟨oc, od, kV, doc, pm, an, cdv, ct, osl, rfl, l, c⟩, k⟩
end

/-! ### expressions in short: the name that stands in the i-th slot -/
section
variable {X : Cx}
end

/-! ### tests -/
theorem iteF {A B : Prop} (h : B) : if false = true then A else B := by
  rw [if_neg Bool.false_ne_true]
  exact h
theorem iteT {A B : Prop} (h : A) : if true = true then A else B := by
  rw [if_pos rfl]
  exact h

/-! ### heaps -/
/-- all that was tracked is as it was -/
def Same (H H' : Hp) : Prop := ∀ b o, H b = some o → H' b = some o

end L2

namespace L2
open PySem PySem.Spec PyProof.Rows
section
variable {X : Cx}
end
/-! ### a dict's pairs: keys that differ -/
section
variable {κ : Type} [DecidableEq κ]
end
end L2

set_option linter.all false
namespace HM
/-! ### gcd -/
theorem gcd_fmod (a b : Int) : Int.gcd b (a.fmod b) = Int.gcd a b := by
  have h := Int.gcd_sub_mul_right_right b a (a.fdiv b)
  rw [Int.fmod_def, Int.mul_comm b, h, Int.gcd_comm]
theorem fmod_lt (a b : Int) (h : b ≠ 0) : (a.fmod b).natAbs < b.natAbs := by
  rcases Int.lt_or_gt_of_ne h with hb | hb
  · have e : a.fmod b = -((-a).fmod (-b)) := by rw [Int.neg_fmod_neg, Int.neg_neg]
    have h1 := Int.fmod_nonneg_of_pos (-a) (show 0 < -b by omega)
    have h2 := Int.fmod_lt_of_pos (-a) (show 0 < -b by omega)
    omega
  · have h1 := Int.fmod_nonneg_of_pos a hb
    have h2 := Int.fmod_lt_of_pos a hb
    omega
theorem gcd_zero (a : Int) : ((Int.gcd a 0 : Nat) : Int) = if a < 0 then -a else a := by
  rw [Int.gcd_zero_right]
  split <;> omega
/-! ### a fraction of two ints -/
def shr (t b : Int) : Int := if b < 0 then -((Int.gcd t b : Nat) : Int) else ((Int.gcd t b : Nat) : Int)
theorem shr_ne {t b : Int} (h : b ≠ 0) : shr t b ≠ 0 := by
  have h1 : Int.gcd t b ≠ 0 := fun e => h (Int.gcd_eq_zero_iff.mp e).2
  unfold shr
  split <;> omega
theorem div_num {t b : Int} (h : b ≠ 0) : t.fdiv (shr t b) = (Rat.divInt t b).num := by
  have hg : ((Int.gcd t b : Nat) : Int) ∣ t := Int.gcd_dvd_left t b
  rw [Rat.num_divInt, Int.gcd_comm b t]
  unfold shr
  rcases Int.lt_or_gt_of_ne h with hb | hb
  · rw [if_pos hb, Int.sign_eq_neg_one_of_neg hb, Int.fdiv_eq_ediv_of_dvd (Int.neg_dvd.mpr hg), Int.ediv_neg, Int.neg_mul, Int.one_mul, Int.neg_ediv_of_dvd hg]
  · rw [if_neg (by omega), Int.sign_eq_one_of_pos hb, Int.fdiv_eq_ediv_of_dvd hg, Int.one_mul]
theorem div_den {t b : Int} (h : b ≠ 0) : b.fdiv (shr t b) = ((Rat.divInt t b).den : Int) := by
  have hg : ((Int.gcd t b : Nat) : Int) ∣ b := Int.gcd_dvd_right t b
  rw [Rat.den_divInt, Int.gcd_comm b t, if_neg h]
  unfold shr
  rcases Int.lt_or_gt_of_ne h with hb | hb
  · rw [if_pos hb, Int.fdiv_eq_ediv_of_dvd (Int.neg_dvd.mpr hg), Int.ediv_neg, Int.natCast_ediv]
    rw [show ((b.natAbs : Nat) : Int) = -b by omega, Int.neg_ediv_of_dvd hg]
  · rw [if_neg (by omega), Int.fdiv_eq_ediv_of_dvd hg, Int.natCast_ediv]
    rw [show ((b.natAbs : Nat) : Int) = b by omega]
/-! ### the root of a whole number -/
def isqN : Nat → Nat
  | 0 => 0
  | n + 1 => if (isqN n + 1) * (isqN n + 1) ≤ n + 1 then isqN n + 1 else isqN n
/-- the greatest int whose square is no greater (0 below 0) -/
def isq (n : Int) : Int := (isqN n.toNat : Nat)
structure Rt (n r : Int) : Prop where
  nn : 0 ≤ r
  le : r * r ≤ n
  lt : n < (r + 1) * (r + 1)
/-! Newton's steps -/
/-! ### sizes -/
def Bt (n : Nat) (x : Int) : Prop := x.natAbs < 2 ^ n
theorem two_pow_le {m n : Nat} (h : m ≤ n) : 2 ^ m ≤ 2 ^ n := Nat.pow_le_pow_right (by decide) h
theorem Bt.mono {m n : Nat} {x : Int} (h : Bt m x) (hm : m ≤ n) : Bt n x := Nat.lt_of_lt_of_le h (two_pow_le hm)
theorem Bt.neg {m : Nat} {x : Int} (hx : Bt m x) : Bt m (-x) := by unfold Bt at *; omega
theorem Bt.le {m : Nat} {x y : Int} (hx : Bt m x) (h : y.natAbs ≤ x.natAbs) : Bt m y := Nat.lt_of_le_of_lt h hx
/-- a fraction's size -/
structure Sz (n : Nat) (q : Rat) : Prop where
  num : Bt n q.num
  den : Bt n q.den
/-! ### squares of fractions -/
/-- no fraction's square is u -/
def NoSq (u : Rat) : Prop := ∀ r : Rat, r * r ≠ u
end HM
namespace HM
/-- Newton's guess -/
structure Gd (n g : Int) : Prop where
  pos : 0 < g
  ge : isq n ≤ g
  bt : Bt 2002 g
end HM
namespace HM
abbrev absI (a : Int) : Int := if a < 0 then -a else a
theorem absI_nn (a : Int) : 0 ≤ absI a := by unfold absI; split <;> omega
/-- the unders of the laws -/
def Unders : List Int := [2, 3, 5, 6, 7, 8, 10, 12, 18, 101]
end HM
namespace HM
/-! ### root numbers: a + b times the root of u, as (a, b |b| u) -/
def ab (b : Rat) : Rat := if b < 0 then -b else b
def ss (b : Rat) : Rat := b * ab b
/-- p with the sign of q -/
def sg (p q : Rat) : Rat := if q < 0 then -p else p
end HM
namespace HM
/-! ### signs -/
def sgR (q : Rat) : Int := if 0 < q then 1 else if q < 0 then -1 else 0
/-- the sign of a + b times the root of u -/
def sq2 (a b u : Rat) : Int := if 0 < a * a - b * b * u then sgR a else sgR b
end HM
namespace HM
/-! ### roots of fractions, shares -/
/-- the field's base: e e u -/
def pick (b d : Rat) : Rat := if b = 0 then d else b
end HM
/-! ## the law's sign, by squares over one bottom -/
namespace HM
def sI (i : Int) : Int := (if decide (0 < i) = true then 1 else 0) - (if decide (i < 0) = true then 1 else 0)
section
variable {p q : Rat} {u : Int}
end
end HM
/-! ## comprehensions [e for t in it (if c)] -/
namespace L2
open PySem PySem.Spec PyProof.Rows
theorem compTurn_if0 (elt target iter : Expr) (scope : Scope) (pos : Pos) (it acc : Value) (env : Env) :
    compTurn (.ListComp elt [⟨target, iter, [], 0⟩] scope pos) 0 it acc env = (standAt iter.pos >>= fun _ => pyNext it >>= fun r => match r with
      | none => pure (.done .next)
      | some v => letOwnedTupleGo target it v >>= fun _ => assign target env v >>= fun _ =>
        (eval elt env >>= fun x => call (.builtin "list.append") [acc, x] >>= fun _ => pure ()) >>= fun _ =>
          again (.compLoop (.ListComp elt [⟨target, iter, [], 0⟩] scope pos) 0 it acc env)) := by rfl
section
variable {prog : Program} {w : World} {A : Around} {R : Result → Shared → Prop} {s : Shared}
abbrev NoE : Value → Shared → Prop := fun _ _ => False
theorem noE {α : Type} {M : Model} {A : Around} {t : Sem α} {Q : α → Shared → Prop} {E : Value → Shared → Prop} {s : Shared} (h : wpAny M A t Q NoE s) : wpAny M A t Q E s := wpAny_mono h (fun _ _ q => q) fun _ _ z => z.elim
theorem compLoop_if0 {elt target iter : Expr} {scope : Scope} {pos : Pos} {it acc : Value} {env : Env} (I : Nat → Shared → Prop)
    (turn : ∀ n s, I n s → wpAny (model prog w) A (pyNext it) (fun r s1 => match r with
      | none => R (.ok .next) s1
      | some v => wpAny (model prog w) A (letOwnedTupleGo target it v) (fun _ s2 => wpAny (model prog w) A (assign target env v) (fun _ s3 => wpAny (model prog w) A (eval elt env) (fun x s4 =>
          wpAny (model prog w) A (call (.builtin "list.append") [acc, x]) (fun _ s5 => ∃ m, m < n ∧ I m s5) NoE s4) NoE s3) NoE s2) NoE s1) NoE s)
    (n : Nat) (h : I n s) : codeAny (model prog w) A (.compLoop (.ListComp elt [⟨target, iter, [], 0⟩] scope pos) 0 it acc env) R s := by
  refine codeAny_loop rfl I (fun n s hI => ?_) n h
  show wpAny _ _ ((compTurn (.ListComp elt [⟨target, iter, [], 0⟩] scope pos) 0 it acc env).onRaise (fun x => do noteFrame x env; theTreesLotGoes x)) _ _ s
  refine wpAny_noted ?_
  rw [compTurn_if0]
  refine wpAny_bind (wpAny_standAt (wpAny_bind (noE (wpAny_mono (turn n s hI) (fun r s1 h1 => ?_) fun _ _ z => z))))
  cases r with
  | none => exact wpAny_pure h1
  | some v =>
    exact wpAny_bind (noE (thn h1 fun _ s2 h2 => wpAny_bind (noE (thn h2 fun _ s3 h3 => wpAny_bind (wpAny_bind (noE (thn h3 fun x s4 h4 => wpAny_bind (noE (thn h4 fun _ s5 h5 => wpAny_pure (wpAny_pure ⟨rfl, h5⟩))))))))))
theorem wpAny_forIn_one {M : Model} {A : Around} {E : Value → Shared → Prop} {c : Expr} {env : Env} {Q : Bool → Shared → Prop} {s : Shared} (h : wpAny M A (PySem.isTrue c env (eval c env)) Q E s) :
    wpAny M A (forIn [c] true fun c r => if r = true then do let ok ← PySem.isTrue c env (eval c env); pure (ForInStep.yield ok) else pure (ForInStep.yield r)) Q E s := by
  rw [List.forIn_cons]
  refine wpAny_bind ?_
  rw [if_pos rfl]
  refine wpAny_bind (thn h fun ok s1 q => wpAny_pure ?_)
  show wpAny M A (forIn [] ok _) Q E s1
  rw [List.forIn_nil]
  exact wpAny_pure q
theorem compLoop_if1 {elt target iter c : Expr} {scope : Scope} {pos : Pos} {it acc : Value} {env : Env} (I : Nat → Shared → Prop)
    (turn : ∀ n s, I n s → wpAny (model prog w) A (pyNext it) (fun r s1 => match r with
      | none => R (.ok .next) s1
      | some v => wpAny (model prog w) A (letOwnedTupleGo target it v) (fun _ s2 => wpAny (model prog w) A (assign target env v) (fun _ s3 => wpAny (model prog w) A (isTrue c env (eval c env)) (fun b s3' =>
          if b = true then wpAny (model prog w) A (eval elt env) (fun x s4 => wpAny (model prog w) A (call (.builtin "list.append") [acc, x]) (fun _ s5 => ∃ m, m < n ∧ I m s5) NoE s4) NoE s3'
          else ∃ m, m < n ∧ I m s3') NoE s3) NoE s2) NoE s1) NoE s)
    (n : Nat) (h : I n s) : codeAny (model prog w) A (.compLoop (.ListComp elt [⟨target, iter, [c], 0⟩] scope pos) 0 it acc env) R s := by
  refine codeAny_loop rfl I (fun n s hI => ?_) n h
  show wpAny _ _ ((compTurn (.ListComp elt [⟨target, iter, [c], 0⟩] scope pos) 0 it acc env).onRaise (fun x => do noteFrame x env; theTreesLotGoes x)) _ _ s
  refine wpAny_noted ?_
  rw [compTurn_list]
  refine wpAny_bind (wpAny_standAt (wpAny_bind (noE (wpAny_mono (turn n s hI) (fun r s1 h1 => ?_) fun _ _ z => z))))
  cases r with
  | none => exact wpAny_pure h1
  | some v =>
    refine wpAny_bind (noE (thn h1 fun _ s2 h2 => wpAny_bind (noE (thn h2 fun _ s3 h3 => wpAny_bind (wpAny_forIn_one (noE (thn h3 fun b s3' h3' => ?_)))))))
    cases b with
    | true =>
      rw [if_pos rfl] at h3' ⊢
      exact wpAny_bind (wpAny_bind (noE (thn h3' fun x s4 h4 => wpAny_bind (noE (thn h4 fun _ s5 h5 => wpAny_pure (wpAny_pure ⟨rfl, h5⟩))))))
    | false =>
      rw [if_neg Bool.false_ne_true] at h3' ⊢
      exact wpAny_pure ⟨rfl, h3'⟩
end
/-- the block's context -/
def cxC (X : Cx) (scope : Scope) (cl : List (Str × Addr)) (N : List Str) (s0 : Shared) (H0 : Hp) (ex : List Addr) (C : Addr) : Cx where
  prog := X.prog
  w := X.w
  K := X.K
  mg := X.mg
  base := X.base
  A := X.A
  N := N
  s₀ := s0
  H₀ := H0
  env := compEnvC scope cl C X.env
  outer := X.stack
  stack := X.stack
  ex := ex
  fn := fun _ => false
  calm := X.calm
  pn := []
  xe := NoE
/-- what is asked of the block's names: cl the cells that are taken over, cap[i] the place of the i-th name among the def's own, where it is taken over -/
structure CompSc (X : Cx) (scope : Scope) (cl : List (Str × Addr)) (N : List Str) (cap : List (Option Nat)) : Prop where
  kind : scope.kind = .function
  clos : closureFor scope X.env = pure cl
  nocell : (scope.names.all fun y => y.2 != NameKind.cell) = true
  names : (scope.names.all fun y => y.2 != NameKind.local || scope.names.lookup y.1 == some NameKind.local) = true
  sub : ∀ p ∈ cl, X.env.cells.lookup p.1 = some p.2
  has : ((relabel scope X.env).names.all fun y => (y.2 != NameKind.cell && y.2 != NameKind.free) || (cl.lookup y.1).isSome) = true
  len : cap.length = N.length
  caps : ∀ (i j : Nat) (x : Str), cap[i]? = some (some j) → N[i]? = some x → X.N[j]? = some x ∧ (X.env.scope.names.lookup x = some .cell ∨ X.env.scope.names.lookup x = some .free) ∧ ((relabel scope X.env).names.lookup x = some .cell ∨ (relabel scope X.env).names.lookup x = some .free)
def capSt (cap : List (Option Nat)) (σ : St) : St := cap.map fun o => match o with
  | some j => (σ[j]?).join
  | none => none
theorem capSt_get {cap : List (Option Nat)} {σ : St} {i : Nat} {v : V} (h : (capSt cap σ)[i]? = some (some v)) : ∃ j, cap[i]? = some (some j) ∧ σ[j]? = some (some v) := by
  unfold capSt at h
  rw [List.getElem?_map] at h
  cases e : cap[i]? with
  | none => rw [e] at h; cases h
  | some o =>
    rw [e] at h
    cases o with
    | none => cases h
    | some j =>
      refine ⟨j, rfl, ?_⟩
      have h : (σ[j]?).join = some v := Option.some.inj h
      cases e2 : σ[j]? with
      | none => rw [e2] at h; cases h
      | some q => rw [e2] at h; exact congrArg some h
theorem lookup_sub {X : Cx} {cl : List (Str × Addr)} (h : ∀ p ∈ cl, X.env.cells.lookup p.1 = some p.2) {x : Str} {c : Addr} (e : cl.lookup x = some c) : X.env.cells.lookup x = some c := h (x, c) (PySem.mem_of_lookup e)
theorem inv_comp {X : Cx} {scope : Scope} {cl : List (Str × Addr)} {N : List Str} {cap : List (Option Nat)} (Sc : CompSc X scope cl N cap) {pins : List (Addr × Obj)} {σ : St} {H : Hp} {s : Shared} {fp : List Addr} (I : Inv X pins σ H s)
    (hf : ∀ b ∈ fp, FpOk X pins H b) (ho : ∀ b ∈ fp, ∃ o, s.heap.get? b = some o) {h1 h1' : Heap} {m : Str → Option Value} {tk : Nat} {ob : Obj}
    (hD : s.heap.push { cls := .type "list", data := .seq ([] : List Value).toArray } = h1') (hns : h1.Ns h1'.objs.size m) (hsb : Heap.SameBut h1'.objs.size (h1'.push ob) h1) :
    Inv (cxC X scope cl N { s with heap := h1' } (upd H s.heap.objs.size (.lst [])) fp h1'.objs.size) [] (capSt cap σ) (upd H s.heap.objs.size (.lst [])) { s with heap := h1, toks := tk } ∧
      Un (frs X.stack) fp H (upd H s.heap.objs.size (.lst [])) s.heap h1' := by
  have hC : h1'.objs.size = s.heap.objs.size + 1 := by rw [← hD, Heap.size_push]
  have k1 : ∀ b o, s.heap.get? b = some o → h1'.get? b = some o := fun b o e => by rw [← hD]; exact Heap.get?_push_of_some _ e
  have k2 : ∀ b o, h1'.get? b = some o → h1.get? b = some o := fun b o e => (hsb.2 b (Nat.ne_of_lt (Heap.lt_size e))).trans (Heap.get?_push_of_some _ e)
  have hHn : H s.heap.objs.size = none := I.hok.fresh (Nat.le_refl _)
  have neD : ∀ b o, s.heap.get? b = some o → b ≠ s.heap.objs.size := fun b o e => Nat.ne_of_lt (Heap.lt_size e)
  have un1 : Un (frs X.stack) fp H (upd H s.heap.objs.size (.lst [])) s.heap h1' := Un.laid k1 (Nat.le_refl _) hHn
  have new : ObjOk X.prog X.w (upd H s.heap.objs.size (.lst [])) h1' s.heap.objs.size (.lst []) := ⟨Nat.zero_le _, [], 0, .nil, by rw [← hD]; exact Heap.get?_push_size _ rfl⟩
  have hok1 : HOk X.prog X.w (upd H s.heap.objs.size (.lst [])) h1' := I.hok.laid k1 (Nat.le_refl _) new
  have fsub : ∀ b ∈ fp, b ∉ frs X.stack := fun b hb z => by
    obtain ⟨_, f1, f2, _⟩ := hf b hb
    rcases List.mem_cons.mp (I.stkSub b z) with e | e
    · exact f1 e
    · exact f2 e
  have cellK : ∀ x c, cl.lookup x = some c → ∃ v, s.heap.IsCell c v := fun x c e => I.cell x c (lookup_sub Sc.sub e)
  refine ⟨⟨⟨I.ok.mod, ?_, I.ok.glob, I.ok.blt, Nat.le_refl _, fun x y c e1 e2 => I.ok.inj x y c (lookup_sub Sc.sub e1) (lookup_sub Sc.sub e2), fun x hx => ?_, fun x c z => (by cases z), I.ok.hd, I.ok.frames, .inl rfl, fun b hb => ⟨?_, fun x c e => ?_⟩, fun b o e => ⟨?_, ?_⟩, ?_, fun b o e hb => ?_, fsub, ?_, fun b hb => ?_⟩,
    rfl, I.bare, Un.kept k2, ⟨m, hns, fun i x v e1 e2 e3 => ?_⟩, fun x c e => ?_, ?_, fun x c e => ?_, fun p hp => absurd hp (by simp [cxC]), hok1.kept k2, ?_⟩, un1⟩
  · exact Sc.kind
  · have hx : (relabel scope X.env).names.lookup x = some .cell ∨ (relabel scope X.env).names.lookup x = some .free := hx
    have ha := List.all_eq_true.mp Sc.has
    show ∃ c, cl.lookup x = some c
    rcases hx with hx | hx
    · have := ha _ (PySem.mem_of_lookup hx)
      exact Option.isSome_iff_exists.mp (by simpa using this)
    · have := ha _ (PySem.mem_of_lookup hx)
      exact Option.isSome_iff_exists.mp (by simpa using this)
  · obtain ⟨o, e⟩ := ho b hb
    have := Heap.lt_size e
    show b ≠ h1'.objs.size
    rw [hC]
    exact Nat.ne_of_lt (Nat.lt_succ_of_lt this)
  · exact (hf b hb).2.2.2.2.1 x c (lookup_sub Sc.sub e)
  · exact k1 b o (I.bk b o e)
  · show upd H s.heap.objs.size (.lst []) b = none
    rw [upd_ne (neD b o (I.bk b o e))]
    exact (I.bs b o e).2
  · show X.base.objs.size ≤ h1'.objs.size
    rw [hC]
    exact Nat.le_succ_of_le (Nat.le_trans I.ok.bsz I.sz)
  · obtain ⟨_, _, _, f3, _⟩ := hf b hb
    rcases f3 with f3 | f3
    · exact I.ok.noex b o e f3
    · have q1 := Heap.lt_size e
      have q2 := I.ok.bsz
      exact absurd (Nat.lt_of_lt_of_le q1 (Nat.le_trans q2 f3)) (Nat.lt_irrefl _)
  · exact I.stack.of_keeps fun b o e _ => ⟨o, k1 b o e, rfl⟩
  · show upd H s.heap.objs.size (.lst []) b = none
    obtain ⟨_, o, e, _⟩ := I.stack.mem hb
    rw [upd_ne (neD b o e)]
    exact I.stkFree b hb
  · obtain ⟨j, c1, c2⟩ := capSt_get e2
    obtain ⟨d1, d2, d3⟩ := Sc.caps i j x c1 e1
    obtain ⟨m0, _, l0⟩ := I.loc
    obtain ⟨u, ru, lk⟩ := l0 j x v d1 c2 (d2.elim (fun z => .inr (.inl z)) fun z => .inr (.inr z))
    refine ⟨u, ru, .inr ⟨d3, ?_⟩⟩
    rcases lk with ⟨z, _⟩ | ⟨_, c, z1, z2⟩
    · have z : X.env.scope.names.lookup x = some .local := z
      rcases d2 with q | q <;> (rw [q] at z; cases z)
    · have ha := List.all_eq_true.mp Sc.has
      have hs : ∃ c', cl.lookup x = some c' := by
        rcases d3 with q | q
        · exact Option.isSome_iff_exists.mp (by simpa using ha _ (PySem.mem_of_lookup q))
        · exact Option.isSome_iff_exists.mp (by simpa using ha _ (PySem.mem_of_lookup q))
      obtain ⟨c', q⟩ := hs
      have q2 := lookup_sub Sc.sub q
      rw [z1] at q2
      cases q2
      obtain ⟨o, e, d⟩ := z2
      exact ⟨c, q, o, k2 _ _ (k1 _ _ e), d⟩
  · obtain ⟨v, o, e1, d⟩ := cellK x c e
    exact ⟨v, o, k2 _ _ (k1 _ _ e1), d⟩
  · show upd H s.heap.objs.size (.lst []) h1'.objs.size = none
    rw [hC, upd_ne (Nat.succ_ne_self _)]
    exact I.hok.fresh (Nat.le_succ _)
  · obtain ⟨v, o, e1, d⟩ := cellK x c e
    show upd H s.heap.objs.size (.lst []) c = none
    rw [upd_ne (neD c o e1)]
    exact I.freeC x c (lookup_sub Sc.sub e)
  · show (capSt cap σ).length = N.length
    unfold capSt
    rw [List.length_map]
    exact Sc.len
/-- W: the invariant by the turn and a measure; D: the list that grows -/
def tComp (cap : List (Option Nat)) (wi : TI) (g : TG) (te : TE) : TE := fun σ H Q => wi σ H fun J H1 => ∀ D, H1 D = none → ∃ W : Nat → Nat → St → Hp → Prop, (∃ m, W 0 m (capSt cap σ) (upd H1 D (.lst []))) ∧ ∀ i m σ' H', W i m σ' H' →
  (J.stop i H' ∧ Q (.ref D) H') ∨ (J.go i H' ∧ ∃ N : St → Hp → Prop, (∀ σ2 H2, N σ2 H2 → ∃ m', m' < m ∧ W (i + 1) m' σ2 H2) ∧ ∀ x H2, J.yld i H' x H2 → g x σ' H2 fun σ3 H3 => te σ3 H3 fun v H4 => ∃ ys, H4 D = some (.lst ys) ∧ ys.length < sizeLine ∧ N σ3 (upd H4 D (.lst (ys ++ [v]))))
def tCompIf (cap : List (Option Nat)) (wi : TI) (g : TG) (tc : TT) (te : TE) : TE := fun σ H Q => wi σ H fun J H1 => ∀ D, H1 D = none → ∃ W : Nat → Nat → St → Hp → Prop, (∃ m, W 0 m (capSt cap σ) (upd H1 D (.lst []))) ∧ ∀ i m σ' H', W i m σ' H' →
  (J.stop i H' ∧ Q (.ref D) H') ∨ (J.go i H' ∧ ∃ N : St → Hp → Prop, (∀ σ2 H2, N σ2 H2 → ∃ m', m' < m ∧ W (i + 1) m' σ2 H2) ∧ ∀ x H2, J.yld i H' x H2 → g x σ' H2 fun σ3 H3 => tc σ3 H3 fun b H3' => if b = true then te σ3 H3' fun v H4 => ∃ ys, H4 D = some (.lst ys) ∧ ys.length < sizeLine ∧ N σ3 (upd H4 D (.lst (ys ++ [v]))) else N σ3 H3')
section
variable {X : Cx} {elt tg iter c : Expr} {scope : Scope} {cl : List (Str × Addr)} {N : List Str} {cap : List (Option Nat)} {pos : Pos} {wi : TI} {g : TG} {te : TE} {tc : TT}
/-- the way back out of the block -/
theorem comp_out (Sc : CompSc X scope cl N cap) {pins : List (Addr × Obj)} {σ σ3 : St} {H2 H3 : Hp} {s2 s4 : Shared} {fp : List Addr} {h1' : Heap} {C : Addr} (I2 : Inv X pins σ H2 s2) (f2 : ∀ b ∈ fp, FpOk X pins H2 b) {H1 : Hp}
    (un3 : Un (frs X.stack) fp H2 H1 s2.heap h1') (I4 : Inv (cxC X scope cl N { s2 with heap := h1' } H1 fp C) [] σ3 H3 s4) {h' : Heap} (hC : s2.heap.objs.size ≤ C) (sb : Heap.SameBut C s4.heap h') : Inv X pins σ H3 { s4 with heap := h' } := by
  have u : Un (frs X.stack) fp H2 H3 s2.heap s4.heap := un3.trans I4.base
  have ne : ∀ b o, s2.heap.get? b = some o → b ≠ C := fun b o e => Nat.ne_of_lt (Nat.lt_of_lt_of_le (Heap.lt_size e) hC)
  have u' : Un (frs X.stack) fp H2 H3 s2.heap h' := ⟨fun b o e n hb hx => (sb.2 b (ne b o e)).trans (u.keep b o e n hb hx), fun b o e n hb hx => by
      obtain ⟨sl, q⟩ := u.slot b o e n hb hx
      exact ⟨sl, (sb.2 b (ne b o e)).trans q⟩, u.free, fun b o e hx => by
      obtain ⟨o', q⟩ := u.there b o e hx
      exact ⟨o', (sb.2 b (ne b o e)).trans q⟩, u.tups, u.frzs, u.tbls⟩
  have hok : HOk X.prog X.w H3 h' := fun b ob e => by
    refine (I4.hok b ob e).stay (fun c w' hc q => (sb.2 c ?_).trans q) (fun _ q => q) fun _ _ q => q
    rintro rfl
    have hfree : H3 c = none := I4.free
    rcases hc with rfl | hc
    · rw [hfree] at e; cases e
    · rw [hfree] at hc; cases hc
  refine I2.call' (s' := { s4 with heap := h' }) (ch := fp) I4.os u' hok I4.bare fun b hb => ?_
  obtain ⟨_, f1, _, f3, f4, f5⟩ := f2 b hb
  exact ⟨f3, f1, f4, f5⟩
theorem comp_fp {s0 : Shared} {H0 : Hp} {C : Addr} {fp : List Addr} {σ : St} {H : Hp} {s : Shared} (I : Inv (cxC X scope cl N s0 H0 fp C) [] σ H s) (hn : ∀ b ∈ fp, H b = none) : ∀ b ∈ fp, FpOk (cxC X scope cl N s0 H0 fp C) [] H b := fun b hb =>
  ⟨hn b hb, (I.ok.exf b hb).1, I.ok.exfs b hb, .inl hb, (I.ok.exf b hb).2, fun p hp => absurd hp (by simp [cxC])⟩
theorem pe_comp (hc : X.calm = true) (Sc : CompSc X scope cl N cap) (hi : PI X tg iter wi) (hg : ∀ s0 H0 ex C, PG (cxC X scope cl N s0 H0 ex C) tg g) (he : ∀ s0 H0 ex C, PE (cxC X scope cl N s0 H0 ex C) elt te)
    (hs : ∀ x, foldedSetIterable iter X.env x = pure x := by intro _; rfl) : PE X (.ListComp elt [⟨tg, iter, [], 0⟩] scope pos) (tComp cap wi g te) := by
  intro pins s σ H Q I h
  rw [eval_ListComp]
  have hcell : ∀ y ∈ scope.names, y.2 ≠ .cell := fun y hy => by simpa using List.all_eq_true.mp Sc.nocell y hy
  have hnames : ∀ y ∈ scope.names, y.2 = .local → scope.names.lookup y.1 = some .local := fun y hy e => by
    have := List.all_eq_true.mp Sc.names y hy
    rw [e] at this
    simpa using this
  refine wpAny_comprehension_free (use := none) rfl hs Sc.clos Sc.kind hnames (thn (hi pins s σ H _ I h) fun v s1 h1 => thn h1 fun itv s2 h2 => ?_)
  obtain ⟨it, fp, tn, J, H2, e, I2, T, st2, f2, hW⟩ := h2
  subst e
  refine wpAny_newObj_type (wpAny_newFunctionEnv hcell (by intro y hy; simp at hy) (fun h1 hns hsb => ?_) Sc.kind)
  obtain ⟨W, ⟨m0, w0⟩, turn⟩ := hW s2.heap.objs.size I2.fresh
  dsimp only at hns hsb ⊢
  generalize hD : s2.heap.push { cls := .type "list", dict := none, data := .seq ([] : List Value).toArray } = h1' at hns hsb ⊢
  obtain ⟨I3, un3⟩ := inv_comp (tk := s2.toks + ([] : List (Str × Value)).length) Sc I2 f2 (fun b hb => let ⟨o, e, _⟩ := T.obj 0 _ st2 b hb; ⟨o, e⟩) hD hns hsb
  have hC : s2.heap.objs.size ≤ h1'.objs.size := by rw [← hD, Heap.size_push]; exact Nat.le_succ _
  have k1 : ∀ b o, s2.heap.get? b = some o → h1.get? b = some o := fun b o e => by
    have e1 : h1'.get? b = some o := by rw [← hD]; exact Heap.get?_push_of_some _ e
    exact (hsb.2 b (Nat.ne_of_lt (Heap.lt_size e1))).trans (Heap.get?_push_of_some _ e1)
  have st3 : tn 0 h1 := T.keep 0 _ _ st2 fun b _ o e => k1 b o e
  have fr3 : ∀ b ∈ fp, (upd H2 s2.heap.objs.size (.lst [])) b = none := fun b hb => by
    obtain ⟨o, e, _⟩ := T.obj 0 _ st2 b hb
    rw [upd_ne (Nat.ne_of_lt (Heap.lt_size e))]
    exact (f2 b hb).1
  have loop : ∀ s3 : Shared, s3 = { s2 with heap := h1, toks := s2.toks + ([] : List (Str × Value)).length } →
      codeAny (model X.prog X.w) X.A (.compLoop (.ListComp elt [⟨tg, iter, [], 0⟩] scope pos) 0 (.ref it) (.ref s2.heap.objs.size) (compEnvC scope cl h1'.objs.size X.env))
        (compPost (model X.prog X.w) X.A X.xe none (EP X pins σ Q) (.ref s2.heap.objs.size) h1'.objs.size) s3 := by
    rintro s3 rfl
    refine compLoop_if0 (fun n s' => ∃ i σ' H', Inv (cxC X scope cl N { s2 with heap := h1' } (upd H2 s2.heap.objs.size (.lst [])) fp h1'.objs.size) [] σ' H' s' ∧ tn i s'.heap ∧ (∀ b ∈ fp, H' b = none) ∧ W i n σ' H') ?_ m0 ⟨0, _, _, I3, st3, fr3, w0⟩
    rintro n s3 ⟨i, σ3, H3, I3, st3, fr3, w3⟩
    rcases turn i n σ3 H3 w3 with ⟨stop, qn⟩ | ⟨go, Nn, hN, step⟩
    · refine thn (T.done (cxC X scope cl N { s2 with heap := h1' } (upd H2 s2.heap.objs.size (.lst [])) fp h1'.objs.size) rfl rfl rfl hc i [] s3 σ3 H3 NoE I3 (comp_fp I3 fr3) st3 stop) fun r s4 ⟨hr, I4⟩ => ?_
      subst hr
      obtain ⟨m, hm, _⟩ := I4.loc
      exact ⟨m, hm, fun h' sb => ⟨.ref _, H3, comp_out Sc I2 f2 un3 I4 hC sb, rfl, qn⟩⟩
    · refine thn (T.item (cxC X scope cl N { s2 with heap := h1' } (upd H2 s2.heap.objs.size (.lst [])) fp h1'.objs.size) rfl rfl rfl hc i [] s3 σ3 H3 NoE I3 (comp_fp I3 fr3) st3 go) fun r s4 ⟨u, hr, h4⟩ => ?_
      subst hr
      refine thn h4 fun _ s5 ⟨x, H5, I5, r5, y5, st5, fr5⟩ => ?_
      have I5' := I5.pinned (comp_fp I5 fr5) (T.obj _ _ st5)
      refine thn (hg _ _ _ _ _ s5 σ3 H5 x u _ I5' r5 (step x H5 y5)) fun _ s6 ⟨σ6, H6, I6, q6⟩ => ?_
      refine thn (he _ _ _ _ _ s6 σ6 H6 _ I6 q6) fun uv s7 ⟨v, H7, I7, r7, ys, hy, hl, q7⟩ => ?_
      refine thn (mt_append (X := cxC X scope cl N { s2 with heap := h1' } (upd H2 s2.heap.objs.size (.lst [])) fp h1'.objs.size) _ s7 σ6 H7 (.ref s2.heap.objs.size) [v] (.ref s2.heap.objs.size) [uv] (fun _ H8 => Nn σ6 H8) I7 rfl (.cons r7 .nil) ⟨_, ys, v, rfl, rfl, hy, hl, q7⟩) fun _ s8 ⟨_, H8, I8, _, n8⟩ => ?_
      obtain ⟨m', hm, w8⟩ := hN σ6 H8 n8
      refine ⟨m', hm, i + 1, σ6, H8, I8.unpinned, T.keep _ _ _ st5 fun b hb o e => (I8.pin (b, o) (List.mem_append_right _ (List.mem_append_right _ (mem_pinsAt hb e)))).1, fun b hb => ?_, w8⟩
      obtain ⟨o, e, d⟩ := T.obj _ _ st5 b hb
      exact (I8.pin (b, o) (List.mem_append_right _ (List.mem_append_right _ (mem_pinsAt hb e)))).2.1
  exact codeAny_compStart_list (loop _ rfl) (T.self _ 0 _ _ _ st3 (loop _ rfl))
theorem pe_compIf (hc : X.calm = true) (Sc : CompSc X scope cl N cap) (hi : PI X tg iter wi) (hg : ∀ s0 H0 ex C, PG (cxC X scope cl N s0 H0 ex C) tg g) (hcnd : ∀ s0 H0 ex C, PT (cxC X scope cl N s0 H0 ex C) c tc) (he : ∀ s0 H0 ex C, PE (cxC X scope cl N s0 H0 ex C) elt te)
    (hs : ∀ x, foldedSetIterable iter X.env x = pure x := by intro _; rfl) : PE X (.ListComp elt [⟨tg, iter, [c], 0⟩] scope pos) (tCompIf cap wi g tc te) := by
  intro pins s σ H Q I h
  rw [eval_ListComp]
  have hcell : ∀ y ∈ scope.names, y.2 ≠ .cell := fun y hy => by simpa using List.all_eq_true.mp Sc.nocell y hy
  have hnames : ∀ y ∈ scope.names, y.2 = .local → scope.names.lookup y.1 = some .local := fun y hy e => by
    have := List.all_eq_true.mp Sc.names y hy
    rw [e] at this
    simpa using this
  refine wpAny_comprehension_free (use := none) rfl hs Sc.clos Sc.kind hnames (thn (hi pins s σ H _ I h) fun v s1 h1 => thn h1 fun itv s2 h2 => ?_)
  obtain ⟨it, fp, tn, J, H2, e, I2, T, st2, f2, hW⟩ := h2
  subst e
  refine wpAny_newObj_type (wpAny_newFunctionEnv hcell (by intro y hy; simp at hy) (fun h1 hns hsb => ?_) Sc.kind)
  obtain ⟨W, ⟨m0, w0⟩, turn⟩ := hW s2.heap.objs.size I2.fresh
  dsimp only at hns hsb ⊢
  generalize hD : s2.heap.push { cls := .type "list", dict := none, data := .seq ([] : List Value).toArray } = h1' at hns hsb ⊢
  obtain ⟨I3, un3⟩ := inv_comp (tk := s2.toks + ([] : List (Str × Value)).length) Sc I2 f2 (fun b hb => let ⟨o, e, _⟩ := T.obj 0 _ st2 b hb; ⟨o, e⟩) hD hns hsb
  have hC : s2.heap.objs.size ≤ h1'.objs.size := by rw [← hD, Heap.size_push]; exact Nat.le_succ _
  have k1 : ∀ b o, s2.heap.get? b = some o → h1.get? b = some o := fun b o e => by
    have e1 : h1'.get? b = some o := by rw [← hD]; exact Heap.get?_push_of_some _ e
    exact (hsb.2 b (Nat.ne_of_lt (Heap.lt_size e1))).trans (Heap.get?_push_of_some _ e1)
  have st3 : tn 0 h1 := T.keep 0 _ _ st2 fun b _ o e => k1 b o e
  have fr3 : ∀ b ∈ fp, (upd H2 s2.heap.objs.size (.lst [])) b = none := fun b hb => by
    obtain ⟨o, e, _⟩ := T.obj 0 _ st2 b hb
    rw [upd_ne (Nat.ne_of_lt (Heap.lt_size e))]
    exact (f2 b hb).1
  have loop : ∀ s3 : Shared, s3 = { s2 with heap := h1, toks := s2.toks + ([] : List (Str × Value)).length } →
      codeAny (model X.prog X.w) X.A (.compLoop (.ListComp elt [⟨tg, iter, [c], 0⟩] scope pos) 0 (.ref it) (.ref s2.heap.objs.size) (compEnvC scope cl h1'.objs.size X.env))
        (compPost (model X.prog X.w) X.A X.xe none (EP X pins σ Q) (.ref s2.heap.objs.size) h1'.objs.size) s3 := by
    rintro s3 rfl
    refine compLoop_if1 (fun n s' => ∃ i σ' H', Inv (cxC X scope cl N { s2 with heap := h1' } (upd H2 s2.heap.objs.size (.lst [])) fp h1'.objs.size) [] σ' H' s' ∧ tn i s'.heap ∧ (∀ b ∈ fp, H' b = none) ∧ W i n σ' H') ?_ m0 ⟨0, _, _, I3, st3, fr3, w0⟩
    rintro n s3 ⟨i, σ3, H3, I3, st3, fr3, w3⟩
    rcases turn i n σ3 H3 w3 with ⟨stop, qn⟩ | ⟨go, Nn, hN, step⟩
    · refine thn (T.done (cxC X scope cl N { s2 with heap := h1' } (upd H2 s2.heap.objs.size (.lst [])) fp h1'.objs.size) rfl rfl rfl hc i [] s3 σ3 H3 NoE I3 (comp_fp I3 fr3) st3 stop) fun r s4 ⟨hr, I4⟩ => ?_
      subst hr
      obtain ⟨m, hm, _⟩ := I4.loc
      exact ⟨m, hm, fun h' sb => ⟨.ref _, H3, comp_out Sc I2 f2 un3 I4 hC sb, rfl, qn⟩⟩
    · refine thn (T.item (cxC X scope cl N { s2 with heap := h1' } (upd H2 s2.heap.objs.size (.lst [])) fp h1'.objs.size) rfl rfl rfl hc i [] s3 σ3 H3 NoE I3 (comp_fp I3 fr3) st3 go) fun r s4 ⟨u, hr, h4⟩ => ?_
      subst hr
      refine thn h4 fun _ s5 ⟨x, H5, I5, r5, y5, st5, fr5⟩ => ?_
      have I5' := I5.pinned (comp_fp I5 fr5) (T.obj _ _ st5)
      refine thn (hg _ _ _ _ _ s5 σ3 H5 x u _ I5' r5 (step x H5 y5)) fun _ s6 ⟨σ6, H6, I6, q6⟩ => ?_
      have again : ∀ {s8 : Shared} {H8 : Hp}, Inv (cxC X scope cl N { s2 with heap := h1' } (upd H2 s2.heap.objs.size (.lst [])) fp h1'.objs.size) ([] ++ pinsAt fp s5.heap) σ6 H8 s8 → Nn σ6 H8 →
          ∃ m, m < n ∧ ∃ i σ' H', Inv (cxC X scope cl N { s2 with heap := h1' } (upd H2 s2.heap.objs.size (.lst [])) fp h1'.objs.size) [] σ' H' s8 ∧ tn i s8.heap ∧ (∀ b ∈ fp, H' b = none) ∧ W i m σ' H' := fun {s8 H8} I8 n8 => by
        obtain ⟨m', hm, w8⟩ := hN σ6 H8 n8
        refine ⟨m', hm, i + 1, σ6, H8, I8.unpinned, T.keep _ _ _ st5 fun b hb o e => (I8.pin (b, o) (List.mem_append_right _ (List.mem_append_right _ (mem_pinsAt hb e)))).1, fun b hb => ?_, w8⟩
        obtain ⟨o, e, d⟩ := T.obj _ _ st5 b hb
        exact (I8.pin (b, o) (List.mem_append_right _ (List.mem_append_right _ (mem_pinsAt hb e)))).2.1
      refine thn (hcnd _ _ _ _ _ s6 σ6 H6 _ I6 q6) fun b s6' ⟨H6', I6', q6'⟩ => ?_
      cases b with
      | true =>
        rw [if_pos rfl] at q6' ⊢
        refine thn (he _ _ _ _ _ s6' σ6 H6' _ I6' q6') fun uv s7 ⟨v, H7, I7, r7, ys, hy, hl, q7⟩ => ?_
        refine thn (mt_append (X := cxC X scope cl N { s2 with heap := h1' } (upd H2 s2.heap.objs.size (.lst [])) fp h1'.objs.size) _ s7 σ6 H7 (.ref s2.heap.objs.size) [v] (.ref s2.heap.objs.size) [uv] (fun _ H8 => Nn σ6 H8) I7 rfl (.cons r7 .nil) ⟨_, ys, v, rfl, rfl, hy, hl, q7⟩) fun _ s8 ⟨_, H8, I8, _, n8⟩ => ?_
        exact again I8 n8
      | false =>
        rw [if_neg Bool.false_ne_true] at q6' ⊢
        exact again I6' q6'
  exact codeAny_compStart_list (loop _ rfl) (T.self _ 0 _ _ _ st3 (loop _ rfl))
end
end L2
/-! ## DATA: tuples as values, lists by their address -/
namespace DL
open PySem PySem.Spec PyProof.Rows L2
abbrev Fg := PySem.W.Frag
/-- the built-in types that are asked for -/
inductive Ty where
  | non | bool | int | str | tup | lst | dic | verr
def Ty.name : Ty → String
  | .non => "NoneType" | .bool => "bool" | .int => "int" | .str => "str" | .tup => "tuple" | .lst => "list" | .dic => "dict" | .verr => "ValueError"
/-- data: tuples are values; a list that may change is its address; rl: a list that is only read -/
inductive D where
  | non | bl (b : Bool) | int (i : Int) | str (x : Str) | tup (ds : List D) | rl (ds : List D) | ref (a : Addr) | ty (n : Ty)
/-- a list that is only read: frozen, or the module's own -/
def SqF (K : Fg) (H : Hp) (a : Addr) (xs : List V) : Prop :=
  (∃ o, H a = some (.frz o (.lst xs))) ∨ ∃ (o : Obj) (its : Array Value) (n : Nat), K.lookup a = some o ∧ o.cls = .type "list" ∧ o.dict = none ∧ o.data = .seq its n ∧ its.size ≤ sizeLine ∧ Vals xs its.toList
theorem SqF.sq {K : Fg} {H : Hp} {a : Addr} {xs : List V} (h : SqF K H a xs) : SqL K H a xs := by
  rcases h with h | h
  · exact .inl (.inr h)
  · exact .inr h
mutual
def IsD (K : Fg) (H : Hp) : D → V → Prop
  | .non, v => v = .non
  | .bl b, v => v = .bl b
  | .int i, v => v = .int i
  | .str x, v => v = .str x
  | .tup ds, v => ∃ a xs, v = .ref a ∧ SqT K H a xs ∧ IsDs K H ds xs
  | .rl ds, v => ∃ a xs, v = .ref a ∧ SqF K H a xs ∧ IsDs K H ds xs
  | .ref a, v => v = .ref a
  | .ty n, v => v = .ty n.name
def IsDs (K : Fg) (H : Hp) : List D → List V → Prop
  | [], vs => vs = []
  | d :: ds, vs => ∃ v r, vs = v :: r ∧ IsD K H d v ∧ IsDs K H ds r
end
/-- tuples and frozen things stay -/
def Imm : HO → Prop
  | .tup _ => True
  | .frz _ _ => True
  | _ => False
def Kp (H H' : Hp) : Prop := ∀ a o, H a = some o → Imm o → H' a = some o
theorem Kp.refl (H : Hp) : Kp H H := fun _ _ h _ => h
theorem Kp.trans {H H1 H2 : Hp} (a : Kp H H1) (b : Kp H1 H2) : Kp H H2 := fun c o h i => b c o (a c o h i) i
theorem Kp.tup {K : Fg} {H H' : Hp} {a : Addr} {xs : List V} (k : Kp H H') (h : SqT K H a xs) : SqT K H' a xs := by
  rcases h with (h | ⟨o, h⟩) | h
  · exact .inl (.inl (k _ _ h trivial))
  · exact .inl (.inr ⟨o, k _ _ h trivial⟩)
  · exact .inr h
theorem Kp.fro {K : Fg} {H H' : Hp} {a : Addr} {xs : List V} (k : Kp H H') (h : SqF K H a xs) : SqF K H' a xs := by
  rcases h with ⟨o, h⟩ | h
  · exact .inl ⟨o, k _ _ h trivial⟩
  · exact .inr h
theorem Kp.new {H : Hp} {p : Addr} {o : HO} (h : H p = none) : Kp H (upd H p o) := fun b u e _ => by rw [upd_ne (ne_of_none e h)]; exact e
theorem Kp.mut {H : Hp} {p : Addr} {o u : HO} (h : H p = some u) (n : ¬ Imm u) : Kp H (upd H p o) := fun b z e i => by
  rw [upd_ne (fun q => by subst q; rw [h] at e; cases e; exact n i)]; exact e
mutual
theorem IsD.kp {K : Fg} {H H' : Hp} (k : Kp H H') : ∀ {d : D} {v : V}, IsD K H d v → IsD K H' d v
  | .non, _, h => by unfold IsD at *; exact h
  | .bl _, _, h => by unfold IsD at *; exact h
  | .int _, _, h => by unfold IsD at *; exact h
  | .str _, _, h => by unfold IsD at *; exact h
  | .ref _, _, h => by unfold IsD at *; exact h
  | .ty _, _, h => by unfold IsD at *; exact h
  | .tup ds, _, h => by
    unfold IsD at *
    obtain ⟨a, xs, e, t, r⟩ := h
    exact ⟨a, xs, e, k.tup t, IsDs.kp k r⟩
  | .rl ds, _, h => by
    unfold IsD at *
    obtain ⟨a, xs, e, t, r⟩ := h
    exact ⟨a, xs, e, k.fro t, IsDs.kp k r⟩
theorem IsDs.kp {K : Fg} {H H' : Hp} (k : Kp H H') : ∀ {ds : List D} {vs : List V}, IsDs K H ds vs → IsDs K H' ds vs
  | [], _, h => by unfold IsDs at *; exact h
  | d :: ds, _, h => by
    unfold IsDs at *
    obtain ⟨v, r, e, h1, h2⟩ := h
    exact ⟨v, r, e, IsD.kp k h1, IsDs.kp k h2⟩
end
section
variable {K : Fg} {H : Hp}
theorem isInt {i : Int} {v : V} : IsD K H (.int i) v ↔ v = .int i := by unfold IsD; exact Iff.rfl
theorem isBl {b : Bool} {v : V} : IsD K H (.bl b) v ↔ v = .bl b := by unfold IsD; exact Iff.rfl
theorem isStr {b : Str} {v : V} : IsD K H (.str b) v ↔ v = .str b := by unfold IsD; exact Iff.rfl
theorem isNon {v : V} : IsD K H .non v ↔ v = .non := by unfold IsD; exact Iff.rfl
theorem isRef {a : Addr} {v : V} : IsD K H (.ref a) v ↔ v = .ref a := by unfold IsD; exact Iff.rfl
theorem isTy {a : Ty} {v : V} : IsD K H (.ty a) v ↔ v = .ty a.name := by unfold IsD; exact Iff.rfl
theorem isTup {ds : List D} {v : V} : IsD K H (.tup ds) v ↔ ∃ a xs, v = .ref a ∧ SqT K H a xs ∧ IsDs K H ds xs := by unfold IsD; exact Iff.rfl
theorem isRl {ds : List D} {v : V} : IsD K H (.rl ds) v ↔ ∃ a xs, v = .ref a ∧ SqF K H a xs ∧ IsDs K H ds xs := by unfold IsD; exact Iff.rfl
theorem isNil {vs : List V} : IsDs K H [] vs ↔ vs = [] := by unfold IsDs; exact Iff.rfl
theorem isCons {d : D} {ds : List D} {vs : List V} : IsDs K H (d :: ds) vs ↔ ∃ v r, vs = v :: r ∧ IsD K H d v ∧ IsDs K H ds r := by
  constructor
  · intro h; unfold IsDs at h; exact h
  · intro h; unfold IsDs; exact h
theorem IsDs.nil : IsDs K H [] [] := isNil.mpr rfl
theorem IsDs.cons {d : D} {ds : List D} {v : V} {vs : List V} (h1 : IsD K H d v) (h2 : IsDs K H ds vs) : IsDs K H (d :: ds) (v :: vs) := isCons.mpr ⟨v, vs, rfl, h1, h2⟩
theorem IsDs.length : ∀ {ds : List D} {vs : List V}, IsDs K H ds vs → ds.length = vs.length
  | [], _, h => by rw [isNil.mp h]; rfl
  | d :: ds, _, h => by
    obtain ⟨v, r, rfl, _, h2⟩ := isCons.mp h
    rw [List.length_cons, List.length_cons, IsDs.length h2]
theorem IsDs.get : ∀ {ds : List D} {vs : List V} {i : Nat} {d : D}, IsDs K H ds vs → ds[i]? = some d → ∃ v, vs[i]? = some v ∧ IsD K H d v
  | [], _, _, _, _, e => by simp at e
  | c :: ds, _, 0, d, h, e => by
    obtain ⟨v, r, rfl, h1, h2⟩ := isCons.mp h
    simp at e
    subst e
    exact ⟨v, rfl, h1⟩
  | c :: ds, _, i + 1, d, h, e => by
    obtain ⟨v, r, rfl, h1, h2⟩ := isCons.mp h
    obtain ⟨u, q1, q2⟩ := IsDs.get (i := i) (d := d) h2 (by simpa using e)
    exact ⟨u, by simpa using q1, q2⟩
theorem IsDs.set : ∀ {ds : List D} {vs : List V} {d : D} {v : V} (i : Nat), IsDs K H ds vs → IsD K H d v → IsDs K H (ds.set i d) (vs.set i v)
  | [], _, _, _, _, h, _ => by rw [isNil.mp h]; exact IsDs.nil
  | c :: ds, _, d, v, 0, h, hd => by
    obtain ⟨u, r, rfl, h1, h2⟩ := isCons.mp h
    exact IsDs.cons hd h2
  | c :: ds, _, d, v, i + 1, h, hd => by
    obtain ⟨u, r, rfl, h1, h2⟩ := isCons.mp h
    exact IsDs.cons h1 (IsDs.set i h2 hd)
theorem IsDs.append : ∀ {ds es : List D} {vs us : List V}, IsDs K H ds vs → IsDs K H es us → IsDs K H (ds ++ es) (vs ++ us)
  | [], _, _, _, h, h' => by rw [isNil.mp h]; exact h'
  | c :: ds, _, _, _, h, h' => by
    obtain ⟨u, r, rfl, h1, h2⟩ := isCons.mp h
    exact IsDs.cons h1 (IsDs.append h2 h')
theorem IsDs.drop : ∀ {ds : List D} {vs : List V} (n : Nat), IsDs K H ds vs → IsDs K H (ds.drop n) (vs.drop n)
  | _, _, 0, h => h
  | [], _, n + 1, h => by rw [isNil.mp h]; exact IsDs.nil
  | c :: ds, _, n + 1, h => by
    obtain ⟨u, r, rfl, h1, h2⟩ := isCons.mp h
    exact IsDs.drop n h2
theorem IsDs.take : ∀ {ds : List D} {vs : List V} (n : Nat), IsDs K H ds vs → IsDs K H (ds.take n) (vs.take n)
  | _, _, 0, h => by simpa using IsDs.nil
  | [], _, n + 1, h => by rw [isNil.mp h]; exact IsDs.nil
  | c :: ds, _, n + 1, h => by
    obtain ⟨u, r, rfl, h1, h2⟩ := isCons.mp h
    exact IsDs.cons h1 (IsDs.take n h2)
end
/-! ### dicts: keys tuples of whole numbers (by the entries themselves), or whole numbers and texts -/
def hashT (ks : List Int) : Int := reduceHash (Builtin.Tuple.tupleHashOf (ks.map hashInt))
def eT (x : List Int × Addr × Value) : DictEntry := ⟨hashT x.1, .ref x.2.1, x.2.2⟩
def dxO (es : Array DictEntry) (ep : Nat) : Obj := { cls := .type "dict", dict := none, data := .dict es ep, slots := #[] }
def DxP (a : Addr) (xs : List (List Int × Addr × Value)) (ep : Nat) : Heap → Prop := fun h => (a == sysModules) = false ∧ xs.length ≤ sizeLine ∧ (xs.map (·.1)).Nodup ∧ h.get? a = some (dxO (xs.map eT).toArray ep)
inductive Gen where
  | dT (kvs : List (List Int × D)) (ep : Nat)
  | dK (kvs : List (Key × D))
abbrev KtR (K : Fg) (H : Hp) : List (List Int × D) → List (List Int × Addr × Value) → Prop := Paired fun p q => p.1 = q.1 ∧ SqT K H q.2.1 (p.1.map V.int) ∧ ∃ v, RelV v q.2.2 ∧ IsD K H p.2 v
def GObj (K : Fg) (H : Hp) (a : Addr) : Gen → Prop
  | .dT kvs ep => ∃ xs, H a = some (.ext (DxP a xs ep)) ∧ KtR K H kvs xs
  | .dK kvs => ∃ ys, H a = some (.dK ys) ∧ Paired (fun (p : Key × D) (q : Key × V) => p.1 = q.1 ∧ IsD K H p.2 q.2) kvs ys
theorem KtR.kp {K : Fg} {H H' : Hp} {kvs : List (List Int × D)} {xs : List (List Int × Addr × Value)} (r : KtR K H kvs xs) (k : Kp H H') : KtR K H' kvs xs :=
  Paired.mapP r fun _ _ ⟨a, b, v, c, d⟩ => ⟨a, k.tup b, v, c, d.kp k⟩
theorem GObj.there {K : Fg} {H : Hp} {a : Addr} {g : Gen} (h : GObj K H a g) : ∃ o, H a = some o ∧ ¬ Imm o := by
  cases g with
  | dT kvs ep => obtain ⟨xs, e, _⟩ := h; exact ⟨_, e, fun z => z⟩
  | dK kvs => obtain ⟨xs, e, _⟩ := h; exact ⟨_, e, fun z => z⟩
theorem GObj.step {K : Fg} {H H' : Hp} {a : Addr} {g : Gen} (h : GObj K H a g) (k : Kp H H') (s : H' a = H a) : GObj K H' a g := by
  cases g with
  | dT kvs ep => obtain ⟨xs, e, r⟩ := h; exact ⟨xs, s.trans e, r.kp k⟩
  | dK kvs => obtain ⟨xs, e, r⟩ := h; exact ⟨xs, s.trans e, Paired.mapP r fun _ _ z => ⟨z.1, z.2.kp k⟩⟩
/-! ### what changes -/
inductive DO where
  | lst (ds : List D)
  | dic
  | exc (C : Addr)
  | fn (φ : Hp → Prop)
  | tbl (ψ : Hp → Array Value → Prop)
  | gen (g : Gen)
abbrev DH := Addr → Option DO
def put (S : DH) (a : Addr) (o : DO) : DH := fun b => if b = a then some o else S b
theorem put_same {S : DH} {a : Addr} {o : DO} : put S a o a = some o := by unfold put; rw [if_pos rfl]
theorem put_ne {S : DH} {a b : Addr} {o : DO} (h : b ≠ a) : put S a o b = S b := by unfold put; rw [if_neg h]
theorem put_put {S : DH} {a : Addr} {o u : DO} : put (put S a o) a u = put S a u := by funext b; unfold put; split <;> rfl
theorem ne_put {S : DH} {a p : Addr} {o : DO} (h : S a = some o) (h' : S p = none) : a ≠ p := by intro e; subst e; rw [h] at h'; cases h'
def DObj (K : Fg) (H : Hp) (a : Addr) : DO → Prop
  | .lst ds => ∃ xs, H a = some (.lst xs) ∧ IsDs K H ds xs
  | .dic => ∃ kvs, H a = some (.dK kvs)
  | .exc C => ∃ o u, H a = some (.frz o u) ∧ o.cls = .ref C
  | .fn φ => (∃ o u, H a = some (.frz o u)) ∧ ∀ H', Kp H H' → φ H'
  | .tbl ψ => ∃ ps, H a = some (.tbl ps) ∧ ∀ H', Kp H H' → ψ H' ps
  | .gen g => GObj K H a g
def Hs (K : Fg) (H : Hp) (S : DH) : Prop := ∀ a o, S a = some o → DObj K H a o
section
variable {K : Fg} {H H' : Hp} {S : DH} {p : Addr}
theorem Hs.lst {ds : List D} (h : Hs K H S) (e : S p = some (.lst ds)) : ∃ xs, H p = some (.lst xs) ∧ IsDs K H ds xs := h p _ e
theorem Hs.free (h : Hs K H S) (e : H p = none) : S p = none := by
  cases q : S p with
  | none => rfl
  | some o =>
    have z := h p o q
    cases o with
    | lst ds => obtain ⟨xs, z, _⟩ := z; rw [e] at z; cases z
    | dic => obtain ⟨xs, z⟩ := z; rw [e] at z; cases z
    | exc C => obtain ⟨_, _, z, _⟩ := z; rw [e] at z; cases z
    | fn φ => obtain ⟨⟨_, _, z⟩, _⟩ := z; rw [e] at z; cases z
    | tbl ψ => obtain ⟨_, z, _⟩ := z; rw [e] at z; cases z
    | gen g => obtain ⟨_, z, _⟩ := GObj.there z; rw [e] at z; cases z
theorem Hs.step (h : Hs K H S) (k : Kp H H') (s : ∀ a o, S a = some o → H' a = H a) : Hs K H' S := fun a o e => by
  have z := h a o e
  cases o with
  | lst ds => obtain ⟨xs, z, r⟩ := z; exact ⟨xs, by rw [s a _ e]; exact z, r.kp k⟩
  | dic => obtain ⟨xs, z⟩ := z; exact ⟨xs, by rw [s a _ e]; exact z⟩
  | exc C => obtain ⟨x, y, z, r⟩ := z; exact ⟨x, y, by rw [s a _ e]; exact z, r⟩
  | fn φ => obtain ⟨⟨x, y, z⟩, r⟩ := z; exact ⟨⟨x, y, by rw [s a _ e]; exact z⟩, fun H2 k2 => r H2 (k.trans k2)⟩
  | tbl ψ => obtain ⟨ps, z, r⟩ := z; exact ⟨ps, by rw [s a _ e]; exact z, fun H2 k2 => r H2 (k.trans k2)⟩
  | gen g => exact GObj.step z k (s a _ e)
theorem Hs.new {o : HO} (h : Hs K H S) (e : H p = none) : Hs K (upd H p o) S := h.step (Kp.new e) fun a u q => by
  rw [upd_ne]; intro z; subst z; rw [h.free e] at q; cases q
theorem Hs.newL {xs : List V} {ds : List D} (h : Hs K H S) (e : H p = none) (r : IsDs K H ds xs) : Hs K (upd H p (.lst xs)) (put S p (.lst ds)) := fun a o q => by
  by_cases z : a = p
  · subst z
    rw [put_same] at q
    cases q
    exact ⟨xs, upd_same, r.kp (Kp.new e)⟩
  · rw [put_ne z] at q
    exact (h.new e) a o q
theorem Hs.setL {xs ys : List V} {ds : List D} (h : Hs K H S) (e : H p = some (.lst xs)) (r : IsDs K H ds ys) : Hs K (upd H p (.lst ys)) (put S p (.lst ds)) := fun a o q => by
  have k : Kp H (upd H p (.lst ys)) := Kp.mut e (fun z => z)
  by_cases z : a = p
  · subst z
    rw [put_same] at q
    cases q
    exact ⟨ys, upd_same, r.kp k⟩
  · rw [put_ne z] at q
    have w := h a o q
    cases o with
    | lst ds => obtain ⟨xs, w, r⟩ := w; exact ⟨xs, by rw [upd_ne z]; exact w, r.kp k⟩
    | dic => obtain ⟨xs, w⟩ := w; exact ⟨xs, by rw [upd_ne z]; exact w⟩
    | exc C => obtain ⟨x, y, w, r⟩ := w; exact ⟨x, y, by rw [upd_ne z]; exact w, r⟩
    | fn φ => obtain ⟨⟨x, y, w⟩, r⟩ := w; exact ⟨⟨x, y, by rw [upd_ne z]; exact w⟩, fun H2 k2 => r H2 (k.trans k2)⟩
    | tbl ψ => obtain ⟨ps, w, r⟩ := w; exact ⟨ps, by rw [upd_ne z]; exact w, fun H2 k2 => r H2 (k.trans k2)⟩
    | gen g => exact GObj.step w k (upd_ne z)
end
/-! ### names -/
abbrev Lo := List (Option D)
def Lc (K : Fg) (H : Hp) : Lo → L2.St → Prop
  | [], σ => σ = []
  | none :: L, σ => ∃ x r, σ = x :: r ∧ Lc K H L r
  | some d :: L, σ => ∃ v r, σ = some v :: r ∧ IsD K H d v ∧ Lc K H L r
section
variable {K : Fg} {H H' : Hp}
theorem Lc.kp (k : Kp H H') : ∀ {L : Lo} {σ : L2.St}, Lc K H L σ → Lc K H' L σ
  | [], _, h => h
  | none :: L, _, h => by
    obtain ⟨x, r, e, h⟩ := h
    exact ⟨x, r, e, Lc.kp k h⟩
  | some d :: L, _, h => by
    obtain ⟨v, r, e, h1, h⟩ := h
    exact ⟨v, r, e, h1.kp k, Lc.kp k h⟩
theorem Lc.get : ∀ {L : Lo} {σ : L2.St} {i : Nat} {d : D}, Lc K H L σ → L[i]? = some (some d) → ∃ v, σ[i]? = some (some v) ∧ IsD K H d v
  | [], _, _, _, _, e => by simp at e
  | none :: L, _, 0, _, _, e => by simp at e
  | some c :: L, _, 0, d, h, e => by
    obtain ⟨v, r, rfl, h1, h⟩ := h
    simp at e
    subst e
    exact ⟨v, rfl, h1⟩
  | none :: L, _, i + 1, d, h, e => by
    obtain ⟨x, r, rfl, h⟩ := h
    obtain ⟨u, q1, q2⟩ := Lc.get (i := i) (d := d) h (by simpa using e)
    exact ⟨u, by simpa using q1, q2⟩
  | some c :: L, _, i + 1, d, h, e => by
    obtain ⟨v, r, rfl, _, h⟩ := h
    obtain ⟨u, q1, q2⟩ := Lc.get (i := i) (d := d) h (by simpa using e)
    exact ⟨u, by simpa using q1, q2⟩
theorem Lc.set {d : D} {v : V} (hd : IsD K H d v) : ∀ {L : Lo} {σ : L2.St} (i : Nat), Lc K H L σ → Lc K H (L.set i (some d)) (σ.set i (some v))
  | [], _, _, h => by
    have e : _ = [] := h
    subst e
    exact rfl
  | none :: L, _, 0, h => by
    obtain ⟨x, r, rfl, h⟩ := h
    exact ⟨v, r, rfl, hd, h⟩
  | some c :: L, _, 0, h => by
    obtain ⟨x, r, rfl, _, h⟩ := h
    exact ⟨v, r, rfl, hd, h⟩
  | none :: L, _, i + 1, h => by
    obtain ⟨x, r, rfl, h⟩ := h
    exact ⟨x, r.set i (some v), rfl, Lc.set hd i h⟩
  | some c :: L, _, i + 1, h => by
    obtain ⟨x, r, rfl, h1, h⟩ := h
    exact ⟨x, r.set i (some v), rfl, h1, Lc.set hd i h⟩
theorem Lc.none : ∀ (n : Nat), Lc K H (List.replicate n .none) (List.replicate n .none)
  | 0 => rfl
  | n + 1 => ⟨_, _, rfl, Lc.none n⟩
theorem Lc.start : ∀ {ds : List D} {vs : List V} (n : Nat), IsDs K H ds vs → Lc K H (ds.map some ++ List.replicate n .none) (vs.map some ++ List.replicate n .none)
  | [], _, n, h => by rw [isNil.mp h]; exact Lc.none n
  | d :: ds, _, n, h => by
    obtain ⟨v, r, rfl, h1, h2⟩ := isCons.mp h
    exact ⟨v, _, rfl, h1, Lc.start n h2⟩
end
/-! ### the readings, lifted -/
abbrev DK := D → DH → Prop
abbrev DE := Lo → DH → DK → Prop
abbrev DT := Lo → DH → (Bool → DH → Prop) → Prop
abbrev DA := Lo → DH → (List D → DH → Prop) → Prop
structure DEnds where
  nx : Lo → DH → Prop
  rt : DK
  bk : Lo → DH → Prop := fun _ _ => False
  ct : Lo → DH → Prop := fun _ _ => False
abbrev DS := DEnds → Lo → DH → Prop
def up (K : Fg) (g : DE) : TE := fun σ H Q => ∃ L S k, Lc K H L σ ∧ Hs K H S ∧ g L S k ∧ ∀ d S' v H', k d S' → Kp H H' → Hs K H' S' → IsD K H' d v → Q v H'
def upT (K : Fg) (g : DT) : TT := fun σ H Q => ∃ L S k, Lc K H L σ ∧ Hs K H S ∧ g L S k ∧ ∀ b S' H', k b S' → Kp H H' → Hs K H' S' → Q b H'
def upA (K : Fg) (g : DA) : TA := fun σ H Q => ∃ L S k, Lc K H L σ ∧ Hs K H S ∧ g L S k ∧ ∀ ds S' vs H', k ds S' → Kp H H' → Hs K H' S' → IsDs K H' ds vs → Q vs H'
/-- the ends of the data reach the ends of the state -/
structure Rch (K : Fg) (H : Hp) (M : DEnds) (N : Ends) : Prop where
  nx : ∀ L S σ H', M.nx L S → Kp H H' → Lc K H' L σ → Hs K H' S → N.nx σ H'
  rt : ∀ d S v H', M.rt d S → Kp H H' → Hs K H' S → IsD K H' d v → N.rt v H'
  bk : ∀ L S σ H', M.bk L S → Kp H H' → Lc K H' L σ → Hs K H' S → N.bk σ H'
  ct : ∀ L S σ H', M.ct L S → Kp H H' → Lc K H' L σ → Hs K H' S → N.ct σ H'
theorem Rch.kp {K : Fg} {H H1 : Hp} {M : DEnds} {N : Ends} (r : Rch K H M N) (k : Kp H H1) : Rch K H1 M N :=
  ⟨fun L S σ H' h k' => r.nx L S σ H' h (k.trans k'), fun d S v H' h k' => r.rt d S v H' h (k.trans k'), fun L S σ H' h k' => r.bk L S σ H' h (k.trans k'), fun L S σ H' h k' => r.ct L S σ H' h (k.trans k')⟩
def upS (K : Fg) (g : DS) : TS := fun N σ H => ∃ L S M, Lc K H L σ ∧ Hs K H S ∧ g M L S ∧ Rch K H M N
theorem PE.imp {X : Cx} {e : Expr} {t t' : TE} (h : PE X e t) (i : ∀ σ H Q, t' σ H Q → t σ H Q) : PE X e t' := fun pins s σ H Q I q => h pins s σ H Q I (i σ H Q q)
theorem PT.imp {X : Cx} {e : Expr} {t t' : TT} (h : PT X e t) (i : ∀ σ H Q, t' σ H Q → t σ H Q) : PT X e t' := fun pins s σ H Q I q => h pins s σ H Q I (i σ H Q q)
theorem PW.imp {X : Cx} {e : Expr} {t t' : TT} (h : PW X e t) (i : ∀ σ H Q, t' σ H Q → t σ H Q) : PW X e t' := fun w pins s σ H Q I q => h w pins s σ H Q I (i σ H Q q)
theorem PA.imp {X : Cx} {e : List Expr} {t t' : TA} (h : PA X e t) (i : ∀ σ H Q, t' σ H Q → t σ H Q) : PA X e t' := fun pos pins s σ H Q I q => h pos pins s σ H Q I (i σ H Q q)
theorem PS.imp {X : Cx} {e : Stmt} {t t' : TS} (h : PS X e t) (i : ∀ N σ H, t' N σ H → t N σ H) : PS X e t' := fun pins s σ H Q I q => h pins s σ H Q I (i Q σ H q)
theorem PSs.imp {X : Cx} {e : List Stmt} {t t' : TS} (h : PSs X e t) (i : ∀ N σ H, t' N σ H → t N σ H) : PSs X e t' := fun pins s σ H Q I q => h pins s σ H Q I (i Q σ H q)
/-- going on behind an expression -/
theorem up.go {K : Fg} {g : DE} {σ : L2.St} {H : Hp} {Q : VK} {L : Lo} {S : DH} {k : DK} (hL : Lc K H L σ) (hS : Hs K H S) (h : g L S k)
    (n : ∀ d S' v H', k d S' → Kp H H' → Lc K H' L σ → Hs K H' S' → IsD K H' d v → Q v H') : up K g σ H Q :=
  ⟨L, S, k, hL, hS, h, fun d S' v H' a b c e => n d S' v H' a b (hL.kp b) c e⟩
theorem upT.go {K : Fg} {g : DT} {σ : L2.St} {H : Hp} {Q : Bool → Hp → Prop} {L : Lo} {S : DH} {k : Bool → DH → Prop} (hL : Lc K H L σ) (hS : Hs K H S) (h : g L S k)
    (n : ∀ b S' H', k b S' → Kp H H' → Lc K H' L σ → Hs K H' S' → Q b H') : upT K g σ H Q :=
  ⟨L, S, k, hL, hS, h, fun b S' H' a c e => n b S' H' a c (hL.kp c) e⟩
theorem upA.go {K : Fg} {g : DA} {σ : L2.St} {H : Hp} {Q : List V → Hp → Prop} {L : Lo} {S : DH} {k : List D → DH → Prop} (hL : Lc K H L σ) (hS : Hs K H S) (h : g L S k)
    (n : ∀ ds S' vs H', k ds S' → Kp H H' → Lc K H' L σ → Hs K H' S' → IsDs K H' ds vs → Q vs H') : upA K g σ H Q :=
  ⟨L, S, k, hL, hS, h, fun d S' v H' a b c e => n d S' v H' a b (hL.kp b) c e⟩
/-! ### expressions -/
section
variable {X : Cx} {a b c : Expr} {ga gb gc : DE} {pos : Pos}
def dVar (i : Nat) : DE := fun L S k => match L[i]? with
  | some (some d) => k d S
  | _ => False
def dC (d : D) : DE := fun _ S k => k d S
theorem d_var (i : Nat) {x : Str} (hN : X.N[i]? = some x := by rfl) (hv : Vis X.env.scope x := by first | exact Or.inl rfl | exact Or.inr (Or.inl rfl) | exact Or.inr (Or.inr rfl)) (hd : (x == ("__debug__" : Str)) = false := by decide)
    (hcd : (x == ("__classdict__" : Str)) = false := by decide) : PE X (.Name x pos) (up X.K (dVar i)) :=
  PE.imp (pe_var hN hv hd hcd) fun σ H Q ⟨L, S, k, hL, hS, h, n⟩ => by
    unfold dVar at h
    split at h
    · rename_i d e
      obtain ⟨v, e1, e2⟩ := hL.get e
      exact ⟨v, e1, n d S v H h (Kp.refl H) hS e2⟩
    · exact h.elim
theorem d_c {e : Expr} {d : D} {v : V} (h : PE X e (tC v)) (hd : ∀ H, IsD X.K H d v) : PE X e (up X.K (dC d)) :=
  PE.imp h fun σ H Q ⟨L, S, k, hL, hS, h, n⟩ => n d S v H h (Kp.refl H) hS (hd H)
theorem d_int {i j pos} : PE X (.Constant (.int i) j pos) (up X.K (dC (.int i))) := d_c pe_int fun _ => isInt.mpr rfl
theorem d_bl {i j pos} : PE X (.Constant (.bool i) j pos) (up X.K (dC (.bl i))) := d_c pe_bl fun _ => isBl.mpr rfl
theorem d_non {j pos} : PE X (.Constant .none j pos) (up X.K (dC .non)) := d_c pe_non fun _ => isNon.mpr rfl
theorem d_ty {x : Str} {n : Ty} (hg : Gl X x) (hm : X.mg x = none) (hv : bootBuiltins x = some (.type n.name)) (hn : x ≠ "__name__" := by decide) (hd : (x == ("__debug__" : Str)) = false := by decide) : PE X (.Name x pos) (up X.K (dC (.ty n))) :=
  d_c (pe_bltn (v := .ty n.name) hg hm hv rfl hn hd) fun _ => isTy.mpr rfl
/-! argument lists -/
def starB : Expr → Bool
  | .Starred _ _ => true
  | _ => false
theorem star_cons {a : Expr} {es : List Expr} {env : Env} (h : starB a = false) : starEach (a :: es) env = (false, eval a env) :: starEach es env := by
  cases a <;> first | rfl | cases h
theorem star_any {pos : Pos} {env : Env} : ∀ {es : List Expr}, (es.all fun e => !starB e) = true → (backTo pos (starEach es env)).any (·.1) = false
  | [], _ => rfl
  | e :: es, h => by
    rw [List.all_cons, Bool.and_eq_true] at h
    rw [star_cons (by simpa using h.1)]
    exact star_any h.2
def dNil : DA := fun _ S k => k [] S
def dCons (g : DE) (t : DA) : DA := fun L S k => g L S fun d S1 => t L S1 fun ds S2 => k (d :: ds) S2
theorem da_nil : PA X [] (upA X.K dNil) := PA.imp pa_nil fun σ H Q ⟨L, S, k, hL, hS, h, n⟩ => n [] S [] H h (Kp.refl H) hS IsDs.nil
theorem da_cons {es : List Expr} {t : DA} (ha : PE X a (up X.K ga)) (hr : PA X es (upA X.K t)) (hs : starEach (a :: es) X.env = (false, eval a X.env) :: starEach es X.env := by exact star_cons rfl) : PA X (a :: es) (upA X.K (dCons ga t)) :=
  PA.imp (pa_cons ha hr hs) fun σ H Q ⟨L, S, k, hL, hS, h, n⟩ => up.go hL hS h fun d S1 v H1 h1 k1 hL1 hS1 i1 => upA.go hL1 hS1 h1 fun ds S2 vs H2 h2 k2 hL2 hS2 i2 =>
    n (d :: ds) S2 (v :: vs) H2 h2 (k1.trans k2) hS2 (IsDs.cons (i1.kp k2) i2)
def dTup (t : DA) : DE := fun L S k => t L S fun ds S1 => ds.length ≤ sizeLine ∧ k (.tup ds) S1
def dLst (t : DA) : DE := fun L S k => t L S fun ds S1 => ds.length ≤ sizeLine ∧ ∀ p, S1 p = none → k (.ref p) (put S1 p (.lst ds))
theorem d_tup {es : List Expr} {x1} {t : DA} (h : PA X es (upA X.K t)) : PE X (.Tuple es x1 pos) (up X.K (dTup t)) :=
  PE.imp (pe_tup h) fun σ H Q ⟨L, S, k, hL, hS, h, n⟩ => upA.go hL hS h fun ds S1 vs H1 h1 k1 hL1 hS1 i1 => by
    refine ⟨by rw [← i1.length]; exact h1.1, fun p hp => ?_⟩
    have k2 : Kp H1 (upd H1 p (.tup vs)) := Kp.new hp
    exact n (.tup ds) S1 _ _ h1.2 (k1.trans k2) (hS1.new hp) (isTup.mpr ⟨p, vs, rfl, SqT.of upd_same, i1.kp k2⟩)
theorem d_lst {es : List Expr} {t : DA} (h : PA X es (upA X.K t)) : PE X (.List es pos) (up X.K (dLst t)) :=
  PE.imp (pe_lst h) fun σ H Q ⟨L, S, k, hL, hS, h, n⟩ => upA.go hL hS h fun ds S1 vs H1 h1 k1 hL1 hS1 i1 => by
    refine ⟨by rw [← i1.length]; exact h1.1, fun p hp => ?_⟩
    exact n (.ref p) _ _ _ (h1.2 p (hS1.free hp)) (k1.trans (Kp.new hp)) (hS1.newL hp i1) (isRef.mpr rfl)
/-! operations on two values -/
abbrev D2 := D → D → DH → DK → Prop
def upR (K : Fg) (r : D2) : R2 := fun x y H Q => ∃ d e S k, IsD K H d x ∧ IsD K H e y ∧ Hs K H S ∧ r d e S k ∧ ∀ d' S' v H', k d' S' → Kp H H' → Hs K H' S' → IsD K H' d' v → Q v H'
def dOp (r : D2) (ga gb : DE) : DE := fun L S k => ga L S fun x S1 => gb L S1 fun y S2 => r x y S2 k
theorem dOp_go {K : Fg} {r : D2} : ∀ σ H Q, up K (dOp r ga gb) σ H Q → tOp (upR K r) (up K ga) (up K gb) σ H Q := fun σ H Q ⟨L, S, k, hL, hS, h, n⟩ =>
  up.go hL hS h fun d S1 v H1 h1 k1 hL1 hS1 i1 => up.go hL1 hS1 h1 fun e S2 u H2 h2 k2 hL2 hS2 i2 =>
    ⟨d, e, S2, k, i1.kp k2, i2, hS2, h2, fun d' S' v H' q k3 z1 z2 => n d' S' v H' q (k1.trans (k2.trans k3)) z1 z2⟩
theorem d_op {op : Operator} {r : D2} (ho : OpR X (binaryOp op) (upR X.K r)) (ha : PE X a (up X.K ga)) (hb : PE X b (up X.K gb)) : PE X (.BinOp a op b pos) (up X.K (dOp r ga gb)) := PE.imp (pe_op ho ha hb) dOp_go
theorem d_cmp {op : CmpOp} {r : D2} (ho : OpR X (compareOp op) (upR X.K r)) (ha : PE X a (up X.K ga)) (hb : PE X b (up X.K gb)) (hm : behindInMarks op b = false) : PE X (.Compare a [op] [b] pos) (up X.K (dOp r ga gb)) := PE.imp (pe_cmpR ho ha hb hm) dOp_go
theorem d_ix {r : D2} (hr : IxR X (upR X.K r)) (ha : PE X a (up X.K ga)) (hb : PE X b (up X.K gb)) (hs : PlainIx b) : PE X (.Subscript a b pos) (up X.K (dOp r ga gb)) := PE.imp (pe_ix hr ha hb hs) dOp_go
abbrev D1 := D → DH → DK → Prop
def upU (K : Fg) (r : D1) : V → Hp → VK → Prop := fun x H Q => ∃ d S k, IsD K H d x ∧ Hs K H S ∧ r d S k ∧ ∀ d' S' v H', k d' S' → Kp H H' → Hs K H' S' → IsD K H' d' v → Q v H'
def dUn (r : D1) (ga : DE) : DE := fun L S k => ga L S fun x S1 => r x S1 k
theorem d_un {op : UnaryOp} {r : D1} (ho : UnR X (unaryOp op) (upU X.K r)) (ha : PE X a (up X.K ga)) : PE X (.UnaryOp op a pos) (up X.K (dUn r ga)) :=
  PE.imp (pe_un ho ha) fun σ H Q ⟨L, S, k, hL, hS, h, n⟩ => up.go hL hS h fun d S1 v H1 h1 k1 hL1 hS1 i1 => ⟨d, S1, k, i1, hS1, h1, fun d' S' v H' q k3 z1 z2 => n d' S' v H' q (k1.trans k3) z1 z2⟩
/-! tests -/
def dTest (g : DE) : DT := fun L S k => g L S fun d S1 => match d with
  | .bl c => k c S1
  | _ => False
theorem dTest_go {K : Fg} {g : DE} : ∀ σ H Q, upT K (dTest g) σ H Q → tTest (up K g) σ H Q := fun σ H Q ⟨L, S, k, hL, hS, h, n⟩ =>
  up.go hL hS h fun d S1 v H1 h1 k1 hL1 hS1 i1 => by
    cases d with
    | bl c =>
      have e := isBl.mp i1
      subst e
      exact ⟨c, rfl, n c S1 H1 h1 k1 hS1⟩
    | _ => exact (show False from h1).elim
theorem dt_cmp {op : CmpOp} {r : D2} (ho : OpR X (compareOp op) (upR X.K r)) (ha : PE X a (up X.K ga)) (hb : PE X b (up X.K gb)) (hm : behindInMarks op b = false) : PT X (.Compare a [op] [b] pos) (upT X.K (dTest (dOp r ga gb))) :=
  PT.imp (PT.imp (pt_cmpR ho ha hb hm) fun σ H Q h => dOp_go σ H _ h) dTest_go
/-- a bool's value as a test -/
theorem dt_val {e : Expr} {g : DE} (h : PE X e (up X.K g)) (he : ∀ whole, isTrue e X.env whole = (do let v ← whole; standAt e.pos; holding [v] (truthy v)) := by intro _; rfl) : PT X e (upT X.K (dTest g)) :=
  PT.imp (pt_val h he) dTest_go
/-! and, or, not -/
variable {tA tB' : DT} {rest : List Expr}
def dAndT (t u : DT) : DT := fun L S k => t L S fun c S1 => if c = true then u L S1 k else k false S1
def dOrT (t u : DT) : DT := fun L S k => t L S fun c S1 => if c = true then k true S1 else u L S1 k
def dNotT (t : DT) : DT := fun L S k => t L S fun c S1 => k (!c) S1
theorem dw_or1 (ha : PT X a (upT X.K tA)) : PW X (.BoolOp .Or [a] pos) (upT X.K tA) := pw_or1 ha
theorem dw_or (ha : PT X a (upT X.K tA)) (hb : PW X (.BoolOp .Or (b :: rest) pos) (upT X.K tB')) : PW X (.BoolOp .Or (a :: b :: rest) pos) (upT X.K (dOrT tA tB')) :=
  PW.imp (pw_or ha hb) fun σ H Q ⟨L, S, k, hL, hS, h, n⟩ => upT.go hL hS h fun c S1 H1 h1 k1 hL1 hS1 => by
    cases c with
    | true =>
      rw [if_pos rfl] at h1 ⊢
      exact n true S1 H1 h1 k1 hS1
    | false =>
      rw [if_neg Bool.false_ne_true] at h1 ⊢
      exact upT.go hL1 hS1 h1 fun c2 S2 H2 h2 k2 _ hS2 => n c2 S2 H2 h2 (k1.trans k2) hS2
theorem dt_not (ha : PT X a (upT X.K tA)) : PT X (.UnaryOp .Not a pos) (upT X.K (dNotT tA)) :=
  PT.imp (pt_not ha) fun σ H Q ⟨L, S, k, hL, hS, h, n⟩ => upT.go hL hS h fun c S1 H1 h1 k1 hL1 hS1 => n _ S1 H1 h1 k1 hS1
/-- as values -/
def dAndV (ga gb : DE) : DE := fun L S k => ga L S fun x S1 => match x with
  | .bl c => if c = true then gb L S1 k else k (.bl false) S1
  | _ => False
def dOrV (ga gb : DE) : DE := fun L S k => ga L S fun x S1 => match x with
  | .bl c => if c = true then k (.bl true) S1 else gb L S1 k
  | _ => False
def dNotV (ga : DE) : DE := fun L S k => ga L S fun x S1 => match x with
  | .bl c => k (.bl (!c)) S1
  | _ => False
theorem d_one {op} (h : PE X a (up X.K ga)) : PE X (.BoolOp op [a] pos) (up X.K ga) := pe_one h
theorem d_and (ha : PE X a (up X.K ga)) (hb : PE X (.BoolOp .And (b :: rest) pos) (up X.K gb)) : PE X (.BoolOp .And (a :: b :: rest) pos) (up X.K (dAndV ga gb)) :=
  PE.imp (pe_and ha hb) fun σ H Q ⟨L, S, k, hL, hS, h, n⟩ => up.go hL hS h fun d S1 v H1 h1 k1 hL1 hS1 i1 => by
    cases d with
    | bl c =>
      have e := isBl.mp i1
      subst e
      refine ⟨c, rfl, ?_⟩
      have h1 : if c = true then _ else _ := h1
      cases c with
      | true =>
        rw [if_pos rfl] at h1 ⊢
        exact up.go hL1 hS1 h1 fun d2 S2 v2 H2 h2 k2 _ hS2 i2 => n d2 S2 v2 H2 h2 (k1.trans k2) hS2 i2
      | false =>
        rw [if_neg Bool.false_ne_true] at h1 ⊢
        exact n _ S1 _ H1 h1 k1 hS1 (isBl.mpr rfl)
    | _ => exact (show False from h1).elim
theorem d_not (ha : PE X a (up X.K ga)) : PE X (.UnaryOp .Not a pos) (up X.K (dNotV ga)) :=
  PE.imp (pe_not ha) fun σ H Q ⟨L, S, k, hL, hS, h, n⟩ => up.go hL hS h fun d S1 v H1 h1 k1 hL1 hS1 i1 => by
    cases d with
    | bl c =>
      have e := isBl.mp i1
      subst e
      exact ⟨c, rfl, n _ S1 _ H1 h1 k1 hS1 (isBl.mpr rfl)⟩
    | _ => exact (show False from h1).elim
def dIf (t : DT) (ga gb : DE) : DE := fun L S k => t L S fun c S1 => if c = true then ga L S1 k else gb L S1 k
end
end DL
namespace DL
open PySem PySem.Spec PyProof.Rows L2
section
variable {X : Cx}
/-! ### operations by the kinds of data -/
theorem up1 {K : Fg} {H : Hp} {S : DH} {k : DK} {Q : VK} {d : D} {v : V} (n : ∀ d' S' v H', k d' S' → Kp H H' → Hs K H' S' → IsD K H' d' v → Q v H') (hS : Hs K H S) (h : k d S) (i : IsD K H d v) : Q v H := n d S v H h (Kp.refl H) hS i
/-- two ints, under C -/
def d2I (C : Int → Int → Prop) (g : Int → Int → D) : D2 := fun d e S k => match d, e with
  | .int i, .int j => C i j ∧ k (g i j) S
  | _, _ => False
theorem op2I {f : Value → Value → Sem Value} {C : Int → Int → Prop} {g : Int → Int → D} {gV : Int → Int → V} (ho : OpR X f (rI C gV)) (hg : ∀ i j H, IsD X.K H (g i j) (gV i j)) : OpR X f (upR X.K (d2I C g)) := by
  intro pins s σ H x y v u Q I rx ry h
  obtain ⟨d, e, S, k, i1, i2, hS, r, n⟩ := h
  cases d with
  | int i =>
    cases e with
    | int j =>
      have e1 := isInt.mp i1
      have e2 := isInt.mp i2
      subst e1
      subst e2
      exact ho pins s σ H _ _ v u Q I rx ry ⟨i, j, rfl, rfl, r.1, up1 n hS r.2 (hg i j H)⟩
    | _ => exact (show False from r).elim
  | _ => exact (show False from r).elim
def d2I0 (g : Int → Int → D) : D2 := fun d e S k => match d, e with
  | .int i, .int j => k (g i j) S
  | _, _ => False
theorem op2I0 {f : Value → Value → Sem Value} {g : Int → Int → D} {gV : Int → Int → V} (ho : OpR X f (rI0 gV)) (hg : ∀ i j H, IsD X.K H (g i j) (gV i j)) : OpR X f (upR X.K (d2I0 g)) := by
  intro pins s σ H x y v u Q I rx ry h
  obtain ⟨d, e, S, k, i1, i2, hS, r, n⟩ := h
  cases d with
  | int i =>
    cases e with
    | int j =>
      have e1 := isInt.mp i1
      have e2 := isInt.mp i2
      subst e1
      subst e2
      exact ho pins s σ H _ _ v u Q I rx ry ⟨i, j, rfl, rfl, up1 n hS r (hg i j H)⟩
    | _ => exact (show False from r).elim
  | _ => exact (show False from r).elim
def CDivB (i j : Int) : Prop := j ≠ 0 ∧ j.natAbs.log2 < 9000
abbrev dSub : D2 := d2I0 fun i j => .int (i - j)
abbrev dMul : D2 := d2I IntMulOk fun i j => .int (i * j)
abbrev dDiv : D2 := d2I CDivB fun i j => .int (i.fdiv j)
abbrev dMod : D2 := d2I (fun _ j => j ≠ 0) fun i j => .int (i.fmod j)
abbrev dPow : D2 := d2I CPow fun i j => .int (i ^ j.toNat)
abbrev dShl : D2 := d2I CPow fun i j => .int (i * 2 ^ j.toNat)
abbrev dLt : D2 := d2I0 fun i j => .bl (decide (i < j))
abbrev dLe : D2 := d2I0 fun i j => .bl (decide (i ≤ j))
abbrev dGt : D2 := d2I0 fun i j => .bl (decide (j < i))
abbrev dGe : D2 := d2I0 fun i j => .bl (decide (j ≤ i))
theorem o_sub : OpR X (binaryOp .Sub) (upR X.K dSub) := op2I0 op_sub fun _ _ _ => isInt.mpr rfl
theorem o_mul : OpR X (binaryOp .Mult) (upR X.K dMul) := op2I (C := IntMulOk) (gV := fun i j => .int (i * j)) (opI fun _ _ _ _ _ _ _ hc q => mul_int q hc) fun _ _ _ => isInt.mpr rfl
theorem o_div : OpR X (binaryOp .FloorDiv) (upR X.K dDiv) := op2I (C := CDivB) (gV := fun i j => .int (i.fdiv j)) (opI fun _ _ _ _ _ _ _ hc q => floordiv_int hc.1 q (.inl (PyProof.noPylong_of_log2 hc.2))) fun _ _ _ => isInt.mpr rfl
theorem o_mod : OpR X (binaryOp .Mod) (upR X.K dMod) := op2I op_modN fun _ _ _ => isInt.mpr rfl
theorem o_pow : OpR X (binaryOp .Pow) (upR X.K dPow) := op2I op_pow fun _ _ _ => isInt.mpr rfl
theorem o_lt : OpR X (compareOp .Lt) (upR X.K dLt) := op2I0 op_lt fun _ _ _ => isBl.mpr rfl
theorem o_le : OpR X (compareOp .LtE) (upR X.K dLe) := op2I0 op_le fun _ _ _ => isBl.mpr rfl
theorem o_gt : OpR X (compareOp .Gt) (upR X.K dGt) := op2I0 op_gt fun _ _ _ => isBl.mpr rfl
theorem o_ge : OpR X (compareOp .GtE) (upR X.K dGe) := op2I0 op_ge fun _ _ _ => isBl.mpr rfl
/-- + -/
def dAdd : D2 := fun d e S k => match d, e with
  | .int i, .int j => k (.int (i + j)) S
  | .str x, .str y => x.length + y.length ≤ sizeLine ∧ k (.str (x ++ y)) S
  | .tup xs, .tup ys => xs ≠ [] ∧ ys ≠ [] ∧ xs.length + ys.length ≤ sizeLine ∧ k (.tup (xs ++ ys)) S
  | .ref a, .ref b => ∃ xs ys, S a = some (.lst xs) ∧ S b = some (.lst ys) ∧ xs.length + ys.length ≤ sizeLine ∧ ∀ p, S p = none → k (.ref p) (put S p (.lst (xs ++ ys)))
  | _, _ => False
theorem ne_nil_of {K : Fg} {H : Hp} {ds : List D} {vs : List V} (i : IsDs K H ds vs) (h : ds ≠ []) : vs ≠ [] := by
  intro e
  subst e
  have := i.length
  exact h (List.length_eq_zero_iff.mp this)
theorem o_add : OpR X (binaryOp .Add) (upR X.K dAdd) := by
  intro pins s σ H x y v u Q I rx ry h
  obtain ⟨d, e, S, k, i1, i2, hS, r, n⟩ := h
  cases d with
  | int i =>
    cases e with
    | int j =>
      have e1 := isInt.mp i1
      have e2 := isInt.mp i2
      subst e1
      subst e2
      exact op_add pins s σ H _ _ v u Q I rx ry ⟨i, j, rfl, rfl, up1 n hS r (isInt.mpr rfl)⟩
    | _ => exact (show False from r).elim
  | str i =>
    cases e with
    | str j =>
      have e1 := isStr.mp i1
      have e2 := isStr.mp i2
      subst e1
      subst e2
      exact op_add_str pins s σ H _ _ v u Q I rx ry ⟨i, j, rfl, rfl, r.1, up1 n hS r.2 (isStr.mpr rfl)⟩
    | _ => exact (show False from r).elim
  | tup xs =>
    cases e with
    | tup ys =>
      obtain ⟨a, vs, rfl, t1, j1⟩ := isTup.mp i1
      obtain ⟨b, us, rfl, t2, j2⟩ := isTup.mp i2
      obtain ⟨h1, h2, h3, r⟩ := r
      refine op_catT pins s σ H _ _ v u Q I rx ry ⟨a, b, vs, us, rfl, rfl, t1, t2, ne_nil_of j1 h1, by rw [← j1.length, ← j2.length]; exact h3, fun z => absurd z (ne_nil_of j2 h2), fun _ p hp => ?_⟩
      have kp : Kp H (upd H p (.tup (vs ++ us))) := Kp.new hp
      exact n _ S _ _ r kp (hS.new hp) (isTup.mpr ⟨p, _, rfl, SqT.of upd_same, (j1.append j2).kp kp⟩)
    | _ => exact (show False from r).elim
  | ref a =>
    cases e with
    | ref b =>
      have e1 := isRef.mp i1
      have e2 := isRef.mp i2
      subst e1
      subst e2
      obtain ⟨xs, ys, h1, h2, h3, r⟩ := r
      obtain ⟨vs, q1, j1⟩ := hS.lst h1
      obtain ⟨us, q2, j2⟩ := hS.lst h2
      refine op_cat pins s σ H _ _ v u Q I rx ry ⟨a, b, vs, us, rfl, rfl, q1, q2, by rw [← j1.length, ← j2.length]; exact h3, fun p hp => ?_⟩
      exact n _ _ _ _ (r p (hS.free hp)) (Kp.new hp) (hS.newL hp (j1.append j2)) (isRef.mpr rfl)
    | _ => exact (show False from r).elim
  | _ => exact (show False from r).elim
/-! == and != of flat things -/
def eqF : D → D → Option Bool
  | .int i, .int j => some (decide (i = j))
  | .bl i, .bl j => some (decide (i = j))
  | .str i, .str j => some (decide (i = j))
  | _, _ => none
def dEq : D2 := fun d e S k => match eqF d e with
  | some b => k (.bl b) S
  | none => False
def dNe : D2 := fun d e S k => match eqF d e with
  | some b => k (.bl (!b)) S
  | none => False
theorem eqF_V {K : Fg} {H : Hp} {d e : D} {x y : V} {b : Bool} (h : eqF d e = some b) (i1 : IsD K H d x) (i2 : IsD K H e y) : scal x y = true ∧ decide (x = y) = b := by
  unfold eqF at h
  split at h
  · have e1 := isInt.mp i1
    have e2 := isInt.mp i2
    subst e1; subst e2
    cases h
    exact ⟨rfl, by simp⟩
  · have e1 := isBl.mp i1
    have e2 := isBl.mp i2
    subst e1; subst e2
    cases h
    exact ⟨rfl, by simp⟩
  · have e1 := isStr.mp i1
    have e2 := isStr.mp i2
    subst e1; subst e2
    cases h
    exact ⟨rfl, by simp⟩
  · cases h
theorem o_eq : OpR X (compareOp .Eq) (upR X.K dEq) := by
  intro pins s σ H x y v u Q I rx ry h
  obtain ⟨d, e, S, k, i1, i2, hS, r, n⟩ := h
  unfold dEq at r
  cases q : eqF d e with
  | none => rw [q] at r; exact r.elim
  | some b =>
    rw [q] at r
    obtain ⟨h1, h2⟩ := eqF_V q i1 i2
    exact op_eq pins s σ H _ _ v u Q I rx ry ⟨h1, by rw [h2]; exact up1 n hS r (isBl.mpr rfl)⟩
theorem o_ne : OpR X (compareOp .NotEq) (upR X.K dNe) := by
  intro pins s σ H x y v u Q I rx ry h
  obtain ⟨d, e, S, k, i1, i2, hS, r, n⟩ := h
  unfold dNe at r
  cases q : eqF d e with
  | none => rw [q] at r; exact r.elim
  | some b =>
    rw [q] at r
    obtain ⟨h1, h2⟩ := eqF_V q i1 i2
    exact op_ne pins s σ H _ _ v u Q I rx ry ⟨h1, by rw [h2]; exact up1 n hS r (isBl.mpr rfl)⟩
/-! is, is not -/
def isNonD : D → Bool
  | .non => true
  | _ => false
def dIs : D2 := fun d e S k => match d, e with
  | .bl c, .bl b => k (.bl (c == b)) S
  | d, .non => k (.bl (isNonD d)) S
  | _, _ => False
def dIsNot : D2 := fun d e S k => match d, e with
  | .bl c, .bl b => k (.bl (!(c == b))) S
  | d, .non => k (.bl (!isNonD d)) S
  | _, _ => False
theorem isNonD_V {K : Fg} {H : Hp} {d : D} {x : V} (i : IsD K H d x) : decide (x = .non) = isNonD d := by
  cases d with
  | non => rw [isNon.mp i]; rfl
  | bl b => rw [isBl.mp i]; rfl
  | int b => rw [isInt.mp i]; rfl
  | str b => rw [isStr.mp i]; rfl
  | ref b => rw [isRef.mp i]; rfl
  | ty b => rw [isTy.mp i]; rfl
  | tup b => obtain ⟨a, xs, rfl, _⟩ := isTup.mp i; rfl
  | rl b => obtain ⟨a, xs, rfl, _⟩ := isRl.mp i; rfl
theorem o_is : OpR X (compareOp .Is) (upR X.K dIs) := by
  intro pins s σ H x y v u Q I rx ry h
  obtain ⟨d, e, S, k, i1, i2, hS, r, n⟩ := h
  unfold dIs at r
  split at r
  · rename_i c b
    have e1 := isBl.mp i1
    have e2 := isBl.mp i2
    subst e1; subst e2
    cases rx; cases ry
    exact is_bool ⟨.bl _, H, I, rfl, up1 n hS r (isBl.mpr rfl)⟩
  · have e2 := isNon.mp i2
    exact op_isN pins s σ H _ _ v u Q I rx ry ⟨e2, by rw [isNonD_V i1]; exact up1 n hS r (isBl.mpr rfl)⟩
  · exact r.elim
theorem o_isNot : OpR X (compareOp .IsNot) (upR X.K dIsNot) := by
  intro pins s σ H x y v u Q I rx ry h
  obtain ⟨d, e, S, k, i1, i2, hS, r, n⟩ := h
  unfold dIsNot at r
  split at r
  · rename_i c b
    have e1 := isBl.mp i1
    have e2 := isBl.mp i2
    subst e1; subst e2
    cases rx; cases ry
    exact isnot_bool ⟨.bl _, H, I, rfl, up1 n hS r (isBl.mpr rfl)⟩
  · have e2 := isNon.mp i2
    exact op_notN pins s σ H _ _ v u Q I rx ry ⟨e2, by rw [isNonD_V i1]; exact up1 n hS r (isBl.mpr rfl)⟩
  · exact r.elim
/-! minus -/
def dNeg : D1 := fun d S k => match d with
  | .int i => k (.int (-i)) S
  | _ => False
theorem o_neg : UnR X (unaryOp .USub) (upU X.K dNeg) := by
  intro pins s σ H x v Q I rx h
  obtain ⟨d, S, k, i1, hS, r, n⟩ := h
  cases d with
  | int i =>
    have e1 := isInt.mp i1
    subst e1
    exact un_neg pins s σ H _ v Q I rx ⟨i, rfl, up1 n hS r (isInt.mpr rfl)⟩
  | _ => exact (show False from r).elim
/-! a[i] -/
def dIx : D2 := fun d e S k => match d, e with
  | .tup ds, .int i => (match atI ds i with
    | some c => k c S
    | none => False)
  | .rl ds, .int i => (match atI ds i with
    | some c => k c S
    | none => False)
  | .ref a, .int i => (match S a with
    | some (.lst ds) => (match atI ds i with
      | some c => k c S
      | none => False)
    | _ => False)
  | _, _ => False
theorem IsDs.atI {K : Fg} {H : Hp} {ds : List D} {vs : List V} {i : Int} {d : D} (r : IsDs K H ds vs) (h : atI ds i = some d) : ∃ v, L2.atI vs i = some v ∧ IsD K H d v := by
  unfold L2.atI at h ⊢
  rw [← r.length]
  cases q : ixN ds.length i with
  | none => rw [q] at h; cases h
  | some j =>
    rw [q] at h
    exact r.get h
theorem x_ix : IxR X (upR X.K dIx) := by
  intro value slice pins s σ H x y v u Q I rx ry h hs
  obtain ⟨d, e, S, k, i1, i2, hS, r, n⟩ := h
  cases e with
  | int i =>
    have e2 := isInt.mp i2
    subst e2
    cases d with
    | tup ds =>
      obtain ⟨a, vs, rfl, t, j⟩ := isTup.mp i1
      cases q : atI ds i with
      | none => simp only [dIx, q] at r
      | some c =>
        simp only [dIx, q] at r
        obtain ⟨w, e1, e2⟩ := j.atI q
        exact ix_tup value slice pins s σ H _ _ v u Q I rx ry ⟨a, vs, i, w, rfl, rfl, t, e1, up1 n hS r e2⟩ hs
    | rl ds =>
      obtain ⟨a, vs, rfl, t, j⟩ := isRl.mp i1
      cases q : atI ds i with
      | none => simp only [dIx, q] at r
      | some c =>
        simp only [dIx, q] at r
        obtain ⟨w, e1, e2⟩ := j.atI q
        exact ix_list value slice pins s σ H _ _ v u Q I rx ry ⟨a, vs, i, w, rfl, rfl, t.sq, e1, up1 n hS r e2⟩ hs
    | ref a =>
      have e1 := isRef.mp i1
      subst e1
      cases z : S a with
      | none => simp only [dIx, z] at r
      | some o =>
        cases o with
        | dic => simp only [dIx, z] at r
        | exc _ => simp only [dIx, z] at r
        | fn _ => simp only [dIx, z] at r
        | tbl _ => simp only [dIx, z] at r
        | gen _ => simp only [dIx, z] at r
        | lst ds =>
          obtain ⟨vs, hl, j⟩ := hS.lst z
          cases q : atI ds i with
          | none => simp only [dIx, z, q] at r
          | some c =>
            simp only [dIx, z, q] at r
            obtain ⟨w, e1, e2⟩ := j.atI q
            exact ix_list value slice pins s σ H _ _ v u Q I rx ry ⟨a, vs, i, w, rfl, rfl, SqL.of hl, e1, up1 n hS r e2⟩ hs
    | _ => exact (show False from r).elim
  | _ =>
    cases d <;> exact (show False from r).elim
end
/-! ### calls -/
abbrev DSp := List D → DH → DK → Prop
def upC (K : Fg) (r : DSp) : List V → Hp → VK → Prop := fun xs H Q => ∃ ds S k, IsDs K H ds xs ∧ Hs K H S ∧ r ds S k ∧ ∀ d' S' v H', k d' S' → Kp H H' → Hs K H' S' → IsD K H' d' v → Q v H'
def dCall (r : DSp) (t : DA) : DE := fun L S k => t L S fun ds S1 => r ds S1 k
section
variable {X : Cx} {x : Str} {p pos : Pos} {e : Expr} {es : List Expr} {t : DA} {id T : String} {r : DSp}
theorem dCall_go {K : Fg} : ∀ σ H Q, up K (dCall r t) σ H Q → tCB (upC K r) (upA K t) σ H Q := fun σ H Q ⟨L, S, k, hL, hS, h, n⟩ =>
  upA.go hL hS h fun ds S1 vs H1 h1 k1 hL1 hS1 i1 => ⟨ds, S1, k, i1, hS1, h1, fun d' S' v H' q k3 z1 z2 => n d' S' v H' q (k1.trans k3) z1 z2⟩
theorem d_callB (hc : CallR X (.builtin id) (upC X.K r)) (hg : Gl X x) (hm : X.mg x = none) (hv : bootBuiltins x = some (.builtin id)) (ha : PA X (e :: es) (upA X.K t)) (hn : x ≠ "__name__" := by decide) (hdb : (x == ("__debug__" : Str)) = false := by decide)
    (he : starEach (e :: es) X.env = (false, eval e X.env) :: starEach es X.env := by exact star_cons rfl) (hpl : (backTo pos (starEach es X.env)).any (·.1) = false := by exact star_any rfl) : PE X (.Call (.Name x p) (e :: es) [] pos) (up X.K (dCall r t)) :=
  PE.imp (pe_callB hc hg hm hv ha hn hdb he hpl) dCall_go
theorem d_callT (hc : CallR X (.type T) (upC X.K r)) (hg : Gl X x) (hm : X.mg x = none) (hv : bootBuiltins x = some (.type T)) (ha : PA X (e :: es) (upA X.K t)) (hn : x ≠ "__name__" := by decide) (hdb : (x == ("__debug__" : Str)) = false := by decide)
    (he : starEach (e :: es) X.env = (false, eval e X.env) :: starEach es X.env := by exact star_cons rfl) (hpl : (backTo pos (starEach es X.env)).any (·.1) = false := by exact star_any rfl) : PE X (.Call (.Name x p) (e :: es) [] pos) (up X.K (dCall r t)) :=
  PE.imp (pe_callTy hc hg hm hv ha hn hdb he hpl) dCall_go
/-- an own def's promise over data -/
def spU (K : Fg) (F : DSp) : Sp := fun vs H Q _ => upC K F vs H Q
structure Own (P : Program) (w : World) (K : Fg) (mg : Str → Option Value) (base : Heap) (x : Str) (n : Nat) (F : DSp) : Prop where
  ex : ∃ f fd ps, FnOk P w K mg base CX0 n f fd ps (spU K F) ∧ mg x = some (.ref f) ∧ PySem.W.keepIn K (.ref f) = true ∧ Binds K fd ps []
theorem d_call {n : Nat} {F : DSp} (c : Own X.prog X.w X.K X.mg X.base x n F) (hr : Room n X.A) (hg : Gl X x) (ha : PA X (e :: es) (upA X.K t)) (hdb : (x == ("__debug__" : Str)) = false := by decide)
    (he : starEach (e :: es) X.env = (false, eval e X.env) :: starEach es X.env := by exact star_cons rfl) (hpl : (backTo pos (starEach es X.env)).any (·.1) = false := by exact star_any rfl) :
    PE X (.Call (.Name x p) (e :: es) [] pos) (up X.K (dCall F t)) := by
  obtain ⟨f, fd, ps, F1, h1, h2, h3⟩ := c.ex
  refine PE.imp (pe_call F1 hr hg h1 h2 h3 .nil pass0 ha hdb he hpl) fun σ H Q ⟨L, S, k, hL, hS, h, n⟩ => ?_
  refine upA.go hL hS h fun ds S1 vs H1 h1 k1 hL1 hS1 i1 => ?_
  show spU X.K F (vs ++ []) H1 Q E0
  rw [List.append_nil]
  exact ⟨ds, S1, k, i1, hS1, h1, fun d' S' v H' q k3 z1 z2 => n d' S' v H' q (k1.trans k3) z1 z2⟩
/-! built-ins -/
def bAbs : DSp := fun ds S k => match ds with
  | [.int i] => k (.int (if i < 0 then -i else i)) S
  | _ => False
theorem isDs1 {K : Fg} {H : Hp} {d : D} {xs : List V} (h : IsDs K H [d] xs) : ∃ x, xs = [x] ∧ IsD K H d x := by
  obtain ⟨v, r, rfl, h1, h2⟩ := isCons.mp h
  rw [isNil.mp h2]
  exact ⟨v, rfl, h1⟩
theorem isDs2 {K : Fg} {H : Hp} {d e : D} {xs : List V} (h : IsDs K H [d, e] xs) : ∃ x y, xs = [x, y] ∧ IsD K H d x ∧ IsD K H e y := by
  obtain ⟨v, r, rfl, h1, h2⟩ := isCons.mp h
  obtain ⟨y, rfl, h3⟩ := isDs1 h2
  exact ⟨v, y, rfl, h1, h3⟩
theorem b_abs : CallR X (.builtin "abs") (upC X.K bAbs) := by
  intro pins s σ H xs us Q I rs h
  obtain ⟨ds, S, k, i, hS, r, n⟩ := h
  unfold bAbs at r
  split at r
  · obtain ⟨x, rfl, i1⟩ := isDs1 i
    have e1 := isInt.mp i1
    subst e1
    exact call_abs pins s σ H _ us Q I rs ⟨_, rfl, up1 n hS r (isInt.mpr rfl)⟩
  · exact r.elim
def bLen : DSp := fun ds S k => match ds with
  | [.tup xs] => k (.int xs.length) S
  | [.rl xs] => k (.int xs.length) S
  | [.ref a] => (match S a with
    | some (.lst xs) => k (.int xs.length) S
    | _ => False)
  | _ => False
theorem b_len : CallR X (.builtin "len") (upC X.K bLen) := by
  intro pins s σ H xs us Q I rs h
  obtain ⟨ds, S, k, i, hS, r, n⟩ := h
  unfold bLen at r
  split at r
  · obtain ⟨x, rfl, i1⟩ := isDs1 i
    obtain ⟨a, vs, rfl, t, j⟩ := isTup.mp i1
    exact call_len_seq pins s σ H _ us Q I rs ⟨a, vs, rfl, .inr t, by rw [← j.length]; exact up1 n hS r (isInt.mpr rfl)⟩
  · obtain ⟨x, rfl, i1⟩ := isDs1 i
    obtain ⟨a, vs, rfl, t, j⟩ := isRl.mp i1
    exact call_len_seq pins s σ H _ us Q I rs ⟨a, vs, rfl, .inl t.sq, by rw [← j.length]; exact up1 n hS r (isInt.mpr rfl)⟩
  · obtain ⟨x, rfl, i1⟩ := isDs1 i
    have e1 := isRef.mp i1
    subst e1
    split at r
    · rename_i z
      obtain ⟨vs, hl, j⟩ := hS.lst z
      exact call_len_seq pins s σ H _ us Q I rs ⟨_, vs, rfl, .inl (SqL.of hl), by rw [← j.length]; exact up1 n hS r (isInt.mpr rfl)⟩
    · exact r.elim
  · exact r.elim
def bMax : DSp := fun ds S k => match ds with
  | [.int i, .int j] => k (.int (if j > i then j else i)) S
  | _ => False
def bMin : DSp := fun ds S k => match ds with
  | [.int i, .int j] => k (.int (if j < i then j else i)) S
  | _ => False
def bInt : DSp := fun ds S k => match ds with
  | [.int i] => k (.int i) S
  | [.bl b] => k (.int (if b then 1 else 0)) S
  | _ => False
def bStr : DSp := fun ds S k => match ds with
  | [.int i] => i.natAbs.log2 < 1920 ∧ k (.str (toString i)) S
  | _ => False
theorem b_str : CallR X (.type "str") (upC X.K bStr) := by
  intro pins s σ H xs us Q I rs h
  obtain ⟨ds, S, k, i, hS, r, n⟩ := h
  unfold bStr at r
  split at r
  · obtain ⟨x, rfl, i1⟩ := isDs1 i
    have e1 := isInt.mp i1
    subst e1
    exact call_str_int pins s σ H _ us Q I rs ⟨_, rfl, r.1, up1 n hS r.2 (isStr.mpr rfl)⟩
  · exact r.elim
/-- list(t) -/
def bList : DSp := fun ds S k => match ds with
  | [.tup xs] => ∀ p, S p = none → k (.ref p) (put S p (.lst xs))
  | [.ref a] => ∃ xs, S a = some (.lst xs) ∧ ∀ p, S p = none → k (.ref p) (put S p (.lst xs))
  | _ => False
theorem b_list : CallR X (.type "list") (upC X.K bList) := by
  intro pins s σ H xs us Q I rs h
  obtain ⟨ds, S, k, i, hS, r, n⟩ := h
  unfold bList at r
  split at r
  · obtain ⟨x, rfl, i1⟩ := isDs1 i
    obtain ⟨a, vs, rfl, t, j⟩ := isTup.mp i1
    exact call_list_of pins s σ H _ us Q I rs ⟨a, vs, rfl, .inr t, fun p hp => n _ _ _ _ (r p (hS.free hp)) (Kp.new hp) (hS.newL hp j) (isRef.mpr rfl)⟩
  · obtain ⟨x, rfl, i1⟩ := isDs1 i
    have e1 := isRef.mp i1
    subst e1
    obtain ⟨xs, z, r⟩ := r
    obtain ⟨vs, hl, j⟩ := hS.lst z
    exact call_list_of pins s σ H _ us Q I rs ⟨_, vs, rfl, .inl (SqL.of hl), fun p hp => n _ _ _ _ (r p (hS.free hp)) (Kp.new hp) (hS.newL hp j) (isRef.mpr rfl)⟩
  · exact r.elim
/-! isinstance(x, T), T a built-in type -/
def tyR : Option DO → Option Ty
  | some (.lst _) => some .lst
  | some .dic => some .dic
  | _ => none
def tyD (S : DH) : D → Option Ty
  | .non => some .non
  | .bl _ => some .bool
  | .int _ => some .int
  | .str _ => some .str
  | .tup _ => some .tup
  | .rl _ => none
  | .ref a => tyR (S a)
  | .ty _ => none
def subT : Ty → Ty → Bool
  | .non, .non => true | .bool, .bool => true | .bool, .int => true | .int, .int => true | .str, .str => true | .tup, .tup => true | .lst, .lst => true | .dic, .dic => true | .verr, .verr => true
  | _, _ => false
theorem kit_of {K : Fg} (t c : Ty) : PySem.W.kitOne K (.type t.name) (.type c.name) = some (subT t c) := by
  cases t <;> cases c <;> rfl
def bIsi : DSp := fun ds S k => match ds with
  | [d, .ty c] => (match tyD S d with
    | some t => k (.bl (subT t c)) S
    | none => False)
  | _ => False
/-! o.bit_length() -/
def mBits : D1 := fun d S k => match d with
  | .int i => k (.int ((Builtin.Int.intBits i : Nat) : Int)) S
  | _ => False
/-! t[lo:hi] of a tuple -/
def cutD (xs : List D) (lo hi : Option Int) : List D := (xs.drop (HT.sIx xs.length 0 lo)).take (HT.sIx xs.length xs.length hi - HT.sIx xs.length 0 lo)
abbrev DOp := Lo → DH → (Option Int → DH → Prop) → Prop
def upO (K : Fg) (g : DOp) : TO := fun σ H Q => ∃ L S k, Lc K H L σ ∧ Hs K H S ∧ g L S k ∧ ∀ i S' H', k i S' → Kp H H' → Hs K H' S' → Q i H'
def oNone : DOp := fun _ S k => k none S
def oSome (g : DE) : DOp := fun L S k => g L S fun d S1 => match d with
  | .int i => k (some i) S1
  | _ => False
theorem do_none : PO X none (upO X.K oNone) := by
  intro pins s σ H Q I h
  obtain ⟨L, S, k, hL, hS, h, n⟩ := h
  exact po_none pins s σ H Q I (n none S H h (Kp.refl H) hS)
theorem do_some {e : Expr} {g : DE} (he : PE X e (up X.K g)) : PO X (some e) (upO X.K (oSome g)) := by
  intro pins s σ H Q I h
  obtain ⟨L, S, k, hL, hS, h, n⟩ := h
  refine po_some he pins s σ H Q I (up.go hL hS h fun d S1 v H1 h1 k1 hL1 hS1 i1 => ?_)
  cases d with
  | int i =>
    have e1 := isInt.mp i1
    subst e1
    exact ⟨i, rfl, n (some i) S1 H1 h1 k1 hS1⟩
  | _ => exact (show False from h1).elim
def dCutT (g : DE) (tl th : DOp) : DE := fun L S k => g L S fun x S1 => tl L S1 fun lo S2 => th L S2 fun hi S3 => match x with
  | .tup xs => ¬ (HT.sIx xs.length 0 lo = 0 ∧ HT.sIx xs.length xs.length hi = xs.length) ∧ k (.tup (cutD xs lo hi)) S3
  | _ => False
/-! {}, {'a': 1} -/
def dDict0 : DE := fun _ S k => ∀ p, S p = none → k (.ref p) (put S p .dic)
end
end DL
namespace DL
open PySem PySem.Spec PyProof.Rows L2
/-! ### statements -/
section
variable {X : Cx} {st : Stmt} {rest : List Stmt} {g h : DS} {e : Expr} {ge : DE} {pos : Pos}
def dNext : DS := fun M L S => M.nx L S
def dSeq (g h : DS) : DS := fun M L S => g { M with nx := h M } L S
theorem ds_nil : PSs X [] (upS X.K dNext) := PSs.imp pss_nil fun N σ H ⟨L, S, M, hL, hS, h, r⟩ => r.nx L S σ H h (Kp.refl H) hL hS
theorem dSeq_go {K : Fg} : ∀ N σ H, upS K (dSeq g h) N σ H → tSeq (upS K g) (upS K h) N σ H := fun N σ H ⟨L, S, M, hL, hS, q, r⟩ =>
  ⟨L, S, { M with nx := h M }, hL, hS, q, ⟨fun L' S' σ' H' q' k' hL' hS' => ⟨L', S', M, hL', hS', q', r.kp k'⟩, r.rt, r.bk, r.ct⟩⟩
theorem ds_cons (h1 : PS X st (upS X.K g)) (h2 : PSs X rest (upS X.K h)) : PSs X (st :: rest) (upS X.K (dSeq g h)) := PSs.imp (pss_cons h1 h2) dSeq_go
theorem ds_one (h1 : PS X st (upS X.K g)) : PSs X [st] (upS X.K g) := pss_one h1
def dBreak : DS := fun M L S => M.bk L S
def dCont : DS := fun M L S => M.ct L S
def dDrop (ge : DE) : DS := fun M L S => ge L S fun _ S1 => M.nx L S1
theorem dst_expr (he : PE X e (up X.K ge)) (hs : swapsWith e none pos.line X.env = pure false := by rfl) : PS X (.Expr e pos) (upS X.K (dDrop ge)) :=
  PS.imp (ps_expr he hs) fun N σ H ⟨L, S, M, hL, hS, h, r⟩ => up.go hL hS h fun d S1 v H1 h1 k1 hL1 hS1 _ => r.nx L S1 σ H1 h1 k1 hL1 hS1
def dRet (ge : DE) : DS := fun M L S => ge L S M.rt
theorem dst_ret (he : PE X e (up X.K ge)) : PS X (.Return (some e) pos) (upS X.K (dRet ge)) :=
  PS.imp (ps_ret he) fun N σ H ⟨L, S, M, hL, hS, h, r⟩ => up.go hL hS h fun d S1 v H1 h1 k1 _ hS1 i1 => r.rt d S1 v H1 h1 k1 hS1 i1
def dRetN : DS := fun M _ S => M.rt .non S
def dIfS (c : DT) (g h : DS) : DS := fun M L S => c L S fun b S1 => if b = true then g M L S1 else h M L S1
theorem dst_if {c : Expr} {a b : List Stmt} {gc : DT} (hc : PT X c (upT X.K gc)) (ha : PSs X a (upS X.K g)) (hb : PSs X b (upS X.K h)) : PS X (.If c a b pos) (upS X.K (dIfS gc g h)) :=
  PS.imp (ps_if hc ha hb) fun N σ H ⟨L, S, M, hL, hS, q, r⟩ => upT.go hL hS q fun t S1 H1 h1 k1 hL1 hS1 => by
    cases t with
    | true =>
      rw [if_pos rfl] at h1 ⊢
      exact ⟨L, S1, M, hL1, hS1, h1, r.kp k1⟩
    | false =>
      rw [if_neg Bool.false_ne_true] at h1 ⊢
      exact ⟨L, S1, M, hL1, hS1, h1, r.kp k1⟩
def dNever : DS := fun _ _ _ => False
def dSet (i : Nat) (ge : DE) : DS := fun M L S => ge L S fun d S1 => M.nx (L.set i (some d)) S1
theorem dst_set {i : Nat} {x : Str} {pos' : Pos} (hN : X.N.Nodup) (he : PE X e (up X.K ge)) (hi : X.N[i]? = some x := by rfl) (hx : Loc X.env.scope x := by first | exact Or.inl rfl | exact Or.inr rfl) (hs : swapsWith e (some (.Name x pos')) pos.line X.env = pure false := by rfl)
    (hf : X.fn x = true ∨ X.env.scope.names.lookup x = some .local := by first | exact .inl rfl | exact .inr rfl | assumption) : PS X (.Assign [.Name x pos'] e pos) (upS X.K (dSet i ge)) :=
  PS.imp (ps_set hN hi hx he hs hf) fun N σ H ⟨L, S, M, hL, hS, h, r⟩ => up.go hL hS h fun d S1 v H1 h1 k1 hL1 hS1 i1 => r.nx _ S1 _ H1 h1 k1 (hL1.set i1 i) hS1
/-- a, b = x, y -/
def dPar (i j : Nat) (ta : DA) : DS := fun M L S => ta L S fun ds S1 => match ds with
  | [d, e] => M.nx ((L.set i (some d)).set j (some e)) S1
  | _ => False
theorem dst_par {i j : Nat} {x y : Str} {a b : Expr} {ta : DA} {px py pt : Pos} {kt k2 pt2} (hc : X.calm = true) (hN : X.N.Nodup) (hij : i ≠ j) (ha : PA X [a, b] (upA X.K ta)) (hi : X.N[i]? = some x := by rfl) (hj : X.N[j]? = some y := by rfl)
    (hx : X.env.scope.names.lookup x = some .local := by rfl) (hy : X.env.scope.names.lookup y = some .local := by rfl)
    (hw : swappedStores [.Tuple [.Name x px, .Name y py] kt pt] (.Tuple [a, b] k2 pt2) X.env = pure (some [x, y]) := by rfl)
    (hs : swapsWithSole [.Tuple [.Name x px, .Name y py] kt pt] (.Tuple [a, b] k2 pt2) pos.line X.env = pure false := by rfl) :
    PS X (.Assign [.Tuple [.Name x px, .Name y py] kt pt] (.Tuple [a, b] k2 pt2) pos) (upS X.K (dPar i j ta)) :=
  PS.imp (ps_par hc hN hi hj hij hx hy ha hw hs) fun N σ H ⟨L, S, M, hL, hS, h, r⟩ => upA.go hL hS h fun ds S1 vs H1 h1 k1 hL1 hS1 i1 => by
    split at h1
    · obtain ⟨v, u, rfl, j1, j2⟩ := isDs2 i1
      exact ⟨v, u, rfl, r.nx _ S1 _ H1 h1 k1 ((hL1.set j1 i).set j2 j) hS1⟩
    · exact h1.elim
/-! targets -/
abbrev DG := D → Lo → DH → (Lo → DH → Prop) → Prop
def upG (K : Fg) (g : DG) : TG := fun v σ H Q => ∃ d L S k, IsD K H d v ∧ Lc K H L σ ∧ Hs K H S ∧ g d L S k ∧ ∀ L' S' σ' H', k L' S' → Kp H H' → Lc K H' L' σ' → Hs K H' S' → Q σ' H'
theorem PG.imp {e : Expr} {t t' : TG} (h : PG X e t) (i : ∀ v σ H Q, t' v σ H Q → t v σ H Q) : PG X e t' := fun pins s σ H v u Q I rv q => h pins s σ H v u Q I rv (i v σ H Q q)
def dgName (i : Nat) : DG := fun d L S k => k (L.set i (some d)) S
theorem dg_name {i : Nat} {x : Str} (hN : X.N.Nodup) (hi : X.N[i]? = some x := by rfl) (hx : Loc X.env.scope x := by first | exact Or.inl rfl | exact Or.inr rfl) (hf : X.fn x = true ∨ X.env.scope.names.lookup x = some .local := by first | exact .inl rfl | exact .inr rfl | assumption) : PG X (.Name x pos) (upG X.K (dgName i)) :=
  PG.imp (pg_name hN hi hx hf) fun v σ H Q ⟨d, L, S, k, i1, hL, hS, h, n⟩ => n _ S _ H h (Kp.refl H) (hL.set i1 i) hS
abbrev DGs := List D → Lo → DH → (Lo → DH → Prop) → Prop
def upGs (K : Fg) (g : DGs) : TGs := fun v σ H Q => ∃ d L S k, IsDs K H d v ∧ Lc K H L σ ∧ Hs K H S ∧ g d L S k ∧ ∀ L' S' σ' H', k L' S' → Kp H H' → Lc K H' L' σ' → Hs K H' S' → Q σ' H'
theorem PGs.imp {e : List Expr} {t t' : TGs} (h : PGs X e t) (i : ∀ v σ H Q, t' v σ H Q → t v σ H Q) : PGs X e t' := fun pins s σ H v u Q I rv q => h pins s σ H v u Q I rv (i v σ H Q q)
def dgNil : DGs := fun ds L S k => ds = [] ∧ k L S
def dgCons (t : DG) (u : DGs) : DGs := fun ds L S k => match ds with
  | d :: r => t d L S fun L1 S1 => u r L1 S1 k
  | [] => False
theorem dgs_nil : PGs X [] (upGs X.K dgNil) := PGs.imp pgs_nil fun v σ H Q ⟨d, L, S, k, i1, hL, hS, h, n⟩ => by
  obtain ⟨rfl, h⟩ := h
  exact ⟨isNil.mp i1, n L S σ H h (Kp.refl H) hL hS⟩
theorem dgs_cons {es : List Expr} {t : DG} {u : DGs} (h1 : PG X e (upG X.K t)) (h2 : PGs X es (upGs X.K u)) (hs : (assignEach (e :: es) X.env).map (·.2) = assign e X.env :: (assignEach es X.env).map (·.2) := by rfl) : PGs X (e :: es) (upGs X.K (dgCons t u)) :=
  PGs.imp (pgs_cons h1 h2 hs) fun vs σ H Q ⟨ds, L, S, k, i1, hL, hS, h, n⟩ => by
    cases ds with
    | nil => exact (show False from h).elim
    | cons d r =>
      obtain ⟨v, vr, rfl, j1, j2⟩ := isCons.mp i1
      exact ⟨v, vr, rfl, d, L, S, _, j1, hL, hS, h, fun L1 S1 σ1 H1 q k1 hL1 hS1 => ⟨r, L1, S1, k, j2.kp k1, hL1, hS1, q, fun L' S' σ' H' q' k' => n L' S' σ' H' q' (k1.trans k')⟩⟩
def dgTup (n : Nat) (t : DGs) : DG := fun d L S k => match d with
  | .tup ds => ds.length = n ∧ t ds L S k
  | _ => False
/-- o[i] = .. -/
def dgSub (go gi : DE) : DG := fun d L S k => go L S fun o S1 => gi L S1 fun i S2 => match o, i with
  | .ref a, .int j => (match S2 a with
    | some (.lst ds) => (match ixN ds.length j with
      | some n => k L (put S2 a (.lst (ds.set n d)))
      | none => False)
    | _ => False)
  | _, _ => False
def dAsg (ge : DE) (g : DG) : DS := fun M L S => ge L S fun d S1 => g d L S1 M.nx
theorem dst_asg {tg e : Expr} {g : DG} (he : PE X e (up X.K ge)) (hg : PG X tg (upG X.K g)) (hs : swapsWithSole [tg] e pos.line X.env = pure false := by rfl) (hw : swappedStores [tg] e X.env = pure none := by rfl)
    (h1 : (assignEach [tg] X.env).map (·.2) = [assign tg X.env] := by rfl) : PS X (.Assign [tg] e pos) (upS X.K (dAsg ge g)) :=
  PS.imp (ps_asg he hg hs hw h1) fun N σ H ⟨L, S, M, hL, hS, h, r⟩ => up.go hL hS h fun d S1 v H1 h1 k1 hL1 hS1 i1 =>
    ⟨d, L, S1, M.nx, i1, hL1, hS1, h1, fun L' S' σ' H' q k' hL' hS' => r.nx L' S' σ' H' q (k1.trans k') hL' hS'⟩
/-! loops -/
def dWhile (c : DT) (b : DS) : DS := fun M L S => ∃ W : Nat → Lo → DH → Prop, (∃ m, W m L S) ∧ ∀ m L S, W m L S →
  c L S fun t S1 => if t = true then ∃ N : Lo → DH → Prop, (∀ L' S', N L' S' → ∃ m', m' < m ∧ W m' L' S') ∧ b { M with nx := N, ct := N, bk := M.nx } L S1 else M.nx L S1
theorem dst_while {c : Expr} {body : List Stmt} {gc : DT} (hp : PassesOwn (model X.prog X.w) X.A X.env X.xe) (hc : PT X c (upT X.K gc)) (hb : PSs X body (upS X.K g)) : PS X (.While c body [] pos) (upS X.K (dWhile gc g)) :=
  PS.imp (ps_while hp hc hb) fun N σ H ⟨L, S, M, hL, hS, ⟨W, ⟨m0, w0⟩, turn⟩, r⟩ => by
    refine ⟨fun m σ H1 => ∃ L S, Lc X.K H1 L σ ∧ Hs X.K H1 S ∧ W m L S ∧ Kp H H1, ⟨m0, L, S, hL, hS, w0, Kp.refl H⟩, ?_⟩
    rintro m σ1 H1 ⟨L1, S1, hL1, hS1, w1, k1⟩
    refine upT.go hL1 hS1 (turn m L1 S1 w1) fun t S2 H2 h2 k2 hL2 hS2 => ?_
    cases t with
    | true =>
      rw [if_pos rfl] at h2 ⊢
      obtain ⟨N', hN, hb⟩ := h2
      refine ⟨fun σ' H' => ∃ L' S', Lc X.K H' L' σ' ∧ Hs X.K H' S' ∧ N' L' S' ∧ Kp H H', ?_, L1, S2, _, hL2, hS2, hb, ?_⟩
      · rintro σ' H' ⟨L', S', hL', hS', n', k'⟩
        obtain ⟨m', hm, w'⟩ := hN L' S' n'
        exact ⟨m', hm, L', S', hL', hS', w', k'⟩
      · have r2 := r.kp (k1.trans k2)
        exact ⟨fun L' S' σ' H' n' k' hL' hS' => ⟨L', S', hL', hS', n', (k1.trans k2).trans k'⟩, r2.rt, r2.nx, fun L' S' σ' H' n' k' hL' hS' => ⟨L', S', hL', hS', n', (k1.trans k2).trans k'⟩⟩
    | false =>
      rw [if_neg Bool.false_ne_true] at h2 ⊢
      exact (r.kp (k1.trans k2)).nx L1 S2 σ1 H2 h2 (Kp.refl H2) hL2 hS2
/-- over these items, as long as ok -/
def dLoop (ok : DH → Prop) (g : DG) (b : DS) (M : DEnds) : List D → Lo → DH → Prop
  | [], L, S => ok S ∧ M.nx L S
  | d :: r, L, S => ok S ∧ g d L S fun L1 S1 => b { M with nx := fun L2 S2 => dLoop ok g b M r L2 S2, ct := fun L2 S2 => dLoop ok g b M r L2 S2, bk := M.nx } L1 S1
theorem for_core {K : Fg} {ok : DH → Prop} {gg : DG} {b : DS} {M : DEnds} {ds : List D} {L : Lo} {S : DH} {N : Ends} {σ : L2.St} {H : Hp} {J : It} (hL : Lc K H L σ) (hS : Hs K H S) (h : dLoop ok gg b M ds L S) (r : Rch K H M N)
    (hgo : ∀ i d S1 H1, ds[i]? = some d → Kp H H1 → Hs K H1 S1 → ok S1 → J.go i H1 ∧ ∀ x H', J.yld i H1 x H' → H' = H1 ∧ IsD K H1 d x)
    (hst : ∀ S1 H1, Kp H H1 → Hs K H1 S1 → ok S1 → J.stop ds.length H1) :
    ∃ W : Nat → Nat → L2.St → Hp → Prop, (∃ m, W 0 m σ H) ∧ ∀ i m σ H, W i m σ H →
      (J.stop i H ∧ N.nx σ H) ∨ (J.go i H ∧ ∃ N' : L2.St → Hp → Prop, (∀ σ' H', N' σ' H' → ∃ m', m' < m ∧ W (i + 1) m' σ' H') ∧ ∀ x H', J.yld i H x H' → upG K gg x σ H' fun σ2 H2 => upS K b { N with nx := N', ct := N', bk := N.nx } σ2 H2) := by
  refine ⟨fun i m σ1 H1 => m = ds.length - i ∧ i ≤ ds.length ∧ ∃ L1 S1, Lc K H1 L1 σ1 ∧ Hs K H1 S1 ∧ Kp H H1 ∧ dLoop ok gg b M (ds.drop i) L1 S1, ⟨ds.length, by simp, Nat.zero_le _, L, S, hL, hS, Kp.refl H, h⟩, ?_⟩
  rintro i m σ1 H1 ⟨rfl, hi, L1, S1, hL1, hS1, k1, w1⟩
  by_cases hlt : i < ds.length
  · have e : ds.drop i = ds[i] :: ds.drop (i + 1) := List.drop_eq_getElem_cons hlt
    rw [e] at w1
    obtain ⟨o1, w1⟩ := w1
    obtain ⟨g1, y1⟩ := hgo i ds[i] S1 H1 (by simp [hlt]) k1 hS1 o1
    refine .inr ⟨g1, fun σ' H' => i + 1 ≤ ds.length ∧ ∃ L' S', Lc K H' L' σ' ∧ Hs K H' S' ∧ Kp H H' ∧ dLoop ok gg b M (ds.drop (i + 1)) L' S', fun σ' H' ⟨q1, q2⟩ => ⟨ds.length - (i + 1), by omega, rfl, q1, q2⟩, fun x H' y => ?_⟩
    obtain ⟨rfl, ix⟩ := y1 x H' y
    refine ⟨ds[i], L1, S1, _, ix, hL1, hS1, w1, fun L2 S2 σ2 H2 q k2 hL2 hS2 => ⟨L2, S2, _, hL2, hS2, q, ?_⟩⟩
    have r2 := r.kp (k1.trans k2)
    exact ⟨fun L3 S3 σ3 H3 q3 k3 hL3 hS3 => ⟨hlt, L3, S3, hL3, hS3, (k1.trans k2).trans k3, q3⟩, r2.rt, r2.nx, fun L3 S3 σ3 H3 q3 k3 hL3 hS3 => ⟨hlt, L3, S3, hL3, hS3, (k1.trans k2).trans k3, q3⟩⟩
  · have e : i = ds.length := by omega
    subst e
    rw [List.drop_length] at w1
    obtain ⟨o1, w1⟩ := w1
    exact .inl ⟨hst S1 H1 k1 hS1 o1, r.nx L1 S1 σ1 H1 w1 k1 hL1 hS1⟩
/-- what may be walked -/
def dItems (S : DH) : D → Option (List D × Option Addr)
  | .tup ds => some (ds, none)
  | .rl ds => some (ds, none)
  | .ref a => (match S a with
    | some (.lst ds) => some (ds, some a)
    | _ => none)
  | _ => none
def okFor : List D × Option Addr → DH → Prop
  | (_, none) => fun _ => True
  | (ds, some a) => fun S => S a = some (.lst ds)
def dFor (gi : DE) (g : DG) (b : DS) : DS := fun M L S => gi L S fun d S1 => match dItems S1 d with
  | some p => dLoop (okFor p) g b M p.1 L S1
  | none => False
/-- a list or a tuple, known behind its evaluation -/
def iSeq (K : Fg) (t : TE) : TI := fun σ H R => t σ H fun x H1 => ∃ a, x = .ref a ∧ (((∃ xs, SqL K H1 a xs) ∧ R (Itl K a) H1) ∨ ((∃ xs, SqT K H1 a xs) ∧ R (Itt K a) H1))
theorem pi_seq {tg l : Expr} {tl : TE} (hl : PE X l tl) : PI X tg l (iSeq X.K tl) := by
  intro pins s σ H R I h
  refine thn (hl pins s σ H _ I h) fun v s1 ⟨x, H1, I1, r1, q1⟩ => ?_
  obtain ⟨a, e, q1⟩ := q1
  subst e
  cases r1
  rcases q1 with ⟨⟨xs, hq⟩, q⟩ | ⟨⟨xs, hq⟩, q⟩
  · obtain ⟨its, rv, p, hz⟩ := I1.list hq
    refine wpAny_pyIter_list p.isList ?_
    refine ⟨s1.heap.objs.size, [s1.heap.objs.size], _, _, H1, rfl, I1.kept (t' := s1.toks) fun b o e => Heap.get?_push_of_some _ e, turn_list a _, ⟨_, Heap.get?_push_size _ rfl, rfl, rfl⟩, fun b hb => ?_, q⟩
    have e : b = s1.heap.objs.size := by simpa using hb
    subst e
    exact I1.fpOk (Nat.le_refl _) (I1.hok.fresh (Nat.le_refl _))
  · obtain ⟨its, rv, p, hz⟩ := I1.tuple hq
    refine wpAny_pyIter_tuple (show s1.heap.IsTuple a its.toArray from p) ?_
    refine ⟨s1.heap.objs.size, [s1.heap.objs.size], _, _, H1, rfl, I1.kept (t' := s1.toks) fun b o e => Heap.get?_push_of_some _ e, turn_tuple a _, ⟨_, Heap.get?_push_size _ rfl, rfl, rfl⟩, fun b hb => ?_, q⟩
    have e : b = s1.heap.objs.size := by simpa using hb
    subst e
    exact I1.fpOk (Nat.le_refl _) (I1.hok.fresh (Nat.le_refl _))
/-- for k in range(n) -/
def dForR (ta : DA) (g : DG) (b : DS) : DS := fun M L S => ta L S fun ds S1 => match ds with
  | [.int n] => (-(2 ^ 62) ≤ n ∧ n < 2 ^ 62) ∧ dLoop (fun _ => True) g b M ((List.range n.toNat).map fun i => D.int (i : Nat)) L S1
  | _ => False
theorem dst_forR {tg a : Expr} {body : List Stmt} {ta : DA} {gg : DG} {p pos' : Pos} (hp : PassesOwn (model X.prog X.w) X.A X.env X.xe) (hc : X.calm = true) (hgl : Gl X "range") (hm : X.mg "range" = none) (ha : PA X [a] (upA X.K ta)) (hg : PG X tg (upG X.K gg)) (hb : PSs X body (upS X.K g))
    (hs1 : starEach [a] X.env = [(false, eval a X.env)] := by rfl) (hs : ∀ x, foldedSetIterable (.Call (.Name "range" p) [a] [] pos') X.env x = pure x := by intro _; rfl) : PS X (.For tg (.Call (.Name "range" p) [a] [] pos') body [] pos) (upS X.K (dForR ta gg g)) :=
  PS.imp (ps_for hp hc (pi_range1 hgl hm ha hs1) hg hb hs) fun N σ H ⟨L, S, M, hL, hS, h, r⟩ => upA.go hL hS h fun ds S1 vs H1 h1 k1 hL1 hS1 i1 => by
    split at h1
    · obtain ⟨v, rfl, j⟩ := isDs1 i1
      have e := isInt.mp j
      subst e
      obtain ⟨⟨h2, h3⟩, h1⟩ := h1
      refine ⟨_, rfl, h2, h3, for_core hL1 hS1 h1 (r.kp k1) (fun i d S2 H2 e k2 hS2 _ => ?_) fun S2 H2 k2 hS2 _ => ?_⟩
      · rw [List.getElem?_map] at e
        cases q : (List.range (Int.toNat _))[i]? with
        | none => rw [q] at e; cases e
        | some z =>
          rw [q] at e
          cases e
          have hz := List.getElem?_eq_some_iff.mp q
          obtain ⟨hz1, hz2⟩ := hz
          rw [List.length_range] at hz1
          rw [List.getElem_range] at hz2
          subst hz2
          exact ⟨hz1, fun x H' y => ⟨y.1, by rw [y.2]; exact isInt.mpr (by rw [Int.zero_add])⟩⟩
      · rw [List.length_map, List.length_range]
        exact Nat.le_refl _
    · exact h1.elim
end
/-! ### a def of the text -/
section
variable {P : Program} {w : World} {K : Fg} {mg : Str → Option Value} {base : Heap}
theorem _root_.L2.Fun.okD {x qual : Str} {st : Stmt} {f : Addr} {fd : FuncData} {N ps : List Str} {k : Nat} {F : DSp} (Fn : Fun K x qual st f fd) (Sc : FnScope N ps (defScope st)) (len : ∀ ds S k, F ds S k → ds.length = ps.length)
    (hbody : ∀ (cdv : Value) (A : Around) (outer : List Env) (s : Shared) (H : Hp) (E : XK), Room k (A.deeper (envOfC qual (defScope st) s.heap.objs.size f cdv)) →
      ∃ g, PSs (cxOf CX0 P w K mg base N qual (defScope st) f cdv A outer s H E).nox (defBody st) (upS K g) ∧
        ∀ ds S k, F ds S k → g { nx := fun _ S' => k .non S', rt := k } (ds.map some ++ List.replicate (N.length - ps.length) none) S) : FnOk P w K mg base CX0 (k + 1) f fd ps (spU K F) := by
  refine Fn.ok Sc (fun vs H Q E h => ?_) (fun cdv A outer s H vs Q E hr h => ?_)
  · obtain ⟨ds, S, k, i, _, q, _⟩ := h
    rw [← i.length]
    exact len ds S k q
  · obtain ⟨g, hg, q⟩ := hbody cdv A outer s H E hr
    obtain ⟨ds, S, k', i, hS, h, n⟩ := h
    refine ⟨_, hg, ds.map some ++ List.replicate (N.length - ps.length) none, S, _, ?_, hS, q ds S k' h, ?_⟩
    · unfold L2.start
      rw [← i.length, len ds S k' h]
      exact Lc.start _ i
    · exact ⟨fun L S' σ H' h1 k1 _ hS' => n _ S' _ H' h1 k1 hS' (isNon.mpr rfl), fun d S' v H' h1 k1 hS' i1 => n d S' v H' h1 k1 hS' i1, fun _ _ _ _ h1 => h1.elim, fun _ _ _ _ h1 => h1.elim⟩
theorem Own.mk' {x qual : Str} {st : Stmt} {f : Addr} {fd : FuncData} {ps : List Str} {n : Nat} {F : DSp} (Fn : Fun K x qual st f fd) (h : FnOk P w K mg base CX0 n f fd ps (spU K F)) (hm : mg x = some (.ref f)) (hb : Binds K fd ps []) : Own P w K mg base x n F :=
  ⟨f, fd, ps, h, hm, Fn.kp, hb⟩
end
end DL
namespace DL
open PySem PySem.Spec PyProof.Rows L2 HM
theorem law_up {K : Fg} {H : Hp} {a : Addr} {ns : List Int} {F : DSp} {E : XK} (ho : Only H) (hS : SqL K H a (ns.map V.int)) (h : F [.rl (ns.map D.int)] (fun _ => none) (fun d _ => d = .bl true)) : spU K F [.ref a] H (fun v _ => v = .bl true) E := by
  refine ⟨[.rl (ns.map D.int)], fun _ => none, fun d _ => d = .bl true, IsDs.cons (isRl.mpr ⟨a, ns.map V.int, rfl, ?_, ?_⟩) IsDs.nil, fun a o e => (by cases e), h, fun d' S' v H' e _ _ i => ?_⟩
  · rcases hS with (h1 | h1) | h1
    · rcases ho a with z | ⟨o, xs, z⟩
      · rw [z] at h1; cases h1
      · rw [z] at h1; cases h1
    · exact .inl h1
    · exact .inr h1
  · clear h hS
    induction ns with
    | nil => exact IsDs.nil
    | cons n ns ih => exact IsDs.cons (isInt.mpr rfl) ih
  · subst e
    exact isBl.mp i
/-! ### sizes, for the operations -/
theorem mok {m n : Nat} {x y : Int} (hx : Bt m x) (hy : Bt n y) (h : m + n ≤ 134217728 := by decide) : IntMulOk x y := IntMulOk.of_le (intBits_le_iff.mpr hx) (intBits_le_iff.mpr hy) h
theorem dok {m : Nat} {y : Int} (h0 : y ≠ 0) (hy : Bt m y) (h : m ≤ 9000 := by decide) : CDivB x y := ⟨h0, (Nat.log2_lt (by omega)).mpr (hy.mono h)⟩
/-! ### fractions as data -/
def pr (a b : Int) : D := .tup [.int a, .int b]
def fr (q : Rat) : D := pr q.num (q.den : Int)
end DL
namespace DL
theorem atI0 {x : D} {r : List D} : L2.atI (x :: r) 0 = some x := L2.atI_nat (j := 0) rfl
theorem atI1 {x y : D} {r : List D} : L2.atI (x :: y :: r) 1 = some y := L2.atI_nat (j := 1) rfl
theorem ixN0 {n : Nat} : L2.ixN (n + 1) 0 = some 0 := by
  unfold L2.ixN
  rw [if_pos (by decide), if_pos (by omega)]
  rfl
end DL
/-! ## == of data -/
namespace DL
open PySem PySem.Spec PyProof.Rows L2
def eqS : D → D → Option Bool
  | .int i, .int j => some (i == j)
  | .bl i, .bl j => some (i == j)
  | .str i, .str j => some (i == j)
  | .non, .non => some true
  | .non, .int _ => some false
  | .int _, .non => some false
  | .non, .bl _ => some false
  | .bl _, .non => some false
  | .bl a, .int j => some ((if a then 1 else 0) == j)
  | .int i, .bl b => some (i == (if b then 1 else 0))
  | _, _ => none
def eqTs (f : D → D → Option Bool) : List D → List D → Option Bool
  | [], [] => some true
  | [], _ :: _ => some false
  | _ :: _, [] => some false
  | x :: xs, y :: ys => match f x y, eqTs f xs ys with
    | some a, some b => some (a && b)
    | _, _ => none
def eqT : Nat → D → D → Option Bool
  | 0, d, e => eqS d e
  | n + 1, .tup xs, .tup ys => eqTs (eqT n) xs ys
  | _ + 1, d, e => eqS d e
theorem eqT_succ (n : Nat) (d e : D) : eqT (n + 1) d e = (match d, e with | .tup xs, .tup ys => eqTs (eqT n) xs ys | d, e => eqS d e) := by
  cases d <;> cases e <;> rfl
/-- the answers place by place -/
def eqAts (f : D → D → Option Bool) : List D → List D → Nat → Bool
  | x :: _, y :: _, 0 => (f x y).getD false
  | _ :: xs, _ :: ys, j + 1 => eqAts f xs ys j
  | _, _, _ => false
theorem all_succ (e : Nat → Bool) (m : Nat) : (List.range (m + 1)).all e = (e 0 && (List.range m).all fun j => e (j + 1)) := by
  rw [List.range_succ_eq_map, List.all_cons, List.all_map]
  rfl
theorem eqTs_all {f : D → D → Option Bool} : ∀ {xs ys : List D} {b : Bool}, eqTs f xs ys = some b → ((List.range (min xs.length ys.length)).all (eqAts f xs ys) && xs.length == ys.length) = b
  | [], [], b, h => by unfold eqTs at h; cases h; rfl
  | [], _ :: _, b, h => by unfold eqTs at h; cases h; simp
  | _ :: _, [], b, h => by unfold eqTs at h; cases h; simp
  | x :: xs, y :: ys, b, h => by
    unfold eqTs at h
    split at h
    · rename_i a c e1 e2
      cases h
      have ih := eqTs_all e2
      rw [List.length_cons, List.length_cons, Nat.succ_min_succ, all_succ]
      have e3 : eqAts f (x :: xs) (y :: ys) 0 = a := by unfold eqAts; rw [e1]; rfl
      rw [e3, Bool.and_assoc]
      have e4 : (fun j => eqAts f (x :: xs) (y :: ys) (j + 1)) = eqAts f xs ys := by funext j; rfl
      rw [e4]
      have e5 : (xs.length + 1 == ys.length + 1) = (xs.length == ys.length) := by simp
      rw [e5, ih]
    · cases h
theorem eqTs_at {f : D → D → Option Bool} : ∀ {xs ys : List D} {b : Bool} {j : Nat} {x y : D}, eqTs f xs ys = some b → xs[j]? = some x → ys[j]? = some y → f x y = some (eqAts f xs ys j)
  | [], _, _, _, _, _, _, e, _ => by simp at e
  | _ :: _, [], _, _, _, _, _, _, e => by simp at e
  | x :: xs, y :: ys, b, 0, x', y', h, e1, e2 => by
    simp at e1 e2
    subst e1; subst e2
    unfold eqTs at h
    split at h
    · rename_i a c q1 q2
      unfold eqAts
      rw [q1]
      rfl
    · cases h
  | x :: xs, y :: ys, b, j + 1, x', y', h, e1, e2 => by
    unfold eqTs at h
    split at h
    · rename_i a c q1 q2
      unfold eqAts
      exact eqTs_at q2 (by simpa using e1) (by simpa using e2)
    · cases h
section
variable {X : Cx} {pins : List (Addr × Obj)} {σ : L2.St} {H : Hp} {s : Shared}
theorem pair_at {K : Fg} {ds es : List D} {xs ys : List V} {us ws : List Value} {j : Nat} (i1 : IsDs K H ds xs) (i2 : IsDs K H es ys) (r1 : Vals xs us) (r2 : Vals ys ws) (h1 : j < us.length) (h2 : j < ws.length) :
    ∃ d e x y, ds[j]? = some d ∧ es[j]? = some e ∧ IsD K H d x ∧ IsD K H e y ∧ RelV x us[j] ∧ RelV y ws[j] := by
  have l1 := i1.length
  have l2 := i2.length
  have l3 := r1.length
  have l4 := r2.length
  have e1 : ds[j]? = some ds[j] := by simp [show j < ds.length by omega]
  have e2 : es[j]? = some es[j] := by simp [show j < es.length by omega]
  obtain ⟨x, q1, d1⟩ := i1.get e1
  obtain ⟨y, q2, d2⟩ := i2.get e2
  obtain ⟨u, q3, rx⟩ := r1.get q1
  obtain ⟨w, q4, ry⟩ := r2.get q2
  have f1 : us[j] = u := (List.getElem?_eq_some_iff.mp q3).2
  have f2 : ws[j] = w := (List.getElem?_eq_some_iff.mp q4).2
  exact ⟨_, _, x, y, e1, e2, d1, d2, by rw [f1]; exact rx, by rw [f2]; exact ry⟩
/-- scalars -/
theorem eqS_at {K : Fg} {A : Around} {d e : D} {x y : V} {u w : Value} {b : Bool} (h : eqS d e = some b) (i1 : IsD K H d x) (i2 : IsD K H e y) (rx : RelV x u) (ry : RelV y w) : SeqAt.EqAt A s u w b ∧ SeqAt.RcAt A s u w b := by
  unfold eqS at h
  split at h
  · cases h; rw [isInt.mp i1] at rx; rw [isInt.mp i2] at ry; obtain ⟨t, rfl⟩ := rx; obtain ⟨t', rfl⟩ := ry; exact ⟨(SeqAt.EqAt.int_int _ _ _ _), (SeqAt.RcAt.int_int _ _ _ _)⟩
  · cases h; rw [isBl.mp i1] at rx; rw [isBl.mp i2] at ry; cases rx; cases ry; exact ⟨(SeqAt.EqAt.bool_bool _ _), (SeqAt.RcAt.bool_bool _ _)⟩
  · cases h; rw [isStr.mp i1] at rx; rw [isStr.mp i2] at ry; obtain ⟨t, rfl⟩ := rx; obtain ⟨t', rfl⟩ := ry; exact ⟨(SeqAt.EqAt.str_str _ _ _ _), (SeqAt.RcAt.str_str _ _ _ _)⟩
  · cases h; rw [isNon.mp i1] at rx; rw [isNon.mp i2] at ry; cases rx; cases ry; exact ⟨SeqAt.EqAt.same _, SeqAt.RcAt.none_none⟩
  · cases h; rw [isNon.mp i1] at rx; rw [isInt.mp i2] at ry; cases rx; obtain ⟨t', rfl⟩ := ry; exact ⟨(SeqAt.EqAt.none_int _ _), (SeqAt.RcAt.none_int _ _)⟩
  · cases h; rw [isInt.mp i1] at rx; rw [isNon.mp i2] at ry; obtain ⟨t, rfl⟩ := rx; cases ry; exact ⟨(SeqAt.EqAt.int_none _ _), (SeqAt.RcAt.int_none _ _)⟩
  · cases h; rw [isNon.mp i1] at rx; rw [isBl.mp i2] at ry; cases rx; cases ry; exact ⟨(SeqAt.EqAt.none_bool _), (SeqAt.RcAt.none_bool _)⟩
  · cases h; rw [isBl.mp i1] at rx; rw [isNon.mp i2] at ry; cases rx; cases ry; exact ⟨(SeqAt.EqAt.bool_none _), (SeqAt.RcAt.bool_none _)⟩
  · cases h; rw [isBl.mp i1] at rx; rw [isInt.mp i2] at ry; cases rx; obtain ⟨t', rfl⟩ := ry; exact ⟨(SeqAt.EqAt.bool_int _ _ _), (SeqAt.RcAt.bool_int _ _ _)⟩
  · cases h; rw [isInt.mp i1] at rx; rw [isBl.mp i2] at ry; obtain ⟨t, rfl⟩ := rx; cases ry; exact ⟨(SeqAt.EqAt.int_bool _ _ _), (SeqAt.RcAt.int_bool _ _ _)⟩
  · cases h
theorem eqS_same {K : Fg} {d e : D} {x : V} {b : Bool} (h : eqS d e = some b) (i1 : IsD K H d x) (i2 : IsD K H e x) : b = true := by
  unfold eqS at h
  split at h
  · cases h; have e1 := isInt.mp i1; have e2 := isInt.mp i2; rw [e1] at e2; cases e2; simp
  · cases h; have e1 := isBl.mp i1; have e2 := isBl.mp i2; rw [e1] at e2; cases e2; simp
  · cases h; have e1 := isStr.mp i1; have e2 := isStr.mp i2; rw [e1] at e2; cases e2; simp
  · cases h; rfl
  · have e1 := isNon.mp i1; have e2 := isInt.mp i2; rw [e1] at e2; cases e2
  · have e1 := isInt.mp i1; have e2 := isNon.mp i2; rw [e1] at e2; cases e2
  · have e1 := isNon.mp i1; have e2 := isBl.mp i2; rw [e1] at e2; cases e2
  · have e1 := isBl.mp i1; have e2 := isNon.mp i2; rw [e1] at e2; cases e2
  · have e1 := isBl.mp i1; have e2 := isInt.mp i2; rw [e1] at e2; cases e2
  · have e1 := isInt.mp i1; have e2 := isBl.mp i2; rw [e1] at e2; cases e2
  · cases h
theorem eqTs_same {K : Fg} {f : D → D → Option Bool} (hf : ∀ d e x b, f d e = some b → IsD K H d x → IsD K H e x → b = true) : ∀ {ds es : List D} {xs : List V} {b : Bool}, eqTs f ds es = some b → IsDs K H ds xs → IsDs K H es xs → b = true
  | [], [], _, _, h, _, _ => by unfold eqTs at h; cases h; rfl
  | [], _ :: _, _, _, _, i1, i2 => by
    have e1 := isNil.mp i1
    obtain ⟨v, r, e2, _⟩ := isCons.mp i2
    rw [e1] at e2; cases e2
  | _ :: _, [], _, _, _, i1, i2 => by
    have e1 := isNil.mp i2
    obtain ⟨v, r, e2, _⟩ := isCons.mp i1
    rw [e1] at e2; cases e2
  | d :: ds, e :: es, xs, b, h, i1, i2 => by
    obtain ⟨v, r, e1, h1, h2⟩ := isCons.mp i1
    obtain ⟨v', r', e2, h3, h4⟩ := isCons.mp i2
    rw [e1] at e2
    cases e2
    unfold eqTs at h
    split at h
    · rename_i a c q1 q2
      cases h
      rw [hf _ _ _ _ q1 h1 h3, eqTs_same hf q2 h2 h4]
      rfl
    · cases h
theorem eqT_same (I : Inv X pins σ H s) : ∀ (n : Nat) (d e : D) (x : V) (b : Bool), eqT n d e = some b → IsD X.K H d x → IsD X.K H e x → b = true
  | 0, d, e, x, b, h, i1, i2 => eqS_same (by unfold eqT at h; exact h) i1 i2
  | n + 1, d, e, x, b, h, i1, i2 => by
    rw [eqT_succ] at h
    split at h
    · rename_i xs ys
      obtain ⟨a, vs, e1, t1, j1⟩ := isTup.mp i1
      obtain ⟨a', vs', e2, t2, j2⟩ := isTup.mp i2
      rw [e1] at e2
      cases e2
      have q := I.tuple_inj t1 t2
      subst q
      exact eqTs_same (fun d e x b => eqT_same I n d e x b) h j1 j2
    · exact eqS_same h i1 i2
theorem eqT_at (I : Inv X pins σ H s) : ∀ (n : Nat) (A : Around) (d e : D) (x y : V) (u w : Value) (b : Bool), A.units + n < cLine → eqT n d e = some b → IsD X.K H d x → IsD X.K H e y → RelV x u → RelV y w → SeqAt.EqAt A s u w b ∧ SeqAt.RcAt A s u w b
  | 0, A, d, e, x, y, u, w, b, hu, h, i1, i2, rx, ry => eqS_at (by unfold eqT at h; exact h) i1 i2 rx ry
  | n + 1, A, d, e, x, y, u, w, b, hu, h, i1, i2, rx, ry => by
    have h0 := h
    rw [eqT_succ] at h
    split at h
    · rename_i xs ys
      obtain ⟨p, vs, rfl, t1, j1⟩ := isTup.mp i1
      obtain ⟨q, vs', rfl, t2, j2⟩ := isTup.mp i2
      cases rx
      cases ry
      obtain ⟨us, r1, p1, _⟩ := I.tuple t1
      obtain ⟨ws, r2, p2, _⟩ := I.tuple t2
      have l1 := j1.length
      have l2 := j2.length
      have l3 := r1.length
      have l4 := r2.length
      have rc : SeqAt.RcAt A s (.ref p) (.ref q) b := by
        have e := eqTs_all h
        have z := SeqAt.RcAt.tuples (A := A) (s := s) (items := us.toArray) (items2 := ws.toArray) (e := eqAts (eqT n) xs ys) (show s.heap.IsTuple p us.toArray from p1) (show s.heap.IsTuple q ws.toArray from p2) (by omega) (fun j h1 h2 => by
          simp only [List.size_toArray] at h1 h2
          obtain ⟨d, e, x, y, q1, q2, d1, d2, rx, ry⟩ := pair_at j1 j2 r1 r2 h1 h2
          have := (eqT_at I n A.in1 d e x y us[j] ws[j] _ (by show A.units + 1 + n < cLine; omega) (eqTs_at h q1 q2) d1 d2 rx ry).1
          simpa using this)
        simp only [List.size_toArray] at z
        rw [← l3, ← l4, ← l1, ← l2, e] at z
        exact z
      refine ⟨?_, rc⟩
      by_cases hpq : p = q
      · subst hpq
        have := eqT_same I (n + 1) _ _ _ _ h0 i1 i2
        subst this
        exact SeqAt.EqAt.same _
      · exact SeqAt.EqAt.of_refs hpq rc
    · exact eqS_at h i1 i2 rx ry
theorem eqS_ne {K : Fg} {A : Around} {d e : D} {x y : V} {u w : Value} {b : Bool} (h : eqS d e = some b) (i1 : IsD K H d x) (i2 : IsD K H e y) (rx : RelV x u) (ry : RelV y w) : SeqAt.RcNeAt A s u w (!b) := by
  unfold eqS at h
  split at h
  · cases h; rw [isInt.mp i1] at rx; rw [isInt.mp i2] at ry; obtain ⟨t, rfl⟩ := rx; obtain ⟨t', rfl⟩ := ry; exact (SeqAt.RcNeAt.int_int _ _ _ _)
  · cases h; rw [isBl.mp i1] at rx; rw [isBl.mp i2] at ry; cases rx; cases ry; exact (SeqAt.RcNeAt.bool_bool _ _)
  · cases h; rw [isStr.mp i1] at rx; rw [isStr.mp i2] at ry; obtain ⟨t, rfl⟩ := rx; obtain ⟨t', rfl⟩ := ry; exact (SeqAt.RcNeAt.str_str _ _ _ _)
  · cases h; rw [isNon.mp i1] at rx; rw [isNon.mp i2] at ry; cases rx; cases ry; exact SeqAt.RcNeAt.none_none
  · cases h; rw [isNon.mp i1] at rx; rw [isInt.mp i2] at ry; cases rx; obtain ⟨t', rfl⟩ := ry; exact (SeqAt.RcNeAt.none_int _ _)
  · cases h; rw [isInt.mp i1] at rx; rw [isNon.mp i2] at ry; obtain ⟨t, rfl⟩ := rx; cases ry; exact (SeqAt.RcNeAt.int_none _ _)
  · cases h; rw [isNon.mp i1] at rx; rw [isBl.mp i2] at ry; cases rx; cases ry; exact (SeqAt.RcNeAt.none_bool _)
  · cases h; rw [isBl.mp i1] at rx; rw [isNon.mp i2] at ry; cases rx; cases ry; exact (SeqAt.RcNeAt.bool_none _)
  · cases h; rw [isBl.mp i1] at rx; rw [isInt.mp i2] at ry; cases rx; obtain ⟨t', rfl⟩ := ry; exact (SeqAt.RcNeAt.bool_int _ _ _)
  · cases h; rw [isInt.mp i1] at rx; rw [isBl.mp i2] at ry; obtain ⟨t, rfl⟩ := rx; cases ry; exact (SeqAt.RcNeAt.int_bool _ _ _)
  · cases h
theorem eqT_ne (I : Inv X pins σ H s) (n : Nat) (A : Around) (d e : D) (x y : V) (u w : Value) (b : Bool) (hu : A.units + n < cLine) (h : eqT n d e = some b) (i1 : IsD X.K H d x) (i2 : IsD X.K H e y) (rx : RelV x u) (ry : RelV y w) : SeqAt.RcNeAt A s u w (!b) := by
  cases n with
  | zero => exact eqS_ne (by unfold eqT at h; exact h) i1 i2 rx ry
  | succ n =>
    rw [eqT_succ] at h
    split at h
    · rename_i xs ys
      obtain ⟨p, vs, rfl, t1, j1⟩ := isTup.mp i1
      obtain ⟨q, vs', rfl, t2, j2⟩ := isTup.mp i2
      cases rx
      cases ry
      obtain ⟨us, r1, p1, _⟩ := I.tuple t1
      obtain ⟨ws, r2, p2, _⟩ := I.tuple t2
      have l1 := j1.length
      have l2 := j2.length
      have l3 := r1.length
      have l4 := r2.length
      have e := eqTs_all h
      have z := SeqAt.RcNeAt.tuples (A := A) (s := s) (items := us.toArray) (items2 := ws.toArray) (e := eqAts (eqT n) xs ys) (show s.heap.IsTuple p us.toArray from p1) (show s.heap.IsTuple q ws.toArray from p2) (by omega) (fun j h1 h2 => by
        simp only [List.size_toArray] at h1 h2
        obtain ⟨d, e, x, y, q1, q2, d1, d2, rx, ry⟩ := pair_at j1 j2 r1 r2 h1 h2
        have := (eqT_at I n A.in1 d e x y us[j] ws[j] _ (by show A.units + 1 + n < cLine; omega) (eqTs_at h q1 q2) d1 d2 rx ry).1
        simpa using this)
      simp only [List.size_toArray] at z
      rw [← l3, ← l4, ← l1, ← l2, e] at z
      exact z
    · exact eqS_ne h i1 i2 rx ry
/-- ==, != of data to the depth of eight -/
def dEqT : D2 := fun d e S k => match eqT 8 d e with
  | some b => k (.bl b) S
  | none => False
def dNeT : D2 := fun d e S k => match eqT 8 d e with
  | some b => k (.bl (!b)) S
  | none => False
end
end DL
namespace DL
open PySem PySem.Spec PyProof.Rows L2
structure EJ (X : Cx) (e : Expr) (g : DE) : Prop where
  h : PE X e (up X.K g)
structure TJ (X : Cx) (e : Expr) (g : DT) : Prop where
  h : PT X e (upT X.K g)
structure WJ (X : Cx) (e : Expr) (g : DT) : Prop where
  h : PW X e (upT X.K g)
structure AJ (X : Cx) (e : List Expr) (g : DA) : Prop where
  h : PA X e (upA X.K g)
structure SJ (X : Cx) (e : Stmt) (g : DS) : Prop where
  h : PS X e (upS X.K g)
structure SsJ (X : Cx) (e : List Stmt) (g : DS) : Prop where
  h : PSs X e (upS X.K g)
structure GJ (X : Cx) (e : Expr) (g : DG) : Prop where
  h : PG X e (upG X.K g)
structure GsJ (X : Cx) (e : List Expr) (g : DGs) : Prop where
  h : PGs X e (upGs X.K g)
structure OJ (X : Cx) (e : Option Expr) (g : DOp) : Prop where
  h : PO X e (upO X.K g)
theorem WJ.pt {X : Cx} {e : Expr} {g : DT} (h : WJ X e g) : TJ X e g := ⟨PW.pt h.h⟩
section
variable {X : Cx} {a b c : Expr} {ga gb gc : DE} {pos : Pos}
theorem d_varj (i : Nat) {x : Str} (hN : X.N[i]? = some x := by rfl) (hv : Vis X.env.scope x := by first | exact Or.inl rfl | exact Or.inr (Or.inl rfl) | exact Or.inr (Or.inr rfl)) (hd : (x == ("__debug__" : Str)) = false := by decide) (hcd : (x == ("__classdict__" : Str)) = false := by decide) : EJ X (.Name x pos) (dVar i) := ⟨d_var (i := i) (hN := hN) (hv := hv) (hd := hd) (hcd := hcd)⟩
end
section
variable {X : Cx} {a b c : Expr} {ga gb gc : DE} {pos : Pos}
theorem d_intj {i j pos} : EJ X (.Constant (.int i) j pos) (dC (.int i)) := ⟨d_int ⟩
end
section
variable {X : Cx} {a b c : Expr} {ga gb gc : DE} {pos : Pos}
theorem d_blj {i j pos} : EJ X (.Constant (.bool i) j pos) (dC (.bl i)) := ⟨d_bl ⟩
end
section
variable {X : Cx} {a b c : Expr} {ga gb gc : DE} {pos : Pos}
theorem d_nonj {j pos} : EJ X (.Constant .none j pos) (dC .non) := ⟨d_non ⟩
end
section
variable {X : Cx} {a b c : Expr} {ga gb gc : DE} {pos : Pos}
end
section
variable {X : Cx} {a b c : Expr} {ga gb gc : DE} {pos : Pos}
theorem d_tyj {x : Str} {n : Ty} (hg : Gl X x) (hm : X.mg x = none) (hv : bootBuiltins x = some (.type n.name)) (hn : x ≠ "__name__" := by decide) (hd : (x == ("__debug__" : Str)) = false := by decide) : EJ X (.Name x pos) (dC (.ty n)) := ⟨d_ty (hg := hg) (hm := hm) (hv := hv) (hn := hn) (hd := hd)⟩
end
section
variable {X : Cx} {a b c : Expr} {ga gb gc : DE} {pos : Pos}
end
section
variable {X : Cx} {a b c : Expr} {ga gb gc : DE} {pos : Pos}
theorem da_nilj  : AJ X [] dNil := ⟨da_nil ⟩
end
section
variable {X : Cx} {a b c : Expr} {ga gb gc : DE} {pos : Pos}
theorem da_consj {es : List Expr} {t : DA} (ha : EJ X a ga) (hr : AJ X es t) (hs : starEach (a :: es) X.env = (false, eval a X.env) :: starEach es X.env := by exact star_cons rfl) : AJ X (a :: es) (dCons ga t) := ⟨da_cons (ha := ha.h) (hr := hr.h) (hs := hs)⟩
end
section
variable {X : Cx} {a b c : Expr} {ga gb gc : DE} {pos : Pos}
theorem d_tupj {es : List Expr} {x1} {t : DA} (h : AJ X es t) : EJ X (.Tuple es x1 pos) (dTup t) := ⟨d_tup (h := h.h)⟩
end
section
variable {X : Cx} {a b c : Expr} {ga gb gc : DE} {pos : Pos}
theorem d_lstj {es : List Expr} {t : DA} (h : AJ X es t) : EJ X (.List es pos) (dLst t) := ⟨d_lst (h := h.h)⟩
end
section
variable {X : Cx} {a b c : Expr} {ga gb gc : DE} {pos : Pos}
theorem d_opj {op : Operator} {r : D2} (ho : OpR X (binaryOp op) (upR X.K r)) (ha : EJ X a ga) (hb : EJ X b gb) : EJ X (.BinOp a op b pos) (dOp r ga gb) := ⟨d_op (ho := ho) (ha := ha.h) (hb := hb.h)⟩
end
section
variable {X : Cx} {a b c : Expr} {ga gb gc : DE} {pos : Pos}
theorem d_cmpj {op : CmpOp} {r : D2} (ho : OpR X (compareOp op) (upR X.K r)) (ha : EJ X a ga) (hb : EJ X b gb) (hm : behindInMarks op b = false) : EJ X (.Compare a [op] [b] pos) (dOp r ga gb) := ⟨d_cmp (ho := ho) (ha := ha.h) (hb := hb.h) (hm := hm)⟩
end
section
variable {X : Cx} {a b c : Expr} {ga gb gc : DE} {pos : Pos}
theorem d_ixj {r : D2} (hr : IxR X (upR X.K r)) (ha : EJ X a ga) (hb : EJ X b gb) (hs : PlainIx b) : EJ X (.Subscript a b pos) (dOp r ga gb) := ⟨d_ix (hr := hr) (ha := ha.h) (hb := hb.h) (hs := hs)⟩
end
section
variable {X : Cx} {a b c : Expr} {ga gb gc : DE} {pos : Pos}
theorem d_unj {op : UnaryOp} {r : D1} (ho : UnR X (unaryOp op) (upU X.K r)) (ha : EJ X a ga) : EJ X (.UnaryOp op a pos) (dUn r ga) := ⟨d_un (ho := ho) (ha := ha.h)⟩
end
section
variable {X : Cx} {a b c : Expr} {ga gb gc : DE} {pos : Pos}
theorem dt_cmpj {op : CmpOp} {r : D2} (ho : OpR X (compareOp op) (upR X.K r)) (ha : EJ X a ga) (hb : EJ X b gb) (hm : behindInMarks op b = false) : TJ X (.Compare a [op] [b] pos) (dTest (dOp r ga gb)) := ⟨dt_cmp (ho := ho) (ha := ha.h) (hb := hb.h) (hm := hm)⟩
end
section
variable {X : Cx} {a b c : Expr} {ga gb gc : DE} {pos : Pos}
theorem dt_valj {e : Expr} {g : DE} (h : EJ X e g) (he : ∀ whole, isTrue e X.env whole = (do let v ← whole; standAt e.pos; holding [v] (truthy v)) := by intro _; rfl) : TJ X e (dTest g) := ⟨dt_val (h := h.h) (he := he)⟩
end
section
variable {X : Cx} {a b c : Expr} {ga gb gc : DE} {pos : Pos}
variable {tA tB' : DT} {rest : List Expr}
end
section
variable {X : Cx} {a b c : Expr} {ga gb gc : DE} {pos : Pos}
variable {tA tB' : DT} {rest : List Expr}
theorem dw_or1j (ha : TJ X a tA) : WJ X (.BoolOp .Or [a] pos) tA := ⟨dw_or1 (ha := ha.h)⟩
end
section
variable {X : Cx} {a b c : Expr} {ga gb gc : DE} {pos : Pos}
variable {tA tB' : DT} {rest : List Expr}
end
section
variable {X : Cx} {a b c : Expr} {ga gb gc : DE} {pos : Pos}
variable {tA tB' : DT} {rest : List Expr}
theorem dw_orj (ha : TJ X a tA) (hb : WJ X (.BoolOp .Or (b :: rest) pos) tB') : WJ X (.BoolOp .Or (a :: b :: rest) pos) (dOrT tA tB') := ⟨dw_or (ha := ha.h) (hb := hb.h)⟩
end
section
variable {X : Cx} {a b c : Expr} {ga gb gc : DE} {pos : Pos}
variable {tA tB' : DT} {rest : List Expr}
theorem dt_notj (ha : TJ X a tA) : TJ X (.UnaryOp .Not a pos) (dNotT tA) := ⟨dt_not (ha := ha.h)⟩
end
section
variable {X : Cx} {a b c : Expr} {ga gb gc : DE} {pos : Pos}
variable {tA tB' : DT} {rest : List Expr}
theorem d_onej {op} (h : EJ X a ga) : EJ X (.BoolOp op [a] pos) ga := ⟨d_one (h := h.h)⟩
end
section
variable {X : Cx} {a b c : Expr} {ga gb gc : DE} {pos : Pos}
variable {tA tB' : DT} {rest : List Expr}
theorem d_andj (ha : EJ X a ga) (hb : EJ X (.BoolOp .And (b :: rest) pos) gb) : EJ X (.BoolOp .And (a :: b :: rest) pos) (dAndV ga gb) := ⟨d_and (ha := ha.h) (hb := hb.h)⟩
end
section
variable {X : Cx} {a b c : Expr} {ga gb gc : DE} {pos : Pos}
variable {tA tB' : DT} {rest : List Expr}
end
section
variable {X : Cx} {a b c : Expr} {ga gb gc : DE} {pos : Pos}
variable {tA tB' : DT} {rest : List Expr}
theorem d_notj (ha : EJ X a ga) : EJ X (.UnaryOp .Not a pos) (dNotV ga) := ⟨d_not (ha := ha.h)⟩
end
section
variable {X : Cx} {a b c : Expr} {ga gb gc : DE} {pos : Pos}
variable {tA tB' : DT} {rest : List Expr}
end
section
variable {X : Cx} {x : Str} {p pos : Pos} {e : Expr} {es : List Expr} {t : DA} {id T : String} {r : DSp}
theorem d_callBj (hc : CallR X (.builtin id) (upC X.K r)) (hg : Gl X x) (hm : X.mg x = none) (hv : bootBuiltins x = some (.builtin id)) (ha : AJ X (e :: es) t) (hn : x ≠ "__name__" := by decide) (hdb : (x == ("__debug__" : Str)) = false := by decide) (he : starEach (e :: es) X.env = (false, eval e X.env) :: starEach es X.env := by exact star_cons rfl) (hpl : (backTo pos (starEach es X.env)).any (·.1) = false := by exact star_any rfl) : EJ X (.Call (.Name x p) (e :: es) [] pos) (dCall r t) := ⟨d_callB (hc := hc) (hg := hg) (hm := hm) (hv := hv) (ha := ha.h) (hn := hn) (hdb := hdb) (he := he) (hpl := hpl)⟩
end
section
variable {X : Cx} {x : Str} {p pos : Pos} {e : Expr} {es : List Expr} {t : DA} {id T : String} {r : DSp}
theorem d_callTj (hc : CallR X (.type T) (upC X.K r)) (hg : Gl X x) (hm : X.mg x = none) (hv : bootBuiltins x = some (.type T)) (ha : AJ X (e :: es) t) (hn : x ≠ "__name__" := by decide) (hdb : (x == ("__debug__" : Str)) = false := by decide) (he : starEach (e :: es) X.env = (false, eval e X.env) :: starEach es X.env := by exact star_cons rfl) (hpl : (backTo pos (starEach es X.env)).any (·.1) = false := by exact star_any rfl) : EJ X (.Call (.Name x p) (e :: es) [] pos) (dCall r t) := ⟨d_callT (hc := hc) (hg := hg) (hm := hm) (hv := hv) (ha := ha.h) (hn := hn) (hdb := hdb) (he := he) (hpl := hpl)⟩
end
section
variable {X : Cx} {x : Str} {p pos : Pos} {e : Expr} {es : List Expr} {t : DA} {id T : String} {r : DSp}
theorem d_callj {n : Nat} {F : DSp} (c : Own X.prog X.w X.K X.mg X.base x n F) (hr : Room n X.A) (hg : Gl X x) (ha : AJ X (e :: es) t) (hdb : (x == ("__debug__" : Str)) = false := by decide) (he : starEach (e :: es) X.env = (false, eval e X.env) :: starEach es X.env := by exact star_cons rfl) (hpl : (backTo pos (starEach es X.env)).any (·.1) = false := by exact star_any rfl) : EJ X (.Call (.Name x p) (e :: es) [] pos) (dCall F t) := ⟨d_call (c := c) (hr := hr) (hg := hg) (ha := ha.h) (hdb := hdb) (he := he) (hpl := hpl)⟩
end
section
variable {X : Cx} {x : Str} {p pos : Pos} {e : Expr} {es : List Expr} {t : DA} {id T : String} {r : DSp}
end
section
variable {X : Cx} {x : Str} {p pos : Pos} {e : Expr} {es : List Expr} {t : DA} {id T : String} {r : DSp}
theorem do_nonej  : OJ X none oNone := ⟨do_none ⟩
end
section
variable {X : Cx} {x : Str} {p pos : Pos} {e : Expr} {es : List Expr} {t : DA} {id T : String} {r : DSp}
theorem do_somej {e : Expr} {g : DE} (he : EJ X e g) : OJ X (some e) (oSome g) := ⟨do_some (he := he.h)⟩
end
section
variable {X : Cx} {x : Str} {p pos : Pos} {e : Expr} {es : List Expr} {t : DA} {id T : String} {r : DSp}
end
section
variable {X : Cx} {x : Str} {p pos : Pos} {e : Expr} {es : List Expr} {t : DA} {id T : String} {r : DSp}
end
section
variable {X : Cx} {x : Str} {p pos : Pos} {e : Expr} {es : List Expr} {t : DA} {id T : String} {r : DSp}
end
section
variable {X : Cx} {st : Stmt} {rest : List Stmt} {g h : DS} {e : Expr} {ge : DE} {pos : Pos}
theorem ds_nilj  : SsJ X [] dNext := ⟨ds_nil ⟩
end
section
variable {X : Cx} {st : Stmt} {rest : List Stmt} {g h : DS} {e : Expr} {ge : DE} {pos : Pos}
theorem ds_consj (h1 : SJ X st g) (h2 : SsJ X rest h) : SsJ X (st :: rest) (dSeq g h) := ⟨ds_cons (h1 := h1.h) (h2 := h2.h)⟩
end
section
variable {X : Cx} {st : Stmt} {rest : List Stmt} {g h : DS} {e : Expr} {ge : DE} {pos : Pos}
theorem ds_onej (h1 : SJ X st g) : SsJ X [st] g := ⟨ds_one (h1 := h1.h)⟩
end
section
variable {X : Cx} {st : Stmt} {rest : List Stmt} {g h : DS} {e : Expr} {ge : DE} {pos : Pos}
end
section
variable {X : Cx} {st : Stmt} {rest : List Stmt} {g h : DS} {e : Expr} {ge : DE} {pos : Pos}
end
section
variable {X : Cx} {st : Stmt} {rest : List Stmt} {g h : DS} {e : Expr} {ge : DE} {pos : Pos}
end
section
variable {X : Cx} {st : Stmt} {rest : List Stmt} {g h : DS} {e : Expr} {ge : DE} {pos : Pos}
theorem dst_exprj (he : EJ X e ge) (hs : swapsWith e none pos.line X.env = pure false := by rfl) : SJ X (.Expr e pos) (dDrop ge) := ⟨dst_expr (he := he.h) (hs := hs)⟩
end
section
variable {X : Cx} {st : Stmt} {rest : List Stmt} {g h : DS} {e : Expr} {ge : DE} {pos : Pos}
theorem dst_retj (he : EJ X e ge) : SJ X (.Return (some e) pos) (dRet ge) := ⟨dst_ret (he := he.h)⟩
end
section
variable {X : Cx} {st : Stmt} {rest : List Stmt} {g h : DS} {e : Expr} {ge : DE} {pos : Pos}
end
section
variable {X : Cx} {st : Stmt} {rest : List Stmt} {g h : DS} {e : Expr} {ge : DE} {pos : Pos}
theorem dst_ifj {c : Expr} {a b : List Stmt} {gc : DT} (hc : TJ X c gc) (ha : SsJ X a g) (hb : SsJ X b h) : SJ X (.If c a b pos) (dIfS gc g h) := ⟨dst_if (hc := hc.h) (ha := ha.h) (hb := hb.h)⟩
end
section
variable {X : Cx} {st : Stmt} {rest : List Stmt} {g h : DS} {e : Expr} {ge : DE} {pos : Pos}
end
section
variable {X : Cx} {st : Stmt} {rest : List Stmt} {g h : DS} {e : Expr} {ge : DE} {pos : Pos}
end
section
variable {X : Cx} {st : Stmt} {rest : List Stmt} {g h : DS} {e : Expr} {ge : DE} {pos : Pos}
theorem dst_setj {i : Nat} {x : Str} {pos' : Pos} (hN : X.N.Nodup) (he : EJ X e ge) (hi : X.N[i]? = some x := by rfl) (hx : Loc X.env.scope x := by first | exact Or.inl rfl | exact Or.inr rfl) (hs : swapsWith e (some (.Name x pos')) pos.line X.env = pure false := by rfl) (hf : X.fn x = true ∨ X.env.scope.names.lookup x = some .local := by first | exact .inl rfl | exact .inr rfl | assumption) : SJ X (.Assign [.Name x pos'] e pos) (dSet i ge) := ⟨dst_set (hN := hN) (he := he.h) (hi := hi) (hx := hx) (hs := hs) (hf := hf)⟩
end
section
variable {X : Cx} {st : Stmt} {rest : List Stmt} {g h : DS} {e : Expr} {ge : DE} {pos : Pos}
theorem dst_parj {i j : Nat} {x y : Str} {a b : Expr} {ta : DA} {px py pt : Pos} {kt k2 pt2} (hc : X.calm = true) (hN : X.N.Nodup) (hij : i ≠ j) (ha : AJ X [a, b] ta) (hi : X.N[i]? = some x := by rfl) (hj : X.N[j]? = some y := by rfl) (hx : X.env.scope.names.lookup x = some .local := by rfl) (hy : X.env.scope.names.lookup y = some .local := by rfl) (hw : swappedStores [.Tuple [.Name x px, .Name y py] kt pt] (.Tuple [a, b] k2 pt2) X.env = pure (some [x, y]) := by rfl) (hs : swapsWithSole [.Tuple [.Name x px, .Name y py] kt pt] (.Tuple [a, b] k2 pt2) pos.line X.env = pure false := by rfl) : SJ X (.Assign [.Tuple [.Name x px, .Name y py] kt pt] (.Tuple [a, b] k2 pt2) pos) (dPar i j ta) := ⟨dst_par (hc := hc) (hN := hN) (hij := hij) (ha := ha.h) (hi := hi) (hj := hj) (hx := hx) (hy := hy) (hw := hw) (hs := hs)⟩
end
section
variable {X : Cx} {st : Stmt} {rest : List Stmt} {g h : DS} {e : Expr} {ge : DE} {pos : Pos}
theorem dg_namej {i : Nat} {x : Str} (hN : X.N.Nodup) (hi : X.N[i]? = some x := by rfl) (hx : Loc X.env.scope x := by first | exact Or.inl rfl | exact Or.inr rfl) (hf : X.fn x = true ∨ X.env.scope.names.lookup x = some .local := by first | exact .inl rfl | exact .inr rfl | assumption) : GJ X (.Name x pos) (dgName i) := ⟨dg_name (hN := hN) (hi := hi) (hx := hx) (hf := hf)⟩
end
section
variable {X : Cx} {st : Stmt} {rest : List Stmt} {g h : DS} {e : Expr} {ge : DE} {pos : Pos}
theorem dgs_nilj  : GsJ X [] dgNil := ⟨dgs_nil ⟩
end
section
variable {X : Cx} {st : Stmt} {rest : List Stmt} {g h : DS} {e : Expr} {ge : DE} {pos : Pos}
theorem dgs_consj {es : List Expr} {t : DG} {u : DGs} (h1 : GJ X e t) (h2 : GsJ X es u) (hs : (assignEach (e :: es) X.env).map (·.2) = assign e X.env :: (assignEach es X.env).map (·.2) := by rfl) : GsJ X (e :: es) (dgCons t u) := ⟨dgs_cons (h1 := h1.h) (h2 := h2.h) (hs := hs)⟩
end
section
variable {X : Cx} {st : Stmt} {rest : List Stmt} {g h : DS} {e : Expr} {ge : DE} {pos : Pos}
end
section
variable {X : Cx} {st : Stmt} {rest : List Stmt} {g h : DS} {e : Expr} {ge : DE} {pos : Pos}
end
section
variable {X : Cx} {st : Stmt} {rest : List Stmt} {g h : DS} {e : Expr} {ge : DE} {pos : Pos}
theorem dst_asgj {tg e : Expr} {g : DG} (he : EJ X e ge) (hg : GJ X tg g) (hs : swapsWithSole [tg] e pos.line X.env = pure false := by rfl) (hw : swappedStores [tg] e X.env = pure none := by rfl) (h1 : (assignEach [tg] X.env).map (·.2) = [assign tg X.env] := by rfl) : SJ X (.Assign [tg] e pos) (dAsg ge g) := ⟨dst_asg (he := he.h) (hg := hg.h) (hs := hs) (hw := hw) (h1 := h1)⟩
end
section
variable {X : Cx} {st : Stmt} {rest : List Stmt} {g h : DS} {e : Expr} {ge : DE} {pos : Pos}
theorem dst_whilej {c : Expr} {body : List Stmt} {gc : DT} (hp : PassesOwn (model X.prog X.w) X.A X.env X.xe) (hc : TJ X c gc) (hb : SsJ X body g) : SJ X (.While c body [] pos) (dWhile gc g) := ⟨dst_while (hp := hp) (hc := hc.h) (hb := hb.h)⟩
end
section
variable {X : Cx} {st : Stmt} {rest : List Stmt} {g h : DS} {e : Expr} {ge : DE} {pos : Pos}
end
section
variable {X : Cx} {st : Stmt} {rest : List Stmt} {g h : DS} {e : Expr} {ge : DE} {pos : Pos}
theorem dst_forRj {tg a : Expr} {body : List Stmt} {ta : DA} {gg : DG} {p pos' : Pos} (hp : PassesOwn (model X.prog X.w) X.A X.env X.xe) (hc : X.calm = true) (hgl : Gl X "range") (hm : X.mg "range" = none) (ha : AJ X [a] ta) (hg : GJ X tg gg) (hb : SsJ X body g) (hs1 : starEach [a] X.env = [(false, eval a X.env)] := by rfl) (hs : ∀ x, foldedSetIterable (.Call (.Name "range" p) [a] [] pos') X.env x = pure x := by intro _; rfl) : SJ X (.For tg (.Call (.Name "range" p) [a] [] pos') body [] pos) (dForR ta gg g) := ⟨dst_forR (hp := hp) (hc := hc) (hgl := hgl) (hm := hm) (ha := ha.h) (hg := hg.h) (hb := hb.h) (hs1 := hs1) (hs := hs)⟩
end
section
variable {P : Program} {w : World} {K : Fg} {mg : Str → Option Value} {base : Heap}
theorem _root_.L2.Fun.okJ {x qual : Str} {st : Stmt} {f : Addr} {fd : FuncData} {N ps : List Str} {k : Nat} {F : DSp} (Fn : Fun K x qual st f fd) (Sc : FnScope N ps (defScope st)) (len : ∀ ds S k, F ds S k → ds.length = ps.length)
    (hbody : ∀ (cdv : Value) (A : Around) (outer : List Env) (s : Shared) (H : Hp) (E : XK), Room k (A.deeper (envOfC qual (defScope st) s.heap.objs.size f cdv)) →
      ∃ g, SsJ (cxOf CX0 P w K mg base N qual (defScope st) f cdv A outer s H E).nox (defBody st) g ∧
        ∀ ds S k, F ds S k → g { nx := fun _ S' => k .non S', rt := k } (ds.map some ++ List.replicate (N.length - ps.length) none) S) : FnOk P w K mg base CX0 (k + 1) f fd ps (spU K F) :=
  Fn.okD Sc len fun cdv A outer s H E hr => let ⟨g, h, q⟩ := hbody cdv A outer s H E hr; ⟨g, h.h, q⟩
end
end DL
namespace L2
open PySem PySem.Spec PyProof.Rows
section
variable {X : Cx} {pos : Pos}
/-- a, b = [..] -/
def gLst (K : PySem.W.Frag) (n : Nat) (t : TGs) : TG := fun v σ H Q => ∃ a xs, v = .ref a ∧ SqL K H a xs ∧ xs.length = n ∧ t xs σ H Q
theorem pg_lst {es : List Expr} {k : Nat} {t : TGs} {n : Nat} (hc : X.calm = true) (h : PGs X es t)
    (hn : (assignEach es X.env).length = n := by rfl) (hst : (assignEach es X.env).findIdx? (·.1) = none := by rfl) : PG X (.Tuple es k pos) (gLst X.K n t) := by
  intro pins s σ H v u Q I r hw
  obtain ⟨a, xs, e1, hq, hl, hw⟩ := hw
  subst e1
  cases r
  obtain ⟨its, rv, ht, hz⟩ := I.list hq
  have e2 : (assignEach es X.env).length = its.toArray.size := by simp [hn, ← hl, rv.length]
  rw [arm_assign_Tuple]
  refine wpAny_bind (wpAny_standAt ?_)
  unfold unpack
  rw [e2, hst]
  refine wpAny_bind (wpAny_holding (PySem.W.kun_itemsOf (I.ok.hd hc) ht.isList fun h' hx => ?_))
  have I1 : Inv X pins σ H { s with heap := h' } := I.kept (t' := s.toks) fun b o e => hx b o (Nat.ne_of_lt (Heap.lt_size e)) e
  exact h pins _ σ H xs _ Q I1 (by simpa using rv) hw
theorem PG.or {e : Expr} {t t' : TG} (h : PG X e t) (h' : PG X e t') : PG X e (fun v σ H Q => t v σ H Q ∨ t' v σ H Q) := by
  intro pins s σ H v u Q I r q
  rcases q with q | q
  · exact h pins s σ H v u Q I r q
  · exact h' pins s σ H v u Q I r q
end
end L2
namespace L2
open PySem PySem.Spec PyProof.Rows
def CapOk (X : Cx) (scope : Scope) : List (Option Nat) → List Str → Prop
  | some j :: r, x :: xs => (X.N[j]? = some x ∧ (X.env.scope.names.lookup x = some .cell ∨ X.env.scope.names.lookup x = some .free) ∧ ((relabel scope X.env).names.lookup x = some .cell ∨ (relabel scope X.env).names.lookup x = some .free)) ∧ CapOk X scope r xs
  | none :: r, _ :: xs => CapOk X scope r xs
  | _, _ => True
theorem CapOk.get {X : Cx} {scope : Scope} : ∀ {cap : List (Option Nat)} {N : List Str}, CapOk X scope cap N → ∀ (i j : Nat) (x : Str), cap[i]? = some (some j) → N[i]? = some x →
    X.N[j]? = some x ∧ (X.env.scope.names.lookup x = some .cell ∨ X.env.scope.names.lookup x = some .free) ∧ ((relabel scope X.env).names.lookup x = some .cell ∨ (relabel scope X.env).names.lookup x = some .free)
  | [], _, _, _, _, _, h, _ => by simp at h
  | _ :: _, [], _, _, _, _, _, h => by simp at h
  | some _ :: _, _ :: _, h, 0, j, x, h1, h2 => by
    simp at h1 h2
    subst h1 h2
    exact h.1
  | none :: _, _ :: _, _, 0, j, x, h1, _ => by simp at h1
  | some _ :: _, _ :: _, h, i + 1, j, x, h1, h2 => CapOk.get h.2 i j x (by simpa using h1) (by simpa using h2)
  | none :: r, _ :: xs, h, i + 1, j, x, h1, h2 => CapOk.get (show CapOk X scope r xs from h) i j x (by simpa using h1) (by simpa using h2)
def SubOk (X : Cx) : List (Str × Addr) → Prop
  | [] => True
  | p :: r => X.env.cells.lookup p.1 = some p.2 ∧ SubOk X r
theorem SubOk.mem {X : Cx} : ∀ {cl : List (Str × Addr)}, SubOk X cl → ∀ p ∈ cl, X.env.cells.lookup p.1 = some p.2
  | [], _, p, hp => by simp at hp
  | q :: r, h, p, hp => by
    rcases List.mem_cons.mp hp with e | e
    · subst e; exact h.1
    · exact SubOk.mem h.2 p e
theorem compSc {X : Cx} {scope : Scope} {cl : List (Str × Addr)} {N : List Str} {cap : List (Option Nat)} (h1 : scope.kind = .function) (h2 : closureFor scope X.env = pure cl) (h3 : (scope.names.all fun y => y.2 != NameKind.cell) = true)
    (h4 : (scope.names.all fun y => y.2 != NameKind.local || scope.names.lookup y.1 == some NameKind.local) = true) (h5 : SubOk X cl)
    (h6 : ((relabel scope X.env).names.all fun y => (y.2 != NameKind.cell && y.2 != NameKind.free) || (cl.lookup y.1).isSome) = true) (h7 : cap.length = N.length) (h8 : CapOk X scope cap N) : CompSc X scope cl N cap := ⟨h1, h2, h3, h4, h5.mem, h6, h7, h8.get⟩
end L2
namespace DL
open PySem PySem.Spec PyProof.Rows L2
section
variable {X : Cx} {pos : Pos}
/-- a, b = a tuple or a list -/
def dgSeq (n : Nat) (t : DGs) : DG := fun d L S k => match dItems S d with
  | some p => p.1.length = n ∧ t p.1 L S k
  | none => False
theorem dg_seq {es : List Expr} {k : Nat} {t : DGs} {n : Nat} (hc : X.calm = true) (h : GsJ X es t) (hn : (assignEach es X.env).length = n := by rfl) (hst : (assignEach es X.env).findIdx? (·.1) = none := by rfl) : GJ X (.Tuple es k pos) (dgSeq n t) :=
  ⟨PG.imp (PG.or (pg_tup hc h.h hn hst) (pg_lst hc h.h hn hst)) fun v σ H Q ⟨d, L, S, k, i1, hL, hS, h, m⟩ => by
    cases d with
    | tup ds =>
      obtain ⟨a, xs, rfl, t1, j⟩ := isTup.mp i1
      exact .inl ⟨a, xs, rfl, t1, by rw [← j.length]; exact h.1, ds, L, S, k, j, hL, hS, h.2, m⟩
    | rl ds =>
      obtain ⟨a, xs, rfl, t1, j⟩ := isRl.mp i1
      exact .inr ⟨a, xs, rfl, t1.sq, by rw [← j.length]; exact h.1, ds, L, S, k, j, hL, hS, h.2, m⟩
    | ref a =>
      have e1 := isRef.mp i1
      subst e1
      cases z : S a with
      | none => simp only [dgSeq, dItems, z] at h
      | some o =>
        cases o with
        | dic => simp only [dgSeq, dItems, z] at h
        | exc _ => simp only [dgSeq, dItems, z] at h
        | fn _ => simp only [dgSeq, dItems, z] at h
        | tbl _ => simp only [dgSeq, dItems, z] at h
        | gen _ => simp only [dgSeq, dItems, z] at h
        | lst ds =>
          simp only [dgSeq, dItems, z] at h
          obtain ⟨xs, hl, j⟩ := hS.lst z
          exact .inr ⟨a, xs, rfl, SqL.of hl, by rw [← j.length]; exact h.1, ds, L, S, k, j, hL, hS, h.2, m⟩
    | _ => exact (show False from h).elim⟩
end
/-! ### comprehensions -/
def capL (cap : List (Option Nat)) (L : Lo) : Lo := cap.map fun o => match o with
  | some j => (L[j]?).join
  | none => none
theorem Lc.cap {K : Fg} {H : Hp} {L : Lo} {σ : L2.St} (hL : Lc K H L σ) : ∀ cap : List (Option Nat), Lc K H (capL cap L) (capSt cap σ)
  | [] => rfl
  | Option.none :: r => ⟨_, _, rfl, Lc.cap hL r⟩
  | Option.some j :: r => by
    show Lc K H ((L[j]?).join :: capL r L) ((σ[j]?).join :: capSt r σ)
    cases e : L[j]? with
    | none => exact ⟨_, _, rfl, Lc.cap hL r⟩
    | some o =>
      cases o with
      | none => exact ⟨_, _, rfl, Lc.cap hL r⟩
      | some d =>
        obtain ⟨v, e1, e2⟩ := hL.get e
        rw [e1]
        exact ⟨v, _, rfl, e2, Lc.cap hL r⟩
/-- what a turn gives: an item more, or none -/
abbrev DB := Lo → DH → (Option D → DH → Prop) → Prop
def bdAll (ge : DE) : DB := fun L S k => ge L S fun v S1 => k (some v) S1
def bdIf (c : DT) (ge : DE) : DB := fun L S k => c L S fun b S1 => if b = true then ge L S1 fun v S2 => k (some v) S2 else k none S1
def dCLoop (ok : DH → Prop) (p : Addr) (g : DG) (bd : DB) (k : DK) : List D → List D → Lo → DH → Prop
  | [], _, _, S => ok S ∧ k (.ref p) S
  | d :: r, acc, L, S => ok S ∧ g d L S fun L1 S1 => bd L1 S1 fun o S2 => match o with
    | some v => S2 p = some (.lst acc) ∧ acc.length < sizeLine ∧ dCLoop ok p g bd k r (acc ++ [v]) L1 (put S2 p (.lst (acc ++ [v])))
    | none => dCLoop ok p g bd k r acc L1 S2
def dComp (cap : List (Option Nat)) (gi : DE) (g : DG) (bd : DB) : DE := fun L S k => gi L S fun d S1 => match dItems S1 d with
  | some q => ∀ p, S1 p = none → dCLoop (okFor q) p g bd k q.1 [] (capL cap L) (put S1 p (.lst []))
  | none => False
def dCompR (cap : List (Option Nat)) (ta : DA) (g : DG) (bd : DB) : DE := fun L S k => ta L S fun ds S1 => match ds with
  | [.int n] => (-(2 ^ 62) ≤ n ∧ n < 2 ^ 62) ∧ ∀ p, S1 p = none → dCLoop (fun _ => True) p g bd k ((List.range n.toNat).map fun i => D.int (i : Nat)) [] (capL cap L) (put S1 p (.lst []))
  | _ => False
section
variable {K : Fg} {ok : DH → Prop} {gg : DG} {ge : DE} {gc : DT} {k : DK} {ds : List D} {L : Lo} {S : DH} {σ : L2.St} {H : Hp} {J : It} {Q : VK} {p : Addr}
theorem comp_core (hL : Lc K H L σ) (hS : Hs K H S) (hp : H p = none) (h : dCLoop ok p gg (bdAll ge) k ds [] L (put S p (.lst [])))
    (n : ∀ d S' v H', k d S' → Kp H H' → Hs K H' S' → IsD K H' d v → Q v H')
    (hgo : ∀ i d S1 H1, ds[i]? = some d → Kp H H1 → Hs K H1 S1 → ok S1 → J.go i H1 ∧ ∀ x H', J.yld i H1 x H' → H' = H1 ∧ IsD K H1 d x)
    (hst : ∀ S1 H1, Kp H H1 → Hs K H1 S1 → ok S1 → J.stop ds.length H1) :
    ∃ W : Nat → Nat → L2.St → Hp → Prop, (∃ m, W 0 m σ (upd H p (.lst []))) ∧ ∀ i m σ' H', W i m σ' H' →
      (J.stop i H' ∧ Q (.ref p) H') ∨ (J.go i H' ∧ ∃ N : L2.St → Hp → Prop, (∀ σ2 H2, N σ2 H2 → ∃ m', m' < m ∧ W (i + 1) m' σ2 H2) ∧ ∀ x H2, J.yld i H' x H2 → upG K gg x σ' H2 fun σ3 H3 => up K ge σ3 H3 fun v H4 => ∃ ys, H4 p = some (.lst ys) ∧ ys.length < sizeLine ∧ N σ3 (upd H4 p (.lst (ys ++ [v])))) := by
  refine ⟨fun i m σ1 H1 => m = ds.length - i ∧ i ≤ ds.length ∧ ∃ acc L1 S1, Lc K H1 L1 σ1 ∧ Hs K H1 S1 ∧ Kp H H1 ∧ dCLoop ok p gg (bdAll ge) k (ds.drop i) acc L1 S1, ⟨ds.length, by simp, Nat.zero_le _, [], L, _, hL.kp (Kp.new hp), hS.newL hp IsDs.nil, Kp.new hp, h⟩, ?_⟩
  rintro i m σ1 H1 ⟨rfl, hi, acc, L1, S1, hL1, hS1, k1, w1⟩
  by_cases hlt : i < ds.length
  · have e : ds.drop i = ds[i] :: ds.drop (i + 1) := List.drop_eq_getElem_cons hlt
    rw [e] at w1
    obtain ⟨o1, w1⟩ := w1
    obtain ⟨g1, y1⟩ := hgo i ds[i] S1 H1 (by simp [hlt]) k1 hS1 o1
    refine .inr ⟨g1, fun σ' H' => i + 1 ≤ ds.length ∧ ∃ acc L' S', Lc K H' L' σ' ∧ Hs K H' S' ∧ Kp H H' ∧ dCLoop ok p gg (bdAll ge) k (ds.drop (i + 1)) acc L' S', fun σ' H' ⟨q1, q2⟩ => ⟨ds.length - (i + 1), by omega, rfl, q1, q2⟩, fun x H' y => ?_⟩
    obtain ⟨rfl, ix⟩ := y1 x H' y
    refine ⟨ds[i], L1, S1, _, ix, hL1, hS1, w1, fun L2 S2 σ2 H2 q k2 hL2 hS2 => up.go hL2 hS2 q fun d S3 v H3 h3 k3 hL3 hS3 i3 => ?_⟩
    obtain ⟨z1, z2, z3⟩ := h3
    obtain ⟨xs, hl, j⟩ := hS3.lst z1
    have k4 : Kp H3 (upd H3 p (.lst (xs ++ [v]))) := Kp.mut hl (fun z => z)
    exact ⟨xs, hl, by rw [← j.length]; exact z2, hlt, _, L2, _, hL3.kp k4, hS3.setL hl (j.append (IsDs.cons i3 IsDs.nil)), ((k1.trans k2).trans k3).trans k4, z3⟩
  · have e : i = ds.length := by omega
    subst e
    rw [List.drop_length] at w1
    obtain ⟨o1, w1⟩ := w1
    exact .inl ⟨hst S1 H1 k1 hS1 o1, n _ S1 _ H1 w1 k1 hS1 (isRef.mpr rfl)⟩
theorem comp_coreIf (hL : Lc K H L σ) (hS : Hs K H S) (hp : H p = none) (h : dCLoop ok p gg (bdIf gc ge) k ds [] L (put S p (.lst [])))
    (n : ∀ d S' v H', k d S' → Kp H H' → Hs K H' S' → IsD K H' d v → Q v H')
    (hgo : ∀ i d S1 H1, ds[i]? = some d → Kp H H1 → Hs K H1 S1 → ok S1 → J.go i H1 ∧ ∀ x H', J.yld i H1 x H' → H' = H1 ∧ IsD K H1 d x)
    (hst : ∀ S1 H1, Kp H H1 → Hs K H1 S1 → ok S1 → J.stop ds.length H1) :
    ∃ W : Nat → Nat → L2.St → Hp → Prop, (∃ m, W 0 m σ (upd H p (.lst []))) ∧ ∀ i m σ' H', W i m σ' H' →
      (J.stop i H' ∧ Q (.ref p) H') ∨ (J.go i H' ∧ ∃ N : L2.St → Hp → Prop, (∀ σ2 H2, N σ2 H2 → ∃ m', m' < m ∧ W (i + 1) m' σ2 H2) ∧ ∀ x H2, J.yld i H' x H2 → upG K gg x σ' H2 fun σ3 H3 => upT K gc σ3 H3 fun b H3' => if b = true then up K ge σ3 H3' fun v H4 => ∃ ys, H4 p = some (.lst ys) ∧ ys.length < sizeLine ∧ N σ3 (upd H4 p (.lst (ys ++ [v]))) else N σ3 H3') := by
  refine ⟨fun i m σ1 H1 => m = ds.length - i ∧ i ≤ ds.length ∧ ∃ acc L1 S1, Lc K H1 L1 σ1 ∧ Hs K H1 S1 ∧ Kp H H1 ∧ dCLoop ok p gg (bdIf gc ge) k (ds.drop i) acc L1 S1, ⟨ds.length, by simp, Nat.zero_le _, [], L, _, hL.kp (Kp.new hp), hS.newL hp IsDs.nil, Kp.new hp, h⟩, ?_⟩
  rintro i m σ1 H1 ⟨rfl, hi, acc, L1, S1, hL1, hS1, k1, w1⟩
  by_cases hlt : i < ds.length
  · have e : ds.drop i = ds[i] :: ds.drop (i + 1) := List.drop_eq_getElem_cons hlt
    rw [e] at w1
    obtain ⟨o1, w1⟩ := w1
    obtain ⟨g1, y1⟩ := hgo i ds[i] S1 H1 (by simp [hlt]) k1 hS1 o1
    refine .inr ⟨g1, fun σ' H' => i + 1 ≤ ds.length ∧ ∃ acc L' S', Lc K H' L' σ' ∧ Hs K H' S' ∧ Kp H H' ∧ dCLoop ok p gg (bdIf gc ge) k (ds.drop (i + 1)) acc L' S', fun σ' H' ⟨q1, q2⟩ => ⟨ds.length - (i + 1), by omega, rfl, q1, q2⟩, fun x H' y => ?_⟩
    obtain ⟨rfl, ix⟩ := y1 x H' y
    refine ⟨ds[i], L1, S1, _, ix, hL1, hS1, w1, fun L2 S2 σ2 H2 q k2 hL2 hS2 => upT.go hL2 hS2 q fun b S2' H2' h2 k2' hL2' hS2' => ?_⟩
    cases b with
    | true =>
      rw [if_pos rfl] at h2 ⊢
      refine up.go hL2' hS2' h2 fun d S3 v H3 h3 k3 hL3 hS3 i3 => ?_
      obtain ⟨z1, z2, z3⟩ := h3
      obtain ⟨xs, hl, j⟩ := hS3.lst z1
      have k4 : Kp H3 (upd H3 p (.lst (xs ++ [v]))) := Kp.mut hl (fun z => z)
      exact ⟨xs, hl, by rw [← j.length]; exact z2, hlt, _, L2, _, hL3.kp k4, hS3.setL hl (j.append (IsDs.cons i3 IsDs.nil)), (((k1.trans k2).trans k2').trans k3).trans k4, z3⟩
    | false =>
      rw [if_neg Bool.false_ne_true] at h2 ⊢
      exact ⟨hlt, acc, L2, S2', hL2', hS2', (k1.trans k2).trans k2', h2⟩
  · have e : i = ds.length := by omega
    subst e
    rw [List.drop_length] at w1
    obtain ⟨o1, w1⟩ := w1
    exact .inl ⟨hst S1 H1 k1 hS1 o1, n _ S1 _ H1 w1 k1 hS1 (isRef.mpr rfl)⟩
end
theorem range_go {K : Fg} {H : Hp} {n : Int} : ∀ i d (S1 : DH) H1, ((List.range n.toNat).map fun i => D.int (i : Nat))[i]? = some d → Kp H H1 → Hs K H1 S1 → (fun _ => True : DH → Prop) S1 → (Itr 0 n.toNat).go i H1 ∧ ∀ x H', (Itr 0 n.toNat).yld i H1 x H' → H' = H1 ∧ IsD K H1 d x := by
  intro i d S1 H1 e _ _ _
  rw [List.getElem?_map] at e
  cases q : (List.range (Int.toNat _))[i]? with
  | none => rw [q] at e; cases e
  | some z =>
    rw [q] at e
    cases e
    obtain ⟨hz1, hz2⟩ := List.getElem?_eq_some_iff.mp q
    rw [List.length_range] at hz1
    rw [List.getElem_range] at hz2
    subst hz2
    exact ⟨hz1, fun x H' y => ⟨y.1, by rw [y.2]; exact isInt.mpr (by rw [Int.zero_add])⟩⟩
section
variable {X : Cx} {elt tg iter c a : Expr} {scope : Scope} {cl : List (Str × Addr)} {N : List Str} {cap : List (Option Nat)} {pos p pos' : Pos} {gg : DG} {ge gi : DE} {gc : DT} {ta : DA}
theorem d_compRj (hc : X.calm = true) (Sc : CompSc X scope cl N cap) (hgl : Gl X "range") (hm : X.mg "range" = none) (ha : AJ X [a] ta) (hg : ∀ s0 H0 ex C, GJ (cxC X scope cl N s0 H0 ex C) tg gg) (he : ∀ s0 H0 ex C, EJ (cxC X scope cl N s0 H0 ex C) elt ge)
    (hs1 : starEach [a] X.env = [(false, eval a X.env)] := by exact star_cons rfl) (hs : ∀ x, foldedSetIterable (.Call (.Name "range" p) [a] [] pos') X.env x = pure x := by intro _; rfl) :
    EJ X (.ListComp elt [⟨tg, .Call (.Name "range" p) [a] [] pos', [], 0⟩] scope pos) (dCompR cap ta gg (bdAll ge)) :=
  ⟨PE.imp (pe_comp hc Sc (pi_range1 hgl hm ha.h hs1) (fun s0 H0 ex C => (hg s0 H0 ex C).h) (fun s0 H0 ex C => (he s0 H0 ex C).h) hs) fun σ H Q ⟨L, S, k, hL, hS, h, n⟩ => upA.go hL hS h fun ds S1 vs H1 h1 k1 hL1 hS1 i1 => by
    split at h1
    · obtain ⟨v, rfl, j⟩ := isDs1 i1
      have e := isInt.mp j
      subst e
      obtain ⟨⟨h2, h3⟩, h1⟩ := h1
      refine ⟨_, rfl, h2, h3, fun D hD => comp_core (hL1.cap cap) hS1 hD (h1 D (hS1.free hD)) (fun d S' v H' q k3 => n d S' v H' q (k1.trans k3)) range_go fun S2 H2 k2 hS2 _ => ?_⟩
      rw [List.length_map, List.length_range]
      exact Nat.le_refl _
    · exact h1.elim⟩
theorem d_compRIfj (hc : X.calm = true) (Sc : CompSc X scope cl N cap) (hgl : Gl X "range") (hm : X.mg "range" = none) (ha : AJ X [a] ta) (hg : ∀ s0 H0 ex C, GJ (cxC X scope cl N s0 H0 ex C) tg gg) (hcn : ∀ s0 H0 ex C, TJ (cxC X scope cl N s0 H0 ex C) c gc) (he : ∀ s0 H0 ex C, EJ (cxC X scope cl N s0 H0 ex C) elt ge)
    (hs1 : starEach [a] X.env = [(false, eval a X.env)] := by exact star_cons rfl) (hs : ∀ x, foldedSetIterable (.Call (.Name "range" p) [a] [] pos') X.env x = pure x := by intro _; rfl) :
    EJ X (.ListComp elt [⟨tg, .Call (.Name "range" p) [a] [] pos', [c], 0⟩] scope pos) (dCompR cap ta gg (bdIf gc ge)) :=
  ⟨PE.imp (pe_compIf hc Sc (pi_range1 hgl hm ha.h hs1) (fun s0 H0 ex C => (hg s0 H0 ex C).h) (fun s0 H0 ex C => (hcn s0 H0 ex C).h) (fun s0 H0 ex C => (he s0 H0 ex C).h) hs) fun σ H Q ⟨L, S, k, hL, hS, h, n⟩ => upA.go hL hS h fun ds S1 vs H1 h1 k1 hL1 hS1 i1 => by
    split at h1
    · obtain ⟨v, rfl, j⟩ := isDs1 i1
      have e := isInt.mp j
      subst e
      obtain ⟨⟨h2, h3⟩, h1⟩ := h1
      refine ⟨_, rfl, h2, h3, fun D hD => comp_coreIf (hL1.cap cap) hS1 hD (h1 D (hS1.free hD)) (fun d S' v H' q k3 => n d S' v H' q (k1.trans k3)) range_go fun S2 H2 k2 hS2 _ => ?_⟩
      rw [List.length_map, List.length_range]
      exact Nat.le_refl _
    · exact h1.elim⟩
end
/-! a tuple of ints that the module keeps -/
def GTup (K : Fg) (mg : Str → Option Value) (x : Str) (ns : List Int) : Prop := ∃ p o its n, mg x = some (.ref p) ∧ K.lookup p = some o ∧ o.cls = .type "tuple" ∧ o.data = .seq its n ∧ its.size ≤ sizeLine ∧ Vals (ns.map V.int) its.toList
/-! == of tuples -/
end DL
/-! ## readings that ask by "there is", for lists and looks -/
namespace DL
open PySem PySem.Spec PyProof.Rows L2
theorem upR.imp {K : Fg} {r r' : D2} (i : ∀ d e S k, r' d e S k → r d e S k) : ∀ x y H Q, upR K r' x y H Q → upR K r x y H Q := fun x y H Q ⟨d, e, S, k, a, b, c, h, n⟩ => ⟨d, e, S, k, a, b, c, i d e S k h, n⟩
theorem upC.imp {K : Fg} {r r' : DSp} (i : ∀ ds S k, r' ds S k → r ds S k) : ∀ xs H Q, upC K r' xs H Q → upC K r xs H Q := fun xs H Q ⟨ds, S, k, a, b, h, n⟩ => ⟨ds, S, k, a, b, i ds S k h, n⟩
theorem IxR.imp {X : Cx} {r r' : R2} (h : IxR X r) (i : ∀ x y H Q, r' x y H Q → r x y H Q) : IxR X r' := fun value slice pins s σ H x y v u Q I rx ry q => h value slice pins s σ H x y v u Q I rx ry (i x y H Q q)
theorem CallR.imp {X : Cx} {f : Value} {r r' : List V → Hp → VK → Prop} (h : CallR X f r) (i : ∀ xs H Q, r' xs H Q → r xs H Q) : CallR X f r' := fun pins s σ H xs us Q I rs q => h pins s σ H xs us Q I rs (i xs H Q q)
def dIxE : D2 := fun d e S k => match d, e with
  | .tup ds, .int i => (match L2.atI ds i with
    | some c => k c S
    | none => False)
  | .rl ds, .int i => ∃ c, L2.atI ds i = some c ∧ k c S
  | .ref a, .int i => ∃ ds c, S a = some (.lst ds) ∧ L2.atI ds i = some c ∧ k c S
  | _, _ => False
theorem x_ixE {X : Cx} : IxR X (upR X.K dIxE) := IxR.imp x_ix (upR.imp fun d e S k h => by
  unfold dIxE at h
  split at h
  · exact h
  · obtain ⟨c, h1, h2⟩ := h
    simp only [dIx, h1]
    exact h2
  · obtain ⟨ds, c, h0, h1, h2⟩ := h
    simp only [dIx, h0, h1]
    exact h2
  · exact h.elim)
def bIsiE : DSp := fun ds S k => match ds with
  | [d, .ty c] => ∃ t, tyD S d = some t ∧ k (.bl (subT t c)) S
  | _ => False
def bLenE : DSp := fun ds S k => match ds with
  | [.tup xs] => k (.int xs.length) S
  | [.rl xs] => k (.int xs.length) S
  | [.ref a] => ∃ xs, S a = some (.lst xs) ∧ k (.int xs.length) S
  | _ => False
theorem b_lenE {X : Cx} : CallR X (.builtin "len") (upC X.K bLenE) := CallR.imp b_len (upC.imp fun ds S k h => by
  unfold bLenE at h
  split at h
  · exact h
  · exact h
  · obtain ⟨xs, h1, h2⟩ := h
    simp only [bLen, h1]
    exact h2
  · exact h.elim)
def dEqE : D2 := fun d e S k => ∃ b, eqT 8 d e = some b ∧ k (.bl b) S
def dNeE : D2 := fun d e S k => ∃ b, eqT 8 d e = some b ∧ k (.bl (!b)) S
def dForE (gi : DE) (g : DG) (b : DS) : DS := fun M L S => gi L S fun d S1 => ∃ p, dItems S1 d = some p ∧ dLoop (okFor p) g b M p.1 L S1
/-- readings that may be weakened at their end -/
def Mono (g : DE) : Prop := ∀ L S (k k' : DK), (∀ d S, k d S → k' d S) → g L S k → g L S k'
/-- a list or a tuple unpacked -/
def dgSeqE (n : Nat) (t : DGs) : DG := fun d L S k => ∃ p, dItems S d = some p ∧ p.1.length = n ∧ t p.1 L S k
theorem GJ.imp {X : Cx} {e : Expr} {g g' : DG} (h : GJ X e g) (i : ∀ d L S k, g' d L S k → g d L S k) : GJ X e g' := ⟨PG.imp h.h fun v σ H Q ⟨d, L, S, k, a, hL, hS, q, n⟩ => ⟨d, L, S, k, a, hL, hS, i d L S k q, n⟩⟩
theorem dg_seqE {X : Cx} {pos : Pos} {es : List Expr} {k : Nat} {t : DGs} {n : Nat} (hc : X.calm = true) (h : GsJ X es t) (hn : (assignEach es X.env).length = n := by rfl) (hst : (assignEach es X.env).findIdx? (·.1) = none := by rfl) : GJ X (.Tuple es k pos) (dgSeqE n t) :=
  GJ.imp (dg_seq hc h hn hst) fun d L S k ⟨p, h1, h2⟩ => by
    simp only [dgSeq, h1]
    exact h2
section
variable {X : Cx} {pos : Pos}
def dgSubE (go gi : DE) : DG := fun d L S k => go L S fun o S1 => gi L S1 fun i S2 => match o, i with
  | .ref a, .int j => ∃ ds n, S2 a = some (.lst ds) ∧ ixN ds.length j = some n ∧ k L (put S2 a (.lst (ds.set n d)))
  | _, _ => False
theorem dg_subE {o i : Expr} {go gi : DE} (ho : EJ X o go) (hi : EJ X i gi)
    (ha : ∀ v, assign (.Subscript o i pos) X.env v = (do
      let ov ← holding [v] (eval o X.env)
      let iv ← holding [v, ov] (eval i X.env)
      standAt pos
      holding [v, ov, iv] (setItem ov iv v)
      release [v, ov, iv] []) := by intro _; rfl) : GJ X (.Subscript o i pos) (dgSubE go gi) :=
  ⟨PG.imp (pg_sub ho.h hi.h set_list ha) fun v σ H Q ⟨d, L, S, k, i1, hL, hS, h, n⟩ => up.go hL hS h fun c S1 u H1 h1 k1 hL1 hS1 j1 => up.go hL1 hS1 h1 fun c2 S2 u2 H2 h2 k2 hL2 hS2 j2 => by
    cases c with
    | ref a =>
      cases c2 with
      | int z =>
        have e1 := isRef.mp j1
        have e2 := isInt.mp j2
        subst e1
        subst e2
        obtain ⟨ds, m, w, q, h2⟩ := h2
        obtain ⟨vs, hl, j⟩ := hS2.lst w
        refine ⟨a, vs, z, m, rfl, rfl, hl, by rw [← j.length]; exact q, ?_⟩
        have k3 : Kp H2 (upd H2 a (.lst (vs.set m v))) := Kp.mut hl (fun z => z)
        exact n L _ σ _ h2 (k1.trans (k2.trans k3)) (hL2.kp k3) (hS2.setL hl (j.set m (i1.kp (k1.trans k2))))
      | _ => exact (show False from h2).elim
    | _ => exact (show False from h2).elim⟩
theorem seq_go {K : Fg} {S1 : DH} {H1 : Hp} {d : D} {v : V} {p : List D × Option Addr} (hS1 : Hs K H1 S1) (i1 : IsD K H1 d v) (hp : dItems S1 d = some p) : ∃ a, v = .ref a ∧
    (((∃ xs, SqL K H1 a xs) ∧ (∀ i c S2 H2, p.1[i]? = some c → Kp H1 H2 → Hs K H2 S2 → okFor p S2 → (Itl K a).go i H2 ∧ ∀ x H', (Itl K a).yld i H2 x H' → H' = H2 ∧ IsD K H2 c x) ∧ ∀ S2 H2, Kp H1 H2 → Hs K H2 S2 → okFor p S2 → (Itl K a).stop p.1.length H2) ∨
     ((∃ xs, SqT K H1 a xs) ∧ (∀ i c S2 H2, p.1[i]? = some c → Kp H1 H2 → Hs K H2 S2 → okFor p S2 → (Itt K a).go i H2 ∧ ∀ x H', (Itt K a).yld i H2 x H' → H' = H2 ∧ IsD K H2 c x) ∧ ∀ S2 H2, Kp H1 H2 → Hs K H2 S2 → okFor p S2 → (Itt K a).stop p.1.length H2)) := by
  cases d with
  | tup ds =>
    cases hp
    obtain ⟨a, xs, rfl, t, j⟩ := isTup.mp i1
    refine ⟨a, rfl, .inr ⟨⟨xs, t⟩, fun i d S2 H2 e k2 hS2 _ => ?_, fun S2 H2 k2 hS2 _ => ⟨xs, k2.tup t, by rw [← j.length]; exact Nat.le_refl _⟩⟩⟩
    obtain ⟨w, e1, e2⟩ := j.get e
    refine ⟨⟨xs, w, k2.tup t, e1⟩, fun x H' y => ⟨y.1, ?_⟩⟩
    have z := y.2 xs (k2.tup t)
    rw [e1] at z
    cases z
    exact e2.kp k2
  | rl ds =>
    cases hp
    obtain ⟨a, xs, rfl, t, j⟩ := isRl.mp i1
    refine ⟨a, rfl, .inl ⟨⟨xs, t.sq⟩, fun i d S2 H2 e k2 hS2 _ => ?_, fun S2 H2 k2 hS2 _ => ⟨xs, (k2.fro t).sq, by rw [← j.length]; exact Nat.le_refl _⟩⟩⟩
    obtain ⟨w, e1, e2⟩ := j.get e
    refine ⟨⟨xs, w, (k2.fro t).sq, e1⟩, fun x H' y => ⟨y.1, ?_⟩⟩
    have z := y.2 xs (k2.fro t).sq
    rw [e1] at z
    cases z
    exact e2.kp k2
  | ref a =>
    have e1 := isRef.mp i1
    subst e1
    cases z : S1 a with
    | none => simp only [dItems, z] at hp; cases hp
    | some o =>
      cases o with
      | dic => simp only [dItems, z] at hp; cases hp
      | exc _ => simp only [dItems, z] at hp; cases hp
      | fn _ => simp only [dItems, z] at hp; cases hp
      | tbl _ => simp only [dItems, z] at hp; cases hp
      | gen _ => simp only [dItems, z] at hp; cases hp
      | lst ds =>
        simp only [dItems, z] at hp
        cases hp
        obtain ⟨xs, hl, j⟩ := hS1.lst z
        refine ⟨a, rfl, .inl ⟨⟨xs, SqL.of hl⟩, fun i d S2 H2 e k2 hS2 o2 => ?_, fun S2 H2 k2 hS2 o2 => ?_⟩⟩
        · obtain ⟨ys, hl2, j2⟩ := hS2.lst o2
          obtain ⟨w, e1, e2⟩ := j2.get e
          refine ⟨⟨ys, w, SqL.of hl2, e1⟩, fun x H' y => ⟨y.1, ?_⟩⟩
          have q := y.2 ys (SqL.of hl2)
          rw [e1] at q
          cases q
          exact e2
        · obtain ⟨ys, hl2, j2⟩ := hS2.lst o2
          exact ⟨ys, SqL.of hl2, by rw [← j2.length]; exact Nat.le_refl _⟩
  | _ => cases hp
theorem dst_forEj {tg iter : Expr} {body : List Stmt} {gi : DE} {gg : DG} {g : DS} (hp : PassesOwn (model X.prog X.w) X.A X.env X.xe) (hc : X.calm = true) (hi : EJ X iter gi) (hg : GJ X tg gg) (hb : SsJ X body g)
    (hs : ∀ x, foldedSetIterable iter X.env x = pure x := by intro _; rfl) : SJ X (.For tg iter body [] pos) (dForE gi gg g) :=
  ⟨PS.imp (ps_for hp hc (pi_seq hi.h) hg.h hb.h hs) fun N σ H ⟨L, S, M, hL, hS, h, r⟩ => up.go hL hS h fun d S1 v H1 h1 k1 hL1 hS1 i1 => by
    obtain ⟨p, hp, h1⟩ := h1
    obtain ⟨a, e, q⟩ := seq_go hS1 i1 hp
    refine ⟨a, e, ?_⟩
    rcases q with ⟨q1, q2, q3⟩ | ⟨q1, q2, q3⟩
    · exact .inl ⟨q1, for_core hL1 hS1 h1 (r.kp k1) q2 q3⟩
    · exact .inr ⟨q1, for_core hL1 hS1 h1 (r.kp k1) q2 q3⟩⟩
def dCompE (cap : List (Option Nat)) (gi : DE) (g : DG) (bd : DB) : DE := fun L S k => gi L S fun d S1 => ∃ q, dItems S1 d = some q ∧ ∀ p, S1 p = none → dCLoop (okFor q) p g bd k q.1 [] (capL cap L) (put S1 p (.lst []))
theorem d_compEj {elt tg iter : Expr} {scope : Scope} {cl : List (Str × Addr)} {N : List Str} {cap : List (Option Nat)} {gg : DG} {ge gi : DE} (hc : X.calm = true) (Sc : CompSc X scope cl N cap) (hi : EJ X iter gi) (hg : ∀ s0 H0 ex C, GJ (cxC X scope cl N s0 H0 ex C) tg gg) (he : ∀ s0 H0 ex C, EJ (cxC X scope cl N s0 H0 ex C) elt ge)
    (hs : ∀ x, foldedSetIterable iter X.env x = pure x := by intro _; rfl) : EJ X (.ListComp elt [⟨tg, iter, [], 0⟩] scope pos) (dCompE cap gi gg (bdAll ge)) :=
  ⟨PE.imp (pe_comp hc Sc (pi_seq hi.h) (fun s0 H0 ex C => (hg s0 H0 ex C).h) (fun s0 H0 ex C => (he s0 H0 ex C).h) hs) fun σ H Q ⟨L, S, k, hL, hS, h, n⟩ => up.go hL hS h fun d S1 v H1 h1 k1 hL1 hS1 i1 => by
    obtain ⟨p, hp, h1⟩ := h1
    obtain ⟨a, e, q⟩ := seq_go hS1 i1 hp
    refine ⟨a, e, ?_⟩
    have n' : ∀ d S' v H', k d S' → Kp H1 H' → Hs X.K H' S' → IsD X.K H' d v → Q v H' := fun d S' v H' q k3 => n d S' v H' q (k1.trans k3)
    rcases q with ⟨q1, q2, q3⟩ | ⟨q1, q2, q3⟩
    · exact .inl ⟨q1, fun D hD => comp_core (hL1.cap cap) hS1 hD (h1 D (hS1.free hD)) n' q2 q3⟩
    · exact .inr ⟨q1, fun D hD => comp_core (hL1.cap cap) hS1 hD (h1 D (hS1.free hD)) n' q2 q3⟩⟩
end
end DL
/-! ## zip over lists and tuples -/
namespace L2
open PySem PySem.Spec PyProof.Rows
/-- an iterator's record at it, that walks what lies at l, asked by another one -/
structure Hands (P : Program) (w : World) (it l : Addr) (st : Nat → Heap → Prop) (sq : Array Value → Heap → Prop) : Prop where
  at_ : ∀ k h h', st k h → (∀ o, h.get? it = some o → h'.get? it = some o) → st k h'
  sqAt : ∀ xs h h', sq xs h → (∀ o, h.get? l = some o → h'.get? l = some o) → sq xs h'
  obj : ∀ k h, st k h → ∃ o, h.get? it = some o ∧ ∀ v, o.data ≠ .cell v
  item : ∀ (A : Around) (k : Nat) (s : Shared) (xs : Array Value) (x : Value) (Q : Value → Shared → Prop) (E : Value → Shared → Prop), st k s.heap → sq xs s.heap → xs[k]? = some x →
    (∀ h', st (k + 1) h' → Heap.SameBut it s.heap h' → Q x { s with heap := h' }) → wpAny (model P w) A (Builtin.SmallTypes.nextOf (.ref it)) Q E s
  fin : ∀ (A : Around) (k : Nat) (s : Shared) (xs : Array Value) (Q : Value → Shared → Prop) (E : Value → Shared → Prop), A.handled = none → st k s.heap → sq xs s.heap → xs[k]? = none →
    (∀ h' e, Heap.ExtBut it s.heap h' → (∃ o, h'.get? e = some o ∧ o.cls = .type "StopIteration") → E (.ref e) { s with heap := h' }) → wpAny (model P w) A (Builtin.SmallTypes.nextOf (.ref it)) Q E s
theorem Hands.list {P : Program} {w : World} (it l : Addr) : Hands P w it l (fun k h => h.IsListIter it l k) (fun xs h => h.IsList l xs) where
  at_ := fun _ _ _ x y => x.at y
  sqAt := fun _ _ _ x y => x.at y
  obj := fun _ _ ⟨o, e, _, d⟩ => ⟨o, e, fun v z => by rw [d] at z; cases z⟩
  item := fun _ _ _ _ _ _ _ a b c d => wpAny_nextOf_list_item a b c d
  fin := fun _ _ _ _ _ _ hh a b c d => wpAny_nextOf_list_end hh a b c d
section
variable {prog : Program} {w : World} {A : Around} {E : Value → Shared → Prop} {s : Shared}
theorem nextOf_tuple_item {it t : Addr} {i : Nat} {items} {x : Value} {Q : Value → Shared → Prop} (hit : s.heap.IsTupleIter it t i) (ht : s.heap.IsTuple t items) (hx : items[i]? = some x)
    (hQ : ∀ h', h'.IsTupleIter it t (i + 1) → Heap.SameBut it s.heap h' → Q x { s with heap := h' }) : wpAny (model prog w) A (Builtin.SmallTypes.nextOf (.ref it)) Q E s := by
  obtain ⟨o, ho, hc, hd⟩ := id hit
  obtain ⟨ol, hol, _, nl, hdl⟩ := ht
  unfold Builtin.SmallTypes.nextOf
  refine wpAny_bind (wpAny_callSpecial?_slot (name := Str.ofString "__next__") hit.typeIs F.slot_tuple_iterator_next (wpAny_call_entry F.slot_tuple_iterator_next hit.typeIs F.entry_tuple_iterator_next ?_ (F.args_tuple_iterator_next_1 _)))
  refine wpAny_bind (m := field (.ref it) 0) (wpAny_field ho hd (x := .ref t) rfl ?_)
  show wpAny _ _ (if (Value.ref t == Value.none) = true then _ else _) _ _ s
  rw [if_neg (show ¬ ((Value.ref t == Value.none) = true) from Bool.false_ne_true)]
  refine wpAny_bind (m := field (.ref it) 1) (wpAny_field ho hd (x := .int i 0) rfl ?_)
  refine wpAny_bind (m := seqItems? (.ref t)) (wpAny_seqItems hol hdl ?_)
  simp only [Int.toNat_natCast, hx]
  refine wpAny_bind (wpAny_setField ho hd (by simp) (wpAny_pure ⟨x, rfl, wpAny_pure (hQ _ ⟨_, Heap.get?_update_self _ ho (Obj.isFreed_of_fields (Obj.data_mapFields hd _)), (Obj.cls_mapFields ..).trans hc, ?_⟩ (Heap.SameBut.update ..))⟩))
  rw [Obj.data_mapFields hd]
  simp [rawInt]
theorem nextOf_tuple_end {it t : Addr} {i : Nat} {items} {Q : Value → Shared → Prop} (hh : A.handled = none) (hit : s.heap.IsTupleIter it t i) (ht : s.heap.IsTuple t items) (hx : items[i]? = none)
    (hE : ∀ h' e, Heap.ExtBut it s.heap h' → (∃ o, h'.get? e = some o ∧ o.cls = .type "StopIteration") → E (.ref e) { s with heap := h' }) : wpAny (model prog w) A (Builtin.SmallTypes.nextOf (.ref it)) Q E s := by
  obtain ⟨o, ho, hc, hd⟩ := id hit
  obtain ⟨ol, hol, _, nl, hdl⟩ := ht
  unfold Builtin.SmallTypes.nextOf
  refine wpAny_bind (wpAny_callSpecial?_slot (name := Str.ofString "__next__") hit.typeIs F.slot_tuple_iterator_next (wpAny_call_entry F.slot_tuple_iterator_next hit.typeIs F.entry_tuple_iterator_next ?_ (F.args_tuple_iterator_next_1 _)))
  refine wpAny_bind (m := field (.ref it) 0) (wpAny_field ho hd (x := .ref t) rfl ?_)
  show wpAny _ _ (if (Value.ref t == Value.none) = true then _ else _) _ _ s
  rw [if_neg (show ¬ ((Value.ref t == Value.none) = true) from Bool.false_ne_true)]
  refine wpAny_bind (m := field (.ref it) 1) (wpAny_field ho hd (x := .int i 0) rfl ?_)
  refine wpAny_bind (m := seqItems? (.ref t)) (wpAny_seqItems hol hdl ?_)
  simp only [Int.toNat_natCast, hx]
  refine wpAny_bind (wpAny_rule (wpAny_bind (wpAny_setField ho hd (by simp) ?_)))
  refine wpAny_bind (m := newExc (.type "StopIteration") []) ?_
  simp only [newExc, newTuple]
  refine wpAny_bind (wpAny_newObj_type ?_ (by size_fits))
  refine wpAny_bind (m := firstArgMember _ _) (wpAny_of_eq (a := Value.none) (by first | rfl | (simp only [firstArgMember]; rfl)) ?_)
  refine wpAny_newObj_type ?_ (by size_fits)
  simp only [raiseNew]
  refine wpAny_bind (wpAny_handled ?_)
  first | rw [show A.in1.handled = none from hh] | rw [hh]
  exact wpAny_bind (wpAny_pure (wpAny_throw (hE _ _ (((Heap.SameBut.update ..).extBut.push _).push _) ⟨_, Heap.get?_push_size _ rfl, rfl⟩)))
end
theorem Hands.tuple {P : Program} {w : World} (it l : Addr) : Hands P w it l (fun k h => h.IsTupleIter it l k) (fun xs h => h.IsTuple l xs) where
  at_ := fun _ _ _ x y => x.at y
  sqAt := fun _ _ _ x y => x.at y
  obj := fun _ _ ⟨o, e, _, d⟩ => ⟨o, e, fun v z => by rw [d] at z; cases z⟩
  item := fun _ _ _ _ _ _ _ a b c d => nextOf_tuple_item a b c d
  fin := fun _ _ _ _ _ _ hh a b c d => nextOf_tuple_end hh a b c d
end L2
namespace L2
open PySem PySem.Spec PyProof.Rows
section
variable {prog : Program} {w : World} {A : Around} {E : Value → Shared → Prop} {s : Shared} {z TI TO i1 i2 l1 l2 : Addr} {st1 st2 : Nat → Heap → Prop} {sq1 sq2 : Array Value → Heap → Prop} {k1 k2 : Nat} {xs ys : Array Value} {x y a b : Value}
theorem zip_item {Q : Value → Shared → Prop} (G1 : Hands prog w i1 l1 st1 sq1) (G2 : Hands prog w i2 l2 st2 sq2) (D : ZipApart z TI TO i1 i2 l1 l2) (hz : IsZip s.heap z TI TO .none) (hTI : IsPair s.heap TI (.ref i1) (.ref i2)) (hTO : IsPair s.heap TO a b)
    (h1 : st1 k1 s.heap) (h2 : st2 k2 s.heap) (hl1 : sq1 xs s.heap) (hl2 : sq2 ys s.heap) (hx : xs[k1]? = some x) (hy : ys[k2]? = some y)
    (hQ : ∀ h', IsZip h' z TI TO (rawInt s.heap.objs.size) → IsPair h' TO x y → st1 (k1 + 1) h' → st2 (k2 + 1) h' → IsPair h' s.heap.objs.size x y → h'.objs.size = s.heap.objs.size + 1 →
      (∀ c o, c ≠ z → c ≠ TO → c ≠ i1 → c ≠ i2 → s.heap.get? c = some o → h'.get? c = some o) → Q (.ref s.heap.objs.size) { s with heap := h' }) :
    wpAny (model prog w) A (Builtin.«zip.__next__» ⟨[.ref z], []⟩) (fun fin s' => ∃ v, fin = .done (.ret v) ∧ Q v s') E s := by
  refine wpAny_bind (m := field (.ref z) 2) (wpAny_field hz rfl (x := .bool false) rfl ?_)
  refine wpAny_bind (m := field (.ref z) 3) (wpAny_field hz rfl (x := .ref TI) rfl ?_)
  refine wpAny_bind (wpAny_seqItems hTI rfl ?_)
  refine wpAny_bind (m := Builtin.SmallTypes.ownedTupleIsFree (.ref z)) ?_
  unfold Builtin.SmallTypes.ownedTupleIsFree
  refine wpAny_bind (wpAny_field hz rfl (x := .none) rfl (wpAny_pure ?_))
  simp only [if_true]
  refine wpAny_bind (wpAny_rule ?_)
  refine wpAny_bind (wpAny_field hz rfl (x := .ref TO) rfl ?_)
  refine wpAny_bind (wpAny_setField_rec hz (by simp) fun g1 z1 e1 => ?_)
  replace z1 : IsZip g1 z TI TO .ellipsis := z1
  refine wpAny_bind ?_
  simp only [List.zipIdx_cons, List.zipIdx_nil, List.forIn_cons, List.forIn_nil]
  refine wpAny_bind (wpAny_bind (wpAny_onRaise ?_))
  refine wpAny_bind (m := Builtin.SmallTypes.nextOf (.ref i1)) (G1.item _ _ _ _ _ _ _ (G1.at_ _ _ _ h1 fun o q => e1.extBut _ _ D.i1z q) (G1.sqAt _ _ _ hl1 fun o q => e1.extBut _ _ D.l1z q) hx fun g2 t1 e2 => wpAny_pure ?_)
  have o2 : IsPair g2 TO a b := e2.extBut _ _ D.TOi1 (e1.extBut _ _ D.TOz hTO)
  refine wpAny_bind (wpAny_seqItems o2 rfl ?_)
  refine wpAny_bind (wpAny_updateSeq_pair o2 fun g3 o3 e3 => ?_)
  replace o3 : IsPair g3 TO x b := o3
  refine wpAny_bind (wpAny_letGo (wpAny_pure ?_))
  refine wpAny_bind (wpAny_bind (wpAny_onRaise ?_))
  refine wpAny_bind (m := Builtin.SmallTypes.nextOf (.ref i2)) (G2.item _ _ _ _ _ _ _ (G2.at_ _ _ _ h2 fun o q => e3.extBut _ _ D.TOi2.symm (e2.extBut _ _ D.i12.symm (e1.extBut _ _ D.i2z q)))
    (G2.sqAt _ _ _ hl2 fun o q => e3.extBut _ _ D.l2TO (e2.extBut _ _ D.l2i1 (e1.extBut _ _ D.l2z q))) hy fun g4 t2 e4 => wpAny_pure ?_)
  have o4 : IsPair g4 TO x b := e4.extBut _ _ D.TOi2 o3
  refine wpAny_bind (wpAny_seqItems o4 rfl ?_)
  refine wpAny_bind (wpAny_updateSeq_pair o4 fun g5 o5 e5 => ?_)
  replace o5 : IsPair g5 TO x y := o5
  refine wpAny_bind (wpAny_letGo (wpAny_pure (wpAny_pure ?_)))
  refine wpAny_bind (wpAny_seqItems o5 rfl ?_)
  refine wpAny_bind (wpAny_newTuple ?_)
  have hsz : g5.objs.size = s.heap.objs.size := by rw [e5.1, e4.1, e3.1, e2.1, e1.1]
  have z5 : IsZip g5 z TI TO .ellipsis := e5.extBut _ _ D.TOz.symm (e4.extBut _ _ D.i2z.symm (e3.extBut _ _ D.TOz.symm (e2.extBut _ _ D.i1z.symm z1)))
  have kk : ∀ c o, c ≠ z → c ≠ TO → c ≠ i1 → c ≠ i2 → s.heap.get? c = some o → g5.get? c = some o := fun c o c1 c2 c3 c4 e =>
    e5.extBut _ _ c2 (e4.extBut _ _ c4 (e3.extBut _ _ c2 (e2.extBut _ _ c3 (e1.extBut _ _ c1 e))))
  have t15 : st1 (k1 + 1) g5 := G1.at_ _ _ _ t1 fun o q => e5.extBut _ _ D.TOi1.symm (e4.extBut _ _ D.i12 (e3.extBut _ _ D.TOi1.symm q))
  have t25 : st2 (k2 + 1) g5 := G2.at_ _ _ _ t2 fun o q => e5.extBut _ _ D.TOi2.symm q
  have hzlt : z < g5.objs.size := Heap.lt_size z5
  refine wpAny_bind (m := Builtin.SmallTypes.ownedTupleHandOut (.ref z) (.ref g5.objs.size)) ?_
  unfold Builtin.SmallTypes.ownedTupleHandOut
  have z6 : IsZip (g5.push { cls := .type "tuple", data := .seq #[x, y] }) z TI TO .ellipsis := Heap.get?_push_of_some _ z5
  refine wpAny_bind (wpAny_setField_rec z6 (by simp) fun g7 z7 e7 => ?_)
  replace z7 : IsZip g7 z TI TO (rawInt g5.objs.size) := z7
  refine wpAny_setField_rec z7 (by simp) fun g8 z8 e8 => ?_
  replace z8 : IsZip g8 z TI TO (rawInt g5.objs.size) := z8
  have up : ∀ c o, c ≠ z → g5.get? c = some o → g8.get? c = some o := fun c o c1 e => e8.extBut _ _ c1 (e7.extBut _ _ c1 (Heap.get?_push_of_some _ e))
  have t8 : IsPair g8 g5.objs.size x y := e8.extBut _ _ (Nat.ne_of_gt hzlt) (e7.extBut _ _ (Nat.ne_of_gt hzlt) (Heap.get?_push_size _ rfl))
  have n8 : g8.objs.size = g5.objs.size + 1 := by rw [e8.1, e7.1, Heap.size_push]
  rw [hsz] at z8 t8 n8
  refine wpAny_pure ⟨_, rfl, ?_⟩
  show Q (.ref g5.objs.size) _
  rw [hsz]
  exact hQ g8 z8 (up _ _ D.TOz o5) (G1.at_ _ _ _ t15 fun o e => up _ o D.i1z e) (G2.at_ _ _ _ t25 fun o e => up _ o D.i2z e) t8 n8 fun c o c1 c2 c3 c4 e => up c o c1 (kk c o c1 c2 c3 c4 e)
theorem zip_end {Q : Fin → Shared → Prop} (G1 : Hands prog w i1 l1 st1 sq1) (G2 : Hands prog w i2 l2 st2 sq2) (hh : A.handled = none) (D : ZipApart z TI TO i1 i2 l1 l2) (hz : IsZip s.heap z TI TO .none) (hTI : IsPair s.heap TI (.ref i1) (.ref i2)) (hTO : IsPair s.heap TO a b)
    (h1 : st1 k1 s.heap) (h2 : st2 k2 s.heap) (hl1 : sq1 xs s.heap) (hl2 : sq2 ys s.heap) (hend : xs[k1]? = none ∨ ys[k2]? = none)
    (hE : ∀ h' e, (∀ c o, c ≠ z → c ≠ TO → c ≠ i1 → c ≠ i2 → s.heap.get? c = some o → h'.get? c = some o) → (∃ o, h'.get? e = some o ∧ o.cls = .type "StopIteration") → E (.ref e) { s with heap := h' }) :
    wpAny (model prog w) A (Builtin.«zip.__next__» ⟨[.ref z], []⟩) Q E s := by
  refine wpAny_bind (m := field (.ref z) 2) (wpAny_field hz rfl (x := .bool false) rfl ?_)
  refine wpAny_bind (m := field (.ref z) 3) (wpAny_field hz rfl (x := .ref TI) rfl ?_)
  refine wpAny_bind (wpAny_seqItems hTI rfl ?_)
  refine wpAny_bind (m := Builtin.SmallTypes.ownedTupleIsFree (.ref z)) ?_
  unfold Builtin.SmallTypes.ownedTupleIsFree
  refine wpAny_bind (wpAny_field hz rfl (x := .none) rfl (wpAny_pure ?_))
  simp only [if_true]
  refine wpAny_bind (wpAny_rule ?_)
  refine wpAny_bind (wpAny_field hz rfl (x := .ref TO) rfl ?_)
  refine wpAny_bind (wpAny_setField_rec hz (by simp) fun g1 z1 e1 => ?_)
  replace z1 : IsZip g1 z TI TO .ellipsis := z1
  refine wpAny_bind ?_
  simp only [List.zipIdx_cons, List.zipIdx_nil, List.forIn_cons, List.forIn_nil]
  refine wpAny_bind (wpAny_bind (wpAny_onRaise ?_))
  have a1 := G1.at_ _ _ g1 h1 fun o q => e1.extBut _ _ D.i1z q
  have b1 := G1.sqAt _ _ g1 hl1 fun o q => e1.extBut _ _ D.l1z q
  cases hx : xs[k1]? with
  | none =>
    refine wpAny_bind (m := Builtin.SmallTypes.nextOf (.ref i1)) (G1.fin _ _ _ _ _ _ hh a1 b1 hx fun g2 e e2 he => ?_)
    obtain ⟨oe, hoe, hce⟩ := he
    have z2 : IsZip g2 z TI TO .ellipsis := e2 _ _ D.i1z.symm z1
    have hez : e ≠ z := fun x => by subst x; rw [z2] at hoe; cases hoe; simp at hce
    exact wpAny_setField_rec z2 (by simp) fun g3 _ e3 => hE g3 e (fun c o c1 _ c3 _ x => e3.extBut _ _ c1 (e2 _ _ c3 (e1.extBut _ _ c1 x))) ⟨oe, e3.extBut _ _ hez hoe, hce⟩
  | some x =>
    have hy : ys[k2]? = none := by rcases hend with h | h; rw [hx] at h; cases h; exact h
    refine wpAny_bind (m := Builtin.SmallTypes.nextOf (.ref i1)) (G1.item _ _ _ _ _ _ _ a1 b1 hx fun g2 t1 e2 => wpAny_pure ?_)
    have o2 : IsPair g2 TO a b := e2.extBut _ _ D.TOi1 (e1.extBut _ _ D.TOz hTO)
    refine wpAny_bind (wpAny_seqItems o2 rfl ?_)
    refine wpAny_bind (wpAny_updateSeq_pair o2 fun g3 o3 e3 => ?_)
    refine wpAny_bind (wpAny_letGo (wpAny_pure ?_))
    refine wpAny_bind (wpAny_bind (wpAny_onRaise ?_))
    refine wpAny_bind (m := Builtin.SmallTypes.nextOf (.ref i2)) (G2.fin _ _ _ _ _ _ hh (G2.at_ _ _ _ h2 fun o q => e3.extBut _ _ D.TOi2.symm (e2.extBut _ _ D.i12.symm (e1.extBut _ _ D.i2z q)))
      (G2.sqAt _ _ _ hl2 fun o q => e3.extBut _ _ D.l2TO (e2.extBut _ _ D.l2i1 (e1.extBut _ _ D.l2z q))) hy fun g4 e e4 he => ?_)
    obtain ⟨oe, hoe, hce⟩ := he
    have z4 : IsZip g4 z TI TO .ellipsis := e4 _ _ D.i2z.symm (e3.extBut _ _ D.TOz.symm (e2.extBut _ _ D.i1z.symm z1))
    have hez : e ≠ z := fun x => by subst x; rw [z4] at hoe; cases hoe; simp at hce
    exact wpAny_setField_rec z4 (by simp) fun g5 _ e5 => hE g5 e (fun c o c1 c2 c3 c4 x => e5.extBut _ _ c1 (e4 _ _ c4 (e3.extBut _ _ c2 (e2.extBut _ _ c3 (e1.extBut _ _ c1 x))))) ⟨oe, e5.extBut _ _ hez hoe, hce⟩
theorem pyNext_zip_item {Q : Option Value → Shared → Prop} (G1 : Hands prog w i1 l1 st1 sq1) (G2 : Hands prog w i2 l2 st2 sq2) (D : ZipApart z TI TO i1 i2 l1 l2) (hz : IsZip s.heap z TI TO .none) (hTI : IsPair s.heap TI (.ref i1) (.ref i2)) (hTO : IsPair s.heap TO a b)
    (h1 : st1 k1 s.heap) (h2 : st2 k2 s.heap) (hl1 : sq1 xs s.heap) (hl2 : sq2 ys s.heap) (hx : xs[k1]? = some x) (hy : ys[k2]? = some y)
    (hQ : ∀ h', IsZip h' z TI TO (rawInt s.heap.objs.size) → IsPair h' TO x y → st1 (k1 + 1) h' → st2 (k2 + 1) h' → IsPair h' s.heap.objs.size x y → h'.objs.size = s.heap.objs.size + 1 →
      (∀ c o, c ≠ z → c ≠ TO → c ≠ i1 → c ≠ i2 → s.heap.get? c = some o → h'.get? c = some o) → Q (some (.ref s.heap.objs.size)) { s with heap := h' }) : wpAny (model prog w) A (pyNext (.ref z)) Q E s := by
  have hT : s.TypeIs (.ref z) "zip" := ⟨_, hz, rfl⟩
  unfold pyNext
  exact wpAny_bind (wpAny_attempt (wpAny_callSpecial?_slot (name := Str.ofString "__next__") hT F.slot_zip_next
    (wpAny_call_entry F.slot_zip_next hT F.entry_zip_next (zip_item G1 G2 D hz hTI hTO h1 h2 hl1 hl2 hx hy fun h' a1 a2 a3 a4 a5 a6 a7 => wpAny_pure (hQ h' a1 a2 a3 a4 a5 a6 a7)) (F.args_zip_next_1 _))))
theorem pyNext_zip_end {Q : Option Value → Shared → Prop} (G1 : Hands prog w i1 l1 st1 sq1) (G2 : Hands prog w i2 l2 st2 sq2) (hh : A.handled = none) (D : ZipApart z TI TO i1 i2 l1 l2) (hz : IsZip s.heap z TI TO .none) (hTI : IsPair s.heap TI (.ref i1) (.ref i2)) (hTO : IsPair s.heap TO a b)
    (h1 : st1 k1 s.heap) (h2 : st2 k2 s.heap) (hl1 : sq1 xs s.heap) (hl2 : sq2 ys s.heap) (hend : xs[k1]? = none ∨ ys[k2]? = none)
    (hQ : ∀ h', (∀ c o, c ≠ z → c ≠ TO → c ≠ i1 → c ≠ i2 → s.heap.get? c = some o → h'.get? c = some o) → Q none { s with heap := h' }) : wpAny (model prog w) A (pyNext (.ref z)) Q E s := by
  have hT : s.TypeIs (.ref z) "zip" := ⟨_, hz, rfl⟩
  unfold pyNext
  refine wpAny_bind (wpAny_attempt (wpAny_callSpecial?_slot (name := Str.ofString "__next__") hT F.slot_zip_next
    (wpAny_call_entry F.slot_zip_next hT F.entry_zip_next (zip_end G1 G2 hh D hz hTI hTO h1 h2 hl1 hl2 hend fun h' e hk he => ?_) (F.args_zip_next_1 _))))
  obtain ⟨o, ho, hc⟩ := he
  exact wpAny_bind (wpAny_isInstance (T := "StopIteration") (b := true) ⟨o, ho, hc⟩ isSubtype_stop (wpAny_pure (hQ _ hk)))
end
end L2
namespace L2
open PySem PySem.Spec PyProof.Rows
/-- how a walk over l begins -/
structure Begins (l : Addr) (nm : String) (sq : Array Value → Heap → Prop) : Prop where
  iter : ∀ (P : Program) (w : World) (A : Around) (s : Shared) (xs : Array Value) (Q : Value → Shared → Prop) (E : Value → Shared → Prop), sq xs s.heap →
    Q (.ref s.heap.objs.size) { s with heap := s.heap.push { cls := .type nm, data := .fields #[.ref l, .int 0 0] } } → wpAny (model P w) A (pyIter (.ref l)) Q E s
  sqAt : ∀ xs h h', sq xs h → (∀ o, h.get? l = some o → h'.get? l = some o) → sq xs h'
theorem Begins.list (l : Addr) : Begins l "list_iterator" (fun xs h => h.IsList l xs) := ⟨fun _ _ _ _ _ _ _ a b => wpAny_pyIter_list a b, fun _ _ _ x y => x.at y⟩
theorem Begins.tuple (l : Addr) : Begins l "tuple_iterator" (fun xs h => h.IsTuple l xs) := ⟨fun _ _ _ _ _ _ _ a b => wpAny_pyIter_tuple a b, fun _ _ _ x y => x.at y⟩
section
variable {l1 l2 : Addr} {n1 n2 : String} {sq1 sq2 : Array Value → Heap → Prop}
abbrev zh1 (h : Heap) (n1 : String) (l1 : Addr) : Heap := h.push { cls := .type n1, data := .fields #[.ref l1, .int 0 0] }
abbrev zh2 (h : Heap) (n1 n2 : String) (l1 l2 : Addr) : Heap := (zh1 h n1 l1).push { cls := .type n2, data := .fields #[.ref l2, .int 0 0] }
abbrev zh3 (h : Heap) (n1 n2 : String) (l1 l2 : Addr) : Heap := (zh2 h n1 n2 l1 l2).push { cls := .type "tuple", data := .seq #[.ref h.objs.size, .ref (zh1 h n1 l1).objs.size] }
abbrev zh4 (h : Heap) (n1 n2 : String) (l1 l2 : Addr) : Heap := (zh3 h n1 n2 l1 l2).push { cls := .type "tuple", data := .seq #[.none, .none] }
abbrev zh5 (h : Heap) (n1 n2 : String) (l1 l2 : Addr) : Heap := (zh4 h n1 n2 l1 l2).push { cls := .type "zip", data := .fields #[.none, .bool false, .bool false, .ref (zh2 h n1 n2 l1 l2).objs.size, .ref (zh3 h n1 n2 l1 l2).objs.size] }
theorem meets_zip (B1 : Begins l1 n1 sq1) (B2 : Begins l2 n2 sq2) (xs ys : Array Value) :
    Meets (Builtin.«zip.__new__» ⟨[.type "zip", .ref l1, .ref l2], []⟩) (fun _ R s => sq1 xs s.heap ∧ sq2 ys s.heap ∧
      R (.ok (.ret (.ref (zh4 s.heap n1 n2 l1 l2).objs.size))) { s with heap := zh5 s.heap n1 n2 l1 l2 }) :=
  .of_wp fun prog w A R s h => by
    obtain ⟨hp, g, d, tk, os⟩ := s
    obtain ⟨a, b, h⟩ := h
    have hsub := sub_zip
    have b' : sq2 ys (Shared.heap ⟨hp.push { cls := .type n1, data := .fields #[.ref l1, .int 0 0] }, g, d, tk, os⟩) := B2.sqAt _ _ _ b fun o q => Heap.get?_push_of_some _ q
    have a' : sq1 xs (Shared.heap ⟨hp, g, d, tk, os⟩) := a
    wp_walk using B1.iter _ _ _ _ _ _ _ a', B2.iter _ _ _ _ _ _ _ b'
    exact ⟨_, rfl, h⟩
variable {prog : Program} {w : World} {A : Around} {E : Value → Shared → Prop} {s : Shared}
theorem call_zip (B1 : Begins l1 n1 sq1) (B2 : Begins l2 n2 sq2) {xs ys : Array Value} {Q : Value → Shared → Prop} (hl1 : sq1 xs s.heap) (hl2 : sq2 ys s.heap)
    (h : ∀ h', IsZip h' (s.heap.objs.size + 4) (s.heap.objs.size + 2) (s.heap.objs.size + 3) .none → IsPair h' (s.heap.objs.size + 2) (.ref s.heap.objs.size) (.ref (s.heap.objs.size + 1)) →
      IsPair h' (s.heap.objs.size + 3) .none .none → h'.get? s.heap.objs.size = some { cls := .type n1, data := .fields #[.ref l1, .int 0 0] } → h'.get? (s.heap.objs.size + 1) = some { cls := .type n2, data := .fields #[.ref l2, .int 0 0] } →
      (∀ c o, s.heap.get? c = some o → h'.get? c = some o) → Q (.ref (s.heap.objs.size + 4)) { s with heap := h' }) :
    wpAny (model prog w) A (call (.type "zip") [.ref l1, .ref l2]) Q E s := by
  refine callType_new F.called_zip (by decide) (F.typeCall_zip_2 _ _) (F.newCall_zip_2 _ _) (fun obj => F.args_object_init_3 obj _ _) F.entry_zip_new (meets_zip B1 B2 xs ys) ⟨hl1, hl2, ?_⟩
  have z1 : (zh1 s.heap n1 l1).objs.size = s.heap.objs.size + 1 := Heap.size_push ..
  have z2 : (zh2 s.heap n1 n2 l1 l2).objs.size = s.heap.objs.size + 2 := by rw [Heap.size_push, z1]
  have z3 : (zh3 s.heap n1 n2 l1 l2).objs.size = s.heap.objs.size + 3 := by rw [Heap.size_push, z2]
  have z4 : (zh4 s.heap n1 n2 l1 l2).objs.size = s.heap.objs.size + 4 := by rw [Heap.size_push, z3]
  have g5 : (zh5 s.heap n1 n2 l1 l2).get? (zh4 s.heap n1 n2 l1 l2).objs.size = some _ := Heap.get?_push_size _ rfl
  have g4 : (zh5 s.heap n1 n2 l1 l2).get? (zh3 s.heap n1 n2 l1 l2).objs.size = some _ := Heap.get?_push_of_some _ (Heap.get?_push_size _ rfl)
  have g3 : (zh5 s.heap n1 n2 l1 l2).get? (zh2 s.heap n1 n2 l1 l2).objs.size = some _ := Heap.get?_push_of_some _ (Heap.get?_push_of_some _ (Heap.get?_push_size _ rfl))
  have g2 : (zh5 s.heap n1 n2 l1 l2).get? (zh1 s.heap n1 l1).objs.size = some _ := Heap.get?_push_of_some _ (Heap.get?_push_of_some _ (Heap.get?_push_of_some _ (Heap.get?_push_size _ rfl)))
  have g1 : (zh5 s.heap n1 n2 l1 l2).get? s.heap.objs.size = some _ := Heap.get?_push_of_some _ (Heap.get?_push_of_some _ (Heap.get?_push_of_some _ (Heap.get?_push_of_some _ (Heap.get?_push_size _ rfl))))
  show _ ∧ _
  rw [z2, z3, z4] at g5
  rw [z1, z2] at g3
  rw [z3] at g4
  rw [z1] at g2
  rw [z4]
  exact ⟨⟨_, g5, rfl⟩, h _ g5 g3 g4 g1 g2 fun c o x => Heap.get?_push_of_some _ (Heap.get?_push_of_some _ (Heap.get?_push_of_some _ (Heap.get?_push_of_some _ (Heap.get?_push_of_some _ x))))⟩
end
/-! ### the turns of a zip -/
section
variable {X : Cx} {pins : List (Addr × Obj)} {σ : St} {H : Hp} {s : Shared} {h' : Heap}
/-- untracked records of ours have turned -/
theorem Inv.turnedL {t' : Nat} (ch : List Addr) (I : Inv X pins σ H s) (k : ∀ b o, b ∉ ch → s.heap.get? b = some o → h'.get? b = some o) (hf : ∀ b ∈ ch, FpOk X pins H b) : Inv X pins σ H { s with heap := h', toks := t' } := by
  have nit : ∀ b u, H b = some u → b ∉ ch := fun b u e z => by rw [(hf b z).1] at e; cases e
  refine I.step (g' := s.gens) (d' := s.drawn) (ch := ch) (fun b hb => ⟨(hf b hb).2.2.2.1, (hf b hb).2.1, (hf b hb).2.2.2.2.1, (hf b hb).2.2.2.2.2⟩) (fun b o _ _ hc e _ => k b o hc e) (fun b o _ _ hc e _ => ⟨o.slots, k b o hc e⟩) (fun _ _ _ _ n => n)
    (fun b o hc e => ⟨o, k b o hc e⟩) (fun _ _ e => e) (fun _ _ _ e => e) (fun b ps e => ⟨#[], by rw [e]; simp⟩) (fun m hm => ?_) (fun b u e => ?_) I.bare
  · obtain ⟨o, es, ep, ho, r⟩ := hm
    exact ⟨o, es, ep, k _ o (fun z => (hf _ z).2.1 rfl) ho, r⟩
  · refine (I.hok b u e).stay (fun c v hc q => k c v ?_ q) (fun _ q => q) fun _ _ q => q
    rcases hc with z | z
    · rw [z]; exact nit b u e
    · exact nit c _ z
/-- .. and a new tuple is laid -/
theorem Inv.turnedNew {t' : Nat} {T : Addr} {xs : List V} (ch : List Addr) (I : Inv X pins σ H s) (k : ∀ b o, b ∉ ch → s.heap.get? b = some o → h'.get? b = some o) (hf : ∀ b ∈ ch, FpOk X pins H b) (hT : s.heap.objs.size ≤ T)
    (new : ObjOk X.prog X.w (upd H T (.tup xs)) h' T (.tup xs)) : Inv X pins σ (upd H T (.tup xs)) { s with heap := h', toks := t' } := by
  have hn : H T = none := I.hok.fresh hT
  have nit : ∀ b u, H b = some u → b ∉ ch := fun b u e z => by rw [(hf b z).1] at e; cases e
  have neT : ∀ b o, s.heap.get? b = some o → b ≠ T := fun b o e z => by subst z; exact absurd (Nat.lt_of_lt_of_le (Heap.lt_size e) hT) (Nat.lt_irrefl _)
  refine I.step (g' := s.gens) (d' := s.drawn) (ch := ch) (fun b hb => ⟨(hf b hb).2.2.2.1, (hf b hb).2.1, (hf b hb).2.2.2.2.1, (hf b hb).2.2.2.2.2⟩) (fun b o _ _ hc e _ => k b o hc e) (fun b o _ _ hc e _ => ⟨o.slots, k b o hc e⟩) (fun b o _ e n => by rw [upd_ne (neT b o e)]; exact n)
    (fun b o hc e => ⟨o, k b o hc e⟩) (fun b _ e => by rw [upd_ne (ne_of_none e hn)]; exact e) (fun b _ _ e => by rw [upd_ne (ne_of_none e hn)]; exact e) (fun b ps e => ⟨#[], by rw [upd_ne (ne_of_none e hn), e]; simp⟩) (fun m hm => ?_) (fun b u e => ?_) I.bare
  · obtain ⟨o, es, ep, ho, r⟩ := hm
    exact ⟨o, es, ep, k _ o (fun z => (hf _ z).2.1 rfl) ho, r⟩
  · by_cases hb : b = T
    · subst hb
      rw [upd_same] at e
      cases e
      exact new
    · rw [upd_ne hb] at e
      refine (I.hok b u e).stay (fun c v hc q => k c v ?_ q) (fun c q => by rw [upd_ne (ne_of_none q hn)]; exact q) fun c _ q => by rw [upd_ne (ne_of_none q hn)]; exact q
      rcases hc with z | z
      · rw [z]; exact nit b u e
      · exact nit c _ z
end
end L2
namespace L2
open PySem PySem.Spec PyProof.Rows
/-! ### lists (true) and tuples (false) -/
def SqB (b : Bool) (K : PySem.W.Frag) (H : Hp) (a : Addr) (xs : List V) : Prop := match b with | true => SqL K H a xs | false => SqT K H a xs
def itB (b : Bool) (it l : Addr) (k : Nat) (h : Heap) : Prop := match b with | true => h.IsListIter it l k | false => h.IsTupleIter it l k
def sqB (b : Bool) (l : Addr) (xs : Array Value) (h : Heap) : Prop := match b with | true => h.IsList l xs | false => h.IsTuple l xs
def nmB (b : Bool) : String := match b with | true => "list_iterator" | false => "tuple_iterator"
theorem handsB {P : Program} {w : World} (b : Bool) (it l : Addr) : Hands P w it l (itB b it l) (sqB b l) := match b with | true => Hands.list it l | false => Hands.tuple it l
theorem beginsB (b : Bool) (l : Addr) : Begins l (nmB b) (sqB b l) := match b with | true => Begins.list l | false => Begins.tuple l
theorem itB_new {b : Bool} {it l : Addr} {h : Heap} (e : h.get? it = some { cls := .type (nmB b), data := .fields #[.ref l, .int 0 0] }) : itB b it l 0 h := match b, e with | true, e => ⟨_, e, rfl, rfl⟩ | false, e => ⟨_, e, rfl, rfl⟩
section
variable {X : Cx} {pins : List (Addr × Obj)} {σ : St} {H : Hp} {s : Shared} {a : Addr} {xs ys : List V} {b : Bool}
theorem Inv.sqB (I : Inv X pins σ H s) (h : SqB b X.K H a xs) : ∃ its : List Value, Vals xs its ∧ L2.sqB b a its.toArray s.heap := by
  cases b with
  | true => obtain ⟨its, r, p, _⟩ := I.list h; exact ⟨its, r, p.isList⟩
  | false => obtain ⟨its, r, p, _⟩ := I.tuple h; exact ⟨its, r, p⟩
theorem Inv.sqB_inj (I : Inv X pins σ H s) (h : SqB b X.K H a xs) (h' : SqB b X.K H a ys) : xs = ys := by
  cases b with
  | true => exact I.list_inj h h'
  | false => exact I.tuple_inj h h'
theorem sqB_lt {its : Array Value} {h : Heap} (e : L2.sqB b a its h) : a < h.objs.size := by
  cases b with
  | true => obtain ⟨o, e, _⟩ := e; exact Heap.lt_size e
  | false => obtain ⟨o, e, _⟩ := e; exact Heap.lt_size e
end
def Itz (K : PySem.W.Frag) (b1 b2 : Bool) (a1 a2 : Addr) : It :=
  ⟨fun i H => ∃ xs ys x y, SqB b1 K H a1 xs ∧ SqB b2 K H a2 ys ∧ xs[i]? = some x ∧ ys[i]? = some y,
   fun i H v H' => ∃ T x y, v = .ref T ∧ H T = none ∧ H' = upd H T (.tup [x, y]) ∧ ∀ xs ys, SqB b1 K H a1 xs → SqB b2 K H a2 ys → xs[i]? = some x ∧ ys[i]? = some y,
   fun i H => ∃ xs ys, SqB b1 K H a1 xs ∧ SqB b2 K H a2 ys ∧ (xs.length ≤ i ∨ ys.length ≤ i)⟩
def tnZ (b1 b2 : Bool) (z TI TO i1 i2 a1 a2 : Addr) (i : Nat) (h : Heap) : Prop :=
  IsZip h z TI TO .none ∧ IsPair h TI (.ref i1) (.ref i2) ∧ (∃ a b, IsPair h TO a b) ∧ itB b1 i1 a1 i h ∧ itB b2 i2 a2 i h
theorem turn_zip {P : Program} {w : World} {K : PySem.W.Frag} {es : List Expr} {k : Nat} {pos : Pos} (b1 b2 : Bool) {z TI TO i1 i2 a1 a2 : Addr} (D : ZipApart z TI TO i1 i2 a1 a2) :
    Turn P w K (.Tuple es k pos) (Itz K b1 b2 a1 a2) [z, TI, TO, i1, i2] z (tnZ b1 b2 z TI TO i1 i2 a1 a2) where
  mem := by simp
  obj := fun i h st b hb => by
    obtain ⟨hz, hTI, ⟨x, y, hTO⟩, h1, h2⟩ := st
    have hb' : b = z ∨ b = TI ∨ b = TO ∨ b = i1 ∨ b = i2 := by simpa using hb
    rcases hb' with rfl | rfl | rfl | rfl | rfl
    · exact ⟨_, hz, fun v q => by cases q⟩
    · exact ⟨_, hTI, fun v q => by cases q⟩
    · exact ⟨_, hTO, fun v q => by cases q⟩
    · exact (handsB (P := P) (w := w) b1 b a1).obj _ _ h1
    · exact (handsB (P := P) (w := w) b2 b a2).obj _ _ h2
  keep := fun i h h' st q => by
    obtain ⟨hz, hTI, ⟨x, y, hTO⟩, h1, h2⟩ := st
    exact ⟨q z (by simp) _ hz, q TI (by simp) _ hTI, ⟨x, y, q TO (by simp) _ hTO⟩, (handsB (P := P) (w := w) b1 i1 a1).at_ _ _ _ h1 fun o e => q i1 (by simp) o e, (handsB (P := P) (w := w) b2 i2 a2).at_ _ _ _ h2 fun o e => q i2 (by simp) o e⟩
  item := by
    intro X hP hw hK hc i pins s σ H E I hf st hg
    subst hP hw hK
    obtain ⟨xs, ys, x, y, q1, q2, hx, hy⟩ := hg
    obtain ⟨its, rv, p⟩ := I.sqB q1
    obtain ⟨jts, rw', p'⟩ := I.sqB q2
    obtain ⟨u, hu, ru⟩ := rv.get hx
    obtain ⟨u', hu', ru'⟩ := rw'.get hy
    obtain ⟨hz, hTI, ⟨c, d, hTO⟩, h1, h2⟩ := st
    have hn : H s.heap.objs.size = none := I.hok.fresh (Nat.le_refl _)
    have old : ∀ b ∈ [z, TI, TO, i1, i2], b ≠ s.heap.objs.size := fun b hb e => by
      have : ∃ o, s.heap.get? b = some o := by
        have hb' : b = z ∨ b = TI ∨ b = TO ∨ b = i1 ∨ b = i2 := by simpa using hb
        rcases hb' with rfl | rfl | rfl | rfl | rfl
        · exact ⟨_, hz⟩
        · exact ⟨_, hTI⟩
        · exact ⟨_, hTO⟩
        · obtain ⟨o, e, _⟩ := (handsB (P := X.prog) (w := X.w) b1 b a1).obj _ _ h1; exact ⟨o, e⟩
        · obtain ⟨o, e, _⟩ := (handsB (P := X.prog) (w := X.w) b2 b a2).obj _ _ h2; exact ⟨o, e⟩
      obtain ⟨o, eo⟩ := this
      exact absurd (Heap.lt_size eo) (by rw [e]; exact Nat.lt_irrefl _)
    refine pyNext_zip_item (handsB b1 i1 a1) (handsB b2 i2 a2) D hz hTI hTO h1 h2 p p' (x := u) (y := u') (by simpa using hu) (by simpa using hu') fun h' c1 c2 c3 c4 c5 c6 c7 => ?_
    have I1 : Inv X pins σ (upd H s.heap.objs.size (.tup [x, y])) { s with heap := h' } := I.turnedNew (t' := s.toks) [z, TO, i1, i2] (fun b o hb e => c7 b o (fun q => hb (by simp [q])) (fun q => hb (by simp [q])) (fun q => hb (by simp [q])) (fun q => hb (by simp [q])) e)
      (fun b hb => hf b (by have hb' : b = z ∨ b = TO ∨ b = i1 ∨ b = i2 := by simpa using hb
                            rcases hb' with rfl | rfl | rfl | rfl <;> simp)) (Nat.le_refl _) ⟨Nat.le_of_ble_eq_true rfl, [u, u'], .cons ru (.cons ru' .nil), ⟨_, c5, rfl, _, rfl⟩⟩
    refine ⟨_, rfl, wpAny_letOwnedTupleGo_zip (s := { s with heap := h' }) c1 fun h2' g1 g2 => ?_⟩
    refine ⟨.ref s.heap.objs.size, upd H s.heap.objs.size (.tup [x, y]), ?_, rfl, ⟨_, x, y, rfl, hn, rfl, fun xs' ys' e1 e2 => by rw [I.sqB_inj e1 q1, I.sqB_inj e2 q2]; exact ⟨hx, hy⟩⟩, ?_, fun b hb => ?_⟩
    · refine I1.turnedL (t' := s.toks) [z] (fun b o hb e => g2.extBut _ _ (fun q => hb (by simp [q])) e) fun b hb => ?_
      have e : b = z := by simpa using hb
      subst e
      obtain ⟨f0, f1, f2, f3, f4, f5⟩ := hf b (by simp)
      exact ⟨by rw [upd_ne (old b (by simp))]; exact f0, f1, f2, f3, f4, f5⟩
    · exact ⟨g1, g2.extBut _ _ D.TIz (c7 _ _ D.TIz D.TITO D.TIi1 D.TIi2 hTI), ⟨_, _, g2.extBut _ _ D.TOz c2⟩, (handsB (P := X.prog) (w := X.w) b1 i1 a1).at_ _ _ _ c3 fun o e => g2.extBut _ _ D.i1z e, (handsB (P := X.prog) (w := X.w) b2 i2 a2).at_ _ _ _ c4 fun o e => g2.extBut _ _ D.i2z e⟩
    · rw [upd_ne (old b hb)]
      exact (hf b hb).1
  done := by
    intro X hP hw hK hc i pins s σ H E I hf st hg
    subst hP hw hK
    obtain ⟨xs, ys, q1, q2, hx⟩ := hg
    obtain ⟨its, rv, p⟩ := I.sqB q1
    obtain ⟨jts, rw', p'⟩ := I.sqB q2
    obtain ⟨hz, hTI, ⟨c, d, hTO⟩, h1, h2⟩ := st
    have l1 := rv.length
    have l2 := rw'.length
    refine pyNext_zip_end (handsB b1 i1 a1) (handsB b2 i2 a2) (I.ok.hd hc) D hz hTI hTO h1 h2 p p' (by rcases hx with hx | hx; · left; simp; omega
                                                                                                       · right; simp; omega) fun h' kk => ⟨rfl, I.turnedL (t' := s.toks) [z, TO, i1, i2] (fun b o hb e => kk b o (fun q => hb (by simp [q])) (fun q => hb (by simp [q])) (fun q => hb (by simp [q])) (fun q => hb (by simp [q])) e) fun b hb => hf b ?_⟩
    have hb' : b = z ∨ b = TO ∨ b = i1 ∨ b = i2 := by simpa using hb
    rcases hb' with rfl | rfl | rfl | rfl <;> simp
  self := fun _ _ _ _ _ st h => wpAny_pyIter_zip st.1 h
theorem zapart (n l1 l2 : Nat) (h1 : l1 < n) (h2 : l2 < n) : ZipApart (n + 4) (n + 2) (n + 3) n (n + 1) l1 l2 := by
  constructor <;> (intro e; simp only [Addr] at e; omega)
/-- zip(a, b) walked, its pairs unpacked at once -/
def iZip (K : PySem.W.Frag) (ta : TA) : TI := fun σ H R => ta σ H fun vs H1 => ∃ a1 a2 b1 b2, vs = [.ref a1, .ref a2] ∧ (∃ xs, SqB b1 K H1 a1 xs) ∧ (∃ ys, SqB b2 K H1 a2 ys) ∧ R (Itz K b1 b2 a1 a2) H1
theorem pi_zip {X : Cx} {a b : Expr} {ta : TA} {p pos tp : Pos} {es : List Expr} {k : Nat} (hg : Gl X "zip") (hm : X.mg "zip" = none) (ha : PA X [a, b] ta) (hs : starEach [a, b] X.env = [(false, eval a X.env), (false, eval b X.env)] := by rfl) (hs2 : starEach [b] X.env = [(false, eval b X.env)] := by rfl) :
    PI X (.Tuple es k tp) (.Call (.Name "zip" p) [a, b] [] pos) (iZip X.K ta) := by
  intro pins s σ H R I h
  refine Call_ (ld_blt I hg hm boot_zip (PyProof.Rows.callWith_type1 (thn (ha pos pins s σ H _ I h) fun us s1 ⟨vs, H1, I1, r1, q1⟩ => ?_) (by rw [hs, hs2]) (by rw [hs2]; rfl)))
  obtain ⟨a1, a2, b1, b2, e, ⟨xs, e1⟩, ⟨ys, e2⟩, q⟩ := q1
  subst e
  cases r1 with
  | cons r rr =>
    cases rr with
    | cons r' rr =>
      cases rr
      cases r
      cases r'
      obtain ⟨its, rv, p1⟩ := I1.sqB e1
      obtain ⟨jts, rw', p2⟩ := I1.sqB e2
      refine call_zip (beginsB b1 a1) (beginsB b2 a2) p1 p2 fun h' c1 c2 c3 c4 c5 c6 => ?_
      refine wpAny_pyIter_zip (s := { s1 with heap := h' }) c1 ?_
      have fr : ∀ j, H1 (s1.heap.objs.size + j) = none := fun j => I1.hok.fresh (Nat.le_add_right _ _)
      refine ⟨_, [s1.heap.objs.size + 4, s1.heap.objs.size + 2, s1.heap.objs.size + 3, s1.heap.objs.size, s1.heap.objs.size + 1], _, _, H1, rfl, I1.kept (t' := s1.toks) c6, turn_zip b1 b2 (zapart _ _ _ (sqB_lt p1) (sqB_lt p2)), ⟨c1, c2, ⟨_, _, c3⟩, itB_new c4, itB_new c5⟩, fun b hb => ?_, q⟩
      have hb' : b = s1.heap.objs.size + 4 ∨ b = s1.heap.objs.size + 2 ∨ b = s1.heap.objs.size + 3 ∨ b = s1.heap.objs.size ∨ b = s1.heap.objs.size + 1 := by simpa using hb
      rcases hb' with rfl | rfl | rfl | rfl | rfl
      · exact I1.fpOk (Nat.le_add_right _ _) (fr 4)
      · exact I1.fpOk (Nat.le_add_right _ _) (fr 2)
      · exact I1.fpOk (Nat.le_add_right _ _) (fr 3)
      · exact I1.fpOk (Nat.le_refl _) (fr 0)
      · exact I1.fpOk (Nat.le_add_right _ _) (fr 1)
end L2
/-! ## comprehensions over zip, all -/
namespace DL
open PySem PySem.Spec PyProof.Rows L2
section
variable {K : Fg} {ok : DH → Prop} {gg : DG} {ge : DE} {k : DK} {ds : List D} {L : Lo} {S : DH} {σ : L2.St} {H : Hp} {J : It} {p : Addr} {Q : V → Hp → Prop}
theorem comp_coreG (hL : Lc K H L σ) (hS : Hs K H S) (hp : H p = none) (h : dCLoop ok p gg (bdAll ge) k ds [] L (put S p (.lst [])))
    (n : ∀ d S' v H', k d S' → Kp H H' → Hs K H' S' → IsD K H' d v → Q v H')
    (hgo : ∀ i d S1 H1, ds[i]? = some d → Kp H H1 → Hs K H1 S1 → ok S1 → J.go i H1 ∧ ∀ x H', J.yld i H1 x H' → Kp H1 H' ∧ Hs K H' S1 ∧ IsD K H' d x)
    (hst : ∀ S1 H1, Kp H H1 → Hs K H1 S1 → ok S1 → J.stop ds.length H1) :
    ∃ W : Nat → Nat → L2.St → Hp → Prop, (∃ m, W 0 m σ (upd H p (.lst []))) ∧ ∀ i m σ' H', W i m σ' H' →
      (J.stop i H' ∧ Q (.ref p) H') ∨ (J.go i H' ∧ ∃ N : L2.St → Hp → Prop, (∀ σ2 H2, N σ2 H2 → ∃ m', m' < m ∧ W (i + 1) m' σ2 H2) ∧ ∀ x H2, J.yld i H' x H2 → upG K gg x σ' H2 fun σ3 H3 => up K ge σ3 H3 fun v H4 => ∃ ys, H4 p = some (.lst ys) ∧ ys.length < sizeLine ∧ N σ3 (upd H4 p (.lst (ys ++ [v])))) := by
  refine ⟨fun i m σ1 H1 => m = ds.length - i ∧ i ≤ ds.length ∧ ∃ acc L1 S1, Lc K H1 L1 σ1 ∧ Hs K H1 S1 ∧ Kp H H1 ∧ dCLoop ok p gg (bdAll ge) k (ds.drop i) acc L1 S1, ⟨ds.length, by simp, Nat.zero_le _, [], L, _, hL.kp (Kp.new hp), hS.newL hp IsDs.nil, Kp.new hp, h⟩, ?_⟩
  rintro i m σ1 H1 ⟨rfl, hi, acc, L1, S1, hL1, hS1, k1, w1⟩
  by_cases hlt : i < ds.length
  · have e : ds.drop i = ds[i] :: ds.drop (i + 1) := List.drop_eq_getElem_cons hlt
    rw [e] at w1
    obtain ⟨o1, w1⟩ := w1
    obtain ⟨g1, y1⟩ := hgo i ds[i] S1 H1 (by simp [hlt]) k1 hS1 o1
    refine .inr ⟨g1, fun σ' H' => i + 1 ≤ ds.length ∧ ∃ acc L' S', Lc K H' L' σ' ∧ Hs K H' S' ∧ Kp H H' ∧ dCLoop ok p gg (bdAll ge) k (ds.drop (i + 1)) acc L' S', fun σ' H' ⟨q1, q2⟩ => ⟨ds.length - (i + 1), by omega, rfl, q1, q2⟩, fun x H' y => ?_⟩
    obtain ⟨k0, hS0, ix⟩ := y1 x H' y
    refine ⟨ds[i], L1, S1, _, ix, hL1.kp k0, hS0, w1, fun L2 S2 σ2 H2 q k2 hL2 hS2 => up.go hL2 hS2 q fun d S3 v H3 h3 k3 hL3 hS3 i3 => ?_⟩
    obtain ⟨z1, z2, z3⟩ := h3
    obtain ⟨xs, hl, j⟩ := hS3.lst z1
    have k4 : Kp H3 (upd H3 p (.lst (xs ++ [v]))) := Kp.mut hl (fun z => z)
    exact ⟨xs, hl, by rw [← j.length]; exact z2, hlt, _, L2, _, hL3.kp k4, hS3.setL hl (j.append (IsDs.cons i3 IsDs.nil)), (((k1.trans k0).trans k2).trans k3).trans k4, z3⟩
  · have e : i = ds.length := by omega
    subst e
    rw [List.drop_length] at w1
    obtain ⟨o1, w1⟩ := w1
    exact .inl ⟨hst S1 H1 k1 hS1 o1, n _ S1 _ H1 w1 k1 hS1 (isRef.mpr rfl)⟩
end
/-- a list or a tuple, its things behind it -/
theorem seq_kd {K : Fg} {S1 : DH} {H1 : Hp} {d : D} {v : V} {p : List D × Option Addr} (hS1 : Hs K H1 S1) (i1 : IsD K H1 d v) (hp : dItems S1 d = some p) : ∃ a b, v = .ref a ∧
    (∃ xs, SqB b K H1 a xs) ∧ ∀ S2 H2, Kp H1 H2 → Hs K H2 S2 → okFor p S2 → ∃ xs, SqB b K H2 a xs ∧ IsDs K H2 p.1 xs := by
  cases d with
  | tup ds =>
    cases hp
    obtain ⟨a, xs, rfl, t, j⟩ := isTup.mp i1
    exact ⟨a, false, rfl, ⟨xs, t⟩, fun S2 H2 k2 _ _ => ⟨xs, k2.tup t, j.kp k2⟩⟩
  | rl ds =>
    cases hp
    obtain ⟨a, xs, rfl, t, j⟩ := isRl.mp i1
    exact ⟨a, true, rfl, ⟨xs, t.sq⟩, fun S2 H2 k2 _ _ => ⟨xs, (k2.fro t).sq, j.kp k2⟩⟩
  | ref a =>
    have e1 := isRef.mp i1
    subst e1
    cases z : S1 a with
    | none => simp only [dItems, z] at hp; cases hp
    | some o =>
      cases o with
      | dic => simp only [dItems, z] at hp; cases hp
      | exc _ => simp only [dItems, z] at hp; cases hp
      | fn _ => simp only [dItems, z] at hp; cases hp
      | tbl _ => simp only [dItems, z] at hp; cases hp
      | gen _ => simp only [dItems, z] at hp; cases hp
      | lst ds =>
        simp only [dItems, z] at hp
        cases hp
        obtain ⟨xs, hl, j⟩ := hS1.lst z
        refine ⟨a, true, rfl, ⟨xs, SqL.of hl⟩, fun S2 H2 k2 hS2 o2 => ?_⟩
        obtain ⟨ys, hl2, j2⟩ := hS2.lst o2
        exact ⟨ys, SqL.of hl2, j2⟩
  | _ => cases hp
def zipD (xs ys : List D) : List D := List.zipWith (fun a b => D.tup [a, b]) xs ys
def dCompZ (cap : List (Option Nat)) (ta : DA) (g : DG) (bd : DB) : DE := fun L S k => ta L S fun ds S1 => match ds with
  | [d1, d2] => ∃ q1 q2, dItems S1 d1 = some q1 ∧ dItems S1 d2 = some q2 ∧ ∀ p, S1 p = none → dCLoop (fun S => okFor q1 S ∧ okFor q2 S) p g bd k (zipD q1.1 q2.1) [] (capL cap L) (put S1 p (.lst []))
  | _ => False
section
variable {X : Cx} {elt a b : Expr} {es : List Expr} {kt : Nat} {tp : Pos} {scope : Scope} {cl : List (Str × Addr)} {N : List Str} {cap : List (Option Nat)} {pos p pos' : Pos} {gg : DG} {ge : DE} {ta : DA}
theorem d_compZj (hc : X.calm = true) (Sc : CompSc X scope cl N cap) (hgl : Gl X "zip") (hm : X.mg "zip" = none) (ha : AJ X [a, b] ta) (hg : ∀ s0 H0 ex C, GJ (cxC X scope cl N s0 H0 ex C) (.Tuple es kt tp) gg) (he : ∀ s0 H0 ex C, EJ (cxC X scope cl N s0 H0 ex C) elt ge)
    (hs1 : starEach [a, b] X.env = [(false, eval a X.env), (false, eval b X.env)] := by rfl) (hs2 : starEach [b] X.env = [(false, eval b X.env)] := by rfl) (hs : ∀ x, foldedSetIterable (.Call (.Name "zip" p) [a, b] [] pos') X.env x = pure x := by intro _; rfl) :
    EJ X (.ListComp elt [⟨.Tuple es kt tp, .Call (.Name "zip" p) [a, b] [] pos', [], 0⟩] scope pos) (dCompZ cap ta gg (bdAll ge)) :=
  ⟨PE.imp (pe_comp hc Sc (pi_zip hgl hm ha.h hs1 hs2) (fun s0 H0 ex C => (hg s0 H0 ex C).h) (fun s0 H0 ex C => (he s0 H0 ex C).h) hs) fun σ H Q ⟨L, S, k, hL, hS, h, n⟩ => upA.go hL hS h fun ds S1 vs H1 h1 k1 hL1 hS1 i1 => by
    split at h1
    · rename_i d1 d2
      obtain ⟨v1, v2, rfl, j1, j2⟩ : ∃ v1 v2, vs = [v1, v2] ∧ IsD X.K H1 d1 v1 ∧ IsD X.K H1 d2 v2 := isDs2 i1
      obtain ⟨q1, q2, e1, e2, h1⟩ := h1
      obtain ⟨a1, b1, rfl, x1, y1⟩ := seq_kd hS1 j1 e1
      obtain ⟨a2, b2, rfl, x2, y2⟩ := seq_kd hS1 j2 e2
      refine ⟨a1, a2, b1, b2, rfl, x1, x2, fun pa hD => comp_coreG (hL1.cap cap) hS1 hD (h1 pa (hS1.free hD)) (fun d S' v H' q k3 => n d S' v H' q (k1.trans k3)) (fun i c S2 H2 e k2 hS2 o2 => ?_) fun S2 H2 k2 hS2 o2 => ?_⟩
      · obtain ⟨xs, w1, u1⟩ := y1 S2 H2 k2 hS2 o2.1
        obtain ⟨ys, w2, u2⟩ := y2 S2 H2 k2 hS2 o2.2
        obtain ⟨c1, c2, f1, f2, rfl⟩ : ∃ c1 c2, q1.1[i]? = some c1 ∧ q2.1[i]? = some c2 ∧ D.tup [c1, c2] = c := by
          unfold zipD at e
          rw [List.getElem?_zipWith] at e
          cases z1 : q1.1[i]? with
          | none => rw [z1] at e; cases e
          | some c1 =>
            cases z2 : q2.1[i]? with
            | none => rw [z1, z2] at e; cases e
            | some c2 => rw [z1, z2] at e; exact ⟨c1, c2, rfl, rfl, Option.some.inj e⟩
        obtain ⟨v1, g1, r1⟩ := u1.get f1
        obtain ⟨v2, g2, r2⟩ := u2.get f2
        refine ⟨⟨xs, ys, v1, v2, w1, w2, g1, g2⟩, ?_⟩
        rintro x H' ⟨T, x', y', rfl, hT, rfl, al⟩
        obtain ⟨l1, l2⟩ := al xs ys w1 w2
        rw [g1] at l1
        rw [g2] at l2
        cases l1
        cases l2
        have kn : Kp H2 (upd H2 T (.tup [v1, v2])) := Kp.new hT
        exact ⟨kn, hS2.new hT, isTup.mpr ⟨T, [v1, v2], rfl, SqT.of upd_same, IsDs.cons (r1.kp kn) (IsDs.cons (r2.kp kn) IsDs.nil)⟩⟩
      · obtain ⟨xs, w1, u1⟩ := y1 S2 H2 k2 hS2 o2.1
        obtain ⟨ys, w2, u2⟩ := y2 S2 H2 k2 hS2 o2.2
        refine ⟨xs, ys, w1, w2, ?_⟩
        rw [← u1.length, ← u2.length]
        unfold zipD
        rw [List.length_zipWith]
        omega
    · exact h1.elim⟩
end
end DL
namespace DL
open PySem PySem.Spec PyProof.Rows L2
theorem isDs_bls {K : Fg} {H : Hp} : ∀ {bs : List Bool} {xs : List V}, IsDs K H (bs.map D.bl) xs → xs = bs.map V.bl
  | [], _, h => isNil.mp h
  | b :: bs, _, h => by
    obtain ⟨v, r, rfl, h1, h2⟩ := isCons.mp h
    rw [isBl.mp h1, isDs_bls h2]
    rfl
theorem vals_bls : ∀ {bs : List Bool} {us : List Value}, Vals (bs.map V.bl) us → us = bs.map Value.bool
  | [], _, .nil => rfl
  | b :: bs, _, .cons r t => by
    cases r
    rw [vals_bls t]
    rfl
theorem all_range : ∀ (bs : List Bool), (List.range bs.length).all (fun i => bs.getD i true) = bs.all id
  | [] => rfl
  | b :: bs => by
    rw [List.length_cons, List.range_succ_eq_map, List.all_cons, List.all_map, List.all_cons]
    exact congrArg (b && ·) (all_range bs)
theorem ok_self {S : DH} {d : D} {q : List D × Option Addr} (h : dItems S d = some q) : okFor q S := by
  cases d with
  | tup ds => cases h; trivial
  | rl ds => cases h; trivial
  | ref a =>
    simp only [dItems] at h
    split at h
    · rename_i z; cases h; exact z
    · cases h
  | _ => cases h
/-- all([..]) of truths -/
def bAllE : DSp := fun ds S k => match ds with
  | [d] => ∃ (q : List D × Option Addr) (bs : List Bool), dItems S d = some q ∧ q.1 = bs.map D.bl ∧ k (.bl (bs.all id)) S
  | _ => False
theorem b_allE {X : Cx} (hc : X.calm = true := by rfl) : CallR X (.builtin "all") (upC X.K bAllE) := by
  intro pins s σ H xs us Q I rs h
  obtain ⟨ds, S, k, i, hS, r, n⟩ := h
  unfold bAllE at r
  split at r
  · obtain ⟨x, rfl, i1⟩ := isDs1 i
    obtain ⟨q, bs, e1, e2, r⟩ := r
    obtain ⟨a, b, rfl, _, y⟩ := seq_kd hS i1 e1
    obtain ⟨vs, w1, w2⟩ := y S H (Kp.refl H) hS (ok_self e1)
    rw [e2] at w2
    have ev := isDs_bls w2
    subst ev
    obtain ⟨its, rv, p⟩ := I.sqB w1
    have ei := vals_bls rv
    subst ei
    cases rs with
    | cons r0 rr =>
      cases rr
      cases r0
      have hh : X.A.in1.handled = none := I.ok.hd hc
      have hlt := sqB_lt p
      have fin : ∀ (nm : String) (h' : Heap) (tk : Nat), (∀ c o, c ∉ [s.heap.objs.size] → (s.heap.push { cls := .type nm, data := .fields #[.ref a, .int 0 0] }).get? c = some o → h'.get? c = some o) →
          EP X pins σ Q (.bool (bs.all id)) { s with heap := h', toks := tk } := fun nm h' tk kk => by
        have I1 : Inv X pins σ H { s with heap := s.heap.push { cls := .type nm, data := .fields #[.ref a, .int 0 0] } } := I.kept (t' := s.toks) fun c o e => Heap.get?_push_of_some _ e
        refine ⟨.bl (bs.all id), H, Inv.turnedL (s := { s with heap := s.heap.push { cls := .type nm, data := .fields #[.ref a, .int 0 0] } }) (t' := tk) [s.heap.objs.size] I1 kk (fun c hc => ?_), rfl, n _ _ _ _ r (Kp.refl H) hS (isBl.mpr rfl)⟩
        have e : c = s.heap.objs.size := by simpa using hc
        subst e
        exact I.fpOk (Nat.le_refl _) (I.hok.fresh (Nat.le_refl _))
      have len : (bs.map Value.bool).toArray.size = bs.length := by simp
      have tr : ∀ A', TruthOf X.prog X.w A' (fun i v => (bs.map Value.bool).toArray[i]? = some v) (fun i => bs.getD i true) := fun A' i v s' Q' E' hP hQ => by
        have hP' : (bs[i]?).map Value.bool = some v := by simpa using hP
        cases z : bs[i]? with
        | none => rw [z] at hP'; cases hP'
        | some c =>
          rw [z] at hP'
          cases hP'
          refine wpAny_truthy_bool ?_
          simpa [List.getD, z] using hQ
      refine call_all_walk ?_
      cases b with
      | true =>
        refine wpAny_pyIter_list (show s.heap.IsList a _ from p) ?_
        refine ⟨s.heap.objs.size, _, _, _, _, _, _, rfl, Walks.list hh s.heap.objs.size a (Nat.ne_of_lt hlt) (bs.map Value.bool).toArray, ⟨⟨_, Heap.get?_push_size _ rfl, rfl, rfl⟩, Heap.IsList.at p fun o e => Heap.get?_push_of_some _ e⟩, tr _, fun h' tk kk => ?_⟩
        rw [len, all_range]
        exact fin _ h' tk kk
      | false =>
        refine wpAny_pyIter_tuple (show s.heap.IsTuple a _ from p) ?_
        refine ⟨s.heap.objs.size, _, _, _, _, _, _, rfl, Walks.tuple hh s.heap.objs.size a (Nat.ne_of_lt hlt) (bs.map Value.bool).toArray, ⟨⟨_, Heap.get?_push_size _ rfl, rfl, rfl⟩, Heap.IsTuple.at p fun o e => Heap.get?_push_of_some _ e⟩, tr _, fun h' tk kk => ?_⟩
        rw [len, all_range]
        exact fin _ h' tk kk
  · exact r.elim
end DL
namespace DL
open PySem PySem.Spec PyProof.Rows L2
/-- the kind of a thing, as isinstance asks for it -/
theorem kitx_D {X : Cx} {pins : List (Addr × Obj)} {σ : L2.St} {H : Hp} {s : Shared} {S : DH} {d : D} {x : V} {u : Value} {t : Ty} (I : Inv X pins σ H s) (hS : Hs X.K H S) (i : IsD X.K H d x) (r : RelV x u) (h : tyD S d = some t) :
    ∃ Hh : Heap → Prop, PySem.W.KitX X.K u (.type t.name) Hh ∧ Hh s.heap ∧ u ≠ .builtin "__main__.__loader__#opaque" := by
  cases d with
  | non => cases h; rw [isNon.mp i] at r; cases (show u = Value.none from r); exact ⟨_, PySem.W.kitx_none, True.intro, fun z => nomatch z⟩
  | bl b => cases h; rw [isBl.mp i] at r; cases (show u = Value.bool b from r); exact ⟨_, PySem.W.kitx_bool, True.intro, fun z => nomatch z⟩
  | int b => cases h; rw [isInt.mp i] at r; obtain ⟨tk, q⟩ := (show ∃ t, u = Value.int b t from r); cases q; exact ⟨_, PySem.W.kitx_int, True.intro, fun z => nomatch z⟩
  | str b => cases h; rw [isStr.mp i] at r; obtain ⟨tk, q⟩ := (show ∃ t, u = Value.str b t from r); cases q; exact ⟨_, PySem.W.kitx_str, True.intro, fun z => nomatch z⟩
  | tup ds =>
    cases h
    obtain ⟨a, vs, rfl, q, _⟩ := isTup.mp i
    cases (show u = Value.ref a from r)
    obtain ⟨its, _, ⟨o, h1, h2, _⟩, _⟩ := I.tuple q
    exact ⟨_, PySem.W.kitx_tuple, ⟨o, h1, h2⟩, fun z => nomatch z⟩
  | rl ds => cases h
  | ty n => cases h
  | ref a =>
    rw [isRef.mp i] at r
    cases (show u = Value.ref a from r)
    have h : tyR (S a) = some t := h
    cases z : S a with
    | none => rw [z] at h; cases h
    | some o =>
      rw [z] at h
      cases o with
      | lst ds =>
        cases h
        obtain ⟨vs, e, _⟩ := hS.lst z
        obtain ⟨its, _, ⟨o, n, h1, h2, _⟩, _⟩ := I.list (SqL.of e)
        exact ⟨_, PySem.W.kitx_list, ⟨o, h1, h2⟩, fun z => nomatch z⟩
      | dic =>
        cases h
        obtain ⟨vs, e⟩ := hS _ _ z
        obtain ⟨_, _, vs', _, p⟩ := (show ObjOk X.prog X.w H s.heap a (.dK vs) from I.hok a _ e)
        obtain ⟨o, es, ep, h1, h2, _⟩ := p
        exact ⟨_, PySem.W.kitx_dict, ⟨o, h1, h2.1⟩, fun z => nomatch z⟩
      | exc _ => cases h
      | fn _ => cases h
      | tbl _ => cases h
      | gen _ => cases h
theorem kitAny_of {K : Fg} (t : Ty) : ∀ cs : List Ty, PySem.W.kitAny K (.type t.name) (cs.map fun c => .type c.name) = some (cs.any (subT t))
  | [] => rfl
  | c :: r => by
    have ih := kitAny_of (K := K) t r
    rw [List.map_cons, PySem.W.kitAny, kit_of]
    cases z : subT t c with
    | true => simp [z]
    | false => simp only [List.any_cons, z, Bool.false_or]; exact ih
theorem isDs_tys {K : Fg} {H : Hp} : ∀ {cs : List Ty} {xs : List V}, IsDs K H (cs.map D.ty) xs → xs = cs.map fun c => V.ty c.name
  | [], _, h => isNil.mp h
  | b :: bs, _, h => by
    obtain ⟨v, r, rfl, h1, h2⟩ := isCons.mp h
    rw [isTy.mp h1, isDs_tys h2]
    rfl
theorem vals_tys : ∀ {cs : List Ty} {us : List Value}, Vals (cs.map fun c => V.ty c.name) us → us = cs.map fun c => Value.type c.name
  | [], _, .nil => rfl
  | b :: bs, _, .cons r t => by
    cases r
    rw [vals_tys t]
    rfl
/-- isinstance(x, c) and isinstance(x, (c, ..)) -/
def bIsiX : DSp := fun ds S k => match ds with
  | [d, .ty c] => ∃ t, tyD S d = some t ∧ k (.bl (subT t c)) S
  | [d, .tup cs] => ∃ (t : Ty) (ts : List Ty), tyD S d = some t ∧ cs = ts.map D.ty ∧ k (.bl (ts.any (subT t))) S
  | _ => False
theorem b_isiX {X : Cx} : CallR X (.builtin "isinstance") (upC X.K bIsiX) := by
  intro pins s σ H xs us Q I rs h
  obtain ⟨ds, S, k, i, hS, r, n⟩ := h
  unfold bIsiX at r
  split at r
  · rename_i d c
    obtain ⟨t, ht, r⟩ := r
    obtain ⟨x, y, rfl, i1, i2⟩ := isDs2 i
    have e2 := isTy.mp i2
    subst e2
    obtain ⟨u, w', rfl, r1, r2⟩ := vals2 rs
    cases (show w' = Value.type c.name from r2)
    obtain ⟨Hh, kx, p, nb⟩ := kitx_D I hS i1 r1 ht
    exact PySem.W.kia_one kx I.kIn p (kit_of t c) nb fun tk => ⟨.bl (subT t c), H, I.tok tk, rfl, n _ _ _ _ r (Kp.refl H) hS (isBl.mpr rfl)⟩
  · rename_i d cs
    obtain ⟨t, ts, ht, rfl, r⟩ := r
    obtain ⟨x, y, rfl, i1, i2⟩ := isDs2 i
    obtain ⟨a, vs, rfl, q, j⟩ := isTup.mp i2
    have ev := isDs_tys j
    subst ev
    obtain ⟨u, w', rfl, r1, r2⟩ := vals2 rs
    cases (show w' = Value.ref a from r2)
    obtain ⟨Hh, kx, p, nb⟩ := kitx_D I hS i1 r1 ht
    obtain ⟨its, rv, ⟨o, h1, h2, m, h3⟩, _⟩ := I.tuple q
    have ei := vals_tys rv
    subst ei
    obtain ⟨oc, od, odt, os⟩ := o
    cases h2
    cases h3
    exact PySem.W.kia_tup kx I.kIn p h1 (kitAny_of t ts) nb fun tk => ⟨.bl (ts.any (subT t)), H, I.tok tk, rfl, n _ _ _ _ r (Kp.refl H) hS (isBl.mpr rfl)⟩
  · exact r.elim
end DL
/-! ## list methods, chained comparisons, for over zip -/
namespace DL
open PySem PySem.Spec PyProof.Rows L2
section
variable {X : Cx} {o e a b c : Expr} {go ge ga gb gc : DE} {apos cpos pos : Pos}
/-- xs.append(e) -/
def dApp (go ge : DE) : DE := fun L S k => go L S fun d S1 => match d with
  | .ref a => (∃ ds, S1 a = some (.lst ds)) ∧ ge L S1 fun e S2 => ∃ ds, S2 a = some (.lst ds) ∧ ds.length < sizeLine ∧ k .non (put S2 a (.lst (ds ++ [e])))
  | _ => False
theorem d_appj (ho : EJ X o go) (he : EJ X e ge) (hbase : attributeBase o "append" X.env (eval o X.env) = eval o X.env := by rfl)
    (hfew : ((backTo cpos (starEach [e] X.env)).all (fun x => !x.1) && (backToKw cpos (keywordEach [] X.env)).all (fun x => x.1.isSome) && decide ([e].length + ([] : List Keyword).length + (if ([] : List Keyword).isEmpty then 0 else 1) < 30)) = true := by rfl)
    (hline : (apos.endLine == cpos.line) = true := by rfl) (hs : starEach [e] X.env = (false, eval e X.env) :: starEach [] X.env := by rfl) (hpl : (backTo cpos (starEach [] X.env)).any (·.1) = false := by rfl) :
    EJ X (.Call (.Attribute o "append" apos) [e] [] cpos) (dApp go ge) :=
  ⟨PE.imp (pe_bm PySem.F.plainAttrs_list PySem.F.slot_list_append PySem.F.type_list_append mt_append ho.h (pa_cons he.h pa_nil hs) hbase hfew hline hs hpl) fun σ H Q ⟨L, S, k, hL, hS, h, n⟩ => up.go hL hS h fun d S1 v H1 h1 k1 hL1 hS1 i1 => by
    cases d with
    | ref a =>
      have e1 := isRef.mp i1
      subst e1
      obtain ⟨⟨ds1, z1⟩, h1⟩ := h1
      obtain ⟨xs1, hl1, _⟩ := hS1.lst z1
      refine ⟨.inl ⟨rfl, xs1, SqL.of hl1⟩, up.go hL1 hS1 h1 fun d2 S2 v2 H2 h2 k2 hL2 hS2 i2 => ?_⟩
      obtain ⟨ds, z, hz, w⟩ := h2
      obtain ⟨xs, hl, j⟩ := hS2.lst z
      have k3 : Kp H2 (upd H2 a (.lst (xs ++ [v2]))) := Kp.mut hl (fun z => z)
      exact ⟨a, xs, v2, rfl, rfl, hl, by rw [← j.length]; exact hz, n _ _ _ _ w (k1.trans (k2.trans k3)) (hS2.setL hl (j.append (IsDs.cons i2 IsDs.nil))) (isNon.mpr rfl)⟩
    | _ => exact (show False from h1).elim⟩
/-- xs.extend(ys), ys a list -/
def dExt (go ge : DE) : DE := fun L S k => go L S fun d S1 => match d with
  | .ref a => (∃ ds, S1 a = some (.lst ds)) ∧ ge L S1 fun e S2 => match e with
    | .ref b => ∃ ds es, S2 a = some (.lst ds) ∧ S2 b = some (.lst es) ∧ ds.length + es.length ≤ sizeLine ∧ k .non (put S2 a (.lst (ds ++ es)))
    | _ => False
  | _ => False
theorem d_extj (ho : EJ X o go) (he : EJ X e ge) (hbase : attributeBase o "extend" X.env (eval o X.env) = eval o X.env := by rfl)
    (hfew : ((backTo cpos (starEach [e] X.env)).all (fun x => !x.1) && (backToKw cpos (keywordEach [] X.env)).all (fun x => x.1.isSome) && decide ([e].length + ([] : List Keyword).length + (if ([] : List Keyword).isEmpty then 0 else 1) < 30)) = true := by rfl)
    (hline : (apos.endLine == cpos.line) = true := by rfl) (hs : starEach [e] X.env = (false, eval e X.env) :: starEach [] X.env := by rfl) (hpl : (backTo cpos (starEach [] X.env)).any (·.1) = false := by rfl) :
    EJ X (.Call (.Attribute o "extend" apos) [e] [] cpos) (dExt go ge) :=
  ⟨PE.imp (pe_bm PySem.F.plainAttrs_list PySem.F.slot_list_extend PySem.F.type_list_extend mt_extend ho.h (pa_cons he.h pa_nil hs) hbase hfew hline hs hpl) fun σ H Q ⟨L, S, k, hL, hS, h, n⟩ => up.go hL hS h fun d S1 v H1 h1 k1 hL1 hS1 i1 => by
    cases d with
    | ref a =>
      have e1 := isRef.mp i1
      subst e1
      obtain ⟨⟨ds1, z1⟩, h1⟩ := h1
      obtain ⟨xs1, hl1, _⟩ := hS1.lst z1
      refine ⟨.inl ⟨rfl, xs1, SqL.of hl1⟩, up.go hL1 hS1 h1 fun d2 S2 v2 H2 h2 k2 hL2 hS2 i2 => ?_⟩
      cases d2 with
      | ref b =>
        have e2 := isRef.mp i2
        subst e2
        obtain ⟨ds, es, z, y, hz, w⟩ := h2
        obtain ⟨xs, hl, j⟩ := hS2.lst z
        obtain ⟨ys, hm, i⟩ := hS2.lst y
        have k3 : Kp H2 (upd H2 a (.lst (xs ++ ys))) := Kp.mut hl (fun z => z)
        exact ⟨a, b, xs, ys, rfl, rfl, hl, hm, by rw [← j.length, ← i.length]; exact hz, n _ _ _ _ w (k1.trans (k2.trans k3)) (hS2.setL hl (j.append i)) (isNon.mpr rfl)⟩
      | _ => exact (show False from h2).elim
    | _ => exact (show False from h1).elim⟩
/-- a op b op c -/
def dChain (r r' : D2) (ga gb gc : DE) : DE := fun L S k => ga L S fun x S1 => gb L S1 fun y S2 => r x y S2 fun z S3 => match z with
  | .bl t => if t = true then gc L S3 fun w S4 => r' y w S4 k else k (.bl false) S3
  | _ => False
theorem dChain_go {K : Fg} {r r' : D2} : ∀ σ H Q, up K (dChain r r' ga gb gc) σ H Q → tChain (upR K r) (upR K r') (up K ga) (up K gb) (up K gc) σ H Q := fun σ H Q ⟨L, S, k, hL, hS, h, n⟩ =>
  up.go hL hS h fun d S1 v H1 h1 k1 hL1 hS1 i1 => up.go hL1 hS1 h1 fun e S2 u H2 h2 k2 hL2 hS2 i2 => ⟨d, e, S2, _, i1.kp k2, i2, hS2, h2, fun z S3 w H3 q k3 hS3 i3 => by
    cases z with
    | bl t =>
      refine ⟨t, isBl.mp i3, ?_⟩
      have q' : if t = true then gc L S3 (fun w S4 => r' e w S4 k) else k (.bl false) S3 := q
      cases t with
      | false =>
        rw [if_neg Bool.false_ne_true] at q' ⊢
        exact n _ _ _ _ q' (k1.trans (k2.trans k3)) hS3 (isBl.mpr rfl)
      | true =>
        rw [if_pos rfl] at q' ⊢
        exact up.go (hL2.kp k3) hS3 q' fun f S4 w4 H4 h4 k4 hL4 hS4 i4 => ⟨e, f, S4, k, i2.kp (k3.trans k4), i4, hS4, h4, fun d' S' v' H' q k5 z1 z2 => n d' S' v' H' q (k1.trans (k2.trans (k3.trans (k4.trans k5)))) z1 z2⟩
    | _ => exact (show False from q).elim⟩
theorem d_chainj {op op' : CmpOp} {r r' : D2} (ho : OpR X (compareOp op) (upR X.K r)) (ho' : OpR X (compareOp op') (upR X.K r')) (ha : EJ X a ga) (hb : EJ X b gb) (hc : EJ X c gc)
    (hm : lastMarks [op, op'] [b, c] = false := by with_unfolding_all rfl) : EJ X (.Compare a [op, op'] [b, c] pos) (dChain r r' ga gb gc) := ⟨PE.imp (pe_chain ho ho' ha.h hb.h hc.h hm) dChain_go⟩
theorem dt_chainj {op op' : CmpOp} {r r' : D2} (ho : OpR X (compareOp op) (upR X.K r)) (ho' : OpR X (compareOp op') (upR X.K r')) (ha : EJ X a ga) (hb : EJ X b gb) (hc : EJ X c gc)
    (hm : lastMarks [op, op'] [b, c] = false := by with_unfolding_all rfl) : TJ X (.Compare a [op, op'] [b, c] pos) (dTest (dChain r r' ga gb gc)) :=
  ⟨PT.imp (pt_chain ho ho' ha.h hb.h hc.h hm) fun σ H Q ⟨L, S, k, hL, hS, h, n⟩ => dChain_go σ H _ ⟨L, S, _, hL, hS, h, fun d S' v H' q k1 hS1 i1 => by
    cases d with
    | bl t => exact ⟨t, isBl.mp i1, n t S' H' q k1 hS1⟩
    | _ => exact (show False from q).elim⟩⟩
end
end DL
/-! ## range of two, for over zip, in -/
namespace DL
open PySem PySem.Spec PyProof.Rows L2
def dForZ (ta : DA) (g : DG) (b : DS) : DS := fun M L S => ta L S fun ds S1 => match ds with
  | [d1, d2] => ∃ q1 q2, dItems S1 d1 = some q1 ∧ dItems S1 d2 = some q2 ∧ dLoop (fun S => okFor q1 S ∧ okFor q2 S) g b M (zipD q1.1 q2.1) L S1
  | _ => False
section
variable {X : Cx} {a b : Expr} {es : List Expr} {kt : Nat} {tp p pos pos' : Pos} {gg : DG} {ta : DA} {g : DS} {body : List Stmt} {tg : Expr}
/-- lo, lo + 1, .. -/
def rngD (i j : Int) : List D := (List.range (j - i).toNat).map fun (n : Nat) => D.int (i + n)
theorem rng_go {K : Fg} {H : Hp} {i j : Int} : (∀ n d (S1 : DH) H1, (rngD i j)[n]? = some d → Kp H H1 → Hs K H1 S1 → (fun _ => True : DH → Prop) S1 → (Itr i (j - i).toNat).go n H1 ∧ ∀ x H', (Itr i (j - i).toNat).yld n H1 x H' → H' = H1 ∧ IsD K H1 d x) ∧
    ∀ (S1 : DH) H1, Kp H H1 → Hs K H1 S1 → (fun _ => True : DH → Prop) S1 → (Itr i (j - i).toNat).stop (rngD i j).length H1 := by
  refine ⟨fun n d S1 H1 e _ _ _ => ?_, fun _ _ _ _ _ => ?_⟩
  · unfold rngD at e
    rw [List.getElem?_map] at e
    cases q : (List.range (j - i).toNat)[n]? with
    | none => rw [q] at e; cases e
    | some z =>
      rw [q] at e
      cases e
      obtain ⟨hz1, hz2⟩ := List.getElem?_eq_some_iff.mp q
      rw [List.length_range] at hz1
      rw [List.getElem_range] at hz2
      subst hz2
      exact ⟨hz1, fun x H' y => ⟨y.1, by rw [y.2]; exact isInt.mpr rfl⟩⟩
  · show (j - i).toNat ≤ (rngD i j).length
    unfold rngD
    rw [List.length_map, List.length_range]
    exact Nat.le_refl _
def dForR2 (ta : DA) (g : DG) (b : DS) : DS := fun M L S => ta L S fun ds S1 => match ds with
  | [.int i, .int j] => (-(2 ^ 62) ≤ i ∧ i < 2 ^ 62 ∧ -(2 ^ 62) ≤ j ∧ j < 2 ^ 62) ∧ dLoop (fun _ => True) g b M (rngD i j) L S1
  | _ => False
end
section
variable {X : Cx} {elt tg a b : Expr} {scope : Scope} {cl : List (Str × Addr)} {N : List Str} {cap : List (Option Nat)} {pos p pos' : Pos} {gg : DG} {ge : DE} {ta : DA}
def dCompR2 (cap : List (Option Nat)) (ta : DA) (g : DG) (bd : DB) : DE := fun L S k => ta L S fun ds S1 => match ds with
  | [.int i, .int j] => (-(2 ^ 62) ≤ i ∧ i < 2 ^ 62 ∧ -(2 ^ 62) ≤ j ∧ j < 2 ^ 62) ∧ ∀ p, S1 p = none → dCLoop (fun _ => True) p g bd k (rngD i j) [] (capL cap L) (put S1 p (.lst []))
  | _ => False
theorem d_compR2j (hc : X.calm = true) (Sc : CompSc X scope cl N cap) (hgl : Gl X "range") (hm : X.mg "range" = none) (ha : AJ X [a, b] ta) (hg : ∀ s0 H0 ex C, GJ (cxC X scope cl N s0 H0 ex C) tg gg) (he : ∀ s0 H0 ex C, EJ (cxC X scope cl N s0 H0 ex C) elt ge)
    (hs1 : starEach [a, b] X.env = [(false, eval a X.env), (false, eval b X.env)] := by rfl) (hs2 : starEach [b] X.env = [(false, eval b X.env)] := by rfl) (hs : ∀ x, foldedSetIterable (.Call (.Name "range" p) [a, b] [] pos') X.env x = pure x := by intro _; rfl) :
    EJ X (.ListComp elt [⟨tg, .Call (.Name "range" p) [a, b] [] pos', [], 0⟩] scope pos) (dCompR2 cap ta gg (bdAll ge)) :=
  ⟨PE.imp (pe_comp hc Sc (pi_range2 hgl hm ha.h hs1 hs2) (fun s0 H0 ex C => (hg s0 H0 ex C).h) (fun s0 H0 ex C => (he s0 H0 ex C).h) hs) fun σ H Q ⟨L, S, k, hL, hS, h, n⟩ => upA.go hL hS h fun ds S1 vs H1 h1 k1 hL1 hS1 i1 => by
    split at h1
    · obtain ⟨v1, v2, rfl, j1, j2⟩ := isDs2 i1
      have e1 := isInt.mp j1
      have e2 := isInt.mp j2
      subst e1
      subst e2
      obtain ⟨hh, h1⟩ := h1
      obtain ⟨z1, z2⟩ := rng_go (K := X.K) (H := H1)
      exact ⟨_, _, rfl, hh, fun pa hD => comp_core (hL1.cap cap) hS1 hD (h1 pa (hS1.free hD)) (fun d S' v H' q k3 => n d S' v H' q (k1.trans k3)) z1 z2⟩
    · exact h1.elim⟩
end
/-! x in xs -/
def flatD : D → Bool
  | .int _ => true | .bl _ => true | .str _ => true | .non => true | _ => false
def vOf : D → V
  | .int i => .int i | .bl b => .bl b | .str x => .str x | _ => .non
def dInE (neg : Bool) : D2 := fun d e S k => ∃ q, dItems S e = some q ∧ flatD d = true ∧ q.1.all flatD = true ∧ k (.bl (if neg then !inV (vOf d) (q.1.map vOf) else inV (vOf d) (q.1.map vOf))) S
end DL
/-! ## pop, clear -/
namespace DL
open PySem PySem.Spec PyProof.Rows L2
theorem IsDs.erase {K : Fg} {H : Hp} : ∀ {ds : List D} {vs : List V} (i : Nat), IsDs K H ds vs → IsDs K H (ds.eraseIdx i) (vs.eraseIdx i)
  | [], _, _, h => by rw [isNil.mp h]; exact IsDs.nil
  | d :: ds, _, 0, h => by
    obtain ⟨v, r, rfl, _, h2⟩ := isCons.mp h
    exact h2
  | d :: ds, _, i + 1, h => by
    obtain ⟨v, r, rfl, h1, h2⟩ := isCons.mp h
    exact IsDs.cons h1 (IsDs.erase i h2)
section
variable {X : Cx} {o e : Expr} {go ge : DE} {apos cpos pos : Pos}
/-- xs.pop(i) -/
def dPop1 (go ge : DE) : DE := fun L S k => go L S fun d S1 => match d with
  | .ref a => (∃ ds, S1 a = some (.lst ds)) ∧ ge L S1 fun e S2 => match e with
    | .int i => ∃ ds n c, S2 a = some (.lst ds) ∧ -(2 ^ 63) ≤ i ∧ i < 2 ^ 63 ∧ seqIndex? i ds.length = some n ∧ ds[n]? = some c ∧ k c (put S2 a (.lst (ds.eraseIdx n)))
    | _ => False
  | _ => False
theorem d_pop1j (ho : EJ X o go) (he : EJ X e ge) (hbase : attributeBase o "pop" X.env (eval o X.env) = eval o X.env := by rfl)
    (hfew : ((backTo cpos (starEach [e] X.env)).all (fun x => !x.1) && (backToKw cpos (keywordEach [] X.env)).all (fun x => x.1.isSome) && decide ([e].length + ([] : List Keyword).length + (if ([] : List Keyword).isEmpty then 0 else 1) < 30)) = true := by rfl)
    (hline : (apos.endLine == cpos.line) = true := by rfl) (hs : starEach [e] X.env = (false, eval e X.env) :: starEach [] X.env := by rfl) (hpl : (backTo cpos (starEach [] X.env)).any (·.1) = false := by rfl) :
    EJ X (.Call (.Attribute o "pop" apos) [e] [] cpos) (dPop1 go ge) :=
  ⟨PE.imp (pe_bm PySem.F.plainAttrs_list PySem.F.slot_list_pop PySem.F.type_list_pop mt_popAt ho.h (pa_cons he.h pa_nil hs) hbase hfew hline hs hpl) fun σ H Q ⟨L, S, k, hL, hS, h, n⟩ => up.go hL hS h fun d S1 v H1 h1 k1 hL1 hS1 i1 => by
    cases d with
    | ref a =>
      have e1 := isRef.mp i1
      subst e1
      obtain ⟨⟨ds1, z1⟩, h1⟩ := h1
      obtain ⟨xs1, hl1, _⟩ := hS1.lst z1
      refine ⟨.inl ⟨rfl, xs1, SqL.of hl1⟩, up.go hL1 hS1 h1 fun d2 S2 v2 H2 h2 k2 hL2 hS2 i2 => ?_⟩
      cases d2 with
      | int i =>
        have e2 := isInt.mp i2
        subst e2
        obtain ⟨ds, m, c, z, b1, b2, hm, hc, w⟩ := h2
        obtain ⟨xs, hl, j⟩ := hS2.lst z
        obtain ⟨y, hy, iy⟩ := j.get hc
        have k3 : Kp H2 (upd H2 a (.lst (xs.eraseIdx m))) := Kp.mut hl (fun z => z)
        exact ⟨a, xs, i, m, y, rfl, rfl, hl, b1, b2, by rw [← j.length]; exact hm, hy, n _ _ _ _ w (k1.trans (k2.trans k3)) (hS2.setL hl (j.erase m)) (iy.kp k3)⟩
      | _ => exact (show False from h2).elim
    | _ => exact (show False from h1).elim⟩
/-- xs.clear() -/
def dClr (go : DE) : DE := fun L S k => go L S fun d S1 => match d with
  | .ref a => ∃ ds, S1 a = some (.lst ds) ∧ k .non (put S1 a (.lst []))
  | _ => False
end
end DL
/-! ## cuts of lists, comprehensions with an if -/
namespace DL
open PySem PySem.Spec PyProof.Rows L2
section
variable {X : Cx} {pos : Pos}
/-- t[lo:hi] of a tuple, not all of it, or of a list -/
def dCutE (g : DE) (tl th : DOp) : DE := fun L S k => g L S fun x S1 => tl L S1 fun lo S2 => th L S2 fun hi S3 => match x with
  | .tup xs => ¬ (HT.sIx xs.length 0 lo = 0 ∧ HT.sIx xs.length xs.length hi = xs.length) ∧ k (.tup (cutD xs lo hi)) S3
  | .rl xs => ∀ p, S3 p = none → k (.ref p) (put S3 p (.lst (cutD xs lo hi)))
  | .ref a => ∃ xs, S3 a = some (.lst xs) ∧ ∀ p, S3 p = none → k (.ref p) (put S3 p (.lst (cutD xs lo hi)))
  | _ => False
theorem d_cutEj {e : Expr} {g : DE} {lo hi : Option Expr} {tl th : DOp} {p2 pos : Pos} (he : EJ X e g) (hl : OJ X lo tl) (hu : OJ X hi th) : EJ X (.Subscript e (.Slice lo hi none p2) pos) (dCutE g tl th) :=
  ⟨PE.imp (pe_slice (SlR.or sl_tup sl_list) he.h hl.h hu.h) fun σ H Q ⟨L, S, k, hL, hS, h, n⟩ => up.go hL hS h fun d S1 v H1 h1 k1 hL1 hS1 i1 => by
    refine ⟨L, S1, _, hL1, hS1, h1, fun lo' S2 H2 h2 k2 hS2 => ⟨L, S2, _, hL1.kp k2, hS2, h2, fun hi' S3 H3 h3 k3 hS3 => ?_⟩⟩
    cases d with
    | tup xs =>
      obtain ⟨a, vs, rfl, t, j⟩ := isTup.mp i1
      have j3 := j.kp (k2.trans k3)
      refine .inl ⟨a, vs, rfl, (k2.trans k3).tup t, by rw [← j.length]; exact h3.1, fun p hp => ?_⟩
      have k4 : Kp H3 (upd H3 p (.tup (cutV vs lo' hi'))) := Kp.new hp
      refine n _ S3 _ _ h3.2 (k1.trans (k2.trans (k3.trans k4))) (hS3.new hp) (isTup.mpr ⟨p, _, rfl, SqT.of upd_same, ?_⟩)
      unfold cutD cutV
      rw [j.length]
      exact ((j3.drop _).take _).kp k4
    | rl xs =>
      obtain ⟨a, vs, rfl, t, j⟩ := isRl.mp i1
      have j3 := j.kp (k2.trans k3)
      refine .inr ⟨a, vs, rfl, ((k2.trans k3).fro t).sq, fun p hp => ?_⟩
      refine n _ _ _ _ (h3 p (hS3.free hp)) (k1.trans (k2.trans (k3.trans (Kp.new hp)))) (hS3.newL hp ?_) (isRef.mpr rfl)
      unfold cutD cutV
      rw [j.length]
      exact (j3.drop _).take _
    | ref a =>
      have e1 := isRef.mp i1
      subst e1
      obtain ⟨xs, z, h3⟩ := h3
      obtain ⟨vs, hl, j⟩ := hS3.lst z
      refine .inr ⟨a, vs, rfl, SqL.of hl, fun p hp => ?_⟩
      refine n _ _ _ _ (h3 p (hS3.free hp)) (k1.trans (k2.trans (k3.trans (Kp.new hp)))) (hS3.newL hp ?_) (isRef.mpr rfl)
      unfold cutD cutV
      rw [j.length]
      exact (j.drop _).take _
    | _ => exact (show False from h3).elim⟩
theorem d_compEIfj {elt tg iter c : Expr} {scope : Scope} {cl : List (Str × Addr)} {N : List Str} {cap : List (Option Nat)} {gg : DG} {ge gi : DE} {gc : DT} (hc : X.calm = true) (Sc : CompSc X scope cl N cap) (hi : EJ X iter gi) (hg : ∀ s0 H0 ex C, GJ (cxC X scope cl N s0 H0 ex C) tg gg) (hcnd : ∀ s0 H0 ex C, TJ (cxC X scope cl N s0 H0 ex C) c gc) (he : ∀ s0 H0 ex C, EJ (cxC X scope cl N s0 H0 ex C) elt ge)
    (hs : ∀ x, foldedSetIterable iter X.env x = pure x := by intro _; rfl) : EJ X (.ListComp elt [⟨tg, iter, [c], 0⟩] scope pos) (dCompE cap gi gg (bdIf gc ge)) :=
  ⟨PE.imp (pe_compIf hc Sc (pi_seq hi.h) (fun s0 H0 ex C => (hg s0 H0 ex C).h) (fun s0 H0 ex C => (hcnd s0 H0 ex C).h) (fun s0 H0 ex C => (he s0 H0 ex C).h) hs) fun σ H Q ⟨L, S, k, hL, hS, h, n⟩ => up.go hL hS h fun d S1 v H1 h1 k1 hL1 hS1 i1 => by
    obtain ⟨p, hp, h1⟩ := h1
    obtain ⟨a, e, q⟩ := seq_go hS1 i1 hp
    refine ⟨a, e, ?_⟩
    have n' : ∀ d S' v H', k d S' → Kp H1 H' → Hs X.K H' S' → IsD X.K H' d v → Q v H' := fun d S' v H' q k3 => n d S' v H' q (k1.trans k3)
    rcases q with ⟨q1, q2, q3⟩ | ⟨q1, q2, q3⟩
    · exact .inl ⟨q1, fun D hD => comp_coreIf (hL1.cap cap) hS1 hD (h1 D (hS1.free hD)) n' q2 q3⟩
    · exact .inr ⟨q1, fun D hD => comp_coreIf (hL1.cap cap) hS1 hD (h1 D (hS1.free hD)) n' q2 q3⟩⟩
theorem mem_cutD {xs : List D} {lo hi : Option Int} {d : D} (h : d ∈ cutD xs lo hi) : d ∈ xs := List.mem_of_mem_drop (List.mem_of_mem_take h)
/-- a loop by what is left -/
theorem loop_ix {ok : DH → Prop} {g : DG} {b : DS} {M : DEnds} (Iv : List D → Lo → DH → Prop) (hok : ∀ r L S, Iv r L S → ok S)
    (hs : ∀ d r L S N, Iv (d :: r) L S → (∀ L' S', Iv r L' S' → N L' S') → g d L S fun L1 S1 => b { M with nx := N, ct := N, bk := M.nx } L1 S1) (hd : ∀ L S, Iv [] L S → M.nx L S) : ∀ r L S, Iv r L S → dLoop ok g b M r L S
  | [], L, S, i => ⟨hok [] L S i, hd L S i⟩
  | d :: r, L, S, i => ⟨hok _ L S i, hs d r L S _ i fun L' S' i' => loop_ix Iv hok hs hd r L' S' i'⟩
end
end DL
/-! ## x = [.. for ..] -/
namespace L2
open PySem PySem.Spec PyProof.Rows
section
variable {X : Cx} {elt tg iter c : Expr} {scope : Scope} {cl : List (Str × Addr)} {N : List Str} {cap : List (Option Nat)} {pos : Pos} {wi : TI} {g : TG} {te : TE} {tc : TT}
end
end L2
namespace DL
open PySem PySem.Spec PyProof.Rows L2
section
variable {X : Cx} {pos pos' p : Pos} {elt tg a b c : Expr} {scope : Scope} {cl : List (Str × Addr)} {N : List Str} {cap : List (Option Nat)} {gg : DG} {ge gi : DE} {gc : DT} {ta : DA}
end
end DL
/-! ## exceptions that leave a def -/
namespace L2
open PySem PySem.Spec PyProof.Rows
/-- how an exception lies behind a call: B holds all that is no frame and no record of the exception's -/
def CXE (P : Program) (w : World) : CXT := fun outer H s E e s' => ∃ (ea : Addr) (cls a0 : Value) (H' : Hp) (B : Heap), e = .ref ea ∧ s'.os = s.os ∧ AllBare s'.gens ∧ Heap.FlyingW B outer ea cls a0 s'.heap ∧ HOk P w H' B ∧
  (∀ b o, s.heap.get? b = some o → H b = none → b ∉ frs outer → B.get? b = some o) ∧ (∀ b o, s.heap.get? b = some o → b ∉ frs outer → ∃ o', B.get? b = some o') ∧ Un (frs outer) [] H H' s.heap s'.heap ∧ E cls none H'
section
variable {P : Program} {w : World} {K : PySem.W.Frag} {mg : Str → Option Value} {base : Heap} {N : List Str} {qual : Str} {scope : Scope} {f : Addr} {cd : Value} {A : Around} {outer : List Env} {s0 : Shared} {H0 : Hp} {E : XK}
end
section
variable {P : Program} {w : World} {K : PySem.W.Frag} {mg : Str → Option Value} {base : Heap} {N : List Str} {qual : Str} {scope : Scope} {f : Addr} {cd : Value} {A : Around} {outer : List Env} {s0 : Shared} {H0 : Hp} {E : XK}
end
end L2
/-! ## try: .. except C as n: .. -/
namespace L2
open PySem PySem.Spec PyProof.Rows
section
variable {X : Cx} {pins : List (Addr × Obj)} {σ : St} {H H' : Hp} {s s' : Shared} {E : XK}
/-- within an except suite -/
abbrev Cx.marked (X : Cx) (v : Value) (W : Value → Shared → Prop) : Cx := { X with A := X.A.mark (some v), calm := false, xe := W }
end
section
variable {X : Cx} {pins : List (Addr × Obj)} {σ : St} {H : Hp} {s s' : Shared} {E : XK}
end
end L2
/-! ## try: x() except C as n: .. -/
namespace L2
open PySem PySem.Spec PyProof.Rows
/-- what stands in cells that none of the frames owns -/
def Cells (cells : List (Addr × Obj)) (outer : List Env) (H : Hp) (h : Heap) : Prop := ∀ p ∈ cells, h.get? p.1 = some p.2 ∧ H p.1 = none ∧ p.1 ∉ frs outer
/-- g(), at H, ends in an exception that E tells -/
structure Fails (cells : List (Addr × Obj)) (P : Program) (w : World) (K : PySem.W.Frag) (mg : Str → Option Value) (base : Heap) (n : Nat) (g : Addr) (H : Hp) (E : XK) : Prop where
  fn : ∃ (o : Obj) (u : HO) (fd : FuncData), H g = some (.frz o u) ∧ o.data = .func fd
  run : ∀ (A : Around) (outer : List Env) (s : Shared), Room n A → Env0 P w K mg base A outer s H → Cells cells outer H s.heap → codeAny (model P w) A (.call (.ref g) ⟨[], []⟩) (CR (CXE P w) outer P w H s (fun _ _ => False) E) s
section
variable {X : Cx} {pins : List (Addr × Obj)} {σ : St} {H : Hp} {s : Shared} {E : XK}
/-- j: the slot of x; i: that of n -/
def tTry (cells : List (Addr × Obj)) (P : Program) (w : World) (K : PySem.W.Frag) (mg : Str → Option Value) (base : Heap) (m : Nat) (cv : Value) (j i : Nat) (t : TS) : TS := fun D σ H => ∃ g E, σ[j]? = some (some (.ref g)) ∧ Fails cells P w K mg base m g H E ∧ (∀ c H', E c none H' → PySem.W.exmOne K c cv = some true) ∧
  ∀ ea c H' o, E c none H' → H' ea = none → o.cls = c → t ⟨fun σ7 H7 => D.nx (σ7.set i none) H7, D.rt, fun σ7 H7 => D.bk (σ7.set i none) H7, fun σ7 H7 => D.ct (σ7.set i none) H7⟩ (σ.set i (some (.ref ea))) (upd H' ea (.frz o (.ext fun _ => True)))
end
end L2
/-! ## isinstance of an own exception -/
namespace L2
open PySem PySem.Spec PyProof.Rows
/-- what is asked of an own class of errors -/
structure ExcCls (K : PySem.W.Frag) (C : Addr) : Prop where
  ga : PySem.W.findIn K (.ref C) "__getattribute__" = some (some (.builtin "BaseException.__getattribute__"))
  gt : PySem.W.findIn K (.ref C) "__getattr__" = some none
  cl : PySem.W.findIn K (.ref C) "__class__" = some (some (.builtin "object.__class__"))
  sb : PySem.W.subIn K (.ref C) (.type "BaseException") = some true
  so : PySem.W.subIn K (.ref C) (.type "object") = some true
  is : (PySem.W.clsIn K C).isSome = true
section
variable {prog : Program} {w : World} {A : Around} {E : Value → Shared → Prop} {h : Heap} {g : Array GenState} {d : Drawn} {t : Nat} {os : OsState} {a C : Addr} {o : Obj} {K : PySem.W.Frag}
end
end L2
namespace L2
open PySem PySem.Spec PyProof.Rows
end L2
/-! ## try, isinstance of exceptions, over data -/
namespace DL
open PySem PySem.Spec PyProof.Rows L2
def ExtD (S S' : DH) : Prop := ∀ b o, S b = some o → S' b = some o
/-- g(): an exception of the class C; what was there is there -/
def FailsD (cells : List (Addr × Obj)) (P : Program) (w : World) (K : Fg) (mg : Str → Option Value) (base : Heap) (m : Nat) (g C : Addr) (H : Hp) : Prop :=
  ∀ S, Hs K H S → Fails cells P w K mg base m g H fun c _ H' => c = .ref C ∧ Kp H H' ∧ ∃ S', Hs K H' S' ∧ ExtD S S'
section
variable {X : Cx} {pos : Pos}
/-- isinstance(x, C), x an exception, C an own class -/
def bIsiC (K : Fg) : DSp := fun ds S k => match ds with
  | [.ref a, .ref c] => ∃ C b, S a = some (.exc C) ∧ ExcCls K C ∧ PySem.W.kitOne K (.ref C) (.ref c) = some b ∧ k (.bl b) S
  | [.ref a, .ty c] => ∃ C b, S a = some (.exc C) ∧ ExcCls K C ∧ PySem.W.kitOne K (.ref C) (.type c.name) = some b ∧ k (.bl b) S
  | _ => False
def dTry (cells : List (Addr × Obj)) (P : Program) (w : World) (K : Fg) (mg : Str → Option Value) (base : Heap) (m : Nat) (cv : Value) (j i : Nat) (t : DS) : DS := fun M L S => ∃ g C φ, L[j]? = some (some (.ref g)) ∧ S g = some (.fn φ) ∧ (∀ H, φ H → FailsD cells P w K mg base m g C H) ∧
  PySem.W.exmOne K (.ref C) cv = some true ∧ ∀ ea S', ExtD S S' → S' ea = none → t { nx := fun L S => M.nx (L.set i none) S, rt := M.rt, bk := fun L S => M.bk (L.set i none) S, ct := fun L S => M.ct (L.set i none) S } (L.set i (some (.ref ea))) (put S' ea (.exc C))
end
end DL
/-! ## defs that refuse, over data -/
namespace DL
open PySem PySem.Spec PyProof.Rows L2
/-- k: how it ends; x: the class of the exception that leaves it, and what is there then -/
abbrev DSpX := List D → DH → DK → (Addr → DH → Prop) → Prop
def spX (K : Fg) (F : DSpX) : Sp := fun vs H Q E => ∃ ds S k x, IsDs K H ds vs ∧ Hs K H S ∧ F ds S k x ∧ (∀ d' S' v H', k d' S' → Kp H H' → Hs K H' S' → IsD K H' d' v → Q v H') ∧ ∀ C S' H', x C S' → Hs K H' S' → E (.ref C) none H'
structure OwnX (P : Program) (w : World) (K : Fg) (mg : Str → Option Value) (base : Heap) (x : Str) (n : Nat) (F : DSpX) : Prop where
  ex : ∃ f fd ps, FnOk P w K mg base (CXE P w) n f fd ps (spX K F) ∧ mg x = some (.ref f) ∧ PySem.W.keepIn K (.ref f) = true ∧ Binds K fd ps []
section
variable {P : Program} {w : World} {K : Fg} {mg : Str → Option Value} {base : Heap} {N : List Str} {qual : Str} {scope : Scope} {f : Addr} {cd : Value} {A : Around} {outer : List Env} {s0 : Shared} {H0 : Hp} {E : XK} {ex : Addr → DH → Prop}
def dCallX (F : DSpX) (ex : Addr → DH → Prop) (t : DA) : DE := fun L S k => t L S fun ds S1 => F ds S1 k ex
end
end DL
/-! ## lambdas: how one is made -/
namespace L2
open PySem PySem.Spec PyProof.Rows
/-- a code object that a table holds -/
def CodeOk (H : Hp) (qual : Str) (cv : Value) : Prop := ∃ (c' : Addr) (oc : Obj) (uc : HO) (vs : Array Value) (t : Tok), cv = .ref c' ∧ H c' = some (.frz oc uc) ∧ oc.data = .fields vs ∧ vs[1]? = some (.str qual t)
structure TblOk (H : Hp) (qual : Str) (ps : Array Value) : Prop where
  tri : TriplesOk ps.toList
  ok : ∀ pos cv, codeAmong pos ps.toList = some cv → CodeOk H qual cv
/-- the object of a lambda -/
def IsLam (qual : Str) (params : Arguments) (body : Expr) (scope : Scope) (clos : List (Str × Addr)) (g : Addr) (H : Hp) : Prop :=
  ∃ (o : Obj) (u : HO) (cv pm ctv : Value), H g = some (.frz o u) ∧ o.data = .func (PySem.W.kla_fn "<lambda>" qual params body scope clos pm cv ctv) ∧ CodeOk H qual cv
/-- where the builtins stand -/
def BltB (mg : Str → Option Value) (base : Heap) : Prop := (∃ bm ob, mg "__builtins__" = some (.ref bm) ∧ bm ≠ builtinsNs ∧ base.get? bm = some ob ∧ ob.cls = .type "module" ∧ ob.dict = some builtinsNs ∧ ob.data = .plain) ∧ base.NoSeer
def tLam (P : Addr) (qual : Str) (params : Arguments) (body : Expr) (scope : Scope) (clos : List (Str × Addr)) : TE := fun σ H Q => ∃ ps, H P = some (.tbl ps) ∧ TblOk H qual ps ∧
  ∀ g H', H g = none → (∀ b o, b ≠ P → H b = some o → H' b = some o) → (∃ ps', H' P = some (.tbl ps') ∧ TblOk H' qual ps') → IsLam qual params body scope clos g H' → Q (.ref g) H'
section
variable {X : Cx} {params : Arguments} {body : Expr} {scope : Scope} {clos : List (Str × Addr)} {c P : Addr} {pos : Pos}
end
end L2
/-! ## lambdas: how one is called -/
namespace L2
open PySem PySem.Spec PyProof.Rows
section
variable {X : Cx} {pins : List (Addr × Obj)} {σ : St} {H H' : Hp} {s sx : Shared} {E : XK}
end
/-- a def's promise where cells are known -/
structure FnOkP (cells : List (Addr × Obj)) (P : Program) (w : World) (K : PySem.W.Frag) (mg : Str → Option Value) (base : Heap) (CX : CXT) (k : Nat) (f : Addr) (fd : FuncData) (ps : List Str) (sp : Sp) : Prop where
  len : ∀ vs H Q E, sp vs H Q E → vs.length = ps.length
  run : ∀ (A : Around) (outer : List Env) (s : Shared) (H : Hp) (args : Args) (us : List Value) (vs : List V) (Q : VK) (E : XK), Room k A → Env0 P w K mg base A outer s H → Cells cells outer H s.heap → BindsTo s fd args (ps.zip us) → Vals vs us → sp vs H Q E →
    codeAny (model P w) A (.call (.ref f) args) (CR CX outer P w H s Q E) s
/-- the context of a lambda's body -/
def cxL (P : Program) (w : World) (K : PySem.W.Frag) (mg : Str → Option Value) (base : Heap) (N : List Str) (qual : Str) (scope : Scope) (clos : List (Str × Addr)) (f : Addr) (cd : Value) (A : Around) (outer : List Env) (s : Shared) (H : Hp) (E : XK) : Cx where
  prog := P
  w := w
  K := K
  mg := mg
  base := base
  A := A.deeper (PySem.W.envX qual scope s.heap.objs.size f cd clos)
  N := N
  s₀ := s
  H₀ := H
  env := PySem.W.envX qual scope s.heap.objs.size f cd clos
  outer := outer
  stack := PySem.W.envX qual scope s.heap.objs.size f cd clos :: outer
  ex := []
  calm := true
  fn := fun _ => false
  pn := []
  xe := fun e s' => wpAny (model P w) (A.deeper (PySem.W.envX qual scope s.heap.objs.size f cd clos)) (leaving (PySem.W.envX qual scope s.heap.objs.size f cd clos) e) (fun _ s'' => CXE P w outer H s E e s'') (fun e' s'' => CXE P w outer H s E e' s'') s'
/-- what is asked of a lambda's names -/
structure LamSc (scope : Scope) (clos : List (Str × Addr)) (N : List Str) : Prop where
  kind : scope.kind = .function
  co : scope.isCoroutine = false
  gen : scope.isGenerator = false
  nocell : ∀ y ∈ scope.names, y.2 ≠ .cell
  has : ∀ x, scope.names.lookup x = some .free → ∃ c, clos.lookup x = some c
  inj : ∀ x y c, clos.lookup x = some c → clos.lookup y = some c → x = y
  free : ∀ x ∈ N, scope.names.lookup x = some .free
section
variable {P : Program} {w : World} {K : PySem.W.Frag} {mg : Str → Option Value} {base : Heap} {N : List Str} {qual : Str} {scope : Scope} {clos : List (Str × Addr)} {g : Addr} {cd : Value} {A : Around} {outer : List Env} {s : Shared} {H : Hp} {E : XK} {cells : List (Addr × Obj)} {σ0 : St}
end
end L2
/-! ## lambdas over data -/
namespace DL
open PySem PySem.Spec PyProof.Rows L2
/-- lambda: .. -/
def dLam (P : Addr) (qual : Str) (params : Arguments) (body : Expr) (scope : Scope) (clos : List (Str × Addr)) : DE := fun _ S k => S P = some (.tbl fun H ps => TblOk H qual ps) ∧ ∀ g, S g = none → k (.ref g) (put S g (.fn (IsLam qual params body scope clos g)))
section
variable {X : Cx} {params : Arguments} {body : Expr} {scope : Scope} {clos : List (Str × Addr)} {c P : Addr} {pos : Pos}
end
/-- the class of the exception and what is there then -/
def exE (K : Fg) (ex : Addr → DH → Prop) : XK := fun cls _ H' => ∃ C S', cls = .ref C ∧ ex C S' ∧ Hs K H' S'
section
variable {P : Program} {w : World} {K : Fg} {mg : Str → Option Value} {base : Heap} {N : List Str} {qual : Str} {scope : Scope} {clos : List (Str × Addr)} {g : Addr} {cd : Value} {A : Around} {outer : List Env} {s : Shared} {H : Hp} {ex : Addr → DH → Prop}
end
/-- _law_refused(x): cls the classes that it tells by their place -/
def Fref (cls : List (Nat × Addr)) (m : Nat) (P : Program) (w : World) (K : Fg) (mg : Str → Option Value) (base : Heap) (cells : List (Addr × Obj)) : DSp := fun ds S k =>
  ∃ g φ j C, ds = [.ref g] ∧ S g = some (.fn φ) ∧ (∀ H, φ H → FailsD cells P w K mg base m g C H) ∧ (j, C) ∈ cls ∧ ∀ p S', ExtD S S' → S' p = none → k (.ref p) (put S' p (.lst [.int (j : Nat)]))
structure OwnR (P : Program) (w : World) (K : Fg) (mg : Str → Option Value) (base : Heap) (x : Str) (n : Nat) (F : List (Addr × Obj) → DSp) : Prop where
  ex : ∃ f fd ps, (∀ cells, FnOkP cells P w K mg base CX0 n f fd ps (spU K (F cells))) ∧ mg x = some (.ref f) ∧ PySem.W.keepIn K (.ref f) = true ∧ Binds K fd ps []
/-- what a def takes over into a lambda: cap[i] the place of the i-th name of the lambda among its own -/
structure LamCap (X : Cx) (scope : Scope) (clos : List (Str × Addr)) (N : List Str) (cap : List (Option Nat)) : Prop where
  sc : (∀ x y c, clos.lookup x = some c → clos.lookup y = some c → x = y) → LamSc scope clos N
  sub : ∀ p ∈ clos, X.env.cells.lookup p.1 = some p.2
  fn : ∀ p ∈ clos, X.fn p.1 = true
  len : cap.length = N.length
  caps : ∀ (i j : Nat) (x : Str), cap[i]? = some (some j) → N[i]? = some x → X.N[j]? = some x ∧ (X.env.scope.names.lookup x = some .cell ∨ X.env.scope.names.lookup x = some .free)
def LCapOk (X : Cx) : List (Option Nat) → List Str → Prop
  | some j :: r, x :: xs => (X.N[j]? = some x ∧ (X.env.scope.names.lookup x = some .cell ∨ X.env.scope.names.lookup x = some .free)) ∧ LCapOk X r xs
  | none :: r, _ :: xs => LCapOk X r xs
  | _, _ => True
/-- _law_refused(x), x a lambda of this def -/
def RefQ (cls : List (Nat × Addr)) (qual : Str) (params : Arguments) (body : Expr) (scope : Scope) (clos : List (Str × Addr)) (cap : List (Option Nat)) (gb : (Addr → DH → Prop) → DE) (L : Lo) (k : DK) (d : D) (S1 : DH) : Prop := ∃ (g : Addr) (j : Nat) (C : Addr), d = .ref g ∧ S1 g = some (.fn (IsLam qual params body scope clos g)) ∧
  (j, C) ∈ cls ∧ (∀ S, gb (fun C' S' => C' = C ∧ ExtD S S') (capL cap L) S fun _ _ => False) ∧ ∀ p S', ExtD S1 S' → S' p = none → k (.ref p) (put S' p (.lst [.int (j : Nat)]))
def dRef (cls : List (Nat × Addr)) (qual : Str) (params : Arguments) (body : Expr) (scope : Scope) (clos : List (Str × Addr)) (cap : List (Option Nat)) (gb : (Addr → DH → Prop) → DE) (ge : DE) : DE := fun L S k => ge L S fun d S1 => RefQ cls qual params body scope clos cap gb L k d S1
section
variable {X : Cx} {qual : Str} {params : Arguments} {body : Expr} {scope : Scope} {clos : List (Str × Addr)} {p pos : Pos}
end
end DL
/-! ## the head, where defs make lambdas: their tables are tracked -/
namespace L2
open PySem PySem.Spec PyProof.Rows
/-- nothing is tracked but the script and the tables -/
structure OnlyT (tabs : List (Addr × Addr)) (H : Hp) : Prop where
  only : ∀ b, H b = none ∨ (∃ o xs, H b = some (.frz o (.lst xs))) ∨ (b ∈ tabs.map (·.2) ∧ H b = some (.tbl #[]))
  all : ∀ q ∈ tabs, H q.2 = some (.tbl #[])
end L2
namespace DL
open PySem PySem.Spec PyProof.Rows L2
/-- the tables at the start -/
def tab0 (tq : List (Addr × Str)) : DH := fun b => (tq.lookup b).map fun q => DO.tbl fun H ps => TblOk H q ps
end DL
/-! ## floor division without a bound -/
namespace L2
open PySem PySem.Spec PyProof.Rows
end L2
namespace DL
open PySem PySem.Spec PyProof.Rows L2
abbrev dDivR : D2 := d2I (fun _ j => j ≠ 0) fun i j => .int (i.fdiv j)
end DL
/-! ## == of lists -/
namespace DL
open PySem PySem.Spec PyProof.Rows L2
section
variable {X : Cx} {pins : List (Addr × Obj)} {σ : L2.St} {H : Hp} {s : Shared}
theorem eqL_at (I : Inv X pins σ H s) {S : DH} {a c : Addr} {ds es : List D} {b : Bool} (hS : Hs X.K H S) (h1 : S a = some (.lst ds)) (h2 : S c = some (.lst es)) (hl : ds.length = es.length) (A : Around) (hu : A.units + 8 < cLine) (h : eqTs (eqT 7) ds es = some b) :
    SeqAt.RcAt A s (.ref a) (.ref c) b ∧ SeqAt.RcNeAt A s (.ref a) (.ref c) (!b) := by
  obtain ⟨xs, q1, j1⟩ := hS.lst h1
  obtain ⟨ys, q2, j2⟩ := hS.lst h2
  obtain ⟨us, r1, p1, _⟩ := I.list (SqL.of q1)
  obtain ⟨ws, r2, p2, _⟩ := I.list (SqL.of q2)
  have l1 := j1.length
  have l2 := j2.length
  have l3 := r1.length
  have l4 := r2.length
  have hsz : us.toArray.size = ws.toArray.size := by simp only [List.size_toArray]; omega
  have he : ∀ j (h1 : j < us.toArray.size) (h2 : j < ws.toArray.size), SeqAt.EqAt A.in1 s us.toArray[j] ws.toArray[j] (eqAts (eqT 7) ds es j) := fun j h1 h2 => by
    simp only [List.size_toArray] at h1 h2
    obtain ⟨d, e, x, y, q1, q2, d1, d2, rx, ry⟩ := pair_at j1 j2 r1 r2 h1 h2
    have := (eqT_at I 7 A.in1 d e x y us[j] ws[j] _ (by show A.units + 1 + 7 < cLine; omega) (eqTs_at h q1 q2) d1 d2 rx ry).1
    simpa using this
  have e := eqTs_all h
  rw [hl, Nat.min_self] at e
  have e : (List.range us.toArray.size).all (eqAts (eqT 7) ds es) = b := by
    simp only [List.size_toArray]
    rw [← l3, ← l1, hl]
    simpa using e
  refine ⟨?_, ?_⟩
  · have z := SeqAt.RcAt.lists p1.isList p2.isList hsz (by omega) he
    rw [e] at z
    exact z
  · have z := SeqAt.RcNeAt.lists p1.isList p2.isList hsz (by omega) he
    rw [e] at z
    exact z
end
def dEqX : D2 := fun d e S k => match d, e with
  | .ref a, .ref c => ∃ xs ys b, S a = some (.lst xs) ∧ S c = some (.lst ys) ∧ xs.length = ys.length ∧ eqTs (eqT 7) xs ys = some b ∧ k (.bl b) S
  | d, e => ∃ b, eqT 8 d e = some b ∧ k (.bl b) S
def dNeX : D2 := fun d e S k => match d, e with
  | .ref a, .ref c => ∃ xs ys b, S a = some (.lst xs) ∧ S c = some (.lst ys) ∧ xs.length = ys.length ∧ eqTs (eqT 7) xs ys = some b ∧ k (.bl (!b)) S
  | d, e => ∃ b, eqT 8 d e = some b ∧ k (.bl (!b)) S
theorem o_eqX {X : Cx} {n : Nat} (hr : Room n X.A) : OpR X (compareOp .Eq) (upR X.K dEqX) := by
  intro pins s σ H x y v u Q I rx ry h
  obtain ⟨d, e, S, k, i1, i2, hS, r, m⟩ := h
  have hu := hr.units
  unfold dEqX at r
  split at r
  · obtain ⟨xs, ys, b, h1, h2, h3, h4, w⟩ := r
    have e1 := isRef.mp i1
    have e2 := isRef.mp i2
    subst e1 e2
    cases rx
    cases ry
    exact (eqL_at I hS h1 h2 h3 X.A (by omega) h4).1 X.prog X.w X.xe _ ⟨.bl b, H, I, rfl, up1 m hS w (isBl.mpr rfl)⟩
  · obtain ⟨b, h1, w⟩ := r
    exact (eqT_at I 8 X.A d e x y v u b (by omega) h1 i1 i2 rx ry).2 X.prog X.w X.xe _ ⟨.bl b, H, I, rfl, up1 m hS w (isBl.mpr rfl)⟩
theorem o_neX {X : Cx} {n : Nat} (hr : Room n X.A) : OpR X (compareOp .NotEq) (upR X.K dNeX) := by
  intro pins s σ H x y v u Q I rx ry h
  obtain ⟨d, e, S, k, i1, i2, hS, r, m⟩ := h
  have hu := hr.units
  unfold dNeX at r
  split at r
  · obtain ⟨xs, ys, b, h1, h2, h3, h4, w⟩ := r
    have e1 := isRef.mp i1
    have e2 := isRef.mp i2
    subst e1 e2
    cases rx
    cases ry
    exact (eqL_at I hS h1 h2 h3 X.A (by omega) h4).2 X.prog X.w X.xe _ ⟨.bl (!b), H, I, rfl, up1 m hS w (isBl.mpr rfl)⟩
  · obtain ⟨b, h1, w⟩ := r
    exact eqT_ne I 8 X.A d e x y v u b (by omega) h1 i1 i2 rx ry X.prog X.w X.xe _ ⟨.bl (!b), H, I, rfl, up1 m hS w (isBl.mpr rfl)⟩
end DL
/-! ## _law_refused -/
namespace DL
open PySem PySem.Spec PyProof.Rows L2
/-- the j-th of nine classes of refusals -/
structure RefC (K : Fg) (rod : Value) (nine : List Addr) (j : Nat) (C : Addr) : Prop where
  exc : ExcCls K C
  kit : ∀ (i : Nat) (c : Addr), nine[i]? = some c → PySem.W.kitOne K (.ref C) (.ref c) = some (decide (i = j))
  val : PySem.W.kitOne K (.ref C) (.type "ValueError") = some true
  rod : PySem.W.exmOne K (.ref C) rod = some true
  lt : j < 9
end DL
namespace DL
open PySem PySem.Spec PyProof.Rows L2
end DL
namespace DL
open PySem PySem.Spec PyProof.Rows L2
end DL
/-! ## xs[::-1] of a list -/
namespace L2
open PySem PySem.Spec PyProof.Rows
theorem fm_rev {α : Type} (its : List α) : (List.range its.length).filterMap (fun k => its[its.length - 1 - k]?) = its.reverse := by
  apply List.ext_getElem?
  intro i
  have e : (List.range its.length).filterMap (fun k => its[its.length - 1 - k]?) = (List.range its.length).pmap (fun k (h : k < its.length) => its[its.length - 1 - k]) (fun k hk => List.mem_range.mp hk) := by
    generalize hp : (fun k hk => List.mem_range.mp hk : ∀ k ∈ List.range its.length, k < its.length) = p
    clear hp
    generalize List.range its.length = l at p ⊢
    induction l with
    | nil => rfl
    | cons a l ih =>
      have ha := p a List.mem_cons_self
      rw [List.filterMap_cons, List.getElem?_eq_getElem (by omega), List.pmap]
      simp only
      rw [ih fun k hk => p k (List.mem_cons_of_mem _ hk)]
  rw [e]
  by_cases h : i < its.length
  · rw [List.getElem?_eq_getElem (by simpa using h), List.getElem?_eq_getElem (by simpa using h)]
    simp [List.getElem_reverse]
  · rw [List.getElem?_eq_none (by simpa using h), List.getElem?_eq_none (by simpa using h)]
theorem Vals.rev {xs : List V} {us : List Value} (r : Vals xs us) : Vals xs.reverse us.reverse := by
  induction r with
  | nil => exact .nil
  | cons h t ih =>
    rw [List.reverse_cons, List.reverse_cons]
    exact ih.append (.cons h .nil)
section
variable {X : Cx} {e st : Expr} {te ts : TE} {p2 pos : Pos}
def tRev (K : PySem.W.Frag) (te ts : TE) : TE := fun σ H Q => te σ H fun x H1 => ts σ H1 fun y H2 => y = .int (-1) ∧ ∃ a xs, x = .ref a ∧ SqL K H2 a xs ∧ ∀ p, H2 p = none → Q (.ref p) (upd H2 p (.lst xs.reverse))
end
end L2
namespace DL
open PySem PySem.Spec PyProof.Rows L2
theorem IsDs.rev {K : Fg} {H : Hp} : ∀ {ds : List D} {vs : List V}, IsDs K H ds vs → IsDs K H ds.reverse vs.reverse
  | [], _, h => by rw [isNil.mp h]; exact IsDs.nil
  | c :: ds, _, h => by
    obtain ⟨u, r, rfl, h1, h2⟩ := isCons.mp h
    rw [List.reverse_cons, List.reverse_cons]
    exact (IsDs.rev h2).append (IsDs.cons h1 IsDs.nil)
def dRev (ge gs : DE) : DE := fun L S k => ge L S fun d S1 => gs L S1 fun y S2 => y = .int (-1) ∧ match d with
  | .ref a => ∃ xs, S2 a = some (.lst xs) ∧ ∀ p, S2 p = none → k (.ref p) (put S2 p (.lst xs.reverse))
  | _ => False
end DL
namespace DL
open PySem PySem.Spec PyProof.Rows L2
def bTuple : DSp := fun ds S k => match ds with
  | [.tup xs] => k (.tup xs) S
  | [.ref a] => ∃ xs, S a = some (.lst xs) ∧ k (.tup xs) S
  | _ => False
theorem b_tuple {X : Cx} : CallR X (.type "tuple") (upC X.K bTuple) := by
  intro pins s σ H xs us Q I rs h
  obtain ⟨ds, S, k, i, hS, r, n⟩ := h
  unfold bTuple at r
  split at r
  · obtain ⟨x, rfl, i1⟩ := isDs1 i
    obtain ⟨a, vs, rfl, t, j⟩ := isTup.mp i1
    exact call_tuple_of pins s σ H _ us Q I rs ⟨a, vs, rfl, .inr ⟨t, n _ S _ H r (Kp.refl H) hS i1⟩⟩
  · obtain ⟨x, rfl, i1⟩ := isDs1 i
    have e1 := isRef.mp i1
    subst e1
    obtain ⟨xs, z, r⟩ := r
    obtain ⟨vs, hl, j⟩ := hS.lst z
    refine call_tuple_of pins s σ H _ us Q I rs ⟨_, vs, rfl, .inl ⟨SqL.of hl, fun p hp => ?_⟩⟩
    have kp : Kp H (upd H p (.tup vs)) := Kp.new hp
    exact n _ S _ _ r kp (hS.new hp) (isTup.mpr ⟨p, vs, rfl, SqT.of upd_same, j.kp kp⟩)
  · exact r.elim
end DL
namespace L2
open PySem PySem.Spec PyProof.Rows
section
variable {X : Cx} {pos : Pos}
def tPar3 (i j l : Nat) (ta : TA) : TS := fun D σ H => ta σ H fun vs H1 => ∃ v w t, vs = [v, w, t] ∧ D.nx (((σ.set l (some t)).set j (some w)).set i (some v)) H1
end
end L2
namespace DL
open PySem PySem.Spec PyProof.Rows L2
def dPar3 (i j l : Nat) (ta : DA) : DS := fun M L S => ta L S fun ds S1 => match ds with
  | [d, e, f] => M.nx (((L.set l (some f)).set j (some e)).set i (some d)) S1
  | _ => False
end DL
/-! ## enumerate over lists and tuples -/
namespace L2
open PySem PySem.Spec PyProof.Rows
def Ite (K : PySem.W.Frag) (b : Bool) (a : Addr) : It :=
  ⟨fun i H => ∃ xs x, SqB b K H a xs ∧ xs[i]? = some x,
   fun i H v H' => ∃ T x, v = .ref T ∧ H T = none ∧ H' = upd H T (.tup [.int (i : Nat), x]) ∧ ∀ xs, SqB b K H a xs → xs[i]? = some x,
   fun i H => ∃ xs, SqB b K H a xs ∧ xs.length = i⟩
def tnE (b : Bool) (e it a : Addr) (i : Nat) (h : Heap) : Prop := (∃ old, IsEnum h e it (i : Nat) old) ∧ itB b it a i h
section
variable {prog : Program} {w : World} {A : Around} {E : Value → Shared → Prop} {s : Shared}
end
/-- enumerate(a) walked, its pairs unpacked at once -/
def iEnum (K : PySem.W.Frag) (ta : TA) : TI := fun σ H R => ta σ H fun vs H1 => ∃ a b, vs = [.ref a] ∧ (∃ xs, SqB b K H1 a xs) ∧ R (Ite K b a) H1
end L2
namespace DL
open PySem PySem.Spec PyProof.Rows L2
/-- the pairs that enumerate hands out -/
def enumD : Nat → List D → List D
  | _, [] => []
  | j, d :: r => .tup [.int (j : Nat), d] :: enumD (j + 1) r
def dForEn (ta : DA) (g : DG) (b : DS) : DS := fun M L S => ta L S fun ds S1 => match ds with
  | [d] => ∃ q, dItems S1 d = some q ∧ dLoop (okFor q) g b M (enumD 0 q.1) L S1
  | _ => False
section
variable {X : Cx} {a : Expr} {es : List Expr} {kt : Nat} {tp p pos pos' : Pos} {gg : DG} {ta : DA} {g : DS} {body : List Stmt}
end
end DL
/-! ## != of lists of any lengths -/
namespace DL
open PySem PySem.Spec PyProof.Rows L2
theorem neLen_at {X : Cx} {pins : List (Addr × Obj)} {σ : L2.St} {H : Hp} {s : Shared} (I : Inv X pins σ H s) {S : DH} {a c : Addr} {ds es : List D} (hS : Hs X.K H S) (h1 : S a = some (.lst ds)) (h2 : S c = some (.lst es)) (hl : ds.length ≠ es.length) (A : Around) (hu : A.units + 8 < cLine) :
    SeqAt.RcNeAt A s (.ref a) (.ref c) true := by
  obtain ⟨xs, q1, j1⟩ := hS.lst h1
  obtain ⟨ys, q2, j2⟩ := hS.lst h2
  obtain ⟨us, r1, p1, _⟩ := I.list (SqL.of q1)
  obtain ⟨ws, r2, p2, _⟩ := I.list (SqL.of q2)
  have l1 := j1.length
  have l2 := j2.length
  have l3 := r1.length
  have l4 := r2.length
  exact SeqAt.RcNeAt.lists_lengths p1.isList p2.isList (by simp only [List.size_toArray, bne_iff_ne]; omega) (by omega)
def dNeL : D2 := fun d e S k => match d, e with
  | .ref a, .ref c => ∃ xs ys b, S a = some (.lst xs) ∧ S c = some (.lst ys) ∧ ((xs.length = ys.length ∧ eqTs (eqT 7) xs ys = some b) ∨ (xs.length ≠ ys.length ∧ b = false)) ∧ k (.bl (!b)) S
  | d, e => ∃ b, eqT 8 d e = some b ∧ k (.bl (!b)) S
theorem o_neL {X : Cx} {n : Nat} (hr : Room n X.A) : OpR X (compareOp .NotEq) (upR X.K dNeL) := by
  intro pins s σ H x y v u Q I rx ry h
  obtain ⟨d, e, S, k, i1, i2, hS, r, m⟩ := h
  have hu := hr.units
  unfold dNeL at r
  split at r
  · obtain ⟨xs, ys, b, h1, h2, h3, w⟩ := r
    have e1 := isRef.mp i1
    have e2 := isRef.mp i2
    subst e1 e2
    cases rx
    cases ry
    rcases h3 with ⟨h3, h4⟩ | ⟨h3, rfl⟩
    · exact (eqL_at I hS h1 h2 h3 X.A (by omega) h4).2 X.prog X.w X.xe _ ⟨.bl (!b), H, I, rfl, up1 m hS w (isBl.mpr rfl)⟩
    · exact (neLen_at I hS h1 h2 h3 X.A (by omega)) X.prog X.w X.xe _ ⟨.bl true, H, I, rfl, up1 m hS w (isBl.mpr rfl)⟩
  · obtain ⟨b, h1, w⟩ := r
    exact eqT_ne I 8 X.A d e x y v u b (by omega) h1 i1 i2 rx ry X.prog X.w X.xe _ ⟨.bl (!b), H, I, rfl, up1 m hS w (isBl.mpr rfl)⟩
end DL
namespace DL
open PySem PySem.Spec PyProof.Rows L2
/-- x[i], told by what is there -/
def dIxF : D2 := fun d e S k => match d, e with
  | .tup ds, .int i => ∃ c, L2.atI ds i = some c ∧ k c S
  | .rl ds, .int i => ∃ c, L2.atI ds i = some c ∧ k c S
  | .ref a, .int i => ∃ ds c, S a = some (.lst ds) ∧ L2.atI ds i = some c ∧ k c S
  | _, _ => False
theorem x_ixF {X : Cx} : IxR X (upR X.K dIxF) := IxR.imp x_ix (upR.imp fun d e S k h => by
  unfold dIxF at h
  split at h
  · obtain ⟨c, h1, h2⟩ := h
    simp only [dIx, h1]
    exact h2
  · obtain ⟨c, h1, h2⟩ := h
    simp only [dIx, h1]
    exact h2
  · obtain ⟨ds, c, h0, h1, h2⟩ := h
    simp only [dIx, h0, h1]
    exact h2
  · exact h.elim)
end DL
/-! ## lambdas that tell something -/
namespace L2
open PySem PySem.Spec PyProof.Rows
/-- g(), at H, tells something -/
structure Runs (cells : List (Addr × Obj)) (P : Program) (w : World) (K : PySem.W.Frag) (mg : Str → Option Value) (base : Heap) (n : Nat) (g : Addr) (H : Hp) (Q : VK) : Prop where
  fn : ∃ (o : Obj) (u : HO) (fd : FuncData), H g = some (.frz o u) ∧ o.data = .func fd
  run : ∀ (A : Around) (outer : List Env) (s : Shared), Room n A → Env0 P w K mg base A outer s H → Cells cells outer H s.heap → codeAny (model P w) A (.call (.ref g) ⟨[], []⟩) (CR CX0 outer P w H s Q E0) s
section
variable {P : Program} {w : World} {K : PySem.W.Frag} {mg : Str → Option Value} {base : Heap} {N : List Str} {qual : Str} {scope : Scope} {clos : List (Str × Addr)} {g : Addr} {cd : Value} {A : Around} {outer : List Env} {s : Shared} {H : Hp} {cells : List (Addr × Obj)} {σ0 : St}
end
section
variable {X : Cx} {pins : List (Addr × Obj)} {σ : St} {H : Hp} {s : Shared}
def tTryS (cells : List (Addr × Obj)) (P : Program) (w : World) (K : PySem.W.Frag) (mg : Str → Option Value) (base : Heap) (m : Nat) (j : Nat) : TS := fun D σ H => ∃ g Q, σ[j]? = some (some (.ref g)) ∧ Runs cells P w K mg base m g H Q ∧ ∀ v H', Q v H' → D.nx σ H'
end
end L2
namespace DL
open PySem PySem.Spec PyProof.Rows L2
/-- g() tells something; what was there is there -/
def RunsD (cells : List (Addr × Obj)) (P : Program) (w : World) (K : Fg) (mg : Str → Option Value) (base : Heap) (m : Nat) (g : Addr) (H : Hp) : Prop :=
  ∀ S, Hs K H S → Runs cells P w K mg base m g H fun _ H' => Kp H H' ∧ ∃ S', Hs K H' S' ∧ ExtD S S'
section
variable {P : Program} {w : World} {K : Fg} {mg : Str → Option Value} {base : Heap} {N : List Str} {qual : Str} {scope : Scope} {clos : List (Str × Addr)} {g : Addr} {H : Hp}
end
def dTryS (cells : List (Addr × Obj)) (P : Program) (w : World) (K : Fg) (mg : Str → Option Value) (base : Heap) (m : Nat) (j : Nat) : DS := fun M L S => ∃ g φ, L[j]? = some (some (.ref g)) ∧ S g = some (.fn φ) ∧ (∀ H, φ H → RunsD cells P w K mg base m g H) ∧ ∀ S', ExtD S S' → M.nx L S'
section
variable {X : Cx} {pos : Pos}
end
end DL
/-! ## a comprehension that knows the def's cells -/
namespace L2
open PySem PySem.Spec PyProof.Rows
/-- the cells of a def, and what its names have in them -/
structure CellsFor (X : Cx) (σ : St) (cells : List (Addr × Obj)) : Prop where
  all : ∀ x c, X.env.cells.lookup x = some c → ∃ o v, (c, o) ∈ cells ∧ o.data = .cell v
  val : ∀ (j : Nat) (x : Str) (v : V), X.N[j]? = some x → σ[j]? = some (some v) → (X.env.scope.names.lookup x = some .cell ∨ X.env.scope.names.lookup x = some .free) → ∃ c o u, X.env.cells.lookup x = some c ∧ (c, o) ∈ cells ∧ o.data = .cell (some u) ∧ RelV v u
  inj : ∀ x y c, X.env.cells.lookup x = some c → X.env.cells.lookup y = some c → x = y
def tCompK (X : Cx) (cap : List (Option Nat)) (wi : TI) (g : TG) (te : List (Addr × Obj) → TE) : TE := fun σ H Q => wi σ H fun J H1 => ∀ cells, CellsFor X σ cells → ∀ D, H1 D = none → ∃ W : Nat → Nat → St → Hp → Prop, (∃ m, W 0 m (capSt cap σ) (upd H1 D (.lst []))) ∧ ∀ i m σ' H', W i m σ' H' →
  (J.stop i H' ∧ Q (.ref D) H') ∨ (J.go i H' ∧ ∃ N : St → Hp → Prop, (∀ σ2 H2, N σ2 H2 → ∃ m', m' < m ∧ W (i + 1) m' σ2 H2) ∧ ∀ x H2, J.yld i H' x H2 → g x σ' H2 fun σ3 H3 => te cells σ3 H3 fun v H4 => ∃ ys, H4 D = some (.lst ys) ∧ ys.length < sizeLine ∧ N σ3 (upd H4 D (.lst (ys ++ [v]))))
section
variable {X : Cx} {elt tg iter c : Expr} {scope : Scope} {cl : List (Str × Addr)} {N : List Str} {cap : List (Option Nat)} {pos : Pos} {wi : TI} {g : TG} {te : List (Addr × Obj) → TE}
end
end L2
/-! ## lists of lambdas -/
namespace DL
open PySem PySem.Spec PyProof.Rows L2
/-- cells that hold what L tells wherever R holds -/
def CFor (X : Cx) (cells : List (Addr × Obj)) (R : Hp → Prop) (L : Lo) : Prop := ∃ σ, CellsFor X σ cells ∧ ∀ H, R H → Lc X.K H L σ
/-- what calling a lambda of this def does -/
def LamK (X : Cx) (φ : Hp → Prop) (g : Addr) (cap : List (Option Nat)) (gb : (Addr → DH → Prop) → DE) (m : Nat) : Prop := ∀ cells R L, CFor X cells R L → ∀ H, φ H → R H →
  (∀ C, (∀ S, gb (fun C' S' => C' = C ∧ ExtD S S') (capL cap L) S fun _ _ => False) → FailsD cells X.prog X.w X.K X.mg X.base (m + 1) g C H) ∧
  ((∀ S, gb (fun _ _ => False) (capL cap L) S fun _ S' => ExtD S S') → RunsD cells X.prog X.w X.K X.mg X.base (m + 1) g H)
section
variable {X : Cx} {params : Arguments} {body : Expr} {scope : Scope} {clos : List (Str × Addr)} {c P : Addr} {pos : Pos} {N : List Str} {cap : List (Option Nat)} {gb : (Addr → DH → Prop) → DE} {m : Nat} {qual : Str}
/-- lambda: .., told by what calling it does -/
def dLamK (X : Cx) (P : Addr) (qual : Str) (cap : List (Option Nat)) (gb : (Addr → DH → Prop) → DE) (m : Nat) : DE := fun _ S k => S P = some (.tbl fun H ps => TblOk H qual ps) ∧ ∀ g φ, S g = none → LamK X φ g cap gb m → k (.ref g) (put S g (.fn φ))
end
/-- S with R told of each function -/
def StrR (R : Hp → Prop) (S : DH) : DH := fun a => match S a with
  | some (.fn φ) => some (.fn fun H => φ H ∧ R H)
  | o => o
def dCompK (X : Cx) (cap : List (Option Nat)) (gi : DE) (g : DG) (ge : List (Addr × Obj) → DE) : DE := fun L S k => gi L S fun d S1 => ∃ q, dItems S1 d = some q ∧ ∀ cells R, CFor X cells R L → ∀ p, StrR R S1 p = none → dCLoop (okFor q) p g (bdAll (ge cells)) k q.1 [] (capL cap L) (put (StrR R S1) p (.lst []))
section
variable {X : Cx} {pos : Pos}
end
/-- _law_refused(x), x refusing or not -/
def FrefA (cls : List (Nat × Addr)) (m : Nat) (P : Program) (w : World) (K : Fg) (mg : Str → Option Value) (base : Heap) (cells : List (Addr × Obj)) : DSp := fun ds S k =>
  Fref cls m P w K mg base cells ds S k ∨ ∃ g φ, ds = [.ref g] ∧ S g = some (.fn φ) ∧ (∀ H, φ H → RunsD cells P w K mg base m g H) ∧ ∀ S', ExtD S S' → k .non S'
/-- isinstance(None, C) and of exceptions -/
def bIsiN (K : Fg) : DSp := fun ds S k => match ds with
  | [.ref a, .ref c] => ∃ C b, S a = some (.exc C) ∧ ExcCls K C ∧ PySem.W.kitOne K (.ref C) (.ref c) = some b ∧ k (.bl b) S
  | [.ref a, .ty c] => ∃ C b, S a = some (.exc C) ∧ ExcCls K C ∧ PySem.W.kitOne K (.ref C) (.type c.name) = some b ∧ k (.bl b) S
  | [.non, .ref c] => ∃ b, PySem.W.kitOne K (.type "NoneType") (.ref c) = some b ∧ k (.bl b) S
  | [.non, .ty c] => ∃ b, PySem.W.kitOne K (.type "NoneType") (.type c.name) = some b ∧ k (.bl b) S
  | _ => False
end DL
namespace DL
open PySem PySem.Spec PyProof.Rows L2
end DL
/-! ## lists of lists compared, lists repeated -/
namespace DL
open PySem PySem.Spec PyProof.Rows L2
/-- two elements that are alike -/
def ElT (S : DH) (x y : D) : Prop := eqT 6 x y = some true ∨ ∃ a c us, x = .ref a ∧ y = .ref c ∧ a ≠ c ∧ S a = some (.lst us) ∧ S c = some (.lst us) ∧ eqTs (eqT 7) us us = some true
section
variable {X : Cx} {pins : List (Addr × Obj)} {σ : L2.St} {H : Hp} {s : Shared}
end
def dNeD : D2 := fun d e S k => match d, e with
  | .ref a, .ref c => (∃ xs ys, S a = some (.lst xs) ∧ S c = some (.lst ys) ∧ xs.length = ys.length ∧ (∀ (i : Nat) x y, xs[i]? = some x → ys[i]? = some y → ElT S x y) ∧ k (.bl false) S) ∨ dNeL (.ref a) (.ref c) S k
  | d, e => dNeL d e S k
def dEqD : D2 := fun d e S k => match d, e with
  | .ref a, .ref c => (∃ xs ys, S a = some (.lst xs) ∧ S c = some (.lst ys) ∧ xs.length = ys.length ∧ (∀ (i : Nat) x y, xs[i]? = some x → ys[i]? = some y → ElT S x y) ∧ k (.bl true) S) ∨ dEqX (.ref a) (.ref c) S k
  | d, e => dEqX d e S k
theorem isDs.rep {K : Fg} {H : Hp} {ds : List D} {vs : List V} (h : IsDs K H ds vs) : ∀ n : Nat, IsDs K H (List.replicate n ds).flatten (List.replicate n vs).flatten
  | 0 => IsDs.nil
  | n + 1 => by
    rw [List.replicate_succ, List.flatten_cons, List.replicate_succ, List.flatten_cons]
    exact h.append (isDs.rep h n)
/-- x * y, of numbers and of a list by a number -/
def dMulF : D2 := fun d e S k => match d, e with
  | .ref a, .int j => ∃ xs, S a = some (.lst xs) ∧ -(2 ^ 63) ≤ j ∧ j < 2 ^ 63 ∧ xs.length * j.toNat ≤ sizeLine ∧ ∀ p, S p = none → k (.ref p) (put S p (.lst (List.replicate j.toNat xs).flatten))
  | d, e => dMul d e S k
theorem o_mulF {X : Cx} : OpR X (binaryOp .Mult) (upR X.K dMulF) := by
  intro pins s σ H x y v u Q I rx ry h
  obtain ⟨d, e, S, k, i1, i2, hS, r, m⟩ := h
  unfold dMulF at r
  split at r
  · rename_i a j
    obtain ⟨xs, h1, h2, h3, h4, w⟩ := r
    have e1 := isRef.mp i1
    have e2 := isInt.mp i2
    subst e1 e2
    obtain ⟨vs, hl, jj⟩ := hS.lst h1
    refine op_rep pins s σ H _ _ v u Q I rx ry ⟨a, j, vs, rfl, rfl, hl, h2, h3, by rw [← jj.length]; exact h4, fun p hp => ?_⟩
    exact m _ _ _ _ (w p (hS.free hp)) (Kp.new hp) (hS.newL hp (isDs.rep jj _)) (isRef.mpr rfl)
  · exact o_mul pins s σ H x y v u Q I rx ry ⟨_, _, S, k, i1, i2, hS, r, m⟩
end DL
/-! ## + of tuples, empty ones too; sorted of whole numbers -/
namespace HT
open PySem PyProof.Rows
theorem cat_tup0 {prog : Program} {w : World} {A : Around} {E : Value → Shared → Prop} {s : Shared} {t b : Addr} {ws : List Value} {Q : Value → Shared → Prop} (ht : IsTup s.heap t ([] : List Value).toArray) (hb : IsTup s.heap b ws.toArray)
    (h0 : Q (.ref b) s) : wpAny (model prog w) A (binaryOp .Add (.ref t) (.ref b)) Q E s := by
  obtain ⟨⟨cls, dd, data, sl⟩, ho, hc, n, hd⟩ := id ht
  obtain ⟨⟨cls2, dd2, data2, sl2⟩, ho2, hc2, n2, hd2⟩ := id hb
  simp only at hc hd hc2 hd2
  subst hc hd hc2 hd2
  exact concat_meets ⟨_, ho, rfl⟩ ⟨_, ho2, rfl⟩ noFill_tuple_add seq_tuple_add PySem.F.slot_tuple_add PySem.F.entry_tuple_add (PySem.F.args_tuple_add_2 _ _)
      (tuple_addW0 t b ([] : List Value).toArray ws.toArray n n2 dd dd2 sl sl2 (by simp)) ⟨ho, ho2, h0⟩
end HT
namespace L2
open PySem PySem.Spec PyProof.Rows
section
variable {X : Cx}
theorem op_catT0 : OpR X (binaryOp .Add) (fun x y H Q => ∃ a b ys, x = .ref a ∧ y = .ref b ∧ SqT X.K H a [] ∧ SqT X.K H b ys ∧ Q (.ref b) H) := by
  intro pins s σ H x y v u Q I rx ry h
  obtain ⟨a, b, ys, rfl, rfl, ha, hb, q⟩ := h
  cases rx
  cases ry
  obtain ⟨its, r1, p1, _⟩ := I.tuple ha
  obtain ⟨its2, r2, p2, _⟩ := I.tuple hb
  have e : its = [] := r1.nil_iff.mpr rfl
  subst e
  exact HT.cat_tup0 p1 p2 ⟨.ref b, H, I, rfl, q⟩
theorem vals_intsM : ∀ {vs : List Value} {ns : List Int}, IntsAre vs ns → Vals (ns.map V.int) vs
  | _, _, .nil => .nil
  | _, _, .cons n t r => .cons ⟨t, rfl⟩ (vals_intsM r)
end
end L2
namespace DL
open PySem PySem.Spec PyProof.Rows L2
/-- +, of tuples empty or not -/
def dAddT : D2 := fun d e S k => match d, e with
  | .tup xs, .tup ys => xs.length + ys.length ≤ sizeLine ∧ k (.tup (xs ++ ys)) S
  | d, e => dAdd d e S k
theorem o_addT {X : Cx} : OpR X (binaryOp .Add) (upR X.K dAddT) := by
  intro pins s σ H x y v u Q I rx ry h
  obtain ⟨d, e, S, k, i1, i2, hS, r, n⟩ := h
  unfold dAddT at r
  split at r
  · rename_i xs ys
    obtain ⟨hl, r⟩ := r
    by_cases h1 : xs = []
    · subst h1
      obtain ⟨a, vs, rfl, t1, j1⟩ := isTup.mp i1
      obtain ⟨b, us, rfl, t2, j2⟩ := isTup.mp i2
      have e : vs = [] := by
        have := j1.length
        exact List.length_eq_zero_iff.mp this.symm
      subst e
      exact op_catT0 pins s σ H _ _ v u Q I rx ry ⟨a, b, us, rfl, rfl, t1, t2, n _ S _ H r (Kp.refl H) hS i2⟩
    · by_cases h2 : ys = []
      · subst h2
        obtain ⟨a, vs, rfl, t1, j1⟩ := isTup.mp i1
        obtain ⟨b, us, rfl, t2, j2⟩ := isTup.mp i2
        have e : us = [] := by
          have := j2.length
          exact List.length_eq_zero_iff.mp this.symm
        subst e
        rw [List.append_nil] at r
        exact op_catT pins s σ H _ _ v u Q I rx ry ⟨a, b, vs, [], rfl, rfl, t1, t2, ne_nil_of j1 h1, by rw [← j1.length]; exact hl, fun _ => n _ S _ H r (Kp.refl H) hS i1, fun z => absurd rfl z⟩
      · exact o_add pins s σ H x y v u Q I rx ry ⟨_, _, S, k, i1, i2, hS, ⟨h1, h2, hl, r⟩, n⟩
  · exact o_add pins s σ H x y v u Q I rx ry ⟨_, _, S, k, i1, i2, hS, r, n⟩
theorem isDs_intsM {K : Fg} {H : Hp} : ∀ {ns : List Int} {vs : List V}, IsDs K H (ns.map D.int) vs → vs = ns.map V.int
  | [], vs, h => by
    have := h.length
    exact List.length_eq_zero_iff.mp this.symm
  | n :: ns, vs, h => by
    obtain ⟨u, r, rfl, h1, h2⟩ := isCons.mp h
    rw [isInt.mp h1, isDs_intsM h2]
    rfl
theorem ints_isDsM {K : Fg} {H : Hp} : ∀ {ns : List Int}, IsDs K H (ns.map D.int) (ns.map V.int)
  | [] => IsDs.nil
  | _ :: _ => IsDs.cons (isInt.mpr rfl) ints_isDsM
def bSorted : DSp := fun ds S k => match ds with
  | [.ref a] => ∃ ns : List Int, S a = some (.lst (ns.map D.int)) ∧ ns.length < 64 ∧ ∀ ns' : List Int, ns'.Perm ns → ns'.Pairwise (· ≤ ·) → ∀ p, S p = none → k (.ref p) (put S p (.lst (ns'.map D.int)))
  | _ => False
end DL
/-! ## == of anything with a text -/
namespace DL
open PySem PySem.Spec PyProof.Rows L2
/-- d == "..", d of any kind -/
def dEqS : D2 := fun d e S k => match e with
  | .str y => (match d with
    | .str x => k (.bl (x == y)) S
    | .int _ => k (.bl false) S
    | .bl _ => k (.bl false) S
    | .non => k (.bl false) S
    | .tup _ => k (.bl false) S
    | .ref a => (∃ ds, S a = some (.lst ds)) ∧ k (.bl false) S
    | _ => False)
  | _ => False
end DL
/-! ## t[..] that is all of t; t * n -/
namespace HT
open PySem PyProof.Rows
section
variable {prog : Program} {w : World} {A : Around} {E : Value → Shared → Prop} {s : Shared}
theorem getItem_tuple_whole {t sl : Addr} {items : Array Value} {vl vu : Value} {lo hi : Option Int} {Q : Value → Shared → Prop} (ht : IsTup s.heap t items) (hs : s.heap.IsSliceOf sl vl vu .none) (pl : IsPart vl lo) (pu : IsPart vu hi)
    (hw : sIx items.size 0 lo = 0 ∧ sIx items.size items.size hi = items.size) (h : Q (.ref t) s) : wpAny (model prog w) A (getItem (.ref t) (.ref sl)) Q E s := by
  obtain ⟨os, hos, hcs, hds⟩ := id hs
  have hTs : s.TypeIs (.ref sl) "slice" := ⟨os, hos, hcs⟩
  unfold getItem
  try with_reducible refine wpAny_holding ?_
  first | refine wpAny_bind (wpAny_pure ?_) | skip
  refine wpAny_bind (wpAny_sequenceKey ht.typeIs (by decide) ?_)
  refine wpAny_bind (wpAny_callSpecial?_slot (name := Str.ofString "__getitem__") ht.typeIs PyProof.Rows.slot_tuple_getitem
    (wpAny_call_entry PyProof.Rows.slot_tuple_getitem ht.typeIs entry_tuple_getitem ?_ (args_tuple_getitem _ _)))
  show wpAny _ _ (Builtin.Tuple.tupleItemsOf (.ref t) >>= _) _ _ s
  refine wpAny_bind (tupleItemsOf_ ht (wpAny_bind (wpAny_typeOf hTs ?_)))
  rw [if_pos (by decide)]
  refine wpAny_bind (sliceApplied_gen hs pl pu ?_)
  rw [hw.1, hw.2]
  show wpAny _ _ (if ((((0 : Nat) : Int) == 0) && (1 : Int) == 1 && (items.size - 0) == items.size) = true then _ else _) _ _ s
  rw [if_pos (by simp)]
  refine wpAny_bind (m := Builtin.Tuple.tupleIsExact (.ref t)) (wpAny_bind (wpAny_typeOf ht.typeIs (wpAny_pure ?_)))
  rw [if_pos (by decide)]
  first
    | exact wpAny_pure ⟨_, rfl, wpAny_pure h⟩
    | exact wpAny_bind (wpAny_pure (wpAny_pure ⟨_, rfl, wpAny_pure h⟩))
    | (wp_walk; exact ⟨_, rfl, wpAny_pure h⟩)
end
end HT
namespace PySem
open Sem (wp)
open Builtin
theorem noFill_tuple_mulM : fillsNumberSlot (.type "tuple") "mul" = pure false :=
  fillsNumberSlot_seq (id := "tuple.__mul__") (r := some (.builtin "tuple.__rmul__")) F.slot_tuple_mul.lookup (by decide +kernel) F.slot_tuple_rmul.lookup (by decide +kernel)
theorem repeat_tupleM : seqRepeat? (.type "tuple") = pure (some (.builtin "tuple.__mul__")) := by
  unfold seqRepeat?
  rw [seqSlot_of (T := "tuple") (name := "__mul__") (id := "tuple.__mul__") F.slot_tuple_mul.lookup (by decide +kernel), seqSlot_of (T := "tuple") (name := "__rmul__") (id := "tuple.__rmul__") F.slot_tuple_rmul.lookup (by decide +kernel)]
  rfl
theorem int_rmul_tupleM (a : Int) (t : Tok) (l : Addr) (items : Array Value) (n : Nat) (dd : Option Addr) (sl : Array (Option Value)) :
    Meets (Builtin.«int.__rmul__» ⟨[.int a t, .ref l], []⟩) (fun _ R s => s.heap.get? l = some { cls := .type "tuple", dict := dd, data := .seq items n, slots := sl } ∧ R (.ok (.ret Value.notImplemented)) s) :=
  .of_wp fun prog w A R s h => by obtain ⟨hp, g, d, tk, os⟩ := s; obtain ⟨hl, h⟩ := h; wp_walk; exact ⟨_, rfl, h⟩
theorem tuple_mulM (l : Addr) (items : Array Value) (n : Nat) (dd : Option Addr) (sl : Array (Option Value)) (x : Int) (u : Tok) (h0 : items.isEmpty = false) (h1 : 2 ≤ x) (h2 : x < 1000) (h3 : items.size * x.toNat ≤ 1000) :
    Meets (Builtin.«tuple.__mul__» ⟨[.ref l, .int x u], []⟩) (fun _ R s => s.heap.get? l = some { cls := .type "tuple", dict := dd, data := .seq items n, slots := sl } ∧ R (.ok (.ret (Value.ref s.heap.objs.size))) { s with heap := s.heap.push { cls := Value.type "tuple", data := Data.seq (List.foldl (fun x1 x2 => x1 ++ x2) #[] (List.replicate x.toNat items)) }, toks := s.toks }) :=
  .of_wp fun prog w A R s h => by
    obtain ⟨hp, g, d, tk, os⟩ := s
    obtain ⟨hl, h⟩ := h
    have e1 : (x < -(2 ^ 63) || x ≥ 2 ^ 63) = false := by simp; omega
    have e2 : (items.isEmpty || x == 1) = false := by rw [h0, Bool.false_or]; simp; omega
    have e3 : (decide (x ≤ 0) || items.isEmpty) = false := by rw [h0, Bool.or_false]; simp; omega
    unfold Builtin.«tuple.__mul__»
    wp_walk
    have e4 : ¬ ((items.size : Int) * x > (2 ^ 63 - 1) / 8) := by
      have : ((items.size * x.toNat : Nat) : Int) = (items.size : Int) * x := by rw [Int.natCast_mul, Int.toNat_of_nonneg (by omega)]
      omega
    have e5 : Tuple.tupleTooMany ((items.size : Int) * x) = false := by
      have : ((items.size * x.toNat : Nat) : Int) = (items.size : Int) * x := by rw [Int.natCast_mul, Int.toNat_of_nonneg (by omega)]
      have hz : 1000 ≤ sizeLine := Nat.le_of_ble_eq_true rfl
      unfold Tuple.tupleTooMany
      rw [decide_eq_false]
      omega
    have e6 : sizeOk (.seq (List.foldl (fun x1 x2 => x1 ++ x2) #[] (List.replicate x.toNat items))) := by
      show (List.foldl (fun x1 x2 => x1 ++ x2) #[] (List.replicate x.toNat items)).size ≤ sizeLine
      have hz : 1000 ≤ sizeLine := Nat.le_of_ble_eq_true rfl
      have : ∀ (m : Nat) (a : Array Value), (List.foldl (fun x1 x2 => x1 ++ x2) a (List.replicate m items)).size = a.size + items.size * m := fun m => by
        induction m with
        | zero => intro a; rfl
        | succ m ih => intro a; rw [List.replicate_succ, List.foldl_cons, ih, Array.size_append, Nat.mul_succ]; omega
      rw [this]
      simp
      omega
    rw [if_neg (by simp; omega)]
    show wpAny _ _ (Tuple.tupleItemsOf (.ref l) >>= _) _ _ _
    refine wpAny_bind (PyProof.Rows.tupleItemsOf_ (s := { heap := hp, gens := g, drawn := d, toks := tk, os := os }) ⟨_, hl, rfl, n, rfl⟩ ?_)
    simp only [e2, e3, if_neg e4, e5, Bool.false_eq_true, if_false]
    exact wpAny_bind (m := Tuple.tupleExact _) (wpAny_newObj_type (wpAny_pure ⟨_, rfl, h⟩) e6)
end PySem
namespace L2
open PySem PySem.Spec PyProof.Rows
section
variable {X : Cx}
theorem op_repT : OpR X (binaryOp .Mult) (fun x y H Q => ∃ a i xs, x = .ref a ∧ y = .int i ∧ SqT X.K H a xs ∧ xs ≠ [] ∧ 2 ≤ i ∧ i < 1000 ∧ xs.length * i.toNat ≤ 1000 ∧ ∀ p, H p = none → Q (.ref p) (upd H p (.tup (List.replicate i.toNat xs).flatten))) := by
  intro pins s σ H x y v u Q I rx ry h
  obtain ⟨a, i, xs, rfl, rfl, hx, hne, h1, h2, h3, q⟩ := h
  cases rx
  obtain ⟨t, rfl⟩ := ry
  obtain ⟨its, r, pt, hz⟩ := I.tuple hx
  have hl := r.length
  obtain ⟨⟨cls, dd, data, sl⟩, ho, hc, n, hd⟩ := pt
  simp only at hc hd
  subst hc hd
  have f0 : ∀ m : Nat, List.foldl (fun x1 x2 => x1 ++ x2) #[] (List.replicate m its.toArray) = (List.replicate m its).flatten.toArray := fun m => by
    have := foldl_rep its m []
    rw [List.nil_append] at this
    exact this
  have e0 : its.toArray.isEmpty = false := by
    cases its with
    | nil => exact absurd (List.length_eq_zero_iff.mp hl) hne
    | cons _ _ => rfl
  have hz3 : its.toArray.size * i.toNat ≤ 1000 := by rw [List.size_toArray, ← hl]; exact h3
  refine wpAny_binaryOp_repeat_ref (T := "tuple") (U := "int") (by decide) ⟨_, ho, rfl⟩ (fun s' => typeIs_int s' i t) noFill_tuple_mulM F.fills_int_mul F.slot_int_rmul repeat_tupleM F.slot_int_index.lookup
    (call_meets F.slot_int_rmul (typeIs_int s i t) F.entry_int_rmul (F.args_int_rmul_2 _ _) (int_rmul_tupleM i t a its.toArray n dd sl)
      ⟨ho, rfl, ⟨_, ho, rfl⟩, call_meets F.slot_tuple_mul ⟨_, ho, rfl⟩ F.entry_tuple_mul (F.args_tuple_mul_2 _ _) (tuple_mulM a its.toArray n dd sl i t e0 h1 h2 hz3) ⟨ho, ?_⟩⟩)
  rw [f0]
  have rr : ∀ m : Nat, Vals (List.replicate m xs).flatten (List.replicate m its).flatten := fun m => by
    induction m with
    | zero => exact .nil
    | succ m ih => rw [List.replicate_succ, List.flatten_cons, List.replicate_succ, List.flatten_cons]; exact r.append ih
  have hlen : ∀ m : Nat, (List.replicate m xs).flatten.length = xs.length * m := fun m => by
    induction m with
    | zero => rfl
    | succ m ih => rw [List.replicate_succ, List.flatten_cons, List.length_append, ih, Nat.mul_succ]; omega
  refine ⟨.ref s.heap.objs.size, _, I.laid (t' := s.toks) (o := .tup (List.replicate i.toNat xs).flatten) (fun b ob q => Heap.get?_push_of_some _ q) (Nat.le_refl _) ?_, rfl, q _ (I.hok.fresh (Nat.le_refl _))⟩
  refine ⟨by rw [hlen]; exact Nat.le_trans h3 (Nat.le_of_ble_eq_true rfl), _, rr _, IsTup.new _ _⟩
/-- t[lo:hi], the whole of it -/
theorem sl_tupW : SlR X (fun x lo hi H Q => ∃ a xs, x = .ref a ∧ SqT X.K H a xs ∧ (HT.sIx xs.length 0 lo = 0 ∧ HT.sIx xs.length xs.length hi = xs.length) ∧ Q (.ref a) H) := by
  intro pins s σ H x v vl vu lo hi sl Q I rx hs pl pu h
  obtain ⟨a, xs, rfl, hx, hw, q⟩ := h
  cases rx
  obtain ⟨its, r, ht, hz⟩ := I.tuple hx
  have hlen : its.toArray.size = xs.length := by rw [List.size_toArray]; exact r.length.symm
  refine ⟨"tuple", _, PyProof.Rows.slot_tuple_getitem.lookup, ht.typeIs, ?_⟩
  exact HT.getItem_tuple_whole ht hs pl pu (by rw [hlen]; exact hw) ⟨.ref a, H, I, rfl, q⟩
end
end L2
namespace DL
open PySem PySem.Spec PyProof.Rows L2
/-- t[lo:hi] of a tuple, all of it or not -/
def dCutX (g : DE) (tl th : DOp) : DE := fun L S k => g L S fun x S1 => tl L S1 fun lo S2 => th L S2 fun hi S3 => match x with
  | .tup xs => k (.tup (cutD xs lo hi)) S3
  | _ => False
theorem cut_whole {xs : List D} {lo hi : Option Int} (h : HT.sIx xs.length 0 lo = 0 ∧ HT.sIx xs.length xs.length hi = xs.length) : cutD xs lo hi = xs := by
  unfold cutD
  rw [h.1, h.2]
  simp
theorem d_cutXj {X : Cx} {e : Expr} {g : DE} {lo hi : Option Expr} {tl th : DOp} {p2 pos : Pos} (he : EJ X e g) (hl : OJ X lo tl) (hu : OJ X hi th) : EJ X (.Subscript e (.Slice lo hi none p2) pos) (dCutX g tl th) :=
  ⟨PE.imp (pe_slice (SlR.or sl_tup sl_tupW) he.h hl.h hu.h) fun σ H Q ⟨L, S, k, hL, hS, h, n⟩ => up.go hL hS h fun d S1 v H1 h1 k1 hL1 hS1 i1 => by
    refine ⟨L, S1, _, hL1, hS1, h1, fun lo' S2 H2 h2 k2 hS2 => ⟨L, S2, _, hL1.kp k2, hS2, h2, fun hi' S3 H3 h3 k3 hS3 => ?_⟩⟩
    cases d with
    | tup xs =>
      obtain ⟨a, vs, rfl, t, j⟩ := isTup.mp i1
      have j3 := j.kp (k2.trans k3)
      by_cases hw : HT.sIx xs.length 0 lo' = 0 ∧ HT.sIx xs.length xs.length hi' = xs.length
      · refine .inr ⟨a, vs, rfl, (k2.trans k3).tup t, by rw [← j.length]; exact hw, ?_⟩
        have h3 : k (.tup (cutD xs lo' hi')) S3 := h3
        rw [cut_whole hw] at h3
        exact n _ S3 _ _ h3 (k1.trans (k2.trans k3)) hS3 (isTup.mpr ⟨a, vs, rfl, (k2.trans k3).tup t, j3⟩)
      · refine .inl ⟨a, vs, rfl, (k2.trans k3).tup t, by rw [← j.length]; exact hw, fun p hp => ?_⟩
        have k4 : Kp H3 (upd H3 p (.tup (cutV vs lo' hi'))) := Kp.new hp
        refine n _ S3 _ _ h3 (k1.trans (k2.trans (k3.trans k4))) (hS3.new hp) (isTup.mpr ⟨p, _, rfl, SqT.of upd_same, ?_⟩)
        unfold cutD cutV
        rw [j.length]
        exact ((j3.drop _).take _).kp k4
    | _ => exact (show False from h3).elim⟩
/-- x * y, of numbers and of a tuple by a number -/
def dMulT : D2 := fun d e S k => match d, e with
  | .tup xs, .int j => xs ≠ [] ∧ 2 ≤ j ∧ j < 1000 ∧ xs.length * j.toNat ≤ 1000 ∧ k (.tup (List.replicate j.toNat xs).flatten) S
  | d, e => dMul d e S k
theorem o_mulT {X : Cx} : OpR X (binaryOp .Mult) (upR X.K dMulT) := by
  intro pins s σ H x y v u Q I rx ry h
  obtain ⟨d, e, S, k, i1, i2, hS, r, m⟩ := h
  unfold dMulT at r
  split at r
  · rename_i xs j
    obtain ⟨h1, h2, h3, h4, w⟩ := r
    obtain ⟨a, vs, rfl, t1, j1⟩ := isTup.mp i1
    have e2 := isInt.mp i2
    subst e2
    refine op_repT pins s σ H _ _ v u Q I rx ry ⟨a, j, vs, rfl, rfl, t1, ne_nil_of j1 h1, h2, h3, by rw [← j1.length]; exact h4, fun p hp => ?_⟩
    have kp : Kp H (upd H p (.tup (List.replicate j.toNat vs).flatten)) := Kp.new hp
    exact m _ S _ _ w kp (hS.new hp) (isTup.mpr ⟨p, _, rfl, SqT.of upd_same, (isDs.rep j1 _).kp kp⟩)
  · exact o_mul pins s σ H x y v u Q I rx ry ⟨_, _, S, k, i1, i2, hS, r, m⟩
end DL
/-! ## set(t), t a tuple of whole numbers; len of it -/
namespace PySem
open PySem.Spec
section
variable {prog : Program} {w : World} {A : Around} {E : Value → Shared → Prop} {s : Shared}
end
end PySem
namespace PySem
open PySem.Spec
section
variable {prog : Program} {w : World} {A : Around} {E : Value → Shared → Prop} {s : Shared}
end
end PySem
namespace L2
open PySem PySem.Spec PyProof.Rows
section
variable {X : Cx}
/-- how many unlike ones -/
def metN (ns : List Int) : Nat := (firstMet (fun i => ns.getD i 0) ns.length).length
end
end L2
namespace DL
open PySem PySem.Spec PyProof.Rows L2
/-- len(set(e)), e a tuple of whole numbers -/
def dLenSet (g : DE) : DE := fun L S k => g L S fun d S1 => match d with
  | .tup ds => ∃ ns : List Int, ds = ns.map D.int ∧ ns.length ≤ 100 ∧ k (.int (metN ns : Nat)) S1
  | _ => False
end DL
namespace DL
open PySem PySem.Spec PyProof.Rows L2
/-- a whole number that the module holds -/
def GInt (mg : Str → Option Value) (x : Str) (n : Int) : Prop := ∃ t, mg x = some (.int n t)
theorem d_gint {X : Cx} {x : Str} {n : Int} {pos : Pos} (g : GInt X.mg x n) (hg : Gl X x) (hd : (x == ("__debug__" : Str)) = false := by decide) : EJ X (.Name x pos) (dC (.int n)) := by
  obtain ⟨t, hm⟩ := g
  exact ⟨d_c (pe_glob (v := .int n) hg hm ⟨t, rfl⟩ hd) fun H => isInt.mpr rfl⟩
end DL
set_option linter.all false
namespace DT
/-! ## determinants, by the last column -/
abbrev Mx := Nat → Nat → Rat
/-- the sum over i < n -/
def sm : Nat → (Nat → Rat) → Rat
  | 0, _ => 0
  | n + 1, f => sm n f + f n
/-- the row behind a row that is left out -/
def sk (i r : Nat) : Nat := if r < i then r else r + 1
def sg (n : Nat) : Rat := if n % 2 = 0 then 1 else -1
def det : Nat → Mx → Rat
  | 0, _ => 1
  | n + 1, M => sm (n + 1) fun i => sg (n + i) * M i n * det n (fun r c => M (sk i r) c)
/-- column a given anew -/
def cl (M : Mx) (a : Nat) (u : Nat → Rat) : Mx := fun r c => if c = a then u r else M r c
/-! ### whole numbers, and how great -/
def IsN (b : Nat) (q : Rat) : Prop := ∃ v : Int, q = v ∧ v.natAbs ≤ b
def fac : Nat → Nat
  | 0 => 1
  | n + 1 => (n + 1) * fac n
/-! ### rows that are cleared step by step -/
def ups (f : Nat → Nat) (k v : Nat) : Nat → Nat := fun i => if i = k then v else f i
structure BS (M : Mx) (P C : Nat → Nat) (k : Nat) (d : Rat) (z : Nat → Nat → Rat) : Prop where
  det : d = DT.det k (fun r c => M (P r) (C c))
  ne : d ≠ 0
  sol : ∀ r, r < k → ∀ x, sm k (fun j => z j x * M (P r) (C j)) = M (P r) x
/-- a row that has a column of its own -/
def ldE (d : Rat) (z : Nat → Nat → Rat) (j x : Nat) : Rat := d * z j x
/-- a row that has none yet -/
def otE (M : Mx) (C : Nat → Nat) (k : Nat) (d : Rat) (z : Nat → Nat → Rat) (q x : Nat) : Rat := d * (M q x - sm k fun j => z j x * M q (C j))
def zn (M : Mx) (C : Nat → Nat) (k : Nat) (d : Rat) (z : Nat → Nat → Rat) (l c : Nat) : Nat → Nat → Rat := fun j x => if j = k then otE M C k d z l x / otE M C k d z l c else z j x - z j c * (otE M C k d z l x / otE M C k d z l c)
end DT
/-! ## l.insert(i, x) -/
namespace L2
open PySem PySem.Spec PyProof.Rows
section
variable {X : Cx}
def rInsert : V → List V → Hp → VK → Prop := fun x vs H Q => ∃ (l : Addr) (xs : List V) (i : Nat) (y : V), x = .ref l ∧ vs = [.int (i : Nat), y] ∧ H l = some (.lst xs) ∧ i ≤ xs.length ∧ xs.length < 300 ∧ Q .non (upd H l (.lst (xs.take i ++ y :: xs.drop i)))
end
end L2
namespace DL
open PySem PySem.Spec PyProof.Rows L2
/-- l.insert(i, x) -/
def dIns (go gi ge : DE) : DE := fun L S k => go L S fun d S1 => match d with
  | .ref a => (∃ ds, S1 a = some (.lst ds)) ∧ gi L S1 fun y S2 => ge L S2 fun e S3 => ∃ (i : Nat) (ds : List D), y = .int (i : Nat) ∧ S3 a = some (.lst ds) ∧ i ≤ ds.length ∧ ds.length < 300 ∧ k .non (put S3 a (.lst (ds.take i ++ e :: ds.drop i)))
  | _ => False
section
variable {X : Cx} {o e1 e2 : Expr} {go gi ge : DE} {apos cpos : Pos}
end
end DL
/-! ## a tuple of tuples that the module keeps; l.extend(t); t * n from one on -/
namespace PySem
open Sem (wp)
open Builtin
theorem tuple_mul1M (l : Addr) (items : Array Value) (n : Nat) (dd : Option Addr) (sl : Array (Option Value)) (u : Tok) :
    Meets (Builtin.«tuple.__mul__» ⟨[.ref l, .int 1 u], []⟩) (fun _ R s => s.heap.get? l = some { cls := .type "tuple", dict := dd, data := .seq items n, slots := sl } ∧ R (.ok (.ret (Value.ref l))) s) :=
  .of_wp fun prog w A R s h => by
    obtain ⟨hp, g, d, tk, os⟩ := s
    obtain ⟨hl, h⟩ := h
    unfold Builtin.«tuple.__mul__»
    wp_walk
    exact ⟨_, rfl, h⟩
end PySem
namespace L2
open PySem PySem.Spec PyProof.Rows
section
variable {X : Cx}
def rExtendT (K : PySem.W.Frag) : V → List V → Hp → VK → Prop := fun x vs H Q => ∃ l b xs zs, x = .ref l ∧ vs = [.ref b] ∧ H l = some (.lst xs) ∧ SqT K H b zs ∧ xs.length + zs.length ≤ sizeLine ∧ Q .non (upd H l (.lst (xs ++ zs)))
theorem op_repT1 : OpR X (binaryOp .Mult) (fun x y H Q => ∃ a xs, x = .ref a ∧ y = .int 1 ∧ SqT X.K H a xs ∧ Q (.ref a) H) := by
  intro pins s σ H x y v u Q I rx ry h
  obtain ⟨a, xs, rfl, rfl, hx, q⟩ := h
  cases rx
  obtain ⟨t, rfl⟩ := ry
  obtain ⟨its, r, pt, hz⟩ := I.tuple hx
  obtain ⟨⟨cls, dd, data, sl⟩, ho, hc, n, hd⟩ := pt
  simp only at hc hd
  subst hc hd
  exact wpAny_binaryOp_repeat_ref (T := "tuple") (U := "int") (by decide) ⟨_, ho, rfl⟩ (fun s' => typeIs_int s' 1 t) noFill_tuple_mulM F.fills_int_mul F.slot_int_rmul repeat_tupleM F.slot_int_index.lookup
    (call_meets F.slot_int_rmul (typeIs_int s 1 t) F.entry_int_rmul (F.args_int_rmul_2 _ _) (int_rmul_tupleM 1 t a its.toArray n dd sl)
      ⟨ho, rfl, ⟨_, ho, rfl⟩, call_meets F.slot_tuple_mul ⟨_, ho, rfl⟩ F.entry_tuple_mul (F.args_tuple_mul_2 _ _) (tuple_mul1M a its.toArray n dd sl t) ⟨ho, ⟨.ref a, H, I, rfl, q⟩⟩⟩)
end
end L2
namespace DL
open PySem PySem.Spec PyProof.Rows L2
/-- xs.extend(ys), ys a list or a tuple -/
def dExtT (go ge : DE) : DE := fun L S k => go L S fun d S1 => match d with
  | .ref a => (∃ ds, S1 a = some (.lst ds)) ∧ ge L S1 fun e S2 => match e with
    | .ref b => ∃ ds es, S2 a = some (.lst ds) ∧ S2 b = some (.lst es) ∧ ds.length + es.length ≤ sizeLine ∧ k .non (put S2 a (.lst (ds ++ es)))
    | .tup es => ∃ ds, S2 a = some (.lst ds) ∧ ds.length + es.length ≤ sizeLine ∧ k .non (put S2 a (.lst (ds ++ es)))
    | _ => False
  | _ => False
section
variable {X : Cx} {o e : Expr} {go ge : DE} {apos cpos : Pos}
end
/-- x * y, of numbers and of a tuple by a number from one on -/
def dMulU : D2 := fun d e S k => match d, e with
  | .tup xs, .int j => xs ≠ [] ∧ 1 ≤ j ∧ j < 1000 ∧ xs.length * j.toNat ≤ 1000 ∧ k (.tup (List.replicate j.toNat xs).flatten) S
  | d, e => dMulF d e S k
theorem o_mulU {X : Cx} : OpR X (binaryOp .Mult) (upR X.K dMulU) := by
  intro pins s σ H x y v u Q I rx ry h
  obtain ⟨d, e, S, k, i1, i2, hS, r, m⟩ := h
  unfold dMulU at r
  split at r
  · rename_i xs j
    obtain ⟨h1, h2, h3, h4, w⟩ := r
    by_cases hj : j = 1
    · subst hj
      obtain ⟨a, vs, rfl, t1, j1⟩ := isTup.mp i1
      have e2 := isInt.mp i2
      subst e2
      have ew : (List.replicate (1 : Int).toNat xs).flatten = xs := by show (List.replicate 1 xs).flatten = xs; simp
      rw [ew] at w
      exact op_repT1 pins s σ H _ _ v u Q I rx ry ⟨a, vs, rfl, rfl, t1, m _ S _ H w (Kp.refl H) hS i1⟩
    · exact o_mulT pins s σ H x y v u Q I rx ry ⟨.tup xs, .int j, S, k, i1, i2, hS, ⟨h1, by omega, h3, h4, w⟩, m⟩
  · exact o_mulF pins s σ H x y v u Q I rx ry ⟨_, _, S, k, i1, i2, hS, r, m⟩
/-! a tuple of tuples of ints that the module keeps -/
inductive Kept (K : Fg) : List Value → List (List Int) → Prop
  | nil : Kept K [] []
  | cons {p : Addr} {o : Obj} {its : Array Value} {n : Nat} {ns : List Int} {vs : List Value} {nss : List (List Int)} (h1 : K.lookup p = some o) (h2 : o.cls = .type "tuple") (h3 : o.data = .seq its n) (h4 : its.size ≤ sizeLine) (h5 : Vals (ns.map V.int) its.toList) (r : Kept K vs nss) : Kept K (.ref p :: vs) (ns :: nss)
def GTup2 (K : Fg) (mg : Str → Option Value) (x : Str) (nss : List (List Int)) : Prop := ∃ p o its n, mg x = some (.ref p) ∧ K.lookup p = some o ∧ o.cls = .type "tuple" ∧ o.data = .seq its n ∧ its.size ≤ sizeLine ∧ Kept K its.toList nss
end DL
/-! ## [.. for i, x in enumerate(l)] -/
namespace DL
open PySem PySem.Spec PyProof.Rows L2
def dCompEn (cap : List (Option Nat)) (ta : DA) (g : DG) (bd : DB) : DE := fun L S k => ta L S fun ds S1 => match ds with
  | [d] => ∃ q, dItems S1 d = some q ∧ ∀ p, S1 p = none → dCLoop (okFor q) p g bd k (enumD 0 q.1) [] (capL cap L) (put S1 p (.lst []))
  | _ => False
section
variable {X : Cx} {elt a : Expr} {es : List Expr} {kt : Nat} {tp : Pos} {scope : Scope} {cl : List (Str × Addr)} {N : List Str} {cap : List (Option Nat)} {pos p pos' : Pos} {gg : DG} {ge : DE} {ta : DA}
end
end DL
/-! ## the rank is one number -/
namespace DT
end DT
/-! ## xs.pop() -/
namespace DL
open PySem PySem.Spec PyProof.Rows L2
section
variable {X : Cx} {o : Expr} {go : DE} {apos cpos : Pos}
def dPop0 (go : DE) : DE := fun L S k => go L S fun d S1 => match d with
  | .ref a => ∃ ds c, S1 a = some (.lst ds) ∧ ds[ds.length - 1]? = some c ∧ k c (put S1 a (.lst ds.dropLast))
  | _ => False
end
end DL
/-! ## a tuple of tuples of tuples that the module keeps -/
namespace DL
open PySem PySem.Spec PyProof.Rows L2
inductive Kept3 (K : Fg) : List Value → List (List (List Int)) → Prop
  | nil : Kept3 K [] []
  | cons {p : Addr} {o : Obj} {its : Array Value} {n : Nat} {nss : List (List Int)} {vs : List Value} {r : List (List (List Int))} (h1 : K.lookup p = some o) (h2 : o.cls = .type "tuple") (h3 : o.data = .seq its n) (h4 : its.size ≤ sizeLine) (h5 : Kept K its.toList nss) (q : Kept3 K vs r) : Kept3 K (.ref p :: vs) (nss :: r)
def GTup3 (K : Fg) (mg : Str → Option Value) (x : Str) (nss : List (List (List Int))) : Prop := ∃ p o its n, mg x = some (.ref p) ∧ K.lookup p = some o ∧ o.cls = .type "tuple" ∧ o.data = .seq its n ∧ its.size ≤ sizeLine ∧ Kept3 K its.toList nss
end DL
/-! ## a dict of texts and tuples of ints that the module keeps, by a text -/
namespace DL
open PySem PySem.Spec PyProof.Rows L2
def TupK (K : Fg) (q : Addr) (ns : List Int) : Prop := ∃ o its n, K.lookup q = some o ∧ o.cls = .type "tuple" ∧ o.data = .seq its n ∧ its.size ≤ sizeLine ∧ Vals (ns.map V.int) its.toList
inductive DEnt (K : Fg) (w : World) : List DictEntry → List (Str × List Int) → Prop
  | nil : DEnt K w [] []
  | cons {h : Int} {k : Str} {t : Tok} {q : Addr} {ns : List Int} {es : List DictEntry} {tab : List (Str × List Int)} (hh : h = hashStr w k) (h1 : TupK K q ns) (r : DEnt K w es tab) : DEnt K w (⟨h, .str k t, .ref q⟩ :: es) ((k, ns) :: tab)
def GDic (K : Fg) (mg : Str → Option Value) (w : World) (x : Str) (tab : List (Str × List Int)) : Prop := ∃ p o es ep, mg x = some (.ref p) ∧ K.lookup p = some o ∧ o.ExactDict ∧ o.data = .dict es ep ∧ DEnt K w es.toList tab ∧ (tab.map (·.1)).Nodup
def rTab (K : Fg) (p : Addr) (tab : List (Str × List Int)) : R2 := fun x y H Q => x = .ref p ∧ ∃ k ns, y = .str k ∧ (k, ns) ∈ tab ∧ ∀ q, TupK K q ns → Q (.ref q) H
/-- T[w] -/
def dTab (tab : List (Str × List Int)) (gi : DE) : DE := fun L S k => gi L S fun d S1 => match d with
  | .str w => ∃ ns, (w, ns) ∈ tab ∧ k (.tup (ns.map D.int)) S1
  | _ => False
end DL
/-! ## max, min, sum of a list of whole numbers -/
namespace L2
open PySem PySem.Spec PyProof.Rows
section
variable {X : Cx}
end
end L2
namespace DL
open PySem PySem.Spec PyProof.Rows L2
def bMaxX : DSp := fun ds S k => match ds with
  | [.ref a] => ∃ ns : List Int, S a = some (.lst (ns.map D.int)) ∧ ns ≠ [] ∧ ∀ m : Int, m ∈ ns → (∀ x ∈ ns, x ≤ m) → k (.int m) S
  | ds => bMax ds S k
def bMinX : DSp := fun ds S k => match ds with
  | [.ref a] => ∃ ns : List Int, S a = some (.lst (ns.map D.int)) ∧ ns ≠ [] ∧ ∀ m : Int, m ∈ ns → (∀ x ∈ ns, m ≤ x) → k (.int m) S
  | ds => bMin ds S k
def bSumX : DSp := fun ds S k => match ds with
  | [.ref a] => ∃ ns : List Int, S a = some (.lst (ns.map D.int)) ∧ (∀ j, j < ns.length → InLong (ns.getD j 0) ∧ InLong (preSum (fun i => ns.getD i 0) (j + 1))) ∧ k (.int (preSum (fun i => ns.getD i 0) ns.length)) S
  | _ => False
end DL
/-! ## a or b, of numbers, None and lists; a pair in a tuple of pairs -/
namespace L2
open PySem PySem.Spec PyProof.Rows
/-- what a test says of a value -/
def Tru (K : PySem.W.Frag) (H : Hp) (x : V) (c : Bool) : Prop := (x = .bl c) ∨ (x = .non ∧ c = false) ∨ (∃ i, x = .int i ∧ c = (i != 0)) ∨ ∃ a xs, x = .ref a ∧ SqL K H a xs ∧ c = !xs.isEmpty
def tOrX (K : PySem.W.Frag) (ta tb : TE) : TE := fun σ H Q => ta σ H fun x H1 => ∃ c, Tru K H1 x c ∧ (c = true → Q x H1) ∧ (c = false → tb σ H1 Q)
section
variable {X : Cx} {a b : Expr} {rest : List Expr} {pos : Pos} {ta tb : TE}
end
end L2
namespace DL
open PySem PySem.Spec PyProof.Rows L2
def dOrX (ga gb : DE) : DE := fun L S k => ga L S fun d S1 => match d with
  | .bl c => if c = true then k (.bl true) S1 else gb L S1 k
  | .non => gb L S1 k
  | .int i => (i ≠ 0 → k (.int i) S1) ∧ (i = 0 → gb L S1 k)
  | .ref a => ∃ ds, S1 a = some (.lst ds) ∧ (ds ≠ [] → k (.ref a) S1) ∧ (ds = [] → gb L S1 k)
  | _ => False
/-- a pair of whole numbers in a tuple of such pairs -/
def prD (p : Int × Int) : D := .tup [.int p.1, .int p.2]
def dInP : D2 := fun d e S k => ∃ (p : Int × Int) (qs : List (Int × Int)), d = prD p ∧ e = .tup (qs.map prD) ∧ k (.bl (decide (p ∈ qs))) S
end DL
/-! ## _law_refused of a lambda that reads lists: what is there is known when it is called -/
namespace DL
open PySem PySem.Spec PyProof.Rows L2
def FailsS (cells : List (Addr × Obj)) (P : Program) (w : World) (K : Fg) (mg : Str → Option Value) (base : Heap) (m : Nat) (g C : Addr) (H : Hp) (S : DH) : Prop :=
  Hs K H S → Fails cells P w K mg base m g H fun c _ H' => c = .ref C ∧ Kp H H' ∧ ∃ S', Hs K H' S' ∧ ExtD S S'
section
variable {X : Cx} {pos : Pos}
def dTryH (cells : List (Addr × Obj)) (P : Program) (w : World) (K : Fg) (mg : Str → Option Value) (base : Heap) (m : Nat) (cv : Value) (j i : Nat) (t : DS) : DS := fun M L S => ∃ g C φ, L[j]? = some (some (.ref g)) ∧ S g = some (.fn φ) ∧ (∀ H, φ H → FailsS cells P w K mg base m g C H S) ∧
  PySem.W.exmOne K (.ref C) cv = some true ∧ ∀ ea S', ExtD S S' → S' ea = none → t { nx := fun L S => M.nx (L.set i none) S, rt := M.rt, bk := fun L S => M.bk (L.set i none) S, ct := fun L S => M.ct (L.set i none) S } (L.set i (some (.ref ea))) (put S' ea (.exc C))
end
section
variable {P : Program} {w : World} {K : Fg} {mg : Str → Option Value} {base : Heap} {N : List Str} {qual : Str} {scope : Scope} {clos : List (Str × Addr)} {g : Addr} {cd : Value} {A : Around} {outer : List Env} {s : Shared} {H : Hp} {ex : Addr → DH → Prop}
end
def FrefH (cls : List (Nat × Addr)) (m : Nat) (P : Program) (w : World) (K : Fg) (mg : Str → Option Value) (base : Heap) (cells : List (Addr × Obj)) : DSp := fun ds S k =>
  ∃ g φ j C, ds = [.ref g] ∧ S g = some (.fn φ) ∧ (∀ H, φ H → FailsS cells P w K mg base m g C H S) ∧ (j, C) ∈ cls ∧ ∀ p S', ExtD S S' → S' p = none → k (.ref p) (put S' p (.lst [.int (j : Nat)]))
def RefQH (cls : List (Nat × Addr)) (qual : Str) (params : Arguments) (body : Expr) (scope : Scope) (clos : List (Str × Addr)) (cap : List (Option Nat)) (gb : (Addr → DH → Prop) → DE) (L : Lo) (k : DK) (d : D) (S1 : DH) : Prop := ∃ (g : Addr) (j : Nat) (C : Addr), d = .ref g ∧ S1 g = some (.fn (IsLam qual params body scope clos g)) ∧
  (j, C) ∈ cls ∧ (∀ S, (∀ b o, b ≠ g → S1 b = some o → S b = some o) → gb (fun C' S' => C' = C ∧ ExtD S S') (capL cap L) S fun _ _ => False) ∧ ∀ p S', ExtD S1 S' → S' p = none → k (.ref p) (put S' p (.lst [.int (j : Nat)]))
def dRefH (cls : List (Nat × Addr)) (qual : Str) (params : Arguments) (body : Expr) (scope : Scope) (clos : List (Str × Addr)) (cap : List (Option Nat)) (gb : (Addr → DH → Prop) → DE) (ge : DE) : DE := fun L S k => ge L S fun d S1 => RefQH cls qual params body scope clos cap gb L k d S1
section
variable {X : Cx} {qual : Str} {params : Arguments} {body : Expr} {scope : Scope} {clos : List (Str × Addr)} {p pos : Pos}
end
end DL
namespace PySem
open Sem (wp)
open Builtin DL
section
variable {prog : Program} {w : World}
def kiO (c : String) (d : Addr) (i n ep : Nat) : Obj := { cls := .type c, dict := none, data := .fields #[.ref d, .int i 0, .int n 0, .int ep 0], slots := #[] }
def iiO (x d : Value) (i n ep : Nat) (ok ov : Value) : Obj := { cls := .type "dict_itemiterator", dict := none, data := .fields #[x, .bool false, d, .int i 0, .int n 0, .int ep 0, ok, ov], slots := #[] }
section
variable {A : Around} {E : Value → Shared → Prop} {s : Shared} {it d v : Addr} {es : Array DictEntry} {i ep : Nat} {e : DictEntry} {ok ov : Value}
theorem next_of {T id : String} {f : Builtin} {φ} {Q : Option Value → Shared → Prop} (hs : Slot T "__next__" id) (hT : s.TypeIs (.ref it) T) (he : entryFor table id = some f) (ha : argsOk id ⟨[.ref it], []⟩) (hm : MeetsIn prog w (f ⟨[.ref it], []⟩) φ)
    (h : φ A (wants (fun u s' => Q (some u) s') fun e s' => (∃ a o, e = .ref a ∧ s'.heap.get? a = some o ∧ o.cls = .type "StopIteration") ∧ Q none s') s) : wpAny (model prog w) A (pyNext (.ref it)) Q E s := by
  unfold pyNext
  refine wpAny_bind (wpAny_attempt (wpAny_callSpecial?_slot (name := Str.ofString "__next__") hT hs (wpAny_mono (call_meetsIn hs hT he ha hm h) (fun u s' q => wpAny_pure q) fun e s' q => ?_)))
  obtain ⟨⟨a, o, rfl, g, c⟩, q⟩ := q
  exact wpAny_bind (wpAny_isInstance (T := "StopIteration") (b := true) ⟨_, g, c⟩ isSubtype_stop (wpAny_pure q))
/-- what an iterator over a dict's entries is: which iterator, what it hands out -/
inductive DIt where
  | k | v
def DIt.nm : DIt → String
  | .k => "dict_keyiterator"
  | .v => "dict_valueiterator"
def DIt.of (e : DictEntry) : DIt → Value
  | .k => e.key
  | .v => e.val
end
end
end PySem
namespace DL
open PySem PySem.Spec PyProof.Rows L2
/-! ## dicts whose keys are tuples of whole numbers -/
def keyD (k : List Int) : D := .tup (k.map .int)
def getT (kvs : List (List Int × D)) (k : List Int) : Option D := (kvs.find? fun p => decide (p.1 = k)).map (·.2)
def putT (kvs : List (List Int × D)) (k : List Int) (d : D) : List (List Int × D) := if (getT kvs k).isSome then kvs.map (fun p => if p.1 = k then (p.1, d) else p) else kvs ++ [(k, d)]
section
variable {K : Fg} {H H' : Hp} {S : DH} {p : Addr}
variable {kvs : List (List Int × D)} {xs : List (List Int × Addr × Value)}
end
section
variable {X : Cx} {pins : List (Addr × Obj)} {σ : L2.St} {H : Hp} {s : Shared} {a b : Addr} {kvs : List (List Int × D)} {xs : List (List Int × Addr × Value)} {ep : Nat} {k : List Int}
/-! ### d[k] -/
def dDGet (go gi : DE) : DE := fun L S k => go L S fun d S1 => gi L S1 fun e S2 => match d with
  | .ref a => ∃ kvs ep ks c, S2 a = some (.gen (.dT kvs ep)) ∧ e = keyD ks ∧ getT kvs ks = some c ∧ k c S2
  | _ => False
def tDGetX (K : Fg) (to ti : TE) : TE := fun σ H Q => to σ H fun x H1 => ti σ H1 fun y H2 => ∃ a b kvs xs ep ks p v, x = .ref a ∧ y = .ref b ∧ H2 a = some (.ext (DxP a xs ep)) ∧ KtR K H2 kvs xs ∧ SqT K H2 b (ks.map V.int) ∧ atKey xs ks = some p ∧ RelV v p.2 ∧ Q v H2
/-! ### k in d -/
def dInD (neg : Bool) : D2 := fun e d S k => match d with
  | .ref a => ∃ kvs ep ks, S a = some (.gen (.dT kvs ep)) ∧ e = keyD ks ∧ k (.bl (if neg then !(getT kvs ks).isSome else (getT kvs ks).isSome)) S
  | _ => False
/-! ### d[k] = v -/
def rSetD (K : Fg) : TSet := fun x y v H Q => ∃ a b kvs xs ep ks, x = .ref a ∧ y = .ref b ∧ H a = some (.ext (DxP a xs ep)) ∧ KtR K H kvs xs ∧ SqT K H b (ks.map V.int) ∧ xs.length < sizeLine ∧ ∀ u ep', RelV v u → Q (upd H a (.ext (DxP a (storedH xs ks b u) ep')))
def dgSubD (go gi : DE) : DG := fun d L S k => go L S fun o S1 => gi L S1 fun i S2 => match o with
  | .ref a => ∃ kvs ep ks, S2 a = some (.gen (.dT kvs ep)) ∧ i = keyD ks ∧ kvs.length < sizeLine ∧ ∀ ep', k L (put S2 a (.gen (.dT (putT kvs ks d) ep')))
  | _ => False
/-! ### {} -/
def dDNew : DE := fun _ S k => ∀ p, S p = none → ∀ ep, k (.ref p) (put S p (.gen (.dT [] ep)))
end
end DL
namespace L2
open PySem PySem.Spec PyProof.Rows
/-! ## a dict walked: its keys, its values, its pairs -/
def Itd (c : DIt) (a : Addr) (ep n : Nat) : It :=
  ⟨fun i H => ∃ xs x v, H a = some (.ext (DL.DxP a xs ep)) ∧ xs[i]? = some x ∧ xs.length = n ∧ RelV v (DIt.of (DL.eT x) c),
   fun i H v H' => H' = H ∧ ∀ xs, H a = some (.ext (DL.DxP a xs ep)) → ∃ x, xs[i]? = some x ∧ RelV v (DIt.of (DL.eT x) c),
   fun i H => ∃ xs, H a = some (.ext (DL.DxP a xs ep)) ∧ xs.length = n ∧ n ≤ i⟩
def Iti (a : Addr) (ep n : Nat) : It :=
  ⟨fun i H => ∃ xs x v, H a = some (.ext (DL.DxP a xs ep)) ∧ xs[i]? = some x ∧ xs.length = n ∧ RelV v x.2.2,
   fun i H u H' => ∃ T b v, u = .ref T ∧ H T = none ∧ H' = upd H T (.tup [.ref b, v]) ∧ ∀ xs, H a = some (.ext (DL.DxP a xs ep)) → ∃ x, xs[i]? = some x ∧ b = x.2.1 ∧ RelV v x.2.2,
   fun i H => ∃ xs, H a = some (.ext (DL.DxP a xs ep)) ∧ xs.length = n ∧ n ≤ i⟩
section
variable {X : Cx} {tg l o : Expr} {tl to : TE} {apos cpos : Pos}
def iDict (tl : TE) : TI := fun σ H R => tl σ H fun x H1 => ∃ a ep xs, x = .ref a ∧ H1 a = some (.ext (DL.DxP a xs ep)) ∧ R (Itd .k a ep xs.length) H1
def iVals (to : TE) : TI := fun σ H R => to σ H fun x H1 => ∃ a ep xs, x = .ref a ∧ H1 a = some (.ext (DL.DxP a xs ep)) ∧ R (Itd .v a ep xs.length) H1
def iPairs (to : TE) : TI := fun σ H R => to σ H fun x H1 => ∃ a ep xs, x = .ref a ∧ H1 a = some (.ext (DL.DxP a xs ep)) ∧ R (Iti a ep xs.length) H1
end
end L2
namespace DL
open PySem PySem.Spec PyProof.Rows L2
/-! ### what may be walked, in general -/
abbrev DSrc := Lo → DH → (List D → (DH → Prop) → DH → Prop) → Prop
structure Goes (K : Fg) (H1 : Hp) (J : It) (ds : List D) (ok : DH → Prop) : Prop where
  go : ∀ i d S2 H2, ds[i]? = some d → Kp H1 H2 → Hs K H2 S2 → ok S2 → J.go i H2 ∧ ∀ x H', J.yld i H2 x H' → Kp H2 H' ∧ Hs K H' S2 ∧ IsD K H' d x
  stop : ∀ S2 H2, Kp H1 H2 → Hs K H2 S2 → ok S2 → J.stop ds.length H2
def upI (K : Fg) (g : DSrc) : TI := fun σ H R => ∃ L S k, Lc K H L σ ∧ Hs K H S ∧ g L S k ∧ ∀ ds ok S' H' J, k ds ok S' → Kp H H' → Lc K H' L σ → Hs K H' S' → Goes K H' J ds ok → R J H'
structure IJ (X : Cx) (tg iter : Expr) (g : DSrc) : Prop where
  h : PI X tg iter (upI X.K g)
def dForI (gi : DSrc) (g : DG) (b : DS) : DS := fun M L S => gi L S fun ds ok S1 => dLoop ok g b M ds L S1
def dCompI (cap : List (Option Nat)) (gi : DSrc) (g : DG) (bd : DB) : DE := fun L S k => gi L S fun ds ok S1 => ∀ p, S1 p = none → dCLoop ok p g bd k ds [] (capL cap L) (put S1 p (.lst []))
section
variable {K : Fg} {ok : DH → Prop} {gg : DG} {ge : DE} {gc : DT} {k : DK} {ds : List D} {L : Lo} {S : DH} {σ : L2.St} {H : Hp} {J : It} {p : Addr} {Q : V → Hp → Prop}
end
section
variable {X : Cx} {tg iter elt c : Expr} {gi : DSrc} {gg : DG} {g : DS} {ge : DE} {gc : DT} {body : List Stmt} {pos : Pos} {scope : Scope} {cl : List (Str × Addr)} {N : List Str} {cap : List (Option Nat)}
end
/-! ### the keys, the values, the pairs -/
def outD (c : DIt) (kvs : List (List Int × D)) : List D := kvs.map fun p => match c with
  | .k => keyD p.1
  | .v => p.2
def pairsD (kvs : List (List Int × D)) : List D := kvs.map fun p => .tup [keyD p.1, p.2]
def srcD (gi : DE) (f : List (List Int × D) → List D) : DSrc := fun L S k => gi L S fun d S1 => match d with
  | .ref a => ∃ kvs ep, S1 a = some (.gen (.dT kvs ep)) ∧ k (f kvs) (fun S => S a = some (.gen (.dT kvs ep))) S1
  | _ => False
section
variable {X : Cx} {tg o : Expr} {go : DE} {apos cpos : Pos}
end
end DL
namespace DL
open PySem PySem.Spec PyProof.Rows L2
section
variable {X : Cx} {o e f : Expr} {go ge gf : DE} {to te tf : TE} {apos cpos : Pos}
/-! ### d.get(k, x), d.get(k) -/
def tGet2X (K : Fg) (to te tf : TE) : TE := fun σ H Q => to σ H fun x H1 => ∃ a xs ep, x = .ref a ∧ H1 a = some (.ext (DxP a xs ep)) ∧ te σ H1 fun y H2 => tf σ H2 fun z H3 => ∃ b kvs xs ep ks v, y = .ref b ∧ H3 a = some (.ext (DxP a xs ep)) ∧ KtR K H3 kvs xs ∧ SqT K H3 b (ks.map V.int) ∧ (∀ r, RelV z r → RelV v (((atKey xs ks).map (·.2)).getD r)) ∧ Q v H3
def dGet2 (go ge gf : DE) : DE := fun L S k => go L S fun d S1 => match d with
  | .ref a => (∃ kvs ep, S1 a = some (.gen (.dT kvs ep))) ∧ ge L S1 fun y S2 => gf L S2 fun z S3 => ∃ kvs ep ks, S3 a = some (.gen (.dT kvs ep)) ∧ y = keyD ks ∧ k ((getT kvs ks).getD z) S3
  | _ => False
def tGet1X (K : Fg) (to te : TE) : TE := fun σ H Q => to σ H fun x H1 => ∃ a xs ep, x = .ref a ∧ H1 a = some (.ext (DxP a xs ep)) ∧ te σ H1 fun y H3 => ∃ b kvs xs ep ks v, y = .ref b ∧ H3 a = some (.ext (DxP a xs ep)) ∧ KtR K H3 kvs xs ∧ SqT K H3 b (ks.map V.int) ∧ RelV v (((atKey xs ks).map (·.2)).getD .none) ∧ Q v H3
def dGet1 (go ge : DE) : DE := fun L S k => go L S fun d S1 => match d with
  | .ref a => (∃ kvs ep, S1 a = some (.gen (.dT kvs ep))) ∧ ge L S1 fun y S3 => ∃ kvs ep ks, S3 a = some (.gen (.dT kvs ep)) ∧ y = keyD ks ∧ k ((getT kvs ks).getD .non) S3
  | _ => False
/-! ### len(d), isinstance(d, c) -/
def bLenD : DSp := fun ds S k => match ds with
  | [.ref a] => ∃ kvs ep, S a = some (.gen (.dT kvs ep)) ∧ k (.int kvs.length) S
  | _ => False
def bIsiD : DSp := fun ds S k => match ds with
  | [.ref a, .ty c] => ∃ kvs ep, S a = some (.gen (.dT kvs ep)) ∧ k (.bl (subT .dic c)) S
  | _ => False
end
/-! ### {k: v, ..} -/
abbrev DPs := Lo → DH → (List (D × D) → DH → Prop) → Prop
def dpNil : DPs := fun _ S k => k [] S
def dpCons (gk gv : DE) (t : DPs) : DPs := fun L S k => gk L S fun x S1 => gv L S1 fun y S2 => t L S2 fun ps S3 => k ((x, y) :: ps) S3
abbrev IsPs (K : Fg) (H : Hp) : List (D × D) → List (V × V) → Prop := Paired fun d p => IsD K H d.1 p.1 ∧ IsD K H d.2 p.2
def upP (K : Fg) (t : DPs) : L2.St → Hp → (List (V × V) → Hp → Prop) → Prop := fun σ H Q => ∃ L S k, Lc K H L σ ∧ Hs K H S ∧ t L S k ∧ ∀ ds S' ps H', k ds S' → Kp H H' → Hs K H' S' → IsPs K H' ds ps → Q ps H'
structure PJ (X : Cx) (pos : Pos) (keys : List (Option Expr)) (values : List Expr) (t : DPs) : Prop where
  h : ∀ (pins : List (Addr × Obj)) (s : Shared) (σ : L2.St) (H : Hp) (Q : List (V × V) → Hp → Prop), Inv X pins σ H s → upP X.K t σ H Q →
    wpAny (model X.prog X.w) X.A (evalPairs (pairTrees keys values X.env pos)) (fun vs s' => ∃ ps H', Inv X pins σ H' s' ∧ VV ps vs ∧ Q ps H') X.xe s
section
variable {X : Cx} {pos : Pos}
end
section
variable {prog : Program} {w : World} {A : Around} {E : Value → Shared → Prop} {d : Addr}
end
def mergeT (acc kvs : List (List Int × D)) : List (List Int × D) := kvs.foldl (fun acc kv => putT acc kv.1 kv.2) acc
def tDispX (K : Fg) (t : L2.St → Hp → (List (V × V) → Hp → Prop) → Prop) : TE := fun σ H Q => ∀ p, H p = none → t σ (upd H p (.ext (DxP p [] 0))) fun ps H2 => ∃ ep, H2 p = some (.ext (DxP p [] ep)) ∧ ∃ kvs : List (List Int × D), IsPs K H2 (kvs.map fun kv => (keyD kv.1, kv.2)) ps ∧ kvs.length ≤ 15 ∧
  ∀ xs ep', KtR K H2 kvs xs → Q (.ref p) (upd H2 p (.ext (DxP p (xs.foldl (fun acc k => storedH acc k.1 k.2.1 k.2.2) []) ep')))
def dDisp (t : DPs) : DE := fun L S k => ∀ p, S p = none → ∀ ep, t L (put S p (.gen (.dT [] ep))) fun ds S2 => ∃ ep' kvs, S2 p = some (.gen (.dT [] ep')) ∧ ds = kvs.map (fun (kv : List Int × D) => (keyD kv.1, kv.2)) ∧ kvs.length ≤ 15 ∧ ∀ ep2, k (.ref p) (put S2 p (.gen (.dT (mergeT [] kvs) ep2)))
end DL
namespace PySem
open Sem (wp)
open Builtin DL
section
variable {prog : Program} {w : World} {A : Around} {E : Value → Shared → Prop}
abbrev tkI (prog : Program) (w : World) : HeapKind prog w (List Int) := tupleKind (intKind prog w)
/-! ### == of a dict and an empty one -/
end
end PySem
namespace PySem
open Sem (wp)
open Builtin DL
section
variable {prog : Program} {w : World} {A : Around} {E : Value → Shared → Prop}
end
end PySem
namespace DL
open PySem PySem.Spec PyProof.Rows L2
/-! ### dict(d), dict(l) -/
def bDict : DSp := fun ds S k => match ds with
  | [.ref a] => (∃ kvs ep, S a = some (.gen (.dT kvs ep)) ∧ (kvs.map fun p => hashT p.1).Nodup ∧ ∀ p, S p = none → ∀ ep', k (.ref p) (put S p (.gen (.dT kvs ep')))) ∨
      ∃ kvs, S a = some (.lst (pairsD kvs)) ∧ ∀ p, S p = none → ∀ ep', k (.ref p) (put S p (.gen (.dT (mergeT [] kvs) ep')))
  | _ => False
/-! ### d == {} where they are of unlike lengths -/
def dEqDn : D2 := fun d e S k => match d, e with
  | .ref a, .ref b => ∃ kvs ep kvs' ep', S a = some (.gen (.dT kvs ep)) ∧ S b = some (.gen (.dT kvs' ep')) ∧ kvs.length ≠ kvs'.length ∧ k (.bl false) S
  | _, _ => False
/-! ### max(d) -/
def gtP : List Int → List Int → Bool
  | [a, b], [c, d] => decide (c < a) || (decide (a = c) && decide (d < b))
  | _, _ => false
def keyAt (ys : List (List Int × Addr × Value)) (i : Nat) : List Int := (ys[i]?.map (·.1)).getD [0, 0]
def bMaxD : DSp := fun ds S k => match ds with
  | [.ref a] => ∃ kvs ep, S a = some (.gen (.dT kvs ep)) ∧ kvs ≠ [] ∧ (∀ p ∈ kvs, ∃ i j, p.1 = [i, j]) ∧ ∀ m ∈ kvs, (∀ p ∈ kvs, gtP p.1 m.1 = false) → k (keyD m.1) S
  | _ => False
end DL
namespace L2
open PySem PySem.Spec PyProof.Rows
/-! ## list(d.values()) -/
def VwP (p a : Addr) : Heap → Prop := fun h => h.get? p = some { cls := .type "dict_values", data := .fields #[.ref a] }
section
variable {X : Cx} {o : Expr} {to : TE} {apos cpos pos p0 : Pos}
def tVals (to : TE) : TE := fun σ H Q => to σ H fun x H1 => ∃ a xs ep, x = .ref a ∧ H1 a = some (.ext (DL.DxP a xs ep)) ∧ ∀ p, H1 p = none → Q (.ref p) (upd H1 p (.ext (VwP p a)))
def rListV : List V → Hp → VK → Prop := fun xs H Q => ∃ p a ys ep vs, xs = [.ref p] ∧ H p = some (.ext (VwP p a)) ∧ H a = some (.ext (DL.DxP a ys ep)) ∧ Vals vs (ys.map (·.2.2)) ∧ ∀ q, H q = none → Q (.ref q) (upd H q (.lst vs))
end
end L2
namespace DL
open PySem PySem.Spec PyProof.Rows L2
def dListV (go : DE) : DE := fun L S k => go L S fun d S1 => match d with
  | .ref a => ∃ kvs ep, S1 a = some (.gen (.dT kvs ep)) ∧ ∀ p, S1 p = none → k (.ref p) (put S1 p (.lst (kvs.map (·.2))))
  | _ => False
end DL
/-! ## max(l, default=None) of a list of whole numbers -/
namespace PySem
set_option maxRecDepth 100000
namespace F
end F
section
variable {prog : Program} {w : World} {A : Around} {E : Value → Shared → Prop}
end
end PySem
namespace L2
open PySem PySem.Spec PyProof.Rows
section
variable {X : Cx}
/-- a rule for a call with one name -/
def CallK (X : Cx) (f : Value) (nm : Str) (r : List V → V → Hp → VK → Prop) : Prop :=
  ∀ (pins : List (Addr × Obj)) (s : Shared) (σ : St) (H : Hp) (xs : List V) (us : List Value) (d : V) (u : Value) (Q : VK), Inv X pins σ H s → Vals xs us → RelV d u → r xs d H Q → wpAny (model X.prog X.w) X.A (call f us [(nm, u)]) (EP X pins σ Q) X.xe s
end
end L2
namespace L2
open PySem PySem.Spec PyProof.Rows
end L2
namespace DL
open PySem PySem.Spec PyProof.Rows L2
def bSumT : DSp := fun ds S k => match ds with
  | [.tup xs] => ∃ ns : List Int, xs = ns.map D.int ∧ (∀ j, j < ns.length → InLong (ns.getD j 0) ∧ InLong (preSum (fun i => ns.getD i 0) (j + 1))) ∧ k (.int (preSum (fun i => ns.getD i 0) ns.length)) S
  | ds => bSumX ds S k
/-- max(l, default=None) -/
def dMaxN (t : DA) : DE := fun L S k => t L S fun ds S1 => match ds with
  | [.ref a] => ∃ ns : List Int, S1 a = some (.lst (ns.map D.int)) ∧ (ns = [] → k .non S1) ∧ ∀ m : Int, m ∈ ns → (∀ x ∈ ns, x ≤ m) → k (.int m) S1
  | _ => False
section
variable {X : Cx} {x : Str} {p pos kp : Pos} {e ed : Expr} {t : DA}
end
end DL
namespace DL
open PySem PySem.Spec PyProof.Rows L2
/-- == of lists of any lengths -/
def dEqL : D2 := fun d e S k => match d, e with
  | .ref a, .ref c => ∃ xs ys b, S a = some (.lst xs) ∧ S c = some (.lst ys) ∧ ((xs.length = ys.length ∧ eqTs (eqT 7) xs ys = some b) ∨ (xs.length ≠ ys.length ∧ b = false)) ∧ k (.bl b) S
  | d, e => ∃ b, eqT 8 d e = some b ∧ k (.bl b) S
/-- !=, None against a tuple too -/
def dNeN : D2 := fun d e S k => match d, e with
  | .non, .tup _ => k (.bl true) S
  | .tup _, .non => k (.bl true) S
  | d, e => dNeX d e S k
end DL
/-! ## == and != of two dicts -/
namespace PySem
open Builtin DL
/-- how the entries of one are found in the other -/
def Hit (A : Around) (s : Shared) (ys : List (List Int × Addr × Value)) : List (List Int × Addr × Value) → Bool → Prop
  | [], r => r = true
  | x :: xs, r => (atKey ys x.1 = none ∧ r = false) ∨ ∃ p e r', atKey ys x.1 = some p ∧ SeqAt.EqAt A s x.2.2 p.2 e ∧ Hit A s ys xs r' ∧ r = (e && r')
section
variable {prog : Program} {w : World} {A : Around} {E : Value → Shared → Prop}
end
end PySem
namespace DL
open PySem PySem.Spec PyProof.Rows L2
/-- the same over data -/
def HitD (kvs' : List (List Int × D)) : List (List Int × D) → Bool → Prop
  | [], r => r = true
  | p :: ps, r => (getT kvs' p.1 = none ∧ r = false) ∨ ∃ d e r', getT kvs' p.1 = some d ∧ eqT 6 p.2 d = some e ∧ HitD kvs' ps r' ∧ r = (e && r')
section
variable {X : Cx} {pins : List (Addr × Obj)} {σ : L2.St} {H : Hp} {s : Shared}
end
end DL
namespace PySem
open Builtin DL
section
variable {prog : Program} {w : World} {A : Around} {E : Value → Shared → Prop}
end
end PySem
namespace DL
open PySem PySem.Spec PyProof.Rows L2
/-- two dicts compared: what is told -/
def EqR (kvs kvs' : List (List Int × D)) (r : Bool) : Prop := (kvs.length ≠ kvs'.length ∧ r = false) ∨ (kvs.length = kvs'.length ∧ HitD kvs' kvs r)
section
variable {X : Cx} {pins : List (Addr × Obj)} {σ : L2.St} {H : Hp} {s : Shared}
end
def dEqDD : D2 := fun d e S k => match d, e with
  | .ref a, .ref b => ∃ kvs ep kvs' ep' r, S a = some (.gen (.dT kvs ep)) ∧ S b = some (.gen (.dT kvs' ep')) ∧ EqR kvs kvs' r ∧ k (.bl r) S
  | _, _ => False
def dNeDD : D2 := fun d e S k => match d, e with
  | .ref a, .ref b => ∃ kvs ep kvs' ep' r, S a = some (.gen (.dT kvs ep)) ∧ S b = some (.gen (.dT kvs' ep')) ∧ EqR kvs kvs' r ∧ k (.bl (!r)) S
  | _, _ => False
section
variable {X : Cx} {pins : List (Addr × Obj)} {σ : L2.St} {H : Hp} {s : Shared}
/-- two dicts that are alike -/
def ElG (S : DH) (x y : D) : Prop := ∃ a c kvs ep kvs' ep', x = .ref a ∧ y = .ref c ∧ a ≠ c ∧ S a = some (.gen (.dT kvs ep)) ∧ S c = some (.gen (.dT kvs' ep')) ∧ EqR kvs kvs' true
end
def dNeG : D2 := fun d e S k => match d, e with
  | .ref a, .ref c => ∃ xs ys, S a = some (.lst xs) ∧ S c = some (.lst ys) ∧ xs.length = ys.length ∧ (∀ (i : Nat) x y, xs[i]? = some x → ys[i]? = some y → ElG S x y) ∧ k (.bl false) S
  | _, _ => False
/-- != and == of anything, dicts too -/
def dNeA : D2 := fun d e S k => match d, e with
  | .ref a, .ref b => dNeDD (.ref a) (.ref b) S k ∨ dNeN (.ref a) (.ref b) S k
  | d, e => dNeN d e S k
def dEqA : D2 := fun d e S k => match d, e with
  | .ref a, .ref b => dEqDD (.ref a) (.ref b) S k ∨ dEqL (.ref a) (.ref b) S k
  | d, e => dEqL d e S k
end DL
namespace PySem
open Builtin DL
/-! ## sets of the whole numbers from 0 to 6: the table told exactly -/
def subM (m : Nat) : List Nat := (List.range 7).filter fun i => m.testBit i
def stT (led : Bool) (m : Nat) : SetTable := { mask := if (subM m).length < 5 then 7 else 31, place := (subM m).toArray, dummies := #[], finger := 0, led := led, moves := if (subM m).length < 5 then 0 else 1, plain := true }
def stN (led : Bool) (m v : Nat) : SetTable := { stT led m with place := (subM (m ||| 2 ^ v)).toArray }
def posM (m v : Nat) : Nat := ((subM m).filter (· < v)).length
def chkM (led : Bool) (m v : Nat) : Bool :=
  (m.testBit v && (m ||| 2 ^ v) == m) || (!m.testBit v && (stT led m).freeSlot v == some (v, false) && decide ((stT led m).put v = (stN led m v, posM m v)) && (stN led m v).fits (subM (m ||| 2 ^ v)).length && decide (SetTable.insertAt (subM m).toArray (posM m v) v = (subM (m ||| 2 ^ v)).toArray) && decide (m ||| 2 ^ v < 128) &&
    (if (stN led m v).tooFull then decide ((stN led m v).relaid ((subM (m ||| 2 ^ v)).map fun (i : Nat) => (i : Int)).toArray (SetTable.grown (subM (m ||| 2 ^ v)).length) = some (stT led (m ||| 2 ^ v), Array.range (subM (m ||| 2 ^ v)).length)) && (stT led (m ||| 2 ^ v)).fits (subM (m ||| 2 ^ v)).length else decide (stN led m v = stT led (m ||| 2 ^ v))))
theorem chkM_all : ∀ m ∈ List.range 128, ∀ v ∈ List.range 7, (chkM true m v && chkM false m v) = true := by decide +kernel
def slM (m i : Nat) : Nat := if i = 0 then 0 else (subM m).getD (i - 1) 0 + 1
theorem chkS_all : ∀ m ∈ List.range 128, ∀ i ∈ List.range 8, i ≤ (subM m).length → SetTable.below (subM m).toArray (slM m i) = i := by decide +kernel
theorem fitM_all : ∀ m ∈ List.range 128, (subM m).length ≤ 7 ∧ ((stT true m).fits (subM m).length && (stT false m).fits (subM m).length) = true := by decide +kernel
theorem chkM_of (led : Bool) {m v : Nat} (hm : m < 128) (hv : v < 7) : chkM led m v = true := by
  have z := chkM_all m (List.mem_range.mpr hm) v (List.mem_range.mpr hv)
  rw [Bool.and_eq_true] at z
  cases led
  · exact z.2
  · exact z.1
theorem fitM (led : Bool) {m : Nat} (hm : m < 128) : (stT led m).fits (subM m).length = true := by
  have z := (fitM_all m (List.mem_range.mpr hm)).2
  rw [Bool.and_eq_true] at z
  cases led
  · exact z.2
  · exact z.1
theorem mem_subM {m v : Nat} : v ∈ subM m ↔ v < 7 ∧ m.testBit v = true := by simp [subM]
theorem insertAt_list {α : Type} (l : List α) (p : Nat) (x : α) : SetTable.insertAt l.toArray p x = (l.take p ++ x :: l.drop p).toArray := by
  unfold SetTable.insertAt
  apply Array.ext'
  simp
  exact List.take_of_length_le (by simp)
theorem range_get {α : Type} : ∀ l : List α, (List.range l.length).filterMap (fun i => l[i]?) = l
  | [] => rfl
  | a :: l => by
    rw [List.length_cons, List.range_succ_eq_map, List.filterMap_cons]
    simp only [List.getElem?_cons_zero, List.filterMap_map]
    congr 1
    exact range_get l
theorem range_getA {α : Type} (xs : Array α) : (Array.range xs.size).filterMap (fun i => xs[i]?) = xs := by
  apply Array.ext'
  rw [Array.toList_filterMap, Array.toList_range]
  have := range_get xs.toList
  simpa using this
abbrev Sx := Nat × Tok
def seE (xs : List Sx) : Array (Int × Value) := (xs.map fun x => ((x.1 : Int), Value.int x.1 x.2)).toArray
def seO (led : Bool) (m : Nat) (xs : List Sx) (ep : Nat) : Obj := { cls := .type "set", dict := none, data := .set (seE xs) ep (stT led m), slots := #[] }
def SeAt (h : Heap) (a : Addr) (led : Bool) (m : Nat) : Prop := m < 128 ∧ ∃ xs ep, xs.map (·.1) = subM m ∧ h.get? a = some (seO led m xs ep)
theorem seE_size (xs : List Sx) : (seE xs).size = xs.length := by simp [seE]
theorem hash_small {v : Nat} (hv : v < 7) : hashInt (v : Int) = v := by
  have : ∀ v ∈ List.range 7, hashInt ((v : Nat) : Int) = (v : Int) := by decide
  exact this v (List.mem_range.mpr hv)
section
variable {prog : Program} {w : World} {A : Around} {E : Value → Shared → Prop} {s : Shared}
theorem seE_elems {xs : List Sx} (h : ∀ x ∈ xs, x.1 < 7) : ElemsOf (intKind prog w) (seE xs).toList := fun e he => by
  simp only [seE, List.mem_map] at he
  obtain ⟨x, hx, rfl⟩ := he
  exact ⟨⟨x.1, by simp [intKind, Value.isInt], (hash_small (h x hx)).symm⟩, rfl⟩
theorem layNew_se (led : Bool) {m v : Nat} {xs : List Sx} {tk : Tok} (hm : m < 128) (hv : v < 7) (hx : xs.map (·.1) = subM m) (ht : m.testBit v = false) :
    ∃ xs', xs'.map (·.1) = subM (m ||| 2 ^ v) ∧ layNew (stT led m) (seE xs) (v : Int) (.int v tk) = (seE xs', stN led m v, false, false) ∧ m ||| 2 ^ v < 128 ∧
      (((stN led m v).tooFull = true ∧ relayAll (stN led m v) (seE xs') (SetTable.grown (seE xs').size) = (seE xs', stT led (m ||| 2 ^ v), false)) ∨ ((stN led m v).tooFull = false ∧ stN led m v = stT led (m ||| 2 ^ v))) := by
  have c := chkM_of led hm hv
  unfold chkM at c
  rw [ht] at c
  simp only [Bool.false_and, Bool.false_or, Bool.not_false, Bool.true_and, Bool.and_eq_true, beq_iff_eq, decide_eq_true_eq] at c
  obtain ⟨⟨⟨⟨⟨c1, c2⟩, c3⟩, c4⟩, c5⟩, c6⟩ := c
  have e0 : xs.take (posM m v) ++ (v, tk) :: xs.drop (posM m v) = xs.take (posM m v) ++ (v, tk) :: xs.drop (posM m v) := rfl
  generalize hx' : xs.take (posM m v) ++ (v, tk) :: xs.drop (posM m v) = xs' at e0
  have m' : xs'.map (·.1) = subM (m ||| 2 ^ v) := by
    rw [insertAt_list] at c4
    rw [← hx', List.map_append, List.map_cons, List.map_take, List.map_drop, hx]
    have c4 := congrArg Array.toList c4
    simpa using c4
  have ei : SetTable.insertAt (seE xs) (posM m v) ((v : Int), Value.int v tk) = seE xs' := by
    unfold seE
    rw [insertAt_list, ← hx', List.map_append, List.map_cons, List.map_take, List.map_drop]
  have sz : (seE xs').size = (subM (m ||| 2 ^ v)).length := by rw [seE_size, ← m', List.length_map]
  refine ⟨xs', m', ?_, c5, ?_⟩
  · unfold layNew
    rw [c1]
    dsimp only
    rw [c2]
    dsimp only
    rw [ei, sz, c3]
    unfold SetTable.orStandIn
    rw [c3]
    rfl
  · by_cases tf : (stN led m v).tooFull = true
    · rw [if_pos tf] at c6
      simp only [Bool.and_eq_true, decide_eq_true_eq] at c6
      refine .inl ⟨tf, ?_⟩
      have eh : (seE xs').map (·.1) = ((subM (m ||| 2 ^ v)).map fun (i : Nat) => (i : Int)).toArray := by
        apply Array.ext'
        simp only [seE, ← m', List.map_toArray, List.map_map]
        rfl
      unfold relayAll
      rw [eh, sz, c6.1]
      dsimp only
      rw [← sz, range_getA, sz, c6.2]
      have cv : coversAll (Array.range (subM (m ||| 2 ^ v)).length) (subM (m ||| 2 ^ v)).length = true := by
        unfold coversAll
        rw [List.isPerm_iff, Array.toList_range]
      rw [cv]
      rfl
    · rw [if_neg tf] at c6
      simp only [decide_eq_true_eq] at c6
      exact .inr ⟨by simpa using tf, c6⟩
end
end PySem
namespace PySem
open Builtin DL
section
variable {prog : Program} {w : World} {A : Around} {E : Value → Shared → Prop} {s : Shared}
theorem subM_lt {m : Nat} {xs : List Sx} (hx : xs.map (·.1) = subM m) : ∀ x ∈ xs, x.1 < 7 := fun x h => (mem_subM.mp (by rw [← hx]; exact List.mem_map_of_mem h)).1
theorem subM_len {m : Nat} (hm : m < 128) : (subM m).length ≤ 7 := (fitM_all m (List.mem_range.mpr hm)).1
theorem seE_fits (led : Bool) {m : Nat} {xs : List Sx} (hm : m < 128) (hx : xs.map (·.1) = subM m) : (stT led m).fits (seE xs).size = true := by
  rw [seE_size, ← List.length_map (f := (·.1)), hx]
  exact fitM led hm
theorem seE_small {m : Nat} {xs : List Sx} (hm : m < 128) (hx : xs.map (·.1) = subM m) : (seE xs).size ≤ 7 := by
  rw [seE_size, ← List.length_map (f := (·.1)), hx]
  exact subM_len hm
theorem se_upd {h : Heap} {a : Addr} {led : Bool} {m ep : Nat} {xs : List Sx} (es : Array (Int × Value)) (t : SetTable) {es0 : Array (Int × Value)} {t0 : SetTable} (g : h.get? a = some { cls := .type "set", dict := none, data := .set es0 ep t0, slots := #[] }) :
    (h.update a (Obj.putSet es t)).get? a = some { cls := .type "set", dict := none, data := .set es (ep + 1) t, slots := #[] } := Heap.get?_update_self _ g rfl
set_option maxHeartbeats 1600000 in
/-- one whole number is added -/
theorem se_add {a : Addr} {led : Bool} {m v : Nat} {tk : Tok} {Q : Bool → Shared → Prop} (hS : SeAt s.heap a led m) (hv : v < 7)
    (h : ∀ b h', Heap.SameBut a s.heap h' → SeAt h' a led (m ||| 2 ^ v) → Q b { s with heap := h' }) : wpAny (model prog w) A (setAddHashed a (.int v tk) (hashInt v)) Q E s := by
  obtain ⟨hm, xs, ep, hx, ho⟩ := hS
  have hf := seE_fits led hm hx
  have lt := subM_lt hx
  have hel : ElemsOf (intKind prog w) (seE xs).toList := seE_elems lt
  have sm := seE_small hm hx
  have hb : (seE xs).size < scanBound := by unfold scanBound; omega
  unfold setAddHashed setAddHashedIn
  refine wpAny_holding (wpAny_bind (wpAny_setState_of ho rfl hf ?_))
  dsimp only
  rw [byScan_of (knd := intKind prog w) (x := .int v tk) rfl hb hel]
  simp only [↓reduceIte]
  unfold setAddByScan
  refine wpAny_bind (wpAny_bind (wpAny_rule (wpAny_bind (wpAny_setScan_of (knd := intKind prog w) (k := (v : Int)) (by simp [intKind, Value.isInt]) ho rfl hf hel ?_))))
  cases hr : List.findIdx? (fun e => (intKind prog w).is (v : Int) e.2) (seE xs).toList with
  | some j =>
    dsimp only
    have ht : m.testBit v = true := by
      obtain ⟨hj, hp, _⟩ := List.findIdx?_eq_some_iff_getElem.mp hr
      have me := List.getElem_mem hj
      generalize (seE xs).toList[j] = e at hp me
      simp only [seE, List.mem_map] at me
      obtain ⟨x, hx1, rfl⟩ := me
      have : (x.1 : Int) = v := by simpa [intKind, Value.isInt] using hp
      have e2 : x.1 = v := by omega
      exact e2 ▸ (mem_subM.mp (hx ▸ List.mem_map_of_mem (f := (·.1)) hx1)).2
    have c := chkM_of led hm hv
    unfold chkM at c
    rw [ht] at c
    simp only [Bool.true_and, Bool.not_true, Bool.false_and, Bool.or_false, beq_iff_eq] at c
    refine wpAny_pure (wpAny_pure ?_)
    have z := h false s.heap (Heap.SameBut.refl a s.heap) ⟨by rw [c]; exact hm, xs, ep, by rw [c]; exact hx, by rw [c]; exact ho⟩
    cases s
    exact z
  | none =>
    dsimp only
    have ht : m.testBit v = false := by
      cases e : m.testBit v with
      | false => rfl
      | true =>
        have me : v ∈ xs.map (·.1) := by rw [hx]; exact mem_subM.mpr ⟨hv, e⟩
        obtain ⟨x, h1, h2⟩ := List.mem_map.mp me
        have z := List.findIdx?_eq_none_iff.mp hr ((x.1 : Int), Value.int x.1 x.2) (by simp only [seE, List.mem_map]; exact ⟨x, h1, rfl⟩)
        have h2 : x.1 = v := h2
        simp [intKind, Value.isInt, h2] at z
    obtain ⟨xs', m', eL, lt', alt⟩ := layNew_se led (tk := tk) hm hv hx ht
    have sm' := seE_small lt' m'
    have bl : (seE xs').size ≤ sizeLine := fits_of_scanBound (by unfold scanBound; omega)
    rw [hash_small hv, eL]
    dsimp only
    refine wpAny_bind (wpAny_pure ?_)
    rw [if_pos (show (stN led m v).plain = true from rfl), hashByValue_scannable 8 (x := .int v tk) rfl]
    refine wpAny_bind (wpAny_pure ?_)
    rw [if_pos (show plainKind (.int v tk) = true from rfl)]
    refine wpAny_bind (wpAny_storeSet_of ho rfl ?_ bl)
    have g1 := se_upd (led := led) (m := m) (xs := xs) (seE xs') (stN led m v) ho
    rcases alt with ⟨tf, er⟩ | ⟨tf, et⟩
    · rw [tf]
      simp only [Bool.not_false, Bool.true_and, ↓reduceIte]
      rw [er]
      refine wpAny_bind (wpAny_pure (wpAny_bind (wpAny_storeSet_of g1 rfl ?_ bl)))
      have g2 := se_upd (led := led) (m := m) (xs := xs) (seE xs') (stT led (m ||| 2 ^ v)) g1
      exact wpAny_pure (wpAny_pure (h _ _ ((Heap.SameBut.update _ a _).trans (Heap.SameBut.update _ a _)) ⟨lt', xs', _, m', g2⟩))
    · rw [tf]
      simp only [Bool.not_false, Bool.true_and, Bool.false_eq_true, ↓reduceIte]
      rw [et] at g1 ⊢
      exact wpAny_pure (wpAny_pure (h _ _ (Heap.SameBut.update _ a _) ⟨lt', xs', _, m', g1⟩))
end
end PySem
namespace PySem
open PySem.Spec Builtin DL
/-! ## set(l), l a list of whole numbers from 0 to 6 -/
def mkM (val : Nat → Nat) : Nat → Nat
  | 0 => 0
  | i + 1 => mkM val i ||| 2 ^ val i
theorem stT_zero (led : Bool) : stT led 0 = .fresh 0 0 led := by cases led <;> rfl
abbrev nwS (led : Bool) : Obj := { cls := .type "set", dict := none, data := .set #[] 0 (.fresh 0 0 led) }
section
variable {prog : Program} {w : World} {A : Around} {R : Result → Shared → Prop} {I : Addr} {fp wr : List Addr} {G : Array GenState → Array GenState → Prop} {n : Nat} {P : Nat → Value → Prop} {St : Nat → Shared → Prop}
theorem SeAt.keep {h h' : Heap} {a : Addr} {led : Bool} {m : Nat} (x : SeAt h a led m) (k : ∀ o, h.get? a = some o → h'.get? a = some o) : SeAt h' a led m := by
  obtain ⟨hm, xs, ep, hx, g⟩ := x
  exact ⟨hm, xs, ep, hx, k _ g⟩
theorem se_loop (W : WalksS prog w A.in1 I fp wr G n P St) (S : Addr) (hSf : S ∉ fp) (led : Bool) (val : Nat → Nat) (hv : ∀ i, val i < 7) (hval : ∀ i v, P i v → ∃ t, v = .int (val i : Nat) t) :
    ∀ (k i : Nat) (s : Shared), n - i = k → i ≤ n → St i s → SeAt s.heap S led (mkM val i) → (∀ s', Moved (S :: wr) G s s' → SeAt s'.heap S led (mkM val n) → R (.ok (.ret .none)) s') →
      codeAny (model prog w) A (.builtin "set.update.loop" ⟨[.ref S, .ref I], []⟩) R s := by
  have hSw : S ∉ wr := fun h => hSf (W.sub _ h)
  have hsub : ∀ b ∈ wr, b ∈ S :: wr := fun b hb => List.mem_cons_of_mem _ hb
  intro k
  induction k with
  | zero =>
    intro i s hk hi hst hS hR
    have hin : i = n := by omega
    subst hin
    refine codeAny_builtin PyProof.Rows.F.entry_set_update_loop ?_
    rw [Around.under_plainId PyProof.Rows.F.plain_set_update_loop _]
    show wpAny _ A.in1 (pyNext (.ref I) >>= _) _ _ s
    refine wpAny_bind (W.done s _ _ hst fun s' hm => ?_)
    show wpAny _ A.in1 (ret Value.none) _ _ s'
    exact wpAny_pure (hR s' (hm.mono hsub) (hS.keep fun o e => hm.heap S _ hSw e))
  | succ k ih =>
    intro i s hk hi hst hS hR
    have hlt : i < n := by omega
    refine codeAny_builtin PyProof.Rows.F.entry_set_update_loop ?_
    rw [Around.under_plainId PyProof.Rows.F.plain_set_update_loop _]
    show wpAny _ A.in1 (pyNext (.ref I) >>= _) _ _ s
    refine wpAny_bind (W.item i s _ _ hlt hst fun v s' hP hst' hm => ?_)
    obtain ⟨t, rfl⟩ := hval i v hP
    have hS' : SeAt s'.heap S led (mkM val i) := hS.keep fun o e => hm.heap S _ hSw e
    refine wpAny_bind (wpAny_holding ?_)
    unfold setAdd
    refine wpAny_holding (wpAny_bind ((intKind prog w).pyHash (k := (val i : Nat)) (by simp [intKind, Value.isInt]) ?_))
    refine se_add (s := { s' with toks := s'.toks + 1 }) hS' (hv i) fun b h' hsb hS2 => ?_
    refine wpAny_pure ⟨plainId_quiet PyProof.Rows.F.plain_set_update_loop _, ih (i + 1) _ (by omega) hlt (W.frame _ s' _ _ hst' (Nat.le_succ _) fun b hb o e => ?_) hS2 fun s'' hm'' hS'' => ?_⟩
    · rw [hsb.2 b (fun h : b = S => hSf (by rw [← h]; exact hb))]
      exact e
    · refine hR s'' (Moved.trans W.gtrans ((hm.mono hsub).then_heap (Nat.le_succ _) fun b o hb e => ?_) hm'') hS''
      rw [hsb.2 b (fun h : b = S => hb (by rw [h]; exact List.mem_cons_self))]
      exact e
end
section
variable {prog : Program} {w : World} {A : Around} {E : Value → Shared → Prop} {s : Shared}
theorem code_set_newL (a : Value) {Q₁ : Value → Shared → Prop} (h : Q₁ (.ref s.heap.objs.size) { s with heap := s.heap.push (nwS (!w.params.followText "set-order")) }) :
    codeAny (model prog w) A (.call (.builtin "set.__new__") ⟨[.type "set", a], []⟩) (wants Q₁ E) s := by
  refine codeAny_of_tree ?_
  show wpAny _ A.in1 (do checkBuiltinCall "set.__new__" ⟨[.type "set", a], []⟩; again (.builtin "set.__new__" ⟨[.type "set", a], []⟩)) _ _ s
  refine wpAny_bind (wpAny_of_eq (F.newCall_set_1 a) (wpAny_pure ⟨plainId_quiet F.plain_set_new _, codeAny_builtin F.entry_set_new ?_⟩))
  rw [Around.under_plainId F.plain_set_new _]
  unfold Builtin.«set.__new__» Builtin.Frozenset.newClass
  have hsub := sub_set_self
  obtain ⟨hp, g, d, tk, os⟩ := s
  dsimp only
  wp_walk
  refine wpAny_askSetting (wpAny_pure ?_)
  dsimp only
  simp only [newObj]
  exact wpAny_bind (wpAny_alloc (wpAny_pure (wpAny_pure h)))
end
end PySem
namespace PySem
open Builtin DL
/-! ## a set of small whole numbers walked, and sorted(set(l)) -/
theorem se_slot_next : Slot "set_iterator" "__next__" "set_iterator.__next__" :=
  .of (owner := "set_iterator") (n := "__next__") (by rw [typeLookup_type, builtinLookup_eq_fast]; kernel_rfl) (by decide +kernel) (by decide +kernel) (by decide +kernel)
    (by first | exact .inl (by decide +kernel) | exact .inr (by decide +kernel)) (by rw [isSubtype_type]; kernel_rfl)
theorem se_entry_next : entryFor table "set_iterator.__next__" = some Builtin.«set_iterator.__next__» := entryFor_of_tree (by kernel_rfl)
theorem se_owner : Manifest.owners.lookup (String.ofList ['r', 'o', 't', 'a', 'r', 'e', 't', 'i', '_', 't', 'e', 's'].reverse) = some Manifest.sig_set_iterator := by kernel_rfl
theorem se_args_next (a : Value) : argsOk "set_iterator.__next__" ⟨[a], []⟩ := by
  unfold argsOk; rw [signature?_of (id := "set_iterator.__next__") (n := ['_', '_', 't', 'x', 'e', 'n', '_', '_']) (o := ['r', 'o', 't', 'a', 'r', 'e', 't', 'i', '_', 't', 'e', 's']) (by kernel_rfl) se_owner]; kernel_rfl
theorem se_slot_self : Slot "set_iterator" "__iter__" "set_iterator.__iter__" :=
  .of (owner := "set_iterator") (n := "__iter__") (by rw [typeLookup_type, builtinLookup_eq_fast]; kernel_rfl) (by decide +kernel) (by decide +kernel) (by decide +kernel)
    (by first | exact .inl (by decide +kernel) | exact .inr (by decide +kernel)) (by rw [isSubtype_type]; kernel_rfl)
theorem se_entry_self : entryFor table "set_iterator.__iter__" = some Builtin.«dict_keyiterator.__iter__» := entryFor_alias (id' := "dict_keyiterator.__iter__") (by kernel_rfl) rfl (by decide +kernel) (by kernel_rfl)
theorem se_args_self (a : Value) : argsOk "set_iterator.__iter__" ⟨[a], []⟩ := by
  unfold argsOk; rw [signature?_of (id := "set_iterator.__iter__") (n := ['_', '_', 'r', 'e', 't', 'i', '_', '_']) (o := ['r', 'o', 't', 'a', 'r', 'e', 't', 'i', '_', 't', 'e', 's']) (by kernel_rfl) se_owner]; kernel_rfl
theorem se_entry_iter : entryFor table "set.__iter__" = some Builtin.«frozenset.__iter__» := entryFor_alias (id' := "frozenset.__iter__") (by kernel_rfl) rfl (by decide +kernel) (by kernel_rfl)
theorem erase_perm {α : Type} : ∀ (l : List α) (i : Nat) (h : i < l.length), (l[i] :: l.eraseIdx i).Perm l
  | _ :: _, 0, _ => List.Perm.refl _
  | x :: l, i + 1, h => (List.Perm.swap _ _ _).trans (List.Perm.cons x (erase_perm l i (by simpa using h)))
theorem pickGo {α : Type} (next : Nat → Nat) : ∀ (fuel k : Nat) (left : List α) (out : Array α), fuel = left.length → (pickOrder.go next fuel k left out).toList.Perm (out.toList ++ left)
  | 0, _, [], out, _ => by
    unfold pickOrder.go
    rw [List.append_nil]
  | fuel + 1, k, x :: left, out, e => by
    have lt : next k % (x :: left).length < (x :: left).length := Nat.mod_lt _ (by simp)
    unfold pickOrder.go
    rw [List.getElem?_eq_getElem lt]
    refine (pickGo next fuel (k + 1) _ _ (by rw [List.length_eraseIdx_of_lt lt]; omega)).trans ?_
    rw [Array.toList_push, List.append_assoc]
    exact List.Perm.append_left _ (erase_perm _ _ lt)
theorem pick_perm {α : Type} (next : Nat → Nat) (xs : Array α) : (pickOrder next xs).toList.Perm xs.toList := pickGo next xs.size 0 xs.toList #[] rfl
def siO (sl i : Nat) (a : Addr) (n ep : Nat) : Obj := { cls := .type "set_iterator", dict := none, data := .fields #[.int sl 0, .int i 0, .ref a, .int n 0, .int ep 0], slots := #[] }
/-- the order in which a set is walked -/
def seW (w : World) (a : Addr) (ep : Nat) (xs : List Sx) : Array (Int × Value) := if w.params.followText "set-order" then pickOrder (w.params.setOrder a ep) (seE xs) else seE xs
theorem seW_perm (w : World) (a : Addr) (ep : Nat) (xs : List Sx) : (seW w a ep xs).toList.Perm (seE xs).toList := by
  unfold seW
  split
  · exact pick_perm _ _
  · exact List.Perm.refl _
theorem seW_size (w : World) (a : Addr) (ep : Nat) (xs : List Sx) : (seW w a ep xs).size = xs.length := by
  rw [← seE_size, ← Array.length_toList, ← Array.length_toList]
  exact (seW_perm w a ep xs).length_eq
section
variable {prog : Program} {w : World} {A : Around} {E : Value → Shared → Prop} {s : Shared} {a it : Addr} {m ep sl i : Nat} {xs : List Sx}
theorem setNext_at {Q : Option (Value × Nat) → Shared → Prop} (hm : m < 128) (hx : xs.map (·.1) = subM m) (ho : s.heap.get? a = some (seO (!w.params.followText "set-order") m xs ep)) (hsl : w.params.followText "set-order" = false → sl = slM m i) (hi : i ≤ xs.length)
    (h : ∀ sl', (w.params.followText "set-order" = false → sl' = slM m (i + 1)) → Q ((seW w a ep xs)[i]?.map fun e => (e.2, sl')) s) : wpAny (model prog w) A (setNext a sl i ep) Q E s := by
  have hf := seE_fits (!w.params.followText "set-order") hm hx
  unfold setNext
  refine wpAny_bind (wpAny_setState_of ho rfl hf ?_)
  dsimp only
  unfold setsByText
  refine wpAny_bind (wpAny_bind (wpAny_askSetting (wpAny_pure ?_)))
  dsimp only
  cases hF : w.params.followText "set-order" with
  | true =>
    rw [show (model prog w).w.params.followText "set-order" = true from hF, if_pos rfl, if_neg (by simp)]
    unfold setWalk
    refine wpAny_bind (wpAny_bind (wpAny_setState_of ho rfl hf ?_))
    dsimp only
    unfold setsByText
    refine wpAny_bind (wpAny_bind (wpAny_askSetting (wpAny_pure ?_)))
    dsimp only
    rw [show (model prog w).w.params.followText "set-order" = true from hF, if_pos rfl]
    refine wpAny_bind (wpAny_askSetting (wpAny_pure (wpAny_pure ?_)))
    have z := h sl (by rw [hF]; intro q; cases q)
    unfold seW at z
    rw [hF, if_pos rfl] at z
    exact z
  | false =>
    rw [show (model prog w).w.params.followText "set-order" = false from hF, if_neg (by simp)]
    refine wpAny_ite_split (fun z => absurd (show false = true from z) Bool.false_ne_true) (fun _ => ?_)
    refine wpAny_bind (wpAny_ite_split (fun z => absurd (show (false && !(seE xs).isEmpty) = true from z) (by simp)) (fun _ => wpAny_pure ?_))
    have l8 : i < 8 := by
      have := seE_small hm hx
      rw [seE_size] at this
      omega
    have ln : (subM m).length = xs.length := by rw [← hx, List.length_map]
    have eb : SetTable.below (subM m).toArray sl = i := by
      rw [hsl hF]
      exact chkS_all m (List.mem_range.mpr hm) i (List.mem_range.mpr l8) (by omega)
    have ew : seW w a ep xs = seE xs := by unfold seW; rw [hF]; rfl
    rw [ew] at h
    show wpAny _ _ (pure (match (seE xs)[SetTable.below (subM m).toArray sl]?, (subM m).toArray[SetTable.below (subM m).toArray sl]? with | some (_, x), some j => some (x, j + 1) | _, _ => none)) _ _ _
    rw [eb]
    have z := h (slM m (i + 1)) fun _ => rfl
    by_cases lt : i < xs.length
    · have e1 : (seE xs)[i]? = some ((xs[i].1 : Int), Value.int xs[i].1 xs[i].2) := by simp [seE, lt]
      have e2 : (subM m).toArray[i]? = some ((subM m).getD i 0) := by
        rw [List.getElem?_toArray, List.getD_eq_getElem?_getD, List.getElem?_eq_getElem (by omega)]
        rfl
      rw [e1] at z ⊢
      rw [e2]
      exact wpAny_pure z
    · have e1 : (seE xs)[i]? = none := by simp [seE]; omega
      rw [e1] at z ⊢
      exact wpAny_pure z
theorem siI {Q : Value → Shared → Prop} (hm : m < 128) (hx : xs.map (·.1) = subM m) (led : Bool) (ho : s.heap.get? a = some (seO led m xs ep)) (h : Q (.ref s.heap.objs.size) { s with heap := s.heap.push (siO 0 0 a xs.length ep) }) : wpAny (model prog w) A (pyIter (.ref a)) Q E s := by
  have T : s.TypeIs (.ref a) "set" := ⟨_, ho, rfl⟩
  have hf := seE_fits led hm hx
  refine wpAny_pyIter_slot T F.slot_set_iter (wpAny_call_entry F.slot_set_iter T se_entry_iter ?_ (F.args_set_iter_1 _))
  unfold Builtin.«frozenset.__iter__» Builtin.Frozenset.slot0 slotArgs
  simp only [List.isEmpty_nil, Bool.not_true, Bool.false_eq_true, ↓reduceIte, bind_assoc, List.length_nil, bne_self_eq_false]
  unfold Builtin.Frozenset.addrOf Builtin.Frozenset.sizeOf
  refine wpAny_bind (wpAny_pure ?_)
  try dsimp only
  refine wpAny_bind (wpAny_pure ?_)
  refine wpAny_bind (wpAny_bind (wpAny_setEntries_of ho rfl hf (wpAny_pure ?_)))
  unfold setDrawn setsByText
  refine wpAny_bind (wpAny_bind (wpAny_setState_of ho rfl hf ?_))
  refine wpAny_bind (wpAny_bind (wpAny_askSetting (wpAny_pure (wpAny_pure ?_))))
  refine wpAny_ite_split (fun z => absurd (show (!w.params.followText "set-order" && false) = true from z) (by simp)) (fun _ => wpAny_bind (wpAny_pure (wpAny_bind (wpAny_setEpoch_of ho rfl hf ?_))))
  refine wpAny_bind (wpAny_newObj_type (wpAny_pure ⟨_, rfl, "set_iterator", _, ⟨_, Heap.get?_push_size _ rfl, rfl⟩, se_slot_next.lookup, ?_⟩))
  rw [seE_size]
  exact h
theorem siN (it a : Addr) (m ep sl i : Nat) (xs : List Sx) (hm : m < 128) (hx : xs.map (·.1) = subM m) (hsl : w.params.followText "set-order" = false → sl = slM m i) (e : Int × Value) (he : (seW w a ep xs)[i]? = some e) :
    MeetsIn prog w (Builtin.«set_iterator.__next__» ⟨[.ref it], []⟩) (fun _ R s => s.heap.get? it = some (siO sl i a xs.length ep) ∧ s.heap.get? a = some (seO (!w.params.followText "set-order") m xs ep) ∧
      ∀ sl' h', (w.params.followText "set-order" = false → sl' = slM m (i + 1)) → h'.get? it = some (siO sl' (i + 1) a xs.length ep) → (∀ b o, b ≠ it → s.heap.get? b = some o → h'.get? b = some o) → R (.ok (.ret e.2)) { s with heap := h' }) :=
  .of_wp fun A R s h => by
    obtain ⟨hp, g, dr, tk, os⟩ := s
    obtain ⟨h1, h2, h⟩ := h
    have hf := seE_fits (!w.params.followText "set-order") hm hx
    have hi : i ≤ xs.length := by
      have := (Array.getElem?_eq_some_iff.mp he).1
      rw [seW_size] at this
      omega
    unfold Builtin.«set_iterator.__next__» slotArgs
    simp only [List.isEmpty_nil, Bool.not_true, Bool.false_eq_true, ↓reduceIte, bind_assoc, List.length_nil, bne_self_eq_false]
    refine wpAny_bind (wpAny_pure ?_)
    refine wpAny_bind (wpAny_fieldsOf h1 rfl ?_)
    show wpAny _ _ (setEntries a >>= _) _ _ _
    refine wpAny_bind (wpAny_setEntries_of h2 rfl hf ?_)
    refine wpAny_ite_split (fun z => absurd z (by rw [seE_size]; simp)) (fun _ => ?_)
    refine wpAny_bind (setNext_at (sl := sl) (i := i) (ep := ep) hm hx h2 hsl hi fun sl' q => ?_)
    rw [he]
    refine wpAny_bind (m := setField (.ref it) 0 (rawInt sl')) (wpAny_setField_rec h1 (by simp) fun k1 a1 b1 => wpAny_bind (m := setField (.ref it) 1 (rawInt ((i : Int) + 1))) (wpAny_setField_rec a1 (by simp) fun k2 a2 b2 => wpAny_pure ⟨_, rfl, h sl' k2 q a2 (fun b o nb x => b2.extBut b o nb (b1.extBut b o nb x))⟩))
theorem siE (it a : Addr) (m ep sl i : Nat) (xs : List Sx) (hm : m < 128) (hx : xs.map (·.1) = subM m) (hsl : w.params.followText "set-order" = false → sl = slM m i) (hi : i = xs.length) :
    MeetsIn prog w (Builtin.«set_iterator.__next__» ⟨[.ref it], []⟩) (fun A R s => A.handled = none ∧ s.heap.get? it = some (siO sl i a xs.length ep) ∧ s.heap.get? a = some (seO (!w.params.followText "set-order") m xs ep) ∧
      (∀ h' e, Heap.ExtBut it s.heap h' → (∃ o, h'.get? e = some o ∧ o.cls = .type "StopIteration") → R (.error (.ref e)) { s with heap := h' })) :=
  .of_wp fun A R s h => by
    obtain ⟨hp, g, dr, tk, os⟩ := s
    obtain ⟨h0, h1, h2, h⟩ := h
    have hf := seE_fits (!w.params.followText "set-order") hm hx
    have he : (seW w a ep xs)[i]? = none := by rw [Array.getElem?_eq_none_iff, seW_size]; omega
    unfold Builtin.«set_iterator.__next__» slotArgs
    simp only [List.isEmpty_nil, Bool.not_true, Bool.false_eq_true, ↓reduceIte, bind_assoc, List.length_nil, bne_self_eq_false]
    refine wpAny_bind (wpAny_pure ?_)
    refine wpAny_bind (wpAny_fieldsOf h1 rfl ?_)
    show wpAny _ _ (setEntries a >>= _) _ _ _
    refine wpAny_bind (wpAny_setEntries_of h2 rfl hf ?_)
    refine wpAny_ite_split (fun z => absurd z (by rw [seE_size]; simp)) (fun _ => ?_)
    refine wpAny_bind (setNext_at (sl := sl) (i := i) (ep := ep) hm hx h2 hsl (by omega) fun sl' q => ?_)
    rw [he]
    refine wpAny_bind (m := setField (.ref it) 2 .none) (wpAny_setField_rec h1 (by simp) fun k1 a1 b1 => ?_)
    wp_walk
    unfold raiseNew
    refine wpAny_bind (wpAny_handled ?_)
    rw [show A.in1.handled = none from h0]
    exact wpAny_bind (wpAny_pure (wpAny_throw (h _ _ (fun b o nb x => Heap.get?_push_of_some _ (Heap.get?_push_of_some _ (b1.extBut b o nb x))) ⟨_, Heap.get?_push_size _ rfl, rfl⟩)))
theorem self_si {n : Nat} {Q : Value → Shared → Prop} (h1 : s.heap.get? it = some (siO sl i a n ep)) (h : Q (.ref it) s) : wpAny (model prog w) A (pyIter (.ref it)) Q E s := by
  have T : s.TypeIs (.ref it) "set_iterator" := ⟨_, h1, rfl⟩
  refine wpAny_pyIter_slot T se_slot_self (wpAny_call_entry se_slot_self T se_entry_self ?_ (se_args_self _))
  exact wpAny_pure ⟨_, rfl, "set_iterator", _, T, se_slot_next.lookup, h⟩
theorem walks_se (hh : A.handled = none) (I a : Addr) (ne : a ≠ I) (m ep : Nat) (xs : List Sx) (hm : m < 128) (hx : xs.map (·.1) = subM m) : Walks prog w A I [I, a] [I] xs.length (fun i v => ∃ e, (seW w a ep xs)[i]? = some e ∧ v = e.2)
    (fun i h => (∃ sl, (w.params.followText "set-order" = false → sl = slM m i) ∧ h.get? I = some (siO sl i a xs.length ep)) ∧ h.get? a = some (seO (!w.params.followText "set-order") m xs ep)) where
  sub := fun b hb => by simp at hb; simp [hb]
  frame := fun _ _ _ ⟨⟨sl, q, st⟩, st2⟩ k => ⟨⟨sl, q, k I (by simp) _ st⟩, k a (by simp) _ st2⟩
  item := fun i s Q E hi ⟨⟨sl, q, st⟩, st2⟩ fin => by
    have lt : i < (seW w a ep xs).size := by rw [seW_size]; exact hi
    have he : (seW w a ep xs)[i]? = some (seW w a ep xs)[i] := by simp [lt]
    exact next_of se_slot_next ⟨_, st, rfl⟩ se_entry_next (se_args_next _) (siN I a m ep sl i xs hm hx q _ he) ⟨st, st2, fun sl' h' q' g k => fin _ h' s.toks ⟨_, he, rfl⟩ ⟨⟨sl', q', g⟩, k _ _ ne st2⟩ fun b o hb x => k b o (fun z => hb (by simp [z])) x⟩
  done := fun s Q E ⟨⟨sl, q, st⟩, st2⟩ fin => next_of se_slot_next ⟨_, st, rfl⟩ se_entry_next (se_args_next _) (siE I a m ep sl _ xs hm hx q rfl) ⟨hh, st, st2, fun h' e x ⟨o, y1, y2⟩ => ⟨⟨e, o, rfl, y1, y2⟩, fin h' s.toks fun b o hb z => x b o (fun y => hb (by simp [y])) z⟩⟩
  self := fun _ _ _ _ ⟨⟨sl, q, st⟩, st2⟩ z => self_si st z
theorem hint_se {r : Addr} {Q : Bool → Shared → Prop} (hT : s.TypeIs (.ref r) "set") (h : Q false s) : wpAny (model prog w) A (Builtin.List.listLengthHint (.ref r)) Q E s := by
  unfold Builtin.List.listLengthHint
  refine wpAny_bind (wpAny_specialOf hT F.slot_set_len.lookup ?_)
  generalize hid : ("set.__len__" : String) = id0
  wp_delta
  rw [show splitId id0 = some ("set", "__len__") from by subst hid; decide +kernel]
  subst hid
  refine wpAny_bind (wpAny_isInstance (T := "set") (b := true) hT (by rw [isSubtype_type]; kernel_rfl) ?_)
  refine wpAny_ite_split (fun hab => absurd hab (by decide)) (fun _ => ?_)
  refine wpAny_ite_split (fun _ => ?_) (fun hab => absurd (by decide +kernel) hab)
  refine wpAny_bind (wpAny_typeOf hT ?_)
  exact wpAny_pure h
theorem src_se (hm : m < 128) (hx : xs.map (·.1) = subM m) : PySem.W.KdlSrc prog w "set" a a xs.length (fun i v => ∃ e, (seW w a ep xs)[i]? = some e ∧ v = e.2) (fun h => h.get? a = some (seO (!w.params.followText "set-order") m xs ep)) where
  type := fun s ok => ⟨_, ok, rfl⟩
  there := fun h ok => ⟨Heap.lt_size ok, Heap.lt_size ok⟩
  keep := fun h h' ok k => k a (.inl rfl) _ ok
  notList := by decide
  notTuple := by decide
  hint := fun A E s Q ok q => hint_se ⟨_, ok, rfl⟩ q
  iter := fun A s hh ok => ⟨siO 0 0 a xs.length ep, _, fun E Q q => siI hm hx _ ok q, walks_se hh s.heap.objs.size a (Nat.ne_of_lt (Heap.lt_size ok)) m ep xs hm hx, ⟨0, fun _ => rfl, Heap.get?_push_size _ rfl⟩, Heap.get?_push_of_some _ ok⟩
end
end PySem
namespace PySem
open Builtin DL PyProof.Rows
section
variable {prog : Program} {w : World} {A : Around} {E : Value → Shared → Prop} {s : Shared} {a it : Addr} {m ep : Nat} {xs : List Sx}
theorem collect_code {R : Result → Shared → Prop} (hh : A.handled = none) (hm : m < 128) (hx : xs.map (·.1) = subM m) (ho : s.heap.get? a = some (seO (!w.params.followText "set-order") m xs ep))
    (h : ∀ h' tk acc c', (∀ b o, s.heap.get? b = some o → h'.get? b = some o) → h'.get? s.heap.objs.size = some { cls := .type "list", dict := none, data := .seq acc c', slots := #[] } → ItemsOf (fun i v => ∃ e, (seW w a ep xs)[i]? = some e ∧ v = e.2) acc xs.length → R (.ok (.ret (.ref s.heap.objs.size))) { s with heap := h', toks := tk }) :
    codeAny (model prog w) A (.builtin "proto.collect" ⟨[.ref a], []⟩) R s := by
  have la := Heap.lt_size ho
  have hz : xs.length ≤ sizeLine := by
    have := seE_small hm hx
    rw [seE_size] at this
    exact fits_of_scanBound (by unfold scanBound; omega)
  refine codeAny_builtin F.entry_proto_collect ?_
  rw [Around.under_plainId F.plain_proto_collect _]
  show wpAny _ A.in1 (newList [] >>= fun l => again (.builtin "list.__iadd__" ⟨[l, .ref a], []⟩)) _ _ s
  refine wpAny_bind (wpAny_newObj_type ?_)
  refine wpAny_pure ⟨plainId_quiet F.plain_list_iadd _, codeAny_builtin F.entry_list_iadd ?_⟩
  rw [Around.under_plainId F.plain_list_iadd _]
  have ho1 : (s.heap.push { cls := .type "list", data := .seq ([] : List Value).toArray }).get? a = some (seO (!w.params.followText "set-order") m xs ep) := Heap.get?_push_of_some _ ho
  have hS1 : (s.heap.push { cls := .type "list", data := .seq ([] : List Value).toArray }).get? s.heap.objs.size = some { cls := .type "list", data := .seq #[] 0 } := Heap.get?_push_size _ rfl
  exact PySem.W.kdl_extend (R := R) (s := { s with heap := s.heap.push { cls := .type "list", data := .seq ([] : List Value).toArray } }) (src_se hm hx) hh ho1 s.heap.objs.size (Nat.ne_of_gt la) (Nat.ne_of_gt la) _ 0 hS1 (fun h' tk acc c' kk gn itm => h h' tk acc c' (fun b o e => kk b o (Nat.ne_of_lt (Heap.lt_size e)) (Heap.get?_push_of_some _ e)) gn itm) hz
theorem collect_se {Q : List Value → Shared → Prop} (hh : A.handled = none) (hm : m < 128) (hx : xs.map (·.1) = subM m) (ho : s.heap.get? a = some (seO (!w.params.followText "set-order") m xs ep))
    (h : ∀ h' tk acc, (∀ b o, s.heap.get? b = some o → h'.get? b = some o) → s.heap.objs.size < h'.objs.size → ItemsOf (fun i v => ∃ e, (seW w a ep xs)[i]? = some e ∧ v = e.2) acc xs.length → Q acc.toList { s with heap := h', toks := tk }) : wpAny (model prog w) A (collect (.ref a)) Q E s := by
  unfold collect
  refine wpAny_bind (wpAny_runValue (collect_code hh hm hx ho fun h' tk acc c' kk gn itm => ?_))
  show wpAny _ A (load s.heap.objs.size >>= _) _ _ _
  refine wpAny_bind (wpAny_load gn ?_)
  exact wpAny_pure (h h' tk acc kk (Heap.lt_size gn) itm)
theorem ints_pairs : ∀ l : List (Int × Value), (∀ e ∈ l, ∃ t, e.2 = .int e.1 t) → IntsAre (l.map (·.2)) (l.map (·.1))
  | [], _ => .nil
  | e :: l, h => by
    obtain ⟨t, q⟩ := h e (by simp)
    rw [List.map_cons, List.map_cons, q]
    exact .cons _ _ (ints_pairs l fun x hx => h x (by simp [hx]))
theorem perm_sorted : ∀ (l l' : List Int), l.Perm l' → l.Pairwise (· ≤ ·) → l'.Pairwise (· ≤ ·) → l = l'
  | [], l', p, _, _ => (List.Perm.nil_eq p)
  | x :: l, [], p, _, _ => absurd p.length_eq (by simp)
  | x :: l, y :: l', p, s1, s2 => by
    have hx : x ∈ y :: l' := p.mem_iff.mp (by simp)
    have hy : y ∈ x :: l := p.mem_iff.mpr (by simp)
    have e : x = y := by
      rcases List.mem_cons.mp hx with q | q
      · exact q
      rcases List.mem_cons.mp hy with r | r
      · exact r.symm
      exact Int.le_antisymm ((List.pairwise_cons.mp s1).1 y r) ((List.pairwise_cons.mp s2).1 x q)
    subst e
    rw [perm_sorted l l' (List.Perm.cons_inv p) (List.pairwise_cons.mp s1).2 (List.pairwise_cons.mp s2).2]
def subI (m : Nat) : List Int := (subM m).map fun (v : Nat) => (v : Int)
theorem subI_lt (m : Nat) : (subI m).Pairwise (· < ·) := by
  unfold subI subM
  rw [List.pairwise_map]
  exact (List.Pairwise.filter _ List.pairwise_lt_range).imp fun h => by omega
theorem sorted_se {Q : Value → Shared → Prop} (hh : A.handled = none) (hm : m < 128) (hx : xs.map (·.1) = subM m) (ho : s.heap.get? a = some (seO (!w.params.followText "set-order") m xs ep))
    (h : ∀ h' tk l vs e, s.heap.objs.size ≤ l → (∀ b o, s.heap.get? b = some o → h'.get? b = some o) → h'.get? l = some (seqObj "list" vs e) → IntsAre vs.toList (subI m) → Q (.ref l) { s with heap := h', toks := tk }) :
    wpAny (model prog w) A (call (.builtin "sorted") [.ref a]) Q E s := by
  refine Calls.call_function_entry kind_sorted plain_sorted entry_sorted (args_sorted1 _) ?_
  unfold Builtin.«sorted»
  refine wpAny_bind (m := checkCount "sorted" 1 1 _) (wpAny_pure ?_)
  refine wpAny_bind (collect_se (A := A.in1) hh hm hx ho fun h1 tk acc kk sz itm => ?_)
  have ev : acc.toList = (seW w a ep xs).toList.map (·.2) := by
    obtain ⟨l1, l2⟩ := itm
    apply List.ext_getElem?
    intro i
    rw [Array.getElem?_toList, List.getElem?_map, Array.getElem?_toList]
    cases q1 : acc[i]? with
    | none =>
      have : acc.size ≤ i := by simpa using q1
      rw [Array.getElem?_eq_none (by rw [seW_size]; omega)]
      rfl
    | some v =>
      obtain ⟨e, he, rfl⟩ := l2 i v q1
      rw [he]
      rfl
  have hI : IntsAre acc.toList ((seW w a ep xs).toList.map (·.1)) := by
    rw [ev]
    refine ints_pairs _ fun e he => ?_
    have := (seW_perm w a ep xs).mem_iff.mp he
    simp only [seE, List.mem_map] at this
    obtain ⟨x, _, rfl⟩ := this
    exact ⟨x.2, rfl⟩
  have hp : ((seW w a ep xs).toList.map (·.1)).Perm (subI m) := by
    refine ((seW_perm w a ep xs).map _).trans (List.Perm.of_eq ?_)
    unfold subI
    rw [← hx]
    simp only [seE, List.map_map]
    rfl
  have hl : acc.toList.length < 64 := by
    have := subM_len hm
    rw [ev, List.length_map, Array.length_toList, seW_size, ← List.length_map (f := (·.1)), hx]
    omega
  refine wpAny_bind (wpAny_newList ?_)
  have hoL : (h1.push (seqObj "list" acc.toList.toArray 0)).get? h1.objs.size = some (seqObj "list" acc.toList.toArray 0) := Heap.get?_push_size _ rfl
  refine wpAny_bind (wpAny_holding (wpAny_call_entry slot_list_sort ⟨_, hoL, rfl⟩ entry_list_sort (list_sort_tree hoL hI hl fun out ns' a1 a2 a3 => ⟨_, rfl, ?_⟩) (args_list_sort _)))
  have e : ns' = subI m := perm_sorted _ _ (a2.trans hp) a3 ((subI_lt m).imp fun h => Int.le_of_lt h)
  subst e
  obtain ⟨ep', g⟩ := sortedHeap_at (out := out) hoL
  refine wpAny_pure ⟨_, rfl, h _ tk _ out ep' (Nat.le_of_lt sz) (fun b o x => ?_) g a1⟩
  have lb := Heap.lt_size (kk b o x)
  rw [sortedHeap_old (Nat.ne_of_lt lb) (by rw [size_push']; exact Nat.lt_succ_of_lt lb)]
  exact Heap.get?_push_of_some _ (kk b o x)
end
end PySem
namespace L2
open PySem PySem.Spec PyProof.Rows
/-! ## sorted(set(l)) of few small whole numbers; dicts by whole numbers -/
def SeP (led : Bool) (p : Addr) (m : Nat) : Heap → Prop := fun h => SeAt h p led m
def valN (ns : List Int) (i : Nat) : Nat := (ns.getD i 0).toNat
def mskN (ns : List Int) : Nat := mkM (valN ns) ns.length
theorem mkM_bit (val : Nat → Nat) (v : Nat) : ∀ k, (mkM val k).testBit v = true ↔ ∃ i, i < k ∧ val i = v
  | 0 => by simp [mkM]
  | k + 1 => by
    show (mkM val k ||| 2 ^ val k).testBit v = true ↔ _
    rw [Nat.testBit_or, Bool.or_eq_true, mkM_bit val v k, Nat.testBit_two_pow, decide_eq_true_eq]
    constructor
    · rintro (⟨i, h1, h2⟩ | h)
      · exact ⟨i, by omega, h2⟩
      · exact ⟨k, by omega, h⟩
    · rintro ⟨i, h1, h2⟩
      by_cases e : i = k
      · subst e; exact .inr h2
      · exact .inl ⟨i, by omega, h2⟩
/-- the unlike ones in their order -/
def srtN (ns : List Int) : List Int := subI (mskN ns)
theorem srtN_lt (ns : List Int) : (srtN ns).Pairwise (· < ·) := subI_lt _
theorem mem_srtN {ns : List Int} (hb : ∀ n ∈ ns, 0 ≤ n ∧ n < 7) {v : Int} : v ∈ srtN ns ↔ v ∈ ns := by
  unfold srtN subI
  simp only [List.mem_map, mem_subM]
  constructor
  · rintro ⟨u, ⟨_, h2⟩, rfl⟩
    obtain ⟨i, hi, e⟩ := (mkM_bit _ _ _).mp h2
    have e1 : ns.getD i 0 = ns[i] := by rw [List.getD_eq_getElem?_getD, List.getElem?_eq_getElem hi]; rfl
    have m1 : ns[i] ∈ ns := List.getElem_mem hi
    have b1 := hb _ m1
    unfold valN at e
    rw [e1] at e
    have : (u : Int) = ns[i] := by omega
    rw [this]
    exact m1
  · intro h
    obtain ⟨i, hi, e⟩ := List.getElem_of_mem h
    have b1 := hb _ h
    have e1 : ns.getD i 0 = v := by rw [List.getD_eq_getElem?_getD, List.getElem?_eq_getElem hi, ← e]; rfl
    exact ⟨v.toNat, ⟨by omega, (mkM_bit _ _ _).mpr ⟨i, hi, by unfold valN; rw [e1]⟩⟩, by omega⟩
section
variable {X : Cx}
theorem call_sortS (hc : X.calm = true) : CallR X (.builtin "sorted") (fun xs H Q => ∃ p m, xs = [.ref p] ∧ H p = some (.ext (SeP (!X.w.params.followText "set-order") p m)) ∧ ∀ q, H q = none → Q (.ref q) (upd H q (.lst ((subI m).map V.int)))) := by
  intro pins s σ H xs us Q I r h
  obtain ⟨p, m, rfl, e1, q⟩ := h
  obtain ⟨u, rfl, rx⟩ := vals1 r
  cases rx
  obtain ⟨hm, ys, ep, hx, g⟩ := (I.hok p _ e1).1
  refine sorted_se (I.ok.hd hc) hm hx g fun h' tk l vs e le kk gl ia => ?_
  have hl : ((subI m).map V.int).length ≤ sizeLine := by
    have := subM_len hm
    unfold subI
    rw [List.length_map, List.length_map]
    exact fits_of_scanBound (by unfold scanBound; omega)
  exact ⟨.ref l, _, I.laid (a := l) (o := .lst ((subI m).map V.int)) (t' := tk) kk le ⟨hl, vs.toList, e, vals_intsM ia, by simpa using gl⟩, rfl, q l (I.hok.fresh le)⟩
end
end L2
namespace DL
open PySem PySem.Spec PyProof.Rows L2
def dSortSet (g : DE) : DE := fun L S k => g L S fun d S1 => match d with
  | .ref a => ∃ ns : List Int, S1 a = some (.lst (ns.map D.int)) ∧ (∀ n ∈ ns, 0 ≤ n ∧ n < 7) ∧ ∀ p, S1 p = none → k (.ref p) (put S1 p (.lst ((srtN ns).map D.int)))
  | _ => False
/-! ### dicts by whole numbers -/
def valD (kvs : List (Key × D)) (k : Key) : Option D := (kvs.find? fun kv => decide (kv.1 = k)).map (·.2)
def putD (kvs : List (Key × D)) (k : Key) (d : D) : List (Key × D) := if (kvs.any fun kv => decide (kv.1 = k)) = true then kvs.map (fun kv => if kv.1 = k then (kv.1, d) else kv) else kvs ++ [(k, d)]
abbrev KkR (K : Fg) (H : Hp) : List (Key × D) → List (Key × V) → Prop := Paired fun p q => p.1 = q.1 ∧ IsD K H p.2 q.2
section
variable {K : Fg} {H H' : Hp}
end
section
variable {X : Cx}
def dKNew : DE := fun _ S k => ∀ p, S p = none → k (.ref p) (put S p (.gen (.dK [])))
def dKGet (go gi : DE) : DE := fun L S k => go L S fun d S1 => gi L S1 fun e S2 => match d, e with
  | .ref a, .int i => ∃ kvs c, S2 a = some (.gen (.dK kvs)) ∧ valD kvs (.inl i) = some c ∧ k c S2
  | _, _ => False
def rSetK : TSet := fun x y v H Q => ∃ a kvs j, x = .ref a ∧ y = .int j ∧ H a = some (.dK kvs) ∧ kvs.length < sizeLine ∧ Q (upd H a (.dK (putK kvs (.inl j) v)))
def dgSubK (go gi : DE) : DG := fun d L S k => go L S fun o S1 => gi L S1 fun i S2 => match o, i with
  | .ref a, .int j => ∃ kvs, S2 a = some (.gen (.dK kvs)) ∧ kvs.length < sizeLine ∧ k L (put S2 a (.gen (.dK (putD kvs (.inl j) d))))
  | _, _ => False
end
end DL
/-! ## sorted(set(t)), t a tuple of whole numbers from 0 to 6 -/
namespace PySem
open PySem.Spec Builtin DL
section
variable {prog : Program} {w : World} {A : Around} {E : Value → Shared → Prop} {s : Shared}
set_option maxRecDepth 100000 in
set_option maxHeartbeats 3200000 in
theorem set_init_tupS {l : Addr} {items : Array Value} {val : Nat → Nat} {led : Bool} {R : Result → Shared → Prop} (hh : A.handled = none) (hl : s.heap.IsTuple l items) (hv : ∀ i, val i < 7) (hval : ∀ (i : Nat) (v : Value), items[i]? = some v → ∃ t, v = .int (val i : Nat) t)
    (h : ∀ (h' : Heap) (tk : Nat), SeAt h' s.heap.objs.size led (mkM val items.size) → (∀ b o, b < s.heap.objs.size → s.heap.get? b = some o → h'.get? b = some o) → R (.ok (.ret Value.none)) { s with heap := h', toks := tk }) :
    wpAny (model prog w) A (Builtin.«set.__init__» ⟨[.ref s.heap.objs.size, .ref l], []⟩) (fun fin s' => ∃ v, fin = Fin.done (Flow.ret v) ∧ R (.ok (.ret v)) s') (fun e s' => R (.error e) s') { s with heap := s.heap.push (nwS led) } := by
  obtain ⟨⟨ocls, odict, odata, oslots⟩, hol, hcl, nl, hdl⟩ := id hl
  simp only at hcl hdl
  subst hcl hdl
  have hS : (s.heap.push (nwS led)).get? s.heap.objs.size = some (nwS led) := Heap.get?_push_size _ rfl
  have hol' := Heap.get?_push_of_some (h := s.heap) (nwS led) hol
  have s1 := F.sub_tuple_set
  have s2 := F.sub_tuple_frozenset
  have hne : (Value.type "tuple" == Value.type "dict") = false := by decide
  unfold Builtin.«set.__init__» noKeywords Builtin.Frozenset.updateFrom
  generalize hPI : pyIter = PI
  wp_walk
  subst hPI
  have hl1 : (s.heap.push (nwS led)).IsTuple l items := ⟨_, hol', rfl, nl, rfl⟩
  have hlt : l < s.heap.objs.size := Heap.lt_size hol
  have hsz : (s.heap.push (nwS led)).objs.size = s.heap.objs.size + 1 := Heap.size_push _ _
  refine wpAny_pyIter_tuple hl1 (wpAny_bind (wpAny_runValue ?_))
  refine se_loop ((Walks.tuple (by simp [hh]) _ l (by rw [hsz]; exact Nat.ne_of_lt (Nat.lt_succ_of_lt hlt)) items).toS) s.heap.objs.size
    (by rw [hsz]; simp only [List.mem_cons, List.not_mem_nil, or_false, not_or]; exact ⟨Nat.ne_of_lt (Nat.lt_succ_self _), Nat.ne_of_gt hlt⟩) led val hv hval (items.size - 0) 0 _ (by omega) (Nat.zero_le _)
    ⟨⟨_, Heap.get?_push_size _ rfl, rfl, rfl⟩, hl1.push _⟩ ?setA ?setB
  case setA =>
    exact ⟨by show 0 < 128; decide, [], 0, by show [] = subM 0; decide, by rw [Heap.get?_push_of_some _ hS]; show some (nwS led) = some (seO led 0 [] 0); unfold seO; rw [stT_zero]; rfl⟩
  case setB =>
    rintro ⟨h', g', d', tk', os'⟩ hm hS'
    cases (show g' = s.gens from hm.gens)
    cases (show d' = s.drawn from hm.drawn)
    cases (show os' = s.os from hm.os)
    refine wpAny_pure (wpAny_pure ⟨_, rfl, h h' tk' hS' fun b o hlb e => ?_⟩)
    refine hm.heap b o ?_ (Heap.get?_push_of_some _ (Heap.get?_push_of_some _ e))
    rw [hsz]
    simp only [List.mem_cons, List.not_mem_nil, or_false, not_or]
    exact ⟨Nat.ne_of_lt hlb, Nat.ne_of_lt (Nat.lt_succ_of_lt hlb)⟩
set_option maxRecDepth 100000 in
set_option maxHeartbeats 3200000 in
theorem call_set_tupS {l : Addr} {items : Array Value} {val : Nat → Nat} {Q : Value → Shared → Prop} (hh : A.handled = none) (hl : s.heap.IsTuple l items) (hv : ∀ i, val i < 7) (hval : ∀ (i : Nat) (v : Value), items[i]? = some v → ∃ t, v = .int (val i : Nat) t)
    (h : ∀ (h' : Heap) (tk : Nat), SeAt h' s.heap.objs.size (!w.params.followText "set-order") (mkM val items.size) → (∀ b o, b < s.heap.objs.size → s.heap.get? b = some o → h'.get? b = some o) → Q (.ref s.heap.objs.size) { s with heap := h', toks := tk }) :
    wpAny (model prog w) A (call (.type "set") [.ref l]) Q E s := by
  obtain ⟨c, tl, g1⟩ := F.called_set.mro
  have g2 := F.called_set.made
  have g3 := F.called_set.sub
  have g4 := F.called_set.notType
  have g5 := F.called_set.canCreate
  have g6 := F.typeCall_set_1 (.ref l)
  refine wpAny_call (codeAny_of_tree (show wpAny _ _ (callAny (.type "set") _) _ _ _ from wpAny_pure ⟨Code.quiet_builtin _ (by decide +kernel), codeAny_builtin F.entry_type_call ?_⟩))
  rw [Around.under_plain (weight_type_call_type "set" [.ref l] []) rfl]
  repeat (any_goals (first | assumption | wp_step))
  generalize hL : (!w.params.followText "set-order") = led at h
  refine codeAny_mono (code_set_newL (.ref l) (E := E) (Q₁ := fun v t => v = .ref s.heap.objs.size ∧ t = { s with heap := s.heap.push (nwS led) }) ⟨rfl, by rw [hL]⟩) fun r t hr => ?_
  match r, hr with
  | .error e, hr => exact hr
  | .ok (.ret v), ⟨e1, e2⟩ =>
    subst e1 e2
    have hT : Shared.TypeIs { s with heap := s.heap.push (nwS led) } (.ref s.heap.objs.size) "set" := ⟨_, Heap.get?_push_size _ rfl, rfl⟩
    have g7 := F.called_set.init.lookup
    have g8 := F.called_set.init.bind (.ref s.heap.objs.size)
    repeat (any_goals (first | assumption | wp_step))
    refine codeAny_mono (codeAny_call_builtin (R := wants (fun r t => r = .none ∧ ∃ h' tk, t = { s with heap := h', toks := tk } ∧ Q (.ref s.heap.objs.size) { s with heap := h', toks := tk }) E) F.called_set.init.plain F.entry_set_init (check_set_init_1 hT ?_)) fun r2 t2 hr2 => ?_
    · refine wpAny_mono (set_init_tupS (R := wants (fun r t => r = .none ∧ ∃ h' tk, t = { s with heap := h', toks := tk } ∧ Q (.ref s.heap.objs.size) { s with heap := h', toks := tk }) E) (by simp [hh]) hl hv hval fun h' tk a b => ⟨rfl, h', tk, rfl, h h' tk a b⟩) ?_ ?_
      · rintro fin t ⟨v, rfl, q⟩
        exact q
      · exact fun _ _ e => e
    · match r2, hr2 with
      | .error e, hr2 => exact hr2
      | .ok (.ret v), ⟨e1, h', tk, e2, q⟩ =>
        subst e1 e2
        repeat (any_goals (first | assumption | wp_step))
end
end PySem
namespace L2
open PySem PySem.Spec PyProof.Rows
section
variable {X : Cx}
theorem call_setTp (hc : X.calm = true) : CallR X (.type "set") (fun xs H Q => ∃ a ns, xs = [.ref a] ∧ SqT X.K H a (ns.map V.int) ∧ (∀ n ∈ ns, 0 ≤ n ∧ n < 7) ∧ ∀ p, H p = none → Q (.ref p) (upd H p (.ext (SeP (!X.w.params.followText "set-order") p (mskN ns))))) := by
  intro pins s σ H xs us Q I r h
  obtain ⟨a, ns, rfl, hq, hb, q⟩ := h
  obtain ⟨u, rfl, rx⟩ := vals1 r
  cases rx
  obtain ⟨its, r', pl, hz⟩ := I.tuple hq
  have hlen := r'.length
  rw [List.length_map] at hlen
  have hI : IntsAre its ns := intsAre_of r'
  have nb : ∀ i, 0 ≤ ns.getD i 0 ∧ ns.getD i 0 < 7 := fun i => by
    rw [List.getD_eq_getElem?_getD]
    cases e : ns[i]? with
    | none => exact ⟨by decide, by decide⟩
    | some v => exact hb v (List.mem_of_getElem? e)
  refine call_set_tupS (val := valN ns) (I.ok.hd hc) (show s.heap.IsTuple a its.toArray from pl) (fun i => ?_) (fun i v hv => ?_) fun h' tk hS kp => ?_
  · have := nb i
    unfold valN
    omega
  · obtain ⟨t, rfl⟩ := IntsAre.int_at hI i v (by simpa using hv)
    have := nb i
    refine ⟨t, ?_⟩
    unfold valN
    rw [Int.toNat_of_nonneg this.1]
  have e : its.toArray.size = ns.length := by rw [List.size_toArray]; exact hlen.symm
  rw [e] at hS
  have hS' : SeP (!X.w.params.followText "set-order") s.heap.objs.size (mskN ns) h' := hS
  obtain ⟨_, _, _, _, g⟩ := id hS
  exact ⟨.ref s.heap.objs.size, _, I.laid (o := .ext (SeP (!X.w.params.followText "set-order") s.heap.objs.size (mskN ns))) (t' := tk) (fun b o z => kp b o (Heap.lt_size z) z) (Nat.le_refl _) ⟨hS', ⟨_, g⟩, fun h1 h2 z k => SeAt.keep z fun o e => k o e⟩, rfl, q _ (I.hok.fresh (Nat.le_refl _))⟩
end
end L2
namespace DL
open PySem PySem.Spec PyProof.Rows L2
def dSortSetT (g : DE) : DE := fun L S k => g L S fun d S1 => match d with
  | .tup ds => ∃ ns : List Int, ds = ns.map D.int ∧ (∀ n ∈ ns, 0 ≤ n ∧ n < 7) ∧ ∀ p, S1 p = none → k (.ref p) (put S1 p (.lst ((srtN ns).map D.int)))
  | _ => False
theorem d_sortSetTj {X : Cx} {e : Expr} {g : DE} {p1 p2 pos1 pos2 : Pos} (hc : X.calm = true) (hg1 : Gl X "sorted") (hm1 : X.mg "sorted" = none) (hv1 : bootBuiltins "sorted" = some (.builtin "sorted")) (hg2 : Gl X "set") (hm2 : X.mg "set" = none) (hv2 : bootBuiltins "set" = some (.type "set")) (he : EJ X e g)
    (s1 : starEach [e] X.env = (false, eval e X.env) :: starEach [] X.env := by exact star_cons rfl) (s2 : (backTo pos2 (starEach [] X.env)).any (·.1) = false := by exact star_any rfl)
    (s3 : starEach [.Call (.Name "set" p2) [e] [] pos2] X.env = (false, eval (.Call (.Name "set" p2) [e] [] pos2) X.env) :: starEach [] X.env := by exact star_cons rfl) (s4 : (backTo pos1 (starEach [] X.env)).any (·.1) = false := by exact star_any rfl) :
    EJ X (.Call (.Name "sorted" p1) [.Call (.Name "set" p2) [e] [] pos2] [] pos1) (dSortSetT g) :=
  ⟨PE.imp (pe_callB (call_sortS hc) hg1 hm1 hv1 (pa_cons (pe_callTy (call_setTp hc) hg2 hm2 hv2 (pa_cons he.h pa_nil s1) (by decide) (by decide) s1 s2) pa_nil s3) (by decide) (by decide) s3 s4) fun σ H Q ⟨L, S, k, hL, hS, h, n⟩ => up.go hL hS h fun d S1 v H1 h1 k1 hL1 hS1 i1 => by
    cases d with
    | tup ds =>
      obtain ⟨ns, rfl, hb, w⟩ := h1
      obtain ⟨a, vs, rfl, t, j⟩ := isTup.mp i1
      have e := isDs_intsM j
      subst e
      refine ⟨a, ns, rfl, t, hb, fun p hp => ⟨p, _, rfl, upd_same, fun q hq => ?_⟩⟩
      have hS2 := hS1.new (o := .ext (SeP (!X.w.params.followText "set-order") p (mskN ns))) hp
      exact n _ _ _ _ (w q (hS2.free hq)) ((k1.trans (Kp.new hp)).trans (Kp.new hq)) (hS2.newL hq ints_isDsM) (isRef.mpr rfl)
    | _ => exact (show False from h1).elim⟩
end DL
/-! ## the table of a set, as plain mathematics: where a probe goes -/
namespace ST
open PySem PySem.SetTable
/-- where the n-th look goes (no dummies) -/
def adv (mask : Nat) (p : Probe) : Probe :=
  if p.more > 0 then { p with j := p.j + 1, more := p.more - 1 } else { p with j := (leap mask p.i p.perturb).1, more := runEnd mask (leap mask p.i p.perturb).1 - (leap mask p.i p.perturb).1, i := (leap mask p.i p.perturb).1, perturb := (leap mask p.i p.perturb).2 }
theorem advance_eq (t : SetTable) (p : Probe) : t.advance p = adv t.mask p := by
  unfold SetTable.advance adv
  rfl
def at0 (mask i pt : Nat) : Probe := { j := i, more := runEnd mask i - i, i := i, perturb := pt, dummy := none }
def sq (mask : Nat) (h : Int) : Nat → Probe
  | 0 => at0 mask (bits h % (mask + 1)) (bits h)
  | n + 1 => adv mask (sq mask h n)
def lp (mask : Nat) (h : Int) : Nat → Nat × Nat
  | 0 => (bits h % (mask + 1), bits h)
  | n + 1 => leap mask (lp mask h n).1 (lp mask h n).2
theorem adv_run (mask : Nat) : ∀ (r : Nat) (p : Probe), p.more = r → ∃ q, q = Nat.rec (motive := fun _ => Probe) p (fun _ x => adv mask x) r ∧ q.more = 0 ∧ q.i = p.i ∧ q.perturb = p.perturb ∧ q.dummy = p.dummy
  | 0, p, h => ⟨p, rfl, h, rfl, rfl, rfl⟩
  | r + 1, p, h => by
    have key : ∀ (n : Nat) (x : Probe), Nat.rec (motive := fun _ => Probe) x (fun _ x => adv mask x) (n + 1) = Nat.rec (motive := fun _ => Probe) (adv mask x) (fun _ x => adv mask x) n := by
      intro n x
      induction n with
      | zero => rfl
      | succ n ih => exact congrArg (adv mask) ih
    have e : adv mask p = { p with j := p.j + 1, more := p.more - 1 } := by unfold adv; rw [if_pos (by omega)]
    obtain ⟨q, h1, h2, h3, h4, h5⟩ := adv_run mask r (adv mask p) (by rw [e]; show p.more - 1 = r; omega)
    exact ⟨q, by rw [h1, key], h2, by rw [h3, e], by rw [h4, e], by rw [h5, e]⟩
theorem run_le {mask i : Nat} : runEnd mask i - i ≤ 9 := by unfold runEnd; split <;> omega
theorem sq_add (mask : Nat) (h : Int) (m : Nat) : ∀ r, sq mask h (m + r) = Nat.rec (motive := fun _ => Probe) (sq mask h m) (fun _ x => adv mask x) r
  | 0 => rfl
  | r + 1 => congrArg (adv mask) (sq_add mask h m r)
/-- each leap is met within ten looks -/
theorem sq_leap (mask : Nat) (h : Int) : ∀ L, ∃ m, m ≤ 10 * L ∧ sq mask h m = at0 mask (lp mask h L).1 (lp mask h L).2
  | 0 => ⟨0, Nat.le_refl _, rfl⟩
  | L + 1 => by
    obtain ⟨m, hm, e⟩ := sq_leap mask h L
    obtain ⟨q, h1, h2, h3, h4, h5⟩ := adv_run mask _ (sq mask h m) rfl
    rw [← sq_add] at h1
    refine ⟨m + (sq mask h m).more + 1, ?_, ?_⟩
    · have : (sq mask h m).more ≤ 9 := by rw [e]; exact run_le
      omega
    · show adv mask (sq mask h (m + (sq mask h m).more)) = _
      rw [← h1]
      unfold adv
      rw [if_neg (by omega), h3, h4, e]
      have hd : q.dummy = none := by rw [h5, e]; rfl
      show (⟨_, _, _, _, q.dummy⟩ : Probe) = _
      rw [hd]
      rfl
theorem bits_lt (h : Int) : bits h < 2 ^ 64 := by
  unfold bits
  have h1 : h % (2 ^ 64 : Int) < 2 ^ 64 := Int.emod_lt_of_pos _ (by decide)
  have h0 : 0 ≤ h % (2 ^ 64 : Int) := Int.emod_nonneg _ (by decide)
  omega
theorem lp_pt (mask : Nat) (h : Int) : ∀ L, (lp mask h L).2 = bits h / 32 ^ L
  | 0 => by show bits h = _; simp
  | L + 1 => by
    show (lp mask h L).2 / 32 = _
    rw [lp_pt mask h L, Nat.div_div_eq_div_mul, Nat.pow_succ]
theorem lp_zero {mask : Nat} {h : Int} {L : Nat} (hL : 13 ≤ L) : (lp mask h L).2 = 0 := by
  rw [lp_pt]
  refine Nat.div_eq_of_lt (Nat.lt_of_lt_of_le (bits_lt h) ?_)
  exact Nat.le_trans (show 2 ^ 64 ≤ 32 ^ 13 by decide) (Nat.pow_le_pow_right (by decide) hL)
/-- the walk without a rest -/
def wk (mask i : Nat) : Nat → Nat
  | 0 => i
  | n + 1 => (wk mask i n * 5 + 1) % (mask + 1)
theorem lp_wk (mask : Nat) (h : Int) : ∀ n, (lp mask h (13 + n)).1 = wk mask (lp mask h 13).1 n
  | 0 => rfl
  | n + 1 => by
    show ((lp mask h (13 + n)).1 * 5 + 1 + (lp mask h (13 + n)).2 / 32) % (mask + 1) = _
    rw [lp_zero (by omega), lp_wk mask h n]
    rfl
theorem lp_lt (mask : Nat) (h : Int) : ∀ L, (lp mask h L).1 < mask + 1
  | 0 => Nat.mod_lt _ (by omega)
  | L + 1 => Nat.mod_lt _ (by omega)
theorem wk_add (mask i a : Nat) : ∀ n, wk mask (wk mask i a) n = wk mask i (a + n)
  | 0 => rfl
  | n + 1 => by
    show (wk mask (wk mask i a) n * 5 + 1) % (mask + 1) = (wk mask i (a + n) * 5 + 1) % (mask + 1)
    rw [wk_add mask i a n]
def orb (mask : Nat) : Nat → Nat → List Nat
  | 0, _ => []
  | n + 1, x => x :: orb mask n ((x * 5 + 1) % (mask + 1))
theorem orb_mem (mask e : Nat) : ∀ n a, e ∈ orb mask n (wk mask 0 a) → ∃ k, k < n ∧ wk mask 0 (a + k) = e
  | 0, _, h => by cases h
  | n + 1, a, h => by
    rcases List.mem_cons.mp h with h | h
    · exact ⟨0, by omega, h.symm⟩
    · obtain ⟨k, h1, h2⟩ := orb_mem mask e n (a + 1) h
      exact ⟨k + 1, by omega, by rw [← h2]; congr 1; omega⟩
/-- the sizes that a table has up to 76 elements -/
def Msk (mask : Nat) : Prop := mask = 7 ∨ mask = 31 ∨ mask = 127
def chk (mask : Nat) : Bool := ((List.range (mask + 1)).all fun e => (orb mask (mask + 1) 0).contains e) && (wk mask 0 (mask + 1) == 0)
theorem chk7 : chk 7 = true := by decide +kernel
theorem chk31 : chk 31 = true := by decide +kernel
theorem chk127 : chk 127 = true := by decide +kernel
theorem Msk.chk {mask : Nat} (h : Msk mask) : chk mask = true := by
  rcases h with rfl | rfl | rfl
  · exact chk7
  · exact chk31
  · exact chk127
theorem Msk.cov {mask e : Nat} (h : Msk mask) (he : e < mask + 1) : ∃ n, n < mask + 1 ∧ wk mask 0 n = e := by
  have c := h.chk
  unfold ST.chk at c
  simp only [Bool.and_eq_true, List.all_eq_true, List.mem_range] at c
  have := c.1 e he
  rw [List.contains_iff_mem] at this
  obtain ⟨k, h1, h2⟩ := orb_mem mask e (mask + 1) 0 this
  exact ⟨k, h1, by rw [← h2, Nat.zero_add]⟩
theorem Msk.per {mask : Nat} (h : Msk mask) : wk mask 0 (mask + 1) = 0 := by
  have c := h.chk
  unfold ST.chk at c
  simp only [Bool.and_eq_true, beq_iff_eq] at c
  exact c.2
theorem Msk.reach {mask i e : Nat} (h : Msk mask) (hi : i < mask + 1) (he : e < mask + 1) : ∃ n, n < mask + 1 ∧ wk mask i n = e := by
  obtain ⟨a, ha, ea⟩ := h.cov hi
  obtain ⟨b, hb, eb⟩ := h.cov he
  rw [← ea]
  by_cases hab : a ≤ b
  · exact ⟨b - a, by omega, by rw [wk_add, ← eb]; congr 1; omega⟩
  · refine ⟨mask + 1 + b - a, by omega, ?_⟩
    rw [wk_add, show a + (mask + 1 + b - a) = mask + 1 + b by omega, ← wk_add, h.per, eb]
/-- a slot that P does not hold is met -/
theorem Msk.first {mask : Nat} (h : Msk mask) (x : Int) (P : Nat → Prop) {e : Nat} (he : e < mask + 1) (hP : ¬ P e) : ∃ N, N ≤ 10 * (mask + 13) ∧ ¬ P (sq mask x N).j ∧ ∀ m, m < N → P (sq mask x m).j := by
  obtain ⟨n, hn, en⟩ := h.reach (lp_lt mask x 13) he
  obtain ⟨m, hm, em⟩ := sq_leap mask x (13 + n)
  have hj : (sq mask x m).j = e := by
    rw [em]
    show (lp mask x (13 + n)).1 = e
    rw [lp_wk, en]
  have least : ∀ n, ¬ P (sq mask x n).j → ∃ N, N ≤ n ∧ ¬ P (sq mask x N).j ∧ ∀ m, m < N → P (sq mask x m).j := by
    intro n
    induction n using Nat.strongRecOn with
    | ind n ih =>
      intro hn
      by_cases hh : ∃ k, k < n ∧ ¬ P (sq mask x k).j
      · obtain ⟨k, h1, h2⟩ := hh
        obtain ⟨N, g1, g2, g3⟩ := ih k h1 h2
        exact ⟨N, by omega, g2, g3⟩
      · exact ⟨n, Nat.le_refl _, hn, fun m hm => Classical.byContradiction fun z => hh ⟨m, hm, z⟩⟩
  obtain ⟨N, g1, g2, g3⟩ := least m (by rw [hj]; exact hP)
  exact ⟨N, by omega, g2, g3⟩
/-! ### the places, in order -/
theorem sq_dummy (mask : Nat) (h : Int) : ∀ n, (sq mask h n).dummy = none
  | 0 => rfl
  | n + 1 => by
    show (adv mask (sq mask h n)).dummy = none
    unfold adv
    split <;> exact sq_dummy mask h n
theorem sq_lt {mask : Nat} (h : Int) : ∀ n, (sq mask h n).j + (sq mask h n).more < mask + 1 ∧ True
  | 0 => by
    refine ⟨?_, trivial⟩
    show bits h % (mask + 1) + (runEnd mask (bits h % (mask + 1)) - bits h % (mask + 1)) < mask + 1
    have : bits h % (mask + 1) < mask + 1 := Nat.mod_lt _ (by omega)
    unfold runEnd
    split <;> omega
  | n + 1 => by
    refine ⟨?_, trivial⟩
    have ih := (sq_lt (mask := mask) h n).1
    show (adv mask (sq mask h n)).j + (adv mask (sq mask h n)).more < mask + 1
    unfold adv
    split
    · show (sq mask h n).j + 1 + ((sq mask h n).more - 1) < mask + 1
      omega
    · show (leap mask (sq mask h n).i (sq mask h n).perturb).1 + (runEnd mask (leap mask (sq mask h n).i (sq mask h n).perturb).1 - (leap mask (sq mask h n).i (sq mask h n).perturb).1) < mask + 1
      have : (leap mask (sq mask h n).i (sq mask h n).perturb).1 < mask + 1 := Nat.mod_lt _ (by omega)
      unfold runEnd
      split <;> omega
theorem sq_j {mask : Nat} (h : Int) (n : Nat) : (sq mask h n).j < mask + 1 := by have := (sq_lt (mask := mask) h n).1; omega
/-- strictly rising -/
def Ris (xs : Array Nat) : Prop := ∀ i j : Nat, i < j → ∀ a b : Nat, xs[i]? = some a → xs[j]? = some b → a < b
theorem below_go {xs : Array Nat} (hr : Ris xs) (j : Nat) : ∀ (f lo hi : Nat), lo ≤ hi → hi ≤ xs.size → hi - lo ≤ f → (∀ k a, k < lo → xs[k]? = some a → a < j) → (∀ k a, hi ≤ k → xs[k]? = some a → j ≤ a) →
    below.go xs j f lo hi ≤ xs.size ∧ (∀ k a, k < below.go xs j f lo hi → xs[k]? = some a → a < j) ∧ ∀ k a, below.go xs j f lo hi ≤ k → xs[k]? = some a → j ≤ a
  | 0, lo, hi, h1, h2, h3, h4, h5 => by
    have : lo = hi := by omega
    subst this
    unfold below.go
    exact ⟨h2, h4, h5⟩
  | f + 1, lo, hi, h1, h2, h3, h4, h5 => by
    unfold below.go
    by_cases hl : lo < hi
    · rw [if_pos hl]
      have hm : (lo + hi) / 2 < xs.size := by omega
      have eg : xs[(lo + hi) / 2]? = some xs[(lo + hi) / 2] := by simp [hm]
      have ed : xs.getD ((lo + hi) / 2) j = xs[(lo + hi) / 2] := by simp [Array.getD, hm]
      dsimp only
      rw [ed]
      by_cases hc : xs[(lo + hi) / 2] < j
      · rw [if_pos hc]
        refine below_go hr j f _ hi (by omega) h2 (by omega) (fun k a hk e => ?_) h5
        by_cases hk2 : k = (lo + hi) / 2
        · subst hk2
          rw [eg] at e
          cases e
          exact hc
        · exact Nat.lt_trans (hr k ((lo + hi) / 2) (by omega) _ _ e eg) hc
      · rw [if_neg hc]
        refine below_go hr j f lo _ (by omega) (by omega) (by omega) h4 fun k a hk e => ?_
        by_cases hk2 : k = (lo + hi) / 2
        · subst hk2
          rw [eg] at e
          cases e
          omega
        · have := hr ((lo + hi) / 2) k (by omega) _ _ eg e
          omega
    · rw [if_neg hl]
      have : lo = hi := by omega
      subst this
      exact ⟨h2, h4, h5⟩
theorem below_ok {xs : Array Nat} (hr : Ris xs) (j : Nat) : below xs j ≤ xs.size ∧ (∀ k a, k < below xs j → xs[k]? = some a → a < j) ∧ ∀ k a, below xs j ≤ k → xs[k]? = some a → j ≤ a :=
  below_go hr j xs.size 0 xs.size (by omega) (Nat.le_refl _) (by omega) (fun _ _ h => by omega) (fun k a hk e => by
    have := (Array.getElem?_eq_some_iff.mp e).1
    omega)
theorem below_at {xs : Array Nat} (hr : Ris xs) {i j : Nat} (h : xs[i]? = some j) : below xs j = i := by
  obtain ⟨h1, h2, h3⟩ := below_ok hr j
  rcases Nat.lt_trichotomy (below xs j) i with z | z | z
  · have hb : below xs j < xs.size := by
      have := (Array.getElem?_eq_some_iff.mp h).1
      omega
    have e : xs[below xs j]? = some xs[below xs j] := by simp [hb]
    have g1 := h3 _ _ (Nat.le_refl _) e
    have g2 := hr _ _ z _ _ e h
    omega
  · exact z
  · have := h2 _ _ z h
    omega
/-- a table without dummies -/
theorem slot_live {t : SetTable} (hr : Ris t.place) {i j : Nat} (h : t.place[i]? = some j) : t.slot j = .live i := by
  unfold SetTable.slot
  rw [below_at hr h]
  dsimp only
  rw [h]
  simp
theorem slot_empty {t : SetTable} (hd : t.dummies = #[]) {j : Nat} (h : ∀ i : Nat, t.place[i]? ≠ some j) : t.slot j = .empty := by
  unfold SetTable.slot
  dsimp only
  rw [if_neg (by simpa using h (below t.place j)), hd]
  simp [has]
def On (t : SetTable) (j : Nat) : Prop := ∃ i : Nat, t.place[i]? = some j
/-- what a probe meets -/
theorem probe_go {t : SetTable} (hd : t.dummies = #[]) (hr : Ris t.place) {ha : Nat → Int} {h : Int} {N : Nat} (hN : ¬ On t (sq t.mask h N).j) (hlt : ∀ m, m < N → On t (sq t.mask h m).j) :
    ∀ (f m : Nat), m ≤ N → N - m < f → (∃ m' i : Nat, m ≤ m' ∧ m' < N ∧ t.place[i]? = some (sq t.mask h m').j ∧ ha i = h ∧ (∀ k i' : Nat, m ≤ k → k < m' → t.place[i']? = some (sq t.mask h k).j → ha i' ≠ h) ∧ SetTable.probe.go t ha h f (sq t.mask h m) = some (.candidate (sq t.mask h m').j i (sq t.mask h (m' + 1)))) ∨
      ((∀ k i' : Nat, m ≤ k → k < N → t.place[i']? = some (sq t.mask h k).j → ha i' ≠ h) ∧ SetTable.probe.go t ha h f (sq t.mask h m) = some (.empty (sq t.mask h N).j none))
  | 0, m, _, hf => by omega
  | f + 1, m, hm, hf => by
    unfold SetTable.probe.go
    by_cases hmN : m = N
    · subst hmN
      right
      rw [slot_empty hd fun i e => hN ⟨i, e⟩]
      refine ⟨fun k i' h1 h2 => by omega, ?_⟩
      dsimp only
      rw [sq_dummy]
    · obtain ⟨i, hi⟩ := hlt m (by omega)
      rw [slot_live hr hi]
      dsimp only
      by_cases hh : ha i = h
      · left
        refine ⟨m, i, Nat.le_refl _, by omega, hi, hh, fun k i' h1 h2 => by omega, ?_⟩
        rw [if_pos (by simpa using hh), advance_eq]
        rfl
      · rw [if_neg (by simpa using hh), advance_eq]
        have only : ∀ i', t.place[i']? = some (sq t.mask h m).j → ha i' ≠ h := fun i' e => by
          have e1 := below_at hr e
          have e2 := below_at hr hi
          rw [← e1, e2]
          exact hh
        rcases probe_go hd hr hN hlt f (m + 1) (by omega) (by omega) with ⟨m', i2, h1, h2, h3, h4, h5, h6⟩ | ⟨h5, h6⟩
        · refine .inl ⟨m', i2, by omega, h2, h3, h4, fun k i' g1 g2 g3 => ?_, h6⟩
          by_cases hk : k = m
          · subst hk
            exact only i' g3
          · exact h5 k i' (by omega) g2 g3
        · refine .inr ⟨fun k i' g1 g2 g3 => ?_, h6⟩
          by_cases hk : k = m
          · subst hk
            exact only i' g3
          · exact h5 k i' (by omega) g2 g3
end ST
/-! ## the table of a set: what holds of it -/
namespace ST
open PySem PySem.SetTable
/-- each element lies on the way of its hash, behind full slots only -/
def Way (t : SetTable) (h : Int) (j : Nat) : Prop := ∃ n, (sq t.mask h n).j = j ∧ ∀ m, m < n → On t (sq t.mask h m).j
structure TI (t : SetTable) (hs : List Int) : Prop where
  dm : t.dummies = #[]
  ris : Ris t.place
  sz : t.place.size = hs.length
  le : ∀ j, On t j → j < t.mask + 1
  msk : Msk t.mask
  way : ∀ q ∈ t.place.toList.zip hs, Way t q.2 q.1
/-- a rising list that holds all below n is long -/
theorem full_len {xs : Array Nat} (hr : Ris xs) : ∀ n, (∀ e, e < n → ∃ i : Nat, xs[i]? = some e) → ∀ i : Nat, xs[i]? = some n → n ≤ i
  | 0, _, _, _ => Nat.zero_le _
  | n + 1, h, i, hi => by
    obtain ⟨k, hk⟩ := h n (by omega)
    have h1 := full_len hr n (fun e he => h e (by omega)) k hk
    rcases Nat.lt_trichotomy k i with z | z | z
    · omega
    · subst z
      rw [hk] at hi
      cases hi
    · have := hr i k z _ _ hi hk
      omega
theorem TI.gap {t : SetTable} {hs : List Int} (T : TI t hs) (hl : hs.length ≤ t.mask) : ∃ e, e < t.mask + 1 ∧ ¬ On t e := by
  apply Classical.byContradiction
  intro z
  have all : ∀ e, e < t.mask + 1 → ∃ i : Nat, t.place[i]? = some e := fun e he => Classical.byContradiction fun y => z ⟨e, he, y⟩
  obtain ⟨i, hi⟩ := all t.mask (by omega)
  have h1 := full_len T.ris t.mask (fun e he => all e (by omega)) i hi
  have h2 := (Array.getElem?_eq_some_iff.mp hi).1
  have h3 := T.sz
  omega
/-- where the way of a hash ends -/
theorem TI.ends {t : SetTable} {hs : List Int} (T : TI t hs) (hl : hs.length ≤ t.mask) (h : Int) : ∃ N, N ≤ 10 * (t.mask + 13) ∧ ¬ On t (sq t.mask h N).j ∧ ∀ m, m < N → On t (sq t.mask h m).j := by
  obtain ⟨e, he, hn⟩ := T.gap hl
  exact T.msk.first h (On t) he hn
theorem TI.fits {t : SetTable} {hs : List Int} (T : TI t hs) (hl : hs.length ≤ t.mask) : t.fits hs.length = true := by
  unfold SetTable.fits SetTable.fill
  rw [T.sz, T.dm]
  simp [hl]
theorem TI.odd {t : SetTable} {hs : List Int} (T : TI t hs) : t.gaveWay = false := by
  unfold SetTable.gaveWay
  rcases T.msk with h | h | h <;> rw [h] <;> rfl
/-- an element of the hash is met before the way ends -/
theorem TI.met {t : SetTable} {hs : List Int} (T : TI t hs) {h : Int} {N i j : Nat} (hN : ¬ On t (sq t.mask h N).j) (hh : hs[i]? = some h) (hj : t.place[i]? = some j) : ∃ m, m < N ∧ (sq t.mask h m).j = j := by
  have hm : (j, h) ∈ t.place.toList.zip hs := by
    refine List.mem_iff_getElem?.mpr ⟨i, ?_⟩
    rw [List.getElem?_zip_eq_some]
    exact ⟨by simpa using hj, hh⟩
  obtain ⟨n, h1, h2⟩ := T.way _ hm
  refine ⟨n, ?_, h1⟩
  rcases Nat.lt_trichotomy n N with z | z | z
  · exact z
  · subst z
    exact absurd ⟨i, by rw [h1]; exact hj⟩ hN
  · exact absurd (h2 N z) hN
theorem Way.mono {t t' : SetTable} {h : Int} {j : Nat} (w : Way t h j) (hm : t'.mask = t.mask) (ho : ∀ j, On t j → On t' j) : Way t' h j := by
  obtain ⟨n, h1, h2⟩ := w
  exact ⟨n, by rw [hm]; exact h1, fun m hmn => by rw [hm]; exact ho _ (h2 m hmn)⟩
theorem on_iff {t : SetTable} {j : Nat} : On t j ↔ j ∈ t.place.toList := by
  unfold On
  rw [List.mem_iff_getElem?]
  simp
theorem put_dm {t : SetTable} (hd : t.dummies = #[]) (j : Nat) : (t.put j).1.dummies = #[] := by
  unfold SetTable.put
  dsimp only
  rw [hd, if_neg (by simp [has])]
theorem put_place (t : SetTable) (j : Nat) : (t.put j).1.place.toList = t.place.toList.take (t.put j).2 ++ j :: t.place.toList.drop (t.put j).2 := by
  unfold SetTable.put
  exact SetTable.toList_insertAt _ _ _
theorem put_le (t : SetTable) (hr : Ris t.place) (j : Nat) : (t.put j).2 ≤ t.place.size := (below_ok hr j).1
theorem ris_iff {xs : Array Nat} : Ris xs ↔ xs.toList.Pairwise (· < ·) := by
  rw [List.pairwise_iff_getElem]
  constructor
  · intro h i j hi hj hij
    exact h i j hij _ _ (by simp at hi ⊢) (by simp at hj ⊢)
  · intro h i j hij a b ha hb
    obtain ⟨h1, h2⟩ := Array.getElem?_eq_some_iff.mp ha
    obtain ⟨h3, h4⟩ := Array.getElem?_eq_some_iff.mp hb
    have := h i j (by simpa using h1) (by simpa using h3) hij
    simp at this
    omega
theorem put_ris {t : SetTable} (hr : Ris t.place) {j : Nat} (hn : ¬ On t j) : Ris (t.put j).1.place := by
  rw [ris_iff, put_place, List.pairwise_append, List.pairwise_cons]
  have hp := ris_iff.mp hr
  obtain ⟨_, h2, h3⟩ := below_ok hr j
  have e : (t.put j).2 = below t.place j := rfl
  have lo : ∀ a ∈ t.place.toList.take (t.put j).2, a < j := fun a ha => by
    obtain ⟨k, hk⟩ := List.mem_iff_getElem?.mp ha
    rw [List.getElem?_take] at hk
    split at hk
    · exact h2 k a (by omega) (by simpa using hk)
    · cases hk
  have hi : ∀ a ∈ t.place.toList.drop (t.put j).2, j < a := fun a ha => by
    obtain ⟨k, hk⟩ := List.mem_iff_getElem?.mp ha
    rw [List.getElem?_drop] at hk
    have h4 := h3 ((t.put j).2 + k) a (by rw [e]; omega) (by simpa using hk)
    have h5 : a ≠ j := fun z => hn ⟨(t.put j).2 + k, by have y := hk; rw [z] at y; simpa using y⟩
    omega
  refine ⟨hp.sublist (List.take_sublist _ _), ⟨hi, hp.sublist (List.drop_sublist _ _)⟩, fun a ha b hb => ?_⟩
  rcases List.mem_cons.mp hb with rfl | hb
  · exact lo a ha
  · exact Nat.lt_trans (lo a ha) (hi b hb)
theorem put_on {t : SetTable} {j k : Nat} : On (t.put j).1 k ↔ k = j ∨ On t k := by
  rw [on_iff, on_iff, put_place, List.mem_append, List.mem_cons]
  constructor
  · rintro (h | h | h)
    · exact .inr (List.mem_of_mem_take h)
    · exact .inl h
    · exact .inr (List.mem_of_mem_drop h)
  · rintro (h | h)
    · exact .inr (.inl h)
    · rw [← List.take_append_drop (t.put j).2 t.place.toList] at h
      rcases List.mem_append.mp h with h | h
      · exact .inl h
      · exact .inr (.inr h)
/-- a new element at the end of its way -/
theorem tz {α β : Type} (a : List α) (b : List β) (p : Nat) : (a.take p).zip (b.take p) = (a.zip b).take p := by unfold List.zip; rw [List.take_zipWith]
theorem dz {α β : Type} (a : List α) (b : List β) (p : Nat) : (a.drop p).zip (b.drop p) = (a.zip b).drop p := by unfold List.zip; rw [List.drop_zipWith]
theorem TI.put {t : SetTable} {hs : List Int} (T : TI t hs) {h : Int} {N : Nat} (hN : ¬ On t (sq t.mask h N).j) (hl : ∀ m, m < N → On t (sq t.mask h m).j) :
    TI (t.put (sq t.mask h N).j).1 (hs.take (t.put (sq t.mask h N).j).2 ++ h :: hs.drop (t.put (sq t.mask h N).j).2) := by
  have hp := put_le t T.ris (sq t.mask h N).j
  have hs' := T.sz
  have mo : ∀ k, On t k → On (t.put (sq t.mask h N).j).1 k := fun k hk => put_on.mpr (.inr hk)
  refine ⟨put_dm T.dm _, put_ris T.ris hN, ?_, fun k hk => ?_, T.msk, ?_⟩
  · have e := congrArg List.length (put_place t (sq t.mask h N).j)
    simp only [Array.length_toList, List.length_append, List.length_take, List.length_cons, List.length_drop] at e ⊢
    omega
  · rcases put_on.mp hk with rfl | hk
    · exact sq_j h N
    · exact T.le k hk
  · rw [put_place, List.zip_append (by rw [List.length_take, List.length_take, Array.length_toList, hs'])]
    intro q hq
    have old : ∀ q ∈ t.place.toList.zip hs, Way (t.put (sq t.mask h N).j).1 q.2 q.1 := fun q hq => (T.way q hq).mono rfl mo
    rcases List.mem_append.mp hq with hq | hq
    · rw [tz] at hq
      exact old q (List.mem_of_mem_take hq)
    · rw [List.zip_cons_cons] at hq
      rcases List.mem_cons.mp hq with rfl | hq
      · exact ⟨N, rfl, fun m hm => mo _ (hl m hm)⟩
      · rw [dz] at hq
        exact old q (List.mem_of_mem_drop hq)
theorem TI.fresh (f m : Nat) (led : Bool) : TI (SetTable.fresh f m led) [] := ⟨rfl, fun i j _ a b h => by simp [SetTable.fresh] at h, rfl, fun j ⟨i, h⟩ => by simp [SetTable.fresh] at h, .inl rfl, fun q hq => by simp at hq⟩
end ST
/-! ## the table of a set, laid anew -/
namespace ST
open PySem PySem.SetTable
theorem run_j {mask : Nat} {h : Int} {m i pt : Nat} (e : sq mask h m = at0 mask i pt) : ∀ k, k ≤ runEnd mask i - i → sq mask h (m + k) = { j := i + k, more := runEnd mask i - i - k, i := i, perturb := pt, dummy := none }
  | 0, _ => e
  | k + 1, hk => by
    show adv mask (sq mask h (m + k)) = _
    rw [run_j e k (by omega)]
    unfold adv
    rw [if_pos (by show runEnd mask i - i - k > 0; omega)]
    rfl
theorem run_next {mask : Nat} {h : Int} {m i pt : Nat} (e : sq mask h m = at0 mask i pt) : sq mask h (m + (runEnd mask i - i) + 1) = at0 mask (leap mask i pt).1 (leap mask i pt).2 := by
  show adv mask (sq mask h (m + (runEnd mask i - i))) = _
  rw [run_j e _ (Nat.le_refl _)]
  unfold adv
  rw [if_neg (by show ¬ runEnd mask i - i - (runEnd mask i - i) > 0; omega)]
  rfl
theorem run_ge {mask i : Nat} : i ≤ runEnd mask i := by unfold runEnd; split <;> omega
def Occ (owner : Array (Option Nat)) (j : Nat) : Prop := (owner.getD j (some 0)).isNone = false
theorem find_first {p : Nat → Bool} {n : Nat} : (∃ k, (List.range n).find? p = some k ∧ k < n ∧ p k = true ∧ ∀ k', k' < k → p k' = false) ∨ ((List.range n).find? p = none ∧ ∀ k, k < n → p k = false) := by
  induction n with
  | zero => exact .inr ⟨rfl, fun k h => by omega⟩
  | succ n ih =>
    rw [List.range_succ, List.find?_append]
    rcases ih with ⟨k, h1, h2, h3, h4⟩ | ⟨h1, h2⟩
    · rw [h1]
      exact .inl ⟨k, rfl, by omega, h3, h4⟩
    · rw [h1]
      by_cases hp : p n = true
      · exact .inl ⟨n, by simp [hp], by omega, hp, h2⟩
      · refine .inr ⟨by simp [hp], fun k hk => ?_⟩
        by_cases hkn : k = n
        · subst hkn
          simpa using hp
        · exact h2 k (by omega)
theorem free_ok {mask : Nat} {owner : Array (Option Nat)} {h : Int} {N : Nat} (hN : ¬ Occ owner (sq mask h N).j) (hl : ∀ m, m < N → Occ owner (sq mask h m).j) :
    ∀ (f L m : Nat), sq mask h m = at0 mask (lp mask h L).1 (lp mask h L).2 → m ≤ N → (∃ L', L ≤ L' ∧ L' < L + f ∧ ¬ Occ owner (lp mask h L').1) → layClean.free mask owner f (lp mask h L).1 (lp mask h L).2 = some (sq mask h N).j
  | 0, L, m, _, _, ⟨L', h1, h2, _⟩ => by omega
  | f + 1, L, m, e, hm, ⟨L', h1, h2, h3⟩ => by
    unfold layClean.free
    have rg := run_ge (mask := mask) (i := (lp mask h L).1)
    have oc : ∀ k, k < runEnd mask (lp mask h L).1 + 1 - (lp mask h L).1 → ((owner.getD ((lp mask h L).1 + k) (some 0)).isNone = false ↔ Occ owner (sq mask h (m + k)).j) := fun k hk => by
      rw [run_j e k (by omega)]
      exact Iff.rfl
    rcases find_first (p := fun k => (owner.getD ((lp mask h L).1 + k) (some 0)).isNone) (n := runEnd mask (lp mask h L).1 + 1 - (lp mask h L).1) with ⟨k, g1, g2, g3, g4⟩ | ⟨g1, g2⟩
    · rw [g1]
      have no : ¬ Occ owner (sq mask h (m + k)).j := fun z => by
        have := (oc k g2).mpr z
        rw [this] at g3
        cases g3
      have a1 : ¬ m + k < N := fun z => no (hl _ z)
      have a2 : ¬ N < m + k := fun z => hN (by
        have := (oc (N - m) (by omega)).mp (g4 (N - m) (by omega))
        rw [show m + (N - m) = N by omega] at this
        exact this)
      have : N = m + k := by omega
      rw [this, run_j e k (by omega)]
    · rw [g1]
      have all : ∀ k, k < runEnd mask (lp mask h L).1 + 1 - (lp mask h L).1 → Occ owner (sq mask h (m + k)).j := fun k hk => (oc k hk).mp (g2 k hk)
      have a1 : m + (runEnd mask (lp mask h L).1 - (lp mask h L).1) < N := by
        apply Classical.byContradiction
        intro z
        refine hN ?_
        have := all (N - m) (by omega)
        rw [show m + (N - m) = N by omega] at this
        exact this
      have a2 : L' ≠ L := fun z => by
        subst z
        have := (oc 0 (by omega)).mpr (all 0 (by omega))
        exact h3 this
      exact free_ok hN hl f (L + 1) _ (run_next e) (by omega) ⟨L', by omega, by omega, h3⟩
theorem occ_def {owner : Array (Option Nat)} {j : Nat} (hj : j < owner.size) : Occ owner j ↔ ∃ k, owner[j]? = some (some k) := by
  unfold Occ
  rw [show owner.getD j (some 0) = owner[j] by simp [Array.getD, hj]]
  have e : owner[j]? = some owner[j] := by simp [hj]
  rw [e]
  cases owner[j] with
  | none => simp
  | some k => simp
/-- what the owners hold after k hashes -/
structure OI (mask : Nat) (owner : Array (Option Nat)) (hs : List Int) : Prop where
  sz : owner.size = mask + 1
  lt : ∀ (j k : Nat), owner[j]? = some (some k) → k < hs.length
  at' : ∀ k, k < hs.length → ∃ j : Nat, owner[j]? = some (some k)
  way : ∀ (j k : Nat) (h : Int), owner[j]? = some (some k) → hs[k]? = some h → ∃ n, (sq mask h n).j = j ∧ ∀ m, m < n → Occ owner (sq mask h m).j
  cnt : ((List.range (mask + 1)).filterMap fun j => owner.getD j none).length = hs.length
theorem OI.zero (mask : Nat) : OI mask (Array.replicate (mask + 1) none) [] := by
  refine ⟨by simp, fun j k h => ?_, fun k h => by simp at h, fun j k h e => ?_, ?_⟩
  · rw [Array.getElem?_replicate] at h
    split at h <;> simp at h
  · rw [Array.getElem?_replicate] at e
    split at e <;> simp at e
  · simp only [List.length_nil, List.length_eq_zero_iff, List.filterMap_eq_nil_iff]
    intro j hj
    simp [Array.getD]
theorem cnt_set {mask : Nat} {o o' : Nat → Option Nat} {j0 v : Nat} (hj : o j0 = none) (h1 : o' j0 = some v) (h2 : ∀ j, j ≠ j0 → o' j = o j) : ∀ n, ((List.range n).filterMap o').length = ((List.range n).filterMap o).length + if j0 < n then 1 else 0
  | 0 => by simp
  | n + 1 => by
    rw [List.range_succ, List.filterMap_append, List.filterMap_append, List.length_append, List.length_append, cnt_set (mask := mask) hj h1 h2 n]
    by_cases hn : n = j0
    · subst hn
      simp [hj, h1]
    · have : (List.filterMap o' [n]).length = (List.filterMap o [n]).length := by simp [List.filterMap, h2 n hn]
      rw [this]
      by_cases hl : j0 < n
      · rw [if_pos hl, if_pos (by omega)]; omega
      · rw [if_neg hl, if_neg (by omega)]; omega
/-- a slot is free as long as there are fewer hashes than slots -/
theorem OI.gap {mask : Nat} {owner : Array (Option Nat)} {hs : List Int} (O : OI mask owner hs) (hl : hs.length ≤ mask) : ∃ e, e < mask + 1 ∧ ¬ Occ owner e := by
  apply Classical.byContradiction
  intro z
  have all : ∀ e, e < mask + 1 → ∃ k, owner.getD e none = some k := fun e he => by
    have : Occ owner e := Classical.byContradiction fun y => z ⟨e, he, y⟩
    have hb : e < owner.size := by rw [O.sz]; exact he
    obtain ⟨k, hk⟩ := (occ_def hb).mp this
    refine ⟨k, ?_⟩
    have e1 : owner[e]? = some owner[e] := by simp [hb]
    rw [e1] at hk
    simp [Array.getD, hb]
    exact Option.some.inj hk
  have len : ∀ n, n ≤ mask + 1 → ((List.range n).filterMap fun j => owner.getD j none).length = n := by
    intro n
    induction n with
    | zero => intro _; rfl
    | succ n ih =>
      intro hn
      obtain ⟨k, hk⟩ := all n (by omega)
      rw [List.range_succ, List.filterMap_append, List.length_append, ih (by omega)]
      simp [List.filterMap, hk]
  have := len (mask + 1) (Nat.le_refl _)
  rw [O.cnt] at this
  omega
end ST
/-! ## the table of a set, laid anew: the whole -/
namespace ST
open PySem PySem.SetTable
theorem set_get {o : Array (Option Nat)} {j0 : Nat} {v : Option Nat} (hj : j0 < o.size) (j : Nat) : (o.setIfInBounds j0 v)[j]? = if j = j0 then some v else o[j]? := by
  rw [Array.getElem?_setIfInBounds]
  by_cases h : j0 = j
  · subst h
    simp [hj]
  · rw [if_neg h, if_neg (fun z => h z.symm)]
theorem OI.step {mask : Nat} {owner : Array (Option Nat)} {hs : List Int} (M : Msk mask) (O : OI mask owner hs) (hl : hs.length ≤ mask) (h : Int) :
    ∃ j, layClean.free mask owner (turns mask) (bits h % (mask + 1)) (bits h) = some j ∧ OI mask (owner.setIfInBounds j (some hs.length)) (hs ++ [h]) := by
  obtain ⟨e, he, hn⟩ := O.gap hl
  obtain ⟨N, _, hN, hlt⟩ := M.first h (Occ owner) he hn
  obtain ⟨n, hn2, en⟩ := M.reach (lp_lt mask h 13) he
  have fr := free_ok hN hlt (turns mask) 0 0 rfl (Nat.zero_le _) ⟨13 + n, by omega, by unfold turns; omega, by rw [lp_wk, en]; exact hn⟩
  have hb : (sq mask h N).j < owner.size := by rw [O.sz]; exact sq_j h N
  have hnone : owner[(sq mask h N).j]? = some none := by
    have e1 : owner[(sq mask h N).j]? = some owner[(sq mask h N).j] := by simp [hb]
    rw [e1]
    cases hc : owner[(sq mask h N).j] with
    | none => rfl
    | some k => exact absurd ((occ_def hb).mpr ⟨k, by rw [e1, hc]⟩) hN
  refine ⟨_, fr, ?_⟩
  generalize hj0 : (sq mask h N).j = j0 at *
  have hsz : (owner.setIfInBounds j0 (some hs.length)).size = mask + 1 := by rw [Array.size_setIfInBounds]; exact O.sz
  have occ : ∀ j, Occ owner j → Occ (owner.setIfInBounds j0 (some hs.length)) j := fun j hj => by
    by_cases hjs : j < owner.size
    · refine (occ_def (by rw [Array.size_setIfInBounds]; exact hjs)).mpr ?_
      rw [set_get hb]
      by_cases z : j = j0
      · exact ⟨hs.length, by rw [if_pos z]⟩
      · rw [if_neg z]
        exact (occ_def hjs).mp hj
    · unfold Occ
      simp [Array.getD, hjs]
  refine ⟨hsz, fun j k hk => ?_, fun k hk => ?_, fun j k x hk hx => ?_, ?_⟩
  · rw [set_get hb] at hk
    rw [List.length_append]
    by_cases z : j = j0
    · rw [if_pos z] at hk
      have : k = hs.length := by injection hk with hk; injection hk with hk; exact hk.symm
      show k < hs.length + 1
      omega
    · rw [if_neg z] at hk
      have := O.lt j k hk
      show k < hs.length + 1
      omega
  · rw [List.length_append] at hk
    have hk : k < hs.length + 1 := hk
    by_cases z : k = hs.length
    · exact ⟨j0, by rw [set_get hb, if_pos rfl, z]⟩
    · obtain ⟨j, hj⟩ := O.at' k (by omega)
      refine ⟨j, ?_⟩
      rw [set_get hb, if_neg]
      · exact hj
      · intro y
        subst y
        rw [hnone] at hj
        cases hj
  · rw [set_get hb] at hk
    by_cases z : j = j0
    · rw [if_pos z] at hk
      have : k = hs.length := by injection hk with hk; injection hk with hk; exact hk.symm
      subst this
      rw [List.getElem?_append_right (Nat.le_refl _)] at hx
      simp at hx
      subst hx
      exact ⟨N, by rw [hj0, z], fun m hm => occ _ (hlt m hm)⟩
    · rw [if_neg z] at hk
      have hk2 := O.lt j k hk
      rw [List.getElem?_append_left hk2] at hx
      obtain ⟨n, h1, h2⟩ := O.way j k x hk hx
      exact ⟨n, h1, fun m hm => occ _ (h2 m hm)⟩
  · have gd : ∀ (o : Array (Option Nat)) (j : Nat), o.getD j none = (o[j]?).getD none := fun o j => by simp [Array.getD_eq_getD_getElem?]
    rw [cnt_set (mask := mask) (o := fun j => owner.getD j none) (j0 := j0) (v := hs.length) (by show owner.getD j0 none = none; rw [gd, hnone]; rfl) (by show (owner.setIfInBounds j0 (some hs.length)).getD j0 none = _; rw [gd, set_get hb, if_pos rfl]; rfl) (fun j hj => by show (owner.setIfInBounds j0 (some hs.length)).getD j none = owner.getD j none; rw [gd, gd, set_get hb, if_neg hj]), O.cnt, if_pos (by rw [← O.sz]; exact hb), List.length_append]
    rfl
def layStep (mask : Nat) (acc : Option (Array (Option Nat) × Nat)) (h : Int) : Option (Array (Option Nat) × Nat) := do
  let (owner, k) ← acc
  let j ← layClean.free mask owner (turns mask) (bits h % (mask + 1)) (bits h)
  pure (owner.setIfInBounds j (some k), k + 1)
theorem lay_fold {mask : Nat} (M : Msk mask) : ∀ (l : List Int) (hs : List Int) (owner : Array (Option Nat)), OI mask owner hs → hs.length + l.length ≤ mask + 1 → ∃ owner', l.foldl (layStep mask) (some (owner, hs.length)) = some (owner', (hs ++ l).length) ∧ OI mask owner' (hs ++ l)
  | [], hs, owner, O, _ => ⟨owner, by simp, by simpa using O⟩
  | h :: l, hs, owner, O, hl => by
    have hl : hs.length + (l.length + 1) ≤ mask + 1 := hl
    obtain ⟨j, h1, h2⟩ := O.step M (by omega) h
    obtain ⟨owner', g1, g2⟩ := lay_fold M l (hs ++ [h]) _ h2 (by rw [List.length_append]; show hs.length + 1 + l.length ≤ mask + 1; omega)
    refine ⟨owner', ?_, by rw [List.append_assoc] at g2; exact g2⟩
    rw [List.foldl_cons]
    have : layStep mask (some (owner, hs.length)) h = some (owner.setIfInBounds j (some hs.length), (hs ++ [h]).length) := by
      unfold layStep
      simp [h1]
    rw [this, g1, List.append_assoc]
    rfl
theorem lay_clean {mask : Nat} (M : Msk mask) (hashes : Array Int) (hl : hashes.size ≤ mask + 1) : ∃ owner, layClean mask hashes = some owner ∧ OI mask owner hashes.toList := by
  obtain ⟨owner, h1, h2⟩ := lay_fold M hashes.toList [] _ (OI.zero mask) (by simpa using hl)
  refine ⟨owner, ?_, by simpa using h2⟩
  unfold layClean
  rw [← Array.foldl_toList]
  have : (hashes.toList.foldl (layStep mask) (some (Array.replicate (mask + 1) none, 0))) = some (owner, ([] ++ hashes.toList).length) := h1
  show Option.map (·.1) (hashes.toList.foldl (layStep mask) (some (Array.replicate (mask + 1) none, 0))) = some owner
  rw [this]
  rfl
end ST
/-! ## the table of a set, laid anew: it is a table again -/
namespace ST
open PySem PySem.SetTable
theorem laid_ok {mask : Nat} (M : Msk mask) (finger moves : Nat) (led plain : Bool) (hashes : Array Int) (hl : hashes.size ≤ mask + 1) :
    ∃ t order, laid mask finger moves led plain hashes = some (t, order) ∧ TI t (order.toList.map fun k => hashes.toList.getD k 0) ∧ t.mask = mask ∧ t.led = led ∧ t.moves = moves ∧ t.plain = plain ∧ order.size = hashes.size ∧ (∀ k ∈ order.toList, k < hashes.size) ∧ ∀ k, k < hashes.size → k ∈ order.toList := by
  obtain ⟨owner, h1, O⟩ := lay_clean M hashes hl
  have ex : laid mask finger moves led plain hashes = some ({ mask, place := (((List.range (mask + 1)).filterMap fun j => (owner.getD j none).map (j, ·)).map (·.1)).toArray, dummies := #[], finger, led, moves, plain }, (((List.range (mask + 1)).filterMap fun j => (owner.getD j none).map (j, ·)).map (·.2)).toArray) := by
    unfold laid
    rw [h1]
    rfl
  generalize hL : ((List.range (mask + 1)).filterMap fun j => (owner.getD j none).map (j, ·)) = live at ex
  have gd : ∀ j : Nat, owner.getD j none = (owner[j]?).getD none := fun j => by simp [Array.getD_eq_getD_getElem?]
  have mem : ∀ j k : Nat, (j, k) ∈ live ↔ owner[j]? = some (some k) := fun j k => by
    rw [← hL, List.mem_filterMap]
    constructor
    · rintro ⟨j', h2, h3⟩
      rw [Option.map_eq_some_iff] at h3
      obtain ⟨k', h4, h5⟩ := h3
      cases h5
      rw [gd] at h4
      cases h6 : owner[j]? with
      | none => rw [h6] at h4; cases h4
      | some o => rw [h6] at h4; exact congrArg some h4
    · intro h2
      have hb := (Array.getElem?_eq_some_iff.mp h2).1
      refine ⟨j, List.mem_range.mpr (by rw [← O.sz]; exact hb), ?_⟩
      rw [gd, h2]
      rfl
  have ord : live.map (·.2) = (List.range (mask + 1)).filterMap fun j => owner.getD j none := by
    rw [← hL, List.map_filterMap]
    congr 1
    funext j
    cases owner.getD j none <;> rfl
  have onj : ∀ j, j ∈ live.map (·.1) ↔ ∃ k, owner[j]? = some (some k) := fun j => by
    rw [List.mem_map]
    constructor
    · rintro ⟨⟨j', k⟩, h2, rfl⟩
      exact ⟨k, (mem _ _).mp h2⟩
    · rintro ⟨k, h2⟩
      exact ⟨(j, k), (mem _ _).mpr h2, rfl⟩
  have lt : ∀ j k : Nat, owner[j]? = some (some k) → j < mask + 1 := fun j k h2 => by rw [← O.sz]; exact (Array.getElem?_eq_some_iff.mp h2).1
  refine ⟨_, _, ex, ⟨rfl, ?_, ?_, ?_, M, ?_⟩, rfl, rfl, rfl, rfl, ?_, ?_, ?_⟩
  · rw [ris_iff]
    show (live.map (·.1)).Pairwise (· < ·)
    rw [List.pairwise_map, ← hL]
    refine List.Pairwise.filterMap _ (fun a a' haa b hb b' hb' => ?_) List.pairwise_lt_range
    rw [Option.map_eq_some_iff] at hb hb'
    obtain ⟨k, _, rfl⟩ := hb
    obtain ⟨k', _, rfl⟩ := hb'
    exact haa
  · simp
  · intro j hj
    rw [on_iff] at hj
    obtain ⟨k, hk⟩ := (onj j).mp hj
    exact lt j k hk
  · intro q hq
    have hq : q ∈ (live.map (·.1)).zip ((live.map (·.2)).map fun k => hashes.toList.getD k 0) := hq
    rw [List.map_map, List.zip_map', List.mem_map] at hq
    obtain ⟨⟨j, k⟩, h2, rfl⟩ := hq
    have h3 := (mem j k).mp h2
    have h4 := O.lt j k h3
    obtain ⟨n, g1, g2⟩ := O.way j k (hashes.toList.getD k 0) h3 (by rw [List.getD_eq_getElem?_getD, List.getElem?_eq_getElem h4]; rfl)
    refine ⟨n, g1, fun m hm => ?_⟩
    rw [on_iff]
    exact (onj _).mpr ((occ_def (by rw [O.sz]; exact sq_j _ m)).mp (g2 m hm))
  · rw [List.size_toArray, ord, O.cnt, Array.length_toList]
  · intro k hk
    have hk : k ∈ live.map (·.2) := hk
    obtain ⟨⟨j, k'⟩, h2, rfl⟩ := List.mem_map.mp hk
    have := O.lt j k' ((mem j k').mp h2)
    rw [Array.length_toList] at this
    exact this
  · intro k hk
    show k ∈ live.map (·.2)
    obtain ⟨j, hj⟩ := O.at' k (by rw [Array.length_toList]; exact hk)
    exact List.mem_map.mpr ⟨(j, k), (mem j k).mpr hj, rfl⟩
/-- how full a table may be -/
def Lax (t : SetTable) : Prop := t.place.size * 5 < t.mask * 3
theorem grow_msk {mask n : Nat} (M : Msk mask) (h1 : n * 5 < mask * 3) (h2 : mask * 3 ≤ (n + 1) * 5) (hn : n < 76) : Msk (sizeAbove (grown (n + 1)) - 1) ∧ (n + 1) * 5 < (sizeAbove (grown (n + 1)) - 1) * 3 := by
  rcases M with rfl | rfl | rfl
  · have : n = 4 := by omega
    subst this
    exact ⟨.inr (.inl (by decide)), by decide⟩
  · have : n = 18 := by omega
    subst this
    exact ⟨.inr (.inr (by decide)), by decide⟩
  · omega
end ST
/-! ## the model's own search in a set of tuples -/
namespace ST
open PySem PySem.SetTable PySem.Spec
section
variable {prog : Program} {w : World} {K : Type} [DecidableEq K] {knd : KeyKind prog w K} {A : Around} {E : Value → Shared → Prop} {s : Shared}
theorem ofAClass_byValue (n : Nat) {v : Value} (h : carriedByValue v = true) : ofAClassStatement n v = pure false := by
  cases v with
  | ref a => simp [carriedByValue] at h
  | _ => cases n <;> first | rfl | simp [ofAClassStatement]
theorem wpAny_ofAClass_tuple {ks : List K} {a : Addr} {Q : Bool → Shared → Prop} (hk : IsTupleKey knd s.heap ks a) (h : Q false s) : wpAny (model prog w) A (ofAClassStatement 8 (.ref a)) Q E s := by
  have hT := hk.typeIs
  obtain ⟨o, items, n, ho, _, hd, hi⟩ := hk
  unfold ofAClassStatement
  refine wpAny_bind (wpAny_typeOf hT ?_)
  dsimp only
  refine wpAny_bind (wpAny_pure ?_)
  simp only [Bool.not_true, Bool.false_eq_true, if_false]
  refine wpAny_bind (wpAny_seqItems ho hd ?_)
  refine wpAny_bind ?_
  show wpAny _ _ (forIn items _ _) _ _ s
  rw [← Array.forIn_toList]
  refine wpAny_forIn_list _ (fun rest r s' => r.1 = none ∧ s' = s ∧ ∀ v ∈ rest, carriedByValue v = true) _ ?_ ?_ _ _ ⟨rfl, rfl, hi.byValue⟩
  · rintro v rest r s' ⟨hr, rfl, hall⟩
    rw [ofAClass_byValue _ (hall v List.mem_cons_self)]
    refine wpAny_bind (wpAny_pure ?_)
    simp only [Bool.false_eq_true, if_false]
    exact wpAny_pure ⟨rfl, rfl, fun u hu' => hall u (List.mem_cons_of_mem _ hu')⟩
  · rintro ⟨r1, r2⟩ s' ⟨hr, rfl, _⟩
    simp only at hr
    subst hr
    exact wpAny_pure h
/-- the look is seen by nobody -/
theorem wpAny_seen_tuple {k : List K} {a : Addr} {ys : List Value} {Q : Bool → Shared → Prop} (hk : IsTupleKey knd s.heap k a) (hy : ∀ y ∈ ys, ∃ b k', y = .ref b ∧ IsTupleKey knd s.heap k' b) (h : Q false s) : wpAny (model prog w) A (searchCouldBeSeen (.ref a) ys) Q E s := by
  unfold searchCouldBeSeen
  refine wpAny_bind ?_
  refine wpAny_forIn_list _ (fun rest r s' => r.1 = none ∧ s' = s ∧ ∀ y ∈ rest, ∃ b k', y = .ref b ∧ IsTupleKey knd s.heap k' b) _ ?_ ?_ _ _ ⟨rfl, rfl, hy⟩
  · rintro y rest r s' ⟨hr, rfl, hall⟩
    obtain ⟨b, k', rfl, hb⟩ := hall _ List.mem_cons_self
    have tl : ∀ y ∈ rest, ∃ b k', y = .ref b ∧ IsTupleKey knd s'.heap k' b := fun u hu' => hall u (List.mem_cons_of_mem _ hu')
    dsimp only
    split
    · exact wpAny_pure ⟨rfl, rfl, tl⟩
    · refine wpAny_bind (wpAny_eqIsQuiet_tuple hk ?_)
      simp only [Bool.not_true, Bool.false_eq_true, if_false]
      refine wpAny_bind (wpAny_eqIsQuiet_tuple hb ?_)
      simp only [Bool.not_true, Bool.false_eq_true, if_false]
      refine wpAny_bind (wpAny_ofAClass_tuple hk ?_)
      simp only [Bool.false_eq_true, if_false]
      refine wpAny_bind (wpAny_ofAClass_tuple hb ?_)
      simp only [Bool.false_eq_true, if_false]
      exact wpAny_pure ⟨rfl, rfl, tl⟩
  · rintro ⟨r1, r2⟩ s' ⟨hr, rfl, _⟩
    simp only at hr
    subst hr
    exact wpAny_pure h
/-- a set of tuples: its keys, with the addresses, in the table's order -/
def ent (knd : KeyKind prog w K) (x : List K × Addr) : Int × Value := (tupleKeyHash knd x.1, .ref x.2)
structure SetH (knd : KeyKind prog w K) (h : Heap) (a : Addr) (o : Obj) (es : Array (Int × Value)) (ep : Nat) (t : SetTable) (xs : List (List K × Addr)) : Prop where
  get : h.get? a = some o
  ex : o.ExactSet
  data : o.data = .set es ep t
  ent : es.toList = xs.map (ent knd)
  is : ∀ x ∈ xs, IsTupleKey knd h x.1 x.2
  ti : TI t (xs.map fun x => tupleKeyHash knd x.1)
  lax : Lax t
theorem SetH.size {h : Heap} {a : Addr} {o : Obj} {es : Array (Int × Value)} {ep : Nat} {t : SetTable} {xs : List (List K × Addr)} (S : SetH knd h a o es ep t xs) : es.size = xs.length := by
  rw [← Array.length_toList, S.ent, List.length_map]
theorem SetH.len {h : Heap} {a : Addr} {o : Obj} {es : Array (Int × Value)} {ep : Nat} {t : SetTable} {xs : List (List K × Addr)} (S : SetH knd h a o es ep t xs) : xs.length ≤ t.mask := by
  have h1 := S.lax
  have h2 := S.ti.sz
  unfold Lax at h1
  rw [List.length_map] at h2
  omega
theorem SetH.fits {h : Heap} {a : Addr} {o : Obj} {es : Array (Int × Value)} {ep : Nat} {t : SetTable} {xs : List (List K × Addr)} (S : SetH knd h a o es ep t xs) : t.fits es.size = true := by
  rw [S.size]
  have := S.ti.fits (by rw [List.length_map]; exact S.len)
  rwa [List.length_map] at this
theorem SetH.at {h : Heap} {a : Addr} {o : Obj} {es : Array (Int × Value)} {ep : Nat} {t : SetTable} {xs : List (List K × Addr)} (S : SetH knd h a o es ep t xs) (i : Nat) : es[i]? = (xs[i]?).map (ST.ent knd) := by
  rw [← Array.getElem?_toList, S.ent, List.getElem?_map]
theorem search_ok {a : Addr} {o : Obj} {es : Array (Int × Value)} {ep : Nat} {t : SetTable} {xs : List (List K × Addr)} (hu : A.units < cLine) (S : SetH knd s.heap a o es ep t xs) {k : List K} {b : Addr} (hk : IsTupleKey knd s.heap k b) {N : Nat} (hN : ¬ On t (sq t.mask (tupleKeyHash knd k) N).j) (hl : ∀ m, m < N → On t (sq t.mask (tupleKeyHash knd k) m).j) (hb : N ≤ 10 * (t.mask + 13)) {Q : SetFound → Shared → Prop}
    (hq : (k ∈ xs.map (·.1) → Q (.there none) s) ∧ (k ∉ xs.map (·.1) → Q (.free (sq t.mask (tupleKeyHash knd k) N).j false) s)) :
    ∀ (f m : Nat) (st : Option Probe), m ≤ N → N - m < f → st.getD (t.probeStart (tupleKeyHash knd k)) = sq t.mask (tupleKeyHash knd k) m → (∀ (m' i : Nat) (x : List K × Addr), m' < m → t.place[i]? = some (sq t.mask (tupleKeyHash knd k) m').j → xs[i]? = some x → x.1 ≠ k) →
      wpAny (model prog w) A (setSearchFrom a (.ref b) (tupleKeyHash knd k) true f st) Q E s
  | 0, m, st, _, hf, _, _ => by omega
  | f + 1, m, st, hm, hf, hst, hbef => by
    unfold setSearchFrom
    refine wpAny_bind (wpAny_setState_of S.get S.data S.fits ?_)
    dsimp only
    rw [S.ti.odd]
    simp only [Bool.false_eq_true, if_false]
    rw [hst]
    have sh : ∀ {i : Nat} {x : List K × Addr}, xs[i]? = some x → (es[i]?.map (·.1)).getD 0 = tupleKeyHash knd x.1 := fun {i x} e => by rw [S.at, e]; rfl
    have pg := probe_go S.ti.dm S.ti.ris (ha := fun i => (es[i]?.map (·.1)).getD 0) hN hl (10 * turns t.mask) m hm (by unfold turns; omega)
    generalize hp : SetTable.probe t _ (tupleKeyHash knd k) (sq t.mask (tupleKeyHash knd k) m) = pr
    have hp2 : SetTable.probe.go t (fun i => (es[i]?.map (·.1)).getD 0) (tupleKeyHash knd k) (10 * turns t.mask) (sq t.mask (tupleKeyHash knd k) m) = pr := hp
    have ix : ∀ {i j : Nat}, t.place[i]? = some j → ∃ x, xs[i]? = some x := fun {i j} e => by
      have h1 := (Array.getElem?_eq_some_iff.mp e).1
      have h2 := S.ti.sz
      rw [List.length_map] at h2
      exact ⟨xs[i]'(by omega), by simp [show i < xs.length by omega]⟩
    rcases pg with ⟨m', i, g1, g2, g3, g4, g5, g6⟩ | ⟨g5, g6⟩
    · rw [g6] at hp2
      subst hp2
      dsimp only
      obtain ⟨x, hx⟩ := ix g3
      have hxm := List.mem_of_getElem? hx
      have he : es[i]? = some (tupleKeyHash knd x.1, .ref x.2) := by rw [S.at, hx]; rfl
      have sm : t.sameMemory t.moves t.mask = some true := by unfold SetTable.sameMemory; rw [if_pos (by simp)]
      have rec' := fun ne : x.1 ≠ k => search_ok hu S hk hN hl hb hq f (m' + 1) (some (sq t.mask (tupleKeyHash knd k) (m' + 1))) (by omega) (by omega) rfl (fun m2 i2 x2 q1 q2 q3 => by
        rcases Nat.lt_trichotomy m2 m with z | z | z
        · exact hbef m2 i2 x2 z q2 q3
        · by_cases y : m2 = m'
          · subst y
            have e1 := below_at S.ti.ris q2
            have e2 := below_at S.ti.ris g3
            have : i2 = i := by omega
            subst this
            rw [hx] at q3
            cases q3
            exact ne
          · exact fun y2 => g5 m2 i2 (by omega) (by omega) q2 (by rw [sh q3, y2])
        · by_cases y : m2 = m'
          · subst y
            have e1 := below_at S.ti.ris q2
            have e2 := below_at S.ti.ris g3
            have : i2 = i := by omega
            subst this
            rw [hx] at q3
            cases q3
            exact ne
          · exact fun y2 => g5 m2 i2 (by omega) (by omega) q2 (by rw [sh q3, y2]))
      have stored : ∀ y ∈ (es.filter (fun e => e.1 == tupleKeyHash knd k)).toList.map (·.2), ∃ b k', y = .ref b ∧ IsTupleKey knd s.heap k' b := fun y hy => by
        obtain ⟨e, he2, rfl⟩ := List.mem_map.mp hy
        have he3 : e ∈ es.toList := by
          have := Array.mem_toList_iff.mp he2
          exact Array.mem_toList_iff.mpr (Array.mem_filter.mp this).1
        rw [S.ent] at he3
        obtain ⟨x', hx', rfl⟩ := List.mem_map.mp he3
        exact ⟨x'.2, x'.1, rfl, S.is x' hx'⟩
      cases hled : t.led with
      | true =>
        simp only [Bool.not_true, Bool.false_eq_true, if_false]
        rw [he]
        dsimp only
        refine wpAny_bind (wpAny_holding (wpAny_eqBool_tuple hu (S.is x hxm) hk ?_))
        refine wpAny_bind (wpAny_setState_of S.get S.data S.fits ?_)
        dsimp only
        by_cases e : x.1 = k
        · rw [decide_eq_true e]
          simp only [Bool.and_self, if_true]
          exact wpAny_pure (hq.1 (List.mem_map.mpr ⟨x, hxm, e⟩))
        · rw [decide_eq_false e]
          simp only [Bool.and_false, Bool.false_eq_true, if_false]
          rw [sm]
          dsimp only
          rw [if_pos rfl, slot_live S.ti.ris g3]
          dsimp only
          rw [he]
          dsimp only
          refine wpAny_bind (wpAny_isSame_ref_self ?_)
          refine wpAny_bind (wpAny_pure ?_)
          simp only [if_true]
          exact rec' e
      | false =>
        simp only [Bool.not_false, if_true]
        refine wpAny_bind (wpAny_seen_tuple hk stored ?_)
        simp only [Bool.false_eq_true, if_false]
        rw [he]
        dsimp only
        refine wpAny_bind (wpAny_holding (wpAny_eqBool_tuple hu (S.is x hxm) hk ?_))
        refine wpAny_bind (wpAny_setState_of S.get S.data S.fits ?_)
        dsimp only
        by_cases e : x.1 = k
        · rw [decide_eq_true e]
          simp only [Bool.and_self, if_true]
          exact wpAny_pure (hq.1 (List.mem_map.mpr ⟨x, hxm, e⟩))
        · rw [decide_eq_false e]
          simp only [Bool.and_false, Bool.false_eq_true, if_false]
          rw [sm]
          dsimp only
          rw [if_pos rfl, slot_live S.ti.ris g3]
          dsimp only
          rw [he]
          dsimp only
          refine wpAny_bind (wpAny_isSame_ref_self ?_)
          refine wpAny_bind (wpAny_pure ?_)
          simp only [if_true]
          exact rec' e
    · rw [g6] at hp2
      subst hp2
      dsimp only
      refine wpAny_pure (hq.2 fun hmem => ?_)
      obtain ⟨x, hxm, e⟩ := List.mem_map.mp hmem
      obtain ⟨i, hi⟩ := List.mem_iff_getElem?.mp hxm
      have hsz := S.ti.sz
      rw [List.length_map] at hsz
      have hlt : i < t.place.size := by
        have := (List.getElem?_eq_some_iff.mp hi).1
        omega
      have hpl : t.place[i]? = some t.place[i] := by simp [hlt]
      obtain ⟨m2, q1, q2⟩ := S.ti.met (h := tupleKeyHash knd k) (i := i) (j := t.place[i]) hN (by rw [List.getElem?_map, hi]; show some (tupleKeyHash knd x.1) = _; rw [e]) hpl
      rw [← q2] at hpl
      by_cases z : m2 < m
      · exact hbef m2 i x z hpl hi e
      · exact g5 m2 i (by omega) q1 hpl (by rw [sh hi, e])
end
end ST
/-! ## a tuple put into a set -/
namespace ST
open PySem PySem.SetTable PySem.Spec
section
variable {prog : Program} {w : World} {K : Type} [DecidableEq K] {knd : KeyKind prog w K} {A : Around} {E : Value → Shared → Prop} {s : Shared}
theorem hashBy_byValue (n : Nat) {v : Value} (h : carriedByValue v = true) : ∃ c, hashByValue n v = pure c := by
  cases v with
  | ref a => simp [carriedByValue] at h
  | _ => cases n <;> exact ⟨_, rfl⟩
theorem wpAny_hashBy_tuple {ks : List K} {a : Addr} {Q : Bool → Shared → Prop} (hk : IsTupleKey knd s.heap ks a) (h : ∀ c, Q c s) : wpAny (model prog w) A (hashByValue 8 (.ref a)) Q E s := by
  have hT := hk.typeIs
  obtain ⟨o, items, n, ho, _, hd, hi⟩ := hk
  unfold hashByValue
  refine wpAny_bind (wpAny_specialOf hT F.slot_tuple_hash.lookup ?_)
  dsimp only
  refine wpAny_bind (wpAny_seqItems ho hd ?_)
  dsimp only [Option.getD_some]
  refine wpAny_bind ?_
  show wpAny _ _ (forIn items _ _) _ _ s
  rw [← Array.forIn_toList]
  refine wpAny_forIn_list _ (fun rest r s' => s' = s ∧ ∀ v ∈ rest, carriedByValue v = true) _ ?_ ?_ _ _ ⟨rfl, hi.byValue⟩
  · rintro v rest r s' ⟨rfl, hall⟩
    obtain ⟨c, hc⟩ := hashBy_byValue 7 (hall v List.mem_cons_self)
    rw [hc]
    refine wpAny_bind (wpAny_pure ?_)
    cases c with
    | true =>
      simp only [Bool.not_true, Bool.false_eq_true, if_false]
      exact wpAny_pure ⟨rfl, fun u hu' => hall u (List.mem_cons_of_mem _ hu')⟩
    | false =>
      simp only [Bool.not_false, if_true]
      exact wpAny_pure (wpAny_pure (h false))
  · rintro ⟨r1, r2⟩ s' ⟨rfl, _⟩
    cases r1 with
    | none => exact wpAny_pure (h true)
    | some c => exact wpAny_pure (h c)
theorem keepS {h h' : Heap} {ks : List K} {a d : Addr} {o : Obj} {es : Array (Int × Value)} {ep : Nat} {t : SetTable} (x : IsTupleKey knd h ks a) (ho : h.get? d = some o) (hd : o.data = .set es ep t) (hs : Heap.SameBut d h h') : IsTupleKey knd h' ks a := by
  obtain ⟨o', items, n, ho', hc, hd', hi⟩ := x
  have hne : a ≠ d := by
    rintro rfl
    obtain rfl : o' = o := Option.some.inj (ho'.symm.trans ho)
    rw [hd] at hd'
    exact nomatch hd'
  exact ⟨o', items, n, (hs.2 a hne).trans ho', hc, hd', hi⟩
theorem TI.plain {t : SetTable} {hs : List Int} (T : TI t hs) (b : Bool) : TI { t with plain := b } hs := ⟨T.dm, T.ris, T.sz, T.le, T.msk, T.way⟩
/-- a set stored anew -/
theorem SetH.store {h : Heap} {a : Addr} {o : Obj} {es : Array (Int × Value)} {ep : Nat} {t : SetTable} {xs' : List (List K × Addr)} {es' : Array (Int × Value)} {t' : SetTable} (ho : h.get? a = some o) (hex : o.ExactSet) (hd : o.data = .set es ep t) (he : es'.toList = xs'.map (ST.ent knd)) (hi : ∀ x ∈ xs', IsTupleKey knd h x.1 x.2) (T : TI t' (xs'.map fun x => tupleKeyHash knd x.1)) (hl : Lax t') :
    SetH knd (h.update a (Obj.putSet es' t')) a { o with data := .set es' (ep + 1) t' } es' (ep + 1) t' xs' := by
  have hg : (h.update a (Obj.putSet es' t')).get? a = some { o with data := .set es' (ep + 1) t' } := by
    have := Heap.get?_update_self (Obj.putSet es' t') ho (by rw [putSet_of es' t' hd]; rfl)
    rw [putSet_of es' t' hd] at this
    exact this
  exact ⟨hg, hex, rfl, he, fun x hx => keepS (hi x hx) ho hd (Heap.SameBut.update h a _), T, hl⟩
theorem fm_get {α : Type} {l : List α} {n : Nat} (hn : l.length = n) : ∀ {ks : List Nat}, (∀ k ∈ ks, k < n) → (ks.filterMap fun k => l[k]?).length = ks.length
  | [], _ => rfl
  | k :: ks, h => by
    have hk := h k List.mem_cons_self
    rw [List.filterMap_cons, List.getElem?_eq_getElem (by omega)]
    show (ks.filterMap fun k => l[k]?).length + 1 = ks.length + 1
    rw [fm_get hn fun k hk => h k (List.mem_cons_of_mem _ hk)]
theorem fm_map {α : Type} {l : List α} {g : α → Int} : ∀ {ks : List Nat}, (∀ k ∈ ks, k < l.length) → (ks.map fun k => (l.map g).getD k 0) = (ks.filterMap fun k => l[k]?).map g
  | [], _ => rfl
  | k :: ks, h => by
    have hk := h k List.mem_cons_self
    rw [List.filterMap_cons, List.getElem?_eq_getElem hk, List.map_cons, fm_map fun k hk => h k (List.mem_cons_of_mem _ hk)]
    show _ = g l[k] :: _
    rw [List.getD_eq_getElem?_getD, List.getElem?_map, List.getElem?_eq_getElem hk]
    rfl
theorem put_lax {t : SetTable} {hs : List Int} (T : TI t hs) {j : Nat} : (t.put j).1.place.size = t.place.size + 1 := by
  have e := congrArg List.length (put_place t j)
  have hp := put_le t T.ris j
  simp only [Array.length_toList, List.length_append, List.length_take, List.length_cons, List.length_drop] at e
  omega
theorem relay_ok {a : Addr} {o : Obj} {es : Array (Int × Value)} {ep : Nat} {t : SetTable} {xs : List (List K × Addr)} {n : Nat} (ho : s.heap.get? a = some o) (hex : o.ExactSet) (hd : o.data = .set es ep t) (he : es.toList = xs.map (ST.ent knd)) (hi : ∀ x ∈ xs, IsTupleKey knd s.heap x.1 x.2) (hf : t.fits es.size = true) (hx : xs.length = n + 1) (M : Msk (sizeAbove (grown (n + 1)) - 1)) (hl : (n + 1) * 5 < (sizeAbove (grown (n + 1)) - 1) * 3) {Q : Unit → Shared → Prop}
    (h : ∀ h' o' es' ep' t' xs', Heap.SameBut a s.heap h' → SetH knd h' a o' es' ep' t' xs' → xs'.length = xs.length → (∀ x, x ∈ xs' ↔ x ∈ xs) → Q () { s with heap := h' }) : wpAny (model prog w) A (setRelay a (grown (n + 1))) Q E s := by
  have hes : es.size = n + 1 := by rw [← Array.length_toList, he, List.length_map, hx]
  obtain ⟨t', order, l1, l2, l3, l4, l5, l6, l7, l8, l9⟩ := laid_ok M t.finger (t.movedTo (sizeAbove (grown (n + 1)) - 1)) t.led t.plain (es.map (·.1)) (by rw [Array.size_map, hes]; omega)
  rw [Array.size_map] at l7 l8 l9
  have hmap : (es.map (·.1)).toList = xs.map fun x => tupleKeyHash knd x.1 := by
    rw [Array.toList_map, he, List.map_map]
    rfl
  rw [hmap, fm_map (by rw [hx, ← hes]; exact l8)] at l2
  have e1 : (order.filterMap (es[·]?)).toList = (order.toList.filterMap fun k => xs[k]?).map (ST.ent knd) := by
    rw [Array.toList_filterMap, List.map_filterMap]
    congr 1
    funext k
    rw [← Array.getElem?_toList, he, List.getElem?_map]
  have len : (order.toList.filterMap fun k => xs[k]?).length = n + 1 := by
    rw [fm_get (n := n + 1) hx (by rw [← hes]; exact l8), Array.length_toList, l7, hes]
  have sz : (order.filterMap (es[·]?)).size = n + 1 := by rw [← Array.length_toList, e1, List.length_map, len]
  have mem : ∀ x, x ∈ (order.toList.filterMap fun k => xs[k]?) ↔ x ∈ xs := fun x => by
    rw [List.mem_filterMap]
    constructor
    · rintro ⟨k, _, h2⟩
      exact List.mem_of_getElem? h2
    · intro h2
      obtain ⟨k, hk⟩ := List.mem_iff_getElem?.mp h2
      exact ⟨k, l9 k (by rw [hes, ← hx]; exact (List.getElem?_eq_some_iff.mp hk).1), hk⟩
  have lx : Lax t' := by
    unfold Lax
    have := l2.sz
    rw [List.length_map, len] at this
    rw [this, l3]
    exact hl
  unfold setRelay
  refine wpAny_bind (wpAny_setState_of ho hd hf ?_)
  dsimp only
  rw [if_neg (by
    have : sizeAbove (grown (n + 1)) ≤ 128 := by rcases M with z | z | z <;> omega
    exact Nat.not_lt.mpr (Nat.le_trans this (Nat.le_of_ble_eq_true (rfl : Nat.ble 128 sizeLine = true))))]
  refine wpAny_bind ?_
  have rl : t.relaid (es.map (·.1)) (grown (n + 1)) = some (t', order) := l1
  rw [rl]
  have ro : ∀ R : Array (Int × Value) × SetTable → Shared → Prop, R (order.filterMap (es[·]?), t') s → wpAny (model prog w) A (do
      let some (t, order) := some (t', order) | unsupported "internal:set-table-without-room"
      let es' := order.filterMap (es[·]?)
      if es'.size != es.size then unsupported "internal:set-table-lost-an-element"
      pure (es', t)) R E s := fun R hR => by
    dsimp only
    rw [sz, hes]
    simp only [bne_self_eq_false, Bool.false_eq_true, if_false]
    exact wpAny_pure hR
  refine ro _ ?_
  refine wpAny_storeSet_of ho hd ?_ (by rw [sz]; have := hl; exact Nat.le_trans (show n + 1 ≤ 128 by rcases M with z | z | z <;> omega) (Nat.le_of_ble_eq_true (rfl : Nat.ble 128 sizeLine = true)))
  exact h _ _ _ _ _ _ (Heap.SameBut.update s.heap a _) (SetH.store ho hex hd e1 (fun x hx => hi x ((mem x).mp hx)) l2 lx) (by rw [len, hx]) mem
/-- a tuple is put into a set -/
theorem add_ok {a : Addr} {o : Obj} {es : Array (Int × Value)} {ep : Nat} {t : SetTable} {xs : List (List K × Addr)} (hu : A.units < cLine) (S : SetH knd s.heap a o es ep t xs) {k : List K} {b : Addr} (hk : IsTupleKey knd s.heap k b) (hn : xs.length < 76) {Q : Bool → Shared → Prop}
    (yes : k ∈ xs.map (·.1) → Q false s)
    (no : k ∉ xs.map (·.1) → ∀ h' o' es' ep' t' xs', Heap.SameBut a s.heap h' → SetH knd h' a o' es' ep' t' xs' → xs'.length = xs.length + 1 → (∀ x, x ∈ xs' ↔ x = (k, b) ∨ x ∈ xs) → Q true { s with heap := h' }) :
    wpAny (model prog w) A (setAddHashed a (.ref b) (tupleKeyHash knd k)) Q E s := by
  obtain ⟨N, hb, hN, hl⟩ := S.ti.ends (by rw [List.length_map]; exact S.len) (tupleKeyHash knd k)
  unfold setAddHashed setAddHashedIn
  refine wpAny_holding (wpAny_bind (wpAny_setState_of S.get S.data S.fits ?_))
  dsimp only
  rw [show byScan (.ref b) es = false from rfl]
  simp only [Bool.false_eq_true, if_false]
  refine wpAny_bind ?_
  unfold setSearch
  have mk := S.ti.msk
  have hm : t.mask ≤ 127 := by rcases mk with z | z | z <;> omega
  refine search_ok hu S hk hN hl hb ⟨fun hin => ?_, fun hout => ?_⟩ 100000 0 none (Nat.zero_le _) (by omega) rfl (fun m' i x z => by omega)
  · exact wpAny_pure (yes hin)
  · dsimp only
    refine wpAny_bind (wpAny_setState_of S.get S.data S.fits ?_)
    dsimp only
    have hsz := S.size
    have hlen := S.len
    have hlax := S.lax
    have tsz := S.ti.sz
    rw [List.length_map] at tsz
    have T1 := S.ti.put hN hl
    have psz := put_lax S.ti (j := (sq t.mask (tupleKeyHash knd k) N).j)
    have ple := put_le t S.ti.ris (sq t.mask (tupleKeyHash knd k) N).j
    have pm : (t.put (sq t.mask (tupleKeyHash knd k) N).j).1.mask = t.mask := rfl
    generalize hP : (t.put (sq t.mask (tupleKeyHash knd k) N).j).2 = p at *
    generalize hT : (t.put (sq t.mask (tupleKeyHash knd k) N).j).1 = t1 at *
    have hx1 : (xs.take p ++ (k, b) :: xs.drop p).map (fun x => tupleKeyHash knd x.1) = (xs.map fun x => tupleKeyHash knd x.1).take p ++ tupleKeyHash knd k :: (xs.map fun x => tupleKeyHash knd x.1).drop p := by
      rw [List.map_append, List.map_cons, List.map_take, List.map_drop]
    rw [← hx1] at T1
    have he1 : (insertAt es p (tupleKeyHash knd k, Value.ref b)).toList = (xs.take p ++ (k, b) :: xs.drop p).map (ST.ent knd) := by
      rw [SetTable.toList_insertAt, S.ent, List.map_append, List.map_cons, List.map_take, List.map_drop]
      rfl
    have len1 : (xs.take p ++ (k, b) :: xs.drop p).length = xs.length + 1 := by
      rw [List.length_append, List.length_take, List.length_cons, List.length_drop]
      omega
    have es1 : (insertAt es p (tupleKeyHash knd k, Value.ref b)).size = xs.length + 1 := by rw [← Array.length_toList, he1, List.length_map, len1]
    have mem1 : ∀ x, x ∈ xs.take p ++ (k, b) :: xs.drop p ↔ x = (k, b) ∨ x ∈ xs := fun x => by
      rw [List.mem_append, List.mem_cons]
      constructor
      · rintro (z | z | z)
        · exact .inr (List.mem_of_mem_take z)
        · exact .inl z
        · exact .inr (List.mem_of_mem_drop z)
      · rintro (z | z)
        · exact .inr (.inl z)
        · rw [← List.take_append_drop p xs] at z
          rcases List.mem_append.mp z with z | z
          · exact .inl z
          · exact .inr (.inr z)
    have hi1 : ∀ x ∈ xs.take p ++ (k, b) :: xs.drop p, IsTupleKey knd s.heap x.1 x.2 := fun x hx => by
      rcases (mem1 x).mp hx with rfl | hx
      · exact hk
      · exact S.is x hx
    have fin : ∀ T : SetTable, TI T ((xs.take p ++ (k, b) :: xs.drop p).map fun x => tupleKeyHash knd x.1) → T.mask = t.mask → wpAny (model prog w) A (do
        storeSet a (insertAt es p (tupleKeyHash knd k, Value.ref b)) T
        if (!false && T.tooFull) = true then do
            setRelay a (grown (es.size + 1))
            pure true
          else pure true) Q E s := fun T hT hm2 => by
      refine wpAny_bind (wpAny_storeSet_of S.get S.data ?_ (by rw [es1]; exact Nat.le_trans (show xs.length + 1 ≤ 128 by omega) (Nat.le_of_ble_eq_true (rfl : Nat.ble 128 sizeLine = true))))
      have Tsz := hT.sz
      rw [List.length_map, len1] at Tsz
      have tf : T.tooFull = decide ((xs.length + 1) * 5 ≥ t.mask * 3) := by
        unfold SetTable.tooFull SetTable.fill
        rw [hT.dm, Tsz, hm2]
        rfl
      rw [tf]
      by_cases full : (xs.length + 1) * 5 ≥ t.mask * 3
      · rw [decide_eq_true full, if_pos (by decide)]
        have hg : (s.heap.update a (Obj.putSet (insertAt es p (tupleKeyHash knd k, Value.ref b)) T)).get? a = some { o with data := .set (insertAt es p (tupleKeyHash knd k, Value.ref b)) (ep + 1) T } := by
          have := Heap.get?_update_self (Obj.putSet (insertAt es p (tupleKeyHash knd k, Value.ref b)) T) S.get (by rw [putSet_of _ T S.data]; rfl)
          rw [putSet_of _ T S.data] at this
          exact this
        have lx0 : xs.length * 5 < t.mask * 3 := by
          unfold Lax at hlax
          rw [tsz] at hlax
          exact hlax
        obtain ⟨gm1, gm2⟩ := grow_msk mk lx0 full hn
        have ff : T.fits (insertAt es p (tupleKeyHash knd k, Value.ref b)).size = true := by
          have := hT.fits (by rw [List.length_map, len1, hm2]; rcases mk with z | z | z <;> omega)
          rw [List.length_map, len1] at this
          rw [es1]
          exact this
        have up := Heap.SameBut.update s.heap a (Obj.putSet (insertAt es p (tupleKeyHash knd k, Value.ref b)) T)
        refine wpAny_bind ?_
        rw [hsz]
        refine relay_ok (s := { s with heap := s.heap.update a (Obj.putSet (insertAt es p (tupleKeyHash knd k, Value.ref b)) T) }) hg S.ex rfl he1 (fun x hx => keepS (hi1 x hx) S.get S.data up) ff len1 gm1 gm2 fun h' o' es' ep' t' xs' sb SH l m => wpAny_pure ?_
        exact no hout h' o' es' ep' t' xs' (up.trans sb) SH (by rw [l, len1]) fun x => (m x).trans (mem1 x)
      · rw [decide_eq_false full, if_neg (by decide)]
        exact wpAny_pure (no hout _ _ _ _ _ _ (Heap.SameBut.update s.heap a _) (SetH.store S.get S.ex S.data he1 hi1 hT (by unfold Lax; rw [Tsz, hm2]; omega)) len1 mem1)
    split
    · refine wpAny_bind (wpAny_hashBy_tuple hk fun c => ?_)
      cases c with
      | true => exact fin t1 T1 pm
      | false => exact fin { t1 with plain := false } (T1.plain false) pm
    · exact wpAny_bind (wpAny_pure (fin t1 T1 pm))
end
end ST
/-! ## set(l) of tuples -/
namespace ST
open PySem PySem.SetTable PySem.Spec PyProof.Rows
/-- the unlike ones, in their order -/
def dstep {α : Type} [DecidableEq α] (a : List α) (k : α) : List α := if k ∈ a then a else a ++ [k]
def dd {α : Type} [DecidableEq α] (l : List α) : List α := l.foldl dstep []
theorem dd_snoc {α : Type} [DecidableEq α] (l : List α) (k : α) : dd (l ++ [k]) = dstep (dd l) k := by unfold dd; rw [List.foldl_append]; rfl
theorem mem_dstep {α : Type} [DecidableEq α] {a : List α} {k x : α} : x ∈ dstep a k ↔ x = k ∨ x ∈ a := by
  unfold dstep
  split
  · exact ⟨.inr, fun h => h.elim (fun e => by subst e; assumption) id⟩
  · rw [List.mem_append, List.mem_singleton]
    exact or_comm
theorem len_dstep {α : Type} [DecidableEq α] {a : List α} {k : α} : (dstep a k).length = if k ∈ a then a.length else a.length + 1 := by
  unfold dstep
  split
  · rfl
  · rw [List.length_append]; rfl
theorem dd_len {α : Type} [DecidableEq α] : ∀ (l : List α) (a : List α), (l.foldl dstep a).length ≤ a.length + l.length
  | [], a => Nat.le_refl _
  | k :: l, a => by
    have h := dd_len l (dstep a k)
    have h2 := len_dstep (a := a) (k := k)
    rw [List.foldl_cons, List.length_cons]
    split at h2 <;> omega
section
variable {prog : Program} {w : World} {K : Type} [DecidableEq K] {knd : KeyKind prog w K} {A : Around} {R : Result → Shared → Prop} {I : Addr} {fp wr : List Addr} {G : Array GenState → Array GenState → Prop} {n : Nat} {P : Nat → Value → Prop} {St : Nat → Shared → Prop}
/-- a set that holds just these keys; W: what the keys' addresses are -/
def Holds (knd : KeyKind prog w K) (h : Heap) (S : Addr) (V : Addr → Prop) (l : List (List K)) : Prop := ∃ o es ep t xs, SetH knd h S o es ep t xs ∧ xs.length = (dd l).length ∧ (∀ k, k ∈ xs.map (·.1) ↔ k ∈ dd l) ∧ ∀ x ∈ xs, V x.2
theorem key_moved {s s' : Shared} {k : List K} {b : Addr} (hm : Moved wr G s s') (hw : b ∉ wr) (x : IsTupleKey knd s.heap k b) : IsTupleKey knd s'.heap k b := by
  obtain ⟨o, items, m, ho, r⟩ := x
  exact ⟨o, items, m, hm.heap b o hw ho, r⟩
theorem Holds.moved {s s' : Shared} {S : Addr} {l : List (List K)} (hm : Moved wr G s s') (hw : S ∉ wr) (x : Holds knd s.heap S (· ∉ wr) l) : Holds knd s'.heap S (· ∉ wr) l := by
  obtain ⟨o, es, ep, t, xs, s1, r1, r2, r3⟩ := x
  exact ⟨o, es, ep, t, xs, ⟨hm.heap S _ hw s1.get, s1.ex, s1.data, s1.ent, fun x hx => key_moved hm (r3 x hx) (s1.is x hx), s1.ti, s1.lax⟩, r1, r2, r3⟩
theorem loopT (W : WalksS prog w A.in1 I fp wr G n P St) (S : Addr) (hSf : S ∉ fp) (ks : List (List K)) (ad : Nat → Addr) (hn : ks.length = n) (hP : ∀ i v, P i v → v = .ref (ad i)) (hb : n ≤ 76) (hu : A.units + 1 < cLine) (hw : ∀ i, i < n → ad i ∉ wr) :
    ∀ (k i : Nat) (s : Shared), n - i = k → i ≤ n → St i s → Holds knd s.heap S (· ∉ wr) (ks.take i) → (∀ i (h : i < n), IsTupleKey knd s.heap (ks[i]'(by omega)) (ad i)) →
      (∀ s', Moved (S :: wr) G s s' → Holds knd s'.heap S (· ∉ wr) ks → R (.ok (.ret .none)) s') →
      codeAny (model prog w) A (.builtin "set.update.loop" ⟨[.ref S, .ref I], []⟩) R s := by
  have hSw : S ∉ wr := fun h => hSf (W.sub _ h)
  have hsub : ∀ b ∈ wr, b ∈ S :: wr := fun b hb => List.mem_cons_of_mem _ hb
  intro k
  induction k with
  | zero =>
    intro i s hk hi hst hS hkeys hR
    have hin : i = n := by omega
    subst hin
    refine codeAny_builtin F.entry_set_update_loop ?_
    rw [Around.under_plainId F.plain_set_update_loop _]
    show wpAny _ A.in1 (pyNext (.ref I) >>= _) _ _ s
    refine wpAny_bind (W.done s _ _ hst fun s' hm => ?_)
    show wpAny _ A.in1 (ret Value.none) _ _ s'
    rw [List.take_of_length_le (by omega)] at hS
    exact wpAny_pure (hR s' (hm.mono hsub) (hS.moved hm hSw))
  | succ k ih =>
    intro i s hk hi hst hS hkeys hR
    have hlt : i < n := by omega
    refine codeAny_builtin F.entry_set_update_loop ?_
    rw [Around.under_plainId F.plain_set_update_loop _]
    show wpAny _ A.in1 (pyNext (.ref I) >>= _) _ _ s
    refine wpAny_bind (W.item i s _ _ hlt hst fun v s' hPv hst' hm => ?_)
    have hv := hP i v hPv
    subst hv
    obtain ⟨o, es, ep, t, xs, s2, hl, hmem, hxw⟩ := hS.moved hm hSw
    have hkeys' : ∀ i (h : i < n), IsTupleKey knd s'.heap (ks[i]'(by omega)) (ad i) := fun i h => key_moved hm (hw i h) (hkeys i h)
    show wpAny _ A.in1 (holding [Value.ref (ad i)] (setAdd S (.ref (ad i))) >>= _) _ _ s'
    refine wpAny_bind (wpAny_holding ?_)
    unfold setAdd
    refine wpAny_holding ?_
    have hu1 : A.in1.units < cLine := hu
    refine wpAny_bind ((tupleKind knd).pyHash (k := ks[i]'(by omega)) hu1 (hkeys' i hlt) ?_)
    have tk : ks.take (i + 1) = ks.take i ++ [ks[i]'(by omega)] := by rw [List.take_succ_eq_append_getElem (by omega)]
    have hxl : xs.length < 76 := by
      have := dd_len (ks.take i) []
      rw [List.length_take] at this
      unfold dd at hl
      simp at this
      omega
    have ds := len_dstep (a := dd (ks.take i)) (k := ks[i]'(by omega))
    refine add_ok (s := { s' with toks := s'.toks + (tupleKind knd).draws (ks[i]'(by omega)) }) hu1 s2 (hkeys' i hlt) hxl (fun hin => ?_) (fun hout h' o' es' ep' t' xs' sb SH l m => ?_)
    · have hin' := (hmem _).mp hin
      rw [if_pos hin'] at ds
      refine wpAny_pure ⟨plainId_quiet F.plain_set_update_loop _, ih (i + 1) _ (by omega) hlt (W.frame _ s' _ _ hst' (Nat.le_add_right _ _) fun b hb o e => e) ⟨o, es, ep, t, xs, s2, ?_, fun x => ?_, hxw⟩ hkeys' fun s'' hm'' hS'' => hR s'' (Moved.trans W.gtrans ((hm.mono hsub).then_heap (Nat.le_add_right _ _) fun b o hb e => e) hm'') hS''⟩
      · rw [tk, dd_snoc, ds]; exact hl
      · rw [tk, dd_snoc, mem_dstep, hmem x]
        exact ⟨.inr, fun z => z.elim (fun z => by rw [z]; exact hin') id⟩
    · have hout' : ks[i]'(by omega) ∉ dd (ks.take i) := fun z => hout ((hmem _).mpr z)
      rw [if_neg hout'] at ds
      have hkeep : ∀ k b, IsTupleKey knd s'.heap k b → IsTupleKey knd h' k b := fun k b x => keepS x s2.get s2.data sb
      refine wpAny_pure ⟨plainId_quiet F.plain_set_update_loop _, ih (i + 1) _ (by omega) hlt (W.frame _ s' _ _ hst' (Nat.le_add_right _ _) fun b hb o e => ?_) ⟨o', es', ep', t', xs', SH, ?_, fun x => ?_, fun x hx => ?_⟩ (fun i h => hkeep _ _ (hkeys' i h)) fun s'' hm'' hS'' => hR s'' (Moved.trans W.gtrans ((hm.mono hsub).then_heap (Nat.le_add_right _ _) fun b o hb e => ?_) hm'') hS''⟩
      · rw [sb.2 b (fun h : b = S => hSf (by rw [← h]; exact hb))]; exact e
      · rw [tk, dd_snoc, ds, l, hl]
      · rw [tk, dd_snoc, mem_dstep, ← hmem x, List.mem_map, List.mem_map]
        constructor
        · rintro ⟨y, hy, rfl⟩
          rcases (m y).mp hy with rfl | hy
          · exact .inl rfl
          · exact .inr ⟨y, hy, rfl⟩
        · rintro (rfl | ⟨y, hy, rfl⟩)
          · exact ⟨_, (m _).mpr (.inl rfl), rfl⟩
          · exact ⟨y, (m y).mpr (.inr hy), rfl⟩
      · rcases (m x).mp hx with rfl | hx
        · exact hw i hlt
        · exact hxw x hx
      · rw [sb.2 b (fun h : b = S => hb (by rw [h]; exact List.mem_cons_self))]; exact e
end
end ST
/-! ## set(l), l a list of tuples -/
namespace ST
open PySem PySem.SetTable PySem.Spec PyProof.Rows PySem.Builtin
abbrev nwT (led : Bool) : Obj := { cls := .type "set", dict := none, data := .set #[] 0 (.fresh 0 0 led) }
section
variable {prog : Program} {w : World} {K : Type} [DecidableEq K] {knd : KeyKind prog w K} {A : Around} {E : Value → Shared → Prop} {s : Shared}
theorem code_set_newT (a : Value) {Q₁ : Value → Shared → Prop} (h : Q₁ (.ref s.heap.objs.size) { s with heap := s.heap.push (nwT (!w.params.followText "set-order")) }) :
    codeAny (model prog w) A (.call (.builtin "set.__new__") ⟨[.type "set", a], []⟩) (wants Q₁ E) s := by
  refine codeAny_of_tree ?_
  show wpAny _ A.in1 (do checkBuiltinCall "set.__new__" ⟨[.type "set", a], []⟩; again (.builtin "set.__new__" ⟨[.type "set", a], []⟩)) _ _ s
  refine wpAny_bind (wpAny_of_eq (F.newCall_set_1 a) (wpAny_pure ⟨plainId_quiet F.plain_set_new _, codeAny_builtin F.entry_set_new ?_⟩))
  rw [Around.under_plainId F.plain_set_new _]
  unfold Builtin.«set.__new__» Builtin.Frozenset.newClass
  have hsub := sub_set_self
  obtain ⟨hp, g, d, tk, os⟩ := s
  dsimp only
  wp_walk
  refine wpAny_askSetting (wpAny_pure ?_)
  dsimp only
  simp only [newObj]
  exact wpAny_bind (wpAny_alloc (wpAny_pure (wpAny_pure h)))
set_option maxRecDepth 100000 in
set_option maxHeartbeats 3200000 in
theorem set_init_listT {l : Addr} {items : Array Value} {ks : List (List K)} {ad : Nat → Addr} {led : Bool} {R : Result → Shared → Prop} (hh : A.handled = none) (hl : s.heap.IsList l items) (hu : A.units + 8 < cLine) (hn : ks.length = items.size) (hb : items.size ≤ 76) (hP : ∀ (i : Nat) (v : Value), items[i]? = some v → v = .ref (ad i)) (hk : ∀ (i : Nat) (h : i < items.size), IsTupleKey knd s.heap (ks[i]'(by omega)) (ad i))
    (h : ∀ (h' : Heap) (tk : Nat), Holds knd h' s.heap.objs.size (fun _ => True) ks → (∀ b o, b < s.heap.objs.size → s.heap.get? b = some o → h'.get? b = some o) → R (.ok (.ret Value.none)) { s with heap := h', toks := tk }) :
    wpAny (model prog w) A (Builtin.«set.__init__» ⟨[.ref s.heap.objs.size, .ref l], []⟩) (fun fin s' => ∃ v, fin = Fin.done (Flow.ret v) ∧ R (.ok (.ret v)) s') (fun e s' => R (.error e) s') { s with heap := s.heap.push (nwT led) } := by
  obtain ⟨⟨ocls, odict, odata, oslots⟩, hol, hcl, nl, hdl⟩ := id hl
  simp only at hcl hdl
  subst hcl hdl
  have hS : (s.heap.push (nwT led)).get? s.heap.objs.size = some (nwT led) := Heap.get?_push_size _ rfl
  have hol' := Heap.get?_push_of_some (h := s.heap) (nwT led) hol
  have s1 := F.sub_list_set
  have s2 := F.sub_list_frozenset
  have hne : (Value.type "list" == Value.type "dict") = false := by decide
  unfold Builtin.«set.__init__» noKeywords Builtin.Frozenset.updateFrom
  generalize hPI : pyIter = PI
  wp_walk
  subst hPI
  have hl1 : (s.heap.push (nwT led)).IsList l items := ⟨_, hol', rfl, nl, rfl⟩
  have hlt : l < s.heap.objs.size := Heap.lt_size hol
  have hsz : (s.heap.push (nwT led)).objs.size = s.heap.objs.size + 1 := Heap.size_push _ _
  refine wpAny_pyIter_list hl1 (wpAny_bind (wpAny_runValue ?_))
  have hadl : ∀ i, i < items.size → ad i < s.heap.objs.size := fun i h => by
    obtain ⟨o, _, _, ho, _⟩ := hk i h
    exact Heap.lt_size ho
  have up2 : ∀ (b : Addr) (kk : List K), IsTupleKey knd s.heap kk b → IsTupleKey knd ((s.heap.push (nwT led)).push { cls := .type "list_iterator", data := .fields #[.ref l, .int 0 0] }) kk b := fun b kk ⟨o, its, m, ho, r⟩ => ⟨o, its, m, Heap.get?_push_of_some _ (Heap.get?_push_of_some _ ho), r⟩
  refine loopT (knd := knd) ((Walks.list (by simp [hh]) _ l (by rw [hsz]; exact Nat.ne_of_lt (Nat.lt_succ_of_lt hlt)) items).toS) s.heap.objs.size
    (by rw [hsz]; simp only [List.mem_cons, List.not_mem_nil, or_false, not_or]; exact ⟨Nat.ne_of_lt (Nat.lt_succ_self _), Nat.ne_of_gt hlt⟩) ks ad hn hP hb (by have h1 : A.in1.units = A.units + 1 := rfl; have h2 : A.in1.in1.units = A.units + 2 := rfl; have h3 : A.in1.in1.in1.units = A.units + 3 := rfl; omega)
    (fun i h => by rw [hsz]; simp only [List.mem_cons, List.not_mem_nil, or_false]; exact Nat.ne_of_lt (Nat.lt_succ_of_lt (hadl i h))) (items.size - 0) 0 _ (by omega) (Nat.zero_le _)
    ⟨⟨_, Heap.get?_push_size _ rfl, rfl, rfl⟩, hl1.push _⟩ ?setA (fun i h => up2 _ _ (hk i h)) ?setB
  case setA =>
    exact ⟨nwT led, #[], 0, .fresh 0 0 led, [], ⟨Heap.get?_push_of_some _ hS, ⟨rfl, rfl, rfl⟩, rfl, rfl, (fun _ h => by cases h), TI.fresh 0 0 led, by show 0 * 5 < 7 * 3; decide⟩, rfl, (fun k => by show k ∈ [] ↔ k ∈ dd ([] : List (List K)); exact Iff.rfl), fun _ h => by cases h⟩
  case setB =>
    rintro ⟨h', g', d', tk', os'⟩ hm hS'
    cases (show g' = s.gens from hm.gens)
    cases (show d' = s.drawn from hm.drawn)
    cases (show os' = s.os from hm.os)
    refine wpAny_pure (wpAny_pure ⟨_, rfl, h h' tk' (by obtain ⟨o, es, ep, t, xs, q1, q2, q3, _⟩ := hS'; exact ⟨o, es, ep, t, xs, q1, q2, q3, fun _ _ => trivial⟩) fun b o hlb e => ?_⟩)
    refine hm.heap b o ?_ (Heap.get?_push_of_some _ (Heap.get?_push_of_some _ e))
    rw [hsz]
    simp only [List.mem_cons, List.not_mem_nil, or_false, not_or]
    exact ⟨Nat.ne_of_lt hlb, Nat.ne_of_lt (Nat.lt_succ_of_lt hlb)⟩
set_option maxRecDepth 100000 in
set_option maxHeartbeats 3200000 in
theorem call_set_listT {l : Addr} {items : Array Value} {ks : List (List K)} {ad : Nat → Addr} {Q : Value → Shared → Prop} (hh : A.handled = none) (hl : s.heap.IsList l items) (hu : A.units + 16 < cLine) (hn : ks.length = items.size) (hb : items.size ≤ 76) (hP : ∀ (i : Nat) (v : Value), items[i]? = some v → v = .ref (ad i)) (hk : ∀ (i : Nat) (h : i < items.size), IsTupleKey knd s.heap (ks[i]'(by omega)) (ad i))
    (h : ∀ (h' : Heap) (tk : Nat), Holds knd h' s.heap.objs.size (fun _ => True) ks → (∀ b o, b < s.heap.objs.size → s.heap.get? b = some o → h'.get? b = some o) → Q (.ref s.heap.objs.size) { s with heap := h', toks := tk }) :
    wpAny (model prog w) A (call (.type "set") [.ref l]) Q E s := by
  obtain ⟨c, tl, g1⟩ := F.called_set.mro
  have g2 := F.called_set.made
  have g3 := F.called_set.sub
  have g4 := F.called_set.notType
  have g5 := F.called_set.canCreate
  have g6 := F.typeCall_set_1 (.ref l)
  refine wpAny_call (codeAny_of_tree (show wpAny _ _ (callAny (.type "set") _) _ _ _ from wpAny_pure ⟨Code.quiet_builtin _ (by decide +kernel), codeAny_builtin F.entry_type_call ?_⟩))
  rw [Around.under_plain (weight_type_call_type "set" [.ref l] []) rfl]
  repeat (any_goals (first | assumption | wp_step))
  generalize hL : (!w.params.followText "set-order") = led
  refine codeAny_mono (code_set_newT (.ref l) (E := E) (Q₁ := fun v t => v = .ref s.heap.objs.size ∧ t = { s with heap := s.heap.push (nwT led) }) ⟨rfl, by rw [hL]⟩) fun r t hr => ?_
  match r, hr with
  | .error e, hr => exact hr
  | .ok (.ret v), ⟨e1, e2⟩ =>
    subst e1 e2
    have hT : Shared.TypeIs { s with heap := s.heap.push (nwT led) } (.ref s.heap.objs.size) "set" := ⟨_, Heap.get?_push_size _ rfl, rfl⟩
    have g7 := F.called_set.init.lookup
    have g8 := F.called_set.init.bind (.ref s.heap.objs.size)
    repeat (any_goals (first | assumption | wp_step))
    refine codeAny_mono (codeAny_call_builtin (R := wants (fun r t => r = .none ∧ ∃ h' tk, t = { s with heap := h', toks := tk } ∧ Q (.ref s.heap.objs.size) { s with heap := h', toks := tk }) E) F.called_set.init.plain F.entry_set_init (check_set_init_1 hT ?_)) fun r2 t2 hr2 => ?_
    · refine wpAny_mono (set_init_listT (R := wants (fun r t => r = .none ∧ ∃ h' tk, t = { s with heap := h', toks := tk } ∧ Q (.ref s.heap.objs.size) { s with heap := h', toks := tk }) E) (by simp [hh]) hl (Nat.lt_of_le_of_lt (by show _ ≤ A.units + 16; simp only; omega) hu) hn hb hP hk fun h' tk a b => ⟨rfl, h', tk, rfl, h h' tk a b⟩) ?_ ?_
      · rintro fin t ⟨v, rfl, q⟩
        exact q
      · exact fun _ _ e => e
    · match r2, hr2 with
      | .error e, hr2 => exact hr2
      | .ok (.ret v), ⟨e1, h', tk, e2, q⟩ =>
        subst e1 e2
        repeat (any_goals (first | assumption | wp_step))
end
end ST
namespace L2
open PySem PySem.Spec PyProof.Rows ST
section
variable {X : Cx}
/-- a set of n unlike tuples -/
def stF (a : Addr) (n : Nat) : Heap → Prop := fun h => ∃ o es ep t, h.get? a = some o ∧ o.ExactSet ∧ o.data = .set es ep t ∧ t.fits es.size = true ∧ es.size = n ∧ n < 4096
theorem vals_ref : ∀ {bs : List (List Int × Addr)} {us : List Value}, Vals (bs.map fun q => V.ref q.2) us → us = bs.map fun q => Value.ref q.2
  | [], us, h => by cases h; rfl
  | q :: bs, us, h => by
    rw [List.map_cons] at h
    cases h with
    | cons h1 h2 =>
      cases h1
      rw [vals_ref h2]
      rfl
theorem itemsAre_ints {P : Program} {w : World} : ∀ {ns : List Int} {us : List Value}, Vals (ns.map V.int) us → ItemsAre (intKind P w) ns us
  | [], us, h => by cases h; exact .nil
  | n :: ns, us, h => by
    rw [List.map_cons] at h
    cases h with
    | cons h1 h2 =>
      obtain ⟨t, rfl⟩ := h1
      exact .cons (intKind_is _ _ _ _) (itemsAre_ints h2)
theorem call_setLT (hc : X.calm = true) {m : Nat} (hr : Room m X.A) : CallR X (.type "set") (fun xs H Q => ∃ (a : Addr) (bs : List (List Int × Addr)), xs = [.ref a] ∧ SqL X.K H a (bs.map fun q => V.ref q.2) ∧ (∀ q ∈ bs, SqT X.K H q.2 (q.1.map V.int)) ∧ bs.length ≤ 76 ∧ ∀ p, H p = none → Q (.ref p) (upd H p (.ext (stF p (dd (bs.map (·.1))).length)))) := by
  intro pins s σ H xs us Q I r h
  obtain ⟨a, bs, rfl, hq, ht, hl, q⟩ := h
  obtain ⟨u, rfl, rx⟩ := vals1 r
  cases rx
  obtain ⟨its, r', ⟨o, n, g1, g2, g3, g4⟩, hz⟩ := I.list hq
  have e := vals_ref r'
  subst e
  have hu := hr.units
  have hk : ∀ (i : Nat) (h : i < (bs.map fun q => Value.ref q.2).toArray.size), IsTupleKey (intKind X.prog X.w) s.heap ((bs.map (·.1))[i]'(by simpa using h)) ((fun i => (bs.getD i ([], 0)).2) i) := fun i h => by
    have hb : i < bs.length := by simpa using h
    have hm : bs[i] ∈ bs := List.getElem_mem hb
    obtain ⟨its, r1, ⟨o, w1, w2, w3, w4⟩, _⟩ := I.tuple (ht _ hm)
    have eg : bs.getD i ([], 0) = bs[i] := by rw [List.getD_eq_getElem?_getD, List.getElem?_eq_getElem hb]; rfl
    show IsTupleKey _ _ _ (bs.getD i ([], 0)).2
    rw [eg, List.getElem_map]
    exact ⟨o, its.toArray, w3, w1, w2, w4, by simpa using itemsAre_ints r1⟩
  refine call_set_listT (knd := intKind X.prog X.w) (ks := bs.map (·.1)) (ad := fun i => (bs.getD i ([], 0)).2) (items := (bs.map fun q => Value.ref q.2).toArray) (I.ok.hd hc) ⟨o, g1, g2, n, g4⟩ (by omega) (by simp) (by simpa using hl) (fun i v hv => ?_) hk fun h' tk hH kp => ?_
  · rw [List.getElem?_toArray, List.getElem?_map] at hv
    show v = .ref (bs.getD i ([], 0)).2
    rw [List.getD_eq_getElem?_getD]
    cases hb : bs[i]? with
    | none => rw [hb] at hv; cases hv
    | some q => rw [hb] at hv; cases hv; rfl
  · obtain ⟨o', es, ep, t, ys, SH, l1, _, _⟩ := hH
    have hsz : es.size = (dd (bs.map (·.1))).length := by rw [SH.size, l1]
    have hlt : (dd (bs.map (·.1))).length < 4096 := by
      have := dd_len (bs.map (·.1)) []
      unfold dd
      simp at this
      omega
    have φ : stF s.heap.objs.size (dd (bs.map (·.1))).length h' := ⟨o', es, ep, t, SH.get, SH.ex, SH.data, SH.fits, hsz, hlt⟩
    refine ⟨.ref s.heap.objs.size, _, I.laid (t' := tk) (fun b o z => kp b o (Heap.lt_size z) z) (Nat.le_refl _) (show ObjOk X.prog X.w _ h' _ (.ext (stF s.heap.objs.size (dd (bs.map (·.1))).length)) from ⟨φ, ⟨_, SH.get⟩, fun h1 h2 ⟨o, es, ep, t, z, r⟩ k => ⟨o, es, ep, t, k o z, r⟩⟩), rfl, q _ (I.hok.fresh (Nat.le_refl _))⟩
theorem call_lenLT : CallR X (.builtin "len") (fun xs H Q => ∃ p n, xs = [.ref p] ∧ H p = some (.ext (stF p n)) ∧ Q (.int (n : Nat)) H) := by
  intro pins s σ H xs us Q I r h
  obtain ⟨p, n, rfl, hp, q⟩ := h
  obtain ⟨u, rfl, rx⟩ := vals1 r
  cases rx
  obtain ⟨⟨o, es, ep, t, h1, h2, h3, h4, h5, h6⟩, _⟩ := I.hok p _ hp
  subst h5
  exact call_len_set h1 h2 h3 h4 (by omega) ⟨.int (es.size : Nat), H, I.tok _, ⟨s.toks + 1, rfl⟩, q⟩
end
end L2
namespace DL
open PySem PySem.Spec PyProof.Rows L2 ST
/-- len(set(e)), e a list of tuples of whole numbers -/
def dLenSetL (g : DE) : DE := fun L S k => g L S fun d S1 => match d with
  | .ref a => ∃ nss : List (List Int), S1 a = some (.lst (nss.map fun ns => D.tup (ns.map D.int))) ∧ nss.length ≤ 76 ∧ k (.int ((dd nss).length : Nat)) S1
  | _ => False
theorem isDs_tups {K : Fg} {H : Hp} : ∀ {nss : List (List Int)} {vs : List V}, IsDs K H (nss.map fun ns => D.tup (ns.map D.int)) vs → ∃ bs : List (List Int × Addr), bs.map (·.1) = nss ∧ vs = bs.map (fun q => V.ref q.2) ∧ ∀ q ∈ bs, SqT K H q.2 (q.1.map V.int)
  | [], vs, h => ⟨[], rfl, isNil.mp h, fun _ z => by cases z⟩
  | ns :: nss, vs, h => by
    obtain ⟨u, r, rfl, h1, h2⟩ := isCons.mp h
    obtain ⟨b, xs, rfl, t, j⟩ := isTup.mp h1
    have e := isDs_intsM j
    subst e
    obtain ⟨bs, e1, rfl, e3⟩ := isDs_tups h2
    refine ⟨(ns, b) :: bs, by rw [List.map_cons, e1], rfl, fun q hq => ?_⟩
    rcases List.mem_cons.mp hq with rfl | hq
    · exact t
    · exact e3 q hq
theorem d_lenSetLj {X : Cx} {n : Nat} (hr : Room n X.A) {e : Expr} {g : DE} {p1 p2 pos1 pos2 : Pos} (hc : X.calm = true) (hg1 : Gl X "len") (hm1 : X.mg "len" = none) (hv1 : bootBuiltins "len" = some (.builtin "len")) (hg2 : Gl X "set") (hm2 : X.mg "set" = none) (hv2 : bootBuiltins "set" = some (.type "set")) (he : EJ X e g)
    (s1 : starEach [e] X.env = (false, eval e X.env) :: starEach [] X.env := by exact star_cons rfl) (s2 : (backTo pos2 (starEach [] X.env)).any (·.1) = false := by exact star_any rfl)
    (s3 : starEach [.Call (.Name "set" p2) [e] [] pos2] X.env = (false, eval (.Call (.Name "set" p2) [e] [] pos2) X.env) :: starEach [] X.env := by exact star_cons rfl) (s4 : (backTo pos1 (starEach [] X.env)).any (·.1) = false := by exact star_any rfl) :
    EJ X (.Call (.Name "len" p1) [.Call (.Name "set" p2) [e] [] pos2] [] pos1) (dLenSetL g) :=
  ⟨PE.imp (pe_callB call_lenLT hg1 hm1 hv1 (pa_cons (pe_callTy (call_setLT hc hr) hg2 hm2 hv2 (pa_cons he.h pa_nil s1) (by decide) (by decide) s1 s2) pa_nil s3) (by decide) (by decide) s3 s4) fun σ H Q ⟨L, S, k, hL, hS, h, n⟩ => up.go hL hS h fun d S1 v H1 h1 k1 hL1 hS1 i1 => by
    cases d with
    | ref a =>
      obtain ⟨nss, z, hl, w⟩ := h1
      have e1 := isRef.mp i1
      subst e1
      obtain ⟨vs, q1, j⟩ := hS1.lst z
      obtain ⟨bs, rfl, rfl, ht⟩ := isDs_tups j
      refine ⟨_, bs, rfl, SqL.of q1, ht, by simpa using hl, fun p hp => ⟨p, _, rfl, upd_same, n _ S1 _ _ w (k1.trans (Kp.new hp)) (hS1.new hp) (isInt.mpr rfl)⟩⟩
    | _ => exact (show False from h1).elim⟩
end DL
/-! ## l.count(t), l a list of tuples of whole numbers -/
namespace L2
open PySem PySem.Spec PyProof.Rows ST
theorem count_list {prog : Program} {w : World} {A : Around} {E : Value → Shared → Prop} {s : Shared} {Q : Value → Shared → Prop} (l : Addr) (items : Array Value) (n : Nat) (x : Value) (e : Value → Bool) (hl : s.heap.get? l = some { cls := .type "list", dict := none, data := .seq items n, slots := #[] })
    (he : ∀ A' : Around, A'.units ≤ A.units + 8 → ∀ y, y ∈ items → SeqAt.EqAt A' s y x (e y)) (h : Q (.int (items.toList.countP e : Nat) s.toks) { s with toks := s.toks + 1 }) :
    wpAny (model prog w) A (call (.builtin "list.count") [.ref l, x]) Q E s := by
  have h1 := SeqAt.list_countAt l items n none #[] x e
  have h2 := @call_meets prog w A E s "list" "count" "list.count" _ (.ref l) [x] _ Q F.slot_list_count ⟨_, hl, rfl⟩ F.entry_list_count (F.args_list_count_2 _ _) h1
  refine h2 ⟨hl, fun y hy => he _ ?_ y hy, h⟩
  show A.units + _ ≤ A.units + 8
  omega
section
variable {X : Cx}
def keyIsT (bs : List (List Int × Addr)) (ns : List Int) : Value → Bool
  | .ref c => (bs.find? fun q => q.2 == c).any fun q => decide (q.1 = ns)
  | _ => false
def rCount (X : Cx) : V → List V → Hp → VK → Prop := fun x vs H Q => ∃ (l b : Addr) (bs : List (List Int × Addr)) (ns : List Int), x = .ref l ∧ vs = [.ref b] ∧ H l = some (.lst (bs.map fun q => V.ref q.2)) ∧ (∀ q ∈ bs, SqT X.K H q.2 (q.1.map V.int)) ∧ SqT X.K H b (ns.map V.int) ∧ Q (.int ((bs.map (·.1)).count ns : Nat)) H
theorem int_inj : ∀ {ns ms : List Int}, ns.map V.int = ms.map V.int → ns = ms
  | [], [], _ => rfl
  | [], _ :: _, h => by cases h
  | _ :: _, [], h => by cases h
  | n :: ns, m :: ms, h => by
    rw [List.map_cons, List.map_cons] at h
    injection h with h1 h2
    injection h1 with h1
    rw [h1, int_inj h2]
theorem mt_count {m : Nat} (hr : Room m X.A) : MtM X "list.count" (rCount X) := by
  intro pins s σ H x vs v us Q I rx rv h
  obtain ⟨l, b, bs, ns, rfl, rfl, hH, ht, hb, q⟩ := h
  cases rx
  obtain ⟨z, its, n, r, hl, e⟩ := I.lstM hH
  obtain ⟨u, rfl, ru⟩ := rv.one
  cases ru
  have ev := vals_ref r
  subst ev
  have key : ∀ {c : Addr} {ms : List Int}, SqT X.K H c (ms.map V.int) → ∀ (P : Program) (w : World), IsTupleKey (intKind P w) s.heap ms c := fun {c ms} h P w => by
    obtain ⟨its, r1, ⟨o, w1, w2, w3, w4⟩, _⟩ := I.tuple h
    exact ⟨o, its.toArray, w3, w1, w2, w4, by simpa using itemsAre_ints r1⟩
  have kv : ∀ q ∈ bs, keyIsT bs ns (.ref q.2) = decide (q.1 = ns) := fun q hq => by
    show (bs.find? fun q' => q'.2 == q.2).any (fun q => decide (q.1 = ns)) = _
    cases hf : bs.find? fun q' => q'.2 == q.2 with
    | none =>
      have := List.find?_eq_none.mp hf q hq
      simp at this
    | some q' =>
      have h1 := List.mem_of_find?_eq_some hf
      have h2 : q'.2 = q.2 := by simpa using List.find?_some hf
      have h3 : q'.1 = q.1 := int_inj (I.tuple_inj (by rw [← h2]; exact ht q' h1) (ht q hq))
      show decide (q'.1 = ns) = _
      rw [h3]
  have hu := hr.units
  refine count_list l (bs.map fun q => Value.ref q.2).toArray n (.ref b) (keyIsT bs ns) e (fun A' hA y hy => ?_) ?_
  · obtain ⟨q', hq', rfl⟩ := List.mem_map.mp (by simpa using hy : y ∈ bs.map fun q => Value.ref q.2)
    rw [kv q' hq']
    exact fun P w E Q hq => wpAny_eqBool_tuple (knd := intKind P w) (by omega) (key (ht q' hq') P w) (key hb P w) hq
  · have ec : (bs.map fun q => Value.ref q.2).toArray.toList.countP (keyIsT bs ns) = (bs.map (·.1)).count ns := by
      show (bs.map fun q => Value.ref q.2).countP (keyIsT bs ns) = (bs.map (·.1)).countP (· == ns)
      rw [List.countP_map, List.countP_map]
      refine List.countP_congr fun q hq => ?_
      show keyIsT bs ns (.ref q.2) = true ↔ (q.1 == ns) = true
      rw [kv q hq]
      simp
    rw [ec]
    exact ⟨.int ((bs.map (·.1)).count ns : Nat), H, I.tok _, ⟨s.toks, rfl⟩, q⟩
end
end L2
namespace DL
open PySem PySem.Spec PyProof.Rows L2 ST
def dCnt (go ge : DE) : DE := fun L S k => go L S fun d S1 => match d with
  | .ref a => (∃ ds, S1 a = some (.lst ds)) ∧ ge L S1 fun e S2 => ∃ (nss : List (List Int)) (ns : List Int), S2 a = some (.lst (nss.map fun ns => D.tup (ns.map D.int))) ∧ e = .tup (ns.map D.int) ∧ k (.int (nss.count ns : Nat)) S2
  | _ => False
section
variable {X : Cx} {o e1 : Expr} {go ge : DE} {apos cpos : Pos}
theorem d_cntj {m : Nat} (hr : Room m X.A) (ho : EJ X o go) (he : EJ X e1 ge) (hbase : attributeBase o "count" X.env (eval o X.env) = eval o X.env := by rfl)
    (hfew : ((backTo cpos (starEach [e1] X.env)).all (fun x => !x.1) && (backToKw cpos (keywordEach [] X.env)).all (fun x => x.1.isSome) && decide ([e1].length + ([] : List Keyword).length + (if ([] : List Keyword).isEmpty then 0 else 1) < 30)) = true := by rfl)
    (hline : (apos.endLine == cpos.line) = true := by rfl) (hs : starEach [e1] X.env = (false, eval e1 X.env) :: starEach [] X.env := by rfl) (hpl : (backTo cpos (starEach [] X.env)).any (·.1) = false := by rfl) :
    EJ X (.Call (.Attribute o "count" apos) [e1] [] cpos) (dCnt go ge) :=
  ⟨PE.imp (pe_bm PySem.F.plainAttrs_list PySem.F.slot_list_count PySem.F.type_list_count (mt_count hr) ho.h (pa_cons he.h pa_nil hs) hbase hfew hline hs hpl) fun σ H Q ⟨L, S, k, hL, hS, h, n⟩ => up.go hL hS h fun d S1 v H1 h1 k1 hL1 hS1 i1 => by
    cases d with
    | ref a =>
      have q1 := isRef.mp i1
      subst q1
      obtain ⟨⟨ds1, z1⟩, h1⟩ := h1
      obtain ⟨xs1, hl1, _⟩ := hS1.lst z1
      refine ⟨.inl ⟨rfl, xs1, SqL.of hl1⟩, up.go hL1 hS1 h1 fun d2 S2 v2 H2 h2 k2 hL2 hS2 i2 => ?_⟩
      obtain ⟨nss, ns, z, rfl, w⟩ := h2
      obtain ⟨b, ys, rfl, t, j2⟩ := isTup.mp i2
      have e := isDs_intsM j2
      subst e
      obtain ⟨xs, hl3, j⟩ := hS2.lst z
      obtain ⟨bs, rfl, rfl, ht⟩ := isDs_tups j
      exact ⟨a, b, bs, ns, rfl, rfl, hl3, ht, t, n _ _ _ _ w (k1.trans k2) hS2 (isInt.mpr rfl)⟩
    | _ => exact (show False from h1).elim⟩
end
end DL
/-! ## a op b op c op d, as a test -/
namespace L2
open PySem PySem.Spec PyProof.Rows
section
variable {X : Cx} {a b c d : Expr} {ta tb tc td : TE} {pos : Pos}
def tChain3 (r r' r'' : R2) (ta tb tc td : TE) : TE := fun σ H Q => ta σ H fun x H1 => tb σ H1 fun y H2 => r x y H2 fun z H3 => ∃ k, z = .bl k ∧
  (if k = true then tc σ H3 fun w' H4 => r' y w' H4 fun z' H5 => ∃ k', z' = .bl k' ∧ (if k' = true then td σ H5 fun u' H6 => r'' w' u' H6 Q else Q (.bl false) H5) else Q (.bl false) H3)
theorem pt_chain3 {op op' op'' : CmpOp} {r r' r'' : R2} (ho : OpR X (compareOp op) r) (ho' : OpR X (compareOp op') r') (ho'' : OpR X (compareOp op'') r'') (ha : PE X a ta) (hb : PE X b tb) (hc : PE X c tc) (hd : PE X d td)
    (hm : lastMarks [op, op', op''] [b, c, d] = false := by with_unfolding_all rfl) : PT X (.Compare a [op, op', op''] [b, c, d] pos) (tTest (tChain3 r r' r'' ta tb tc td)) := by
  intro pins s σ H Q I h
  refine isTrue_chain (thn (ha pins s σ H _ I h) fun v s1 ⟨x, H1, I1, r1, q1⟩ => test_link (thn (hb pins s1 σ H1 _ I1 q1) fun u s2 ⟨y, H2, I2, r2, q2⟩ =>
    thn (ho pins s2 σ H2 x y v u _ I2 r1 r2 q2) fun d s3 ⟨z, H3, I3, r3, k, e, q3⟩ => ?_)) hm
  subst e
  cases r3
  refine wpAny_truthy_bool ?_
  cases k with
  | false =>
    obtain ⟨k', e', q'⟩ := q3
    cases e'
    exact ite_ff ⟨H3, I3, q'⟩
  | true =>
    refine ite_tt (test_link (thn (hc pins s3 σ H3 _ I3 q3) fun w' s4 ⟨z', H4, I4, r4, q4⟩ => thn (ho' pins s4 σ H4 y z' u w' _ I4 r2 r4 q4) fun d' s5 ⟨z2, H5, I5, r5, k2, e2, q5⟩ => ?_))
    subst e2
    cases r5
    refine wpAny_truthy_bool ?_
    cases k2 with
    | false =>
      obtain ⟨k', e', q'⟩ := q5
      cases e'
      exact ite_ff ⟨H5, I5, q'⟩
    | true =>
      refine ite_tt (test_last (thn (hd pins s5 σ H5 _ I5 q5) fun w6 s6 ⟨z6, H6, I6, r6, q6⟩ => thn (ho'' pins s6 σ H6 z' z6 w' w6 _ I6 r4 r6 q6) fun d7 s7 ⟨z7, H7, I7, r7, k7, e7, q7⟩ => ?_))
      subst e7
      cases r7
      exact wpAny_truthy_bool ⟨H7, I7, q7⟩
end
end L2
namespace DL
open PySem PySem.Spec PyProof.Rows L2
section
variable {X : Cx} {a b c d : Expr} {ga gb gc gd : DE} {pos : Pos}
def dLink (r : D2) (y w : D) (S : DH) (k : Bool → DH → Prop) : Prop := r y w S fun z S1 => match z with
  | .bl t => k t S1
  | _ => False
def dChain3 (r r' r'' : D2) (ga gb gc gd : DE) : DE := fun L S k => ga L S fun x S1 => gb L S1 fun y S2 => dLink r x y S2 fun t S3 => if t = true then gc L S3 fun w S4 => dLink r' y w S4 fun t' S5 => if t' = true then gd L S5 fun u S6 => r'' w u S6 k else k (.bl false) S5 else k (.bl false) S3
theorem dChain3_go {K : Fg} {r r' r'' : D2} : ∀ σ H Q, up K (dChain3 r r' r'' ga gb gc gd) σ H Q → tChain3 (upR K r) (upR K r') (upR K r'') (up K ga) (up K gb) (up K gc) (up K gd) σ H Q := fun σ H Q ⟨L, S, k, hL, hS, h, n⟩ =>
  up.go hL hS h fun d S1 v H1 h1 k1 hL1 hS1 i1 => up.go hL1 hS1 h1 fun e S2 u H2 h2 k2 hL2 hS2 i2 => ⟨d, e, S2, _, i1.kp k2, i2, hS2, h2, fun z S3 w H3 q k3 hS3 i3 => by
    cases z with
    | bl t =>
      refine ⟨t, isBl.mp i3, ?_⟩
      have q' : if t = true then gc L S3 (fun w S4 => dLink r' e w S4 fun t' S5 => if t' = true then gd L S5 fun u S6 => r'' w u S6 k else k (.bl false) S5) else k (.bl false) S3 := q
      cases t with
      | false =>
        rw [if_neg Bool.false_ne_true] at q' ⊢
        exact n _ _ _ _ q' (k1.trans (k2.trans k3)) hS3 (isBl.mpr rfl)
      | true =>
        rw [if_pos rfl] at q' ⊢
        refine up.go (hL2.kp k3) hS3 q' fun f S4 w4 H4 h4 k4 hL4 hS4 i4 => ⟨e, f, S4, _, i2.kp (k3.trans k4), i4, hS4, h4, fun z5 S5 w5 H5 q5 k5 hS5 i5 => ?_⟩
        cases z5 with
        | bl t5 =>
          refine ⟨t5, isBl.mp i5, ?_⟩
          have q6 : if t5 = true then gd L S5 (fun u S6 => r'' f u S6 k) else k (.bl false) S5 := q5
          cases t5 with
          | false =>
            rw [if_neg Bool.false_ne_true] at q6 ⊢
            exact n _ _ _ _ q6 (k1.trans (k2.trans (k3.trans (k4.trans k5)))) hS5 (isBl.mpr rfl)
          | true =>
            rw [if_pos rfl] at q6 ⊢
            exact up.go (hL4.kp k5) hS5 q6 fun g S7 w7 H7 h7 k7 hL7 hS7 i7 => ⟨f, g, S7, k, i4.kp (k5.trans k7), i7, hS7, h7, fun d' S' v' H' q k8 z1 z2 => n d' S' v' H' q (k1.trans (k2.trans (k3.trans (k4.trans (k5.trans (k7.trans k8)))))) z1 z2⟩
        | _ => exact (show False from q5).elim
    | _ => exact (show False from q).elim⟩
theorem dt_chain3j {op op' op'' : CmpOp} {r r' r'' : D2} (ho : OpR X (compareOp op) (upR X.K r)) (ho' : OpR X (compareOp op') (upR X.K r')) (ho'' : OpR X (compareOp op'') (upR X.K r'')) (ha : EJ X a ga) (hb : EJ X b gb) (hc : EJ X c gc) (hd : EJ X d gd)
    (hm : lastMarks [op, op', op''] [b, c, d] = false := by with_unfolding_all rfl) : TJ X (.Compare a [op, op', op''] [b, c, d] pos) (dTest (dChain3 r r' r'' ga gb gc gd)) :=
  ⟨PT.imp (pt_chain3 ho ho' ho'' ha.h hb.h hc.h hd.h hm) fun σ H Q ⟨L, S, k, hL, hS, h, n⟩ => dChain3_go σ H _ ⟨L, S, _, hL, hS, h, fun d S' v H' q k1 hS1 i1 => by
    cases d with
    | bl t => exact ⟨t, isBl.mp i1, n t S' H' q k1 hS1⟩
    | _ => exact (show False from q).elim⟩⟩
end
end DL
/-! ## tuple(range(n)) -/
namespace PySem
open PySem.Spec
section
variable {prog : Program} {w : World} {A : Around} {E : Value → Shared → Prop} {s : Shared}
theorem collect_rcode {R : Result → Shared → Prop} {r : Addr} {a b c : Int} {t u v : Tok} {n : Nat} (hh : A.handled = none) (hr : IsRange s.heap r a b c t u v) (hsmall : Builtin.Range.small a b c = true) (hn : Builtin.Range.rangeSize a b c = n) (hlen : n ≤ 2 ^ 24)
    (hR : ∀ (h' : Heap) (tk : Nat) (acc : Array Value) (c' : Nat), (∀ b o, s.heap.get? b = some o → h'.get? b = some o) → h'.get? s.heap.objs.size = some { cls := .type "list", dict := none, data := .seq acc c', slots := #[] } → ItemsOf (fun i v => ∃ t, v = .int (a + i * c) t) acc n → R (.ok (.ret (.ref s.heap.objs.size))) { s with heap := h', toks := tk }) :
    codeAny (model prog w) A (.builtin "proto.collect" ⟨[.ref r], []⟩) R s := by
  refine codeAny_builtin F.entry_proto_collect ?_
  rw [Around.under_plainId F.plain_proto_collect _]
  show wpAny _ A.in1 (newList [] >>= fun l => again (.builtin "list.__iadd__" ⟨[l, .ref r], []⟩)) _ _ s
  refine wpAny_bind (wpAny_newObj_type ?_)
  refine wpAny_pure ⟨plainId_quiet F.plain_list_iadd _, codeAny_builtin F.entry_list_iadd ?_⟩
  rw [Around.under_plainId F.plain_list_iadd _]
  have hS : (s.heap.push { cls := .type "list", data := .seq ([] : List Value).toArray }).get? s.heap.objs.size = some { cls := .type "list", data := .seq ([] : List Value).toArray } := Heap.get?_push_size _ rfl
  show wpAny _ A.in1 (Builtin.List.listExtendWith (.ref s.heap.objs.size) (.ref r) (.ref s.heap.objs.size)) _ _ _
  exact wpAny_extend_range (s := { s with heap := s.heap.push { cls := .type "list", data := .seq ([] : List Value).toArray } }) (R := R) hh (Heap.get?_push_of_some _ hr) hsmall hn hlen _ _ _ hS fun h' tk acc c' hk hS' hacc => hR h' tk acc c' (fun b o e => hk b o (Nat.ne_of_lt (Heap.lt_size e)) (Heap.get?_push_of_some _ e)) hS' hacc
theorem collect_range {Q : List Value → Shared → Prop} {r : Addr} {a b c : Int} {t u v : Tok} {n : Nat} (hh : A.handled = none) (hr : IsRange s.heap r a b c t u v) (hsmall : Builtin.Range.small a b c = true) (hn : Builtin.Range.rangeSize a b c = n) (hlen : n ≤ 2 ^ 24)
    (hQ : ∀ (h' : Heap) (tk : Nat) (acc : Array Value), s.heap.objs.size ≤ h'.objs.size → (∀ b o, s.heap.get? b = some o → h'.get? b = some o) → ItemsOf (fun i v => ∃ t, v = .int (a + i * c) t) acc n → Q acc.toList { s with heap := h', toks := tk }) : wpAny (model prog w) A (collect (.ref r)) Q E s := by
  unfold collect
  refine wpAny_bind (wpAny_runValue (collect_rcode hh hr hsmall hn hlen fun h' tk acc c' hk hS' hacc => ?_))
  show wpAny _ A (load s.heap.objs.size >>= _) _ _ _
  refine wpAny_bind (wpAny_load hS' ?_)
  exact wpAny_pure (hQ h' tk acc (Nat.le_of_lt (Heap.lt_size hS')) hk hacc)
theorem call_tuple_range {Q : Value → Shared → Prop} {r : Addr} {a b c : Int} {t u v : Tok} {n : Nat} (hh : A.handled = none) (hr : IsRange s.heap r a b c t u v) (hsmall : Builtin.Range.small a b c = true) (hn : Builtin.Range.rangeSize a b c = n) (hlen : n ≤ 200)
    (hQ : ∀ (h' : Heap) (tk : Nat) (acc : Array Value), s.heap.objs.size ≤ h'.objs.size → (∀ b o, s.heap.get? b = some o → h'.get? b = some o) → ItemsOf (fun i v => ∃ t, v = .int (a + i * c) t) acc n → Q (.ref h'.objs.size) { s with heap := h'.push { cls := .type "tuple", data := .seq acc }, toks := tk }) : wpAny (model prog w) A (call (.type "tuple") [.ref r]) Q E s := by
  have hz : n ≤ sizeLine := Nat.le_trans hlen (Nat.le_of_ble_eq_true (rfl : Nat.ble 200 sizeLine = true))
  refine callType_codes (Q₁ := fun obj s₁ => s₁.TypeIs obj "tuple" ∧ Q obj s₁) F.called_tuple (F.typeCall_tuple_1 _) F.entry_object_init ?_ fun obj s₁ h₁ => ?_
  · refine codeAny_of_tree ?_
    show wpAny _ _ (do checkBuiltinCall "tuple.__new__" ⟨[.type "tuple", .ref r], []⟩; again (.builtin "tuple.__new__" ⟨[.type "tuple", .ref r], []⟩)) _ _ s
    refine wpAny_bind (wpAny_of_eq (F.newCall_tuple_1 _) (wpAny_pure ⟨plainId_quiet F.plain_tuple_new _, codeAny_builtin F.entry_tuple_new ?_⟩))
    rw [Around.under_plainId F.plain_tuple_new _]
    have hsub := sub_tuple_self
    have hinit := init_tuple_lookup
    have hmh := madeHere_tuple
    have hTI : s.TypeIs (.ref r) "range" := ⟨_, hr, rfl⟩
    wp_walk using wpAny_typeOf hTI, collect_range (by simpa using hh) hr hsmall hn (by omega)
    intro h' tk acc hle hk hacc
    show wpAny _ _ (Builtin.Tuple.tupleExact acc.toList.toArray >>= fun v => ret v) _ _ _
    unfold Builtin.Tuple.tupleExact
    refine wpAny_bind (wpAny_newObj_type ?_ (by show acc.toList.toArray.size ≤ sizeLine; simp only [Array.toArray_toList]; rw [hacc.1]; exact hz))
    refine wpAny_pure ?_
    have e : acc.toList.toArray = acc := by simp
    rw [e]
    exact ⟨⟨_, Heap.get?_push_size _ rfl, rfl⟩, hQ h' tk acc hle hk hacc⟩
  · exact ⟨h₁.1, F.args_object_init_2 obj _, object_init_meets F.called_tuple.init.lookup F.called_tuple.made (by decide) prog w A.in1 _ s₁ ⟨h₁.1, rfl, h₁.2⟩⟩
end
end PySem
namespace L2
open PySem PySem.Spec PyProof.Rows
section
variable {X : Cx}
theorem vals_byget : ∀ {xs : List V} {us : List Value}, xs.length = us.length → (∀ (i : Nat) x u, xs[i]? = some x → us[i]? = some u → RelV x u) → Vals xs us
  | [], [], _, _ => .nil
  | [], _ :: _, h, _ => by cases h
  | _ :: _, [], h, _ => by cases h
  | x :: xs, u :: us, h, r => .cons (r 0 x u rfl rfl) (vals_byget (by simpa using h) fun i y v h1 h2 => r (i + 1) y v (by simpa using h1) (by simpa using h2))
theorem call_rng : CallR X (.type "range") (fun xs H Q => ∃ j : Int, xs = [.int j] ∧ ∀ p, H p = none → Q (.ref p) (upd H p (.rng 0 j))) := by
  intro pins s σ H xs us Q I r h
  obtain ⟨j, rfl, q⟩ := h
  obtain ⟨u, rfl, rx⟩ := vals1 r
  obtain ⟨t, rfl⟩ := rx
  exact call_range_1 ⟨.ref s.heap.objs.size, _, I.laid (a := s.heap.objs.size) (o := .rng 0 j) (t' := s.toks + 1 + 1) (fun b o z => Heap.get?_push_of_some _ z) (Nat.le_refl _) ⟨_, _, _, Heap.get?_push_size _ rfl⟩, rfl, q _ (I.hok.fresh (Nat.le_refl _))⟩
theorem call_tupRng (hc : X.calm = true) : CallR X (.type "tuple") (fun xs H Q => ∃ (a : Addr) (j : Int), xs = [.ref a] ∧ H a = some (.rng 0 j) ∧ 0 ≤ j ∧ j ≤ 100 ∧ ∀ p, H p = none → Q (.ref p) (upd H p (.tup ((List.range j.toNat).map fun i => V.int (i : Nat))))) := by
  intro pins s σ H xs us Q I r h
  obtain ⟨a, j, rfl, hH, j0, j1, q⟩ := h
  obtain ⟨u, rfl, rx⟩ := vals1 r
  cases rx
  obtain ⟨t, u, v, e⟩ := I.hok a _ hH
  have hn : Builtin.Range.rangeSize 0 j 1 = (j.toNat : Nat) := by
    rw [rangeSize_one]
    split <;> omega
  refine call_tuple_range (I.ok.hd hc) e (small_one (by decide) (by decide) (by omega) (by omega)) hn (by omega) fun h' tk acc hle hk hacc => ?_
  have hz : ((List.range j.toNat).map fun i => V.int (i : Nat)).length ≤ sizeLine := by
    rw [List.length_map, List.length_range]
    exact Nat.le_trans (show j.toNat ≤ 100 by omega) (Nat.le_of_ble_eq_true (rfl : Nat.ble 100 sizeLine = true))
  have hv : Vals ((List.range j.toNat).map fun i => V.int (i : Nat)) acc.toList := by
    refine vals_byget (by rw [List.length_map, List.length_range, Array.length_toList, hacc.1]) fun i x u h1 h2 => ?_
    obtain ⟨t', rfl⟩ := hacc.2 i u (by simpa using h2)
    rw [List.getElem?_map] at h1
    cases h3 : (List.range j.toNat)[i]? with
    | none => rw [h3] at h1; cases h1
    | some k =>
      rw [h3] at h1
      cases h1
      have hk : k = i := by
        have := List.getElem?_eq_some_iff.mp h3
        obtain ⟨hl, hk⟩ := this
        simpa using hk.symm
      subst hk
      refine ⟨t', ?_⟩
      congr 1
      omega
  exact ⟨.ref h'.objs.size, _, I.laid (a := h'.objs.size) (o := .tup ((List.range j.toNat).map fun i => V.int (i : Nat))) (t' := tk) (fun b o z => Heap.get?_push_of_some _ (hk b o z)) hle ⟨hz, acc.toList, hv, ⟨_, Heap.get?_push_size _ rfl, rfl, 0, by simp⟩⟩, rfl, q _ (I.hok.fresh hle)⟩
end
end L2
namespace DL
open PySem PySem.Spec PyProof.Rows L2
theorem bt_range : bootBuiltins "range" = some (.type "range") := by decide +kernel
def dTupR (g : DE) : DE := fun L S k => g L S fun d S1 => match d with
  | .int n => 0 ≤ n ∧ n ≤ 100 ∧ k (.tup (((List.range n.toNat).map fun i => ((i : Nat) : Int)).map D.int)) S1
  | _ => False
theorem d_tupRj {X : Cx} {e : Expr} {g : DE} {p1 p2 pos1 pos2 : Pos} (hc : X.calm = true) (hg1 : Gl X "tuple") (hm1 : X.mg "tuple" = none) (hv1 : bootBuiltins "tuple" = some (.type "tuple")) (hg2 : Gl X "range") (hm2 : X.mg "range" = none) (he : EJ X e g)
    (s1 : starEach [e] X.env = (false, eval e X.env) :: starEach [] X.env := by exact star_cons rfl) (s2 : (backTo pos2 (starEach [] X.env)).any (·.1) = false := by exact star_any rfl)
    (s3 : starEach [.Call (.Name "range" p2) [e] [] pos2] X.env = (false, eval (.Call (.Name "range" p2) [e] [] pos2) X.env) :: starEach [] X.env := by exact star_cons rfl) (s4 : (backTo pos1 (starEach [] X.env)).any (·.1) = false := by exact star_any rfl) :
    EJ X (.Call (.Name "tuple" p1) [.Call (.Name "range" p2) [e] [] pos2] [] pos1) (dTupR g) :=
  ⟨PE.imp (pe_callTy (call_tupRng hc) hg1 hm1 hv1 (pa_cons (pe_callTy call_rng hg2 hm2 bt_range (pa_cons he.h pa_nil s1) (by decide) (by decide) s1 s2) pa_nil s3) (by decide) (by decide) s3 s4) fun σ H Q ⟨L, S, k, hL, hS, h, n⟩ => up.go hL hS h fun d S1 v H1 h1 k1 hL1 hS1 i1 => by
    cases d with
    | int j =>
      obtain ⟨j0, j1, w⟩ := h1
      have ex := isInt.mp i1
      subst ex
      refine ⟨j, rfl, fun p hp => ⟨p, j, rfl, upd_same, j0, j1, fun q hq => ?_⟩⟩
      have hS2 := hS1.new (o := .rng 0 j) hp
      refine n _ _ _ _ w ((k1.trans (Kp.new hp)).trans (Kp.new hq)) (hS2.new hq) (isTup.mpr ⟨q, _, rfl, SqT.of upd_same, ?_⟩)
      have : ((List.range j.toNat).map fun i => V.int ((i : Nat) : Int)) = ((List.range j.toNat).map fun i => ((i : Nat) : Int)).map V.int := by rw [List.map_map]; rfl
      rw [this]
      exact ints_isDsM
    | _ => exact (show False from h1).elim⟩
end DL
/-! ## t[::-1] of a tuple -/
namespace HT
open PySem PyProof.Rows
section
variable {prog : Program} {w : World} {A : Around} {E : Value → Shared → Prop} {s : Shared}
theorem adjust_rev (n : Nat) : Builtin.Slice.sliceAdjust none none (-1) (n : Int) = ((n : Int) - 1, -1) := by
  unfold Builtin.Slice.sliceAdjust
  simp
theorem places_rev (n : Nat) : Builtin.Slice.slicePlaces ((n : Int) - 1) (-1) (-1) = n := by
  unfold Builtin.Slice.slicePlaces
  simp
  split <;> omega
theorem pick_rev (its : List Value) : ((List.range its.toArray.size).filterMap fun (k : Nat) => its.toArray[(((its.toArray.size : Nat) : Int) - 1 + (k : Int) * -1).toNat]?).toArray = its.reverse.toArray := by
  congr 1
  rw [← L2.fm_rev its]
  have e : its.toArray.size = its.length := by simp
  rw [e]
  have fc : ∀ (l : List Nat) (f g : Nat → Option Value), (∀ k ∈ l, f k = g k) → l.filterMap f = l.filterMap g := fun l f g h => by
    induction l with
    | nil => rfl
    | cons a l ih => rw [List.filterMap_cons, List.filterMap_cons, h a List.mem_cons_self, ih fun k hk => h k (List.mem_cons_of_mem _ hk)]
  refine fc _ _ _ fun k hk => ?_
  have := List.mem_range.mp hk
  have e2 : (((its.length : Nat) : Int) - 1 + (k : Int) * -1).toNat = its.length - 1 - k := by omega
  rw [e2]
  simp
theorem sliceApplied_rev {sl : Addr} {n : Nat} {u : Tok} {Q : Int × Int × Nat → Shared → Prop} (hs : s.heap.IsSliceOf sl .none .none (.int (-1) u)) (h : Q ((n : Int) - 1, -1, n) s) :
    wpAny (model prog w) A (Builtin.Slice.sliceApplied (.ref sl) (pure (n : Int))) Q E s := by
  obtain ⟨os, hos, hcs, hds⟩ := id hs
  unfold Builtin.Slice.sliceApplied Builtin.Slice.sliceFields
  refine wpAny_bind (wpAny_bind (wpAny_field hos hds (x := .none) rfl (wpAny_bind (wpAny_field hos hds (x := .none) rfl (wpAny_bind (wpAny_field hos hds (x := .int (-1) u) rfl (wpAny_pure ?_)))))))
  refine wpAny_bind (slicePart_int ?_)
  show wpAny _ _ (if ((-1 : Int) == 0) = true then _ else _) _ _ s
  rw [if_neg (by decide)]
  refine wpAny_bind (slicePart_none (wpAny_bind (slicePart_none (wpAny_bind (wpAny_pure ?_)))))
  show wpAny _ _ (match Builtin.Slice.sliceAdjust none none (-1) (n : Int) with | (lo, hi) => pure (lo, (-1 : Int), Builtin.Slice.slicePlaces lo hi (-1))) _ _ s
  rw [adjust_rev n]
  show wpAny _ _ (pure ((n : Int) - 1, (-1 : Int), Builtin.Slice.slicePlaces ((n : Int) - 1) (-1) (-1))) _ _ s
  rw [places_rev n]
  exact wpAny_pure h
theorem getItem_tuple_rev {t sl : Addr} {its : List Value} {u : Tok} {Q : Value → Shared → Prop} (ht : IsTup s.heap t its.toArray) (hs : s.heap.IsSliceOf sl .none .none (.int (-1) u)) (hsz : its.length ≤ sizeLine)
    (h : Q (.ref s.heap.objs.size) { s with heap := s.heap.push { cls := .type "tuple", data := .seq its.reverse.toArray } }) : wpAny (model prog w) A (getItem (.ref t) (.ref sl)) Q E s := by
  have hdrop : sizeOk (.seq its.reverse.toArray) := by
    show its.reverse.toArray.size ≤ sizeLine
    rw [List.size_toArray, List.length_reverse]
    exact hsz
  obtain ⟨os, hos, hcs, hds⟩ := id hs
  have hTs : s.TypeIs (.ref sl) "slice" := ⟨os, hos, hcs⟩
  unfold getItem
  try with_reducible refine wpAny_holding ?_
  first | refine wpAny_bind (wpAny_pure ?_) | skip
  refine wpAny_bind (wpAny_sequenceKey ht.typeIs (by decide) ?_)
  refine wpAny_bind (wpAny_callSpecial?_slot (name := Str.ofString "__getitem__") ht.typeIs PyProof.Rows.slot_tuple_getitem
    (wpAny_call_entry PyProof.Rows.slot_tuple_getitem ht.typeIs entry_tuple_getitem ?_ (args_tuple_getitem _ _)))
  show wpAny _ _ (Builtin.Tuple.tupleItemsOf (.ref t) >>= _) _ _ s
  refine wpAny_bind (tupleItemsOf_ ht (wpAny_bind (wpAny_typeOf hTs ?_)))
  rw [if_pos (by decide)]
  refine wpAny_bind (sliceApplied_rev hs ?_)
  show wpAny _ _ (if ((((its.toArray.size : Nat) : Int) - 1 == 0) && (-1 : Int) == 1 && its.toArray.size == its.toArray.size) = true then _ else _) _ _ s
  rw [if_neg (by simp), pick_rev]
  first
    | exact wpAny_bind (m := Builtin.Tuple.tupleExact _) (wpAny_newObj_type (wpAny_pure ⟨_, rfl, wpAny_pure h⟩) hdrop)
    | exact wpAny_bind (m := Builtin.Tuple.tupleExact _) (wpAny_newObj_type (wpAny_bind (wpAny_pure (wpAny_pure ⟨_, rfl, wpAny_pure h⟩))) hdrop)
    | exact wpAny_bind (wpAny_bind (m := Builtin.Tuple.tupleExact _) (wpAny_newObj_type (wpAny_pure (wpAny_pure ⟨_, rfl, wpAny_pure h⟩)) hdrop))
end
end HT
namespace L2
open PySem PySem.Spec PyProof.Rows
section
variable {X : Cx} {e st : Expr} {te ts : TE} {p2 pos : Pos}
def tRevT (K : PySem.W.Frag) (te ts : TE) : TE := fun σ H Q => te σ H fun x H1 => ts σ H1 fun y H2 => y = .int (-1) ∧ ∃ a xs, x = .ref a ∧ SqT K H2 a xs ∧ ∀ p, H2 p = none → Q (.ref p) (upd H2 p (.tup xs.reverse))
theorem pe_revT (he : PE X e te) (hs : PE X st ts) : PE X (.Subscript e (.Slice none none (some st) p2) pos) (tRevT X.K te ts) := by
  intro pins s σ H Q I h
  refine Subscript_ (thn (he pins s σ H _ I h) fun v s1 ⟨x, H1, I1, r1, q1⟩ => ?_)
  refine wpAny_Slice ?_
  rw [evalPart_none]
  refine wpAny_pure (wpAny_pure ?_)
  rw [evalPart_some]
  refine thn (hs pins s1 σ H1 _ I1 q1) fun vs s3 ⟨y, H3, I3, r3, q3⟩ => ?_
  obtain ⟨rfl, a, xs, rfl, hx, q⟩ := q3
  obtain ⟨t, rfl⟩ := r3
  cases r1
  have I4 : Inv X pins σ H3 { s3 with heap := s3.heap.push { cls := .type "slice", data := .fields #[.none, .none, .int (-1) t] } } := I3.kept (t' := s3.toks) fun b ob q => Heap.get?_push_of_some _ q
  obtain ⟨its, r, ht, hz⟩ := I4.tuple hx
  have hlen := r.length
  show wpAny (model X.prog X.w) X.A (subscriptTail e (.Slice none none (some st) p2) (.ref a) (.ref s3.heap.objs.size)) (EP X pins σ Q) X.xe { s3 with heap := s3.heap.push { cls := .type "slice", data := .fields #[.none, .none, .int (-1) t] } }
  refine tail_any (ops := [.ref a, .ref s3.heap.objs.size]) ht.typeIs PyProof.Rows.slot_tuple_getitem.lookup ?_ (by with_unfolding_all rfl)
  refine HT.getItem_tuple_rev ht (Heap.IsSliceOf.new ..) (by omega) ?_
  refine ⟨.ref _, upd H3 _ (.tup xs.reverse), I4.laid (t' := s3.toks) (o := .tup xs.reverse) (fun b ob q => Heap.get?_push_of_some _ q) (Nat.le_refl _) ?_, rfl, q _ (I4.hok.fresh (Nat.le_refl _))⟩
  exact ⟨by rw [List.length_reverse]; exact hz, _, r.rev, IsTup.new _ _⟩
end
end L2
namespace DL
open PySem PySem.Spec PyProof.Rows L2
def dRevT (ge gs : DE) : DE := fun L S k => ge L S fun d S1 => gs L S1 fun y S2 => y = .int (-1) ∧ match d with
  | .tup xs => k (.tup xs.reverse) S2
  | _ => False
theorem d_revTj {X : Cx} {e st : Expr} {ge gs : DE} {p2 pos : Pos} (he : EJ X e ge) (hs : EJ X st gs) : EJ X (.Subscript e (.Slice none none (some st) p2) pos) (dRevT ge gs) :=
  ⟨PE.imp (pe_revT he.h hs.h) fun σ H Q ⟨L, S, k, hL, hS, h, n⟩ => up.go hL hS h fun d S1 v H1 h1 k1 hL1 hS1 i1 => up.go hL1 hS1 h1 fun y S2 v2 H2 h2 k2 hL2 hS2 i2 => by
    obtain ⟨rfl, h2⟩ := h2
    refine ⟨isInt.mp i2, ?_⟩
    cases d with
    | tup xs =>
      obtain ⟨a, vs, rfl, t, j⟩ := isTup.mp i1
      refine ⟨a, vs, rfl, k2.tup t, fun p hp => ?_⟩
      have k4 : Kp H2 (upd H2 p (.tup vs.reverse)) := Kp.new hp
      exact n _ S2 _ _ h2 (k1.trans (k2.trans k4)) (hS2.new hp) (isTup.mpr ⟨p, _, rfl, SqT.of upd_same, ((j.kp k2).rev).kp k4⟩)
    | _ => exact h2.elim⟩
end DL
namespace My
open PySem PySem.Spec PyProof.Rows L2 DL HM
set_option maxHeartbeats 4000000
def top (i : Nat) : Stmt := PySem.Challenge.pw_hingedraw_k31_linkages_looked_at.main.body.getD i (.Pass ⟨0, 0, 0, 0⟩)
abbrev s_common_divisor : Stmt := top 4
abbrev s__law_cell_at : Stmt := top 15
abbrev s__law_state : Stmt := top 16
abbrev s__law_take : Stmt := top 17
abbrev s__law_divisor : Stmt := top 18
abbrev s__law_ratio : Stmt := top 19
abbrev s_is_whole : Stmt := top 1
abbrev s_is_fraction : Stmt := top 2
abbrev s_is_above_nought : Stmt := top 3
abbrev s_is_joint : Stmt := top 8
abbrev s_is_rod : Stmt := top 10
abbrev s_are_fixed : Stmt := top 9
abbrev s_are_rods : Stmt := top 11
abbrev s_is_linkage : Stmt := top 12
abbrev s__law_fraction : Stmt := top 23
abbrev s__law_plain_point : Stmt := top 24
abbrev s__law_linkage : Stmt := top 25
abbrev s_freedom : Stmt := top 13
abbrev s__law_whole : Stmt := top 26
abbrev s__law_is_rod : Stmt := top 27
abbrev s__law_due : Stmt := top 28
abbrev s__law_bent : Stmt := top 29
abbrev s_law : Stmt := top 30
theorem bt_abs : bootBuiltins "abs" = some (.builtin "abs") := by decide +kernel
theorem bt_len : bootBuiltins "len" = some (.builtin "len") := by decide +kernel
theorem bt_isinstance : bootBuiltins "isinstance" = some (.builtin "isinstance") := by decide +kernel
theorem bt_bool : bootBuiltins "bool" = some (.type "bool") := by decide +kernel
theorem bt_int : bootBuiltins "int" = some (.type "int") := by decide +kernel
theorem bt_tuple : bootBuiltins "tuple" = some (.type "tuple") := by decide +kernel
theorem bt_all : bootBuiltins "all" = some (.builtin "all") := by decide +kernel
theorem bt_range : bootBuiltins "range" = some (.type "range") := by decide +kernel
theorem bt_sorted : bootBuiltins "sorted" = some (.builtin "sorted") := by decide +kernel
theorem bt_set : bootBuiltins "set" = some (.type "set") := by decide +kernel
theorem bt_list : bootBuiltins "list" = some (.type "list") := by decide +kernel
theorem bt_str : bootBuiltins "str" = some (.type "str") := by decide +kernel
/-! ### helps -/
theorem ite_ne {y : Int} {A B : Prop} (h1 : y ≠ 0 → A) (h2 : y = 0 → B) : if (!decide (y = 0)) = true then A else B := by
  by_cases h : y = 0
  · rw [if_neg (by simp [h])]; exact h2 h
  · rw [if_pos (by simp [h])]; exact h1 h
theorem ite_dec {p : Prop} [Decidable p] {A B : Prop} (h1 : p → A) (h2 : ¬ p → B) : if decide p = true then A else B := by
  by_cases h : p
  · rw [if_pos (by simp [h])]; exact h1 h
  · rw [if_neg (by simp [h])]; exact h2 h
theorem ite_ndec {p : Prop} [Decidable p] {A B : Prop} (h1 : ¬ p → A) (h2 : p → B) : if (!decide p) = true then A else B := by
  by_cases h : p
  · rw [if_neg (by simp [h])]; exact h2 h
  · rw [if_pos (by simp [h])]; exact h1 h
theorem ite_b {c : Bool} {A B : Prop} (h1 : c = true → A) (h2 : c = false → B) : if c = true then A else B := by
  cases c
  · exact iteF (h2 rfl)
  · exact iteT (h1 rfl)
theorem ite_nb {c : Bool} {A B : Prop} (h1 : c = false → A) (h2 : c = true → B) : if (!c) = true then A else B := by
  cases c
  · exact iteT (h1 rfl)
  · exact iteF (h2 rfl)
theorem atI_mem {ds : List D} {i : Int} (h0 : 0 ≤ i) (h1 : i < (ds.length : Int)) : ∃ d, L2.atI ds i = some d ∧ d ∈ ds := by
  obtain ⟨n, rfl⟩ := Int.eq_ofNat_of_zero_le h0
  have hn : n < ds.length := by omega
  exact ⟨ds[n], atI_nat (by simp [hn]), List.getElem_mem hn⟩
theorem loop_all {ok : DH → Prop} {g : DG} {b : DS} {M : DEnds} {P : D → Prop} (Iv : Lo → DH → Prop) (hok : ∀ L S, Iv L S → ok S)
    (hs : ∀ d L S N, P d → Iv L S → (∀ L' S', Iv L' S' → N L' S') → g d L S fun L1 S1 => b { M with nx := N, ct := N, bk := M.nx } L1 S1) (hd : ∀ L S, Iv L S → M.nx L S) : ∀ r, (∀ d ∈ r, P d) → ∀ L S, Iv L S → dLoop ok g b M r L S
  | [], _, L, S, i => ⟨hok L S i, hd L S i⟩
  | d :: r, hp, L, S, i => ⟨hok L S i, hs d L S _ (hp d List.mem_cons_self) i fun L' S' i' => loop_all Iv hok hs hd r (fun e he => hp e (List.mem_cons_of_mem _ he)) L' S' i'⟩
instance {n : Nat} {x : Int} : Decidable (Bt n x) := inferInstanceAs (Decidable (x.natAbs < 2 ^ n))
theorem few {ds : List D} (h : Nat.ble ds.length sizeLine = true := by rfl) : ds.length ≤ sizeLine := Nat.le_of_ble_eq_true h
/-! ### the drawn state -/
def SOK (S : DH) (a : Addr) : Prop := ∃ n b, S a = some (.lst [.int n, .bl b]) ∧ (b = false → 0 ≤ n ∧ n < 2147483647)
def Dr (a : Addr) (S S' : DH) : Prop := SOK S' a ∧ ∀ b o, b ≠ a → S b = some o → S' b = some o
theorem Dr.trans {a : Addr} {S S1 S2 : DH} (h1 : Dr a S S1) (h2 : Dr a S1 S2) : Dr a S S2 := ⟨h2.1, fun b o n e => h2.2 b o n (h1.2 b o n e)⟩
theorem SOK.ne {a p : Addr} {S : DH} (h : SOK S a) (hp : S p = none) : p ≠ a := by
  obtain ⟨n, b, e, _⟩ := h
  intro z
  subst z
  rw [e] at hp
  cases hp
theorem SOK.new {a p : Addr} {S : DH} {o : DO} (h : SOK S a) (hp : S p = none) : SOK (put S p o) a := by
  have z := h.ne hp
  obtain ⟨n, b, e, q⟩ := h
  exact ⟨n, b, by rw [put_ne (Ne.symm z)]; exact e, q⟩
theorem Dr.new {a p : Addr} {S : DH} {o : DO} (h : SOK S a) (hp : S p = none) : Dr a S (put S p o) :=
  ⟨h.new hp, fun b u n e => by rw [put_ne (ne_put e hp)]; exact e⟩
theorem bt_of {n : Nat} {x : Int} (h1 : -(2 ^ n) < x) (h2 : x < 2 ^ n) : Bt n x := by
  unfold Bt
  have e : ((2 ^ n : Nat) : Int) = (2 : Int) ^ n := by rw [Int.natCast_pow]; rfl
  omega
theorem bt31 {x : Int} (h1 : 0 ≤ x) (h2 : x < 2147483648) : Bt 31 x := by
  unfold Bt
  omega
/-! ### root numbers as data -/
def N (u a b : Rat) : D := .tup [fr a, fr (ss b * u)]
structure Fd (u : Rat) : Prop where
  pos : 0 < u
  no : NoSq u
  sz : Sz 7 u
structure Sm (n : Nat) (a b : Rat) : Prop where
  a : Sz n a
  b : Sz n b
theorem gcd_bt {n : Nat} {t b : Int} (h : b ≠ 0) (hb : Bt n b) : Bt n ((Int.gcd t b : Nat) : Int) := by
  refine hb.le ?_
  have h1 : Int.gcd t b ∣ b.natAbs := by
    have := Int.gcd_dvd_right t b
    exact (by have := Int.natAbs_dvd_natAbs.mpr this; simpa using this)
  have := Nat.le_of_dvd (by omega) h1
  omega
def F_common_divisor : DSp := fun ds S k => match ds with
  | [.int a, .int b] => k (.int ((Int.gcd a b : Nat) : Int)) S
  | _ => False
theorem sc_common_divisor : FnScope ["one", "other", "rest"] ["one", "other"] (defScope s_common_divisor) := ⟨rfl, rfl, rfl, by decide +kernel, rfl, by decide +kernel, by decide +kernel⟩
theorem ok_common_divisor {P : Program} {w : World} {K : Fg} {mg : Str → Option Value} {base : Heap} {f : Addr} {fd : FuncData} (Fn : Fun K "common_divisor" "common_divisor" s_common_divisor f fd) (z_abs : mg "abs" = none) :
    FnOk P w K mg base CX0 1 f fd ["one", "other"] (spU K F_common_divisor) := by
  refine Fn.okJ sc_common_divisor (fun ds S k h => ?_) (fun cdv A outer s H E hr => ⟨_, (ds_consj (dst_whilej PassesOwn.never (dt_cmpj o_ne (d_varj 1) d_intj (nomark _)) (ds_consj (dst_setj (i := 2) sc_common_divisor.nd (d_opj o_mod (d_varj 0) (d_varj 1))) (ds_consj (dst_setj (i := 0) sc_common_divisor.nd (d_varj 1)) (ds_onej (dst_setj (i := 1) sc_common_divisor.nd (d_varj 2)))))) (ds_onej (dst_retj (d_callBj b_abs rfl z_abs bt_abs (da_consj (d_varj 0) da_nilj))))), fun ds S k h => ?_⟩)
  · unfold F_common_divisor at h
    split at h
    · rfl
    · exact h.elim
  · unfold F_common_divisor at h
    split at h
    · rename_i a b
      refine ⟨fun m L S' => S' = S ∧ ∃ x y r, L = [some (.int x), some (.int y), r] ∧ m = y.natAbs ∧ Int.gcd x y = Int.gcd a b, ⟨_, rfl, a, b, _, rfl, rfl, rfl⟩, ?_⟩
      rintro m L S' ⟨rfl, x, y, r, rfl, rfl, e⟩
      refine ite_ne (fun hy => ⟨fun L' S'' => ∃ m', m' < y.natAbs ∧ S'' = S' ∧ ∃ x y r, L' = [some (.int x), some (.int y), r] ∧ m' = y.natAbs ∧ Int.gcd x y = Int.gcd a b, fun _ _ z => z, hy, ?_⟩) (fun hy => ?_)
      · exact ⟨_, fmod_lt x y hy, rfl, y, x.fmod y, _, rfl, rfl, (gcd_fmod x y).trans e⟩
      · subst hy
        have e2 := gcd_zero x
        rw [e] at e2
        show k (.int (if x < 0 then -x else x)) S'
        rw [← e2]
        exact h
    · exact h.elim
def Ext (S S' : DH) : Prop := ∀ b o, S b = some o → S' b = some o
theorem Ext.refl (S : DH) : Ext S S := fun _ _ h => h
theorem Ext.trans {S S1 S2 : DH} (a : Ext S S1) (b : Ext S1 S2) : Ext S S2 := fun c o h => b c o (a c o h)
theorem Ext.new {S : DH} {p : Addr} {o : DO} (h : S p = none) : Ext S (put S p o) := fun b u e => by
  unfold put
  split
  · rename_i z; subst z; rw [h] at e; cases e
  · exact e
theorem Ext.none {S S1 : DH} {p : Addr} (e : Ext S S1) (h : S1 p = none) : S p = none := by
  cases q : S p with
  | none => rfl
  | some o => rw [e p o q] at h; cases h
/-! ### the law's own -/
def F__law_cell_at : DSp := fun ds S k => ∃ (p : Addr) (c : Int) (u : Unit), ds = [.ref p, .int 0] ∧ S p = some (.lst [.int c]) ∧ k (.int c) S
theorem sc__law_cell_at : FnScope ["script", "k"] ["script", "k"] (defScope s__law_cell_at) := ⟨rfl, rfl, rfl, by decide +kernel, rfl, by decide +kernel, by decide +kernel⟩
theorem ok__law_cell_at {P : Program} {w : World} {K : Fg} {mg : Str → Option Value} {base : Heap} {f : Addr} {fd : FuncData} (Fn : Fun K "_law_cell_at" "_law_cell_at" s__law_cell_at f fd) (z_len : mg "len" = none) :
    FnOk P w K mg base CX0 1 f fd ["script", "k"] (spU K F__law_cell_at) := by
  refine Fn.okJ sc__law_cell_at (fun ds S k h => ?_) (fun cdv A outer s H E hr => ⟨_, (ds_consj (dst_ifj (dt_cmpj o_lt (d_varj 1) (d_callBj b_lenE rfl z_len bt_len (da_consj (d_varj 0) da_nilj)) (nomark _)) (ds_onej (dst_retj (d_ixj x_ixE (d_varj 0) (d_varj 1) (fun _ _ => rfl)))) ds_nilj) (ds_onej (dst_retj d_intj))), fun ds S k h => ?_⟩)
  · obtain ⟨_, _, _, rfl, _⟩ := h
    rfl
  · obtain ⟨p, c, _, rfl, hp, q⟩ := h
    exact ⟨_, hp, _, _, hp, rfl, q⟩
def F__law_state : DSp := fun ds S k => ∃ (p : Addr) (c : Int) (u : Unit), ds = [.ref p, .int 0] ∧ S p = some (.lst [.int c]) ∧ ∀ (p : Addr) (n : Int) (b : Bool), S p = none → (b = false → 0 ≤ n ∧ n < 2147483647) → k (.ref p) (put S p (.lst [.int n, .bl b]))
theorem sc__law_state : FnScope ["script", "k", "cell"] ["script", "k"] (defScope s__law_state) := ⟨rfl, rfl, rfl, by decide +kernel, rfl, by decide +kernel, by decide +kernel⟩
theorem ok__law_state {P : Program} {w : World} {K : Fg} {mg : Str → Option Value} {base : Heap} {f : Addr} {fd : FuncData} (Fn : Fun K "_law_state" "_law_state" s__law_state f fd) (c__law_cell_at : Own P w K mg base "_law_cell_at" 1 F__law_cell_at) :
    FnOk P w K mg base CX0 2 f fd ["script", "k"] (spU K F__law_state) := by
  refine Fn.okJ sc__law_state (fun ds S k h => ?_) (fun cdv A outer s H E hr => ⟨_, (ds_consj (dst_setj (i := 2) sc__law_state.nd (d_callj c__law_cell_at (hr.mono (by decide)) rfl (da_consj (d_varj 0) (da_consj (d_varj 1) da_nilj)))) (ds_consj (dst_ifj (dt_cmpj o_ge (d_varj 2) (d_opj o_pow d_intj d_intj) (nomark _)) (ds_onej (dst_retj (d_lstj (da_consj (d_opj o_sub (d_varj 2) (d_opj o_pow d_intj d_intj)) (da_consj d_blj da_nilj))))) ds_nilj) (ds_onej (dst_retj (d_lstj (da_consj (d_opj o_mod (d_varj 2) d_intj) (da_consj d_blj da_nilj))))))), fun ds S k h => ?_⟩)
  · obtain ⟨_, _, _, rfl, _⟩ := h
    rfl
  · obtain ⟨p, c, _, rfl, h0, q⟩ := h
    have hp : CPow 10 18 := ⟨by decide, by decide, by decide⟩
    refine ⟨p, c, (), rfl, h0, ⟨hp, ite_dec (fun hl => ⟨hp, few, fun p hn => ?_⟩) (fun hl => ⟨(by show (2147483647 : Int) ≠ 0; decide), few, fun p hn => ?_⟩)⟩⟩
    · exact q p _ _ hn (fun z => by cases z)
    · exact q p _ _ hn (fun _ => ⟨Int.fmod_nonneg_of_pos _ (by decide), Int.fmod_lt_of_pos _ (by decide)⟩)
def F__law_take : DSp := fun ds S k => ∃ a m, ds = [.ref a, .int m] ∧ 0 < m ∧ Bt 200 m ∧ SOK S a ∧ ∀ r S', 0 ≤ r → r < m → Dr a S S' → k (.int r) S'
theorem sc__law_take : FnScope ["state", "many", "mixed", "found"] ["state", "many"] (defScope s__law_take) := ⟨rfl, rfl, rfl, by decide +kernel, rfl, by decide +kernel, by decide +kernel⟩
theorem ok__law_take {P : Program} {w : World} {K : Fg} {mg : Str → Option Value} {base : Heap} {f : Addr} {fd : FuncData} (Fn : Fun K "_law_take" "_law_take" s__law_take f fd)  :
    FnOk P w K mg base CX0 1 f fd ["state", "many"] (spU K F__law_take) := by
  refine Fn.okJ sc__law_take (fun ds S k h => ?_) (fun cdv A outer s H E hr => ⟨_, (ds_consj (dst_ifj (dt_valj (d_ixj x_ixE (d_varj 0) d_intj (fun _ _ => rfl))) (ds_consj (dst_setj (i := 3) sc__law_take.nd (d_opj o_mod (d_ixj x_ixE (d_varj 0) d_intj (fun _ _ => rfl)) (d_varj 1))) (ds_consj (dst_asgj (d_opj o_div (d_ixj x_ixE (d_varj 0) d_intj (fun _ _ => rfl)) (d_varj 1)) (dg_subE (d_varj 0) d_intj)) (ds_onej (dst_retj (d_varj 3))))) ds_nilj) (ds_consj (dst_asgj (d_opj o_mod (d_opj o_add (d_opj o_mul (d_ixj x_ixE (d_varj 0) d_intj (fun _ _ => rfl)) d_intj) d_intj) d_intj) (dg_subE (d_varj 0) d_intj)) (ds_consj (dst_setj (i := 2) sc__law_take.nd (d_opj o_mod (d_opj o_add (d_opj o_add (d_opj o_mul (d_ixj x_ixE (d_varj 0) d_intj (fun _ _ => rfl)) (d_ixj x_ixE (d_varj 0) d_intj (fun _ _ => rfl))) (d_opj o_mul d_intj (d_ixj x_ixE (d_varj 0) d_intj (fun _ _ => rfl)))) d_intj) d_intj)) (ds_consj (dst_setj (i := 2) sc__law_take.nd (d_opj o_mod (d_opj o_add (d_opj o_mul (d_varj 2) (d_varj 2)) (d_opj o_mul d_intj (d_varj 2))) d_intj)) (ds_onej (dst_retj (d_opj o_mod (d_opj o_div (d_varj 2) d_intj) (d_varj 1)))))))), fun ds S k h => ?_⟩)
  · obtain ⟨_, _, rfl, _⟩ := h
    rfl
  · obtain ⟨a, m, rfl, hm, hb, ⟨n, b, hS, hn⟩, q⟩ := h
    have put_dr : ∀ (n' : Int) (b' : Bool), (b' = false → 0 ≤ n' ∧ n' < 2147483647) → Dr a S (put S a (.lst [.int n', .bl b'])) := fun n' b' h' =>
      ⟨⟨n', b', put_same, h'⟩, fun c o z e => by rw [put_ne z]; exact e⟩
    refine ⟨_, _, hS, atI1, ?_⟩
    cases b with
    | true =>
      refine ⟨_, _, hS, atI0, (show m ≠ 0 by omega), _, _, hS, atI0, dok (by omega) hb, _, _, hS, ixN0, ?_⟩
      exact q _ _ (Int.fmod_nonneg_of_pos _ hm) (Int.fmod_lt_of_pos _ hm) (put_dr _ _ fun z => by cases z)
    | false =>
      obtain ⟨n0, n1⟩ := hn rfl
      have b31 := bt31 n0 (by omega)
      refine ⟨_, _, hS, atI0, mok (n := 31) b31 (bt31 (by decide) (by decide)), (show (2147483647 : Int) ≠ 0 by decide), _, _, hS, ixN0, ?_⟩
      have c0 : 0 ≤ (n * 48271 + 29).fmod 2147483647 := Int.fmod_nonneg_of_pos _ (by decide)
      have c1 : (n * 48271 + 29).fmod 2147483647 < 2147483647 := Int.fmod_lt_of_pos _ (by decide)
      have bx := bt31 c0 (by omega)
      refine ⟨_, _, put_same, atI0, _, _, put_same, atI0, mok bx bx, _, _, put_same, atI0, mok (m := 31) (bt31 (by decide) (by decide)) bx, (show (2147483629 : Int) ≠ 0 by decide), ?_⟩
      have d0 : 0 ≤ ((n * 48271 + 29).fmod 2147483647 * (n * 48271 + 29).fmod 2147483647 + 39373 * (n * 48271 + 29).fmod 2147483647 + 7).fmod 2147483629 := Int.fmod_nonneg_of_pos _ (by decide)
      have d1 : ((n * 48271 + 29).fmod 2147483647 * (n * 48271 + 29).fmod 2147483647 + 39373 * (n * 48271 + 29).fmod 2147483647 + 7).fmod 2147483629 < 2147483629 := Int.fmod_lt_of_pos _ (by decide)
      have by' := bt31 d0 (by omega)
      refine ⟨mok by' by', mok (m := 31) (bt31 (by decide) (by decide)) by', (show (2147483587 : Int) ≠ 0 by decide), ⟨by decide, by decide +kernel⟩, (show m ≠ 0 by omega), ?_⟩
      exact q _ _ (Int.fmod_nonneg_of_pos _ hm) (Int.fmod_lt_of_pos _ hm) (put_dr _ _ fun _ => ⟨c0, c1⟩)
theorem gcd_abs (a b : Int) : Int.gcd (absI a) (absI b) = Int.gcd a b := by
  have e : ∀ x : Int, (absI x).natAbs = x.natAbs := fun x => by unfold absI; split <;> omega
  unfold Int.gcd
  rw [e, e]
def F__law_divisor : DSp := fun ds S k => ∃ a b, ds = [.int a, .int b] ∧ k (.int ((Int.gcd a b : Nat) : Int)) S
theorem sc__law_divisor : FnScope ["one", "other"] ["one", "other"] (defScope s__law_divisor) := ⟨rfl, rfl, rfl, by decide +kernel, rfl, by decide +kernel, by decide +kernel⟩
theorem ok__law_divisor {P : Program} {w : World} {K : Fg} {mg : Str → Option Value} {base : Heap} {f : Addr} {fd : FuncData} (Fn : Fun K "_law_divisor" "_law_divisor" s__law_divisor f fd) (z_abs : mg "abs" = none) :
    FnOk P w K mg base CX0 1 f fd ["one", "other"] (spU K F__law_divisor) := by
  refine Fn.okJ sc__law_divisor (fun ds S k h => ?_) (fun cdv A outer s H E hr => ⟨_, (ds_consj (dst_setj (i := 0) sc__law_divisor.nd (d_callBj b_abs rfl z_abs bt_abs (da_consj (d_varj 0) da_nilj))) (ds_consj (dst_setj (i := 1) sc__law_divisor.nd (d_callBj b_abs rfl z_abs bt_abs (da_consj (d_varj 1) da_nilj))) (ds_consj (dst_whilej PassesOwn.never (dt_cmpj o_gt (d_varj 1) d_intj (nomark _)) (ds_onej (dst_parj (i := 0) (j := 1) rfl sc__law_divisor.nd (by decide) (da_consj (d_varj 1) (da_consj (d_opj o_mod (d_varj 0) (d_varj 1)) da_nilj))))) (ds_onej (dst_retj (d_varj 0)))))), fun ds S k h => ?_⟩)
  · obtain ⟨_, _, rfl, _⟩ := h
    rfl
  · obtain ⟨a, b, rfl, q⟩ := h
    refine ⟨fun m L S' => S' = S ∧ ∃ x y, L = [some (.int x), some (.int y)] ∧ m = y.natAbs ∧ 0 ≤ x ∧ 0 ≤ y ∧ Int.gcd x y = Int.gcd a b, ⟨_, rfl, absI a, absI b, rfl, rfl, absI_nn a, absI_nn b, gcd_abs a b⟩, ?_⟩
    rintro m L S' ⟨rfl, x, y, rfl, rfl, hx, hy, e⟩
    refine ite_dec (fun hl => ⟨fun L' S'' => ∃ m', m' < y.natAbs ∧ S'' = S' ∧ ∃ x y, L' = [some (.int x), some (.int y)] ∧ m' = y.natAbs ∧ 0 ≤ x ∧ 0 ≤ y ∧ Int.gcd x y = Int.gcd a b, fun _ _ z => z, by omega, ?_⟩) (fun hl => ?_)
    · exact ⟨_, fmod_lt x y (by omega), rfl, y, x.fmod y, rfl, rfl, hy, Int.fmod_nonneg_of_pos _ hl, (gcd_fmod x y).trans e⟩
    · have z : y = 0 := by omega
      subst z
      have e2 := gcd_zero x
      rw [e, if_neg (by omega)] at e2
      rw [e2] at q
      exact q
def F__law_ratio : DSp := fun ds S k => ∃ t b, ds = [.int t, .int b] ∧ b ≠ 0 ∧ Bt 8000 b ∧ k (fr (Rat.divInt t b)) S
theorem sc__law_ratio : FnScope ["top", "bottom", "by"] ["top", "bottom"] (defScope s__law_ratio) := ⟨rfl, rfl, rfl, by decide +kernel, rfl, by decide +kernel, by decide +kernel⟩
theorem ok__law_ratio {P : Program} {w : World} {K : Fg} {mg : Str → Option Value} {base : Heap} {f : Addr} {fd : FuncData} (Fn : Fun K "_law_ratio" "_law_ratio" s__law_ratio f fd) (c__law_divisor : Own P w K mg base "_law_divisor" 1 F__law_divisor) :
    FnOk P w K mg base CX0 2 f fd ["top", "bottom"] (spU K F__law_ratio) := by
  refine Fn.okJ sc__law_ratio (fun ds S k h => ?_) (fun cdv A outer s H E hr => ⟨_, (ds_consj (dst_setj (i := 2) sc__law_ratio.nd (d_callj c__law_divisor (hr.mono (by decide)) rfl (da_consj (d_varj 0) (da_consj (d_varj 1) da_nilj)))) (ds_consj (dst_ifj (dt_cmpj o_lt (d_varj 1) d_intj (nomark _)) (ds_onej (dst_setj (i := 2) sc__law_ratio.nd (d_opj o_sub d_intj (d_varj 2)))) ds_nilj) (ds_onej (dst_retj (d_tupj (da_consj (d_opj o_div (d_varj 0) (d_varj 2)) (da_consj (d_opj o_div (d_varj 1) (d_varj 2)) da_nilj))))))), fun ds S k h => ?_⟩)
  · obtain ⟨_, _, rfl, _⟩ := h
    rfl
  · obtain ⟨t, b, rfl, h0, hb, q⟩ := h
    have hg := gcd_bt (t := t) h0 hb
    have hs := shr_ne (t := t) h0
    have e1 := div_num (t := t) h0
    have e2 := div_den (t := t) h0
    have qq : k (.tup [.int (t.fdiv (shr t b)), .int (b.fdiv (shr t b))]) S := by rw [e1, e2]; exact q
    unfold shr at qq hs
    refine ⟨t, b, rfl, ite_dec (fun hl => ?_) (fun hl => ?_)⟩
    · rw [if_pos hl] at qq hs
      rw [← Int.zero_sub] at qq hs
      have hd : ∀ x : Int, CDivB x (0 - ((Int.gcd t b : Nat) : Int)) := fun x => dok hs (by rw [Int.zero_sub]; exact hg.neg)
      exact ⟨hd _, hd _, few, qq⟩
    · rw [if_neg hl] at qq hs
      exact ⟨dok hs hg, dok hs hg, few, qq⟩
theorem SOK.set {a q : Addr} {S : DH} {o : DO} (h : SOK S a) (z : q ≠ a) : SOK (put S q o) a := by
  obtain ⟨n, b, e, w⟩ := h
  exact ⟨n, b, by rw [put_ne (Ne.symm z)]; exact e, w⟩
end My
namespace My
open PySem PySem.Spec PyProof.Rows L2 DL HM
set_option maxHeartbeats 4000000
/-! ### what is asked of things -/
def wholeD : D → Bool
  | .int _ => true
  | _ => false
def fracD : D → Bool
  | .tup [.int a, .int b] => decide (1 ≤ b) && decide (((Int.gcd a b : Nat) : Int) = 1)
  | _ => false
def aboveD : D → Bool
  | .tup [.int a, .int b] => fracD (.tup [.int a, .int b]) && decide (0 < a)
  | _ => false
def jointD (n : Nat) : D → Bool
  | .int i => decide (0 ≤ i) && decide (i < (n : Int))
  | _ => false
def neqD : D → D → Bool
  | .int a, .int b => !decide (a = b)
  | _, _ => false
def sideD : D → Bool
  | .int v => decide (0 ≤ v) && decide (v ≤ 1)
  | _ => false
def isFixD : D → Bool
  | .tup (.str w :: _) => w == "fix"
  | _ => false
def fixAtD (as : List D) : D → Bool
  | .int i => match as[i.toNat]? with
    | some x => isFixD x
    | none => false
  | _ => false
def fixD : List D → Bool
  | [x, y] => fracD x && fracD y
  | _ => false
def crankD (as : List D) : List D → Bool
  | [c, l] => jointD as.length c && (fixAtD as c && aboveD l)
  | _ => false
def pairD (n : Nat) : List D → Bool
  | [i, j, s, t, v] => (jointD n i && jointD n j && neqD i j) && (aboveD s && aboveD t && sideD v)
  | _ => false
def likeD (n : Nat) : List D → Bool
  | [i, j, a, l] => (jointD n i && jointD n j && neqD i j) && (fracD a && fracD l)
  | _ => false
def stepD (as : List D) : D → Bool
  | .tup (.str w :: r) => if (w == "fix") = true then fixD r else if (w == "crank") = true then crankD as r else if (w == "pair") = true then pairD as.length r else (w == "like") && likeD as.length r
  | _ => false
def machFrom (all : List D) : Nat → List D → Bool
  | _, [] => true
  | k, d :: r => stepD (all.take k) d && machFrom all (k + 1) r
def machD : D → Bool
  | .tup ds => decide (1 ≤ (ds.length : Int)) && decide ((ds.length : Int) ≤ 7) && machFrom ds 0 ds
  | _ => false
def Ask (S : DH) (d : D) : Prop := ∃ t, tyD S d = some t
def El (S : DH) (d : D) : Prop := Ask S d ∧ (∀ ds, d = .tup ds → ∀ x ∈ ds, Ask S x) ∧ ∀ a, d = .ref a → ∃ ds, S a = some (.lst ds)
def St (S : DH) (d : D) : Prop := Ask S d ∧ ∀ ds, d = .tup ds → ∀ x ∈ ds, El S x
def Th (S : DH) (d : D) : Prop := Ask S d ∧ ∀ ds, d = .tup ds → ∀ x ∈ ds, St S x
theorem Ask.ext {S S' : DH} {d : D} (e : Ext S S') (h : Ask S d) : Ask S' d := by
  obtain ⟨t, h⟩ := h
  refine ⟨t, ?_⟩
  cases d with
  | ref a =>
    have h : tyR (S a) = some t := h
    show tyR (S' a) = some t
    cases z : S a with
    | none => rw [z] at h; cases h
    | some o => rw [e _ _ z, ← z]; exact h
  | _ => exact h
theorem whole_ty {S : DH} {d : D} {t : Ty} (h : tyD S d = some t) : wholeD d = (match t with | .int => true | _ => false) := by
  cases d with
  | ref a =>
    have h : tyR (S a) = some t := h
    cases z : S a with
    | none => rw [z] at h; cases h
    | some o => rw [z] at h; cases o <;> cases h <;> rfl
  | _ => cases h <;> rfl
theorem whole_int {d : D} (h : wholeD d = true) : ∃ i, d = .int i := by
  cases d with
  | int i => exact ⟨i, rfl⟩
  | _ => exact absurd (show false = true from h) Bool.false_ne_true
theorem not_tup {S : DH} {d : D} {t : Ty} (h : tyD S d = some t) (n : ∀ ds, d ≠ .tup ds) : subT t .tup = false := by
  cases d with
  | ref a =>
    have h : tyR (S a) = some t := h
    cases z : S a with
    | none => rw [z] at h; cases h
    | some o => rw [z] at h; cases o <;> cases h <;> rfl
  | tup ds => exact absurd rfl (n ds)
  | _ => cases h <;> rfl
theorem tup_or (d : D) : (∃ ds, d = .tup ds) ∨ ∀ ds, d ≠ .tup ds := by
  cases d with
  | tup ds => exact .inl ⟨ds, rfl⟩
  | _ => exact .inr fun ds h => by cases h
theorem len2 {ds : List D} (h : (ds.length : Int) = 2) : ∃ x y, ds = [x, y] := by
  match ds, h with
  | [x, y], _ => exact ⟨x, y, rfl⟩
  | [], h => cases h
  | [_], h => exact absurd h (by simp)
  | _ :: _ :: _ :: r, h => simp only [List.length_cons] at h; omega
theorem frac_len {ds : List D} (h : ¬ (ds.length : Int) = 2) : fracD (.tup ds) = false := by
  match ds, h with
  | [], _ => rfl
  | [x], _ => cases x <;> rfl
  | [_, _], h => exact absurd rfl h
  | x :: y :: _ :: r, _ => cases x <;> first | rfl | (cases y <;> rfl)
theorem frac_is {a b : Int} : fracD (.tup [.int a, .int b]) = (decide (1 ≤ b) && decide (((Int.gcd a b : Nat) : Int) = 1)) := rfl
theorem frac_not {d : D} (n : ∀ ds, d ≠ .tup ds) : fracD d = false := by
  cases d with
  | tup ds => exact absurd rfl (n ds)
  | _ => rfl
theorem frac_w1 {x y : D} (h : wholeD x = false) : fracD (.tup [x, y]) = false := by
  cases x with
  | int i => cases h
  | _ => rfl
theorem frac_w2 {x y : D} (h : wholeD y = false) : fracD (.tup [x, y]) = false := by
  cases x with
  | int i =>
    cases y with
    | int j => cases h
    | _ => rfl
  | _ => rfl
theorem frac_pr {d : D} (h : fracD d = true) : ∃ a b, d = .tup [.int a, .int b] := by
  unfold fracD at h
  split at h
  · exact ⟨_, _, rfl⟩
  · cases h
theorem above_frac {d : D} (h : fracD d = false) : aboveD d = false := by
  unfold aboveD
  split
  · rw [h]; rfl
  · rfl
def F_is_whole : DSp := fun ds S k => ∃ d, ds = [d] ∧ Ask S d ∧ k (.bl (wholeD d)) S
theorem sc_is_whole : FnScope ["thing"] ["thing"] (defScope s_is_whole) := ⟨rfl, rfl, rfl, by decide +kernel, rfl, by decide +kernel, by decide +kernel⟩
theorem ok_is_whole {P : Program} {w : World} {K : Fg} {mg : Str → Option Value} {base : Heap} {f : Addr} {fd : FuncData} (Fn : Fun K "is_whole" "is_whole" s_is_whole f fd) (z_isinstance : mg "isinstance" = none) (z_bool : mg "bool" = none) (z_int : mg "int" = none) :
    FnOk P w K mg base CX0 1 f fd ["thing"] (spU K F_is_whole) := by
  refine Fn.okJ sc_is_whole (fun ds S k h => ?_) (fun cdv A outer s H E hr => ⟨_, (ds_onej (dst_retj (d_andj (d_callBj b_isiX rfl z_isinstance bt_isinstance (da_consj (d_varj 0) (da_consj (d_tyj (n := .int) rfl z_int bt_int) da_nilj))) (d_onej (d_notj (d_callBj b_isiX rfl z_isinstance bt_isinstance (da_consj (d_varj 0) (da_consj (d_tyj (n := .bool) rfl z_bool bt_bool) da_nilj)))))))), fun ds S k h => ?_⟩)
  · obtain ⟨_, rfl, _⟩ := h
    rfl
  · obtain ⟨d, rfl, ⟨t, ht⟩, q⟩ := h
    rw [whole_ty ht] at q
    refine ⟨t, ht, ?_⟩
    cases t <;> first | exact q | exact ⟨_, ht, q⟩
def F_is_fraction : DSp := fun ds S k => ∃ d, ds = [d] ∧ Ask S d ∧ (∀ ds, d = .tup ds → ∀ x ∈ ds, Ask S x) ∧ k (.bl (fracD d)) S
theorem sc_is_fraction : FnScope ["thing"] ["thing"] (defScope s_is_fraction) := ⟨rfl, rfl, rfl, by decide +kernel, rfl, by decide +kernel, by decide +kernel⟩
theorem ok_is_fraction {P : Program} {w : World} {K : Fg} {mg : Str → Option Value} {base : Heap} {f : Addr} {fd : FuncData} (Fn : Fun K "is_fraction" "is_fraction" s_is_fraction f fd) (c_is_whole : Own P w K mg base "is_whole" 1 F_is_whole) (c_common_divisor : Own P w K mg base "common_divisor" 1 F_common_divisor) (z_len : mg "len" = none) (z_isinstance : mg "isinstance" = none) (z_tuple : mg "tuple" = none) :
    FnOk P w K mg base CX0 2 f fd ["thing"] (spU K F_is_fraction) := by
  refine Fn.okJ sc_is_fraction (fun ds S k h => ?_) (fun cdv A outer s H E hr => ⟨_, (ds_consj (dst_ifj (WJ.pt (dw_orj (dt_notj (dt_valj (d_callBj b_isiX rfl z_isinstance bt_isinstance (da_consj (d_varj 0) (da_consj (d_tyj (n := .tup) rfl z_tuple bt_tuple) da_nilj))))) (dw_or1j (dt_cmpj o_ne (d_callBj b_lenE rfl z_len bt_len (da_consj (d_varj 0) da_nilj)) d_intj (nomark _))))) (ds_onej (dst_retj d_blj)) ds_nilj) (ds_consj (dst_ifj (WJ.pt (dw_orj (dt_notj (dt_valj (d_callj c_is_whole (hr.mono (by decide)) rfl (da_consj (d_ixj x_ixE (d_varj 0) d_intj (fun _ _ => rfl)) da_nilj)))) (dw_or1j (dt_notj (dt_valj (d_callj c_is_whole (hr.mono (by decide)) rfl (da_consj (d_ixj x_ixE (d_varj 0) d_intj (fun _ _ => rfl)) da_nilj))))))) (ds_onej (dst_retj d_blj)) ds_nilj) (ds_onej (dst_retj (d_andj (d_cmpj o_ge (d_ixj x_ixE (d_varj 0) d_intj (fun _ _ => rfl)) d_intj (nomark _)) (d_onej (d_cmpj o_eq (d_callj c_common_divisor (hr.mono (by decide)) rfl (da_consj (d_ixj x_ixE (d_varj 0) d_intj (fun _ _ => rfl)) (da_consj (d_ixj x_ixE (d_varj 0) d_intj (fun _ _ => rfl)) da_nilj))) d_intj (nomark _)))))))), fun ds S k h => ?_⟩)
  · obtain ⟨_, rfl, _⟩ := h
    rfl
  · obtain ⟨d, rfl, ⟨t, ht⟩, ha, q⟩ := h
    refine ⟨t, ht, ?_⟩
    rcases tup_or d with ⟨ds, rfl⟩ | n
    · cases ht
      refine ite_ndec (fun hl => ?_) (fun hl => ?_)
      · rw [frac_len hl] at q
        exact q
      · obtain ⟨x, y, rfl⟩ := len2 hl
        refine ⟨x, rfl, ha _ rfl x (by simp), ite_nb (fun h1 => ?_) (fun h1 => ⟨y, rfl, ha _ rfl y (by simp), ite_nb (fun h2 => ?_) (fun h2 => ?_)⟩)⟩
        · rw [frac_w1 h1] at q
          exact q
        · rw [frac_w2 h2] at q
          exact q
        · obtain ⟨a, rfl⟩ := whole_int h1
          obtain ⟨b, rfl⟩ := whole_int h2
          rw [frac_is] at q
          refine ite_dec (fun h3 => ?_) (fun h3 => ?_)
          · rw [decide_eq_true h3, Bool.true_and] at q
            exact q
          · rw [decide_eq_false h3, Bool.false_and] at q
            exact q
    · rw [not_tup ht n]
      rw [frac_not n] at q
      exact q
def F_is_above_nought : DSp := fun ds S k => ∃ d, ds = [d] ∧ Ask S d ∧ (∀ ds, d = .tup ds → ∀ x ∈ ds, Ask S x) ∧ k (.bl (aboveD d)) S
theorem sc_is_above_nought : FnScope ["thing"] ["thing"] (defScope s_is_above_nought) := ⟨rfl, rfl, rfl, by decide +kernel, rfl, by decide +kernel, by decide +kernel⟩
theorem ok_is_above_nought {P : Program} {w : World} {K : Fg} {mg : Str → Option Value} {base : Heap} {f : Addr} {fd : FuncData} (Fn : Fun K "is_above_nought" "is_above_nought" s_is_above_nought f fd) (c_is_fraction : Own P w K mg base "is_fraction" 2 F_is_fraction) :
    FnOk P w K mg base CX0 3 f fd ["thing"] (spU K F_is_above_nought) := by
  refine Fn.okJ sc_is_above_nought (fun ds S k h => ?_) (fun cdv A outer s H E hr => ⟨_, (ds_onej (dst_retj (d_andj (d_callj c_is_fraction (hr.mono (by decide)) rfl (da_consj (d_varj 0) da_nilj)) (d_onej (d_cmpj o_gt (d_ixj x_ixE (d_varj 0) d_intj (fun _ _ => rfl)) d_intj (nomark _)))))), fun ds S k h => ?_⟩)
  · obtain ⟨_, rfl, _⟩ := h
    rfl
  · obtain ⟨d, rfl, ht, ha, q⟩ := h
    refine ⟨d, rfl, ht, ha, ite_b (fun h => ?_) (fun h => ?_)⟩
    · obtain ⟨a, b, rfl⟩ := frac_pr h
      have q : k (.bl (fracD (.tup [.int a, .int b]) && decide (0 < a))) S := q
      rw [h, Bool.true_and] at q
      exact q
    · rw [above_frac h] at q
      exact q
def F_is_joint : DSp := fun ds S k => ∃ (d : D) (n : Nat), ds = [d, .int (n : Nat)] ∧ Ask S d ∧ k (.bl (jointD n d)) S
theorem sc_is_joint : FnScope ["thing", "many"] ["thing", "many"] (defScope s_is_joint) := ⟨rfl, rfl, rfl, by decide +kernel, rfl, by decide +kernel, by decide +kernel⟩
theorem ok_is_joint {P : Program} {w : World} {K : Fg} {mg : Str → Option Value} {base : Heap} {f : Addr} {fd : FuncData} (Fn : Fun K "is_joint" "is_joint" s_is_joint f fd) (c_is_whole : Own P w K mg base "is_whole" 1 F_is_whole) :
    FnOk P w K mg base CX0 2 f fd ["thing", "many"] (spU K F_is_joint) := by
  refine Fn.okJ sc_is_joint (fun ds S k h => ?_) (fun cdv A outer s H E hr => ⟨_, (ds_onej (dst_retj (d_andj (d_callj c_is_whole (hr.mono (by decide)) rfl (da_consj (d_varj 0) da_nilj)) (d_onej (d_chainj o_le o_lt d_intj (d_varj 0) (d_varj 1)))))), fun ds S k h => ?_⟩)
  · obtain ⟨_, _, rfl, _⟩ := h
    rfl
  · obtain ⟨d, n, rfl, ht, q⟩ := h
    refine ⟨d, rfl, ht, ite_b (fun h => ?_) (fun h => ?_)⟩
    · obtain ⟨i, rfl⟩ := whole_int h
      have q : k (.bl (decide (0 ≤ i) && decide (i < (n : Int)))) S := q
      refine ite_dec (fun h0 => ?_) (fun h0 => ?_)
      · rw [decide_eq_true h0, Bool.true_and] at q
        exact q
      · rw [decide_eq_false h0, Bool.false_and] at q
        exact q
    · have e : jointD n d = false := by cases d <;> first | rfl | cases h
      rw [e] at q
      exact q
theorem joint_int {n : Nat} {d : D} (h : jointD n d = true) : ∃ i : Nat, d = .int (i : Nat) ∧ i < n := by
  cases d with
  | int i =>
    have h : (decide (0 ≤ i) && decide (i < (n : Int))) = true := h
    rw [Bool.and_eq_true] at h
    obtain ⟨j, rfl⟩ := Int.eq_ofNat_of_zero_le (of_decide_eq_true h.1)
    exact ⟨j, rfl, by have := of_decide_eq_true h.2; omega⟩
  | _ => cases h
def Right (x : D) : Prop := ∃ (w : Str) (r : List D), x = .tup (.str w :: r)
end My
namespace My
open PySem PySem.Spec PyProof.Rows L2 DL HM
set_option maxHeartbeats 4000000
/-! ### a rod of anything -/
def ltD : D → D → Bool
  | .int i, .int j => decide (i < j)
  | _, _ => false
def rdD (n : Nat) : D → Bool
  | .tup [a, b, c] => jointD n a && (jointD n b && (ltD a b && aboveD c))
  | _ => false
theorem rod_len {n : Nat} {r : List D} (h : ¬ (r.length : Int) = 3) : rdD n (.tup r) = false := by
  match r, h with
  | [], _ => rfl
  | [_], _ => rfl
  | [_, _], _ => rfl
  | [_, _, _], h => exact absurd rfl h
  | _ :: _ :: _ :: _ :: _, _ => rfl
theorem rod_not {n : Nat} {d : D} (h : ∀ ds, d ≠ .tup ds) : rdD n d = false := by
  cases d with
  | tup ds => exact absurd rfl (h ds)
  | _ => rfl
theorem len3r {r : List D} (h : (r.length : Int) = 3) : ∃ x y z, r = [x, y, z] := by
  match r, h with
  | [x, y, z], _ => exact ⟨x, y, z, rfl⟩
/-- what may be asked of a thing, three deep -/
def Ask3 (S : DH) (d : D) : Prop := Ask S d ∧ ∀ ds, d = .tup ds → ∀ x ∈ ds, Ask S x ∧ ∀ es, x = .tup es → ∀ y ∈ es, Ask S y
def F_is_rod : DSp := fun ds S k => ∃ (d : D) (n : Nat), ds = [d, .int (n : Nat)] ∧ Ask3 S d ∧ k (.bl (rdD n d)) S
theorem sc_is_rod : FnScope ["thing", "many"] ["thing", "many"] (defScope s_is_rod) := ⟨rfl, rfl, rfl, by decide +kernel, rfl, by decide +kernel, by decide +kernel⟩
theorem ok_is_rod {P : Program} {w : World} {K : Fg} {mg : Str → Option Value} {base : Heap} {f : Addr} {fd : FuncData} (Fn : Fun K "is_rod" "is_rod" s_is_rod f fd) (c_is_joint : Own P w K mg base "is_joint" 2 F_is_joint) (c_is_above_nought : Own P w K mg base "is_above_nought" 3 F_is_above_nought) (z_len : mg "len" = none) (z_isinstance : mg "isinstance" = none) (z_tuple : mg "tuple" = none) :
    FnOk P w K mg base CX0 4 f fd ["thing", "many"] (spU K F_is_rod) := by
  refine Fn.okJ sc_is_rod (fun ds S k h => ?_) (fun cdv A outer s H E hr => ⟨_, (ds_consj (dst_ifj (WJ.pt (dw_orj (dt_notj (dt_valj (d_callBj b_isiX rfl z_isinstance bt_isinstance (da_consj (d_varj 0) (da_consj (d_tyj (n := .tup) rfl z_tuple bt_tuple) da_nilj))))) (dw_or1j (dt_cmpj o_ne (d_callBj b_lenE rfl z_len bt_len (da_consj (d_varj 0) da_nilj)) d_intj (nomark _))))) (ds_onej (dst_retj d_blj)) ds_nilj) (ds_consj (dst_ifj (WJ.pt (dw_orj (dt_notj (dt_valj (d_callj c_is_joint (hr.mono (by decide)) rfl (da_consj (d_ixj x_ixE (d_varj 0) d_intj (fun _ _ => rfl)) (da_consj (d_varj 1) da_nilj))))) (dw_or1j (dt_notj (dt_valj (d_callj c_is_joint (hr.mono (by decide)) rfl (da_consj (d_ixj x_ixE (d_varj 0) d_intj (fun _ _ => rfl)) (da_consj (d_varj 1) da_nilj)))))))) (ds_onej (dst_retj d_blj)) ds_nilj) (ds_onej (dst_retj (d_andj (d_cmpj o_lt (d_ixj x_ixE (d_varj 0) d_intj (fun _ _ => rfl)) (d_ixj x_ixE (d_varj 0) d_intj (fun _ _ => rfl)) (nomark _)) (d_onej (d_callj c_is_above_nought (hr.mono (by decide)) rfl (da_consj (d_ixj x_ixE (d_varj 0) d_intj (fun _ _ => rfl)) da_nilj)))))))), fun ds S k h => ?_⟩)
  · obtain ⟨_, _, rfl, _⟩ := h
    rfl
  · obtain ⟨d, n, rfl, ⟨⟨t, ht⟩, ha⟩, q⟩ := h
    refine ⟨t, ht, ?_⟩
    rcases tup_or d with ⟨ds, rfl⟩ | nt
    · cases ht
      refine ite_ndec (fun hl => ?_) (fun hl => ?_)
      · rw [rod_len hl] at q
        exact q
      · obtain ⟨x, y, z, rfl⟩ := len3r hl
        have hx := ha _ rfl x (by simp)
        have hy := ha _ rfl y (by simp)
        have hz := ha _ rfl z (by simp)
        have q : k (.bl (jointD n x && (jointD n y && (ltD x y && aboveD z)))) S := q
        refine ⟨x, n, rfl, hx.1, ite_nb (fun h1 => ?_) (fun h1 => ⟨y, n, rfl, hy.1, ite_nb (fun h2 => ?_) (fun h2 => ?_)⟩)⟩
        · rw [h1, Bool.false_and] at q
          exact q
        · rw [h1, h2, Bool.true_and, Bool.false_and] at q
          exact q
        · rw [h1, h2, Bool.true_and, Bool.true_and] at q
          obtain ⟨i, rfl, _⟩ := joint_int h1
          obtain ⟨j, rfl, _⟩ := joint_int h2
          have q : k (.bl (decide ((i : Int) < (j : Int)) && aboveD z)) S := q
          refine ite_dec (fun h3 => ?_) (fun h3 => ?_)
          · rw [decide_eq_true h3, Bool.true_and] at q
            exact ⟨z, rfl, hz.1, hz.2, q⟩
          · rw [decide_eq_false h3, Bool.false_and] at q
            exact q
    · rw [not_tup ht nt]
      rw [rod_not nt] at q
      exact q
end My
namespace My
open PySem PySem.Spec PyProof.Rows L2 DL HM
set_option maxHeartbeats 4000000
/-! ### linkages of anything -/
theorem big1 {n : Nat} (h : n < 300) : n < sizeLine := Nat.lt_of_lt_of_le h (Nat.le_of_ble_eq_true (rfl : Nat.ble 300 sizeLine = true))
theorem map_loop {α : Type} {f g : α → D} {all : List α} {S : DH} {p : Addr} {ok : DH → Prop} {bd : DB} {k : DK} {L1 : Lo} (hp : S p = none) (hok : ∀ S', Ext S S' → ok S')
    (hbd : ∀ (x : α) (S' : DH) (k' : Option D → DH → Prop), x ∈ all → Ext S S' → k' (some (g x)) S' → bd (some (f x) :: L1) S' k') :
    ∀ (r : List α) (acc : List D) (l0 : Option D), (∀ x ∈ r, x ∈ all) → acc.length + r.length ≤ 100 → (∀ S', Ext S S' → S' p = some (.lst (acc ++ r.map g)) → k (.ref p) S') → dCLoop ok p (dgName 0) bd k (r.map f) acc (l0 :: L1) (put S p (.lst acc))
  | [], acc, l0, _, _, w => ⟨hok _ (Ext.new hp), w _ (Ext.new hp) (by rw [put_same]; simp)⟩
  | x :: r, acc, l0, hr, hl, w => by
    have hl : acc.length + (r.length + 1) ≤ 100 := hl
    refine ⟨hok _ (Ext.new hp), hbd x _ _ (hr x List.mem_cons_self) (Ext.new hp) ⟨put_same, big1 (by omega), ?_⟩⟩
    rw [put_put]
    exact map_loop hp hok hbd r _ _ (fun y hy => hr y (List.mem_cons_of_mem _ hy)) (by rw [List.length_append]; show acc.length + 1 + r.length ≤ 100; omega) fun S' e h => w S' e (by rw [h, List.append_assoc]; rfl)
theorem self_loop {g : D → D} {all : List D} {S : DH} {p : Addr} {ok : DH → Prop} {bd : DB} {k : DK} {L1 : Lo} (hp : S p = none) (hok : ∀ S', Ext S S' → ok S')
    (hbd : ∀ (x : D) (S' : DH) (k' : Option D → DH → Prop), x ∈ all → Ext S S' → k' (some (g x)) S' → bd (some x :: L1) S' k') (l0 : Option D) (hl : all.length ≤ 100) (w : ∀ S', Ext S S' → S' p = some (.lst (all.map g)) → k (.ref p) S') : dCLoop ok p (dgName 0) bd k all [] (l0 :: L1) (put S p (.lst [])) := by
  have h := map_loop (f := id) (g := g) (all := all) (k := k) hp hok hbd all [] l0 (fun _ h => h) (by simpa using hl) w
  rw [List.map_id] at h
  exact h
def riseD : List D → Bool
  | x :: y :: r => ltD x y && riseD (y :: r)
  | _ => true
theorem rise_loop {S : DH} {p : Addr} {ok : DH → Prop} {bd : DB} {k : DK} (hp : S p = none) (hok : ∀ S', ok S')
    (hbd : ∀ (x y : D) (S' : DH) (k' : Option D → DH → Prop), wholeD x = true → wholeD y = true → k' (some (.bl (ltD x y))) S' → bd [some x, some y] S' k') :
    ∀ (r : List D) (acc : List Bool) (l0 l1 : Option D), (∀ x ∈ r, wholeD x = true) → acc.length + r.length ≤ 100 → (∀ S' (bs : List Bool), Ext S S' → S' p = some (.lst (bs.map D.bl)) → bs.all id = (acc.all id && riseD r) → k (.ref p) S') →
    dCLoop ok p (dgSeqE 2 (dgCons (dgName 0) (dgCons (dgName 1) dgNil))) bd k (zipD r (r.drop 1)) (acc.map D.bl) [l0, l1] (put S p (.lst (acc.map D.bl)))
  | [], acc, _, _, _, _, w => ⟨hok _, w _ acc (Ext.new hp) put_same (by show _ = (_ && true); rw [Bool.and_true])⟩
  | [x], acc, _, _, _, _, w => ⟨hok _, w _ acc (Ext.new hp) put_same (by show _ = (_ && true); rw [Bool.and_true])⟩
  | x :: y :: r, acc, l0, l1, hx, hl, w => by
    have hl : acc.length + (r.length + 1 + 1) ≤ 100 := hl
    refine ⟨hok _, ([x, y], none), rfl, rfl, ?_⟩
    refine ⟨rfl, hbd x y _ _ (hx x (by simp)) (hx y (by simp)) ⟨put_same, by rw [List.length_map]; exact big1 (by omega), ?_⟩⟩
    rw [put_put]
    have ea : acc.map D.bl ++ [D.bl (ltD x y)] = (acc ++ [ltD x y]).map D.bl := by rw [List.map_append]; rfl
    rw [ea]
    refine rise_loop hp hok hbd (y :: r) (acc ++ [ltD x y]) _ _ (fun z hz => hx z (List.mem_cons_of_mem _ hz)) (by rw [List.length_append]; show acc.length + 1 + (r.length + 1) ≤ 100; omega) fun S' bs e h hb => w S' bs e h ?_
    rw [hb, List.all_append]
    show (_ && (id (ltD x y) && true) && riseD (y :: r)) = (_ && (ltD x y && riseD (y :: r)))
    rw [Bool.and_true, Bool.and_assoc]
    rfl
theorem joint_whole {n : Nat} {d : D} (h : jointD n d = true) : wholeD d = true := by
  obtain ⟨i, rfl, _⟩ := joint_int h
  rfl
theorem cut1 {ds : List D} : DL.cutD ds (some 1) none = ds.drop 1 := by
  unfold DL.cutD
  cases ds with
  | nil => rfl
  | cons x r =>
    have e : HT.sIx (x :: r).length 0 (some 1) = 1 := by
      show HT.sIx (r.length + 1) 0 (some 1) = 1
      unfold HT.sIx
      simp
    rw [e]
    show List.take _ r = r
    rw [List.take_of_length_le]
    show r.length ≤ (r.length + 1) - 1
    omega
theorem dd_nodup_go {α : Type} [DecidableEq α] : ∀ (l a : List α), a.Nodup → ((l.foldl ST.dstep a).length = a.length + l.length ↔ (a ++ l).Nodup)
  | [], a, ha => by rw [List.append_nil]; exact ⟨fun _ => ha, fun _ => rfl⟩
  | k :: l, a, ha => by
    rw [List.foldl_cons, List.length_cons]
    have h2 := ST.dd_len l (ST.dstep a k)
    by_cases hk : k ∈ a
    · have e : ST.dstep a k = a := by unfold ST.dstep; rw [if_pos hk]
      rw [e] at h2 ⊢
      refine ⟨fun h => by omega, fun h => ?_⟩
      exact absurd rfl ((List.nodup_append.mp h).2.2 k hk k List.mem_cons_self)
    · have e : ST.dstep a k = a ++ [k] := by unfold ST.dstep; rw [if_neg hk]
      rw [e]
      have hn : (a ++ [k]).Nodup := by
        rw [List.nodup_append]
        exact ⟨ha, by simp, fun x hx y hy => by simp at hy; subst hy; intro z; subst z; exact hk hx⟩
      have ih := dd_nodup_go l (a ++ [k]) hn
      rw [List.append_assoc] at ih
      rw [List.length_append] at ih
      rw [← show a ++ ([k] ++ l) = a ++ k :: l from rfl, ← ih]
      simp only [List.length_cons, List.length_nil]
      omega
theorem dd_nodup {α : Type} [DecidableEq α] (l : List α) : (ST.dd l).length = l.length ↔ l.Nodup := by
  have h := dd_nodup_go l [] List.nodup_nil
  rw [List.nil_append, List.length_nil, Nat.zero_add] at h
  exact h
theorem count_nodup {α : Type} [BEq α] [LawfulBEq α] (l : List α) : (∀ x ∈ l, l.count x = 1) ↔ l.Nodup := by
  rw [List.nodup_iff_count]
  refine ⟨fun h x => ?_, fun h x hx => ?_⟩
  · by_cases hx : x ∈ l
    · rw [h x hx]; exact Nat.le_refl _
    · rw [List.count_eq_zero.mpr hx]; decide
  · have h1 := h x
    have h2 := List.count_pos_iff.mpr hx
    omega
/-- two rising lists of the same members are one -/
theorem rise_eq : ∀ {a b : List Int}, a.Pairwise (· < ·) → b.Pairwise (· < ·) → (∀ v, v ∈ a ↔ v ∈ b) → a = b
  | [], [], _, _, _ => rfl
  | [], y :: b, _, _, h => absurd ((h y).mpr List.mem_cons_self) (by simp)
  | x :: a, [], _, _, h => absurd ((h x).mp List.mem_cons_self) (by simp)
  | x :: a, y :: b, ha, hb, h => by
    rw [List.pairwise_cons] at ha hb
    have e : x = y := by
      have h1 := (h x).mp List.mem_cons_self
      have h2 := (h y).mpr List.mem_cons_self
      rcases List.mem_cons.mp h1 with e | e
      · exact e
      · rcases List.mem_cons.mp h2 with e2 | e2
        · exact e2.symm
        · have := ha.1 y e2; have := hb.1 x e; omega
    subst e
    congr 1
    refine rise_eq ha.2 hb.2 fun v => ⟨fun hv => ?_, fun hv => ?_⟩
    · rcases List.mem_cons.mp ((h v).mp (List.mem_cons_of_mem _ hv)) with e | e
      · subst e; exact absurd (ha.1 v hv) (by omega)
      · exact e
    · rcases List.mem_cons.mp ((h v).mpr (List.mem_cons_of_mem _ hv)) with e | e
      · subst e; exact absurd (hb.1 v hv) (by omega)
      · exact e
def fxsD (n : Nat) : D → Bool
  | .tup ds => ds.all (jointD n) && riseD ds
  | _ => false
def keyD : D → List Int
  | .tup (.int i :: .int j :: _) => [i, j]
  | _ => []
def rdsD (n : Nat) : D → Bool
  | .tup ds => decide (ds.length ≤ 12) && (ds.all (rdD n) && decide ((ds.map keyD).Nodup))
  | _ => false
def lnkD : D → Bool
  | .tup [.int m, f, r] => (decide (1 ≤ m) && decide (m ≤ 8)) && (fxsD m.toNat f && rdsD m.toNat r)
  | _ => false
def AskN : Nat → DH → D → Prop
  | 0, S, d => Ask S d
  | n + 1, S, d => Ask S d ∧ ∀ ds, d = .tup ds → ds.length ≤ 40 ∧ ∀ x ∈ ds, AskN n S x
theorem AskN.ask {S : DH} {d : D} : ∀ {n : Nat}, AskN n S d → Ask S d
  | 0, h => h
  | _ + 1, h => h.1
theorem AskN.ext {S S' : DH} (e : Ext S S') : ∀ {n : Nat} {d : D}, AskN n S d → AskN n S' d
  | 0, _, h => Ask.ext e h
  | _ + 1, _, h => ⟨h.1.ext e, fun ds z => ⟨(h.2 ds z).1, fun x hx => ((h.2 ds z).2 x hx).ext e⟩⟩
theorem AskN.three {S : DH} {d : D} (h : AskN 2 S d) : Ask3 S d := ⟨h.1, fun ds e x hx => ⟨((h.2 ds e).2 x hx).1, fun es e' y hy => (((h.2 ds e).2 x hx).2 es e').2 y hy⟩⟩
def F_are_fixed : DSp := fun ds S k => ∃ (d : D) (n : Nat), ds = [d, .int (n : Nat)] ∧ AskN 1 S d ∧ ∀ S', Ext S S' → k (.bl (fxsD n d)) S'
theorem sc_are_fixed : FnScope ["thing", "many"] ["thing", "many"] (defScope s_are_fixed) := ⟨rfl, rfl, rfl, by decide +kernel, rfl, by decide +kernel, by decide +kernel⟩
theorem ok_are_fixed {P : Program} {w : World} {K : Fg} {mg : Str → Option Value} {base : Heap} {f : Addr} {fd : FuncData} (Fn : Fun K "are_fixed" "are_fixed" s_are_fixed f fd) (c_is_joint : Own P w K mg base "is_joint" 2 F_is_joint) (z_isinstance : mg "isinstance" = none) (z_tuple : mg "tuple" = none) (z_all : mg "all" = none) (z_zip : mg "zip" = none) :
    FnOk P w K mg base CX0 3 f fd ["thing", "many"] (spU K F_are_fixed) := by
  refine Fn.okJ sc_are_fixed (fun ds S k h => ?_) (fun cdv A outer s H E hr => ⟨_, (ds_consj (dst_ifj (dt_notj (dt_valj (d_callBj b_isiX rfl z_isinstance bt_isinstance (da_consj (d_varj 0) (da_consj (d_tyj (n := .tup) rfl z_tuple bt_tuple) da_nilj))))) (ds_onej (dst_retj d_blj)) ds_nilj) (ds_consj (dst_ifj (dt_notj (dt_valj (d_callBj b_allE rfl z_all bt_all (da_consj (d_compEj rfl (compSc (N := ["joint", "many"]) (cap := [none, some 1]) rfl rfl rfl rfl ⟨rfl, trivial⟩ rfl rfl ⟨⟨rfl, .inl rfl, .inl rfl⟩, trivial⟩) (d_varj 0) (fun _ _ _ _ => (dg_namej (i := 0) (show List.Nodup (["joint", "many"] : List Str) from by decide +kernel))) (fun _ _ _ _ => (d_callj c_is_joint (hr.mono (by decide)) rfl (da_consj (d_varj 0) (da_consj (d_varj 1) da_nilj))))) da_nilj)))) (ds_onej (dst_retj d_blj)) ds_nilj) (ds_onej (dst_retj (d_callBj b_allE rfl z_all bt_all (da_consj (d_compZj rfl (compSc (N := ["one", "other"]) (cap := [none, none]) rfl rfl rfl rfl trivial rfl rfl trivial) rfl z_zip (da_consj (d_varj 0) (da_consj (d_cutXj (d_varj 0) (do_somej d_intj) do_nonej) da_nilj)) (fun _ _ _ _ => (dg_seqE (n := 2) rfl (dgs_consj (dg_namej (i := 0) (show List.Nodup (["one", "other"] : List Str) from by decide +kernel)) (dgs_consj (dg_namej (i := 1) (show List.Nodup (["one", "other"] : List Str) from by decide +kernel)) dgs_nilj)))) (fun _ _ _ _ => (d_cmpj o_lt (d_varj 0) (d_varj 1) (nomark _)))) da_nilj)))))), fun ds S k h => ?_⟩)
  · obtain ⟨_, _, rfl, _⟩ := h
    rfl
  · obtain ⟨d, n, rfl, ha, q⟩ := h
    obtain ⟨t, ht⟩ := ha.1
    refine ⟨t, ht, ?_⟩
    rcases tup_or d with ⟨ds, rfl⟩ | nt
    · cases ht
      obtain ⟨hl, hx⟩ := ha.2 ds rfl
      have q : ∀ S', Ext S S' → k (.bl (ds.all (jointD n) && riseD ds)) S' := q
      refine ⟨(ds, none), rfl, fun p hp => ?_⟩
      refine self_loop (g := fun x => .bl (jointD n x)) hp (fun _ _ => trivial) (fun x S' k' hx' e hk => ⟨x, n, rfl, (hx x hx').ext e, hk⟩) _ (show ds.length ≤ 100 by omega) fun S1 e1 h1 => ?_
      refine ⟨(ds.map (fun x => .bl (jointD n x)), some p), ds.map (jointD n), by simp only [dItems, h1], by rw [List.map_map]; rfl, ?_⟩
      have ea : (ds.map (jointD n)).all id = ds.all (jointD n) := by rw [List.all_map]; rfl
      rw [ea]
      refine ite_nb (fun hb => ?_) (fun hb => ?_)
      · have := q S1 e1
        rw [hb, Bool.false_and] at this
        exact this
      · refine ⟨(ds, none), (ds.drop 1, none), rfl, by rw [cut1]; rfl, fun p2 hp2 => ?_⟩
        refine rise_loop hp2 (fun _ => ⟨trivial, trivial⟩) (fun x y S' k' h1 h2 hk => ?_) ds [] none none (fun x hx' => joint_whole (List.all_eq_true.mp hb x hx')) (by simp; omega) fun S2 bs e2 h2 hbs => ?_
        · obtain ⟨i, rfl⟩ := whole_int h1
          obtain ⟨j, rfl⟩ := whole_int h2
          exact hk
        · refine ⟨(bs.map D.bl, some p2), bs, by simp only [dItems, h2], rfl, ?_⟩
          have := q S2 (e1.trans e2)
          rw [hb, Bool.true_and] at this
          rw [hbs]
          exact this
    · rw [not_tup ht nt]
      have : fxsD n d = false := by
        cases d with
        | tup ds => exact absurd rfl (nt ds)
        | _ => rfl
      rw [this] at q
      exact q S (Ext.refl S)
theorem rd_key {n : Nat} {d : D} (h : rdD n d = true) : ∃ ds i j c, d = .tup [.int i, .int j, c] ∧ ds = [i, j] ∧ keyD d = ds ∧ DL.cutD [.int i, .int j, c] none (some 2) = ds.map D.int := by
  unfold rdD at h
  split at h
  · rename_i a b c
    rw [Bool.and_eq_true, Bool.and_eq_true] at h
    obtain ⟨i, rfl, _⟩ := joint_int h.1
    obtain ⟨j, rfl, _⟩ := joint_int h.2.1
    exact ⟨_, _, _, c, rfl, rfl, rfl, rfl⟩
  · cases h
def F_are_rods : DSp := fun ds S k => ∃ (d : D) (n : Nat), ds = [d, .int (n : Nat)] ∧ AskN 3 S d ∧ ∀ S', Ext S S' → k (.bl (rdsD n d)) S'
theorem sc_are_rods : FnScope ["thing", "many", "joined"] ["thing", "many"] (defScope s_are_rods) := ⟨rfl, rfl, rfl, by decide +kernel, rfl, by decide +kernel, by decide +kernel⟩
theorem ok_are_rods {P : Program} {w : World} {K : Fg} {mg : Str → Option Value} {base : Heap} {f : Addr} {fd : FuncData} (Fn : Fun K "are_rods" "are_rods" s_are_rods f fd) (c_is_rod : Own P w K mg base "is_rod" 4 F_is_rod) (z_len : mg "len" = none) (z_isinstance : mg "isinstance" = none) (z_tuple : mg "tuple" = none) (z_all : mg "all" = none) (g_MOST_RODS : GInt mg "MOST_RODS" 12) :
    FnOk P w K mg base CX0 5 f fd ["thing", "many"] (spU K F_are_rods) := by
  refine Fn.okJ sc_are_rods (fun ds S k h => ?_) (fun cdv A outer s H E hr => ⟨_, (ds_consj (dst_ifj (WJ.pt (dw_orj (dt_notj (dt_valj (d_callBj b_isiX rfl z_isinstance bt_isinstance (da_consj (d_varj 0) (da_consj (d_tyj (n := .tup) rfl z_tuple bt_tuple) da_nilj))))) (dw_or1j (dt_cmpj o_gt (d_callBj b_lenE rfl z_len bt_len (da_consj (d_varj 0) da_nilj)) (d_gint g_MOST_RODS rfl) (nomark _))))) (ds_onej (dst_retj d_blj)) ds_nilj) (ds_consj (dst_ifj (dt_notj (dt_valj (d_callBj b_allE rfl z_all bt_all (da_consj (d_compEj rfl (compSc (N := ["rod", "many"]) (cap := [none, some 1]) rfl rfl rfl rfl ⟨rfl, trivial⟩ rfl rfl ⟨⟨rfl, .inl rfl, .inl rfl⟩, trivial⟩) (d_varj 0) (fun _ _ _ _ => (dg_namej (i := 0) (show List.Nodup (["rod", "many"] : List Str) from by decide +kernel))) (fun _ _ _ _ => (d_callj c_is_rod (hr.mono (by decide)) rfl (da_consj (d_varj 0) (da_consj (d_varj 1) da_nilj))))) da_nilj)))) (ds_onej (dst_retj d_blj)) ds_nilj) (ds_consj (dst_setj (i := 2) sc_are_rods.nd (d_compEj rfl (compSc (N := ["rod"]) (cap := [none]) rfl rfl rfl rfl trivial rfl rfl trivial) (d_varj 0) (fun _ _ _ _ => (dg_namej (i := 0) (show List.Nodup (["rod"] : List Str) from by decide +kernel))) (fun _ _ _ _ => (d_cutXj (d_varj 0) do_nonej (do_somej d_intj))))) (ds_onej (dst_retj (d_callBj b_allE rfl z_all bt_all (da_consj (d_compEj rfl (compSc (N := ["joints", "joined"]) (cap := [none, some 2]) rfl rfl rfl rfl ⟨rfl, trivial⟩ rfl rfl ⟨⟨rfl, .inl rfl, .inl rfl⟩, trivial⟩) (d_varj 2) (fun _ _ _ _ => (dg_namej (i := 0) (show List.Nodup (["joints", "joined"] : List Str) from by decide +kernel))) (fun _ _ _ _ => (d_cmpj o_eq (d_cntj hr (d_varj 1) (d_varj 0)) d_intj (nomark _)))) da_nilj))))))), fun ds S k h => ?_⟩)
  · obtain ⟨_, _, rfl, _⟩ := h
    rfl
  · obtain ⟨d, n, rfl, ha, q⟩ := h
    obtain ⟨t, ht⟩ := ha.1
    refine ⟨t, ht, ?_⟩
    rcases tup_or d with ⟨ds, rfl⟩ | nt
    · cases ht
      obtain ⟨hl, hx⟩ := ha.2 ds rfl
      have q : ∀ S', Ext S S' → k (.bl (decide (ds.length ≤ 12) && (ds.all (rdD n) && decide ((ds.map keyD).Nodup)))) S' := q
      refine ite_dec (fun h12 => ?_) (fun h12 => ?_)
      · have := q S (Ext.refl S)
        rw [decide_eq_false (by omega), Bool.false_and] at this
        exact this
      refine ⟨(ds, none), rfl, fun p hp => ?_⟩
      have h12' : ds.length ≤ 12 := by omega
      rw [decide_eq_true h12', Bool.true_and] at q
      refine self_loop (g := fun x => .bl (rdD n x)) hp (fun _ _ => trivial) (fun x S' k' hx' e hk => ⟨x, n, rfl, ((hx x hx').ext e).three, hk⟩) _ (show ds.length ≤ 100 by omega) fun S1 e1 h1 => ?_
      refine ⟨(ds.map (fun x => .bl (rdD n x)), some p), ds.map (rdD n), by simp only [dItems, h1], by rw [List.map_map]; rfl, ?_⟩
      have ea : (ds.map (rdD n)).all id = ds.all (rdD n) := by rw [List.all_map]; rfl
      rw [ea]
      refine ite_nb (fun hb => ?_) (fun hb => ?_)
      · have := q S1 e1
        rw [hb, Bool.false_and] at this
        exact this
      · rw [hb, Bool.true_and] at q
        have hb' := List.all_eq_true.mp hb
        refine ⟨(ds, none), rfl, fun p2 hp2 => ?_⟩
        refine self_loop (g := fun x => .tup ((keyD x).map D.int)) hp2 (fun _ _ => trivial) (fun x S' k' hx' e hk => ?_) _ (show ds.length ≤ 100 by omega) fun S2 e2 h2 => ?_
        · obtain ⟨_, i, j, c, rfl, rfl, _, e3⟩ := rd_key (hb' x hx')
          exact hk
        · have h2 : S2 p2 = some (.lst ((ds.map keyD).map fun ns => D.tup (ns.map D.int))) := by rw [h2, List.map_map]; rfl
          refine ⟨((ds.map keyD).map (fun ns => D.tup (ns.map D.int)), some p2), by simp only [dItems, h2], fun p3 hp3 => ?_⟩
          refine map_loop (f := fun ns => D.tup (ns.map D.int)) (g := fun ns => D.bl (decide (((((ds.map keyD).count ns : Nat)) : Int) = 1))) (all := ds.map keyD) hp3 (fun S' e => e _ _ h2) (fun ns S' k' hx' e hk => ?_) (ds.map keyD) [] _ (fun _ h => h) (by simp; omega) fun S3 e3 h3 => ?_
          · exact ⟨⟨_, e _ _ h2⟩, _, ns, e _ _ h2, rfl, hk⟩
          · refine ⟨((ds.map keyD).map (fun ns => D.bl (decide (((((ds.map keyD).count ns : Nat)) : Int) = 1))), some p3), (ds.map keyD).map fun ns => decide (((((ds.map keyD).count ns : Nat)) : Int) = 1), by simp only [dItems, h3]; rfl, by simp only [List.map_map]; rfl, ?_⟩
            have := q S3 ((e1.trans e2).trans e3)
            have eb : ((ds.map keyD).map fun ns => decide (((((ds.map keyD).count ns : Nat)) : Int) = 1)).all id = decide ((ds.map keyD).Nodup) := by
              rw [Bool.eq_iff_iff, decide_eq_true_iff, ← count_nodup, List.all_map, List.all_eq_true]
              refine ⟨fun h x hx => ?_, fun h x hx => ?_⟩
              · have := of_decide_eq_true (h x hx); omega
              · refine decide_eq_true ?_; rw [h x hx]; rfl
            rw [eb]
            exact this
    · rw [not_tup ht nt]
      have : rdsD n d = false := by
        cases d with
        | tup ds => exact absurd rfl (nt ds)
        | _ => rfl
      rw [this] at q
      exact q S (Ext.refl S)
theorem lnk_len {ds : List D} (h : ¬ (ds.length : Int) = 3) : lnkD (.tup ds) = false := by
  match ds, h with
  | [], _ => rfl
  | [x], _ => cases x <;> rfl
  | [x, _], _ => cases x <;> rfl
  | [_, _, _], h => exact absurd rfl h
  | x :: _ :: _ :: _ :: r, _ => cases x <;> rfl
theorem lnk_not {d : D} (n : ∀ ds, d ≠ .tup ds) : lnkD d = false := by
  cases d with
  | tup ds => exact absurd rfl (n ds)
  | _ => rfl
theorem lnk_w {x y z : D} (h : wholeD x = false) : lnkD (.tup [x, y, z]) = false := by
  cases x with
  | int i => cases h
  | _ => rfl
def F_is_linkage : DSp := fun ds S k => ∃ (d : D), ds = [d] ∧ AskN 4 S d ∧ ∀ S', Ext S S' → k (.bl (lnkD d)) S'
theorem sc_is_linkage : FnScope ["thing"] ["thing"] (defScope s_is_linkage) := ⟨rfl, rfl, rfl, by decide +kernel, rfl, by decide +kernel, by decide +kernel⟩
theorem ok_is_linkage {P : Program} {w : World} {K : Fg} {mg : Str → Option Value} {base : Heap} {f : Addr} {fd : FuncData} (Fn : Fun K "is_linkage" "is_linkage" s_is_linkage f fd) (c_is_whole : Own P w K mg base "is_whole" 1 F_is_whole) (c_are_rods : Own P w K mg base "are_rods" 5 F_are_rods) (c_are_fixed : Own P w K mg base "are_fixed" 3 F_are_fixed) (z_len : mg "len" = none) (z_isinstance : mg "isinstance" = none) (z_tuple : mg "tuple" = none) (g_MOST_JOINTS : GInt mg "MOST_JOINTS" 8) :
    FnOk P w K mg base CX0 6 f fd ["thing"] (spU K F_is_linkage) := by
  refine Fn.okJ sc_is_linkage (fun ds S k h => ?_) (fun cdv A outer s H E hr => ⟨_, (ds_consj (dst_ifj (WJ.pt (dw_orj (dt_notj (dt_valj (d_callBj b_isiX rfl z_isinstance bt_isinstance (da_consj (d_varj 0) (da_consj (d_tyj (n := .tup) rfl z_tuple bt_tuple) da_nilj))))) (dw_or1j (dt_cmpj o_ne (d_callBj b_lenE rfl z_len bt_len (da_consj (d_varj 0) da_nilj)) d_intj (nomark _))))) (ds_onej (dst_retj d_blj)) ds_nilj) (ds_consj (dst_ifj (WJ.pt (dw_orj (dt_notj (dt_valj (d_callj c_is_whole (hr.mono (by decide)) rfl (da_consj (d_ixj x_ixE (d_varj 0) d_intj (fun _ _ => rfl)) da_nilj)))) (dw_or1j (dt_notj (dt_chainj o_le o_le d_intj (d_ixj x_ixE (d_varj 0) d_intj (fun _ _ => rfl)) (d_gint g_MOST_JOINTS rfl)))))) (ds_onej (dst_retj d_blj)) ds_nilj) (ds_onej (dst_retj (d_andj (d_callj c_are_fixed (hr.mono (by decide)) rfl (da_consj (d_ixj x_ixE (d_varj 0) d_intj (fun _ _ => rfl)) (da_consj (d_ixj x_ixE (d_varj 0) d_intj (fun _ _ => rfl)) da_nilj))) (d_onej (d_callj c_are_rods (hr.mono (by decide)) rfl (da_consj (d_ixj x_ixE (d_varj 0) d_intj (fun _ _ => rfl)) (da_consj (d_ixj x_ixE (d_varj 0) d_intj (fun _ _ => rfl)) da_nilj))))))))), fun ds S k h => ?_⟩)
  · obtain ⟨_, rfl, _⟩ := h
    rfl
  · obtain ⟨d, rfl, ha, q⟩ := h
    obtain ⟨t, ht⟩ := ha.1
    refine ⟨t, ht, ?_⟩
    rcases tup_or d with ⟨ds, rfl⟩ | nt
    · cases ht
      obtain ⟨hl, hx⟩ := ha.2 ds rfl
      refine ite_ndec (fun hl => ?_) (fun hl => ?_)
      · rw [lnk_len hl] at q
        exact q S (Ext.refl S)
      · obtain ⟨x, y, z, rfl⟩ := len3r hl
        have ax := hx x (by simp)
        have ay := hx y (by simp)
        have az := hx z (by simp)
        refine ⟨x, rfl, ax.ask, ite_nb (fun h1 => ?_) (fun h1 => ?_)⟩
        · rw [lnk_w h1] at q
          exact q S (Ext.refl S)
        · obtain ⟨m, rfl⟩ := whole_int h1
          have q : ∀ S', Ext S S' → k (.bl ((decide (1 ≤ m) && decide (m ≤ 8)) && (fxsD m.toNat y && rdsD m.toNat z))) S' := q
          refine ite_dec (fun c1 => ite_ndec (fun c2 => ?_) (fun c2 => ?_)) (fun c1 => ?_)
          · have := q S (Ext.refl S)
            rw [decide_eq_false c2, Bool.and_false, Bool.false_and] at this
            exact this
          · rw [decide_eq_true c1, decide_eq_true c2, Bool.and_true, Bool.true_and] at q
            have em : D.int m = .int (m.toNat : Nat) := congrArg D.int (by omega)
            have ey : AskN 1 S y := ⟨ay.1, fun ds e => ⟨(ay.2 ds e).1, fun x hx => ((ay.2 ds e).2 x hx).ask⟩⟩
            refine ⟨y, m.toNat, by rw [← em], ey, fun S1 e1 => ite_b (fun hb => ?_) (fun hb => ?_)⟩
            · rw [hb, Bool.true_and] at q
              exact ⟨z, m.toNat, by rw [← em], az.ext e1, fun S2 e2 => q S2 (e1.trans e2)⟩
            · rw [hb, Bool.false_and] at q
              exact q S1 e1
          · have := q S (Ext.refl S)
            rw [decide_eq_false c1, Bool.false_and, Bool.false_and] at this
            exact this
    · rw [not_tup ht nt]
      rw [lnk_not nt] at q
      exact q S (Ext.refl S)
end My
namespace My
open PySem PySem.Spec PyProof.Rows L2 DL HM
set_option maxHeartbeats 4000000
/-! ### drawn linkages -/
abbrev P2 (v : Rat × Rat) : D := .tup [.tup [fr v.1, fr 0], .tup [fr v.2, fr 0]]
abbrev Rod := Nat × Nat × Int
abbrev rodD (r : Rod) : D := .tup [.int (r.1 : Nat), .int (r.2.1 : Nat), .tup [.int r.2.2, .int 1]]
abbrev natD (f : Nat) : D := .int (f : Nat)
abbrev LK (many : Nat) (fx : List Nat) (rods : List Rod) : D := .tup [.int (many : Nat), .tup (fx.map natD), .tup (rods.map rodD)]
structure LkOk (many : Nat) (fx : List Nat) (rods : List Rod) : Prop where
  m1 : 1 ≤ many
  m7 : many ≤ 7
  fl : fx.length ≤ 7
  fxl : ∀ f ∈ fx, f < many
  rl : rods.length ≤ 12
  rd : ∀ r ∈ rods, r.1 < r.2.1 ∧ r.2.1 < many ∧ 1 ≤ r.2.2
  up : fx.Pairwise (· < ·)
  un : (rods.map fun r => (r.1, r.2.1)).Nodup
theorem gen_loop {α γ : Type} {f : α → D} {g : γ → D} {R : α → γ → DH → Prop} {J : DH → Prop} {Kq : DH → DH → Prop} {p : Addr} {ok : DH → Prop} {bd : DB} {k : DK} {L1 : Lo} {all : List α} (hok : ∀ S', J S' → ok S')
    (hKp : ∀ S1 S2 o, J S1 → Kq S1 S2 → S1 p = some o → S2 p = some o) (hKR : ∀ S1 S2 x y, Kq S1 S2 → R x y S1 → R x y S2) (hpR : ∀ S1 x y o, R x y S1 → R x y (put S1 p o)) (hJ : ∀ S1 o, J S1 → J (put S1 p o))
    (hbd : ∀ (x : α) (S' : DH) (k' : Option D → DH → Prop), x ∈ all → J S' → (∃ o, S' p = some o) → (∀ y S2, J S2 → Kq S' S2 → R x y S2 → k' (some (g y)) S2) → bd (some (f x) :: L1) S' k') :
    ∀ (r : List α) (zs : List (α × γ)) (S1 : DH) (l0 : Option D), (∀ x ∈ r, x ∈ all) → J S1 → S1 p = some (.lst (zs.map fun z => g z.2)) → (∀ z ∈ zs, R z.1 z.2 S1) → zs.length + r.length ≤ 100 → (∀ (zs' : List (α × γ)) S', J S' → S' p = some (.lst (zs'.map fun z => g z.2)) → (∀ z ∈ zs', R z.1 z.2 S') → zs'.map Prod.fst = zs.map Prod.fst ++ r → k (.ref p) S') →
    dCLoop ok p (dgName 0) bd k (r.map f) (zs.map fun z => g z.2) (l0 :: L1) S1
  | [], zs, S1, l0, _, j1, h1, hz, _, w => ⟨hok _ j1, w zs S1 j1 h1 hz (by rw [List.append_nil])⟩
  | x :: r, zs, S1, l0, hr, j1, h1, hz, hl, w => by
    have hl : zs.length + (r.length + 1) ≤ 100 := hl
    refine ⟨hok _ j1, hbd x S1 _ (hr x List.mem_cons_self) j1 ⟨_, h1⟩ fun y S2 j2 k2 hR => ⟨hKp _ _ _ j1 k2 h1, by rw [List.length_map]; exact big1 (by omega), ?_⟩⟩
    have ea : (zs.map fun z => g z.2) ++ [g y] = (zs ++ [(x, y)]).map fun z => g z.2 := by rw [List.map_append]; rfl
    rw [ea]
    refine gen_loop hok hKp hKR hpR hJ hbd r (zs ++ [(x, y)]) _ _ (fun y hy => hr y (List.mem_cons_of_mem _ hy)) (hJ _ _ j2) put_same (fun z hz' => ?_) (by rw [List.length_append]; show zs.length + 1 + r.length ≤ 100; omega) fun zs' S' j' h' hR' he => w zs' S' j' h' hR' (by rw [he, List.map_append, List.append_assoc]; rfl)
    refine hpR _ _ _ _ ?_
    rcases List.mem_append.mp hz' with h | h
    · exact hKR _ _ _ _ k2 (hz z h)
    · simp only [List.mem_cons, List.not_mem_nil, or_false] at h
      subst h
      exact hR
theorem at_map {α : Type} {f : α → D} {l : List α} {c : Nat} {a : α} (h : l[c]? = some a) : L2.atI (l.map f) ((c : Nat) : Int) = some (f a) := L2.atI_nat (by rw [List.getElem?_map, h]; rfl)
theorem six_nat {i n : Nat} (h : i < n) : seqIndex? ((i : Nat) : Int) n = some i := by
  unfold seqIndex?
  simp
  omega
theorem getP {l : List (Rat × Rat)} {i : Nat} (h : i < l.length) : l[i]? = some (l.getD i (0, 0)) := by
  rw [List.getD_eq_getElem?_getD, List.getElem?_eq_getElem h]; rfl
def F__law_fraction : DSp := fun ds S k => ∃ (a : Addr) (m : Int), ds = [.ref a, .int m] ∧ 1 ≤ m ∧ m ≤ 4 ∧ SOK S a ∧ ∀ q S', Dr a S S' → k (fr q) S'
theorem sc__law_fraction : FnScope ["state", "most"] ["state", "most"] (defScope s__law_fraction) := ⟨rfl, rfl, rfl, by decide +kernel, rfl, by decide +kernel, by decide +kernel⟩
theorem ok__law_fraction {P : Program} {w : World} {K : Fg} {mg : Str → Option Value} {base : Heap} {f : Addr} {fd : FuncData} (Fn : Fun K "_law_fraction" "_law_fraction" s__law_fraction f fd) (c__law_ratio : Own P w K mg base "_law_ratio" 2 F__law_ratio) (c__law_take : Own P w K mg base "_law_take" 1 F__law_take) :
    FnOk P w K mg base CX0 3 f fd ["state", "most"] (spU K F__law_fraction) := by
  refine Fn.okJ sc__law_fraction (fun ds S k h => ?_) (fun cdv A outer s H E hr => ⟨_, (ds_onej (dst_retj (d_callj c__law_ratio (hr.mono (by decide)) rfl (da_consj (d_opj o_sub (d_callj c__law_take (hr.mono (by decide)) rfl (da_consj (d_varj 0) (da_consj (d_opj o_add (d_opj o_mul d_intj (d_varj 1)) d_intj) da_nilj))) (d_varj 1)) (da_consj (d_opj o_add d_intj (d_callj c__law_take (hr.mono (by decide)) rfl (da_consj (d_varj 0) (da_consj (d_ixj x_ixE (d_lstj (da_consj d_intj (da_consj d_intj (da_consj d_intj (da_consj d_intj da_nilj))))) (d_callj c__law_take (hr.mono (by decide)) rfl (da_consj (d_varj 0) (da_consj d_intj da_nilj))) (fun _ _ => rfl)) da_nilj)))) da_nilj))))), fun ds S k h => ?_⟩)
  · obtain ⟨_, _, rfl, _⟩ := h
    rfl
  · obtain ⟨a, m, rfl, m1, m4, hS, w⟩ := h
    have bm : Bt 4 m := by unfold Bt; omega
    have b9 : Bt 5 (2 * m + 1) := by unfold Bt; omega
    refine ⟨mok (show Bt 2 2 by decide) bm, a, 2 * m + 1, rfl, by omega, b9.mono (by decide), hS, fun r1 S1 h1 h1' d1 => ⟨few, fun p hp => ⟨a, 4, rfl, by decide, by decide, d1.1.new hp, fun r2 S2 h2 h2' d2 => ?_⟩⟩⟩
    have hp3 := d2.2 p _ (d1.1.ne hp) put_same
    obtain ⟨c, hc, hm⟩ := atI_mem (ds := [.int 1, .int 1, .int 1, .int 4]) h2 h2'
    have hc2 : ∃ s : Int, c = .int s ∧ 1 ≤ s ∧ s ≤ 4 := by
      simp only [List.mem_cons, List.not_mem_nil, or_false] at hm
      rcases hm with rfl | rfl | rfl | rfl
      · exact ⟨1, rfl, by decide, by decide⟩
      · exact ⟨1, rfl, by decide, by decide⟩
      · exact ⟨1, rfl, by decide, by decide⟩
      · exact ⟨4, rfl, by decide, by decide⟩
    obtain ⟨s, rfl, s0, s1⟩ := hc2
    have bs : Bt 4 s := by unfold Bt; omega
    refine ⟨_, _, hp3, hc, a, s, rfl, by omega, bs.mono (by decide), d2.1, fun r3 S3 h3 h3' d3 => ?_⟩
    have b1 : Bt 4 (r1 - m) := by unfold Bt; omega
    have b2 : Bt 4 (1 + r3) := by unfold Bt; omega
    exact ⟨_, _, rfl, by omega, b2.mono (by decide), w _ _ (d1.trans ((Dr.new d1.1 hp).trans (d2.trans d3)))⟩
def F__law_plain_point : DSp := fun ds S k => ∃ a m, ds = [.ref a, .int m] ∧ 1 ≤ m ∧ m ≤ 4 ∧ SOK S a ∧ ∀ v S', Dr a S S' → k (P2 v) S'
theorem sc__law_plain_point : FnScope ["state", "most"] ["state", "most"] (defScope s__law_plain_point) := ⟨rfl, rfl, rfl, by decide +kernel, rfl, by decide +kernel, by decide +kernel⟩
theorem ok__law_plain_point {P : Program} {w : World} {K : Fg} {mg : Str → Option Value} {base : Heap} {f : Addr} {fd : FuncData} (Fn : Fun K "_law_plain_point" "_law_plain_point" s__law_plain_point f fd) (c__law_fraction : Own P w K mg base "_law_fraction" 3 F__law_fraction) :
    FnOk P w K mg base CX0 4 f fd ["state", "most"] (spU K F__law_plain_point) := by
  refine Fn.okJ sc__law_plain_point (fun ds S k h => ?_) (fun cdv A outer s H E hr => ⟨_, (ds_onej (dst_retj (d_tupj (da_consj (d_tupj (da_consj (d_callj c__law_fraction (hr.mono (by decide)) rfl (da_consj (d_varj 0) (da_consj (d_varj 1) da_nilj))) (da_consj (d_tupj (da_consj d_intj (da_consj d_intj da_nilj))) da_nilj))) (da_consj (d_tupj (da_consj (d_callj c__law_fraction (hr.mono (by decide)) rfl (da_consj (d_varj 0) (da_consj (d_varj 1) da_nilj))) (da_consj (d_tupj (da_consj d_intj (da_consj d_intj da_nilj))) da_nilj))) da_nilj))))), fun ds S k h => ?_⟩)
  · obtain ⟨_, _, rfl, _⟩ := h
    rfl
  · obtain ⟨a, m, rfl, m1, m4, hS, w⟩ := h
    exact ⟨a, m, rfl, m1, m4, hS, fun x S1 d1 => ⟨few, few, a, m, rfl, m1, m4, d1.1, fun y S2 d2 => ⟨few, few, few, w (x, y) S2 (d1.trans d2)⟩⟩⟩
theorem Dr.put {a p : Addr} {S S1 : DH} {o : DO} (d : Dr a S S1) (hp : S p = none) (hne : p ≠ a) : Dr a S (put S1 p o) :=
  ⟨SOK.set d.1 hne, fun b u n e => by rw [put_ne (ne_put e hp)]; exact d.2 b u n e⟩
theorem Dr.none {a p : Addr} {S S1 : DH} (d : Dr a S S1) (h : S1 p = none) : S p = none := by
  cases e : S p with
  | none => rfl
  | some o => rw [d.2 p o (d.1.ne h) e] at h; cases h
theorem draw_filter {S : DH} {a p : Addr} {ok : DH → Prop} {bd : DB} {k : DK} {L1 : Lo} {n : Nat} (hp : S p = none) (hne : p ≠ a) (hok : ∀ S', ok S')
    (hbd : ∀ (x : Nat) (S' : DH) (k' : Option D → DH → Prop), SOK S' a → (∀ (b : Bool) S2, Dr a S' S2 → k' (if b then some (natD x) else none) S2) → bd (some (natD x) :: L1) S' k') :
    ∀ (r acc : List Nat) (S1 : DH) (l0 : Option D), (acc ++ r).Pairwise (· < ·) → (∀ x ∈ acc, x < n) → (∀ x ∈ r, x < n) → Dr a S S1 → S1 p = some (.lst (acc.map natD)) → acc.length + r.length ≤ 7 → (∀ (fx : List Nat) S', fx.Pairwise (· < ·) → (∀ f ∈ fx, f < n) → fx.length ≤ 7 → Dr a S S' → S' p = some (.lst (fx.map natD)) → k (.ref p) S') → dCLoop ok p (dgName 0) bd k (r.map natD) (acc.map natD) (l0 :: L1) S1
  | [], acc, S1, l0, nd, ha, _, d1, h1, hl, w => ⟨hok _, w acc S1 (by rw [List.append_nil] at nd; exact nd) ha (by simpa using hl) d1 h1⟩
  | x :: r, acc, S1, l0, nd, ha, hr, d1, h1, hl, w => by
    have hl : acc.length + (r.length + 1) ≤ 7 := hl
    refine ⟨hok _, hbd x S1 _ d1.1 fun b S2 d2 => ?_⟩
    have h2 := d2.2 p _ hne h1
    cases b with
    | true =>
      refine ⟨h2, by rw [List.length_map]; exact big1 (by omega), ?_⟩
      have ea : acc.map natD ++ [natD x] = (acc ++ [x]).map natD := by rw [List.map_append]; rfl
      rw [ea]
      exact draw_filter hp hne hok hbd r (acc ++ [x]) _ _ (by rw [List.append_assoc]; exact nd) (fun y hy => (List.mem_append.mp hy).elim (ha y) fun h => by simp at h; subst h; exact hr _ List.mem_cons_self) (fun y hy => hr y (List.mem_cons_of_mem _ hy)) ((d1.trans d2).put hp hne) put_same (by rw [List.length_append]; show acc.length + 1 + r.length ≤ 7; omega) w
    | false => exact draw_filter hp hne hok hbd r acc _ _ (nd.sublist (List.Sublist.append_left (List.sublist_cons_self x r) acc)) ha (fun y hy => hr y (List.mem_cons_of_mem _ hy)) (d1.trans d2) h2 (by omega) w
theorem erase_map {α β : Type} {f : α → β} : ∀ (l : List α) (n : Nat), (l.map f).eraseIdx n = (l.eraseIdx n).map f
  | [], _ => rfl
  | _ :: _, 0 => rfl
  | x :: l, n + 1 => by
    show f x :: (l.map f).eraseIdx n = f x :: (l.eraseIdx n).map f
    rw [erase_map l n]
theorem erase_perm {α : Type} : ∀ {l : List α} {n : Nat} (h : n < l.length), List.Perm (l[n] :: l.eraseIdx n) l
  | x :: l, 0, _ => List.Perm.refl _
  | x :: l, n + 1, h => ((List.Perm.swap x (l[n]'(Nat.lt_of_succ_lt_succ h)) _)).trans ((erase_perm (Nat.lt_of_succ_lt_succ h)).cons x)
theorem eq_int {n : Nat} {i j : Int} : eqT n (.int i) (.int j) = some (i == j) := by cases n <;> rfl
theorem erase_nodup {α : Type} {t : List α} : ∀ {l : List α} {n : Nat} (h : n < l.length), (l ++ t).Nodup → (l.eraseIdx n ++ (t ++ [l[n]])).Nodup := by
  intro l n h hu
  have hp : List.Perm (l.eraseIdx n ++ (t ++ [l[n]])) (l ++ t) := by
    have h1 : List.Perm (l[n] :: l.eraseIdx n) l := erase_perm h
    have h2 : List.Perm (l.eraseIdx n ++ (t ++ [l[n]])) (l[n] :: (l.eraseIdx n ++ t)) := by
      rw [← List.append_assoc]
      exact List.perm_append_singleton _ _
    exact h2.trans (h1.append_right t)
  exact hp.nodup_iff.mpr hu
abbrev prD (x : Nat × Nat) : D := .tup [.int (x.1 : Nat), .int (x.2 : Nat)]
def F__law_linkage : DSp := fun ds S k => ∃ a, ds = [.ref a] ∧ SOK S a ∧ ∀ (many : Nat) (fx : List Nat) (rods : List Rod) (pts : List (Rat × Rat)) S', LkOk many fx rods → Dr a S S' → k (.tup [LK many fx rods, .tup (pts.map P2)]) S'
theorem sc__law_linkage : FnScope ["state", "many", "fixed", "pairs", "one", "rods", "k", "place", "other"] ["state"] (defScope s__law_linkage) := ⟨rfl, rfl, rfl, by decide +kernel, rfl, by decide +kernel, by decide +kernel⟩
theorem ok__law_linkage {P : Program} {w : World} {K : Fg} {mg : Str → Option Value} {base : Heap} {f : Addr} {fd : FuncData} (Fn : Fun K "_law_linkage" "_law_linkage" s__law_linkage f fd) (c__law_take : Own P w K mg base "_law_take" 1 F__law_take) (c__law_plain_point : Own P w K mg base "_law_plain_point" 4 F__law_plain_point) (z_tuple : mg "tuple" = none) (z_range : mg "range" = none) (z_len : mg "len" = none) :
    FnOk P w K mg base CX0 5 f fd ["state"] (spU K F__law_linkage) := by
  refine Fn.okJ sc__law_linkage (fun ds S k h => ?_) (fun cdv A outer s H E hr => ⟨_, (ds_consj (dst_setj (i := 1) sc__law_linkage.nd (d_opj o_add d_intj (d_callj c__law_take (hr.mono (by decide)) rfl (da_consj (d_varj 0) (da_consj d_intj da_nilj))))) (ds_consj (dst_setj (i := 2) sc__law_linkage.nd (d_callTj b_tuple rfl z_tuple bt_tuple (da_consj (d_compRIfj rfl (compSc (N := ["joint", "state"]) (cap := [none, some 0]) rfl rfl rfl rfl ⟨rfl, trivial⟩ rfl rfl ⟨⟨rfl, .inl rfl, .inl rfl⟩, trivial⟩) rfl z_range (da_consj (d_varj 1) da_nilj) (fun _ _ _ _ => (dg_namej (i := 0) (show List.Nodup (["joint", "state"] : List Str) from by decide +kernel))) (fun _ _ _ _ => (dt_cmpj (o_eqX hr) (d_callj c__law_take (hr.mono (by decide)) rfl (da_consj (d_varj 1) (da_consj d_intj da_nilj))) d_intj (nomark _))) (fun _ _ _ _ => (d_varj 0))) da_nilj))) (ds_consj (dst_setj (i := 3) sc__law_linkage.nd (d_lstj da_nilj)) (ds_consj (dst_forRj PassesOwn.never rfl rfl z_range (da_consj (d_varj 1) da_nilj) (dg_namej (i := 4) sc__law_linkage.nd) (ds_onej (dst_exprj (d_extj (d_varj 3) (d_compR2j rfl (compSc (N := ["other", "one"]) (cap := [none, some 4]) rfl rfl rfl rfl ⟨rfl, trivial⟩ rfl rfl ⟨⟨rfl, .inl rfl, .inl rfl⟩, trivial⟩) rfl z_range (da_consj (d_opj o_add (d_varj 4) d_intj) (da_consj (d_varj 1) da_nilj)) (fun _ _ _ _ => (dg_namej (i := 0) (show List.Nodup (["other", "one"] : List Str) from by decide +kernel))) (fun _ _ _ _ => (d_tupj (da_consj (d_varj 1) (da_consj (d_varj 0) da_nilj))))))))) (ds_consj (dst_setj (i := 5) sc__law_linkage.nd (d_lstj da_nilj)) (ds_consj (dst_forRj PassesOwn.never rfl rfl z_range (da_consj (d_callj c__law_take (hr.mono (by decide)) rfl (da_consj (d_varj 0) (da_consj d_intj da_nilj))) da_nilj) (dg_namej (i := 6) sc__law_linkage.nd) (ds_onej (dst_ifj (dt_cmpj (o_neL hr) (d_varj 3) (d_lstj da_nilj) (nomark _)) (ds_consj (dst_asgj (d_pop1j (d_varj 3) (d_callj c__law_take (hr.mono (by decide)) rfl (da_consj (d_varj 0) (da_consj (d_callBj b_lenE rfl z_len bt_len (da_consj (d_varj 3) da_nilj)) da_nilj)))) (dg_seqE (n := 2) rfl (dgs_consj (dg_namej (i := 4) sc__law_linkage.nd) (dgs_consj (dg_namej (i := 8) sc__law_linkage.nd) dgs_nilj)))) (ds_onej (dst_exprj (d_appj (d_varj 5) (d_tupj (da_consj (d_varj 4) (da_consj (d_varj 8) (da_consj (d_tupj (da_consj (d_opj o_add d_intj (d_callj c__law_take (hr.mono (by decide)) rfl (da_consj (d_varj 0) (da_consj d_intj da_nilj)))) (da_consj d_intj da_nilj))) da_nilj)))))))) ds_nilj))) (ds_consj (dst_setj (i := 7) sc__law_linkage.nd (d_compRj rfl (compSc (N := ["joint", "state"]) (cap := [none, some 0]) rfl rfl rfl rfl ⟨rfl, trivial⟩ rfl rfl ⟨⟨rfl, .inl rfl, .inl rfl⟩, trivial⟩) rfl z_range (da_consj (d_varj 1) da_nilj) (fun _ _ _ _ => (dg_namej (i := 0) (show List.Nodup (["joint", "state"] : List Str) from by decide +kernel))) (fun _ _ _ _ => (d_callj c__law_plain_point (hr.mono (by decide)) rfl (da_consj (d_varj 1) (da_consj d_intj da_nilj)))))) (ds_consj (dst_ifj (dt_cmpj (o_eqX hr) (d_callj c__law_take (hr.mono (by decide)) rfl (da_consj (d_varj 0) (da_consj d_intj da_nilj))) d_intj (nomark _)) (ds_onej (dst_setj (i := 7) sc__law_linkage.nd (d_compEj rfl (compSc (N := ["point", "place"]) (cap := [none, some 7]) rfl rfl rfl rfl ⟨rfl, trivial⟩ rfl rfl ⟨⟨rfl, .inl rfl, .inl rfl⟩, trivial⟩) (d_varj 7) (fun _ _ _ _ => (dg_namej (i := 0) (show List.Nodup (["point", "place"] : List Str) from by decide +kernel))) (fun _ _ _ _ => (d_tupj (da_consj (d_ixj x_ixF (d_varj 0) d_intj (fun _ _ => rfl)) (da_consj (d_ixj x_ixF (d_ixj x_ixF (d_varj 1) d_intj (fun _ _ => rfl)) d_intj (fun _ _ => rfl)) da_nilj))))))) ds_nilj) (ds_onej (dst_retj (d_tupj (da_consj (d_tupj (da_consj (d_varj 1) (da_consj (d_varj 2) (da_consj (d_callTj b_tuple rfl z_tuple bt_tuple (da_consj (d_varj 5) da_nilj)) da_nilj)))) (da_consj (d_callTj b_tuple rfl z_tuple bt_tuple (da_consj (d_varj 7) da_nilj)) da_nilj))))))))))))), fun ds S k h => ?_⟩)
  · obtain ⟨_, rfl, _⟩ := h
    rfl
  · obtain ⟨a, rfl, hS, w⟩ := h
    refine ⟨a, 7, rfl, by decide, by decide, hS, fun r0 S1 h0 h0' d1 => ?_⟩
    obtain ⟨m, rfl⟩ := Int.eq_ofNat_of_zero_le h0
    have hm : m < 7 := by omega
    have em : (1 : Int) + ((m : Nat) : Int) = ((m + 1 : Nat) : Int) := by omega
    refine ⟨⟨by omega, by omega⟩, fun p1 hp1 => ?_⟩
    rw [em]
    have hM1 : 1 ≤ m + 1 := by omega
    have hM7 : m + 1 ≤ 7 := by omega
    generalize m + 1 = M at hM1 hM7 ⊢
    clear em h0 h0' hm
    have np1 : p1 ≠ a := d1.1.ne hp1
    rw [Int.toNat_natCast]
    refine draw_filter (n := M) hp1 np1 (fun _ => trivial) ?bb (List.range M) [] _ none List.pairwise_lt_range (fun _ h => by cases h) (fun x hx => List.mem_range.mp hx) ((Dr.new d1.1 hp1)) put_same (by rw [List.length_range]; show 0 + M ≤ 7; omega) fun fx S2 hnd hfx hfl d2 hf => ?_
    case bb =>
      intro x S' k' hS' hk
      exact ⟨a, 3, rfl, by decide, by decide, hS', fun r S2 _ _ d => ⟨_, eq_int, ite_b (fun _ => hk true S2 d) (fun _ => hk false S2 d)⟩⟩
    have d2 := d1.trans d2
    refine ⟨_, hf, few, fun p2 hp2 => ⟨⟨by omega, by omega⟩, ?_⟩⟩
    clear hf
    have np2 : p2 ≠ a := d2.1.ne hp2
    have s2 : S p2 = none := d2.none hp2
    rw [Int.toNat_natCast]
    refine loop_ix (fun rr L S' => ∃ (j : Nat) (prs : List (Nat × Nat)) (l4 : Option D), L = [some (.ref a), some (.int (M : Nat)), some (.tup (fx.map natD)), some (.ref p2), l4, none, none, none, none] ∧ Dr a S S' ∧ S' p2 = some (.lst (prs.map prD)) ∧ (∀ x ∈ prs, x.1 < x.2 ∧ x.2 < M ∧ x.1 < j) ∧ prs.Nodup ∧ prs.length ≤ 7 * j ∧ j ≤ M ∧ rr = (List.range' j (M - j)).map fun (i : Nat) => D.int (i : Nat)) (fun _ _ _ _ => trivial) ?_ ?_ _ _ _ ⟨0, [], none, rfl, d2.put s2 np2, put_same, (fun _ h => by cases h), List.nodup_nil, Nat.zero_le _, Nat.zero_le _, by rw [List.range_eq_range', Nat.sub_zero]⟩
    · rintro d rr L S3 N1 ⟨j, prs, l4, rfl, d3, h3, hx, hu, hl, hj, er⟩ hN
      have hlt : j < M := by
        rcases Nat.lt_or_ge j M with h | h
        · exact h
        · rw [show M - j = 0 by omega] at er; cases er
      rw [show M - j = (M - (j + 1)) + 1 by omega] at er
      have er : d :: rr = D.int (j : Nat) :: ((List.range' (j + 1) (M - (j + 1))).map fun (i : Nat) => D.int (i : Nat)) := er
      cases er
      refine ⟨⟨_, h3⟩, ⟨by omega, by omega, by omega, by omega⟩, fun p3 hp3 => ?_⟩
      have er2 : rngD (((j : Nat) : Int) + 1) ((M : Nat) : Int) = (List.range' (j + 1) (M - (j + 1))).map natD := by
        unfold rngD
        rw [show (((M : Nat) : Int) - (((j : Nat) : Int) + 1)).toNat = M - (j + 1) by omega, List.range'_eq_map_range, List.map_map]
        refine List.map_congr_left fun i _ => ?_
        show D.int (((j : Nat) : Int) + 1 + ((i : Nat) : Int)) = D.int ((j + 1 + i : Nat) : Int)
        exact congrArg D.int (by omega)
      rw [er2]
      refine map_loop (f := natD) (g := fun i => prD (j, i)) (all := List.range' (j + 1) (M - (j + 1))) hp3 (fun _ _ => trivial) ?_ (List.range' (j + 1) (M - (j + 1))) [] none (fun _ h => h) (by rw [List.length_range']; show 0 + (M - (j + 1)) ≤ 100; omega) fun S4 e4 h4 => ?_
      · intro x S' k' hx e hk
        exact ⟨few, hk⟩
      · have h4 : S4 p3 = some (.lst ((List.range' (j + 1) (M - (j + 1))).map fun i => prD (j, i))) := h4
        have h5 := e4 _ _ h3
        refine ⟨_, _, h5, h4, by rw [List.length_map, List.length_map, List.length_range']; exact Nat.le_of_lt (big1 (by omega)), ?_⟩
        have ea : prs.map prD ++ (List.range' (j + 1) (M - (j + 1))).map (fun i => prD (j, i)) = (prs ++ (List.range' (j + 1) (M - (j + 1))).map fun i => (j, i)).map prD := by rw [List.map_append, List.map_map]; rfl
        rw [ea]
        have d4 : Dr a S S4 := ⟨by obtain ⟨n, b, e, w⟩ := d3.1; exact ⟨n, b, e4 _ _ e, w⟩, fun b o n e => e4 _ _ (d3.2 b o n e)⟩
        refine hN _ _ ⟨j + 1, _, _, rfl, d4.put s2 np2, put_same, fun x hx' => ?_, ?_, by rw [List.length_append, List.length_map, List.length_range']; omega, hlt, rfl⟩
        · rcases List.mem_append.mp hx' with h | h
          · have := hx x h
            exact ⟨this.1, this.2.1, by omega⟩
          · obtain ⟨i, hi, rfl⟩ := List.mem_map.mp h
            have := List.mem_range'.mp hi
            obtain ⟨i', hi', rfl⟩ := this
            refine ⟨?_, ?_, ?_⟩ <;> dsimp only <;> omega
        · refine List.nodup_append.mpr ⟨hu, List.Pairwise.map _ (fun a b h => ?_) (List.nodup_range' (step := 1)), fun y hy z hz => ?_⟩
          · exact fun e => h (congrArg Prod.snd e)
          · obtain ⟨i, hi, rfl⟩ := List.mem_map.mp hz
            intro e
            have := (hx y hy).2.2
            rw [e] at this
            exact absurd this (Nat.lt_irrefl _)
    · rintro L S3 ⟨j, prs, l4, rfl, d3, h3, hx0, hu, hl, hj, er⟩
      have hx : ∀ x ∈ prs, x.1 < x.2 ∧ x.2 < M := fun x h => ⟨(hx0 x h).1, (hx0 x h).2.1⟩
      have pl : prs.length ≤ 49 := by omega
      refine ⟨few, fun p3 hp3 => ?_⟩
      have np3 : p3 ≠ a := d3.1.ne hp3
      have s3 : S p3 = none := d3.none hp3
      have n23 : p2 ≠ p3 := fun z => by rw [z, hp3] at h3; cases h3
      have d4 : Dr a S (put S3 p3 (.lst [])) := d3.put s3 np3
      refine ⟨a, 13, rfl, by decide, by decide, d4.1, fun r S4 r0 r1 d5 => ⟨⟨by omega, by omega⟩, ?_⟩⟩
      have d6 := d4.trans d5
      have g2 : S4 p2 = some (.lst (prs.map prD)) := d5.2 _ _ np2 (by rw [put_ne n23]; exact h3)
      have g3 : S4 p3 = some (.lst []) := d5.2 _ _ np3 put_same
      obtain ⟨R, rfl⟩ := Int.eq_ofNat_of_zero_le r0
      rw [Int.toNat_natCast]
      refine loop_ix (fun rr L S' => ∃ (j : Nat) (prs : List (Nat × Nat)) (rods : List Rod) (l4 l6 l8 : Option D), L = [some (.ref a), some (.int (M : Nat)), some (.tup (fx.map natD)), some (.ref p2), l4, some (.ref p3), l6, none, l8] ∧ Dr a S S' ∧ S' p2 = some (.lst (prs.map prD)) ∧ S' p3 = some (.lst (rods.map rodD)) ∧ (∀ x ∈ prs, x.1 < x.2 ∧ x.2 < M) ∧ prs.length ≤ 49 ∧ (∀ r ∈ rods, r.1 < r.2.1 ∧ r.2.1 < M ∧ 1 ≤ r.2.2) ∧ (prs ++ rods.map fun r => (r.1, r.2.1)).Nodup ∧ rods.length ≤ j ∧ j ≤ R ∧ rr = (List.range' j (R - j)).map fun (i : Nat) => D.int (i : Nat)) (fun _ _ _ _ => trivial) ?_ ?_ _ _ _ ⟨0, prs, [], l4, none, none, rfl, d6, g2, g3, hx, pl, (fun _ h => by cases h), by rw [List.map_nil, List.append_nil]; exact hu, Nat.le_refl _, Nat.zero_le _, by rw [List.range_eq_range', Nat.sub_zero]⟩
      · rintro d rr L S5 N1 ⟨j, prs, rods, l4, l6, l8, rfl, d7, g2, g3, hx, pl, hr, hu, hrl, hj, er⟩ hN
        have hlt : j < R := by
          rcases Nat.lt_or_ge j R with h | h
          · exact h
          · rw [show R - j = 0 by omega] at er; cases er
        rw [show R - j = (R - (j + 1)) + 1 by omega] at er
        have er : d :: rr = D.int (j : Nat) :: ((List.range' (j + 1) (R - (j + 1))).map fun (i : Nat) => D.int (i : Nat)) := er
        cases er
        refine ⟨few, fun pe hpe => ?_⟩
        have npe : pe ≠ a := d7.1.ne hpe
        have se : S pe = none := d7.none hpe
        have d8 : Dr a S (put S5 pe (.lst [])) := d7.put se npe
        have ne2 : p2 ≠ pe := fun z => by rw [z, hpe] at g2; cases g2
        have ne3 : p3 ≠ pe := fun z => by rw [z, hpe] at g3; cases g3
        have f2 : put S5 pe (.lst []) p2 = some (.lst (prs.map prD)) := by rw [put_ne ne2]; exact g2
        have f3 : put S5 pe (.lst []) p3 = some (.lst (rods.map rodD)) := by rw [put_ne ne3]; exact g3
        have fe : put S5 pe (.lst []) pe = some (.lst []) := put_same
        generalize put S5 pe (.lst []) = T at d8 f2 f3 fe ⊢
        cases prs with
        | nil => exact ⟨_, _, true, f2, fe, .inl ⟨rfl, rfl⟩, hN _ _ ⟨j + 1, [], rods, _, _, _, rfl, d8, f2, f3, hx, pl, hr, hu, by omega, hlt, rfl⟩⟩
        | cons x0 xs =>
          have bl : Bt 200 ((((x0 :: xs).map prD).length : Nat) : Int) := by
            unfold Bt
            rw [Int.natAbs_natCast, List.length_map]
            exact Nat.lt_of_le_of_lt pl (by decide)
          refine ⟨_, _, false, f2, fe, .inr ⟨by simp, rfl⟩, ⟨_, f2⟩, _, f2, a, _, rfl, by rw [List.length_map, List.length_cons]; omega, bl, d8.1, fun r S6 r0 r1 d9 => ?_⟩
          obtain ⟨n, rfl⟩ := Int.eq_ofNat_of_zero_le r0
          have hn : n < ((x0 :: xs).map prD).length := by omega
          have hn2 : n < (x0 :: xs).length := by rw [List.length_map] at hn; exact hn
          have u2 := d9.2 _ _ np2 f2
          have u3 := d9.2 _ _ np3 f3
          have d10 := d8.trans d9
          have hc : ((x0 :: xs).map prD)[n]? = some (prD ((x0 :: xs)[n])) := by rw [List.getElem?_map, List.getElem?_eq_getElem hn2]; rfl
          refine ⟨_, n, _, u2, by omega, by have : ((x0 :: xs).map prD).length ≤ 49 := by { rw [List.length_map]; exact pl }
                                            omega, six_nat hn, hc, ([.int (((x0 :: xs)[n]).1 : Nat), .int (((x0 :: xs)[n]).2 : Nat)], none), rfl, rfl, rfl, ?_⟩
          have ee : ((x0 :: xs).map prD).eraseIdx n = ((x0 :: xs).eraseIdx n).map prD := erase_map _ _
          rw [ee]
          have hmem : (x0 :: xs)[n] ∈ x0 :: xs := List.getElem_mem hn2
          have hxn := hx _ hmem
          have hue := erase_nodup (t := rods.map fun r => (r.1, r.2.1)) hn2 hu
          generalize (x0 :: xs)[n] = y at hxn hue ⊢
          have hsub : ∀ z ∈ (x0 :: xs).eraseIdx n, z ∈ x0 :: xs := fun z hz => List.mem_of_mem_eraseIdx hz
          have hlen : ((x0 :: xs).eraseIdx n).length ≤ 49 := by rw [List.length_eraseIdx]; split <;> omega
          generalize (x0 :: xs).eraseIdx n = ys at hsub hlen hue ⊢
          have d11 : Dr a S (put S6 p2 (.lst (ys.map prD))) := d10.put s2 np2
          have v3 : put S6 p2 (.lst (ys.map prD)) p3 = some (.lst (rods.map rodD)) := by rw [put_ne (Ne.symm n23)]; exact u3
          have v2 : put S6 p2 (.lst (ys.map prD)) p2 = some (.lst (ys.map prD)) := put_same
          generalize put S6 p2 (.lst (ys.map prD)) = T2 at d11 v3 v2 ⊢
          refine ⟨⟨_, v3⟩, a, 9, rfl, by decide, by decide, d11.1, fun c S7 c0 c1 d12 => ⟨few, few, _, d12.2 _ _ np3 v3, by rw [List.length_map]; exact big1 (by omega), ?_⟩⟩
          have ea : rods.map rodD ++ [D.tup [.int (y.1 : Nat), .int (y.2 : Nat), .tup [.int (1 + c), .int 1]]] = (rods ++ [(y.1, y.2, 1 + c)]).map rodD := by rw [List.map_append]; rfl
          rw [ea]
          refine hN _ _ ⟨j + 1, ys, rods ++ [(y.1, y.2, 1 + c)], _, _, _, rfl, (d11.trans d12).put s3 np3, by rw [put_ne n23]; exact d12.2 _ _ np2 v2, put_same, fun z hz => hx z (hsub z hz), hlen, fun r hr' => ?_, by rw [List.map_append]; exact hue, by rw [List.length_append]; show rods.length + 1 ≤ j + 1; omega, hlt, rfl⟩
          rcases List.mem_append.mp hr' with h | h
          · exact hr r h
          · simp only [List.mem_cons, List.not_mem_nil, or_false] at h
            subst h
            refine ⟨hxn.1, hxn.2, ?_⟩
            show 1 ≤ 1 + c; omega
      · rintro L S5 ⟨j, prs, rods, l4, l6, l8, rfl, d7, g2, g3, hx, pl, hr, hu, hrl, hj, er⟩
        have lk : LkOk M fx rods := ⟨hM1, hM7, hfl, hfx, by omega, hr, hnd, (List.nodup_append.mp hu).2.1⟩
        refine ⟨⟨by omega, by omega⟩, fun p4 hp4 => ?_⟩
        have np4 : p4 ≠ a := d7.1.ne hp4
        rw [Int.toNat_natCast]
        refine gen_loop (f := natD) (g := P2) (R := fun _ (_ : Rat × Rat) _ => True) (J := Dr a S5) (Kq := Dr a) (all := List.range M) (fun _ _ => trivial) (fun _ _ o _ e h => e.2 _ _ np4 h) (fun _ _ _ _ _ h => h) (fun _ _ _ _ h => h) (fun _ _ e => e.put hp4 np4) ?bb (List.range M) [] _ none (fun _ h => h) (Dr.new d7.1 hp4) put_same (fun _ h => by cases h) (by rw [List.length_range]; show 0 + M ≤ 100; omega) fun zs S6 d8 h hR hz => ?_
        · intro x S' k' hx' dd ho hk
          exact ⟨a, 4, rfl, by decide, by decide, dd.1, fun v S2 d => hk v S2 (dd.trans d) d trivial⟩
        · have zl : (zs.map Prod.snd).length = M := by
            have := congrArg List.length hz
            rw [List.length_map] at this
            rw [List.length_map, this]
            show (List.range M).length = M
            rw [List.length_range]
          have pk : (zs.map Prod.snd).length = M := zl
          have h : S6 p4 = some (.lst ((zs.map Prod.snd).map P2)) := by rw [h, List.map_map]; rfl
          generalize zs.map Prod.snd = pts at pk h
          have q3 := d8.2 _ _ np3 g3
          have d9 := d7.trans d8
          have s4 : S p4 = none := d7.none hp4
          refine ⟨a, 3, rfl, by decide, by decide, d8.1, fun r S7 _ _ d10 => ⟨_, eq_int, ite_b (fun _ => ?_) (fun _ => ?_)⟩⟩
          · have h7 := d10.2 _ _ np4 h
            have q7 := d10.2 _ _ np3 q3
            have d11 := d9.trans d10
            have lp : 0 < pts.length := by rw [pk]; omega
            refine ⟨(pts.map P2, some p4), by simp only [dItems, h7], fun p5 hp5 => ?_⟩
            refine map_loop (f := P2) (g := fun v => P2 (v.1, (pts.getD 0 (0, 0)).2)) (all := pts) hp5 (fun S' e => e _ _ h7) ?_ pts [] none (fun _ h => h) (by show 0 + pts.length ≤ 100; rw [pk]; omega) fun S8 e8 h8 => ?_
            · intro v S' k' hv e hk
              exact ⟨_, rfl, _, _, e _ _ h7, at_map (c := 0) (getP lp), _, rfl, few, hk⟩
            · have e9 : S8 p5 = some (.lst ((pts.map fun v => (v.1, (pts.getD 0 (0, 0)).2)).map P2)) := by rw [h8, List.map_map]; rfl
              have d12 : Dr a S S8 := ⟨by obtain ⟨n, b, e, w⟩ := d11.1; exact ⟨n, b, e8 _ _ e, w⟩, fun b o n e => e8 _ _ (d11.2 b o n e)⟩
              exact ⟨_, e8 _ _ q7, few, _, e9, few, w M fx rods _ S8 lk d12⟩
          · exact ⟨_, d10.2 _ _ np3 q3, few, _, d10.2 _ _ np4 h, few, w M fx rods pts S7 lk (d9.trans d10)⟩
end My
namespace My
open PySem PySem.Spec PyProof.Rows L2 DL HM
set_option maxHeartbeats 4000000
def F_freedom : DSp := fun ds S k => ∃ (many : Nat) (fx : List Nat) (rods : List Rod), ds = [LK many fx rods] ∧ LkOk many fx rods ∧ k (.int (2 * (many : Nat) - 2 * (fx.length : Nat) - (rods.length : Nat))) S
theorem sc_freedom : FnScope ["linkage"] ["linkage"] (defScope s_freedom) := ⟨rfl, rfl, rfl, by decide +kernel, rfl, by decide +kernel, by decide +kernel⟩
theorem ok_freedom {P : Program} {w : World} {K : Fg} {mg : Str → Option Value} {base : Heap} {f : Addr} {fd : FuncData} (Fn : Fun K "freedom" "freedom" s_freedom f fd) (z_len : mg "len" = none) :
    FnOk P w K mg base CX0 1 f fd ["linkage"] (spU K F_freedom) := by
  refine Fn.okJ sc_freedom (fun ds S k h => ?_) (fun cdv A outer s H E hr => ⟨_, (ds_onej (dst_retj (d_opj o_sub (d_opj o_mul d_intj (d_opj o_sub (d_ixj x_ixE (d_varj 0) d_intj (fun _ _ => rfl)) (d_callBj b_lenE rfl z_len bt_len (da_consj (d_ixj x_ixE (d_varj 0) d_intj (fun _ _ => rfl)) da_nilj)))) (d_callBj b_lenE rfl z_len bt_len (da_consj (d_ixj x_ixE (d_varj 0) d_intj (fun _ _ => rfl)) da_nilj))))), fun ds S k h => ?_⟩)
  · obtain ⟨_, _, _, rfl, _⟩ := h
    rfl
  · obtain ⟨many, fx, rods, rfl, ok, w⟩ := h
    have h1 := ok.m7
    have h2 := ok.fl
    have e1 : (2 * ((many : Nat) - (((fx.map natD).length : Nat) : Int)) - (((rods.map rodD).length : Nat) : Int) : Int) = 2 * (many : Nat) - 2 * (fx.length : Nat) - (rods.length : Nat) := by
      rw [List.length_map, List.length_map]; omega
    rw [← e1] at w
    refine ⟨mok (n := 6) (m := 6) (by decide) (bt_of (by rw [List.length_map]; omega) (by rw [List.length_map]; omega)), w⟩
def F__law_whole : DSp := fun ds S k => ∃ d, ds = [d] ∧ Ask S d ∧ k (.bl (wholeD d)) S
theorem sc__law_whole : FnScope ["thing"] ["thing"] (defScope s__law_whole) := ⟨rfl, rfl, rfl, by decide +kernel, rfl, by decide +kernel, by decide +kernel⟩
theorem ok__law_whole {P : Program} {w : World} {K : Fg} {mg : Str → Option Value} {base : Heap} {f : Addr} {fd : FuncData} (Fn : Fun K "_law_whole" "_law_whole" s__law_whole f fd) (z_isinstance : mg "isinstance" = none) (z_bool : mg "bool" = none) (z_int : mg "int" = none) :
    FnOk P w K mg base CX0 1 f fd ["thing"] (spU K F__law_whole) := by
  refine Fn.okJ sc__law_whole (fun ds S k h => ?_) (fun cdv A outer s H E hr => ⟨_, (ds_onej (dst_retj (d_andj (d_callBj b_isiX rfl z_isinstance bt_isinstance (da_consj (d_varj 0) (da_consj (d_tyj (n := .int) rfl z_int bt_int) da_nilj))) (d_onej (d_notj (d_callBj b_isiX rfl z_isinstance bt_isinstance (da_consj (d_varj 0) (da_consj (d_tyj (n := .bool) rfl z_bool bt_bool) da_nilj)))))))), fun ds S k h => ?_⟩)
  · obtain ⟨_, rfl, _⟩ := h
    rfl
  · obtain ⟨d, rfl, ⟨t, ht⟩, q⟩ := h
    rw [whole_ty ht] at q
    refine ⟨t, ht, ?_⟩
    cases t <;> first | exact q | exact ⟨_, ht, q⟩
def F__law_is_rod : DSp := fun ds S k => ∃ (d : D) (n : Nat), ds = [d, .int (n : Nat)] ∧ Ask3 S d ∧ k (.bl (rdD n d)) S
theorem sc__law_is_rod : FnScope ["thing", "many", "top", "bottom"] ["thing", "many"] (defScope s__law_is_rod) := ⟨rfl, rfl, rfl, by decide +kernel, rfl, by decide +kernel, by decide +kernel⟩
theorem ok__law_is_rod {P : Program} {w : World} {K : Fg} {mg : Str → Option Value} {base : Heap} {f : Addr} {fd : FuncData} (Fn : Fun K "_law_is_rod" "_law_is_rod" s__law_is_rod f fd) (c__law_whole : Own P w K mg base "_law_whole" 1 F__law_whole) (c__law_divisor : Own P w K mg base "_law_divisor" 1 F__law_divisor) (z_len : mg "len" = none) (z_isinstance : mg "isinstance" = none) (z_tuple : mg "tuple" = none) :
    FnOk P w K mg base CX0 2 f fd ["thing", "many"] (spU K F__law_is_rod) := by
  refine Fn.okJ sc__law_is_rod (fun ds S k h => ?_) (fun cdv A outer s H E hr => ⟨_, (ds_consj (dst_ifj (WJ.pt (dw_orj (dt_notj (dt_valj (d_callBj b_isiX rfl z_isinstance bt_isinstance (da_consj (d_varj 0) (da_consj (d_tyj (n := .tup) rfl z_tuple bt_tuple) da_nilj))))) (dw_orj (dt_cmpj (o_neX hr) (d_callBj b_lenE rfl z_len bt_len (da_consj (d_varj 0) da_nilj)) d_intj (nomark _)) (dw_orj (dt_notj (dt_valj (d_callj c__law_whole (hr.mono (by decide)) rfl (da_consj (d_ixj x_ixF (d_varj 0) d_intj (fun _ _ => rfl)) da_nilj)))) (dw_or1j (dt_notj (dt_valj (d_callj c__law_whole (hr.mono (by decide)) rfl (da_consj (d_ixj x_ixF (d_varj 0) d_intj (fun _ _ => rfl)) da_nilj))))))))) (ds_onej (dst_retj d_blj)) ds_nilj) (ds_consj (dst_ifj (WJ.pt (dw_orj (dt_notj (dt_chain3j o_le o_lt o_lt d_intj (d_ixj x_ixF (d_varj 0) d_intj (fun _ _ => rfl)) (d_ixj x_ixF (d_varj 0) d_intj (fun _ _ => rfl)) (d_varj 1))) (dw_orj (dt_notj (dt_valj (d_callBj b_isiX rfl z_isinstance bt_isinstance (da_consj (d_ixj x_ixF (d_varj 0) d_intj (fun _ _ => rfl)) (da_consj (d_tyj (n := .tup) rfl z_tuple bt_tuple) da_nilj))))) (dw_or1j (dt_cmpj (o_neX hr) (d_callBj b_lenE rfl z_len bt_len (da_consj (d_ixj x_ixF (d_varj 0) d_intj (fun _ _ => rfl)) da_nilj)) d_intj (nomark _)))))) (ds_onej (dst_retj d_blj)) ds_nilj) (ds_consj (dst_asgj (d_ixj x_ixF (d_varj 0) d_intj (fun _ _ => rfl)) (dg_seqE (n := 2) rfl (dgs_consj (dg_namej (i := 2) sc__law_is_rod.nd) (dgs_consj (dg_namej (i := 3) sc__law_is_rod.nd) dgs_nilj)))) (ds_consj (dst_ifj (WJ.pt (dw_orj (dt_notj (dt_valj (d_callj c__law_whole (hr.mono (by decide)) rfl (da_consj (d_varj 2) da_nilj)))) (dw_orj (dt_notj (dt_valj (d_callj c__law_whole (hr.mono (by decide)) rfl (da_consj (d_varj 3) da_nilj)))) (dw_orj (dt_cmpj o_lt (d_varj 2) d_intj (nomark _)) (dw_or1j (dt_cmpj o_lt (d_varj 3) d_intj (nomark _))))))) (ds_onej (dst_retj d_blj)) ds_nilj) (ds_onej (dst_retj (d_cmpj (o_eqX hr) (d_callj c__law_divisor (hr.mono (by decide)) rfl (da_consj (d_varj 2) (da_consj (d_varj 3) da_nilj))) d_intj (nomark _)))))))), fun ds S k h => ?_⟩)
  · obtain ⟨_, _, rfl, _⟩ := h
    rfl
  · obtain ⟨d, n, rfl, ⟨⟨t, ht⟩, ha⟩, q⟩ := h
    refine ⟨t, ht, ?_⟩
    rcases tup_or d with ⟨ds, rfl⟩ | nt
    · cases ht
      refine ⟨_, eq_int, ite_nb (fun hl => ?_) (fun hl => ?_)⟩
      · rw [rod_len (by simpa using hl)] at q
        exact q
      · obtain ⟨x, y, z, rfl⟩ := len3r (by simpa using hl)
        have hx := ha _ rfl x (by simp)
        have hy := ha _ rfl y (by simp)
        have hz := ha _ rfl z (by simp)
        have q : k (.bl (jointD n x && (jointD n y && (ltD x y && aboveD z)))) S := q
        refine ⟨x, rfl, x, rfl, hx.1, ite_nb (fun h1 => ?_) (fun h1 => ⟨y, rfl, y, rfl, hy.1, ite_nb (fun h2 => ?_) (fun h2 => ?_)⟩)⟩
        · have e : jointD n x = false := by cases x <;> first | rfl | cases h1
          rw [e, Bool.false_and] at q
          exact q
        · have e : jointD n y = false := by cases y <;> first | rfl | cases h2
          rw [e, Bool.false_and, Bool.and_false] at q
          exact q
        · obtain ⟨i, rfl⟩ := whole_int h1
          obtain ⟨j, rfl⟩ := whole_int h2
          have q : k (.bl ((decide (0 ≤ i) && decide (i < (n : Int))) && ((decide (0 ≤ j) && decide (j < (n : Int))) && (decide (i < j) && aboveD z)))) S := q
          refine ⟨_, rfl, ite_dec (fun c1 => ⟨_, rfl, ite_dec (fun c2 => ite_ndec (fun c3 => ?_) (fun c3 => ?_)) (fun c2 => ?_)⟩) (fun c1 => ?_)⟩
          · rw [decide_eq_false c3, Bool.and_false, Bool.false_and, Bool.and_false] at q
            exact q
          · rw [decide_eq_true c1, decide_eq_true c2, decide_eq_true c3, decide_eq_true (show i < (n : Int) by omega), decide_eq_true (show 0 ≤ j by omega)] at q
            have q : k (.bl (aboveD z)) S := q
            obtain ⟨⟨t2, ht2⟩, hz2⟩ := hz
            refine ⟨z, rfl, t2, ht2, ?_⟩
            rcases tup_or z with ⟨es, rfl⟩ | nt
            · cases ht2
              refine ⟨_, rfl, _, eq_int, ite_nb (fun hl2 => ?_) (fun hl2 => ?_)⟩
              · rw [above_frac (frac_len (by simpa using hl2))] at q
                exact q
              · obtain ⟨u, v, rfl⟩ := len2 (ds := es) (by simpa using hl2)
                refine ⟨_, rfl, ([u, v], none), rfl, rfl, rfl, ?_⟩
                refine ⟨u, rfl, hz2 _ rfl u (by simp), ite_nb (fun h3 => ?_) (fun h3 => ⟨v, rfl, hz2 _ rfl v (by simp), ite_nb (fun h4 => ?_) (fun h4 => ?_)⟩)⟩
                · rw [above_frac (frac_w1 h3)] at q
                  exact q
                · rw [above_frac (frac_w2 h4)] at q
                  exact q
                · obtain ⟨a, rfl⟩ := whole_int h3
                  obtain ⟨b, rfl⟩ := whole_int h4
                  have q : k (.bl ((decide (1 ≤ b) && decide (((Int.gcd a b : Nat) : Int) = 1)) && decide (0 < a))) S := q
                  refine ite_dec (fun c4 => ?_) (fun c4 => ite_dec (fun c5 => ?_) (fun c5 => ?_))
                  · rw [decide_eq_false (show ¬ 0 < a by omega), Bool.and_false] at q
                    exact q
                  · rw [decide_eq_false (show ¬ 1 ≤ b by omega), Bool.false_and, Bool.false_and] at q
                    exact q
                  · rw [decide_eq_true (show 0 < a by omega), decide_eq_true (show 1 ≤ b by omega), Bool.true_and, Bool.and_true] at q
                    refine ⟨a, b, rfl, _, eq_int, ?_⟩
                    exact q
            · rw [not_tup ht2 nt]
              rw [above_frac (frac_not nt)] at q
              exact q
          · rw [decide_eq_false c2, Bool.false_and, Bool.and_false, Bool.and_false] at q
            exact q
          · rw [decide_eq_false c1, Bool.false_and, Bool.false_and] at q
            exact q
    · rw [not_tup ht nt]
      rw [rod_not nt] at q
      exact q
end My
namespace My
open PySem PySem.Spec PyProof.Rows L2 DL HM
set_option maxHeartbeats 4000000
/-! ### the law's own look -/
theorem sfilter_loop {q : D → Bool} {all : List D} {S : DH} {p : Addr} {ok : DH → Prop} {bd : DB} {k : DK} {L1 : Lo} (hp : S p = none) (hok : ∀ S', Ext S S' → ok S')
    (hbd : ∀ (x : D) (S' : DH) (k' : Option D → DH → Prop), x ∈ all → Ext S S' → k' (if q x then some x else none) S' → bd (some x :: L1) S' k') :
    ∀ (r : List D) (acc : List D) (l0 : Option D), (∀ x ∈ r, x ∈ all) → acc.length + r.length ≤ 100 → (∀ S', Ext S S' → S' p = some (.lst (acc ++ r.filter q)) → k (.ref p) S') → dCLoop ok p (dgName 0) bd k r acc (l0 :: L1) (put S p (.lst acc))
  | [], acc, l0, _, _, w => ⟨hok _ (Ext.new hp), w _ (Ext.new hp) (by rw [put_same]; simp)⟩
  | x :: r, acc, l0, hr, hl, w => by
    have hl : acc.length + (r.length + 1) ≤ 100 := hl
    refine ⟨hok _ (Ext.new hp), hbd x _ _ (hr x List.mem_cons_self) (Ext.new hp) ?_⟩
    cases hq : q x with
    | true =>
      refine ⟨put_same, big1 (by omega), ?_⟩
      rw [put_put]
      exact sfilter_loop hp hok hbd r _ _ (fun y hy => hr y (List.mem_cons_of_mem _ hy)) (by rw [List.length_append]; show acc.length + 1 + r.length ≤ 100; omega) fun S' e h => w S' e (by rw [h, List.append_assoc, List.filter_cons_of_pos (by rw [hq])]; rfl)
    | false =>
      exact sfilter_loop hp hok hbd r _ _ (fun y hy => hr y (List.mem_cons_of_mem _ hy)) (by omega) fun S' e h => w S' e (by rw [h, List.filter_cons_of_neg (by rw [hq]; decide)])
theorem ne_nil_go {S : DH} {a c : Addr} {xs : List D} {k : DK} (h1 : S a = some (.lst xs)) (h2 : S c = some (.lst [])) (hk : k (.bl (!xs.isEmpty)) S) : dNeL (.ref a) (.ref c) S k := by
  refine ⟨xs, [], xs.isEmpty, h1, h2, ?_, hk⟩
  cases xs with
  | nil => exact .inl ⟨rfl, rfl⟩
  | cons x r => exact .inr ⟨by simp, rfl⟩
theorem empty_all {q : D → Bool} {l : List D} : (l.filter fun x => !q x).isEmpty = l.all q := by
  rw [Bool.eq_iff_iff, List.isEmpty_iff, List.filter_eq_nil_iff, List.all_eq_true]
  refine ⟨fun h x hx => ?_, fun h x hx => ?_⟩
  · have := h x hx
    simpa using this
  · rw [h x hx]; decide
theorem all_joints {n : Nat} {ys : List D} (h : ys.all (jointD n) = true) : ∃ ns : List Int, ys = ns.map D.int ∧ ∀ v ∈ ns, 0 ≤ v ∧ v < (n : Int) := by
  induction ys with
  | nil => exact ⟨[], rfl, fun _ h => by cases h⟩
  | cons y r ih =>
    rw [List.all_cons, Bool.and_eq_true] at h
    obtain ⟨i, rfl, hi⟩ := joint_int h.1
    obtain ⟨ns, rfl, hn⟩ := ih h.2
    refine ⟨(i : Int) :: ns, rfl, fun v hv => ?_⟩
    rcases List.mem_cons.mp hv with rfl | hv
    · omega
    · exact hn v hv
theorem rise_ints : ∀ ns : List Int, riseD (ns.map D.int) = decide (ns.Pairwise (· < ·))
  | [] => by simp [riseD]
  | [x] => by simp [riseD]
  | x :: y :: r => by
    have ih := rise_ints (y :: r)
    show (decide (x < y) && riseD ((y :: r).map D.int)) = _
    rw [ih, Bool.eq_iff_iff, Bool.and_eq_true, decide_eq_true_iff, decide_eq_true_iff, decide_eq_true_iff]
    constructor
    · rintro ⟨h1, h2⟩
      refine List.pairwise_cons.mpr ⟨fun z hz => ?_, h2⟩
      rcases List.mem_cons.mp hz with rfl | hz
      · exact h1
      · have := (List.pairwise_cons.mp h2).1 z hz; omega
    · intro h
      exact ⟨(List.pairwise_cons.mp h).1 y List.mem_cons_self, (List.pairwise_cons.mp h).2⟩
theorem eqTs_ints {n : Nat} : ∀ {xs ys : List Int}, xs.length = ys.length → eqTs (eqT n) (xs.map D.int) (ys.map D.int) = some (decide (xs = ys))
  | [], [], _ => rfl
  | x :: xs, y :: ys, h => by
    have ih := eqTs_ints (n := n) (xs := xs) (ys := ys) (by simpa using h)
    rw [List.map_cons, List.map_cons]
    simp only [eqTs, eq_int, ih]
    congr 1
    rw [Bool.eq_iff_iff]
    simp
theorem srt_iff {ns : List Int} (hb : ∀ n ∈ ns, 0 ≤ n ∧ n < 7) : srtN ns = ns ↔ ns.Pairwise (· < ·) :=
  ⟨fun h => h ▸ srtN_lt ns, fun h => rise_eq (srtN_lt ns) h fun _ => mem_srtN hb⟩
def F__law_due : DSp := fun ds S k => ∃ (d : D), ds = [d] ∧ AskN 4 S d ∧ (∀ m fs r, d = .tup [.int m, .tup fs, r] → m ≤ 8 → m ≤ 7 ∨ fs = []) ∧ ∀ S', Ext S S' → k (.bl (lnkD d)) S'
theorem sc__law_due : FnScope ["thing", "many", "fixed", "rods"] ["thing"] (defScope s__law_due) := ⟨rfl, rfl, rfl, by decide +kernel, rfl, by decide +kernel, by decide +kernel⟩
theorem ok__law_due {P : Program} {w : World} {K : Fg} {mg : Str → Option Value} {base : Heap} {f : Addr} {fd : FuncData} (Fn : Fun K "_law_due" "_law_due" s__law_due f fd) (c__law_whole : Own P w K mg base "_law_whole" 1 F__law_whole) (c__law_is_rod : Own P w K mg base "_law_is_rod" 2 F__law_is_rod) (z_len : mg "len" = none) (z_isinstance : mg "isinstance" = none) (z_tuple : mg "tuple" = none) (z_sorted : mg "sorted" = none) (z_set : mg "set" = none) (z_list : mg "list" = none) :
    FnOk P w K mg base CX0 3 f fd ["thing"] (spU K F__law_due) := by
  refine Fn.okJ sc__law_due (fun ds S k h => ?_) (fun cdv A outer s H E hr => ⟨_, (ds_consj (dst_ifj (WJ.pt (dw_orj (dt_notj (dt_valj (d_callBj b_isiX rfl z_isinstance bt_isinstance (da_consj (d_varj 0) (da_consj (d_tyj (n := .tup) rfl z_tuple bt_tuple) da_nilj))))) (dw_orj (dt_cmpj (o_neL hr) (d_callBj b_lenE rfl z_len bt_len (da_consj (d_varj 0) da_nilj)) d_intj (nomark _)) (dw_orj (dt_notj (dt_valj (d_callj c__law_whole (hr.mono (by decide)) rfl (da_consj (d_ixj x_ixF (d_varj 0) d_intj (fun _ _ => rfl)) da_nilj)))) (dw_or1j (dt_notj (dt_chainj o_le o_le d_intj (d_ixj x_ixF (d_varj 0) d_intj (fun _ _ => rfl)) d_intj))))))) (ds_onej (dst_retj d_blj)) ds_nilj) (ds_consj (dst_asgj (d_varj 0) (dg_seqE (n := 3) rfl (dgs_consj (dg_namej (i := 1) sc__law_due.nd) (dgs_consj (dg_namej (i := 2) sc__law_due.nd) (dgs_consj (dg_namej (i := 3) sc__law_due.nd) dgs_nilj))))) (ds_consj (dst_ifj (WJ.pt (dw_orj (dt_notj (dt_valj (d_callBj b_isiX rfl z_isinstance bt_isinstance (da_consj (d_varj 2) (da_consj (d_tyj (n := .tup) rfl z_tuple bt_tuple) da_nilj))))) (dw_orj (dt_notj (dt_valj (d_callBj b_isiX rfl z_isinstance bt_isinstance (da_consj (d_varj 3) (da_consj (d_tyj (n := .tup) rfl z_tuple bt_tuple) da_nilj))))) (dw_or1j (dt_cmpj o_gt (d_callBj b_lenE rfl z_len bt_len (da_consj (d_varj 3) da_nilj)) d_intj (nomark _)))))) (ds_onej (dst_retj d_blj)) ds_nilj) (ds_consj (dst_ifj (dt_cmpj (o_neL hr) (d_compEIfj rfl (compSc (N := ["joint", "many"]) (cap := [none, some 1]) rfl rfl rfl rfl ⟨rfl, trivial⟩ rfl rfl ⟨⟨rfl, .inl rfl, .inl rfl⟩, trivial⟩) (d_varj 2) (fun _ _ _ _ => (dg_namej (i := 0) (show List.Nodup (["joint", "many"] : List Str) from by decide +kernel))) (fun _ _ _ _ => (WJ.pt (dw_orj (dt_notj (dt_valj (d_callj c__law_whole (hr.mono (by decide)) rfl (da_consj (d_varj 0) da_nilj)))) (dw_or1j (dt_notj (dt_chainj o_le o_lt d_intj (d_varj 0) (d_varj 1))))))) (fun _ _ _ _ => (d_varj 0))) (d_lstj da_nilj) (nomark _)) (ds_onej (dst_retj d_blj)) ds_nilj) (ds_consj (dst_ifj (WJ.pt (dw_orj (dt_cmpj (o_neL hr) (d_sortSetTj rfl rfl z_sorted bt_sorted rfl z_set bt_set (d_varj 2)) (d_callTj b_list rfl z_list bt_list (da_consj (d_varj 2) da_nilj)) (nomark _)) (dw_or1j (dt_cmpj (o_neL hr) (d_compEIfj rfl (compSc (N := ["rod", "many"]) (cap := [none, some 1]) rfl rfl rfl rfl ⟨rfl, trivial⟩ rfl rfl ⟨⟨rfl, .inl rfl, .inl rfl⟩, trivial⟩) (d_varj 3) (fun _ _ _ _ => (dg_namej (i := 0) (show List.Nodup (["rod", "many"] : List Str) from by decide +kernel))) (fun _ _ _ _ => (dt_notj (dt_valj (d_callj c__law_is_rod (hr.mono (by decide)) rfl (da_consj (d_varj 0) (da_consj (d_varj 1) da_nilj)))))) (fun _ _ _ _ => (d_varj 0))) (d_lstj da_nilj) (nomark _))))) (ds_onej (dst_retj d_blj)) ds_nilj) (ds_onej (dst_retj (d_cmpj (o_eqX hr) (d_lenSetLj hr rfl rfl z_len bt_len rfl z_set bt_set (d_compEj rfl (compSc (N := ["rod"]) (cap := [none]) rfl rfl rfl rfl trivial rfl rfl trivial) (d_varj 3) (fun _ _ _ _ => (dg_namej (i := 0) (show List.Nodup (["rod"] : List Str) from by decide +kernel))) (fun _ _ _ _ => (d_cutEj (d_varj 0) do_nonej (do_somej d_intj))))) (d_callBj b_lenE rfl z_len bt_len (da_consj (d_varj 3) da_nilj)) (nomark _))))))))), fun ds S k h => ?_⟩)
  · obtain ⟨_, rfl, _⟩ := h
    rfl
  · obtain ⟨d, rfl, ha, h7, q⟩ := h
    obtain ⟨t, ht⟩ := ha.1
    refine ⟨t, ht, ?_⟩
    rcases tup_or d with ⟨ds, rfl⟩ | nt
    · cases ht
      obtain ⟨hl0, hx⟩ := ha.2 ds rfl
      refine ⟨_, eq_int, ite_nb (fun hl => ?_) (fun hl => ?_)⟩
      · rw [lnk_len (by simpa using hl)] at q
        exact q S (Ext.refl S)
      · obtain ⟨x, y, z, rfl⟩ := len3r (by simpa using hl)
        have ax := hx x (by simp)
        have ay := hx y (by simp)
        have az := hx z (by simp)
        refine ⟨x, rfl, x, rfl, ax.ask, ite_nb (fun h1 => ?_) (fun h1 => ?_)⟩
        · rw [lnk_w h1] at q
          exact q S (Ext.refl S)
        · obtain ⟨m, rfl⟩ := whole_int h1
          have q : ∀ S', Ext S S' → k (.bl ((decide (1 ≤ m) && decide (m ≤ 8)) && (fxsD m.toNat y && rdsD m.toNat z))) S' := q
          refine ⟨_, rfl, ite_dec (fun c1 => ite_ndec (fun c2 => ?_) (fun c2 => ?_)) (fun c1 => ?_)⟩
          · have := q S (Ext.refl S)
            rw [decide_eq_false c2, Bool.and_false, Bool.false_and] at this
            exact this
          · rw [decide_eq_true c1, decide_eq_true c2, Bool.and_true, Bool.true_and] at q
            have em : D.int m = .int (m.toNat : Nat) := congrArg D.int (by omega)
            have em' : m = (m.toNat : Int) := by omega
            refine ⟨([.int m, y, z], none), rfl, rfl, rfl, ?_⟩
            obtain ⟨t2, ht2⟩ := ay.1
            refine ⟨t2, ht2, ?_⟩
            rcases tup_or y with ⟨ys, rfl⟩ | nt
            · cases ht2
              obtain ⟨ly, hy⟩ := ay.2 ys rfl
              obtain ⟨t3, ht3⟩ := az.1
              refine ⟨t3, ht3, ?_⟩
              rcases tup_or z with ⟨zs, rfl⟩ | nt
              · cases ht3
                obtain ⟨lz, hz⟩ := az.2 zs rfl
                have q : ∀ S', Ext S S' → k (.bl ((ys.all (jointD m.toNat) && riseD ys) && (decide (zs.length ≤ 12) && (zs.all (rdD m.toNat) && decide ((zs.map keyD).Nodup))))) S' := q
                refine ite_dec (fun h12 => ?_) (fun h12 => ?_)
                · have := q S (Ext.refl S)
                  rw [decide_eq_false (by omega), Bool.false_and, Bool.and_false] at this
                  exact this
                · rw [decide_eq_true (by omega), Bool.true_and] at q
                  refine ⟨(ys, none), rfl, fun p hp => ?_⟩
                  refine sfilter_loop (q := fun x => !jointD m.toNat x) (all := ys) hp (fun _ _ => trivial) (fun x S' k' hx' e hk => ?_) ys [] _ (fun _ h => h) (by show 0 + ys.length ≤ 100; omega) fun S1 e1 h1 => ?_
                  · refine ⟨x, rfl, ((hy x hx').ext e).ask, ite_nb (fun h1 => ?_) (fun h1 => ?_)⟩
                    · have e1 : jointD m.toNat x = false := by cases x <;> first | rfl | cases h1
                      rw [e1] at hk
                      exact hk
                    · obtain ⟨i, rfl⟩ := whole_int h1
                      have hk : k' (if (!(decide (0 ≤ i) && decide (i < (m.toNat : Int)))) = true then some (D.int i) else none) S' := hk
                      rw [← em'] at hk
                      refine ite_dec (fun c3 => ite_ndec (fun c4 => ?_) (fun c4 => ?_)) (fun c3 => ?_)
                      · rw [decide_eq_false c4, Bool.and_false] at hk
                        exact hk
                      · rw [decide_eq_true c3, decide_eq_true c4] at hk
                        exact hk
                      · rw [decide_eq_false c3, Bool.false_and] at hk
                        exact hk
                  · have h1 : S1 p = some (.lst (ys.filter fun x => !jointD m.toNat x)) := h1
                    refine ⟨few, fun p2 hp2 => ne_nil_go (Ext.new hp2 _ _ h1) put_same ?_⟩
                    rw [empty_all]
                    generalize hT : put S1 p2 (.lst []) = T
                    have eT : Ext S T := by rw [← hT]; exact e1.trans (Ext.new hp2)
                    clear hT h1 e1 hp hp2
                    refine ite_nb (fun hb => ?_) (fun hb => ?_)
                    · have := q T eT
                      rw [hb, Bool.false_and, Bool.false_and] at this
                      exact this
                    · rw [hb, Bool.true_and] at q
                      obtain ⟨ns, rfl, hn⟩ := all_joints hb
                      have hn7 : ∀ n ∈ ns, 0 ≤ n ∧ n < 7 := fun v hv => by
                        have h1 := hn v hv
                        rcases h7 m _ _ rfl (by omega) with h | h
                        · omega
                        · rw [List.map_eq_nil_iff] at h; subst h; cases hv
                      rw [rise_ints] at q
                      refine ⟨ns, rfl, hn7, fun p3 hp3 p4 hp4 => ?_⟩
                      have f3 : put (put T p3 (.lst ((srtN ns).map D.int))) p4 (.lst (ns.map D.int)) p3 = some (.lst ((srtN ns).map D.int)) := Ext.new hp4 _ _ put_same
                      generalize hU : put (put T p3 (.lst ((srtN ns).map D.int))) p4 (.lst (ns.map D.int)) = U
                      have f4 : U p4 = some (.lst (ns.map D.int)) := by rw [← hU]; exact put_same
                      rw [hU] at f3
                      have eU : Ext S U := by rw [← hU]; exact (eT.trans (Ext.new hp3)).trans (Ext.new hp4)
                      clear hU hp3 hp4
                      refine ⟨_, _, decide (srtN ns = ns), f3, f4, ?_, ?_⟩
                      · by_cases hll : (srtN ns).length = ns.length
                        · exact .inl ⟨by rw [List.length_map, List.length_map]; exact hll, eqTs_ints hll⟩
                        · exact .inr ⟨by rw [List.length_map, List.length_map]; exact hll, decide_eq_false fun e => hll (by rw [e])⟩
                      · refine ite_nb (fun hs => ?_) (fun hs => ?_)
                        · have := q U eU
                          rw [decide_eq_false (fun hp => of_decide_eq_false hs ((srt_iff hn7).mpr hp)), Bool.false_and] at this
                          exact this
                        · rw [decide_eq_true ((srt_iff hn7).mp (of_decide_eq_true hs)), Bool.true_and] at q
                          refine ⟨(zs, none), rfl, fun p5 hp5 => ?_⟩
                          refine sfilter_loop (q := fun x => !rdD m.toNat x) (all := zs) hp5 (fun _ _ => trivial) (fun x S' k' hx' e hk => ⟨x, m.toNat, by rw [← em], ((hz x hx').ext (eU.trans e)).three, ite_nb (fun h => by have hk : k' (if (!rdD m.toNat x) = true then some x else none) S' := hk; rw [h] at hk; exact hk) (fun h => by have hk : k' (if (!rdD m.toNat x) = true then some x else none) S' := hk; rw [h] at hk; exact hk)⟩) zs [] _ (fun _ h => h) (by show 0 + zs.length ≤ 100; omega) fun S2 e2 h2 => ?_
                          have h2 : S2 p5 = some (.lst (zs.filter fun x => !rdD m.toNat x)) := h2
                          refine ⟨few, fun p6 hp6 => ne_nil_go (Ext.new hp6 _ _ h2) put_same ?_⟩
                          rw [empty_all]
                          have e3 : Ext S (put S2 p6 (.lst [])) := (eU.trans e2).trans (Ext.new hp6)
                          generalize put S2 p6 (.lst []) = S3 at e3 ⊢
                          refine ite_nb (fun hb2 => ?_) (fun hb2 => ?_)
                          · have := q S3 e3
                            rw [hb2, Bool.false_and] at this
                            exact this
                          · rw [hb2, Bool.true_and] at q
                            have hb' := List.all_eq_true.mp hb2
                            refine ⟨(zs, none), rfl, fun p7 hp7 => ?_⟩
                            refine self_loop (g := fun x => .tup ((keyD x).map D.int)) hp7 (fun _ _ => trivial) (fun x S' k' hx' e hk => ?_) _ (show zs.length ≤ 100 by omega) fun S4 e4 h4 => ?_
                            · obtain ⟨_, i, j, c, rfl, rfl, _, e3⟩ := rd_key (hb' x hx')
                              exact ⟨fun h => absurd h.2 (by show ¬ (2 : Nat) = 3; decide), hk⟩
                            · refine ⟨zs.map keyD, by rw [h4, List.map_map]; rfl, by rw [List.length_map]; omega, _, eq_int, ?_⟩
                              have := q S4 (e3.trans e4)
                              have eb : ((((ST.dd (zs.map keyD)).length : Nat) : Int) == ((zs.length : Nat) : Int)) = decide ((zs.map keyD).Nodup) := by
                                rw [Bool.eq_iff_iff, decide_eq_true_iff, ← dd_nodup, List.length_map, beq_iff_eq]
                                omega
                              rw [eb]
                              exact this
              · rw [not_tup ht3 nt]
                have : rdsD m.toNat z = false := by
                  cases z with
                  | tup ds => exact absurd rfl (nt ds)
                  | _ => rfl
                rw [this, Bool.and_false] at q
                exact q S (Ext.refl S)
            · rw [not_tup ht2 nt]
              have : fxsD m.toNat y = false := by
                cases y with
                | tup ds => exact absurd rfl (nt ds)
                | _ => rfl
              rw [this, Bool.false_and] at q
              exact q S (Ext.refl S)
          · have := q S (Ext.refl S)
            rw [decide_eq_false c1, Bool.false_and, Bool.false_and] at this
            exact this
    · rw [not_tup ht nt]
      rw [lnk_not nt] at q
      exact q S (Ext.refl S)
end My
namespace My
open PySem PySem.Spec PyProof.Rows L2 DL HM
set_option maxHeartbeats 4000000
/-! ### changed linkages -/
def leafD : D → Prop
  | .non => True
  | .bl _ => True
  | .int _ => True
  | .str _ => True
  | _ => False
theorem leaf_not {d : D} (h : leafD d) : ∀ ds, d ≠ .tup ds := fun ds e => by subst e; exact h
theorem leaf_ask {S : DH} {d : D} (h : leafD d) : Ask S d := by
  cases d with
  | non => exact ⟨_, rfl⟩
  | bl => exact ⟨_, rfl⟩
  | int => exact ⟨_, rfl⟩
  | str => exact ⟨_, rfl⟩
  | _ => exact h.elim
theorem AskN.leaf {S : DH} {d : D} (h : leafD d) : ∀ {n : Nat}, AskN n S d
  | 0 => leaf_ask h
  | _ + 1 => ⟨leaf_ask h, fun ds e => absurd e (leaf_not h ds)⟩
theorem AskN.tup {S : DH} {n : Nat} {ds : List D} (hl : ds.length ≤ 40) (h : ∀ x ∈ ds, AskN n S x) : AskN (n + 1) S (.tup ds) := ⟨⟨_, rfl⟩, fun es e => by cases e; exact ⟨hl, h⟩⟩
theorem AskN.ref {S : DH} {a : Addr} {ds : List D} (h : S a = some (.lst ds)) : ∀ {n : Nat}, AskN n S (.ref a)
  | 0 => ⟨.lst, by show tyR (S a) = _; rw [h]; rfl⟩
  | _ + 1 => ⟨⟨.lst, by show tyR (S a) = _; rw [h]; rfl⟩, fun ds e => by cases e⟩
theorem AskN.l2 {S : DH} {x y : D} (hx : leafD x) (hy : leafD y) : ∀ {n : Nat}, AskN n S (.tup [x, y])
  | 0 => ⟨_, rfl⟩
  | _ + 1 => AskN.tup (by simp) (by simp only [List.forall_mem_cons]; exact ⟨AskN.leaf hx, AskN.leaf hy, fun _ h => by cases h⟩)
theorem AskN.t3 {S : DH} {n : Nat} {x y z : D} (hx : AskN n S x) (hy : AskN n S y) (hz : AskN n S z) : AskN (n + 1) S (.tup [x, y, z]) :=
  AskN.tup (by simp) (by simp only [List.forall_mem_cons]; exact ⟨hx, hy, hz, fun _ h => by cases h⟩)
theorem AskN.nil {S : DH} : ∀ {n : Nat}, AskN n S (.tup [])
  | 0 => ⟨_, rfl⟩
  | _ + 1 => AskN.tup (by simp) fun _ h => by cases h
theorem AskN.i {S : DH} {n : Nat} {i : Int} : AskN n S (.int i) := AskN.leaf (d := .int i) trivial
theorem AskN.l2i {S : DH} {n : Nat} {i j : Int} : AskN n S (.tup [.int i, .int j]) := AskN.l2 (x := .int i) (y := .int j) trivial trivial
theorem rod_ask {S : DH} (r : Rod) : AskN 2 S (rodD r) := AskN.t3 AskN.i AskN.i AskN.l2i
def Good (S : DH) (d : D) : Prop := AskN 4 S d ∧ ∀ m fs r, d = .tup [.int m, .tup fs, r] → m ≤ 8 → m ≤ 7 ∨ fs = []
theorem Good.ext {S S' : DH} {d : D} (e : Ext S S') (h : Good S d) : Good S' d := ⟨h.1.ext e, h.2⟩
theorem Good.of {S : DH} {m : Nat} {f r : D} (hm : m ≤ 7) (hf : AskN 3 S f) (hr : AskN 3 S r) : Good S (.tup [.int (m : Nat), f, r]) :=
  ⟨AskN.t3 AskN.i hf hr, fun m' fs r e _ => by cases e; exact .inl (by omega)⟩
theorem Ask.dr {a : Addr} {S S' : DH} (e : Dr a S S') {d : D} (h : Ask S d) : Ask S' d := by
  cases d with
  | ref b =>
    by_cases hb : b = a
    · subst hb
      obtain ⟨n, c, e1, _⟩ := e.1
      exact ⟨.lst, by show tyR (S' b) = _; rw [e1]; rfl⟩
    · obtain ⟨t, h⟩ := h
      have h : tyR (S b) = some t := h
      refine ⟨t, ?_⟩
      show tyR (S' b) = some t
      cases z : S b with
      | none => rw [z] at h; cases h
      | some o => rw [e.2 _ _ hb z, ← z]; exact h
  | _ => exact h
theorem AskN.dr {a : Addr} {S S' : DH} (e : Dr a S S') : ∀ {n : Nat} {d : D}, AskN n S d → AskN n S' d
  | 0, _, h => Ask.dr e h
  | _ + 1, _, h => ⟨h.1.dr e, fun ds z => ⟨(h.2 ds z).1, fun x hx => ((h.2 ds z).2 x hx).dr e⟩⟩
theorem Good.dr {a : Addr} {S S' : DH} {d : D} (e : Dr a S S') (h : Good S d) : Good S' d := ⟨h.1.dr e, h.2⟩
theorem Dr.ofExt {a : Addr} {S S' : DH} (h : SOK S a) (e : Ext S S') : Dr a S S' := by
  obtain ⟨n, b, e1, e2⟩ := h
  exact ⟨⟨n, b, e _ _ e1, e2⟩, fun c o _ z => e c o z⟩
theorem good_app {P : D → Prop} {xs ys : List D} (h1 : ∀ x ∈ xs, P x) (h2 : ∀ x ∈ ys, P x) : ∀ x ∈ xs ++ ys, P x := fun x hx => (List.mem_append.mp hx).elim (h1 x) (h2 x)
theorem bstr_ok {i : Nat} (h : i ≤ 7) : ((i : Nat) : Int).natAbs.log2 < 1920 := by
  rw [Int.natAbs_natCast]
  exact Nat.lt_of_le_of_lt (Nat.log2_le_self i) (by omega)
theorem Ask.put {S : DH} {p : Addr} {xs ys : List D} {d : D} (hp : S p = some (.lst xs)) (h : Ask S d) : Ask (put S p (.lst ys)) d := by
  cases d with
  | ref b =>
    by_cases hb : b = p
    · subst hb
      exact ⟨.lst, by show tyR (DL.put S b _ b) = _; rw [put_same]; rfl⟩
    · obtain ⟨t, h⟩ := h
      exact ⟨t, by show tyR (DL.put S p _ b) = _; rw [put_ne hb]; exact h⟩
  | _ => exact h
theorem AskN.put {S : DH} {p : Addr} {xs ys : List D} (hp : S p = some (.lst xs)) : ∀ {n : Nat} {d : D}, AskN n S d → AskN n (put S p (.lst ys)) d
  | 0, _, h => Ask.put hp h
  | _ + 1, _, h => ⟨Ask.put hp h.1, fun ds z => ⟨(h.2 ds z).1, fun x hx => ((h.2 ds z).2 x hx).put hp⟩⟩
theorem Good.put {S : DH} {p : Addr} {xs ys : List D} {d : D} (hp : S p = some (.lst xs)) (h : Good S d) : Good (put S p (.lst ys)) d := ⟨h.1.put hp, h.2⟩
theorem nats_ask {S : DH} {n : Nat} {l : List D} (hl : l.length ≤ 40) (h : ∀ x ∈ l, ∃ i, x = .int i) : AskN (n + 1) S (.tup l) := AskN.tup hl fun x hx => by
  obtain ⟨i, rfl⟩ := h x hx
  exact AskN.i
theorem cut_le {ds : List D} {lo hi : Option Int} : (DL.cutD ds lo hi).length ≤ ds.length := by
  unfold DL.cutD
  rw [List.length_take, List.length_drop]
  omega
theorem cut13 {ds : List D} : (DL.cutD ds none (some 13)).length ≤ 13 := by
  have h : HT.sIx ds.length ds.length (some 13) ≤ 13 := by
    unfold HT.sIx
    simp
    omega
  unfold DL.cutD
  rw [List.length_take]
  omega
theorem atI_in {ds : List D} {i : Int} (h0 : 0 ≤ i) (h1 : i < (ds.length : Int)) : ∃ d, L2.atI ds i = some d ∧ d ∈ ds := atI_mem h0 h1
theorem bm100 {z : Int} (h0 : 0 ≤ z) (h1 : z ≤ 100) : Bt 200 z := Bt.mono (m := 7) (by unfold Bt; omega) (by decide)
def F__law_bent : DSp := fun ds S k => ∃ (a : Addr) (many : Nat) (fx : List Nat) (rods : List Rod), ds = [.ref a, LK many fx rods] ∧ SOK S a ∧ LkOk many fx rods ∧ ∀ d S', Dr a S S' → AskN 4 S' d → (∀ m fs r, d = .tup [.int m, .tup fs, r] → m ≤ 8 → m ≤ 7 ∨ fs = []) → k d S'
theorem sc__law_bent : FnScope ["state", "linkage", "some", "many", "fixed", "rods", "k", "odd", "more", "one", "other", "square"] ["state", "linkage"] (defScope s__law_bent) := ⟨rfl, rfl, rfl, by decide +kernel, rfl, by decide +kernel, by decide +kernel⟩
theorem ok__law_bent {P : Program} {w : World} {K : Fg} {mg : Str → Option Value} {base : Heap} {f : Addr} {fd : FuncData} (Fn : Fun K "_law_bent" "_law_bent" s__law_bent f fd) (c__law_take : Own P w K mg base "_law_take" 1 F__law_take) (z_list : mg "list" = none) (z_str : mg "str" = none) (z_len : mg "len" = none) :
    FnOk P w K mg base CX0 2 f fd ["state", "linkage"] (spU K F__law_bent) := by
  refine Fn.okJ sc__law_bent (fun ds S k h => ?_) (fun cdv A outer s H E hr => ⟨_, (ds_consj (dst_asgj (d_varj 1) (dg_seqE (n := 3) rfl (dgs_consj (dg_namej (i := 3) sc__law_bent.nd) (dgs_consj (dg_namej (i := 4) sc__law_bent.nd) (dgs_consj (dg_namej (i := 5) sc__law_bent.nd) dgs_nilj))))) (ds_consj (dst_setj (i := 2) sc__law_bent.nd (d_lstj (da_consj (d_varj 1) (da_consj (d_tupj (da_consj d_intj (da_consj (d_tupj da_nilj) (da_consj (d_tupj da_nilj) da_nilj)))) (da_consj (d_tupj (da_consj d_intj (da_consj (d_varj 4) (da_consj (d_varj 5) da_nilj)))) (da_consj (d_tupj (da_consj d_blj (da_consj (d_tupj da_nilj) (da_consj (d_tupj da_nilj) da_nilj)))) (da_consj (d_tupj (da_consj (d_varj 3) (da_consj (d_opj o_addT (d_varj 4) (d_varj 4)) (da_consj (d_varj 5) da_nilj)))) da_nilj))))))) (ds_consj (dst_setj (i := 2) sc__law_bent.nd (d_opj o_addT (d_varj 2) (d_lstj (da_consj (d_tupj (da_consj (d_varj 3) (da_consj (d_revTj (d_varj 4) (d_unj o_neg d_intj)) (da_consj (d_varj 5) da_nilj)))) (da_consj (d_tupj (da_consj (d_varj 3) (da_consj (d_opj o_addT (d_varj 4) (d_tupj (da_consj (d_varj 3) da_nilj))) (da_consj (d_varj 5) da_nilj)))) (da_consj (d_tupj (da_consj (d_varj 3) (da_consj (d_callTj b_list rfl z_list bt_list (da_consj (d_varj 4) da_nilj)) (da_consj (d_varj 5) da_nilj)))) da_nilj)))))) (ds_consj (dst_setj (i := 2) sc__law_bent.nd (d_opj o_addT (d_varj 2) (d_lstj (da_consj (d_tupj (da_consj (d_varj 3) (da_consj (d_varj 4) (da_consj (d_callTj b_list rfl z_list bt_list (da_consj (d_varj 5) da_nilj)) da_nilj)))) (da_consj (d_opj o_addT (d_varj 1) (d_tupj (da_consj (d_tupj da_nilj) da_nilj))) da_nilj))))) (ds_consj (dst_setj (i := 2) sc__law_bent.nd (d_opj o_addT (d_varj 2) (d_lstj (da_consj (d_tupj (da_consj (d_varj 3) (da_consj (d_opj o_addT (d_tupj (da_consj (d_unj o_neg d_intj) da_nilj)) (d_varj 4)) (da_consj (d_varj 5) da_nilj)))) (da_consj (d_cutXj (d_varj 1) do_nonej (do_somej d_intj)) (da_consj (d_callTj b_list rfl z_list bt_list (da_consj (d_varj 1) da_nilj)) (da_consj d_nonj (da_consj (d_tupj (da_consj (d_callTj b_str rfl z_str bt_str (da_consj (d_varj 3) da_nilj)) (da_consj (d_varj 4) (da_consj (d_varj 5) da_nilj)))) da_nilj)))))))) (ds_consj (dst_exprj (d_appj (d_varj 2) (d_tupj (da_consj d_intj (da_consj (d_tupj da_nilj) (da_consj (d_varj 5) da_nilj)))))) (ds_consj (dst_ifj (dt_cmpj (o_neX hr) (d_varj 5) (d_tupj da_nilj) (nomark _)) (ds_consj (dst_setj (i := 6) sc__law_bent.nd (d_callj c__law_take (hr.mono (by decide)) rfl (da_consj (d_varj 0) (da_consj (d_callBj b_lenE rfl z_len bt_len (da_consj (d_varj 5) da_nilj)) da_nilj)))) (ds_consj (dst_asgj (d_ixj x_ixF (d_varj 5) (d_varj 6) (fun _ _ => rfl)) (dg_seqE (n := 3) rfl (dgs_consj (dg_namej (i := 9) sc__law_bent.nd) (dgs_consj (dg_namej (i := 10) sc__law_bent.nd) (dgs_consj (dg_namej (i := 11) sc__law_bent.nd) dgs_nilj))))) (ds_consj (dst_setj (i := 7) sc__law_bent.nd (d_lstj (da_consj (d_tupj (da_consj (d_varj 9) (da_consj (d_varj 9) (da_consj (d_varj 11) da_nilj)))) (da_consj (d_tupj (da_consj (d_varj 10) (da_consj (d_varj 9) (da_consj (d_varj 11) da_nilj)))) (da_consj (d_tupj (da_consj (d_varj 9) (da_consj (d_varj 3) (da_consj (d_varj 11) da_nilj)))) (da_consj (d_tupj (da_consj (d_varj 9) (da_consj (d_varj 10) (da_consj (d_tupj (da_consj d_intj (da_consj d_intj da_nilj))) da_nilj)))) da_nilj)))))) (ds_consj (dst_setj (i := 7) sc__law_bent.nd (d_opj o_addT (d_varj 7) (d_lstj (da_consj (d_tupj (da_consj (d_varj 9) (da_consj (d_varj 10) (da_consj (d_tupj (da_consj (d_unj o_neg d_intj) (da_consj d_intj da_nilj))) da_nilj)))) (da_consj (d_tupj (da_consj (d_varj 9) (da_consj (d_varj 10) (da_consj (d_tupj (da_consj d_intj (da_consj d_intj da_nilj))) da_nilj)))) (da_consj (d_tupj (da_consj (d_varj 9) (da_consj (d_varj 10) (da_consj (d_tupj (da_consj d_intj (da_consj d_intj da_nilj))) da_nilj)))) (da_consj (d_tupj (da_consj (d_varj 9) (da_consj (d_varj 10) da_nilj))) da_nilj))))))) (ds_consj (dst_setj (i := 7) sc__law_bent.nd (d_opj o_addT (d_varj 7) (d_lstj (da_consj (d_tupj (da_consj (d_varj 9) (da_consj (d_varj 10) (da_consj d_intj da_nilj)))) (da_consj (d_lstj (da_consj (d_varj 9) (da_consj (d_varj 10) (da_consj (d_varj 11) da_nilj)))) da_nilj))))) (ds_consj (dst_setj (i := 7) sc__law_bent.nd (d_opj o_addT (d_varj 7) (d_lstj (da_consj (d_tupj (da_consj (d_varj 9) (da_consj (d_varj 10) (da_consj (d_tupj (da_consj d_blj (da_consj d_intj da_nilj))) da_nilj)))) (da_consj (d_tupj (da_consj (d_unj o_neg d_intj) (da_consj (d_varj 10) (da_consj (d_varj 11) da_nilj)))) (da_consj (d_tupj (da_consj (d_varj 9) (da_consj (d_varj 10) (da_consj (d_varj 11) (da_consj d_intj da_nilj))))) (da_consj d_nonj (da_consj (d_tupj (da_consj (d_varj 9) (da_consj (d_varj 10) (da_consj (d_tupj (da_consj d_intj (da_consj d_intj da_nilj))) da_nilj)))) da_nilj)))))))) (ds_consj (dst_setj (i := 7) sc__law_bent.nd (d_ixj x_ixF (d_varj 7) (d_callj c__law_take (hr.mono (by decide)) rfl (da_consj (d_varj 0) (da_consj (d_callBj b_lenE rfl z_len bt_len (da_consj (d_varj 7) da_nilj)) da_nilj))) (fun _ _ => rfl))) (ds_consj (dst_setj (i := 8) sc__law_bent.nd (d_tupj (da_consj (d_varj 3) (da_consj (d_varj 4) (da_consj (d_opj o_addT (d_varj 5) (d_tupj (da_consj (d_tupj (da_consj (d_varj 9) (da_consj (d_varj 10) (da_consj (d_tupj (da_consj d_intj (da_consj d_intj da_nilj))) da_nilj)))) da_nilj))) da_nilj))))) (ds_consj (dst_setj (i := 2) sc__law_bent.nd (d_opj o_addT (d_varj 2) (d_opj o_mulU (d_lstj (da_consj (d_tupj (da_consj (d_varj 3) (da_consj (d_varj 4) (da_consj (d_opj o_addT (d_opj o_addT (d_cutXj (d_varj 5) do_nonej (do_somej (d_varj 6))) (d_tupj (da_consj (d_varj 7) da_nilj))) (d_cutXj (d_varj 5) (do_somej (d_opj o_addT (d_varj 6) d_intj)) do_nonej)) da_nilj)))) (da_consj (d_varj 8) da_nilj))) d_intj))) (ds_onej (dst_exprj (d_appj (d_varj 2) (d_tupj (da_consj (d_varj 3) (da_consj (d_varj 4) (da_consj (d_cutXj (d_opj o_mulU (d_varj 5) d_intj) do_nonej (do_somej d_intj)) da_nilj)))))))))))))))) ds_nilj) (ds_onej (dst_retj (d_ixj x_ixF (d_varj 2) (d_callj c__law_take (hr.mono (by decide)) rfl (da_consj (d_varj 0) (da_consj (d_callBj b_lenE rfl z_len bt_len (da_consj (d_varj 2) da_nilj)) da_nilj))) (fun _ _ => rfl))))))))))), fun ds S k h => ?_⟩)
  · obtain ⟨_, _, _, _, rfl, _⟩ := h
    rfl
  · obtain ⟨a, many, fx, rods, rfl, hS, ok, w⟩ := h
    have ls : ∀ n : Nat, n ≤ 300 → n ≤ sizeLine := fun n h => Nat.le_trans h (Nat.le_of_ble_eq_true (rfl : Nat.ble 300 sizeLine = true))
    have lf : (fx.map natD).length ≤ 7 := by rw [List.length_map]; exact ok.fl
    have lr : (rods.map rodD).length ≤ 12 := by rw [List.length_map]; exact ok.rl
    generalize hL : (List.map some _ ++ List.replicate _ none : List (Option D)) = L0
    have eL : L0 = [some (.ref a), some (LK many fx rods), none, none, none, none, none, none, none, none, none, none] := by rw [← hL]; rfl
    subst eL
    clear hL
    refine ⟨([.int (many : Nat), .tup (fx.map natD), .tup (rods.map rodD)], none), rfl, rfl, rfl, ?_⟩
    have m7 := ok.m7
    try dsimp only [List.set_cons_zero, List.set_cons_succ]
    have fin : ∀ (T : DH) (p : Addr) (xs : List D) (l6 l7 l8 l9 l10 l11 : Option D), Dr a S T → p ≠ a → T p = some (.lst xs) → xs ≠ [] → xs.length ≤ 60 → (∀ x ∈ xs, Good T x) → dRet (dOp dIxF (dVar 2) (dCall F__law_take (dCons (dVar 0) (dCons (dCall bLenE (dCons (dVar 2) dNil)) dNil)))) { nx := fun _ S' => k D.non S', rt := k } [some (.ref a), some (LK many fx rods), some (.ref p), some (.int (many : Nat)), some (.tup (fx.map natD)), some (.tup (rods.map rodD)), l6, l7, l8, l9, l10, l11] T := by
      intro T p xs l6 l7 l8 l9 l10 l11 dT np hp hne hl hg
      have l1 : 0 < xs.length := List.length_pos_iff.mpr hne
      refine ⟨_, hp, a, _, rfl, by omega, bm100 (by omega) (by omega), dT.1, fun r T1 r0 r1 d1 => ?_⟩
      obtain ⟨c, hc, hm⟩ := atI_in r0 r1
      have hg1 := hg c hm
      exact ⟨_, c, d1.2 _ _ np hp, hc, w c T1 (dT.trans d1) (hg1.1.dr d1) hg1.2⟩
    have af : ∀ {T : DH} {n : Nat}, AskN (n + 1) T (.tup (fx.map natD)) := fun {T n} => nats_ask (by omega) fun x hx => by
      obtain ⟨i, _, rfl⟩ := List.mem_map.mp hx
      exact ⟨_, rfl⟩
    have ar : ∀ {T : DH}, AskN 3 T (.tup (rods.map rodD)) := fun {T} => AskN.tup (by omega) fun x hx => by
      obtain ⟨r, _, rfl⟩ := List.mem_map.mp hx
      exact rod_ask r
    have nat_in : ∀ {x : D}, x ∈ fx.map natD → ∃ i, x = .int i := fun hx => by
      obtain ⟨i, _, rfl⟩ := List.mem_map.mp hx
      exact ⟨_, rfl⟩
    refine ⟨few, few, few, few, few, few, few, ls _ (by omega), few, few, fun p1 hp1 => ?_⟩
    generalize hT : put S p1 _ = T1
    have f1 : T1 p1 = some (.lst [LK many fx rods, .tup [.int 0, .tup [], .tup []], .tup [.int 9, .tup (fx.map natD), .tup (rods.map rodD)], .tup [.bl true, .tup [], .tup []], .tup [.int (many : Nat), .tup (fx.map natD ++ fx.map natD), .tup (rods.map rodD)]]) := by rw [← hT]; exact put_same
    have e1 : Ext S T1 := by rw [← hT]; exact Ext.new hp1
    have g1 : ∀ x ∈ [LK many fx rods, .tup [.int 0, .tup [], .tup []], .tup [.int 9, .tup (fx.map natD), .tup (rods.map rodD)], .tup [.bl true, .tup [], .tup []], .tup [.int (many : Nat), .tup (fx.map natD ++ fx.map natD), .tup (rods.map rodD)]], Good T1 x := by
      simp only [List.forall_mem_cons]
      refine ⟨Good.of m7 af ar, Good.of (m := 0) (by omega) AskN.nil AskN.nil, ⟨AskN.t3 AskN.i af ar, fun m' fs r e hm => by cases e; omega⟩, ⟨AskN.t3 (AskN.leaf (d := .bl true) trivial) AskN.nil AskN.nil, fun m' fs r e hm => by cases e⟩, Good.of m7 (nats_ask (by rw [List.length_append]; omega) fun x hx => ?_) ar, fun _ h => by cases h⟩
      rcases List.mem_append.mp hx with h | h <;> exact nat_in h
    clear hT
    generalize hx1 : ([LK many fx rods, .tup [.int 0, .tup [], .tup []], .tup [.int 9, .tup (fx.map natD), .tup (rods.map rodD)], .tup [.bl true, .tup [], .tup []], .tup [.int (many : Nat), .tup (fx.map natD ++ fx.map natD), .tup (rods.map rodD)]] : List D) = xs1 at f1 g1
    have n1 : xs1.length = 5 := by rw [← hx1]; rfl
    clear hx1
    refine ⟨rfl, few, few, ls _ (by show _ + 1 ≤ 300; omega), few, fun p2 hp2 => ⟨few, few, fun p3 hp3 => ⟨_, _, Ext.new hp3 _ _ (Ext.new hp2 _ _ f1), put_same, ls _ (by rw [n1]; show 5 + 3 ≤ 300; omega), fun p4 hp4 => ?_⟩⟩⟩
    try dsimp only [List.set_cons_zero, List.set_cons_succ]
    generalize hx2 : xs1 ++ _ = xs2
    generalize hT : put _ p4 _ = T2
    have f2 : T2 p4 = some (.lst xs2) := by rw [← hT]; exact put_same
    have e2 : Ext T1 T2 := by rw [← hT]; exact ((Ext.new hp2).trans (Ext.new hp3)).trans (Ext.new hp4)
    have k2 : T2 p2 = some (.lst (fx.map natD)) := by rw [← hT]; exact Ext.new hp4 _ _ (Ext.new hp3 _ _ put_same)
    have n2 : xs2.length = 8 := by rw [← hx2, List.length_append, n1]; rfl
    have g2 : ∀ x ∈ xs2, Good T2 x := by
      rw [← hx2]
      refine good_app (fun x h => (g1 x h).ext e2) ?_
      simp only [List.forall_mem_cons]
      refine ⟨Good.of m7 (nats_ask (by rw [List.length_reverse]; omega) fun x hx => nat_in (List.mem_reverse.mp hx)) ar, Good.of m7 (nats_ask (by rw [List.length_append]; show _ + 1 ≤ 40; omega) fun x hx => ?_) ar, Good.of m7 (AskN.ref k2) ar, fun _ h => by cases h⟩
      rcases List.mem_append.mp hx with h | h
      · exact nat_in h
      · simp only [List.mem_cons, List.not_mem_nil, or_false] at h
        exact ⟨_, h⟩
    clear hT hx2 k2
    refine fun p5 hp5 => ⟨few, few, few, ls _ (by show 3 + 1 ≤ 300; decide), few, fun p6 hp6 => ⟨_, _, Ext.new hp6 _ _ (Ext.new hp5 _ _ f2), put_same, ls _ (by rw [n2]; show 8 + 2 ≤ 300; omega), fun p7 hp7 => ?_⟩⟩
    try dsimp only [List.set_cons_zero, List.set_cons_succ]
    generalize hx3 : xs2 ++ _ = xs3
    generalize hT : put _ p7 _ = T3
    have f3 : T3 p7 = some (.lst xs3) := by rw [← hT]; exact put_same
    have e3 : Ext T2 T3 := by rw [← hT]; exact ((Ext.new hp5).trans (Ext.new hp6)).trans (Ext.new hp7)
    have k3 : T3 p5 = some (.lst (rods.map rodD)) := by rw [← hT]; exact Ext.new hp7 _ _ (Ext.new hp6 _ _ put_same)
    have n3 : xs3.length = 10 := by rw [← hx3, List.length_append, n2]; rfl
    have g3 : ∀ x ∈ xs3, Good T3 x := by
      rw [← hx3]
      refine good_app (fun x h => (g2 x h).ext e3) ?_
      simp only [List.forall_mem_cons]
      refine ⟨Good.of m7 af (AskN.ref k3), ⟨AskN.tup (by simp) ?_, fun m fs r e => by cases e⟩, fun _ h => by cases h⟩
      show ∀ x ∈ [.int (many : Nat), .tup (fx.map natD), .tup (rods.map rodD), .tup []], AskN 3 T3 x
      simp only [List.forall_mem_cons]
      exact ⟨AskN.i, af, ar, AskN.nil, fun _ h => by cases h⟩
    clear hT hx3 k3
    refine ⟨few, ls _ (by show 1 + _ ≤ 300; omega), few, fun p8 hp8 => ⟨bstr_ok (by omega), few, few, fun p9 hp9 => ⟨_, _, Ext.new hp9 _ _ (Ext.new hp8 _ _ f3), put_same, ls _ (by rw [n3]; show 10 + 5 ≤ 300; omega), fun p10 hp10 => ?_⟩⟩⟩
    try dsimp only [List.set_cons_zero, List.set_cons_succ]
    generalize hx4 : xs3 ++ _ = xs4
    generalize hT : put _ p10 _ = T4
    have f4 : T4 p10 = some (.lst xs4) := by rw [← hT]; exact put_same
    have e4 : Ext T3 T4 := by rw [← hT]; exact ((Ext.new hp8).trans (Ext.new hp9)).trans (Ext.new hp10)
    have k4 : T4 p8 = some (.lst [.int (many : Nat), .tup (fx.map natD), .tup (rods.map rodD)]) := by rw [← hT]; exact Ext.new hp10 _ _ (Ext.new hp9 _ _ put_same)
    have n4 : xs4.length = 15 := by rw [← hx4, List.length_append, n3]; rfl
    have s10 : S p10 = none := ((e1.trans (e2.trans e3)).trans ((Ext.new hp8).trans (Ext.new hp9))).none hp10
    have np : p10 ≠ a := hS.ne s10
    have g4 : ∀ x ∈ xs4, Good T4 x := by
      rw [← hx4]
      refine good_app (fun x h => (g3 x h).ext e4) ?_
      simp only [List.forall_mem_cons]
      refine ⟨Good.of m7 (nats_ask (by rw [List.length_append]; show 1 + _ ≤ 40; omega) fun x hx => ?_) ar, ⟨AskN.tup (Nat.le_trans cut_le (by show (3 : Nat) ≤ 40; decide)) fun x hx => ?_, fun m fs r e => by cases e⟩, ⟨AskN.ref k4, fun m fs r e => by cases e⟩, ⟨AskN.leaf (d := .non) trivial, fun m fs r e => by cases e⟩, ⟨AskN.t3 (AskN.leaf (d := .str _) trivial) af ar, fun m fs r e => by cases e⟩, fun _ h => by cases h⟩
      · rcases List.mem_append.mp hx with h | h
        · simp only [List.mem_cons, List.not_mem_nil, or_false] at h
          exact ⟨_, h⟩
        · exact nat_in h
      · have := DL.mem_cutD hx
        simp only [List.mem_cons, List.not_mem_nil, or_false] at this
        rcases this with rfl | rfl | rfl
        · exact AskN.i
        · exact af
        · exact ar
    clear hT hx4 k4
    have e14 : Ext S T4 := e1.trans (e2.trans (e3.trans e4))
    have d4 : Dr a S T4 := Dr.ofExt hS e14
    clear e1 e2 e3 e4 f1 f2 f3 g1 g2 g3 n1 n2 n3 hp1 hp2 hp3 hp4 hp5 hp6 hp7 hp8 hp9 hp10
    refine ⟨⟨_, f4⟩, few, few, _, f4, big1 (by omega), ?_⟩
    have d5 : Dr a S (put T4 p10 (.lst (xs4 ++ [.tup [.int 8, .tup [], .tup (rods.map rodD)]]))) := d4.put s10 np
    have g5 : ∀ x ∈ xs4 ++ [.tup [.int 8, .tup [], .tup (rods.map rodD)]], Good (put T4 p10 (.lst (xs4 ++ [.tup [.int 8, .tup [], .tup (rods.map rodD)]]))) x := by
      refine good_app (fun x h => (g4 x h).put f4) ?_
      simp only [List.forall_mem_cons]
      exact ⟨⟨AskN.t3 AskN.i AskN.nil ar, fun m fs r e _ => by cases e; exact .inr rfl⟩, fun _ h => by cases h⟩
    have f5 : put T4 p10 (.lst (xs4 ++ [.tup [.int 8, .tup [], .tup (rods.map rodD)]])) p10 = some (.lst (xs4 ++ [.tup [.int 8, .tup [], .tup (rods.map rodD)]])) := put_same
    have n5 : (xs4 ++ [D.tup [.int 8, .tup [], .tup (rods.map rodD)]]).length = 16 := by rw [List.length_append, n4]; rfl
    generalize put T4 p10 (.lst (xs4 ++ [.tup [.int 8, .tup [], .tup (rods.map rodD)]])) = T5 at d5 g5 f5 ⊢
    generalize xs4 ++ [D.tup [.int 8, .tup [], .tup (rods.map rodD)]] = xs5 at g5 f5 n5 ⊢
    clear d4 g4 f4 n4 e14
    have ne5 : xs5 ≠ [] := fun z => by rw [z] at n5; cases n5
    cases hrd : rods with
    | nil =>
      subst hrd
      exact ⟨few, true, rfl, fin T5 p10 xs5 _ _ _ _ _ _ d5 np f5 ne5 (by omega) g5⟩
    | cons r0 rs =>
      rw [← hrd]
      have rne : rods ≠ [] := by rw [hrd]; exact List.cons_ne_nil _ _
      have rl1 : 0 < (rods.map rodD).length := by rw [List.length_map]; exact List.length_pos_iff.mpr rne
      have eqf : eqT 8 (.tup (rods.map rodD)) (.tup []) = some false := by rw [hrd]; rfl
      clear hrd
      refine ⟨few, false, eqf, a, _, rfl, by omega, bm100 (by omega) (by omega), d5.1, fun r T6 r0 r1 d6 => ?_⟩
      obtain ⟨c, hc, hm⟩ := atI_in r0 r1
      obtain ⟨rr, _, rfl⟩ := List.mem_map.mp hm
      have f6 := d6.2 _ _ np f5
      have g6 : ∀ x ∈ xs5, Good T6 x := fun x h => (g5 x h).dr d6
      have d56 := d5.trans d6
      clear g5 f5 d5 d6 hm
      refine ⟨_, hc, ([.int (rr.1 : Nat), .int (rr.2.1 : Nat), .tup [.int rr.2.2, .int 1]], none), rfl, rfl, rfl, ?_⟩
      refine ⟨few, few, few, few, few, few, fun q1 hq1 => ?_⟩
      try dsimp only [List.set_cons_zero, List.set_cons_succ]
      generalize ho1 : ([.tup [.int (rr.1 : Nat), .int (rr.1 : Nat), .tup [.int rr.2.2, .int 1]], .tup [.int (rr.2.1 : Nat), .int (rr.1 : Nat), .tup [.int rr.2.2, .int 1]], .tup [.int (rr.1 : Nat), .int (many : Nat), .tup [.int rr.2.2, .int 1]], .tup [.int (rr.1 : Nat), .int (rr.2.1 : Nat), .tup [.int 0, .int 1]]] : List D) = os1
      have o1 : ∀ {T : DH}, ∀ x ∈ os1, AskN 2 T x := fun {T} => by
        rw [← ho1]
        simp only [List.forall_mem_cons]
        exact ⟨AskN.t3 AskN.i AskN.i AskN.l2i, AskN.t3 AskN.i AskN.i AskN.l2i, AskN.t3 AskN.i AskN.i AskN.l2i, AskN.t3 AskN.i AskN.i AskN.l2i, fun _ h => by cases h⟩
      have m1 : os1.length = 4 := by rw [← ho1]; rfl
      clear ho1
      refine ⟨few, few, few, few, few, few, few, few, fun q2 hq2 => ⟨_, _, Ext.new hq2 _ _ put_same, put_same, ls _ (by rw [m1]; show 4 + 4 ≤ 300; decide), fun q3 hq3 => ?_⟩⟩
      try dsimp only [List.set_cons_zero, List.set_cons_succ]
      generalize ho2 : os1 ++ _ = os2
      generalize hT : put _ q3 _ = U2
      have e2 : Ext T6 U2 := by rw [← hT]; exact ((Ext.new hq1).trans (Ext.new hq2)).trans (Ext.new hq3)
      have v2 : U2 q3 = some (.lst os2) := by rw [← hT]; exact put_same
      have m2 : os2.length = 8 := by rw [← ho2, List.length_append, m1]; rfl
      have o2 : ∀ {T : DH}, ∀ x ∈ os2, AskN 2 T x := fun {T} => by
        rw [← ho2]
        refine good_app o1 ?_
        simp only [List.forall_mem_cons]
        exact ⟨AskN.t3 AskN.i AskN.i AskN.l2i, AskN.t3 AskN.i AskN.i AskN.l2i, AskN.t3 AskN.i AskN.i AskN.l2i, AskN.l2i, fun _ h => by cases h⟩
      clear hT ho2 o1 m1
      refine ⟨few, few, fun q4 hq4 => ⟨few, fun q5 hq5 => ⟨_, _, Ext.new hq5 _ _ (Ext.new hq4 _ _ v2), put_same, ls _ (by rw [m2]; show 8 + 2 ≤ 300; decide), fun q6 hq6 => ?_⟩⟩⟩
      try dsimp only [List.set_cons_zero, List.set_cons_succ]
      generalize ho3 : os2 ++ _ = os3
      generalize hT : put _ q6 _ = U3
      have e3 : Ext U2 U3 := by rw [← hT]; exact ((Ext.new hq4).trans (Ext.new hq5)).trans (Ext.new hq6)
      have v3 : U3 q6 = some (.lst os3) := by rw [← hT]; exact put_same
      have k3 : U3 q4 = some (.lst [.int (rr.1 : Nat), .int (rr.2.1 : Nat), .tup [.int rr.2.2, .int 1]]) := by rw [← hT]; exact Ext.new hq6 _ _ (Ext.new hq5 _ _ put_same)
      have m3 : os3.length = 10 := by rw [← ho3, List.length_append, m2]; rfl
      have o3 : ∀ x ∈ os3, AskN 2 U3 x := by
        rw [← ho3]
        refine good_app o2 ?_
        simp only [List.forall_mem_cons]
        exact ⟨AskN.t3 AskN.i AskN.i AskN.i, AskN.ref k3, fun _ h => by cases h⟩
      clear hT ho3 o2 m2 k3
      refine ⟨few, few, few, few, few, few, few, fun q7 hq7 => ⟨_, _, Ext.new hq7 _ _ v3, put_same, ls _ (by rw [m3]; show 10 + 5 ≤ 300; decide), fun q8 hq8 => ?_⟩⟩
      try dsimp only [List.set_cons_zero, List.set_cons_succ]
      generalize ho4 : os3 ++ _ = os4
      generalize hT : put _ q8 _ = U4
      have e4 : Ext U3 U4 := by rw [← hT]; exact (Ext.new hq7).trans (Ext.new hq8)
      have v4 : U4 q8 = some (.lst os4) := by rw [← hT]; exact put_same
      have m4 : os4.length = 15 := by rw [← ho4, List.length_append, m3]; rfl
      have o4 : ∀ x ∈ os4, AskN 2 U4 x := by
        rw [← ho4]
        refine good_app (fun x h => (o3 x h).ext e4) ?_
        simp only [List.forall_mem_cons]
        exact ⟨AskN.t3 AskN.i AskN.i (AskN.l2 (x := .bl true) (y := .int 1) trivial trivial), AskN.t3 AskN.i AskN.i AskN.l2i, AskN.tup (by simp) (by simp only [List.forall_mem_cons]; exact ⟨AskN.i, AskN.i, AskN.l2i, AskN.i, fun _ h => by cases h⟩), AskN.leaf (d := .non) trivial, AskN.t3 AskN.i AskN.i AskN.l2i, fun _ h => by cases h⟩
      have nq8 : q8 ≠ a := d56.1.ne ((e2.trans (e3.trans (Ext.new hq7))).none hq8)
      have e24 : Ext T6 U4 := e2.trans (e3.trans e4)
      have dU : Dr a T6 U4 := Dr.ofExt d56.1 e24
      clear hT ho4 o3 m3 e2 e3 e4 v2 v3
      refine ⟨_, v4, a, _, rfl, by omega, bm100 (by omega) (by omega), dU.1, fun r2 U5 s0 s1 d7 => ?_⟩
      obtain ⟨c2, hc2, hm2⟩ := atI_in s0 s1
      have oc := (o4 c2 hm2).dr d7
      have d57 := d56.trans (dU.trans d7)
      have f7 : U5 p10 = some (.lst xs5) := d7.2 _ _ np (e24 _ _ f6)
      have g7 : ∀ x ∈ xs5, Good U5 x := fun x h => ((g6 x h).ext e24).dr d7
      refine ⟨_, c2, d7.2 _ _ nq8 v4, hc2, ?_⟩
      clear d7 dU o4 v4 e24 g6 f6 d56 hm2 hc2 s0 s1 m4
      refine ⟨few, few, few, ls _ (by show _ + 1 ≤ 300; omega), few, ?_⟩
      have cl : ∀ lo hi, (DL.cutD (rods.map rodD) lo hi).length ≤ 12 := fun lo hi => Nat.le_trans cut_le lr
      refine ⟨few, ls _ (by have := cl none (some r); show _ + 1 ≤ 300; omega), ls _ (by have := cl none (some r); have := cl (some (r + 1)) none; rw [List.length_append]; show _ + 1 + _ ≤ 300; omega), few, few, fun q9 hq9 => ⟨_, put_same, by decide, by decide, ls _ (by show 2 * 6 ≤ 300; decide), fun q10 hq10 => ⟨_, _, Ext.new hq10 _ _ (Ext.new hq9 _ _ f7), put_same, ls _ (by rw [n5]; show 16 + 12 ≤ 300; decide), fun q11 hq11 => ?_⟩⟩⟩
      try dsimp only [List.set_cons_zero, List.set_cons_succ]
      have ac : AskN 3 U5 (.tup (DL.cutD (rods.map rodD) none (some r) ++ [c2] ++ DL.cutD (rods.map rodD) (some (r + 1)) none)) := by
        refine AskN.tup (by have := cl none (some r); have := cl (some (r + 1)) none; rw [List.length_append, List.length_append]; show _ + 1 + _ ≤ 40; omega) (good_app (good_app (fun x hx => ?_) ?_) fun x hx => ?_)
        · obtain ⟨r, _, rfl⟩ := List.mem_map.mp (DL.mem_cutD hx)
          exact rod_ask r
        · simp only [List.forall_mem_cons]
          exact ⟨oc, fun _ h => by cases h⟩
        · obtain ⟨r, _, rfl⟩ := List.mem_map.mp (DL.mem_cutD hx)
          exact rod_ask r
      have am : AskN 3 U5 (.tup (rods.map rodD ++ [.tup [.int (rr.1 : Nat), .int (rr.2.1 : Nat), .tup [.int 5, .int 1]]])) := by
        refine AskN.tup (by rw [List.length_append]; show _ + 1 ≤ 40; omega) (good_app (fun x hx => ?_) ?_)
        · obtain ⟨r, _, rfl⟩ := List.mem_map.mp hx
          exact rod_ask r
        · simp only [List.forall_mem_cons]
          exact ⟨AskN.t3 AskN.i AskN.i AskN.l2i, fun _ h => by cases h⟩
      generalize hy : (List.replicate (Int.toNat 6) _).flatten = ys at hq11 ⊢
      generalize hz : xs5 ++ ys = zs
      generalize hT : put _ q11 _ = U6
      have e6 : Ext U5 U6 := by rw [← hT]; exact ((Ext.new hq9).trans (Ext.new hq10)).trans (Ext.new hq11)
      have f8 : U6 q11 = some (.lst zs) := by rw [← hT]; exact put_same
      have ly : ys.length = 12 := by rw [← hy]; rfl
      have lz : zs.length = 28 := by rw [← hz, List.length_append, ly, n5]
      have g8 : ∀ x ∈ zs, Good U6 x := by
        rw [← hz]
        refine good_app (fun x h => (g7 x h).ext e6) fun x hx => ?_
        rw [← hy] at hx
        obtain ⟨l, hl2, hx3⟩ := List.mem_flatten.mp hx
        rw [(List.mem_replicate.mp hl2).2] at hx3
        simp only [List.mem_cons, List.not_mem_nil, or_false] at hx3
        rcases hx3 with rfl | rfl
        · exact Good.of m7 af (ac.ext e6)
        · exact Good.of m7 af (am.ext e6)
      have nq : q11 ≠ a := d57.1.ne (((Ext.new hq9).trans (Ext.new hq10)).none hq11)
      have s11 : S q11 = none := d57.none (((Ext.new hq9).trans (Ext.new hq10)).none hq11)
      have d8 : Dr a S U6 := d57.trans (Dr.ofExt d57.1 e6)
      clear hT hy hz hq9 hq10 hq11
      refine ⟨⟨_, f8⟩, fun z => by rw [z] at rl1; exact absurd rl1 (by decide), by decide, by decide, by show _ * 13 ≤ 1000; omega, few, _, f8, big1 (by omega), ?_⟩
      refine fin _ q11 _ _ _ _ _ _ _ (d8.put s11 nq) nq put_same (by simp) (by rw [List.length_append, lz]; show 28 + 1 ≤ 60; decide) (good_app (fun x h => (g8 x h).put f8) ?_)
      simp only [List.forall_mem_cons]
      refine ⟨Good.of m7 af (AskN.tup (Nat.le_trans cut13 (by decide)) fun x hx => ?_), fun _ h => by cases h⟩
      obtain ⟨l, hl2, hx3⟩ := List.mem_flatten.mp (DL.mem_cutD hx)
      rw [(List.mem_replicate.mp hl2).2] at hx3
      obtain ⟨r, _, rfl⟩ := List.mem_map.mp hx3
      exact rod_ask r
end My
namespace My
open PySem PySem.Spec PyProof.Rows L2 DL HM
set_option maxHeartbeats 4000000
theorem frac_one {i : Int} (h : 1 ≤ i) : aboveD (.tup [.int i, .int 1]) = true := by
  show ((decide (1 ≤ (1 : Int)) && decide (((Int.gcd i 1 : Nat) : Int) = 1)) && decide (0 < i)) = true
  rw [decide_eq_true (show 0 < i by omega), Int.gcd_one]
  rfl
theorem link_ok {many : Nat} {fx : List Nat} {rods : List Rod} (ok : LkOk many fx rods) : lnkD (LK many fx rods) = true := by
  show ((decide ((1 : Int) ≤ (many : Nat)) && decide (((many : Nat) : Int) ≤ 8)) && (((fx.map natD).all (jointD many) && riseD (fx.map natD)) && (decide ((rods.map rodD).length ≤ 12) && ((rods.map rodD).all (rdD many) && decide (((rods.map rodD).map keyD).Nodup))))) = true
  have h1 := ok.m1
  have h2 := ok.m7
  have h3 : (fx.map natD).all (jointD many) = true := by
    rw [List.all_eq_true]
    intro x hx
    obtain ⟨f, hf, rfl⟩ := List.mem_map.mp hx
    have := ok.fxl f hf
    show (decide (0 ≤ ((f : Nat) : Int)) && decide (((f : Nat) : Int) < (many : Int))) = true
    rw [decide_eq_true (by omega), decide_eq_true (by omega)]
    rfl
  have h4 : riseD (fx.map natD) = true := by
    have e : fx.map natD = (fx.map fun f => ((f : Nat) : Int)).map D.int := by rw [List.map_map]; rfl
    rw [e, rise_ints, decide_eq_true_iff]
    exact List.Pairwise.map _ (fun a b h => by omega) ok.up
  have h5 : (rods.map rodD).length ≤ 12 := by rw [List.length_map]; exact ok.rl
  have h6 : (rods.map rodD).all (rdD many) = true := by
    rw [List.all_eq_true]
    intro x hx
    obtain ⟨r, hr, rfl⟩ := List.mem_map.mp hx
    obtain ⟨r1, r2, r3⟩ := ok.rd r hr
    show ((decide (0 ≤ ((r.1 : Nat) : Int)) && decide (((r.1 : Nat) : Int) < (many : Int))) && ((decide (0 ≤ ((r.2.1 : Nat) : Int)) && decide (((r.2.1 : Nat) : Int) < (many : Int))) && (decide (((r.1 : Nat) : Int) < ((r.2.1 : Nat) : Int)) && aboveD (.tup [.int r.2.2, .int 1])))) = true
    rw [decide_eq_true (by omega), decide_eq_true (by omega), decide_eq_true (by omega), decide_eq_true (by omega), decide_eq_true (by omega), frac_one r3]
    rfl
  have h7 : ((rods.map rodD).map keyD).Nodup := by
    have e : (rods.map rodD).map keyD = (rods.map fun r => (r.1, r.2.1)).map fun p => [((p.1 : Nat) : Int), ((p.2 : Nat) : Int)] := by rw [List.map_map, List.map_map]; rfl
    rw [e]
    refine List.Pairwise.map _ (fun a b h e => h ?_) ok.un
    simp only [List.cons.injEq, Int.natCast_inj, and_true] at e
    exact Prod.ext e.1 e.2
  rw [decide_eq_true (by omega), decide_eq_true (by omega), h3, h4, decide_eq_true h5, h6, decide_eq_true h7]
  rfl
theorem link_ask {S : DH} {many : Nat} {fx : List Nat} {rods : List Rod} (ok : LkOk many fx rods) : AskN 4 S (LK many fx rods) := by
  have h1 := ok.fl
  have h2 := ok.rl
  refine AskN.t3 AskN.i (nats_ask (by rw [List.length_map]; omega) fun x hx => ?_) (AskN.tup (by rw [List.length_map]; omega) fun x hx => ?_)
  · obtain ⟨f, _, rfl⟩ := List.mem_map.mp hx
    exact ⟨_, rfl⟩
  · obtain ⟨r, _, rfl⟩ := List.mem_map.mp hx
    exact rod_ask r
theorem eq_bl8 {b : Bool} : eqT 8 (.bl b) (.bl b) = some true := by cases b <;> rfl
def F_law : DSp := fun ds S k => ∃ ns : List Int, ds = [.rl (List.map D.int ns)] ∧ ns.length ≤ 63 ∧ ∀ S', k (.bl true) S'
theorem sc_law : FnScope ["script", "cell", "state", "linkage", "thing", "found", "many", "fixed", "rods"] ["script"] (defScope s_law) := ⟨rfl, rfl, rfl, by decide +kernel, rfl, by decide +kernel, by decide +kernel⟩
theorem ok_law {P : Program} {w : World} {K : Fg} {mg : Str → Option Value} {base : Heap} {f : Addr} {fd : FuncData} (Fn : Fun K "law" "law" s_law f fd) (c__law_state : Own P w K mg base "_law_state" 2 F__law_state) (c__law_linkage : Own P w K mg base "_law_linkage" 5 F__law_linkage) (c_freedom : Own P w K mg base "freedom" 1 F_freedom) (c_is_linkage : Own P w K mg base "is_linkage" 6 F_is_linkage) (c__law_bent : Own P w K mg base "_law_bent" 2 F__law_bent) (c__law_due : Own P w K mg base "_law_due" 3 F__law_due) (z_len : mg "len" = none) (z_isinstance : mg "isinstance" = none) (z_bool : mg "bool" = none) (z_tuple : mg "tuple" = none) (z_range : mg "range" = none) :
    FnOk P w K mg base CX0 7 f fd ["script"] (spU K F_law) := by
  refine Fn.okJ sc_law (fun ds S k h => ?_) (fun cdv A outer s H E hr => ⟨_, (ds_consj (dst_forEj PassesOwn.never rfl (d_opj o_add (d_cutEj (d_varj 0) do_nonej (do_somej d_intj)) (d_lstj (da_consj d_intj da_nilj))) (dg_namej (i := 1) sc_law.nd) (ds_consj (dst_setj (i := 2) sc_law.nd (d_callj c__law_state (hr.mono (by decide)) rfl (da_consj (d_lstj (da_consj (d_varj 1) da_nilj)) (da_consj d_intj da_nilj)))) (ds_consj (dst_setj (i := 3) sc_law.nd (d_ixj x_ixF (d_callj c__law_linkage (hr.mono (by decide)) rfl (da_consj (d_varj 2) da_nilj)) d_intj (fun _ _ => rfl))) (ds_consj (dst_asgj (d_varj 3) (dg_seqE (n := 3) rfl (dgs_consj (dg_namej (i := 6) sc_law.nd) (dgs_consj (dg_namej (i := 7) sc_law.nd) (dgs_consj (dg_namej (i := 8) sc_law.nd) dgs_nilj))))) (ds_consj (dst_ifj (WJ.pt (dw_orj (dt_cmpj o_isNot (d_callj c_is_linkage (hr.mono (by decide)) rfl (da_consj (d_varj 3) da_nilj)) d_blj (nomark _)) (dw_or1j (dt_cmpj (o_neX hr) (d_callj c_freedom (hr.mono (by decide)) rfl (da_consj (d_varj 3) da_nilj)) (d_opj o_sub (d_opj o_sub (d_opj o_mul d_intj (d_varj 6)) (d_opj o_mul d_intj (d_callBj b_lenE rfl z_len bt_len (da_consj (d_varj 7) da_nilj)))) (d_callBj b_lenE rfl z_len bt_len (da_consj (d_varj 8) da_nilj))) (nomark _))))) (ds_onej (dst_retj d_blj)) ds_nilj) (ds_consj (dst_setj (i := 4) sc_law.nd (d_callj c__law_bent (hr.mono (by decide)) rfl (da_consj (d_varj 2) (da_consj (d_varj 3) da_nilj)))) (ds_consj (dst_setj (i := 5) sc_law.nd (d_callj c_is_linkage (hr.mono (by decide)) rfl (da_consj (d_varj 4) da_nilj))) (ds_onej (dst_ifj (WJ.pt (dw_orj (dt_notj (dt_valj (d_callBj b_isiX rfl z_isinstance bt_isinstance (da_consj (d_varj 5) (da_consj (d_tyj (n := .bool) rfl z_bool bt_bool) da_nilj))))) (dw_or1j (dt_cmpj (o_neX hr) (d_varj 5) (d_callj c__law_due (hr.mono (by decide)) rfl (da_consj (d_varj 4) da_nilj)) (nomark _))))) (ds_onej (dst_retj d_blj)) ds_nilj))))))))) (ds_onej (dst_retj (d_cmpj o_is (d_callj c_is_linkage (hr.mono (by decide)) rfl (da_consj (d_tupj (da_consj d_intj (da_consj (d_tupRj rfl rfl z_tuple bt_tuple rfl z_range d_intj) (da_consj (d_tupj da_nilj) da_nilj)))) da_nilj)) d_blj (nomark _))))), fun ds S k h => ?_⟩)
  · obtain ⟨_, rfl, _⟩ := h
    rfl
  · obtain ⟨ns, rfl, hl, w⟩ := h
    refine fun p0 hp0 => ⟨few, fun p1 hp1 => ⟨_, _, Ext.new hp1 _ _ put_same, put_same, by have := cut_le (ds := ns.map D.int) (lo := none) (hi := some 30); rw [List.length_map] at this; exact Nat.le_of_lt (big1 (by show _ + 1 < 300; omega)), fun p2 hp2 => ?_⟩⟩
    generalize hc : DL.cutD (ns.map D.int) none (some 30) ++ [D.int 5] = cs
    have hcs : ∀ d ∈ cs, ∃ i : Int, d = .int i := by
      rw [← hc]
      refine good_app (fun x hx => ?_) ?_
      · obtain ⟨z, _, rfl⟩ := List.mem_map.mp (DL.mem_cutD hx)
        exact ⟨z, rfl⟩
      · simp only [List.forall_mem_cons]
        exact ⟨⟨5, rfl⟩, fun _ h => by cases h⟩
    generalize hT : put _ p2 _ = T0
    have f0 : T0 p2 = some (.lst cs) := by rw [← hT]; exact put_same
    refine ⟨(cs, some p2), by simp only [dItems, f0], ?_⟩
    clear hT hc hp0 hp1 hp2
    refine loop_all (P := fun d => ∃ i : Int, d = .int i) (fun L S' => (∃ r1 r2 r3 r4 r5 r6 r7 r8, L = [some (.rl (List.map D.int ns)), r1, r2, r3, r4, r5, r6, r7, r8]) ∧ S' p2 = some (.lst cs)) (fun L S' h => h.2) ?_ (fun L S' _ => ?_) _ hcs _ _ ⟨⟨_, _, _, _, _, _, _, _, rfl⟩, f0⟩
    · rintro d L S1 Nx ⟨i, rfl⟩ ⟨⟨r1, r2, r3, r4, r5, r6, r7, r8, rfl⟩, f1⟩ hN
      refine ⟨few, fun p3 hp3 => ⟨p3, i, (), rfl, put_same, fun p n0 b hp hnb => ?_⟩⟩
      have f2 := Ext.new (o := .lst [.int n0, .bl b]) hp _ _ (Ext.new (o := .lst [.int i]) hp3 _ _ f1)
      have hS : SOK (put (put S1 p3 (.lst [.int i])) p (.lst [.int n0, .bl b])) p := ⟨n0, b, put_same, hnb⟩
      have np : p2 ≠ p := fun z => by
        have := Ext.new (o := .lst [.int i]) hp3 _ _ f1
        rw [z, hp] at this
        cases this
      generalize put (put S1 p3 (.lst [.int i])) p (.lst [.int n0, .bl b]) = T1 at hS f2 ⊢
      refine ⟨p, rfl, hS, fun many fx rods pts S2 ok d2 => ⟨_, rfl, ([.int (many : Nat), .tup (fx.map natD), .tup (rods.map rodD)], none), rfl, rfl, rfl, ?_⟩⟩
      have m7 := ok.m7
      have lf := ok.fl
      refine ⟨_, rfl, link_ask ok, fun S3 e3 => ?_⟩
      rw [link_ok ok]
      have f3 := e3 _ _ (d2.2 _ _ np f2)
      have d3 := Dr.ofExt d2.1 e3
      refine ⟨many, fx, rods, rfl, ok, mok (n := 6) (m := 6) (by decide) (bt_of (by omega) (by omega)), mok (n := 6) (m := 6) (by decide) (bt_of (by rw [List.length_map]; omega) (by rw [List.length_map]; omega)), _, eq_int, ite_nb (fun h => ?_) (fun h => ?_)⟩
      · rw [List.length_map, List.length_map] at h
        exact absurd h (by simp)
      · refine ⟨p, many, fx, rods, rfl, d3.1, ok, fun d S4 d4 ad h7 => ⟨d, rfl, ad, fun S5 e5 => ⟨.bool, rfl, d, rfl, ad.ext e5, h7, fun S6 e6 => ⟨true, eq_bl8, hN _ _ ⟨⟨_, _, _, _, _, _, _, _, rfl⟩, e6 _ _ (e5 _ _ (d4.2 _ _ np f3))⟩⟩⟩⟩⟩
    · refine ⟨by decide, by decide, few, few, _, rfl, AskN.t3 AskN.i (nats_ask (by show (8 : Nat) ≤ 40; decide) fun x hx => ?_) AskN.nil, fun S2 e2 => w S2⟩
      obtain ⟨v, _, rfl⟩ := List.mem_map.mp hx
      exact ⟨v, rfl⟩
theorem law_ask (ns : List Int) (h : ns.length ≤ 63) : F_law [.rl (List.map D.int ns)] (fun _ => none) (fun d _ => d = .bl true) := ⟨ns, rfl, h, fun _ => rfl⟩

end My
namespace My
open PySem PySem.Spec PyProof.Rows L2 DL HM
set_option maxHeartbeats 4000000
/-! ### the text as it stands behind the top -/
theorem all_mk {l : PySem.W.OpenLaw} {w : World} {K : Fg} {h : Heap} {mg : Str → Option Value} {fa : Addr} (X : K.In h) (G : h.Ns mainGlobals mg) (hfa : mg "law" = some (.ref fa))
    {f1 : Addr} {od1 an1 : Option Addr} {sl1 : Array (Option Value)} {oc1 kV1 dc1 pm1 cd1 ct1 : Value}
    {f2 : Addr} {od2 an2 : Option Addr} {sl2 : Array (Option Value)} {oc2 kV2 dc2 pm2 cd2 ct2 : Value}
    {f3 : Addr} {od3 an3 : Option Addr} {sl3 : Array (Option Value)} {oc3 kV3 dc3 pm3 cd3 ct3 : Value}
    {f4 : Addr} {od4 an4 : Option Addr} {sl4 : Array (Option Value)} {oc4 kV4 dc4 pm4 cd4 ct4 : Value}
    {f5 : Addr} {od5 an5 : Option Addr} {sl5 : Array (Option Value)} {oc5 kV5 dc5 pm5 cd5 ct5 : Value}
    {f6 : Addr} {od6 an6 : Option Addr} {sl6 : Array (Option Value)} {oc6 kV6 dc6 pm6 cd6 ct6 : Value}
    {f7 : Addr} {od7 an7 : Option Addr} {sl7 : Array (Option Value)} {oc7 kV7 dc7 pm7 cd7 ct7 : Value}
    {f8 : Addr} {od8 an8 : Option Addr} {sl8 : Array (Option Value)} {oc8 kV8 dc8 pm8 cd8 ct8 : Value}
    {f9 : Addr} {od9 an9 : Option Addr} {sl9 : Array (Option Value)} {oc9 kV9 dc9 pm9 cd9 ct9 : Value}
    {f10 : Addr} {od10 an10 : Option Addr} {sl10 : Array (Option Value)} {oc10 kV10 dc10 pm10 cd10 ct10 : Value}
    {f11 : Addr} {od11 an11 : Option Addr} {sl11 : Array (Option Value)} {oc11 kV11 dc11 pm11 cd11 ct11 : Value}
    {f12 : Addr} {od12 an12 : Option Addr} {sl12 : Array (Option Value)} {oc12 kV12 dc12 pm12 cd12 ct12 : Value}
    {f13 : Addr} {od13 an13 : Option Addr} {sl13 : Array (Option Value)} {oc13 kV13 dc13 pm13 cd13 ct13 : Value}
    {f14 : Addr} {od14 an14 : Option Addr} {sl14 : Array (Option Value)} {oc14 kV14 dc14 pm14 cd14 ct14 : Value}
    {f15 : Addr} {od15 an15 : Option Addr} {sl15 : Array (Option Value)} {oc15 kV15 dc15 pm15 cd15 ct15 : Value}
    {f16 : Addr} {od16 an16 : Option Addr} {sl16 : Array (Option Value)} {oc16 kV16 dc16 pm16 cd16 ct16 : Value}
    {f17 : Addr} {od17 an17 : Option Addr} {sl17 : Array (Option Value)} {oc17 kV17 dc17 pm17 cd17 ct17 : Value}
    {f18 : Addr} {od18 an18 : Option Addr} {sl18 : Array (Option Value)} {oc18 kV18 dc18 pm18 cd18 ct18 : Value}
    {f19 : Addr} {od19 an19 : Option Addr} {sl19 : Array (Option Value)} {oc19 kV19 dc19 pm19 cd19 ct19 : Value}
    {f20 : Addr} {od20 an20 : Option Addr} {sl20 : Array (Option Value)} {oc20 kV20 dc20 pm20 cd20 ct20 : Value}
    {f21 : Addr} {od21 an21 : Option Addr} {sl21 : Array (Option Value)} {oc21 kV21 dc21 pm21 cd21 ct21 : Value}
    {f22 : Addr} {od22 an22 : Option Addr} {sl22 : Array (Option Value)} {oc22 kV22 dc22 pm22 cd22 ct22 : Value}
    {f23 : Addr} {od23 an23 : Option Addr} {sl23 : Array (Option Value)} {oc23 kV23 dc23 pm23 cd23 ct23 : Value}
    {ti_MOST_RODS : Tok}
    {ti_MOST_JOINTS : Tok}
    (a1 : PySem.W.nsIn K mainGlobals "common_divisor" = some (some (.ref f1))) (l1 : K.lookup f1 = some ⟨oc1, od1, .func (PySem.W.fnOf "common_divisor" "common_divisor" (defArgs s_common_divisor) (defBody s_common_divisor) (defScope s_common_divisor) .none kV1 dc1 pm1 an1 cd1 ct1), sl1⟩) (e1 : PySem.W.codeIn K cd1 "common_divisor" = true) (k1 : PySem.W.keepIn K (.ref f1) = true)
    (a2 : PySem.W.nsIn K mainGlobals "_law_cell_at" = some (some (.ref f2))) (l2 : K.lookup f2 = some ⟨oc2, od2, .func (PySem.W.fnOf "_law_cell_at" "_law_cell_at" (defArgs s__law_cell_at) (defBody s__law_cell_at) (defScope s__law_cell_at) .none kV2 dc2 pm2 an2 cd2 ct2), sl2⟩) (e2 : PySem.W.codeIn K cd2 "_law_cell_at" = true) (k2 : PySem.W.keepIn K (.ref f2) = true)
    (a3 : PySem.W.nsIn K mainGlobals "_law_state" = some (some (.ref f3))) (l3 : K.lookup f3 = some ⟨oc3, od3, .func (PySem.W.fnOf "_law_state" "_law_state" (defArgs s__law_state) (defBody s__law_state) (defScope s__law_state) .none kV3 dc3 pm3 an3 cd3 ct3), sl3⟩) (e3 : PySem.W.codeIn K cd3 "_law_state" = true) (k3 : PySem.W.keepIn K (.ref f3) = true)
    (a4 : PySem.W.nsIn K mainGlobals "_law_take" = some (some (.ref f4))) (l4 : K.lookup f4 = some ⟨oc4, od4, .func (PySem.W.fnOf "_law_take" "_law_take" (defArgs s__law_take) (defBody s__law_take) (defScope s__law_take) .none kV4 dc4 pm4 an4 cd4 ct4), sl4⟩) (e4 : PySem.W.codeIn K cd4 "_law_take" = true) (k4 : PySem.W.keepIn K (.ref f4) = true)
    (a5 : PySem.W.nsIn K mainGlobals "_law_divisor" = some (some (.ref f5))) (l5 : K.lookup f5 = some ⟨oc5, od5, .func (PySem.W.fnOf "_law_divisor" "_law_divisor" (defArgs s__law_divisor) (defBody s__law_divisor) (defScope s__law_divisor) .none kV5 dc5 pm5 an5 cd5 ct5), sl5⟩) (e5 : PySem.W.codeIn K cd5 "_law_divisor" = true) (k5 : PySem.W.keepIn K (.ref f5) = true)
    (a6 : PySem.W.nsIn K mainGlobals "_law_ratio" = some (some (.ref f6))) (l6 : K.lookup f6 = some ⟨oc6, od6, .func (PySem.W.fnOf "_law_ratio" "_law_ratio" (defArgs s__law_ratio) (defBody s__law_ratio) (defScope s__law_ratio) .none kV6 dc6 pm6 an6 cd6 ct6), sl6⟩) (e6 : PySem.W.codeIn K cd6 "_law_ratio" = true) (k6 : PySem.W.keepIn K (.ref f6) = true)
    (a7 : PySem.W.nsIn K mainGlobals "is_whole" = some (some (.ref f7))) (l7 : K.lookup f7 = some ⟨oc7, od7, .func (PySem.W.fnOf "is_whole" "is_whole" (defArgs s_is_whole) (defBody s_is_whole) (defScope s_is_whole) .none kV7 dc7 pm7 an7 cd7 ct7), sl7⟩) (e7 : PySem.W.codeIn K cd7 "is_whole" = true) (k7 : PySem.W.keepIn K (.ref f7) = true)
    (a8 : PySem.W.nsIn K mainGlobals "is_fraction" = some (some (.ref f8))) (l8 : K.lookup f8 = some ⟨oc8, od8, .func (PySem.W.fnOf "is_fraction" "is_fraction" (defArgs s_is_fraction) (defBody s_is_fraction) (defScope s_is_fraction) .none kV8 dc8 pm8 an8 cd8 ct8), sl8⟩) (e8 : PySem.W.codeIn K cd8 "is_fraction" = true) (k8 : PySem.W.keepIn K (.ref f8) = true)
    (a9 : PySem.W.nsIn K mainGlobals "is_above_nought" = some (some (.ref f9))) (l9 : K.lookup f9 = some ⟨oc9, od9, .func (PySem.W.fnOf "is_above_nought" "is_above_nought" (defArgs s_is_above_nought) (defBody s_is_above_nought) (defScope s_is_above_nought) .none kV9 dc9 pm9 an9 cd9 ct9), sl9⟩) (e9 : PySem.W.codeIn K cd9 "is_above_nought" = true) (k9 : PySem.W.keepIn K (.ref f9) = true)
    (a10 : PySem.W.nsIn K mainGlobals "is_joint" = some (some (.ref f10))) (l10 : K.lookup f10 = some ⟨oc10, od10, .func (PySem.W.fnOf "is_joint" "is_joint" (defArgs s_is_joint) (defBody s_is_joint) (defScope s_is_joint) .none kV10 dc10 pm10 an10 cd10 ct10), sl10⟩) (e10 : PySem.W.codeIn K cd10 "is_joint" = true) (k10 : PySem.W.keepIn K (.ref f10) = true)
    (a11 : PySem.W.nsIn K mainGlobals "is_rod" = some (some (.ref f11))) (l11 : K.lookup f11 = some ⟨oc11, od11, .func (PySem.W.fnOf "is_rod" "is_rod" (defArgs s_is_rod) (defBody s_is_rod) (defScope s_is_rod) .none kV11 dc11 pm11 an11 cd11 ct11), sl11⟩) (e11 : PySem.W.codeIn K cd11 "is_rod" = true) (k11 : PySem.W.keepIn K (.ref f11) = true)
    (a12 : PySem.W.nsIn K mainGlobals "are_fixed" = some (some (.ref f12))) (l12 : K.lookup f12 = some ⟨oc12, od12, .func (PySem.W.fnOf "are_fixed" "are_fixed" (defArgs s_are_fixed) (defBody s_are_fixed) (defScope s_are_fixed) .none kV12 dc12 pm12 an12 cd12 ct12), sl12⟩) (e12 : PySem.W.codeIn K cd12 "are_fixed" = true) (k12 : PySem.W.keepIn K (.ref f12) = true)
    (a13 : PySem.W.nsIn K mainGlobals "are_rods" = some (some (.ref f13))) (l13 : K.lookup f13 = some ⟨oc13, od13, .func (PySem.W.fnOf "are_rods" "are_rods" (defArgs s_are_rods) (defBody s_are_rods) (defScope s_are_rods) .none kV13 dc13 pm13 an13 cd13 ct13), sl13⟩) (e13 : PySem.W.codeIn K cd13 "are_rods" = true) (k13 : PySem.W.keepIn K (.ref f13) = true)
    (a14 : PySem.W.nsIn K mainGlobals "is_linkage" = some (some (.ref f14))) (l14 : K.lookup f14 = some ⟨oc14, od14, .func (PySem.W.fnOf "is_linkage" "is_linkage" (defArgs s_is_linkage) (defBody s_is_linkage) (defScope s_is_linkage) .none kV14 dc14 pm14 an14 cd14 ct14), sl14⟩) (e14 : PySem.W.codeIn K cd14 "is_linkage" = true) (k14 : PySem.W.keepIn K (.ref f14) = true)
    (a15 : PySem.W.nsIn K mainGlobals "_law_fraction" = some (some (.ref f15))) (l15 : K.lookup f15 = some ⟨oc15, od15, .func (PySem.W.fnOf "_law_fraction" "_law_fraction" (defArgs s__law_fraction) (defBody s__law_fraction) (defScope s__law_fraction) .none kV15 dc15 pm15 an15 cd15 ct15), sl15⟩) (e15 : PySem.W.codeIn K cd15 "_law_fraction" = true) (k15 : PySem.W.keepIn K (.ref f15) = true)
    (a16 : PySem.W.nsIn K mainGlobals "_law_plain_point" = some (some (.ref f16))) (l16 : K.lookup f16 = some ⟨oc16, od16, .func (PySem.W.fnOf "_law_plain_point" "_law_plain_point" (defArgs s__law_plain_point) (defBody s__law_plain_point) (defScope s__law_plain_point) .none kV16 dc16 pm16 an16 cd16 ct16), sl16⟩) (e16 : PySem.W.codeIn K cd16 "_law_plain_point" = true) (k16 : PySem.W.keepIn K (.ref f16) = true)
    (a17 : PySem.W.nsIn K mainGlobals "_law_linkage" = some (some (.ref f17))) (l17 : K.lookup f17 = some ⟨oc17, od17, .func (PySem.W.fnOf "_law_linkage" "_law_linkage" (defArgs s__law_linkage) (defBody s__law_linkage) (defScope s__law_linkage) .none kV17 dc17 pm17 an17 cd17 ct17), sl17⟩) (e17 : PySem.W.codeIn K cd17 "_law_linkage" = true) (k17 : PySem.W.keepIn K (.ref f17) = true)
    (a18 : PySem.W.nsIn K mainGlobals "freedom" = some (some (.ref f18))) (l18 : K.lookup f18 = some ⟨oc18, od18, .func (PySem.W.fnOf "freedom" "freedom" (defArgs s_freedom) (defBody s_freedom) (defScope s_freedom) .none kV18 dc18 pm18 an18 cd18 ct18), sl18⟩) (e18 : PySem.W.codeIn K cd18 "freedom" = true) (k18 : PySem.W.keepIn K (.ref f18) = true)
    (a19 : PySem.W.nsIn K mainGlobals "_law_whole" = some (some (.ref f19))) (l19 : K.lookup f19 = some ⟨oc19, od19, .func (PySem.W.fnOf "_law_whole" "_law_whole" (defArgs s__law_whole) (defBody s__law_whole) (defScope s__law_whole) .none kV19 dc19 pm19 an19 cd19 ct19), sl19⟩) (e19 : PySem.W.codeIn K cd19 "_law_whole" = true) (k19 : PySem.W.keepIn K (.ref f19) = true)
    (a20 : PySem.W.nsIn K mainGlobals "_law_is_rod" = some (some (.ref f20))) (l20 : K.lookup f20 = some ⟨oc20, od20, .func (PySem.W.fnOf "_law_is_rod" "_law_is_rod" (defArgs s__law_is_rod) (defBody s__law_is_rod) (defScope s__law_is_rod) .none kV20 dc20 pm20 an20 cd20 ct20), sl20⟩) (e20 : PySem.W.codeIn K cd20 "_law_is_rod" = true) (k20 : PySem.W.keepIn K (.ref f20) = true)
    (a21 : PySem.W.nsIn K mainGlobals "_law_due" = some (some (.ref f21))) (l21 : K.lookup f21 = some ⟨oc21, od21, .func (PySem.W.fnOf "_law_due" "_law_due" (defArgs s__law_due) (defBody s__law_due) (defScope s__law_due) .none kV21 dc21 pm21 an21 cd21 ct21), sl21⟩) (e21 : PySem.W.codeIn K cd21 "_law_due" = true) (k21 : PySem.W.keepIn K (.ref f21) = true)
    (a22 : PySem.W.nsIn K mainGlobals "_law_bent" = some (some (.ref f22))) (l22 : K.lookup f22 = some ⟨oc22, od22, .func (PySem.W.fnOf "_law_bent" "_law_bent" (defArgs s__law_bent) (defBody s__law_bent) (defScope s__law_bent) .none kV22 dc22 pm22 an22 cd22 ct22), sl22⟩) (e22 : PySem.W.codeIn K cd22 "_law_bent" = true) (k22 : PySem.W.keepIn K (.ref f22) = true)
    (a23 : PySem.W.nsIn K mainGlobals "law" = some (some (.ref f23))) (l23 : K.lookup f23 = some ⟨oc23, od23, .func (PySem.W.fnOf "law" "law" (defArgs s_law) (defBody s_law) (defScope s_law) .none kV23 dc23 pm23 an23 cd23 ct23), sl23⟩) (e23 : PySem.W.codeIn K cd23 "law" = true) (k23 : PySem.W.keepIn K (.ref f23) = true)
    (ag_MOST_RODS : PySem.W.nsIn K mainGlobals "MOST_RODS" = some (some (.int 12 ti_MOST_RODS)))
    (ag_MOST_JOINTS : PySem.W.nsIn K mainGlobals "MOST_JOINTS" = some (some (.int 8 ti_MOST_JOINTS)))
    (y_abs : PySem.W.nsIn K mainGlobals "abs" = some none) (y_len : PySem.W.nsIn K mainGlobals "len" = some none) (y_isinstance : PySem.W.nsIn K mainGlobals "isinstance" = some none) (y_bool : PySem.W.nsIn K mainGlobals "bool" = some none) (y_int : PySem.W.nsIn K mainGlobals "int" = some none) (y_tuple : PySem.W.nsIn K mainGlobals "tuple" = some none) (y_all : PySem.W.nsIn K mainGlobals "all" = some none) (y_zip : PySem.W.nsIn K mainGlobals "zip" = some none) (y_range : PySem.W.nsIn K mainGlobals "range" = some none) (y_sorted : PySem.W.nsIn K mainGlobals "sorted" = some none) (y_set : PySem.W.nsIn K mainGlobals "set" = some none) (y_list : PySem.W.nsIn K mainGlobals "list" = some none) (y_str : PySem.W.nsIn K mainGlobals "str" = some none) :
    ∃ fd : FuncData, (∀ (s : Shared) (v : Value), BindsTo s fd ⟨[v], []⟩ [("script", v)]) ∧ ∀ base : Heap, K.In base → base.Ns mainGlobals mg → FnOk l.prog w K mg base CX0 7 fa fd ["script"] (spU K F_law) := by
  have e := hfa.symm.trans (PySem.W.mg_of X G a23)
  cases e
  have z_abs := PySem.W.mg_none_of X G y_abs
  have z_len := PySem.W.mg_none_of X G y_len
  have z_isinstance := PySem.W.mg_none_of X G y_isinstance
  have z_bool := PySem.W.mg_none_of X G y_bool
  have z_int := PySem.W.mg_none_of X G y_int
  have z_tuple := PySem.W.mg_none_of X G y_tuple
  have z_all := PySem.W.mg_none_of X G y_all
  have z_zip := PySem.W.mg_none_of X G y_zip
  have z_range := PySem.W.mg_none_of X G y_range
  have z_sorted := PySem.W.mg_none_of X G y_sorted
  have z_set := PySem.W.mg_none_of X G y_set
  have z_list := PySem.W.mg_none_of X G y_list
  have z_str := PySem.W.mg_none_of X G y_str
  have g_MOST_RODS : GInt mg "MOST_RODS" 12 := ⟨_, PySem.W.mg_of X G ag_MOST_RODS⟩
  have g_MOST_JOINTS : GInt mg "MOST_JOINTS" 8 := ⟨_, PySem.W.mg_of X G ag_MOST_JOINTS⟩
  have F1 := fun_mk (st := s_common_divisor) l1 e1 k1
  have b1 := F1.binds (ps := ["one", "other"]) fun _ _ _ _ _ _ us hl => match us, hl with | [_, _], _ => rfl
  have F2 := fun_mk (st := s__law_cell_at) l2 e2 k2
  have b2 := F2.binds (ps := ["script", "k"]) fun _ _ _ _ _ _ us hl => match us, hl with | [_, _], _ => rfl
  have F3 := fun_mk (st := s__law_state) l3 e3 k3
  have b3 := F3.binds (ps := ["script", "k"]) fun _ _ _ _ _ _ us hl => match us, hl with | [_, _], _ => rfl
  have F4 := fun_mk (st := s__law_take) l4 e4 k4
  have b4 := F4.binds (ps := ["state", "many"]) fun _ _ _ _ _ _ us hl => match us, hl with | [_, _], _ => rfl
  have F5 := fun_mk (st := s__law_divisor) l5 e5 k5
  have b5 := F5.binds (ps := ["one", "other"]) fun _ _ _ _ _ _ us hl => match us, hl with | [_, _], _ => rfl
  have F6 := fun_mk (st := s__law_ratio) l6 e6 k6
  have b6 := F6.binds (ps := ["top", "bottom"]) fun _ _ _ _ _ _ us hl => match us, hl with | [_, _], _ => rfl
  have F7 := fun_mk (st := s_is_whole) l7 e7 k7
  have b7 := F7.binds (ps := ["thing"]) fun _ _ _ _ _ _ us hl => match us, hl with | [_], _ => rfl
  have F8 := fun_mk (st := s_is_fraction) l8 e8 k8
  have b8 := F8.binds (ps := ["thing"]) fun _ _ _ _ _ _ us hl => match us, hl with | [_], _ => rfl
  have F9 := fun_mk (st := s_is_above_nought) l9 e9 k9
  have b9 := F9.binds (ps := ["thing"]) fun _ _ _ _ _ _ us hl => match us, hl with | [_], _ => rfl
  have F10 := fun_mk (st := s_is_joint) l10 e10 k10
  have b10 := F10.binds (ps := ["thing", "many"]) fun _ _ _ _ _ _ us hl => match us, hl with | [_, _], _ => rfl
  have F11 := fun_mk (st := s_is_rod) l11 e11 k11
  have b11 := F11.binds (ps := ["thing", "many"]) fun _ _ _ _ _ _ us hl => match us, hl with | [_, _], _ => rfl
  have F12 := fun_mk (st := s_are_fixed) l12 e12 k12
  have b12 := F12.binds (ps := ["thing", "many"]) fun _ _ _ _ _ _ us hl => match us, hl with | [_, _], _ => rfl
  have F13 := fun_mk (st := s_are_rods) l13 e13 k13
  have b13 := F13.binds (ps := ["thing", "many"]) fun _ _ _ _ _ _ us hl => match us, hl with | [_, _], _ => rfl
  have F14 := fun_mk (st := s_is_linkage) l14 e14 k14
  have b14 := F14.binds (ps := ["thing"]) fun _ _ _ _ _ _ us hl => match us, hl with | [_], _ => rfl
  have F15 := fun_mk (st := s__law_fraction) l15 e15 k15
  have b15 := F15.binds (ps := ["state", "most"]) fun _ _ _ _ _ _ us hl => match us, hl with | [_, _], _ => rfl
  have F16 := fun_mk (st := s__law_plain_point) l16 e16 k16
  have b16 := F16.binds (ps := ["state", "most"]) fun _ _ _ _ _ _ us hl => match us, hl with | [_, _], _ => rfl
  have F17 := fun_mk (st := s__law_linkage) l17 e17 k17
  have b17 := F17.binds (ps := ["state"]) fun _ _ _ _ _ _ us hl => match us, hl with | [_], _ => rfl
  have F18 := fun_mk (st := s_freedom) l18 e18 k18
  have b18 := F18.binds (ps := ["linkage"]) fun _ _ _ _ _ _ us hl => match us, hl with | [_], _ => rfl
  have F19 := fun_mk (st := s__law_whole) l19 e19 k19
  have b19 := F19.binds (ps := ["thing"]) fun _ _ _ _ _ _ us hl => match us, hl with | [_], _ => rfl
  have F20 := fun_mk (st := s__law_is_rod) l20 e20 k20
  have b20 := F20.binds (ps := ["thing", "many"]) fun _ _ _ _ _ _ us hl => match us, hl with | [_, _], _ => rfl
  have F21 := fun_mk (st := s__law_due) l21 e21 k21
  have b21 := F21.binds (ps := ["thing"]) fun _ _ _ _ _ _ us hl => match us, hl with | [_], _ => rfl
  have F22 := fun_mk (st := s__law_bent) l22 e22 k22
  have b22 := F22.binds (ps := ["state", "linkage"]) fun _ _ _ _ _ _ us hl => match us, hl with | [_, _], _ => rfl
  have F23 := fun_mk (st := s_law) l23 e23 k23
  have b23 := F23.binds (ps := ["script"]) fun _ _ _ _ _ _ us hl => match us, hl with | [_], _ => rfl
  refine ⟨PySem.W.fnOf "law" "law" (defArgs s_law) (defBody s_law) (defScope s_law) .none kV23 dc23 pm23 an23 cd23 ct23, fun s v => .of_eq rfl, fun base _ _ => ?_⟩
  have c_common_divisor : Own l.prog w K mg base "common_divisor" 1 F_common_divisor := Own.mk' F1 (ok_common_divisor F1 z_abs) (PySem.W.mg_of X G a1) b1
  have c__law_cell_at : Own l.prog w K mg base "_law_cell_at" 1 F__law_cell_at := Own.mk' F2 (ok__law_cell_at F2 z_len) (PySem.W.mg_of X G a2) b2
  have c__law_state : Own l.prog w K mg base "_law_state" 2 F__law_state := Own.mk' F3 (ok__law_state F3 c__law_cell_at) (PySem.W.mg_of X G a3) b3
  have c__law_take : Own l.prog w K mg base "_law_take" 1 F__law_take := Own.mk' F4 (ok__law_take F4 ) (PySem.W.mg_of X G a4) b4
  have c__law_divisor : Own l.prog w K mg base "_law_divisor" 1 F__law_divisor := Own.mk' F5 (ok__law_divisor F5 z_abs) (PySem.W.mg_of X G a5) b5
  have c__law_ratio : Own l.prog w K mg base "_law_ratio" 2 F__law_ratio := Own.mk' F6 (ok__law_ratio F6 c__law_divisor) (PySem.W.mg_of X G a6) b6
  have c_is_whole : Own l.prog w K mg base "is_whole" 1 F_is_whole := Own.mk' F7 (ok_is_whole F7 z_isinstance z_bool z_int) (PySem.W.mg_of X G a7) b7
  have c_is_fraction : Own l.prog w K mg base "is_fraction" 2 F_is_fraction := Own.mk' F8 (ok_is_fraction F8 c_is_whole c_common_divisor z_len z_isinstance z_tuple) (PySem.W.mg_of X G a8) b8
  have c_is_above_nought : Own l.prog w K mg base "is_above_nought" 3 F_is_above_nought := Own.mk' F9 (ok_is_above_nought F9 c_is_fraction) (PySem.W.mg_of X G a9) b9
  have c_is_joint : Own l.prog w K mg base "is_joint" 2 F_is_joint := Own.mk' F10 (ok_is_joint F10 c_is_whole) (PySem.W.mg_of X G a10) b10
  have c_is_rod : Own l.prog w K mg base "is_rod" 4 F_is_rod := Own.mk' F11 (ok_is_rod F11 c_is_joint c_is_above_nought z_len z_isinstance z_tuple) (PySem.W.mg_of X G a11) b11
  have c_are_fixed : Own l.prog w K mg base "are_fixed" 3 F_are_fixed := Own.mk' F12 (ok_are_fixed F12 c_is_joint z_isinstance z_tuple z_all z_zip) (PySem.W.mg_of X G a12) b12
  have c_are_rods : Own l.prog w K mg base "are_rods" 5 F_are_rods := Own.mk' F13 (ok_are_rods F13 c_is_rod z_len z_isinstance z_tuple z_all g_MOST_RODS) (PySem.W.mg_of X G a13) b13
  have c_is_linkage : Own l.prog w K mg base "is_linkage" 6 F_is_linkage := Own.mk' F14 (ok_is_linkage F14 c_is_whole c_are_rods c_are_fixed z_len z_isinstance z_tuple g_MOST_JOINTS) (PySem.W.mg_of X G a14) b14
  have c__law_fraction : Own l.prog w K mg base "_law_fraction" 3 F__law_fraction := Own.mk' F15 (ok__law_fraction F15 c__law_ratio c__law_take) (PySem.W.mg_of X G a15) b15
  have c__law_plain_point : Own l.prog w K mg base "_law_plain_point" 4 F__law_plain_point := Own.mk' F16 (ok__law_plain_point F16 c__law_fraction) (PySem.W.mg_of X G a16) b16
  have c__law_linkage : Own l.prog w K mg base "_law_linkage" 5 F__law_linkage := Own.mk' F17 (ok__law_linkage F17 c__law_take c__law_plain_point z_tuple z_range z_len) (PySem.W.mg_of X G a17) b17
  have c_freedom : Own l.prog w K mg base "freedom" 1 F_freedom := Own.mk' F18 (ok_freedom F18 z_len) (PySem.W.mg_of X G a18) b18
  have c__law_whole : Own l.prog w K mg base "_law_whole" 1 F__law_whole := Own.mk' F19 (ok__law_whole F19 z_isinstance z_bool z_int) (PySem.W.mg_of X G a19) b19
  have c__law_is_rod : Own l.prog w K mg base "_law_is_rod" 2 F__law_is_rod := Own.mk' F20 (ok__law_is_rod F20 c__law_whole c__law_divisor z_len z_isinstance z_tuple) (PySem.W.mg_of X G a20) b20
  have c__law_due : Own l.prog w K mg base "_law_due" 3 F__law_due := Own.mk' F21 (ok__law_due F21 c__law_whole c__law_is_rod z_len z_isinstance z_tuple z_sorted z_set z_list) (PySem.W.mg_of X G a21) b21
  have c__law_bent : Own l.prog w K mg base "_law_bent" 2 F__law_bent := Own.mk' F22 (ok__law_bent F22 c__law_take z_list z_str z_len) (PySem.W.mg_of X G a22) b22
  exact ok_law F23 c__law_state c__law_linkage c_freedom c_is_linkage c__law_bent c__law_due z_len z_isinstance z_bool z_tuple z_range
theorem walk {l : PySem.W.OpenLaw} {q : Program} {loose : List Str} {XP : (Str → Option Value) → Heap → Prop} {YP : World → Heap → Prop} {d : DefRec} {K : Params → Fg} (hn : l.most = some 63) (hdf : d.params.defaults = [])
    (hY : ∀ (w : World) (h : Heap), YP w h → (K w.params).In h)
    (F : ∀ (w : World) (mg : Str → Option Value) (fa : Addr) (h : Heap), (K w.params).In h → h.Ns mainGlobals mg → mg d.name = some (.ref fa) →
      ∃ fd : FuncData, (∀ (s : Shared) (u : Value), BindsTo s fd ⟨[u], []⟩ [("script", u)]) ∧ ∀ base : Heap, (K w.params).In base → base.Ns mainGlobals mg → FnOk l.prog w (K w.params) mg base CX0 7 fa fd ["script"] (spU (K w.params) F_law)) :
    PySem.W.WalkO q loose XP YP l.row.toRowW d [] (fun f vs => PySem.call f vs) :=
  L2.walk_of (n := 63) (k := 7) (x := "script") (CX := fun _ => CX0) (sp := fun w => spU (K w.params) F_law) hn (by decide) hdf ⟨rfl, by decide, by decide⟩ hY F
    (fun w H a ns hl ho hS => DL.law_up ho hS (law_ask ns hl)) fun _ _ _ _ _ z => z
end My
open PySem PySem.W PyProof.Rows
set_option maxRecDepth 100000 in
set_option maxHeartbeats 0 in
theorem PySem.Challenge.cw_hingedraw_k31_linkages_looked_at_holds : PySem.Challenge.rw_hingedraw_k31_linkages_looked_at.Holds := by
  w_on; o_law; k_head; (case hw => w_witness2)
  k_fill
  refine My.walk (l := PySem.Challenge.rw_hingedraw_k31_linkages_looked_at) rfl rfl (fun w h Y => PySem.W.kIn_of Y) ?F
  case F =>
    intro w mg fa h KX G hmg
    refine' My.all_mk KX G hmg ?a1 ?l1 ?e1 ?k1 ?a2 ?l2 ?e2 ?k2 ?a3 ?l3 ?e3 ?k3 ?a4 ?l4 ?e4 ?k4 ?a5 ?l5 ?e5 ?k5 ?a6 ?l6 ?e6 ?k6 ?a7 ?l7 ?e7 ?k7 ?a8 ?l8 ?e8 ?k8 ?a9 ?l9 ?e9 ?k9 ?a10 ?l10 ?e10 ?k10 ?a11 ?l11 ?e11 ?k11 ?a12 ?l12 ?e12 ?k12 ?a13 ?l13 ?e13 ?k13 ?a14 ?l14 ?e14 ?k14 ?a15 ?l15 ?e15 ?k15 ?a16 ?l16 ?e16 ?k16 ?a17 ?l17 ?e17 ?k17 ?a18 ?l18 ?e18 ?k18 ?a19 ?l19 ?e19 ?k19 ?a20 ?l20 ?e20 ?k20 ?a21 ?l21 ?e21 ?k21 ?a22 ?l22 ?e22 ?k22 ?a23 ?l23 ?e23 ?k23 ?ag_MOST_RODS ?ag_MOST_JOINTS ?y_abs ?y_len ?y_isinstance ?y_bool ?y_int ?y_tuple ?y_all ?y_zip ?y_range ?y_sorted ?y_set ?y_list ?y_str
    (case a1 => k_is)
    (case l1 => k_is)
    (case e1 => k_is)
    (case k1 => k_is)
    (case a2 => k_is)
    (case l2 => k_is)
    (case e2 => k_is)
    (case k2 => k_is)
    (case a3 => k_is)
    (case l3 => k_is)
    (case e3 => k_is)
    (case k3 => k_is)
    (case a4 => k_is)
    (case l4 => k_is)
    (case e4 => k_is)
    (case k4 => k_is)
    (case a5 => k_is)
    (case l5 => k_is)
    (case e5 => k_is)
    (case k5 => k_is)
    (case a6 => k_is)
    (case l6 => k_is)
    (case e6 => k_is)
    (case k6 => k_is)
    (case a7 => k_is)
    (case l7 => k_is)
    (case e7 => k_is)
    (case k7 => k_is)
    (case a8 => k_is)
    (case l8 => k_is)
    (case e8 => k_is)
    (case k8 => k_is)
    (case a9 => k_is)
    (case l9 => k_is)
    (case e9 => k_is)
    (case k9 => k_is)
    (case a10 => k_is)
    (case l10 => k_is)
    (case e10 => k_is)
    (case k10 => k_is)
    (case a11 => k_is)
    (case l11 => k_is)
    (case e11 => k_is)
    (case k11 => k_is)
    (case a12 => k_is)
    (case l12 => k_is)
    (case e12 => k_is)
    (case k12 => k_is)
    (case a13 => k_is)
    (case l13 => k_is)
    (case e13 => k_is)
    (case k13 => k_is)
    (case a14 => k_is)
    (case l14 => k_is)
    (case e14 => k_is)
    (case k14 => k_is)
    (case a15 => k_is)
    (case l15 => k_is)
    (case e15 => k_is)
    (case k15 => k_is)
    (case a16 => k_is)
    (case l16 => k_is)
    (case e16 => k_is)
    (case k16 => k_is)
    (case a17 => k_is)
    (case l17 => k_is)
    (case e17 => k_is)
    (case k17 => k_is)
    (case a18 => k_is)
    (case l18 => k_is)
    (case e18 => k_is)
    (case k18 => k_is)
    (case a19 => k_is)
    (case l19 => k_is)
    (case e19 => k_is)
    (case k19 => k_is)
    (case a20 => k_is)
    (case l20 => k_is)
    (case e20 => k_is)
    (case k20 => k_is)
    (case a21 => k_is)
    (case l21 => k_is)
    (case e21 => k_is)
    (case k21 => k_is)
    (case a22 => k_is)
    (case l22 => k_is)
    (case e22 => k_is)
    (case k22 => k_is)
    (case a23 => k_is)
    (case l23 => k_is)
    (case e23 => k_is)
    (case k23 => k_is)
    (case ag_MOST_RODS => k_is)
    (case ag_MOST_JOINTS => k_is)
    (case y_abs => k_is)
    (case y_len => k_is)
    (case y_isinstance => k_is)
    (case y_bool => k_is)
    (case y_int => k_is)
    (case y_tuple => k_is)
    (case y_all => k_is)
    (case y_zip => k_is)
    (case y_range => k_is)
    (case y_sorted => k_is)
    (case y_set => k_is)
    (case y_list => k_is)
    (case y_str => k_is)
