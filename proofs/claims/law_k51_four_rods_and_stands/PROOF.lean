import PyProof.Rows.All
import Wide.All
import OpenK.AllK
import Wide.FinOn
import Lean
import PyProof.EqAt
import PyProof.EqKinds
import PyProof.TupleCall
import PySem.Challenge.RW_hingedraw_k51_four_rods_and_stands
set_option Elab.async false
set_option linter.all false
set_option maxRecDepth 100000
set_option Elab.async false
set_option linter.all false
set_option maxRecDepth 100000
namespace L2
open PySem PySem.Spec PyProof.Rows
abbrev Key := Sum Int Str
def keyIs : Key → Value → Bool
  | .inl k, v => Value.isInt k v
  | .inr x, v => Value.isStrOf x v
def keyH (w : World) : Key → Int
  | .inl k => hashInt k
  | .inr x => hashStr w x
theorem keyIs_shape : ∀ {k : Key} {v : Value}, keyIs k v = true → (∃ i t, k = Sum.inl i ∧ v = Value.int i t) ∨ (∃ x t, k = Sum.inr x ∧ v = Value.str x t)
  | .inl i, v, h => by
    obtain ⟨t, e⟩ := Value.isInt_shape (k := i) (v := v) h
    exact .inl ⟨i, t, rfl, e⟩
  | .inr x, v, h => by
    obtain ⟨t, e⟩ := Value.isStrOf_shape (x := x) (v := v) h
    exact .inr ⟨x, t, rfl, e⟩
theorem key_ll (a b : Int) : decide ((Sum.inl a : Key) = Sum.inl b) = (a == b) := by
  by_cases e : a = b
  · subst e; simp
  · have h : ¬ (Sum.inl a : Key) = Sum.inl b := fun q => e (Sum.inl.inj q)
    rw [decide_eq_false h]
    exact (beq_eq_false_iff_ne.mpr e).symm
theorem key_rr (a b : Str) : decide ((Sum.inr a : Key) = Sum.inr b) = decide (a = b) := by
  by_cases e : a = b
  · subst e; simp
  · have h : ¬ (Sum.inr a : Key) = Sum.inr b := fun q => e (Sum.inr.inj q)
    rw [decide_eq_false h, decide_eq_false e]
theorem key_lr (a : Int) (b : Str) : decide ((Sum.inl a : Key) = Sum.inr b) = false := decide_eq_false (fun q => nomatch q)
theorem key_rl (a : Str) (b : Int) : decide ((Sum.inr a : Key) = Sum.inl b) = false := decide_eq_false (fun q => nomatch q)
def mixKind (prog : Program) (w : World) : PySem.KeyKind prog w Key where
  is := keyIs
  hash := keyH w
  inj := fun v a b ha hb => by
    rcases keyIs_shape ha with ⟨i, t, rfl, rfl⟩ | ⟨x, t, rfl, rfl⟩
    · rcases keyIs_shape hb with ⟨j, u, rfl, e⟩ | ⟨y, u, rfl, e⟩
      · injection e with e1 _; rw [e1]
      · exact nomatch e
    · rcases keyIs_shape hb with ⟨j, u, rfl, e⟩ | ⟨y, u, rfl, e⟩
      · exact nomatch e
      · injection e with e1 _; rw [e1]
  byValue := fun k v h => by
    rcases keyIs_shape h with ⟨i, t, rfl, rfl⟩ | ⟨x, t, rfl, rfl⟩ <;> rfl
  pyHash := fun hv h => by
    rcases keyIs_shape hv with ⟨i, t, rfl, rfl⟩ | ⟨x, t, rfl, rfl⟩
    · exact wpAny_pyHash_int h
    · exact wpAny_pyHash_str h
  eqBool := fun hu hv h => by
    rcases keyIs_shape hu with ⟨i, t, rfl, rfl⟩ | ⟨x, t, rfl, rfl⟩
    · rcases keyIs_shape hv with ⟨j, u, rfl, rfl⟩ | ⟨y, u, rfl, rfl⟩
      · rw [key_ll] at h; exact wpAny_eqBool_int h
      · rw [key_lr] at h; exact SeqAt.EqAt.int_str i t y u _ _ _ _ h
    · rcases keyIs_shape hv with ⟨j, u, rfl, rfl⟩ | ⟨y, u, rfl, rfl⟩
      · rw [key_rl] at h; exact SeqAt.EqAt.str_int x t j u _ _ _ _ h
      · rw [key_rr] at h; exact wpAny_eqBool_str h
  «strs» := fun k x t v h => by
    rcases keyIs_shape h with ⟨i, u, rfl, e⟩ | ⟨y, u, rfl, e⟩
    · exact nomatch e
    · injection e with e1 _
      subst e1
      cases v <;> rfl
end L2
namespace L2
open PySem PySem.Spec PyProof.Rows
inductive V where
  | non | bl (b : Bool) | int (i : Int) | str (x : Str) | byt (b : Array UInt8) | flt (b : UInt64) | ref (a : Addr) | ty (n : String)
  deriving DecidableEq
def RelV : V → Value → Prop
  | .non, u => u = Value.none
  | .bl b, u => u = Value.bool b
  | .int i, u => ∃ t, u = Value.int i t
  | .str x, u => ∃ t, u = Value.str x t
  | .byt b, u => ∃ t, u = Value.bytes b t
  | .flt b, u => ∃ t, u = Value.float b t
  | .ref a, u => u = Value.ref a
  | .ty n, u => u = Value.type n
abbrev Vals : List V → List Value → Prop := Paired RelV
theorem Vals.length {xs : List V} {us : List Value} (r : Vals xs us) : xs.length = us.length := Paired.length r
theorem Vals.get : ∀ {xs : List V} {us : List Value} {i : Nat} {x : V}, Vals xs us → xs[i]? = some x → ∃ u, us[i]? = some u ∧ RelV x u
  | _, _, _, _, .nil, e => by simp at e
  | _, _, 0, _, .cons r _, e => by simp at e; subst e; exact ⟨_, rfl, r⟩
  | _, _, i + 1, x, .cons _ t, e => by
    obtain ⟨u, h1, h2⟩ := Vals.get (i := i) (x := x) t (by simpa using e)
    exact ⟨u, by simpa using h1, h2⟩
theorem Vals.set {x : V} {u : Value} (r : RelV x u) : ∀ {xs : List V} {us : List Value} (i : Nat), Vals xs us → Vals (xs.set i x) (us.set i u)
  | _, _, _, .nil => .nil
  | _, _, 0, .cons _ t => .cons r t
  | _, _, i + 1, .cons q t => .cons q (Vals.set r i t)
theorem Vals.append : ∀ {xs ys : List V} {us ws : List Value}, Vals xs us → Vals ys ws → Vals (xs ++ ys) (us ++ ws)
  | _, _, _, _, .nil, s => s
  | _, _, _, _, .cons r t, s => .cons r (Vals.append t s)
theorem Vals.take : ∀ {xs : List V} {us : List Value} (n : Nat), Vals xs us → Vals (xs.take n) (us.take n)
  | _, _, 0, _ => .nil
  | _, _, _ + 1, .nil => .nil
  | _, _, n + 1, .cons r t => .cons r (Vals.take n t)
theorem Vals.drop : ∀ {xs : List V} {us : List Value} (n : Nat), Vals xs us → Vals (xs.drop n) (us.drop n)
  | _, _, 0, r => r
  | _, _, _ + 1, .nil => .nil
  | _, _, n + 1, .cons _ t => Vals.drop n t
def RelO : Option V → Option Value → Prop
  | some v, some u => RelV v u
  | none, none => True
  | _, _ => False
def KV {κ : Type} : List (κ × V) → List (κ × Value) → Prop := Paired fun (p : κ × V) (q : κ × Value) => p.1 = q.1 ∧ RelV p.2 q.2
def kV : Key → V
  | .inl i => .int i
  | .inr x => .str x
inductive HO where
  | lst (xs : List V)
  | tup (xs : List V)
  | dK (kvs : List (Key × V)) | dT (kvs : List (List Key × V))
  | set (S : Int → Bool) (n : Nat)
  | ins (C dx : Addr) (fs : List (Str × V))
  | own (x : Addr)
  | xd (fs : List (Str × V))
  | met (f x : Addr)
  | rng (lo hi : Int)
  | frz (o : Obj) (u : HO)
  | tbl (ps : Array Value)
  | ext (φ : Heap → Prop)
abbrev Hp := Addr → Option HO
def upd (H : Hp) (a : Addr) (o : HO) : Hp := fun b => if b = a then some o else H b
theorem upd_same {H : Hp} {a : Addr} {o : HO} : upd H a o a = some o := by unfold upd; rw [if_pos rfl]
theorem upd_ne {H : Hp} {a b : Addr} {o : HO} (h : b ≠ a) : upd H a o b = H b := by unfold upd; rw [if_neg h]
theorem ne_of_none {H : Hp} {a b : Addr} {o : HO} (h : H a = some o) (h' : H b = none) : a ≠ b := by
  intro e; subst e; rw [h] at h'; cases h'
section
variable (P : Program) (w : World)
def ObjOk (H : Hp) (h : Heap) (a : Addr) : HO → Prop
  | .lst xs => xs.length ≤ sizeLine ∧ ∃ (its : List Value) (n : Nat), Vals xs its ∧ h.get? a = some { cls := .type "list", data := .seq its.toArray n }
  | .tup xs => xs.length ≤ sizeLine ∧ ∃ its : List Value, Vals xs its ∧ IsTup h a its.toArray
  | .dK kvs => kvs.length ≤ sizeLine ∧ (a == sysModules) = false ∧ ∃ vs, KV kvs vs ∧ h.DictOf (mixKind P w) a vs
  | .dT kvs => kvs.length ≤ sizeLine ∧ (a == sysModules) = false ∧ ∃ xs : List (List Key × Addr × Value),
      Paired (fun (p : List Key × V) (q : List Key × Addr × Value) => p.1 = q.1 ∧ H q.2.1 = some (.tup (p.1.map kV)) ∧ RelV p.2 q.2.2) kvs xs ∧
      ∃ o es ep, h.get? a = some o ∧ o.ExactDict ∧ o.data = .dict es ep ∧ es.toList = xs.map (entryOfKey (tupleKind (mixKind P w))) ∧ (xs.map (·.1)).Nodup
  | .set S n => h.SetOf (intKind P w) a S n
  | .ins C dx fs => H dx = some (.own a) ∧ fs.length ≤ 1000 ∧ dx ≠ a ∧ h.get? a = some (PySem.W.instObj C dx) ∧
      ∃ mA, h.Ns1 dx mA ∧ (∀ f, RelO (fs.lookup f) (mA f)) ∧ PySem.Within mA (fs.map (·.1))
  | .own _ => ∃ o, h.get? a = some o
  | .xd fs => ∃ mA, h.Ns1 a mA ∧ ∀ f, RelO (fs.lookup f) (mA f)
  | .rng lo hi => ∃ t u v, h.get? a = some { cls := .type "range", data := .fields #[.int lo t, .int hi u, .int 1 v] }
  | .frz o u => h.get? a = some o ∧ ObjOk H h a u
  | .tbl ps => h.get? a = some { cls := .none, data := .fields ps }
  | .met f x => h.get? a = some (PySem.W.methodObj (.ref f) (.ref x))
  | .ext φ => φ h ∧ (∃ o, h.get? a = some o) ∧ ∀ h1 h2 : Heap, φ h1 → (∀ o, h1.get? a = some o → h2.get? a = some o) → φ h2
def HOk (H : Hp) (h : Heap) : Prop := ∀ a o, H a = some o → ObjOk P w H h a o
end
section
variable {P : Program} {w : World} {H H' : Hp} {h h' : Heap} {a : Addr} {o : HO}
theorem ObjOk.lt (x : ObjOk P w H h a o) : a < h.objs.size := by
  cases o with
  | lst xs => obtain ⟨_, _, _, _, e⟩ := x; exact Heap.lt_size e
  | tup xs => obtain ⟨_, _, _, p⟩ := x; exact p.lt
  | dK kvs => obtain ⟨_, _, _, _, o, _, _, e, _⟩ := x; exact Heap.lt_size e
  | dT kvs => obtain ⟨_, _, _, _, o, _, _, e, _⟩ := x; exact Heap.lt_size e
  | set S n => obtain ⟨o, _, _, _, e, _⟩ := x; exact Heap.lt_size e
  | ins C dx fs => obtain ⟨_, _, _, e, _⟩ := x; exact Heap.lt_size e
  | own y => obtain ⟨_, e⟩ := x; exact Heap.lt_size e
  | xd fs => obtain ⟨_, ⟨_, _, _, e, _⟩, _⟩ := x; exact Heap.lt_size e
  | rng lo hi => obtain ⟨_, _, _, e⟩ := x; exact Heap.lt_size e
  | frz ob u => obtain ⟨e, _⟩ := x; exact Heap.lt_size e
  | tbl ps => exact Heap.lt_size (show h.get? a = some _ from x)
  | met f y => exact Heap.lt_size (show h.get? a = some _ from x)
  | ext φ => obtain ⟨_, ⟨_, e⟩, _⟩ := x; exact Heap.lt_size e
theorem Paired.mapP {α β : Type} {F G : α → β → Prop} : ∀ {l₁ : List α} {l₂ : List β}, Paired F l₁ l₂ → (∀ a b, F a b → G a b) → Paired G l₁ l₂
  | _, _, .nil, _ => .nil
  | _, _, .cons r t, f => .cons (f _ _ r) (Paired.mapP t f)
theorem ObjOk.stay (x : ObjOk P w H h a o) (k : ∀ b u, (b = a ∨ H b = some (.own a)) → h.get? b = some u → h'.get? b = some u)
    (ho : ∀ b, H b = some (.own a) → H' b = some (.own a)) (ht : ∀ b xs, H b = some (.tup xs) → H' b = some (.tup xs)) : ObjOk P w H' h' a o := by
  induction o with
  | lst xs => obtain ⟨z, its, n, r, e⟩ := x; exact ⟨z, its, n, r, k _ _ (.inl rfl) e⟩
  | tup xs => obtain ⟨z, its, r, ob, e, c⟩ := x; exact ⟨z, its, r, ob, k _ _ (.inl rfl) e, c⟩
  | dK kvs => obtain ⟨z, y, vs, r, ob, es, ep, e, c⟩ := x; exact ⟨z, y, vs, r, ob, es, ep, k _ _ (.inl rfl) e, c⟩
  | dT kvs =>
    obtain ⟨z, y, xs, r, ob, es, ep, e, c⟩ := x
    exact ⟨z, y, xs, Paired.mapP r fun p q z => ⟨z.1, ht _ _ z.2.1, z.2.2⟩, ob, es, ep, k _ _ (.inl rfl) e, c⟩
  | set S n => obtain ⟨ob, es, ep, t, e, c⟩ := x; exact ⟨ob, es, ep, t, k _ _ (.inl rfl) e, c⟩
  | ins C dx fs =>
    obtain ⟨d, z, ne, e, mA, ⟨od, es, ep, e2, c⟩, r⟩ := x
    exact ⟨ho _ d, z, ne, k _ _ (.inl rfl) e, mA, ⟨od, es, ep, k _ _ (.inr d) e2, c⟩, r⟩
  | own y => obtain ⟨ob, e⟩ := x; exact ⟨ob, k _ _ (.inl rfl) e⟩
  | xd fs => obtain ⟨mA, ⟨od, es, ep, e, c⟩, r⟩ := x; exact ⟨mA, ⟨od, es, ep, k _ _ (.inl rfl) e, c⟩, r⟩
  | rng lo hi => obtain ⟨t, u, v, e⟩ := x; exact ⟨t, u, v, k _ _ (.inl rfl) e⟩
  | frz ob u ih => obtain ⟨e, q⟩ := x; exact ⟨k _ _ (.inl rfl) e, ih q⟩
  | tbl ps =>
    have e : h.get? a = some { cls := .none, data := .fields ps } := x
    show h'.get? a = some { cls := .none, data := .fields ps }
    exact k a _ (.inl rfl) e
  | met f y =>
    have e : h.get? a = some (PySem.W.methodObj (.ref f) (.ref y)) := x
    show h'.get? a = some (PySem.W.methodObj (.ref f) (.ref y))
    exact k a _ (.inl rfl) e
  | ext φ => obtain ⟨p, ⟨o, e⟩, st⟩ := x; exact ⟨st _ _ p fun o q => k _ _ (.inl rfl) q, ⟨o, k _ _ (.inl rfl) e⟩, st⟩
theorem HOk.lt (x : HOk P w H h) (e : H a = some o) : a < h.objs.size := (x a o e).lt
theorem HOk.fresh (x : HOk P w H h) (e : h.objs.size ≤ a) : H a = none := by
  cases q : H a with
  | none => rfl
  | some u => exact absurd (Nat.lt_of_lt_of_le (x.lt q) e) (Nat.lt_irrefl _)
theorem HOk.kept (x : HOk P w H h) (k : ∀ b u, h.get? b = some u → h'.get? b = some u) : HOk P w H h' := fun a o e =>
  (x a o e).stay (fun b u _ q => k b u q) (fun _ q => q) fun _ _ q => q
theorem HOk.laid (x : HOk P w H h) (k : ∀ b u, h.get? b = some u → h'.get? b = some u) (hp : h.objs.size ≤ a) (new : ObjOk P w (upd H a o) h' a o) : HOk P w (upd H a o) h' := fun b u e => by
  have hn := x.fresh hp
  by_cases hb : b = a
  · subst hb; rw [upd_same] at e; cases e; exact new
  · rw [upd_ne hb] at e
    exact (x b u e).stay (fun c v _ q => k c v q) (fun c q => by rw [upd_ne (ne_of_none q hn)]; exact q) fun c xs q => by rw [upd_ne (ne_of_none q hn)]; exact q
end
def Rd (H : Hp) (a : Addr) (u : HO) : Prop := H a = some u ∨ ∃ o, H a = some (.frz o u)
theorem Rd.ok {P : Program} {w : World} {H : Hp} {h : Heap} {a : Addr} {u : HO} (r : Rd H a u) (x : HOk P w H h) : ObjOk P w H h a u := by
  rcases r with r | ⟨o, r⟩
  · exact x a u r
  · obtain ⟨_, q⟩ := x a _ r
    exact q
def Mut : Option HO → Prop
  | some (.lst _) => True
  | some (.dK _) => True
  | some (.dT _) => True
  | some (.set _ _) => True
  | some (.ins _ _ _) => True
  | some (.ext _) => True
  | _ => False
section
variable {P : Program} {w : World} {H : Hp} {h h' : Heap} {x e : Addr} {o' : HO}
theorem HOk.write (ok : HOk P w H h) (mu : Mut (H x)) (he : e = x ∨ H e = some (.own x)) (k : ∀ b u, b ≠ e → h.get? b = some u → h'.get? b = some u) (heo : ∃ u, h'.get? e = some u)
    (new : ObjOk P w (upd H x o') h' x o') : HOk P w (upd H x o') h' := fun b u q => by
  have nown : ∀ c y, H c = some (.own y) → c ≠ x := fun c y r z => by subst z; rw [r] at mu; exact mu
  have ntup : ∀ c xs, H c = some (.tup xs) → c ≠ x := fun c xs r z => by subst z; rw [r] at mu; exact mu
  by_cases hb : b = x
  · subst hb; rw [upd_same] at q; cases q; exact new
  · rw [upd_ne hb] at q
    by_cases hbe : b = e
    · have q' : H b = some (.own x) := by
        rcases he with z | z
        · exact absurd (hbe.trans z) hb
        · rw [hbe]; exact z
      rw [q] at q'; cases q'
      obtain ⟨v, hv⟩ := heo
      exact ⟨v, by rw [hbe]; exact hv⟩
    · refine (ok b u q).stay (fun c v hc r => k c v ?_ r) (fun c r => by rw [upd_ne (nown c b r)]; exact r) fun c xs r => by rw [upd_ne (ntup c xs r)]; exact r
      rcases hc with rfl | hc
      · exact hbe
      · rintro rfl
        rcases he with z | z
        · exact nown c b hc z
        · rw [hc] at z; cases z; exact hb rfl
end
structure Un (fs ex : List Addr) (H H' : Hp) (h h' : Heap) : Prop where
  keep : ∀ b o, h.get? b = some o → H b = none → b ∉ fs → b ∉ ex → h'.get? b = some o
  slot : ∀ b o, h.get? b = some o → H b = none → b ∈ fs → b ∉ ex → ∃ sl, h'.get? b = some { o with slots := sl }
  free : ∀ b o, h.get? b = some o → H b = none → b ∉ ex → H' b = none
  there : ∀ b o, h.get? b = some o → b ∉ ex → ∃ o', h'.get? b = some o'
  tups : ∀ b xs, H b = some (.tup xs) → H' b = some (.tup xs)
  frzs : ∀ b o u, H b = some (.frz o u) → H' b = some (.frz o u)
  tbls : ∀ b ps, H b = some (.tbl ps) → ∃ more, H' b = some (.tbl (ps ++ more))
section
variable {fs fs' ex ex' : List Addr} {H H1 H2 : Hp} {h h1 h2 h' : Heap} {a x e : Addr} {o : HO}
theorem Un.any (u : Un fs ex H H1 h h1) {b : Addr} {ob : Obj} (q : h.get? b = some ob) (n : H b = none) (hx : b ∉ ex) : ∃ sl, h1.get? b = some { ob with slots := sl } := by
  by_cases hb : b ∈ fs
  · exact u.slot b ob q n hb hx
  · exact ⟨ob.slots, u.keep b ob q n hb hx⟩
theorem Un.trans (a : Un fs ex H H1 h h1) (b : Un fs ex H1 H2 h1 h2) : Un fs ex H H2 h h2 where
  keep := fun c ob q n hc hx => b.keep c ob (a.keep c ob q n hc hx) (a.free c ob q n hx) hc hx
  slot := fun c ob q n hc hx => by
    obtain ⟨sl, e1⟩ := a.slot c ob q n hc hx
    obtain ⟨sl', e2⟩ := b.slot c _ e1 (a.free c ob q n hx) hc hx
    exact ⟨sl', e2⟩
  free := fun c ob q n hx => by
    obtain ⟨o', e1⟩ := a.there c ob q hx
    exact b.free c o' e1 (a.free c ob q n hx) hx
  there := fun c ob q hx => by
    obtain ⟨o', e1⟩ := a.there c ob q hx
    exact b.there c o' e1 hx
  tups := fun c xs q => b.tups c xs (a.tups c xs q)
  frzs := fun c ob xs q => b.frzs c ob xs (a.frzs c ob xs q)
  tbls := fun c ps q => by
    obtain ⟨m1, e1⟩ := a.tbls c ps q
    obtain ⟨m2, e2⟩ := b.tbls c _ e1
    exact ⟨m1 ++ m2, by rw [e2, Array.append_assoc]⟩
theorem Un.kept (k : ∀ b u, h.get? b = some u → h'.get? b = some u) : Un fs ex H H h h' :=
  ⟨fun b ob q _ _ _ => k b ob q, fun b ob q _ _ _ => ⟨ob.slots, k b ob q⟩, fun _ _ _ n _ => n, fun b ob q _ => ⟨ob, k b ob q⟩, fun _ _ q => q, fun _ _ _ q => q, fun _ ps q => ⟨#[], by rw [q]; simp⟩⟩
theorem Un.refl : Un fs ex H H h h := Un.kept fun _ _ q => q
theorem Un.laid (k : ∀ b u, h.get? b = some u → h'.get? b = some u) (hp : h.objs.size ≤ a) (hn : H a = none) : Un fs ex H (upd H a o) h h' where
  keep := fun b u q _ _ _ => k b u q
  slot := fun b u q _ _ _ => ⟨u.slots, k b u q⟩
  free := fun b u q n _ => by rw [upd_ne (Nat.ne_of_lt (Nat.lt_of_lt_of_le (Heap.lt_size q) hp))]; exact n
  there := fun b u q _ => ⟨u, k b u q⟩
  tups := fun b xs q => by rw [upd_ne (ne_of_none q hn)]; exact q
  frzs := fun b u xs q => by rw [upd_ne (ne_of_none q hn)]; exact q
  tbls := fun b ps q => ⟨#[], by rw [upd_ne (ne_of_none q hn), q]; simp⟩
theorem Un.write (mu : Mut (H x)) (he : e = x ∨ H e = some (.own x)) (k : ∀ b u, b ≠ e → h.get? b = some u → h'.get? b = some u) (heo : ∃ u, h'.get? e = some u) : Un fs ex H (upd H x o) h h' := by
  have hx : ∀ b, H b = none → b ≠ x := fun b n z => by subst z; rw [n] at mu; exact mu
  have hb : ∀ b, H b = none → b ≠ e := fun b n z => by
    subst z
    rcases he with r | r
    · exact hx b n r
    · rw [n] at r; cases r
  have hm : ∀ b u, H b = some u → ¬ Mut (some u) → b ≠ x := fun b u q nm z => by subst z; rw [q] at mu; exact nm mu
  refine ⟨fun b u q n _ _ => k b u (hb b n) q, fun b u q n _ _ => ⟨u.slots, k b u (hb b n) q⟩, fun b u q n _ => by rw [upd_ne (hx b n)]; exact n, fun b u q _ => ?_,
    fun b xs q => by rw [upd_ne (hm b _ q fun z => z)]; exact q, fun b u xs q => by rw [upd_ne (hm b _ q fun z => z)]; exact q, fun b ps q => ⟨#[], by rw [upd_ne (hm b _ q fun z => z), q]; simp⟩⟩
  by_cases hbe : b = e
  · subst hbe; exact heo
  · exact ⟨u, k b u hbe q⟩
end
def trk (h : Heap) (H : Hp) : List Addr := (List.range h.objs.size).filter fun a => (H a).isSome
def hidT (h : Heap) (H : Hp) : Heap := PySem.W.hideAll h (trk h H)
theorem hidT_size (h : Heap) (H : Hp) : (hidT h H).objs.size = h.objs.size := PySem.W.hideAll_size _ _
theorem hidT_get {h : Heap} {H : Hp} {b : Addr} {o : Obj} (e : h.get? b = some o) (n : H b = none) : (hidT h H).get? b = some o :=
  PySem.W.hideAll_get _ e fun hm => by
    have q : (H b).isSome = true := (List.mem_filter.mp hm).2
    rw [n] at q; simp at q
theorem of_hidT {h : Heap} {H : Hp} {b : Addr} {o : Obj} (e : (hidT h H).get? b = some o) : h.get? b = some o ∧ H b = none := by
  have e' : h.get? b = some o := PySem.W.of_hideAll (trk h H) e
  refine ⟨e', ?_⟩
  cases q : H b with
  | none => rfl
  | some x =>
    have hm : b ∈ trk h H := List.mem_filter.mpr ⟨List.mem_range.mpr (Heap.lt_size e'), by simp [q]⟩
    have z : (hidT h H).get? b = none := PySem.W.hideAll_none (trk h H) hm
    rw [z] at e; cases e
def allNews (g h : Heap) (L : Addr) : List (Addr × Obj) := (List.range h.objs.size).filterMap fun a => if a = L ∨ (g.get? a).isSome = true then none else (h.get? a).map fun o => (a, o)
def rest (g h : Heap) (L d : Addr) : List (Addr × Obj) := (allNews g h L).filter fun p => decide (p.1 ≠ d)
end L2
namespace L2
open PySem PySem.Spec PyProof.Rows
structure Mod (K : PySem.W.Frag) (mg : Str → Option Value) (base : Heap) : Prop where
  kin : K.In base
  glob : base.Ns mainGlobals mg
  blt : ∃ mb, base.Ns builtinsNs mb ∧ ∀ x : Str, x ≠ "__name__" → mb x = bootBuiltins x
  nolimit : base.NoLimit
structure Cx where
  prog : Program
  w : World
  K : PySem.W.Frag
  mg : Str → Option Value
  base : Heap
  A : Around
  N : List Str
  s₀ : Shared
  H₀ : Hp
  env : Env
  outer : List Env
  stack : List Env
  ex : List Addr
  fn : Str → Bool
  calm : Bool
  pn : List (Addr × Obj)
  xe : Value → Shared → Prop
def frs (l : List Env) : List Addr := l.filterMap (·.frame)
abbrev Cx.fs (X : Cx) : List Addr := frs X.outer
def Vis (sc : Scope) (x : Str) : Prop := sc.names.lookup x = some .local ∨ sc.names.lookup x = some .cell ∨ sc.names.lookup x = some .free
def Loc (sc : Scope) (x : Str) : Prop := sc.names.lookup x = some .local ∨ sc.names.lookup x = some .cell
def Look (env : Env) (h : Heap) (m : Str → Option Value) (x : Str) (u : Value) : Prop :=
  (env.kindOf x = some .local ∧ m x = some u) ∨ ((env.kindOf x = some .cell ∨ env.kindOf x = some .free) ∧ ∃ c, env.cells.lookup x = some c ∧ h.IsCell c (some u))
structure Cx.Ok (X : Cx) : Prop where
  mod : Mod X.K X.mg X.base
  kind : X.env.scope.kind = .function
  glob : X.env.globals = mainGlobals
  blt : X.env.builtins = builtinsNs
  above : X.s₀.heap.objs.size ≤ X.env.locals
  inj : ∀ x y c, X.env.cells.lookup x = some c → X.env.cells.lookup y = some c → x = y
  has : ∀ x, (X.env.kindOf x = some .cell ∨ X.env.kindOf x = some .free) → ∃ c, X.env.cells.lookup x = some c
  cab : ∀ x c, X.fn x = true → X.env.cells.lookup x = some c → X.s₀.heap.objs.size ≤ c
  hd : X.calm = true → X.A.handled = none
  frames : X.A.frames = some X.stack
  stk : X.stack = X.outer ∨ (X.stack = X.env :: X.outer ∧ X.env.frame = some X.env.locals)
  exf : ∀ b ∈ X.ex, b ≠ X.env.locals ∧ ∀ x c, X.env.cells.lookup x = some c → c ≠ b
  bs : ∀ b o, X.base.get? b = some o → X.s₀.heap.get? b = some o ∧ X.H₀ b = none
  bsz : X.base.objs.size ≤ X.s₀.heap.objs.size
  noex : ∀ b o, X.base.get? b = some o → b ∉ X.ex
  exfs : ∀ b ∈ X.ex, b ∉ X.fs
  funs : X.s₀.heap.FunFrames X.base X.outer
  frf : ∀ b ∈ X.fs, X.H₀ b = none
structure Inv (X : Cx) (pins : List (Addr × Obj)) (σ : List (Option V)) (H : Hp) (s : Shared) : Prop where
  ok : X.Ok
  os : s.os = X.s₀.os
  bare : AllBare s.gens
  base : Un X.fs X.ex X.H₀ H X.s₀.heap s.heap
  loc : ∃ m, s.heap.Ns X.env.locals m ∧ ∀ (i : Nat) (x : Str) (v : V), X.N[i]? = some x → σ[i]? = some (some v) → Vis X.env.scope x → ∃ u, RelV v u ∧ Look X.env s.heap m x u
  cell : ∀ x c, X.env.cells.lookup x = some c → ∃ v, s.heap.IsCell c v
  free : H X.env.locals = none
  freeC : ∀ x c, X.env.cells.lookup x = some c → H c = none
  pin : ∀ p ∈ X.pn ++ pins, s.heap.get? p.1 = some p.2 ∧ H p.1 = none ∧ p.1 ≠ X.env.locals ∧ p.1 ∉ X.fs ∧ ∀ v, p.2.data ≠ .cell v
  hok : HOk X.prog X.w H s.heap
  len : σ.length = X.N.length
section
variable {X : Cx} {pins : List (Addr × Obj)} {σ : List (Option V)} {H H' : Hp} {s : Shared} {h' : Heap}
theorem Cx.Ok.nofr (ok : X.Ok) {b : Addr} {o : Obj} (e : X.base.get? b = some o) : b ∉ X.fs := fun hb => by
  have := (ok.funs.mem hb).1
  rw [e] at this; cases this
theorem Inv.bs (I : Inv X pins σ H s) : ∀ b o, X.base.get? b = some o → s.heap.get? b = some o ∧ H b = none := fun b o e =>
  ⟨I.base.keep b o (I.ok.bs b o e).1 (I.ok.bs b o e).2 (I.ok.nofr e) (I.ok.noex b o e), I.base.free b o (I.ok.bs b o e).1 (I.ok.bs b o e).2 (I.ok.noex b o e)⟩
theorem Inv.bk (I : Inv X pins σ H s) : ∀ b o, X.base.get? b = some o → s.heap.get? b = some o := fun b o e => (I.bs b o e).1
theorem Inv.mod (I : Inv X pins σ H s) : Mod X.K X.mg X.base := I.ok.mod
theorem Inv.kIn (I : Inv X pins σ H s) : X.K.In s.heap := I.ok.mod.kin.keeps I.bk
theorem Inv.nolimit (I : Inv X pins σ H s) : s.heap.NoLimit := I.ok.mod.nolimit.keeps I.bk
theorem Inv.lt (I : Inv X pins σ H s) : X.env.locals < s.heap.objs.size := let ⟨_, hn, _⟩ := I.loc; hn.lt
theorem Inv.sz (I : Inv X pins σ H s) : X.s₀.heap.objs.size ≤ s.heap.objs.size := Nat.le_trans I.ok.above (Nat.le_of_lt I.lt)
theorem Inv.nofs (I : Inv X pins σ H s) {a : Addr} (h : s.heap.objs.size ≤ a) : a ∉ X.fs := fun hb => by
  obtain ⟨_, o, ho, _⟩ := I.ok.funs.mem hb
  exact absurd (Nat.lt_of_lt_of_le (Heap.lt_size ho) (Nat.le_trans I.sz h)) (Nat.lt_irrefl _)
theorem Inv.cne (I : Inv X pins σ H s) : ∀ x c, X.env.cells.lookup x = some c → c ≠ X.env.locals := fun x c e z => by
  obtain ⟨v, o, ho, hd⟩ := I.cell x c e
  obtain ⟨m, ⟨o', es, ep, ho', hd', _⟩, _⟩ := I.loc
  rw [z, ho'] at ho; cases ho; rw [hd'] at hd; cases hd
theorem Inv.funs (I : Inv X pins σ H s) : s.heap.FunFrames X.base X.outer := by
  have all : ∀ (l : List Env), (∀ b ∈ frs l, b ∈ X.fs) → X.s₀.heap.FunFrames X.base l → s.heap.FunFrames X.base l := by
    intro l
    induction l with
    | nil => intro _ _; trivial
    | cons env r ih =>
      intro hs hl
      obtain ⟨hk, ⟨L, o, hf, hn, ho, hd⟩, hr⟩ := hl
      have hL : L ∈ X.fs := hs L (by unfold frs; rw [List.filterMap_cons, hf]; exact List.mem_cons_self)
      obtain ⟨sl, e⟩ := I.base.slot L o ho (I.ok.frf L hL) hL fun z => I.ok.exfs L z hL
      exact ⟨hk, ⟨L, _, hf, hn, e, hd⟩, ih (fun b hb => hs b (by unfold frs; rw [List.filterMap_cons, hf]; exact List.mem_cons_of_mem _ hb)) hr⟩
  exact all X.outer (fun _ hb => hb) I.ok.funs
theorem Inv.stack (I : Inv X pins σ H s) : s.heap.FunFrames X.base X.stack := by
  rcases I.ok.stk with e | ⟨e, hf⟩
  · rw [e]; exact I.funs
  · rw [e]
    obtain ⟨m, hn, _⟩ := I.loc
    refine .cons (by rw [I.ok.kind]; decide) hf hn ?_ I.funs
    exact Heap.get?_none_of_le (Nat.le_trans I.ok.bsz I.ok.above)
theorem Inv.stkSub (I : Inv X pins σ H s) : ∀ b ∈ frs X.stack, b ∈ X.env.locals :: X.fs := fun b hb => by
  rcases I.ok.stk with e | ⟨e, hf⟩
  · rw [e] at hb; exact List.mem_cons_of_mem _ hb
  · rw [e] at hb
    unfold frs at hb
    rw [List.filterMap_cons, hf] at hb
    exact hb
theorem Inv.stkFree (I : Inv X pins σ H s) : ∀ b ∈ frs X.stack, H b = none := fun b hb => by
  rcases List.mem_cons.mp (I.stkSub b hb) with e | hb
  · rw [e]; exact I.free
  · obtain ⟨_, o, ho, _⟩ := I.ok.funs.mem hb
    exact I.base.free b o ho (I.ok.frf b hb) fun z => I.ok.exfs b z hb
theorem Inv.step {g' : Array GenState} {t' : Nat} {d' : Drawn} {ch : List Addr} (I : Inv X pins σ H s)
    (hch : ∀ b ∈ ch, (b ∈ X.ex ∨ X.s₀.heap.objs.size ≤ b) ∧ b ≠ X.env.locals ∧ (∀ x c, X.env.cells.lookup x = some c → c ≠ b) ∧ ∀ p ∈ X.pn ++ pins, p.1 ≠ b)
    (keep : ∀ b o, b ≠ X.env.locals → b ∉ X.fs → b ∉ ch → s.heap.get? b = some o → H b = none → h'.get? b = some o)
    (slot : ∀ b o, b ≠ X.env.locals → b ∈ X.fs → b ∉ ch → s.heap.get? b = some o → H b = none → ∃ sl, h'.get? b = some { o with slots := sl }) (free : ∀ b o, b ∉ ch → s.heap.get? b = some o → H b = none → H' b = none)
    (there : ∀ b o, b ∉ ch → s.heap.get? b = some o → ∃ o', h'.get? b = some o')
    (tups : ∀ b xs, H b = some (.tup xs) → H' b = some (.tup xs)) (frzs : ∀ b o u, H b = some (.frz o u) → H' b = some (.frz o u)) (tbls : ∀ b ps, H b = some (.tbl ps) → ∃ more, H' b = some (.tbl (ps ++ more)))
    (ns : ∀ m, s.heap.Ns X.env.locals m → h'.Ns X.env.locals m) (hok : HOk X.prog X.w H' h') (hg : AllBare g') :
    Inv X pins σ H' { s with heap := h', gens := g', drawn := d', toks := t' } := by
  have neL : ∀ b o, X.s₀.heap.get? b = some o → b ≠ X.env.locals := fun b o e => Nat.ne_of_lt (Nat.lt_of_lt_of_le (Heap.lt_size e) I.ok.above)
  have neC : ∀ b o, X.s₀.heap.get? b = some o → b ∉ X.ex → b ∉ ch := fun b o e hx hb => by
    rcases (hch b hb).1 with z | z
    · exact hx z
    · exact absurd (Nat.lt_of_lt_of_le (Heap.lt_size e) z) (Nat.lt_irrefl _)
  have cellK : ∀ x c, X.env.cells.lookup x = some c → ∀ v, s.heap.IsCell c v → h'.IsCell c v := fun x c e v ⟨o, ho, hd⟩ => by
    have nch : c ∉ ch := fun z => (hch c z).2.2.1 x c e rfl
    by_cases hc : c ∈ X.fs
    · obtain ⟨sl, q⟩ := slot c o (I.cne x c e) hc nch ho (I.freeC x c e)
      exact ⟨_, q, hd⟩
    · exact ⟨o, keep c o (I.cne x c e) hc nch ho (I.freeC x c e), hd⟩
  refine ⟨I.ok, I.os, hg, ⟨fun b o e n hb hx => ?_, fun b o e n hb hx => ?_, fun b o e n hx => ?_, fun b o e hx => ?_, fun b xs e => tups b xs (I.base.tups b xs e), fun b o xs e => frzs b o xs (I.base.frzs b o xs e), fun b ps e => ?_⟩, ?_, fun x c e => ?_, ?_, fun x c e => ?_, fun p hp => ?_, hok, I.len⟩
  · exact keep b o (neL b o e) hb (neC b o e hx) (I.base.keep b o e n hb hx) (I.base.free b o e n hx)
  · obtain ⟨sl, e1⟩ := I.base.slot b o e n hb hx
    obtain ⟨sl', e2⟩ := slot b _ (neL b o e) hb (neC b o e hx) e1 (I.base.free b o e n hx)
    exact ⟨sl', e2⟩
  · obtain ⟨o', e1⟩ := I.base.there b o e hx
    exact free b o' (neC b o e hx) e1 (I.base.free b o e n hx)
  · obtain ⟨o', e1⟩ := I.base.there b o e hx
    exact there b o' (neC b o e hx) e1
  · obtain ⟨m1, e1⟩ := I.base.tbls b ps e
    obtain ⟨m2, e2⟩ := tbls b _ e1
    exact ⟨m1 ++ m2, by rw [e2, Array.append_assoc]⟩
  · obtain ⟨m, hn, hl⟩ := I.loc
    refine ⟨m, ns m hn, fun i x v e1 e2 e3 => ?_⟩
    obtain ⟨u, r, l⟩ := hl i x v e1 e2 e3
    refine ⟨u, r, ?_⟩
    rcases l with l | ⟨k, c, e, z⟩
    · exact .inl l
    · exact .inr ⟨k, c, e, cellK x c e _ z⟩
  · obtain ⟨v, z⟩ := I.cell x c e
    exact ⟨v, cellK x c e v z⟩
  · obtain ⟨m, ⟨o, _, _, ho, _⟩, _⟩ := I.loc
    exact free _ o (fun z => (hch _ z).2.1 rfl) ho I.free
  · obtain ⟨v, o, ho, hd⟩ := I.cell x c e
    exact free c o (fun z => (hch c z).2.2.1 x c e rfl) ho (I.freeC x c e)
  · obtain ⟨e, n, ne, nf, d⟩ := I.pin p hp
    have nch : p.1 ∉ ch := fun z => (hch p.1 z).2.2.2 p hp rfl
    exact ⟨keep p.1 p.2 ne nf nch e n, free p.1 p.2 nch e n, ne, nf, d⟩
theorem Inv.un {t' : Nat} (I : Inv X pins σ H s) (u : Un X.fs [] H H' s.heap h') (hok : HOk X.prog X.w H' h') : Inv X pins σ H' { s with heap := h', toks := t' } := by
  obtain ⟨m, ⟨o, es, ep, ho, r⟩, _⟩ := id I.loc
  obtain ⟨sl, hL⟩ := u.any ho I.free (by simp)
  exact I.step (g' := s.gens) (d' := s.drawn) (ch := []) (fun _ z => nomatch z) (fun b o _ hb _ e n => u.keep b o e n hb (by simp)) (fun b o _ hb _ e n => u.slot b o e n hb (by simp)) (fun b o _ e n => u.free b o e n (by simp)) (fun b o _ e => u.there b o e (by simp)) u.tups u.frzs u.tbls (fun m' hm => by
    obtain ⟨o', es', ep', ho', r'⟩ := hm
    rw [ho] at ho'; cases ho'
    exact ⟨_, es', ep', hL, r'⟩) hok I.bare
theorem Inv.call {g' : Array GenState} {t' : Nat} {d' : Drawn} {ch : List Addr} (I : Inv X pins σ H s) (u : Un (frs X.stack) ch H H' s.heap h') (hok : HOk X.prog X.w H' h') (hg : AllBare g')
    (hch : ∀ b ∈ ch, (b ∈ X.ex ∨ X.s₀.heap.objs.size ≤ b) ∧ b ≠ X.env.locals ∧ (∀ x c, X.env.cells.lookup x = some c → c ≠ b) ∧ ∀ p ∈ X.pn ++ pins, p.1 ≠ b) :
    Inv X pins σ H' { s with heap := h', gens := g', drawn := d', toks := t' } := by
  obtain ⟨m, ⟨o, es, ep, ho, r⟩, _⟩ := id I.loc
  obtain ⟨sl, hL⟩ := u.any ho I.free fun z => (hch _ z).2.1 rfl
  exact I.step (ch := ch) hch (fun b o hL hb hc e n => u.keep b o e n (fun z => (List.mem_cons.mp (I.stkSub b z)).elim hL hb) hc) (fun b o _ _ hc e n => u.any e n hc) (fun b o hc e n => u.free b o e n hc) (fun b o hc e => u.there b o e hc) u.tups u.frzs u.tbls (fun m' hm => by
    obtain ⟨o', es', ep', ho', r'⟩ := hm
    rw [ho] at ho'; cases ho'
    exact ⟨_, es', ep', hL, r'⟩) hok hg
theorem Inv.turned {t' : Nat} {it : Addr} (I : Inv X pins σ H s) (k : ∀ b o, b ≠ it → s.heap.get? b = some o → h'.get? b = some o) (hn : H it = none) (hL : it ≠ X.env.locals)
    (h1 : it ∈ X.ex ∨ X.s₀.heap.objs.size ≤ it) (h2 : ∀ x c, X.env.cells.lookup x = some c → c ≠ it) (h3 : ∀ p ∈ X.pn ++ pins, p.1 ≠ it) : Inv X pins σ H { s with heap := h', toks := t' } := by
  have nit : ∀ b u, H b = some u → b ≠ it := fun b u e z => by rw [z, hn] at e; cases e
  refine I.step (g' := s.gens) (d' := s.drawn) (ch := [it]) (fun b hb => ?_) (fun b o _ _ hc e _ => k b o (fun z => hc (by simp [z])) e) (fun b o _ _ hc e _ => ⟨o.slots, k b o (fun z => hc (by simp [z])) e⟩) (fun _ _ _ _ n => n)
    (fun b o hc e => ⟨o, k b o (fun z => hc (by simp [z])) e⟩) (fun _ _ e => e) (fun _ _ _ e => e) (fun b ps e => ⟨#[], by rw [e]; simp⟩) (fun m hm => ?_) (fun b u e => ?_) I.bare
  · have e : b = it := by simpa using hb
    subst e
    exact ⟨h1, hL, h2, h3⟩
  · obtain ⟨o, es, ep, ho, r⟩ := hm
    exact ⟨o, es, ep, k _ o (Ne.symm hL) ho, r⟩
  · refine (I.hok b u e).stay (fun c v hc q => k c v ?_ q) (fun _ q => q) fun _ _ q => q
    rcases hc with z | z
    · rw [z]; exact nit b u e
    · exact nit c _ z
theorem Inv.tok (I : Inv X pins σ H s) (t : Nat) : Inv X pins σ H { s with toks := t } := I.un (h' := s.heap) (t' := t) Un.refl I.hok
theorem Inv.kept {t' : Nat} (I : Inv X pins σ H s) (k : ∀ b u, s.heap.get? b = some u → h'.get? b = some u) : Inv X pins σ H { s with heap := h', toks := t' } := I.un (Un.kept k) (I.hok.kept k)
theorem Inv.laid {a : Addr} {o : HO} {t' : Nat} (I : Inv X pins σ H s) (k : ∀ b u, s.heap.get? b = some u → h'.get? b = some u) (hp : s.heap.objs.size ≤ a) (new : ObjOk X.prog X.w (upd H a o) h' a o) :
    Inv X pins σ (upd H a o) { s with heap := h', toks := t' } := I.un (Un.laid k hp (I.hok.fresh hp)) (I.hok.laid k hp new)
theorem Inv.write {x e : Addr} {o : HO} {t' : Nat} (I : Inv X pins σ H s) (mu : Mut (H x)) (he : e = x ∨ H e = some (.own x)) (k : ∀ b u, b ≠ e → s.heap.get? b = some u → h'.get? b = some u) (heo : ∃ u, h'.get? e = some u)
    (new : ObjOk X.prog X.w (upd H x o) h' x o) : Inv X pins σ (upd H x o) { s with heap := h', toks := t' } := I.un (Un.write mu he k heo) (I.hok.write mu he k heo new)
theorem Inv.pins_of {pins' : List (Addr × Obj)} (I : Inv X pins σ H s) (h : ∀ p ∈ pins', s.heap.get? p.1 = some p.2 ∧ H p.1 = none ∧ p.1 ≠ X.env.locals ∧ p.1 ∉ X.fs ∧ ∀ v, p.2.data ≠ .cell v) : Inv X pins' σ H s :=
  ⟨I.ok, I.os, I.bare, I.base, I.loc, I.cell, I.free, I.freeC, fun p hp => (List.mem_append.mp hp).elim (fun z => I.pin p (List.mem_append_left _ z)) (h p), I.hok, I.len⟩
theorem nodup_ix {N : List Str} (hN : N.Nodup) {i j : Nat} {x : Str} (a : N[i]? = some x) (b : N[j]? = some x) : i = j := by
  obtain ⟨h1, e1⟩ := List.getElem?_eq_some_iff.mp a
  obtain ⟨h2, e2⟩ := List.getElem?_eq_some_iff.mp b
  exact (List.getElem_inj hN).mp (e1.trans e2.symm)
theorem store_ok2 {M : Model} {A : Around} {E : Value → Shared → Prop} {i : Nat} {x : Str} {v : V} {u : Value} {Q : Unit → Shared → Prop} (I : Inv X pins σ H s) (hN : X.N.Nodup) (hi : X.N[i]? = some x) (hx : Loc X.env.scope x) (r : RelV v u)
    (h : ∀ s', Inv X pins (σ.set i (some v)) H s' → (∃ a, Heap.SameBut a s.heap s'.heap ∧ (a = X.env.locals ∨ X.env.cells.lookup x = some a)) → Q () s') (hf : X.fn x = true ∨ X.env.scope.names.lookup x = some .local := by first | exact .inl rfl | exact .inr rfl | assumption) : wpAny M A (storeName X.env x u) Q E s := by
  obtain ⟨m, hn, hl⟩ := id I.loc
  have hcls : (X.env.scope.kind == .class || (X.env.scope.kind == .module && X.env.locals != X.env.globals)) = false := by rw [I.ok.kind]; rfl
  have hiσ : i < σ.length := by rw [I.len]; exact (List.getElem?_eq_some_iff.mp hi).1
  have cne := I.cne
  have tracked : ∀ {a : Addr} {h' : Heap}, (∃ o, s.heap.get? a = some o ∧ H a = none) → Heap.SameBut a s.heap h' → HOk X.prog X.w H h' := fun {a h'} ha hs b ob e => by
    obtain ⟨_, _, hfree⟩ := ha
    refine (I.hok b ob e).stay (fun c w' hc q => (hs.2 c ?_).trans q) (fun _ q => q) fun _ _ q => q
    rintro rfl
    rcases hc with rfl | hc
    · rw [hfree] at e; cases e
    · rw [hfree] at hc; cases hc
  rcases hx with hk | hk
  · refine wpAny_storeName_local hk hn (fun h' hn' hs => ?_) hcls
    obtain ⟨oL, _, _, hoL, _⟩ := id hn
    refine h _ ⟨I.ok, I.os, I.bare, ⟨fun b o e n hb hx => ?_, fun b o e n hb hx => ?_, I.base.free, fun b o e hx => ?_, I.base.tups, I.base.frzs, I.base.tbls⟩, ⟨_, hn', fun j y v' e1 e2 e3 => ?_⟩, fun y c e => ?_, I.free, I.freeC, fun p hp => ?_, tracked ⟨oL, hoL, I.free⟩ hs, by simpa using I.len⟩ ⟨_, hs, .inl rfl⟩
    · exact (hs.2 b (Nat.ne_of_lt (Nat.lt_of_lt_of_le (Heap.lt_size e) I.ok.above))).trans (I.base.keep b o e n hb hx)
    · obtain ⟨sl, e1⟩ := I.base.slot b o e n hb hx
      exact ⟨sl, (hs.2 b (Nat.ne_of_lt (Nat.lt_of_lt_of_le (Heap.lt_size e) I.ok.above))).trans e1⟩
    · obtain ⟨o', e1⟩ := I.base.there b o e hx
      exact ⟨o', (hs.2 b (Nat.ne_of_lt (Nat.lt_of_lt_of_le (Heap.lt_size e) I.ok.above))).trans e1⟩
    · by_cases hj : j = i
      · subst hj
        rw [hi] at e1; cases e1
        rw [List.getElem?_set_self hiσ] at e2
        cases e2
        exact ⟨u, r, .inl ⟨hk, by simp⟩⟩
      · rw [List.getElem?_set_ne (Ne.symm hj)] at e2
        obtain ⟨u', r', q⟩ := hl j y v' e1 e2 e3
        refine ⟨u', r', ?_⟩
        rcases q with ⟨k, e⟩ | ⟨k, c, e, z⟩
        · refine .inl ⟨k, ?_⟩
          have : y ≠ x := fun e => hj (nodup_ix hN e1 (e ▸ hi))
          simp [this, e]
        · exact .inr ⟨k, c, e, z.sameBut hs (cne y c e)⟩
    · obtain ⟨w', z⟩ := I.cell y c e
      exact ⟨w', z.sameBut hs (cne y c e)⟩
    · obtain ⟨e, n, ne, nf, d⟩ := I.pin p hp
      exact ⟨(hs.2 p.1 ne).trans e, n, ne, nf, d⟩
  · have hfn : X.fn x = true := by
      rcases hf with z | z
      · exact z
      · rw [z] at hk; cases hk
    obtain ⟨c, hc⟩ := I.ok.has x (.inl hk)
    obtain ⟨w', z⟩ := I.cell x c hc
    refine wpAny_storeName_cell I.ok.kind hk hc z (fun h' hc' hs => ?_)
    obtain ⟨oc, hoc, hocd⟩ := id z
    refine h { s with heap := h' } ⟨I.ok, I.os, I.bare, ⟨fun b o e n hb hx => ?_, fun b o e n hb hx => ?_, I.base.free, fun b o e hx => ?_, I.base.tups, I.base.frzs, I.base.tbls⟩, ⟨m, hn.sameBut hs (Ne.symm (cne x c hc)), fun j y v' e1 e2 e3 => ?_⟩, fun y c' e => ?_, I.free, I.freeC, fun p hp => ?_, tracked ⟨oc, hoc, I.freeC x c hc⟩ hs, by simpa using I.len⟩ ⟨c, hs, .inr hc⟩
    · exact (hs.2 b (Nat.ne_of_lt (Nat.lt_of_lt_of_le (Heap.lt_size e) (I.ok.cab x c hfn hc)))).trans (I.base.keep b o e n hb hx)
    · obtain ⟨sl, e1⟩ := I.base.slot b o e n hb hx
      exact ⟨sl, (hs.2 b (Nat.ne_of_lt (Nat.lt_of_lt_of_le (Heap.lt_size e) (I.ok.cab x c hfn hc)))).trans e1⟩
    · obtain ⟨o', e1⟩ := I.base.there b o e hx
      exact ⟨o', (hs.2 b (Nat.ne_of_lt (Nat.lt_of_lt_of_le (Heap.lt_size e) (I.ok.cab x c hfn hc)))).trans e1⟩
    · by_cases hj : j = i
      · subst hj
        rw [hi] at e1; cases e1
        rw [List.getElem?_set_self hiσ] at e2
        cases e2
        exact ⟨u, r, .inr ⟨.inl hk, c, hc, hc'⟩⟩
      · rw [List.getElem?_set_ne (Ne.symm hj)] at e2
        obtain ⟨u', r', q⟩ := hl j y v' e1 e2 e3
        refine ⟨u', r', ?_⟩
        rcases q with q | ⟨k, c', e, z'⟩
        · exact .inl q
        · refine .inr ⟨k, c', e, z'.sameBut hs ?_⟩
          rintro rfl
          exact hj (nodup_ix hN e1 (I.ok.inj _ _ _ e hc ▸ hi))
    · by_cases hcc : c' = c
      · subst hcc; exact ⟨_, hc'⟩
      · obtain ⟨w2, z2⟩ := I.cell y c' e
        exact ⟨w2, z2.sameBut hs hcc⟩
    · obtain ⟨e, n, ne, nf, d⟩ := I.pin p hp
      refine ⟨(hs.2 p.1 ?_).trans e, n, ne, nf, d⟩
      intro q
      rw [q, hoc] at e
      have q' : oc = p.2 := Option.some.inj e
      exact d w' (by rw [← q']; exact hocd)
theorem store_ok {M : Model} {A : Around} {E : Value → Shared → Prop} {i : Nat} {x : Str} {v : V} {u : Value} {Q : Unit → Shared → Prop} (I : Inv X pins σ H s) (hN : X.N.Nodup) (hi : X.N[i]? = some x) (hx : Loc X.env.scope x) (r : RelV v u)
    (h : ∀ s', Inv X pins (σ.set i (some v)) H s' → Q () s') (hf : X.fn x = true ∨ X.env.scope.names.lookup x = some .local := by first | exact .inl rfl | exact .inr rfl | assumption) : wpAny M A (storeName X.env x u) Q E s :=
  store_ok2 I hN hi hx r (fun s' I' _ => h s' I') hf
theorem Inv.call' {s' : Shared} {ch : List Addr} (I : Inv X pins σ H s) (ho : s'.os = s.os) (u : Un (frs X.stack) ch H H' s.heap s'.heap) (hok : HOk X.prog X.w H' s'.heap) (hg : AllBare s'.gens)
    (hch : ∀ b ∈ ch, (b ∈ X.ex ∨ X.s₀.heap.objs.size ≤ b) ∧ b ≠ X.env.locals ∧ (∀ x c, X.env.cells.lookup x = some c → c ≠ b) ∧ ∀ p ∈ X.pn ++ pins, p.1 ≠ b) : Inv X pins σ H' s' := by
  obtain ⟨h', g', d', t', o'⟩ := s'
  have e : o' = s.os := ho
  subst e
  exact I.call (g' := g') (t' := t') (d' := d') u hok hg hch
end
abbrev XK := Value → Option Addr → Hp → Prop
abbrev St := List (Option V)
abbrev VK := V → Hp → Prop
abbrev TE := St → Hp → VK → Prop
abbrev TT := St → Hp → (Bool → Hp → Prop) → Prop
abbrev TA := St → Hp → (List V → Hp → Prop) → Prop
structure Ends where
  nx : St → Hp → Prop
  rt : VK
  bk : St → Hp → Prop := fun _ _ => False
  ct : St → Hp → Prop := fun _ _ => False
abbrev TS := Ends → St → Hp → Prop
def EP (X : Cx) (pins : List (Addr × Obj)) (σ : St) (Q : VK) (u : Value) (s' : Shared) : Prop := ∃ v H', Inv X pins σ H' s' ∧ RelV v u ∧ Q v H'
def TP (X : Cx) (pins : List (Addr × Obj)) (σ : St) (Q : Bool → Hp → Prop) (b : Bool) (s' : Shared) : Prop := ∃ H', Inv X pins σ H' s' ∧ Q b H'
def AP (X : Cx) (pins : List (Addr × Obj)) (σ : St) (Q : List V → Hp → Prop) (us : List Value) (s' : Shared) : Prop := ∃ vs H', Inv X pins σ H' s' ∧ Vals vs us ∧ Q vs H'
def SP (X : Cx) (pins : List (Addr × Obj)) (D : Ends) (f : Flow) (s' : Shared) : Prop :=
  match f with
  | .next => ∃ σ' H', Inv X pins σ' H' s' ∧ D.nx σ' H'
  | .brk => ∃ σ' H', Inv X pins σ' H' s' ∧ D.bk σ' H'
  | .cont => ∃ σ' H', Inv X pins σ' H' s' ∧ D.ct σ' H'
  | .ret u => ∃ v σ' H', Inv X pins σ' H' s' ∧ RelV v u ∧ D.rt v H'
def PE (X : Cx) (e : Expr) (t : TE) : Prop :=
  ∀ (pins : List (Addr × Obj)) (s : Shared) (σ : St) (H : Hp) (Q : VK), Inv X pins σ H s → t σ H Q → wpAny (model X.prog X.w) X.A (eval e X.env) (EP X pins σ Q) X.xe s
def PT (X : Cx) (e : Expr) (t : TT) : Prop :=
  ∀ (pins : List (Addr × Obj)) (s : Shared) (σ : St) (H : Hp) (Q : Bool → Hp → Prop), Inv X pins σ H s → t σ H Q → wpAny (model X.prog X.w) X.A (isTrue e X.env (eval e X.env)) (TP X pins σ Q) X.xe s
def PW (X : Cx) (e : Expr) (t : TT) : Prop :=
  ∀ (whole : Sem Value) (pins : List (Addr × Obj)) (s : Shared) (σ : St) (H : Hp) (Q : Bool → Hp → Prop), Inv X pins σ H s → t σ H Q → wpAny (model X.prog X.w) X.A (isTrue e X.env whole) (TP X pins σ Q) X.xe s
theorem PW.pt {X : Cx} {e : Expr} {t : TT} (h : PW X e t) : PT X e t := h _
def PA (X : Cx) (es : List Expr) (t : TA) : Prop :=
  ∀ (pos : Pos) (pins : List (Addr × Obj)) (s : Shared) (σ : St) (H : Hp) (Q : List V → Hp → Prop), Inv X pins σ H s → t σ H Q → wpAny (model X.prog X.w) X.A (spliced (backTo pos (starEach es X.env))) (AP X pins σ Q) X.xe s
def PS (X : Cx) (st : Stmt) (t : TS) : Prop :=
  ∀ (pins : List (Addr × Obj)) (s : Shared) (σ : St) (H : Hp) (D : Ends), Inv X pins σ H s → t D σ H → wpAny (model X.prog X.w) X.A (exec st X.env) (SP X pins D) X.xe s
def PSs (X : Cx) (st : List Stmt) (t : TS) : Prop :=
  ∀ (pins : List (Addr × Obj)) (s : Shared) (σ : St) (H : Hp) (D : Ends), Inv X pins σ H s → t D σ H → wpAny (model X.prog X.w) X.A (execs st X.env) (SP X pins D) X.xe s
theorem thn {α : Type} {t : Sem α} {Q Q' : α → Shared → Prop} {M : Model} {A : Around} {E : Value → Shared → Prop} {s : Shared} (h : wpAny M A t Q E s) (hQ : ∀ a s, Q a s → Q' a s) : wpAny M A t Q' E s := wpAny_mono h hQ fun _ _ x => x
end L2
namespace L2
open PySem PySem.Spec PyProof.Rows
section
variable {X : Cx}
def tVar (i : Nat) : TE := fun σ H Q => ∃ v, σ[i]? = some (some v) ∧ Q v H
def tC (v : V) : TE := fun _ H Q => Q v H
theorem pe_var {i : Nat} {x : Str} {pos : Pos} (hN : X.N[i]? = some x) (hv : Vis X.env.scope x) (hd : (x == ("__debug__" : Str)) = false := by decide) (hcd : (x == ("__classdict__" : Str)) = false := by decide) : PE X (.Name x pos) (tVar i) := by
  intro pins s σ H Q I h
  obtain ⟨v, e, h⟩ := h
  obtain ⟨m, hn, hl⟩ := I.loc
  obtain ⟨u, r, l⟩ := hl i x v hN e hv
  have fin : EP X pins σ Q u s := ⟨v, H, I, r, h⟩
  rcases l with ⟨hk, hm⟩ | ⟨hk, c, hc, hcell⟩
  · exact wpAny_Name (wpAny_loadName_local I.ok.kind hk hn hm fin) hd
  · rcases hk with hk | hk
    · exact wpAny_Name (wpAny_loadName_cell I.ok.kind hk hc hcell fin) hd
    · exact wpAny_Name (wpAny_loadName_free I.ok.kind hk hc hcell fin hcd) hd
theorem pe_int {i j pos} : PE X (.Constant (.int i) j pos) (tC (.int i)) := fun _ _ _ H _ I h => wpAny_Constant_int ⟨.int i, H, I.tok _, ⟨_, rfl⟩, h⟩
theorem pe_bl {b j pos} : PE X (.Constant (.bool b) j pos) (tC (.bl b)) := fun _ _ _ H _ I h => Constant_bool ⟨.bl b, H, I, rfl, h⟩
theorem pe_non {j pos} : PE X (.Constant .none j pos) (tC .non) := fun _ _ _ H _ I h => Constant_none ⟨.non, H, I, rfl, h⟩
def Gl (X : Cx) (x : Str) : Prop := X.env.kindOf x = some .globalImplicit
theorem ld_glob {E : Value → Shared → Prop} {pins : List (Addr × Obj)} {s : Shared} {σ : St} {H : Hp} {x : Str} {u : Value} {pos : Pos} {Q : Value → Shared → Prop} (I : Inv X pins σ H s) (hg : Gl X x) (hm : X.mg x = some u) (h : Q u s)
    (hd : (x == ("__debug__" : Str)) = false := by decide) : wpAny (model X.prog X.w) X.A (eval (.Name x pos) X.env) Q E s :=
  Calls.Name_function_global I.ok.kind hg (Calls.loadGlobal_global (by rw [I.ok.glob]; exact I.mod.glob.keeps I.bk) hm h) hd
theorem ld_blt {E : Value → Shared → Prop} {pins : List (Addr × Obj)} {s : Shared} {σ : St} {H : Hp} {x : Str} {u : Value} {pos : Pos} {Q : Value → Shared → Prop} (I : Inv X pins σ H s) (hg : Gl X x) (hm : X.mg x = none) (hv : bootBuiltins x = some u) (h : Q u s)
    (hn : x ≠ "__name__" := by decide) (hd : (x == ("__debug__" : Str)) = false := by decide) : wpAny (model X.prog X.w) X.A (eval (.Name x pos) X.env) Q E s := by
  obtain ⟨mb, h1, h2⟩ := I.mod.blt
  exact Calls.Name_function_global I.ok.kind hg (Calls.loadGlobal_builtin (by rw [I.ok.glob]; exact I.mod.glob.keeps I.bk) hm (by rw [I.ok.blt]; exact h1.keeps I.bk) ((h2 x hn).trans hv) h) hd
theorem pe_glob {x : Str} {v : V} {u : Value} {pos : Pos} (hg : Gl X x) (hm : X.mg x = some u) (r : RelV v u) (hd : (x == ("__debug__" : Str)) = false := by decide) : PE X (.Name x pos) (tC v) :=
  fun _ _ _ H _ I h => ld_glob I hg hm ⟨v, H, I, r, h⟩ hd
theorem pe_bltn {x : Str} {v : V} {u : Value} {pos : Pos} (hg : Gl X x) (hm : X.mg x = none) (hv : bootBuiltins x = some u) (r : RelV v u) (hn : x ≠ "__name__" := by decide) (hd : (x == ("__debug__" : Str)) = false := by decide) : PE X (.Name x pos) (tC v) :=
  fun _ _ _ H _ I h => ld_blt I hg hm hv ⟨v, H, I, r, h⟩ hn hd
def t2I (ta tb : TE) (k : Int → Int → Hp → Prop) : St → Hp → Prop := fun σ H => ta σ H fun x H1 => tb σ H1 fun y H2 => ∃ i j, x = .int i ∧ y = .int j ∧ k i j H2
def tAdd (ta tb : TE) : TE := fun σ H Q => t2I ta tb (fun i j H2 => Q (.int (i + j)) H2) σ H
def tSub (ta tb : TE) : TE := fun σ H Q => t2I ta tb (fun i j H2 => Q (.int (i - j)) H2) σ H
def tMul (ta tb : TE) : TE := fun σ H Q => t2I ta tb (fun i j H2 => (-(2 ^ 64) < i ∧ i < 2 ^ 64) ∧ Q (.int (i * j)) H2) σ H
variable {a b : Expr} {ta tb : TE} {pos : Pos}
def PC (X : Cx) (op : CmpOp) (a b : Expr) (t : TE) : Prop :=
  ∀ (pins : List (Addr × Obj)) (s : Shared) (σ : St) (H : Hp) (Q : VK), Inv X pins σ H s → t σ H Q →
    wpAny (model X.prog X.w) X.A (eval a X.env) (fun v s₁ => wpAny (model X.prog X.w) X.A (eval b X.env) (fun u s₂ => wpAny (model X.prog X.w) X.A (compareOp op v u) (EP X pins σ Q) X.xe s₂) X.xe s₁) X.xe s
def tCmp (p : Int → Int → Bool) (ta tb : TE) : TE := fun σ H Q => t2I ta tb (fun i j H2 => Q (.bl (p i j)) H2) σ H
abbrev tLt : TE → TE → TE := tCmp fun i j => decide (i < j)
abbrev tLe : TE → TE → TE := tCmp fun i j => decide (i ≤ j)
abbrev tGt : TE → TE → TE := tCmp fun i j => decide (j < i)
abbrev tGe : TE → TE → TE := tCmp fun i j => decide (j ≤ i)
abbrev tEqI : TE → TE → TE := tCmp fun i j => decide (i = j)
abbrev tNeI : TE → TE → TE := tCmp fun i j => !decide (i = j)
def tIsN (ta : TE) : TE := fun σ H Q => ta σ H fun x H1 => Q (.bl (decide (x = .non))) H1
def tNotN (ta : TE) : TE := fun σ H Q => ta σ H fun x H1 => Q (.bl (!decide (x = .non))) H1
def tB (t : TE) : TT := fun σ H Q => t σ H fun x H1 => ∃ c, x = .bl c ∧ Q c H1
theorem pt_val {e : Expr} {t : TE} (h : PE X e t) (he : ∀ whole, isTrue e X.env whole = (do let v ← whole; standAt e.pos; holding [v] (truthy v)) := by intro _; rfl) : PT X e (tB t) := by
  intro pins s σ H Q I hw
  refine isTrue_plain (thn (h pins s σ H _ I hw) fun v s1 ⟨x, H1, I1, r1, q1⟩ => ?_) (he _)
  obtain ⟨d, rfl, q⟩ := q1
  cases r1
  exact wpAny_truthy_bool ⟨H1, I1, q⟩
variable {tA tB' : TT} {rest : List Expr}
def tAnd (t u : TT) : TT := fun σ H Q => t σ H fun c H1 => if c = true then u σ H1 Q else Q false H1
def tOr (t u : TT) : TT := fun σ H Q => t σ H fun c H1 => if c = true then Q true H1 else u σ H1 Q
def tNot (t : TT) : TT := fun σ H Q => t σ H fun c H1 => Q (!c) H1
theorem pw_or1 (ha : PT X a tA) : PW X (.BoolOp .Or [a] pos) tA := by
  intro wh pins s σ H Q I h
  refine isTrue_or (thn (ha pins s σ H Q I h) fun c s1 e => ?_)
  cases c with
  | false => exact isTrue_or_nil e
  | true => exact e
theorem pw_or (ha : PT X a tA) (hb : PW X (.BoolOp .Or (b :: rest) pos) tB') : PW X (.BoolOp .Or (a :: b :: rest) pos) (tOr tA tB') := by
  intro wh pins s σ H Q I h
  refine isTrue_or (thn (ha pins s σ H _ I h) fun c s1 ⟨H1, I1, q1⟩ => ?_)
  cases c with
  | true => exact ⟨H1, I1, q1⟩
  | false => exact hb wh pins s1 σ H1 Q I1 q1
theorem pt_not (ha : PT X a tA) : PT X (.UnaryOp .Not a pos) (tNot tA) := by
  intro pins s σ H Q I h
  exact isTrue_not (ha pins s σ H (fun c H1 => Q (!c) H1) I h)
def tAndV (ta tb : TE) : TE := fun σ H Q => ta σ H fun x H1 => ∃ c, x = .bl c ∧ if c = true then tb σ H1 Q else Q (.bl false) H1
def tOrV (ta tb : TE) : TE := fun σ H Q => ta σ H fun x H1 => ∃ c, x = .bl c ∧ if c = true then Q (.bl true) H1 else tb σ H1 Q
def tNotV (ta : TE) : TE := fun σ H Q => ta σ H fun x H1 => ∃ c, x = .bl c ∧ Q (.bl (!c)) H1
theorem pe_one {op} {t : TE} (h : PE X a t) : PE X (.BoolOp op [a] pos) t := fun pins s σ H Q I hw => BoolOp_one (h pins s σ H Q I hw)
def tIf (t : TT) (ta tb : TE) : TE := fun σ H Q => t σ H fun c H1 => if c = true then ta σ H1 Q else tb σ H1 Q
theorem pe_ifExp {c : Expr} (hc : PT X c tA) (ha : PE X a ta) (hb : PE X b tb) : PE X (.IfExp c a b pos) (tIf tA ta tb) := by
  intro pins s σ H Q I h
  refine wpAny_IfExp (thn (hc pins s σ H _ I h) fun d s1 ⟨H1, I1, q1⟩ => ?_)
  cases d with
  | true => exact ha pins s1 σ H1 Q I1 q1
  | false => exact hb pins s1 σ H1 Q I1 q1
end
end L2
namespace L2
open PySem PySem.Spec PyProof.Rows
def SqL (K : PySem.W.Frag) (H : Hp) (a : Addr) (xs : List V) : Prop :=
  Rd H a (.lst xs) ∨
    ∃ (o : Obj) (its : Array Value) (n : Nat), K.lookup a = some o ∧ o.cls = .type "list" ∧ o.dict = none ∧ o.data = .seq its n ∧ its.size ≤ sizeLine ∧ Vals xs its.toList
def SqT (K : PySem.W.Frag) (H : Hp) (a : Addr) (xs : List V) : Prop :=
  Rd H a (.tup xs) ∨
    ∃ (o : Obj) (its : Array Value) (n : Nat), K.lookup a = some o ∧ o.cls = .type "tuple" ∧ o.data = .seq its n ∧ its.size ≤ sizeLine ∧ Vals xs its.toList
def absV : Value → Option V
  | .none => some .non
  | .bool b => some (.bl b)
  | .int i _ => some (.int i)
  | .str x _ => some (.str x)
  | .bytes b _ => some (.byt b)
  | .float b _ => some (.flt b)
  | .ref a => some (.ref a)
  | .type n => some (.ty n)
  | _ => none
theorem RelV.abs {x : V} {u : Value} (r : RelV x u) : absV u = some x := by
  cases x with
  | non => cases r; rfl
  | bl _ => cases r; rfl
  | int _ => obtain ⟨t, rfl⟩ := r; rfl
  | str _ => obtain ⟨t, rfl⟩ := r; rfl
  | byt _ => obtain ⟨t, rfl⟩ := r; rfl
  | flt _ => obtain ⟨t, rfl⟩ := r; rfl
  | ref _ => cases r; rfl
  | ty _ => cases r; rfl
theorem RelV.inj {x y : V} {u : Value} (r : RelV x u) (q : RelV y u) : x = y := Option.some.inj (r.abs.symm.trans q.abs)
theorem Vals.inj : ∀ {xs ys : List V} {us : List Value}, Vals xs us → Vals ys us → xs = ys
  | _, _, _, .nil, .nil => rfl
  | _, _, _, .cons r t, .cons r' t' => by rw [r.inj r', Vals.inj t t']
section
variable {X : Cx} {pins : List (Addr × Obj)} {σ : St} {H : Hp} {s : Shared} {a : Addr} {xs ys : List V}
theorem SqL.of {K : PySem.W.Frag} (h : H a = some (.lst xs)) : SqL K H a xs := .inl (.inl h)
theorem SqT.of {K : PySem.W.Frag} (h : H a = some (.tup xs)) : SqT K H a xs := .inl (.inl h)
theorem Inv.list (I : Inv X pins σ H s) (h : SqL X.K H a xs) : ∃ its : List Value, Vals xs its ∧ PlainL s.heap a its.toArray ∧ xs.length ≤ sizeLine := by
  rcases h with h | ⟨o, its, n, hk, hc, hd, hs, hz, r⟩
  · obtain ⟨z, its, n, r, e⟩ := h.ok I.hok
    exact ⟨its, r, ⟨_, n, e, rfl, rfl, rfl⟩, z⟩
  · refine ⟨its.toList, r, ⟨o, n, I.kIn a o hk, hc, hd, by simpa using hs⟩, ?_⟩
    have e := r.length
    simp only [Array.length_toList] at e
    omega
theorem Inv.tuple (I : Inv X pins σ H s) (h : SqT X.K H a xs) : ∃ its : List Value, Vals xs its ∧ IsTup s.heap a its.toArray ∧ xs.length ≤ sizeLine := by
  rcases h with h | ⟨o, its, n, hk, hc, hs, hz, r⟩
  · obtain ⟨z, its, r, p⟩ := h.ok I.hok
    exact ⟨its, r, p, z⟩
  · refine ⟨its.toList, r, ⟨o, I.kIn a o hk, hc, n, by simpa using hs⟩, ?_⟩
    have e := r.length
    simp only [Array.length_toList] at e
    omega
theorem Inv.list_inj (I : Inv X pins σ H s) (h : SqL X.K H a xs) (h' : SqL X.K H a ys) : xs = ys := by
  obtain ⟨its, r, ⟨o, n, e, _, _, d⟩, _⟩ := I.list h
  obtain ⟨its', r', ⟨o', n', e', _, _, d'⟩, _⟩ := I.list h'
  rw [e] at e'; cases e'
  rw [d] at d'
  injection d' with d1 _
  have : its = its' := by simpa using congrArg Array.toList d1
  subst this
  exact r.inj r'
theorem Inv.tuple_inj (I : Inv X pins σ H s) (h : SqT X.K H a xs) (h' : SqT X.K H a ys) : xs = ys := by
  obtain ⟨its, r, ⟨o, e, _, n, d⟩, _⟩ := I.tuple h
  obtain ⟨its', r', ⟨o', e', _, n', d'⟩, _⟩ := I.tuple h'
  rw [e] at e'; cases e'
  rw [d] at d'
  injection d' with d1 _
  have : its = its' := by simpa using congrArg Array.toList d1
  subst this
  exact r.inj r'
end
abbrev Cx.wish (X : Cx) (E : Value → Shared → Prop) : Cx := { X with xe := E }
abbrev Cx.nox (X : Cx) : Cx := X.wish fun _ _ => False
theorem Cx.Ok.wish {X : Cx} (ok : X.Ok) (E : Value → Shared → Prop) : (X.wish E).Ok :=
  ⟨ok.mod, ok.kind, ok.glob, ok.blt, ok.above, ok.inj, ok.has, ok.cab, ok.hd, ok.frames, ok.stk, ok.exf, ok.bs, ok.bsz, ok.noex, ok.exfs, ok.funs, ok.frf⟩
theorem Cx.Ok.unwish {X : Cx} {E : Value → Shared → Prop} (ok : (X.wish E).Ok) : X.Ok :=
  ⟨ok.mod, ok.kind, ok.glob, ok.blt, ok.above, ok.inj, ok.has, ok.cab, ok.hd, ok.frames, ok.stk, ok.exf, ok.bs, ok.bsz, ok.noex, ok.exfs, ok.funs, ok.frf⟩
section
variable {X : Cx} {pins : List (Addr × Obj)} {σ : St} {H : Hp} {s : Shared} {E : Value → Shared → Prop}
theorem Inv.wish (I : Inv X pins σ H s) (E : Value → Shared → Prop) : Inv (X.wish E) pins σ H s := ⟨I.ok.wish E, I.os, I.bare, I.base, I.loc, I.cell, I.free, I.freeC, I.pin, I.hok, I.len⟩
theorem Inv.unwish (I : Inv (X.wish E) pins σ H s) : Inv X pins σ H s := ⟨I.ok.unwish, I.os, I.bare, I.base, I.loc, I.cell, I.free, I.freeC, I.pin, I.hok, I.len⟩
theorem SP.unwish {D : Ends} {f : Flow} {s' : Shared} (h : SP (X.wish E) pins D f s') : SP X pins D f s' := by
  cases f with
  | next => obtain ⟨σ', H', I, q⟩ := h; exact ⟨σ', H', I.unwish, q⟩
  | brk => obtain ⟨σ', H', I, q⟩ := h; exact ⟨σ', H', I.unwish, q⟩
  | cont => obtain ⟨σ', H', I, q⟩ := h; exact ⟨σ', H', I.unwish, q⟩
  | ret u => obtain ⟨v, σ', H', I, r, q⟩ := h; exact ⟨v, σ', H', I.unwish, r, q⟩
theorem PSs.nox {st : List Stmt} {t : TS} (h : PSs X.nox st t) : PSs X st t := fun pins s σ H D I hw =>
  wpAny_mono (h pins s σ H D (I.wish _) hw) (fun _ _ q => q.unwish) fun _ _ z => False.elim z
end
section
variable {X : Cx} {st : Stmt} {rest : List Stmt} {t u : TS} {e : Expr} {te : TE} {pos : Pos}
def tNext : TS := fun D σ H => D.nx σ H
def tSeq (t u : TS) : TS := fun D σ H => t { D with nx := u D } σ H
theorem pss_nil : PSs X [] tNext := fun _ _ σ H _ I h => wpAny_execs_nil ⟨σ, H, I, h⟩
theorem pss_cons (h1 : PS X st t) (h2 : PSs X rest u) : PSs X (st :: rest) (tSeq t u) := by
  intro pins s σ H D I h
  refine wpAny_execs_cons (thn (h1 pins s σ H { D with nx := u D } I h) fun f s1 q => ?_)
  cases f with
  | next =>
    obtain ⟨σ', H', I', q⟩ := q
    exact h2 pins s1 σ' H' D I' q
  | ret v => exact q
  | brk => exact q
  | cont => exact q
theorem pss_one (h1 : PS X st t) : PSs X [st] t := by
  intro pins s σ H D I h
  refine wpAny_execs_cons (thn (h1 pins s σ H D I h) fun f s1 q => ?_)
  cases f with
  | next => exact wpAny_execs_nil q
  | ret v => exact q
  | brk => exact q
  | cont => exact q
def tBreak : TS := fun D σ H => D.bk σ H
def tCont : TS := fun D σ H => D.ct σ H
theorem Inv.quiet {pins : List (Addr × Obj)} {σ : St} {H : Hp} {s : Shared} (I : Inv X pins σ H s) : interactive X.env = false := by simp [interactive, I.ok.kind]
def tDrop (te : TE) : TS := fun D σ H => te σ H fun _ H1 => D.nx σ H1
theorem ps_expr (he : PE X e te) (hs : swapsWith e none pos.line X.env = pure false := by rfl) : PS X (.Expr e pos) (tDrop te) := by
  intro pins s σ H D I h
  exact wpAny_Expr_any (thn (he pins s σ H _ I h) fun v s1 ⟨x, H1, I1, r1, q1⟩ => ⟨σ, H1, I1, q1⟩) I.quiet hs
def tRet (te : TE) : TS := fun D σ H => te σ H D.rt
theorem ps_ret (he : PE X e te) : PS X (.Return (some e) pos) (tRet te) := by
  intro pins s σ H D I h
  exact wpAny_Return_some (thn (he pins s σ H _ I h) fun v s1 ⟨x, H1, I1, r1, q1⟩ => ⟨x, σ, H1, I1, r1, q1⟩)
def tRetN : TS := fun D _ H => D.rt .non H
def tIfS (c : TT) (t u : TS) : TS := fun D σ H => c σ H fun b H1 => if b = true then t D σ H1 else u D σ H1
theorem ps_if {c : Expr} {a b : List Stmt} {tc : TT} (hc : PT X c tc) (ha : PSs X a t) (hb : PSs X b u) : PS X (.If c a b pos) (tIfS tc t u) := by
  intro pins s σ H D I h
  refine wpAny_If (thn (hc pins s σ H _ I h) fun d s1 ⟨H1, I1, q1⟩ => ?_)
  cases d with
  | true => exact ha pins s1 σ H1 D I1 q1
  | false => exact hb pins s1 σ H1 D I1 q1
def tNever : TS := fun _ _ _ => False
theorem ps_never : PS X st tNever := fun _ _ _ _ _ _ h => h.elim
end
abbrev TG := V → St → Hp → (St → Hp → Prop) → Prop
abbrev TGs := List V → St → Hp → (St → Hp → Prop) → Prop
def PG (X : Cx) (target : Expr) (t : TG) : Prop :=
  ∀ (pins : List (Addr × Obj)) (s : Shared) (σ : St) (H : Hp) (v : V) (u : Value) (Q : St → Hp → Prop), Inv X pins σ H s → RelV v u → t v σ H Q →
    wpAny (model X.prog X.w) X.A (assign target X.env u) (fun _ s' => ∃ σ' H', Inv X pins σ' H' s' ∧ Q σ' H') X.xe s
def PGs (X : Cx) (ts : List Expr) (t : TGs) : Prop :=
  ∀ (pins : List (Addr × Obj)) (s : Shared) (σ : St) (H : Hp) (vs : List V) (us : List Value) (Q : St → Hp → Prop), Inv X pins σ H s → Vals vs us → t vs σ H Q →
    wpAny (model X.prog X.w) X.A (assignInOrder ((assignEach ts X.env).map (·.2)) us) (fun _ s' => ∃ σ' H', Inv X pins σ' H' s' ∧ Q σ' H') X.xe s
abbrev TSet := V → V → V → Hp → (Hp → Prop) → Prop
def PSet (X : Cx) (t : TSet) : Prop :=
  ∀ (pins : List (Addr × Obj)) (s : Shared) (σ : St) (H : Hp) (o i v : V) (ov iv u : Value) (Q : Hp → Prop), Inv X pins σ H s → RelV o ov → RelV i iv → RelV v u → t o i v H Q →
    wpAny (model X.prog X.w) X.A (setItem ov iv u) (fun _ s' => ∃ H', Inv X pins σ H' s' ∧ Q H') X.xe s
abbrev TIp := V → V → Hp → VK → Prop
def PIp (X : Cx) (op : Operator) (t : TIp) : Prop :=
  ∀ (pins : List (Addr × Obj)) (s : Shared) (σ : St) (H : Hp) (x y : V) (v u : Value) (Q : VK), Inv X pins σ H s → RelV x v → RelV y u → t x y H Q →
    wpAny (model X.prog X.w) X.A (inplaceOp op v u) (EP X pins σ Q) X.xe s
section
variable {X : Cx} {pos : Pos}
def gName (i : Nat) : TG := fun v σ H Q => Q (σ.set i (some v)) H
theorem pg_name {i : Nat} {x : Str} (hN : X.N.Nodup) (hi : X.N[i]? = some x) (hx : Loc X.env.scope x) (hf : X.fn x = true ∨ X.env.scope.names.lookup x = some .local := by first | exact .inl rfl | exact .inr rfl | assumption) : PG X (.Name x pos) (gName i) := by
  intro pins s σ H v u Q I r h
  exact wpAny_assign_Name (store_ok I hN hi hx r (fun s' I' => ⟨_, H, I', h⟩) hf)
def gNil : TGs := fun vs σ H Q => vs = [] ∧ Q σ H
def gCons (t : TG) (u : TGs) : TGs := fun vs σ H Q => ∃ v r, vs = v :: r ∧ t v σ H fun σ' H' => u r σ' H' Q
theorem pgs_nil : PGs X [] gNil := by
  intro pins s σ H vs us Q I r h
  obtain ⟨e, h⟩ := h
  subst e
  cases r
  exact assignInOrder_nil ⟨σ, H, I, h⟩
theorem pgs_cons {e : Expr} {es : List Expr} {t : TG} {u : TGs} (h1 : PG X e t) (h2 : PGs X es u)
    (hs : (assignEach (e :: es) X.env).map (·.2) = assign e X.env :: (assignEach es X.env).map (·.2) := by rfl) : PGs X (e :: es) (gCons t u) := by
  intro pins s σ H vs us Q I r h
  obtain ⟨v, vr, e1, h⟩ := h
  subst e1
  cases r with
  | cons r rr =>
    rw [hs]
    refine assignInOrder_cons (thn (h1 pins s σ H _ _ _ I r h) fun _ s1 ⟨σ1, H1, I1, q1⟩ => ?_)
    exact h2 pins s1 σ1 H1 _ _ Q I1 rr q1
def gTup (K : PySem.W.Frag) (n : Nat) (t : TGs) : TG := fun v σ H Q => ∃ a xs, v = .ref a ∧ SqT K H a xs ∧ xs.length = n ∧ t xs σ H Q
theorem pg_tup {es : List Expr} {k : Nat} {t : TGs} {n : Nat} (hc : X.calm = true) (h : PGs X es t)
    (hn : (assignEach es X.env).length = n := by rfl) (hst : (assignEach es X.env).findIdx? (·.1) = none := by rfl) : PG X (.Tuple es k pos) (gTup X.K n t) := by
  intro pins s σ H v u Q I r hw
  obtain ⟨a, xs, e1, hq, hl, hw⟩ := hw
  subst e1
  cases r
  obtain ⟨its, rv, ht, hz⟩ := I.tuple hq
  refine assign_Tuple_tuple (I.ok.hd hc) ht (by simp [hn, ← hl, rv.length]) hst fun h' hx => ?_
  have I1 : Inv X pins σ H { s with heap := h' } := I.kept (t' := s.toks) fun b o e => hx b o (Nat.ne_of_lt (Heap.lt_size e)) e
  exact h pins _ σ H xs _ Q I1 (by simpa using rv) hw
def gSub (to ti : TE) (t : TSet) : TG := fun v σ H Q => to σ H fun o H1 => ti σ H1 fun i H2 => t o i v H2 fun H3 => Q σ H3
theorem pg_sub {o i : Expr} {to ti : TE} {t : TSet} (ho : PE X o to) (hi : PE X i ti) (hs : PSet X t)
    (ha : ∀ v, assign (.Subscript o i pos) X.env v = (do
      let ov ← holding [v] (eval o X.env)
      let iv ← holding [v, ov] (eval i X.env)
      standAt pos
      holding [v, ov, iv] (setItem ov iv v)
      release [v, ov, iv] []) := by intro _; rfl) : PG X (.Subscript o i pos) (gSub to ti t) := by
  intro pins s σ H v u Q I r h
  rw [ha]
  refine wpAny_bind (wpAny_holding (thn (ho pins s σ H _ I h) fun ov s1 ⟨x, H1, I1, r1, q1⟩ => ?_))
  refine wpAny_bind (wpAny_holding (thn (hi pins s1 σ H1 _ I1 q1) fun iv s2 ⟨y, H2, I2, r2, q2⟩ => ?_))
  refine wpAny_bind (wpAny_standAt (wpAny_bind (wpAny_holding (thn (hs pins s2 σ H2 x y v ov iv u _ I2 r1 r2 r q2) fun _ s3 ⟨H3, I3, q3⟩ => ?_))))
  exact wpAny_release ⟨σ, H3, I3, q3⟩
def tAsg (te : TE) (g : TG) : TS := fun D σ H => te σ H fun x H1 => g x σ H1 D.nx
theorem ps_asg {tg e : Expr} {te : TE} {g : TG} (he : PE X e te) (hg : PG X tg g) (hs : swapsWithSole [tg] e pos.line X.env = pure false := by rfl) (hw : swappedStores [tg] e X.env = pure none := by rfl)
    (h1 : (assignEach [tg] X.env).map (·.2) = [assign tg X.env] := by rfl) : PS X (.Assign [tg] e pos) (tAsg te g) := by
  intro pins s σ H D I h
  refine wpAny_Assign_stores (thn (he pins s σ H _ I h) fun v s1 ⟨x, H1, I1, r1, q1⟩ => ?_) hs hw
  rw [h1]
  exact thn (hg pins s1 σ H1 x v _ I1 r1 q1) fun _ s2 q => q
theorem ps_set {i : Nat} {x : Str} {e : Expr} {te : TE} {pos' : Pos} (hN : X.N.Nodup) (hi : X.N[i]? = some x) (hx : Loc X.env.scope x) (he : PE X e te) (hs : swapsWith e (some (.Name x pos')) pos.line X.env = pure false := by rfl) (hf : X.fn x = true ∨ X.env.scope.names.lookup x = some .local := by first | exact .inl rfl | exact .inr rfl | assumption) :
    PS X (.Assign [.Name x pos'] e pos) (tAsg te (gName i)) := by
  intro pins s σ H D I h
  refine wpAny_Assign_Name (thn (he pins s σ H _ I h) fun v s1 ⟨y, H1, I1, r1, q1⟩ => ?_) hs
  exact store_ok I1 hN hi hx r1 (fun s2 I2 => ⟨_, H1, I2, q1⟩) hf
def tPar (i j : Nat) (ta : TA) : TS := fun D σ H => ta σ H fun vs H1 => ∃ v w, vs = [v, w] ∧ D.nx ((σ.set i (some v)).set j (some w)) H1
theorem ps_par {i j : Nat} {x y : Str} {a b : Expr} {ta : TA} {px py pt : Pos} {kt k2 pt2} (hc : X.calm = true) (hN : X.N.Nodup) (hi : X.N[i]? = some x) (hj : X.N[j]? = some y) (hij : i ≠ j)
    (hx : X.env.scope.names.lookup x = some .local) (hy : X.env.scope.names.lookup y = some .local) (ha : PA X [a, b] ta)
    (hw : swappedStores [.Tuple [.Name x px, .Name y py] kt pt] (.Tuple [a, b] k2 pt2) X.env = pure (some [x, y]))
    (hs : swapsWithSole [.Tuple [.Name x px, .Name y py] kt pt] (.Tuple [a, b] k2 pt2) pos.line X.env = pure false := by rfl) :
    PS X (.Assign [.Tuple [.Name x px, .Name y py] kt pt] (.Tuple [a, b] k2 pt2) pos) (tPar i j ta) := by
  intro pins s σ H D I h
  rw [exec_Assign_arm]
  refine wpAny_bind (wpAny_standAt ?_)
  rw [hs]
  refine wpAny_bind (wpAny_pure ?_)
  rw [if_neg (by decide)]
  refine wpAny_bind (Tuple_ (thn (ha _ pins s σ H _ I h) fun us s1 ⟨vs, H1, I1, r1, q1⟩ => ?_))
  obtain ⟨v, w, e1, q1⟩ := q1
  subst e1
  obtain ⟨u1, u2, rfl, rv, rw'⟩ : ∃ u1 u2, us = [u1, u2] ∧ RelV v u1 ∧ RelV w u2 := by
    cases r1 with
    | cons p q =>
      cases q with
      | cons p' q' =>
        cases q'
        exact ⟨_, _, rfl, p, p'⟩
  refine wpAny_newObj_type ?_ (by show 2 ≤ sizeLine; decide)
  have I2 : Inv X pins σ H1 { s1 with heap := s1.heap.push { cls := .type "tuple", data := .seq [u1, u2].toArray } } := I1.kept (t' := s1.toks) fun b o e => Heap.get?_push_of_some _ e
  rw [hw]
  refine wpAny_bind (wpAny_pure ?_)
  show wpAny (model X.prog X.w) X.A (do rule "assign.swapped-stores"; let items ← unpackItems (.ref s1.heap.objs.size) 2 none; assignInOrder [fun v => bindName X.env y v, fun v => bindName X.env x v] items.reverse; pure Flow.next) _ _ _
  refine wpAny_bind (wpAny_rule (wpAny_bind (unpackItems_tuple (items := #[u1, u2]) (I.ok.hd hc) (IsTup.new s1.heap _) fun h' hx' => ?_)))
  have I3 := I2.kept (h' := h') (t' := s1.toks) fun b o e => hx' b o (Nat.ne_of_lt (Heap.lt_size e)) e
  show wpAny _ _ (assignInOrder [fun v => bindName X.env y v, fun v => bindName X.env x v] [u2, u1] >>= fun _ => pure Flow.next) _ _ _
  refine wpAny_bind (assignInOrder_cons (wpAny_bindName (store_ok I3 hN hj (.inl hy) rw' (fun s2 I4 => ?_) (.inr hy))))
  refine assignInOrder_cons (wpAny_bindName (store_ok I4 hN hi (.inl hx) rv (fun s3 I5 => assignInOrder_nil (wpAny_pure ?_)) (.inr hx)))
  rw [List.set_comm _ _ (Ne.symm hij)] at I5
  exact ⟨_, H1, I5, q1⟩
def tAug (i : Nat) (te : TE) (ti : TIp) : TS := fun D σ H => ∃ x, σ[i]? = some (some x) ∧ te σ H fun y H1 => ti x y H1 fun z H2 => D.nx (σ.set i (some z)) H2
def tAugS (to ti te : TE) (tget : V → V → Hp → VK → Prop) (tip : TIp) (tset : TSet) : TS := fun D σ H => to σ H fun o H1 => ti σ H1 fun i H2 => tget o i H2 fun x H3 => te σ H3 fun y H4 => tip x y H4 fun z H5 => tset o i z H5 fun H6 => D.nx σ H6
def PGet (X : Cx) (t : V → V → Hp → VK → Prop) : Prop :=
  ∀ (pins : List (Addr × Obj)) (s : Shared) (σ : St) (H : Hp) (o i : V) (ov iv : Value) (Q : VK), Inv X pins σ H s → RelV o ov → RelV i iv → t o i H Q →
    wpAny (model X.prog X.w) X.A (getItem ov iv) (EP X pins σ Q) X.xe s
def ipI (f : Int → Int → Int) : TIp := fun x y H Q => ∃ i j, x = .int i ∧ y = .int j ∧ Q (.int (f i j)) H
end
section
variable {X : Cx} {pos : Pos}
def tWhile (c : TT) (tb : TS) : TS := fun D σ H => ∃ W : Nat → St → Hp → Prop, (∃ m, W m σ H) ∧ ∀ m σ H, W m σ H →
  c σ H fun b H1 => if b = true then ∃ N : St → Hp → Prop, (∀ σ' H', N σ' H' → ∃ m', m' < m ∧ W m' σ' H') ∧ tb { D with nx := N, ct := N, bk := D.nx } σ H1 else D.nx σ H1
theorem ps_while {c : Expr} {body : List Stmt} {tc : TT} {tb : TS} (hp : PassesOwn (model X.prog X.w) X.A X.env X.xe) (hc : PT X c tc) (hb : PSs X body tb) : PS X (.While c body [] pos) (tWhile tc tb) := by
  intro pins s σ H D I h
  obtain ⟨W, ⟨m0, w0⟩, turn⟩ := h
  refine wpAny_While (codeAny_whileLoop (fun n s' => ∃ σ' H', Inv X pins σ' H' s' ∧ W n σ' H') ?_ m0 ⟨σ, H, I, w0⟩)
  rintro n s1 ⟨σ1, H1, I1, w1⟩
  refine wpAny_passesOwn hp (thn (hc pins s1 σ1 H1 _ I1 (turn n σ1 H1 w1)) fun b s2 ⟨H2, I2, q2⟩ => ?_)
  cases b with
  | true =>
    obtain ⟨N, hN, q2⟩ := q2
    rw [if_pos rfl]
    refine wpAny_passesOwn hp (thn (hb pins s2 σ1 H2 _ I2 q2) fun f s3 q3 => ?_)
    cases f with
    | next =>
      obtain ⟨σ3, H3, I3, n3⟩ := q3
      obtain ⟨m', hm, w3⟩ := hN σ3 H3 n3
      exact ⟨m', hm, σ3, H3, I3, w3⟩
    | cont =>
      obtain ⟨σ3, H3, I3, n3⟩ := q3
      obtain ⟨m', hm, w3⟩ := hN σ3 H3 n3
      exact ⟨m', hm, σ3, H3, I3, w3⟩
    | brk => exact q3
    | ret v => exact q3
  | false =>
    rw [if_neg Bool.false_ne_true]
    exact wpAny_execs_nil ⟨σ1, H2, I2, q2⟩
end
structure It where
  go : Nat → Hp → Prop
  yld : Nat → Hp → V → Hp → Prop
  stop : Nat → Hp → Prop
def FpOk (X : Cx) (pins : List (Addr × Obj)) (H : Hp) (b : Addr) : Prop :=
  H b = none ∧ b ≠ X.env.locals ∧ b ∉ X.fs ∧ (b ∈ X.ex ∨ X.s₀.heap.objs.size ≤ b) ∧ (∀ x c, X.env.cells.lookup x = some c → c ≠ b) ∧ ∀ p ∈ X.pn ++ pins, p.1 ≠ b
theorem Inv.fpOk {X : Cx} {pins : List (Addr × Obj)} {σ : St} {H H' : Hp} {s : Shared} {b : Addr} (I : Inv X pins σ H s) (hb : s.heap.objs.size ≤ b) (hn : H' b = none) : FpOk X pins H' b := by
  refine ⟨hn, Nat.ne_of_gt (Nat.lt_of_lt_of_le I.lt hb), I.nofs hb, .inr (Nat.le_trans I.sz hb), fun x c e z => ?_, fun p hp z => ?_⟩
  · obtain ⟨v, q⟩ := I.cell x c e
    exact absurd (Nat.lt_of_lt_of_le q.lt (by rw [z]; exact hb)) (Nat.lt_irrefl _)
  · exact absurd (Nat.lt_of_lt_of_le (Heap.lt_size (I.pin p hp).1) (by rw [z]; exact hb)) (Nat.lt_irrefl _)
structure Turn (P : Program) (w : World) (K : PySem.W.Frag) (tg : Expr) (J : It) (fp : List Addr) (it : Addr) (tn : Nat → Heap → Prop) : Prop where
  mem : it ∈ fp
  obj : ∀ i h, tn i h → ∀ b ∈ fp, ∃ o, h.get? b = some o ∧ ∀ v, o.data ≠ .cell v
  keep : ∀ i h h', tn i h → (∀ b ∈ fp, ∀ o, h.get? b = some o → h'.get? b = some o) → tn i h'
  item : ∀ (X : Cx), X.prog = P → X.w = w → X.K = K → X.calm = true → ∀ (i : Nat) (pins : List (Addr × Obj)) (s : Shared) (σ : St) (H : Hp) (E : Value → Shared → Prop), Inv X pins σ H s → (∀ b ∈ fp, FpOk X pins H b) → tn i s.heap → J.go i H →
    wpAny (model P w) X.A (pyNext (.ref it)) (fun r s1 => ∃ u, r = some u ∧
      wpAny (model P w) X.A (letOwnedTupleGo tg (.ref it) u) (fun _ s2 => ∃ x H', Inv X pins σ H' s2 ∧ RelV x u ∧ J.yld i H x H' ∧ tn (i + 1) s2.heap ∧ ∀ b ∈ fp, H' b = none) E s1) E s
  done : ∀ (X : Cx), X.prog = P → X.w = w → X.K = K → X.calm = true → ∀ (i : Nat) (pins : List (Addr × Obj)) (s : Shared) (σ : St) (H : Hp) (E : Value → Shared → Prop), Inv X pins σ H s → (∀ b ∈ fp, FpOk X pins H b) → tn i s.heap → J.stop i H →
    wpAny (model P w) X.A (pyNext (.ref it)) (fun r s1 => r = none ∧ Inv X pins σ H s1) E s
  self : ∀ (A : Around) (i : Nat) (s : Shared) (Q : Value → Shared → Prop) (E : Value → Shared → Prop), tn i s.heap → Q (.ref it) s → wpAny (model P w) A (pyIter (.ref it)) Q E s
abbrev TI := St → Hp → (It → Hp → Prop) → Prop
def PIE (X : Cx) (pins : List (Addr × Obj)) (σ : St) (tg : Expr) (R : It → Hp → Prop) (itv : Value) (s2 : Shared) : Prop :=
  ∃ (it : Addr) (fp : List Addr) (tn : Nat → Heap → Prop) (J : It) (H' : Hp), itv = .ref it ∧ Inv X pins σ H' s2 ∧ Turn X.prog X.w X.K tg J fp it tn ∧ tn 0 s2.heap ∧ (∀ b ∈ fp, FpOk X pins H' b) ∧ R J H'
def PI (X : Cx) (tg iter : Expr) (wi : TI) : Prop :=
  ∀ (pins : List (Addr × Obj)) (s : Shared) (σ : St) (H : Hp) (R : It → Hp → Prop), Inv X pins σ H s → wi σ H R →
    wpAny (model X.prog X.w) X.A (eval iter X.env) (fun v s1 => wpAny (model X.prog X.w) X.A (pyIter v) (PIE X pins σ tg R) X.xe s1) X.xe s
theorem go_of {M : Model} {A : Around} {E : Value → Shared → Prop} {s : Shared} {tg : Expr} {it : Addr} {u : Value} {o : Obj} {n : String} {vs : Array Value} {Q : Unit → Shared → Prop} (ho : s.heap.get? it = some o) (hc : o.cls = .type n) (hd : o.data = .fields vs)
    (hn : ["enumerate", "zip", "dict_itemiterator", "dict_reverseitemiterator", "odict_iterator", "itertools.zip_longest", "itertools.pairwise"].contains n = false) (hQ : Q () s) : wpAny M A (letOwnedTupleGo tg (.ref it) u) Q E s := by
  unfold letOwnedTupleGo
  cases tg <;> first
    | exact wpAny_pure hQ
    | (cases u <;> first
        | exact wpAny_pure hQ
        | (refine wpAny_bind (wpAny_load ho ?_)
           rw [hc, hd]
           show wpAny M A (if (["enumerate", "zip", "dict_itemiterator", "dict_reverseitemiterator", "odict_iterator", "itertools.zip_longest", "itertools.pairwise"].contains n && vs[0]? == some (rawInt _)) = true then _ else _) Q E s
           rw [if_neg (by intro h; rw [hn, Bool.false_and] at h; cases h)]
           exact wpAny_pure hQ))
def Itl (K : PySem.W.Frag) (a : Addr) : It :=
  ⟨fun i H => ∃ xs x, SqL K H a xs ∧ xs[i]? = some x, fun i H x H' => H' = H ∧ ∀ xs, SqL K H a xs → xs[i]? = some x, fun i H => ∃ xs, SqL K H a xs ∧ xs.length ≤ i⟩
def Itt (K : PySem.W.Frag) (a : Addr) : It :=
  ⟨fun i H => ∃ xs x, SqT K H a xs ∧ xs[i]? = some x, fun i H x H' => H' = H ∧ ∀ xs, SqT K H a xs → xs[i]? = some x, fun i H => ∃ xs, SqT K H a xs ∧ xs.length ≤ i⟩
def Itr (lo : Int) (n : Nat) : It := ⟨fun i _ => i < n, fun i H x H' => H' = H ∧ x = .int (lo + i), fun i _ => n ≤ i⟩
theorem turn_list {P : Program} {w : World} {K : PySem.W.Frag} {tg : Expr} (a it : Addr) : Turn P w K tg (Itl K a) [it] it (fun i h => h.IsListIter it a i) where
  mem := by simp
  obj := fun i h st b hb => by
    have e : b = it := by simpa using hb
    subst e
    obtain ⟨o, e, c, d⟩ := st
    exact ⟨o, e, fun v z => by rw [d] at z; cases z⟩
  keep := fun i h h' st k => st.at fun o e => k it (by simp) o e
  item := by
    intro X hP hw hK hc i pins s σ H E I hf st hg
    subst hP hw hK
    obtain ⟨xs, x, hq, hx⟩ := hg
    obtain ⟨its, rv, p, hz⟩ := I.list hq
    obtain ⟨u, hu, ru⟩ := rv.get hx
    obtain ⟨f0, f1, f2, f3, f4, f5⟩ := hf it (by simp)
    refine wpAny_pyNext_list_item st p.isList (x := u) (by simpa using hu) fun h' st' sb => ?_
    have I1 : Inv X pins σ H { s with heap := h' } := I.turned (t' := s.toks) (fun b o hb e => (sb.2 b hb).trans e) f0 f1 f3 f4 f5
    obtain ⟨o, e, c, d⟩ := id st'
    exact ⟨u, rfl, go_of (s := { s with heap := h' }) e c d (by decide) ⟨x, H, I1, ru, ⟨rfl, fun ys hy => by rw [I.list_inj hy hq]; exact hx⟩, st', fun b hb => (hf b hb).1⟩⟩
  done := by
    intro X hP hw hK hc i pins s σ H E I hf st hg
    subst hP hw hK
    obtain ⟨xs, hq, hx⟩ := hg
    obtain ⟨its, rv, p, hz⟩ := I.list hq
    obtain ⟨f0, f1, f2, f3, f4, f5⟩ := hf it (by simp)
    have hl := rv.length
    exact wpAny_pyNext_list_end (I.ok.hd hc) st p.isList (by simp; omega) fun h' eb => ⟨rfl, I.turned (t' := s.toks) (fun b o hb e => eb b o hb e) f0 f1 f3 f4 f5⟩
  self := fun _ _ _ _ _ st h => wpAny_pyIter_listiter st h
theorem turn_tuple {P : Program} {w : World} {K : PySem.W.Frag} {tg : Expr} (a it : Addr) : Turn P w K tg (Itt K a) [it] it (fun i h => h.IsTupleIter it a i) where
  mem := by simp
  obj := fun i h st b hb => by
    have e : b = it := by simpa using hb
    subst e
    obtain ⟨o, e, c, d⟩ := st
    exact ⟨o, e, fun v z => by rw [d] at z; cases z⟩
  keep := fun i h h' st k => st.at fun o e => k it (by simp) o e
  item := by
    intro X hP hw hK hc i pins s σ H E I hf st hg
    subst hP hw hK
    obtain ⟨xs, x, hq, hx⟩ := hg
    obtain ⟨its, rv, p, hz⟩ := I.tuple hq
    obtain ⟨u, hu, ru⟩ := rv.get hx
    obtain ⟨f0, f1, f2, f3, f4, f5⟩ := hf it (by simp)
    refine wpAny_pyNext_tuple_item st (show s.heap.IsTuple a its.toArray from p) (x := u) (by simpa using hu) fun h' st' sb => ?_
    have I1 : Inv X pins σ H { s with heap := h' } := I.turned (t' := s.toks) (fun b o hb e => (sb.2 b hb).trans e) f0 f1 f3 f4 f5
    obtain ⟨o, e, c, d⟩ := id st'
    exact ⟨u, rfl, go_of (s := { s with heap := h' }) e c d (by decide) ⟨x, H, I1, ru, ⟨rfl, fun ys hy => by rw [I.tuple_inj hy hq]; exact hx⟩, st', fun b hb => (hf b hb).1⟩⟩
  done := by
    intro X hP hw hK hc i pins s σ H E I hf st hg
    subst hP hw hK
    obtain ⟨xs, hq, hx⟩ := hg
    obtain ⟨its, rv, p, hz⟩ := I.tuple hq
    obtain ⟨f0, f1, f2, f3, f4, f5⟩ := hf it (by simp)
    have hl := rv.length
    exact wpAny_pyNext_tuple_end (I.ok.hd hc) st (show s.heap.IsTuple a its.toArray from p) (by simp; omega) fun h' eb => ⟨rfl, I.turned (t' := s.toks) (fun b o hb e => eb b o hb e) f0 f1 f3 f4 f5⟩
  self := fun _ _ _ _ _ st h => wpAny_pyIter_tupleiter st h
theorem turn_range {P : Program} {w : World} {K : PySem.W.Frag} {tg : Expr} (it : Addr) (lo : Int) (n : Nat) : Turn P w K tg (Itr lo n) [it] it (fun i h => IsRangeIter h it (lo + (i : Nat) * 1) ((n : Int) - (i : Nat)) 1) where
  mem := by simp
  obj := fun i h st b hb => by
    have e : b = it := by simpa using hb
    subst e
    exact ⟨_, st, fun v z => by
      have z' : Data.fields _ = Data.cell v := z
      cases z'⟩
  keep := fun i h h' st k => k it (by simp) _ st
  item := by
    intro X hP hw hK hc i pins s σ H E I hf st hg
    subst hP hw hK
    obtain ⟨f0, f1, f2, f3, f4, f5⟩ := hf it (by simp)
    have W := Walks.range (prog := X.prog) (w := X.w) (I.ok.hd hc) it lo 1 n
    refine W.item i s _ _ hg st fun v h' tk hv st' kk => ?_
    obtain ⟨t, rfl⟩ := hv
    have I1 : Inv X pins σ H { s with heap := h', toks := tk } := I.turned (fun b o hb e => kk b o (by simpa using hb) e) f0 f1 f3 f4 f5
    refine ⟨_, rfl, go_of (s := { s with heap := h', toks := tk }) (n := "range_iterator") st' rfl rfl (by decide) ⟨.int (lo + i), H, I1, ⟨t, ?_⟩, ⟨rfl, rfl⟩, st', fun b hb => (hf b hb).1⟩⟩
    rw [Int.mul_one]
  done := by
    intro X hP hw hK hc i pins s σ H E I hf st hg
    subst hP hw hK
    obtain ⟨f0, f1, f2, f3, f4, f5⟩ := hf it (by simp)
    exact wpAny_pyNext_range_end (I.ok.hd hc) st (by have : n ≤ i := hg; omega) fun h' eb => ⟨rfl, I.turned (t' := s.toks) (fun b o hb e => eb b o hb e) f0 f1 f3 f4 f5⟩
  self := fun _ _ _ _ _ st h => wpAny_pyIter_rangeiter st h
end L2
namespace L2
open PySem PySem.Spec PyProof.Rows
section
variable {X : Cx} {tg : Expr}
def iList (K : PySem.W.Frag) (tl : TE) : TI := fun σ H R => tl σ H fun x H1 => ∃ a, x = .ref a ∧ (∃ xs, SqL K H1 a xs) ∧ R (Itl K a) H1
def iTup (K : PySem.W.Frag) (tl : TE) : TI := fun σ H R => tl σ H fun x H1 => ∃ a, x = .ref a ∧ (∃ xs, SqT K H1 a xs) ∧ R (Itt K a) H1
theorem range_it {pins : List (Addr × Obj)} {σ : St} {H : Hp} {s : Shared} {R : It → Hp → Prop} {E : Value → Shared → Prop} {lo hi : Int} {t u v : Tok} {tk : Nat} (I : Inv X pins σ H s) (h1 : -(2 ^ 62) ≤ lo) (h2 : lo < 2 ^ 62) (h3 : -(2 ^ 62) ≤ hi) (h4 : hi < 2 ^ 62)
    (q : R (Itr lo (hi - lo).toNat) H) : wpAny (model X.prog X.w) X.A (pyIter (.ref s.heap.objs.size)) (PIE X pins σ tg R) E { s with heap := s.heap.push { cls := .type "range", data := .fields #[.int lo t, .int hi u, .int 1 v] }, toks := tk } := by
  refine wpAny_pyIter_range (IsRange.new ..) (small_one h1 h2 h3 h4) ?_
  have I1 : Inv X pins σ H { s with heap := s.heap.push { cls := .type "range", data := .fields #[.int lo t, .int hi u, .int 1 v] }, toks := tk } := I.kept fun b o e => Heap.get?_push_of_some _ e
  refine ⟨(s.heap.push { cls := .type "range", data := .fields #[.int lo t, .int hi u, .int 1 v] }).objs.size, [(s.heap.push { cls := .type "range", data := .fields #[.int lo t, .int hi u, .int 1 v] }).objs.size], _, _, H, rfl,
    I1.kept (t' := tk) fun b o e => Heap.get?_push_of_some _ e, turn_range _ lo (hi - lo).toNat, ?_, fun b hb => ?_, q⟩
  · have e1 : lo + ((0 : Nat) : Int) * 1 = lo := by simp
    have e2 : (((hi - lo).toNat : Nat) : Int) - ((0 : Nat) : Int) = Builtin.Range.rangeSize lo hi 1 := by rw [rangeSize_one]; split <;> omega
    show IsRangeIter _ _ (lo + ((0 : Nat) : Int) * 1) ((((hi - lo).toNat : Nat) : Int) - ((0 : Nat) : Int)) 1
    rw [e1, e2]
    exact Heap.get?_push_size _ rfl
  · have e : b = (s.heap.push { cls := .type "range", data := .fields #[.int lo t, .int hi u, .int 1 v] }).objs.size := by simpa using hb
    subst e
    exact I1.fpOk (Nat.le_refl _) (I1.hok.fresh (Nat.le_refl _))
def iRng1 (ta : TA) : TI := fun σ H R => ta σ H fun vs H1 => ∃ j : Int, vs = [.int j] ∧ -(2 ^ 62) ≤ j ∧ j < 2 ^ 62 ∧ R (Itr 0 j.toNat) H1
def iRng2 (ta : TA) : TI := fun σ H R => ta σ H fun vs H1 => ∃ i j : Int, vs = [.int i, .int j] ∧ (-(2 ^ 62) ≤ i ∧ i < 2 ^ 62 ∧ -(2 ^ 62) ≤ j ∧ j < 2 ^ 62) ∧ R (Itr i (j - i).toNat) H1
theorem pi_range1 {a : Expr} {ta : TA} {p pos : Pos} (hg : Gl X "range") (hm : X.mg "range" = none) (ha : PA X [a] ta) (hs : starEach [a] X.env = [(false, eval a X.env)] := by rfl) : PI X tg (.Call (.Name "range" p) [a] [] pos) (iRng1 ta) := by
  intro pins s σ H R I h
  refine Call_ (ld_blt I hg hm boot_range (PyProof.Rows.callWith_type1 (thn (ha pos pins s σ H _ I h) fun us s1 ⟨vs, H1, I1, r1, q1⟩ => ?_) hs rfl))
  obtain ⟨j, e, q1, q2, q⟩ := q1
  subst e
  cases r1 with
  | cons r rr =>
    cases rr
    obtain ⟨t, rfl⟩ := r
    exact call_range_1 (range_it I1 (by omega) (by omega) q1 q2 (by simpa using q))
def tFor (wi : TI) (g : TG) (tb : TS) : TS := fun D σ H => wi σ H fun J H1 => ∃ W : Nat → Nat → St → Hp → Prop, (∃ m, W 0 m σ H1) ∧ ∀ i m σ H, W i m σ H →
  (J.stop i H ∧ D.nx σ H) ∨ (J.go i H ∧ ∃ N : St → Hp → Prop, (∀ σ' H', N σ' H' → ∃ m', m' < m ∧ W (i + 1) m' σ' H') ∧ ∀ x H', J.yld i H x H' → g x σ H' fun σ2 H2 => tb { D with nx := N, ct := N, bk := D.nx } σ2 H2)
def pinsAt (fp : List Addr) (h : Heap) : List (Addr × Obj) := fp.filterMap fun b => (h.get? b).map fun o => (b, o)
theorem mem_pinsAt {fp : List Addr} {h : Heap} {b : Addr} {o : Obj} (hb : b ∈ fp) (e : h.get? b = some o) : (b, o) ∈ pinsAt fp h := List.mem_filterMap.mpr ⟨b, hb, by rw [e]; rfl⟩
theorem of_pinsAt {fp : List Addr} {h : Heap} {p : Addr × Obj} (hp : p ∈ pinsAt fp h) : p.1 ∈ fp ∧ h.get? p.1 = some p.2 := by
  obtain ⟨b, hb, e⟩ := List.mem_filterMap.mp hp
  cases q : h.get? b with
  | none => rw [q] at e; cases e
  | some o =>
    rw [q] at e
    have e' : (b, o) = p := Option.some.inj e
    subst e'
    exact ⟨hb, q⟩
theorem Inv.pinned {pins : List (Addr × Obj)} {σ : St} {H : Hp} {s : Shared} {fp : List Addr} (I : Inv X pins σ H s) (hf : ∀ b ∈ fp, FpOk X pins H b) (ho : ∀ b ∈ fp, ∃ o, s.heap.get? b = some o ∧ ∀ v, o.data ≠ .cell v) : Inv X (pins ++ pinsAt fp s.heap) σ H s :=
  I.pins_of fun p hp => (List.mem_append.mp hp).elim (fun z => I.pin p (List.mem_append_right _ z)) fun z => by
    obtain ⟨hb, e⟩ := of_pinsAt z
    obtain ⟨f0, f1, f2, _⟩ := hf p.1 hb
    obtain ⟨o, e', d⟩ := ho p.1 hb
    rw [e] at e'; cases e'
    exact ⟨e, f0, f1, f2, d⟩
theorem Inv.unpinned {pins pl : List (Addr × Obj)} {σ : St} {H : Hp} {s : Shared} (I : Inv X (pins ++ pl) σ H s) : Inv X pins σ H s := I.pins_of fun p hp => I.pin p (List.mem_append_right _ (List.mem_append_left _ hp))
theorem ps_for {iter : Expr} {body : List Stmt} {wi : TI} {g : TG} {tb : TS} {pos : Pos} (hp : PassesOwn (model X.prog X.w) X.A X.env X.xe) (hc : X.calm = true) (hi : PI X tg iter wi) (hg : PG X tg g) (hb : PSs X body tb)
    (hs : ∀ x, foldedSetIterable iter X.env x = pure x := by intro _; rfl) : PS X (.For tg iter body [] pos) (tFor wi g tb) := by
  intro pins s σ H D I h
  refine wpAny_For (thn (hi pins s σ H _ I h) fun v s1 h1 => thn h1 fun itv s2 h2 => ?_) hs
  obtain ⟨it, fp, tn, J, H2, e, I2, T, st2, f2, W, ⟨m0, w0⟩, turn⟩ := h2
  subst e
  have stat : ∀ {H' : Hp}, (∀ b ∈ fp, H' b = none) → ∀ b ∈ fp, FpOk X pins H' b := fun hn b hb => ⟨hn b hb, (f2 b hb).2⟩
  refine codeAny_forLoop_any (fun n s' => ∃ i σ' H', Inv X pins σ' H' s' ∧ tn i s'.heap ∧ (∀ b ∈ fp, H' b = none) ∧ W i n σ' H') ?_ m0 ⟨0, σ, H2, I2, st2, fun b hb => (f2 b hb).1, w0⟩
  rintro n s3 ⟨i, σ3, H3, I3, st3, fr3, w3⟩
  rcases turn i n σ3 H3 w3 with ⟨stop, qn⟩ | ⟨go, N, hN, step⟩
  · refine wpAny_passesOwn hp (thn (T.done X rfl rfl rfl hc i pins s3 σ3 H3 X.xe I3 (stat fr3) st3 stop) fun r s4 ⟨hr, I4⟩ => ?_)
    subst hr
    exact wpAny_execs_nil ⟨σ3, H3, I4, qn⟩
  · refine wpAny_passesOwn hp (thn (T.item X rfl rfl rfl hc i pins s3 σ3 H3 X.xe I3 (stat fr3) st3 go) fun r s4 ⟨u, hr, h4⟩ => ?_)
    subst hr
    refine wpAny_passesOwn hp (thn h4 fun _ s5 ⟨x, H5, I5, r5, y5, st5, fr5⟩ => ?_)
    have I5' := I5.pinned (stat fr5) (T.obj _ _ st5)
    refine wpAny_passesOwn hp (thn (hg _ s5 σ3 H5 x u _ I5' r5 (step x H5 y5)) fun _ s6 ⟨σ6, H6, I6, q6⟩ => ?_)
    refine wpAny_passesOwn hp (thn (hb _ s6 σ6 H6 _ I6 q6) fun f s7 q7 => ?_)
    have again : ∀ {σ7 : St} {H7 : Hp}, Inv X (pins ++ pinsAt fp s5.heap) σ7 H7 s7 → N σ7 H7 → ∃ m, m < n ∧ ∃ i σ' H', Inv X pins σ' H' s7 ∧ tn i s7.heap ∧ (∀ b ∈ fp, H' b = none) ∧ W i m σ' H' := fun {σ7 H7} I7 n7 => by
      obtain ⟨m', hm, w7⟩ := hN σ7 H7 n7
      refine ⟨m', hm, i + 1, σ7, H7, I7.unpinned, T.keep _ _ _ st5 fun b hb o e => (I7.pin (b, o) (List.mem_append_right _ (List.mem_append_right _ (mem_pinsAt hb e)))).1, fun b hb => ?_, w7⟩
      obtain ⟨o, e, d⟩ := T.obj _ _ st5 b hb
      exact (I7.pin (b, o) (List.mem_append_right _ (List.mem_append_right _ (mem_pinsAt hb e)))).2.1
    cases f with
    | next => obtain ⟨σ7, H7, I7, n7⟩ := q7; exact again I7 n7
    | cont => obtain ⟨σ7, H7, I7, n7⟩ := q7; exact again I7 n7
    | brk => obtain ⟨σ7, H7, I7, q7⟩ := q7; exact ⟨σ7, H7, I7.unpinned, q7⟩
    | ret v => obtain ⟨x7, σ7, H7, I7, r7, q7⟩ := q7; exact ⟨x7, σ7, H7, I7.unpinned, r7, q7⟩
end
end L2
namespace L2
open PySem PySem.Spec PyProof.Rows
abbrev R2 := V → V → Hp → VK → Prop
def OpR (X : Cx) (f : Value → Value → Sem Value) (r : R2) : Prop :=
  ∀ (pins : List (Addr × Obj)) (s : Shared) (σ : St) (H : Hp) (x y : V) (v u : Value) (Q : VK), Inv X pins σ H s → RelV x v → RelV y u → r x y H Q →
    wpAny (model X.prog X.w) X.A (f v u) (EP X pins σ Q) X.xe s
def UnR (X : Cx) (f : Value → Sem Value) (r : V → Hp → VK → Prop) : Prop :=
  ∀ (pins : List (Addr × Obj)) (s : Shared) (σ : St) (H : Hp) (x : V) (v : Value) (Q : VK), Inv X pins σ H s → RelV x v → r x H Q →
    wpAny (model X.prog X.w) X.A (f v) (EP X pins σ Q) X.xe s
def CallR (X : Cx) (f : Value) (r : List V → Hp → VK → Prop) : Prop :=
  ∀ (pins : List (Addr × Obj)) (s : Shared) (σ : St) (H : Hp) (xs : List V) (us : List Value) (Q : VK), Inv X pins σ H s → Vals xs us → r xs H Q →
    wpAny (model X.prog X.w) X.A (call f us) (EP X pins σ Q) X.xe s
def TruR (X : Cx) (r : V → Hp → (Bool → Hp → Prop) → Prop) : Prop :=
  ∀ (pins : List (Addr × Obj)) (s : Shared) (σ : St) (H : Hp) (x : V) (v : Value) (Q : Bool → Hp → Prop), Inv X pins σ H s → RelV x v → r x H Q →
    wpAny (model X.prog X.w) X.A (truthy v) (TP X pins σ Q) X.xe s
def tOp (r : R2) (ta tb : TE) : TE := fun σ H Q => ta σ H fun x H1 => tb σ H1 fun y H2 => r x y H2 Q
def tUn (r : V → Hp → VK → Prop) (ta : TE) : TE := fun σ H Q => ta σ H fun x H1 => r x H1 Q
def rI (C : Int → Int → Prop) (g : Int → Int → V) : R2 := fun x y H Q => ∃ i j, x = .int i ∧ y = .int j ∧ C i j ∧ Q (g i j) H
def rI0 (g : Int → Int → V) : R2 := fun x y H Q => ∃ i j, x = .int i ∧ y = .int j ∧ Q (g i j) H
def rU (g : Int → V) : V → Hp → VK → Prop := fun x H Q => ∃ i, x = .int i ∧ Q (g i) H
section
variable {X : Cx} {a b c : Expr} {ta tb tc : TE} {pos : Pos}
theorem binT (ha : PE X a ta) (hb : PE X b tb) {pins : List (Addr × Obj)} {s : Shared} {σ : St} {H : Hp} {R : V → V → Hp → Prop} (I : Inv X pins σ H s)
    (h : ta σ H fun x H1 => tb σ H1 fun y H2 => R x y H2) {Q : Value → Shared → Prop} {f : Value → Value → Sem Value}
    (hf : ∀ v u s2 x y H2, Inv X pins σ H2 s2 → RelV x v → RelV y u → R x y H2 → wpAny (model X.prog X.w) X.A (f v u) Q X.xe s2) :
    wpAny (model X.prog X.w) X.A (eval a X.env) (fun v s₁ => wpAny (model X.prog X.w) X.A (eval b X.env) (fun u s₂ => wpAny (model X.prog X.w) X.A (f v u) Q X.xe s₂) X.xe s₁) X.xe s := by
  refine thn (ha pins s σ H _ I h) fun v s1 ⟨x, H1, I1, r1, q1⟩ => ?_
  refine thn (hb pins s1 σ H1 _ I1 q1) fun u s2 ⟨y, H2, I2, r2, q2⟩ => ?_
  exact hf v u s2 x y H2 I2 r1 r2 q2
theorem pe_op {op : Operator} {r : R2} (ho : OpR X (binaryOp op) r) (ha : PE X a ta) (hb : PE X b tb) : PE X (.BinOp a op b pos) (tOp r ta tb) := by
  intro pins s σ H Q I h
  exact wpAny_BinOp (binT ha hb I h fun v u s2 x y H2 I2 rx ry q => ho pins s2 σ H2 x y v u Q I2 rx ry q)
theorem pe_un {op : UnaryOp} {r : V → Hp → VK → Prop} (ho : UnR X (unaryOp op) r) (ha : PE X a ta) : PE X (.UnaryOp op a pos) (tUn r ta) := by
  intro pins s σ H Q I h
  exact UnaryOp_ (thn (ha pins s σ H _ I h) fun v s1 ⟨x, H1, I1, r1, q1⟩ => ho pins s1 σ H1 x v Q I1 r1 q1)
theorem opI {f : Value → Value → Sem Value} {C : Int → Int → Prop} {g : Int → Int → Int}
    (rule : ∀ (i j : Int) (t u : Tok) (s : Shared) (Q : Value → Shared → Prop) (E : Value → Shared → Prop), C i j → Q (.int (g i j) s.toks) { s with toks := s.toks + 1 } → wpAny (model X.prog X.w) X.A (f (.int i t) (.int j u)) Q E s) :
    OpR X f (rI C fun i j => .int (g i j)) := by
  intro pins s σ H x y v u Q I rx ry h
  obtain ⟨i, j, rfl, rfl, hc, q⟩ := h
  obtain ⟨t, rfl⟩ := rx
  obtain ⟨t', rfl⟩ := ry
  exact rule i j t t' s _ _ hc ⟨.int (g i j), H, I.tok _, ⟨_, rfl⟩, q⟩
theorem opI0 {f : Value → Value → Sem Value} {g : Int → Int → Int}
    (rule : ∀ (i j : Int) (t u : Tok) (s : Shared) (Q : Value → Shared → Prop) (E : Value → Shared → Prop), Q (.int (g i j) s.toks) { s with toks := s.toks + 1 } → wpAny (model X.prog X.w) X.A (f (.int i t) (.int j u)) Q E s) :
    OpR X f (rI0 fun i j => .int (g i j)) := by
  intro pins s σ H x y v u Q I rx ry h
  obtain ⟨i, j, rfl, rfl, q⟩ := h
  obtain ⟨t, rfl⟩ := rx
  obtain ⟨t', rfl⟩ := ry
  exact rule i j t t' s _ _ ⟨.int (g i j), H, I.tok _, ⟨_, rfl⟩, q⟩
theorem opB0 {f : Value → Value → Sem Value} {g : Int → Int → Bool}
    (rule : ∀ (i j : Int) (t u : Tok) (s : Shared) (Q : Value → Shared → Prop) (E : Value → Shared → Prop), Q (.bool (g i j)) s → wpAny (model X.prog X.w) X.A (f (.int i t) (.int j u)) Q E s) :
    OpR X f (rI0 fun i j => .bl (g i j)) := by
  intro pins s σ H x y v u Q I rx ry h
  obtain ⟨i, j, rfl, rfl, q⟩ := h
  obtain ⟨t, rfl⟩ := rx
  obtain ⟨t', rfl⟩ := ry
  exact rule i j t t' s _ _ ⟨.bl (g i j), H, I, rfl, q⟩
def CDiv (i j : Int) : Prop := 0 < j ∧ j < 1073741824
def CDivN (i j : Int) : Prop := j ≠ 0 ∧ j.natAbs < 1073741824
def CPow (i j : Int) : Prop := 0 ≤ j ∧ j ≤ 1000000 ∧ i.natAbs < 2 ^ 64
def CMul (i j : Int) : Prop := (-(2 ^ 64) < i ∧ i < 2 ^ 64) ∨ (-(2 ^ 64) < j ∧ j < 2 ^ 64)
theorem op_add : OpR X (binaryOp .Add) (rI0 fun i j => .int (i + j)) := opI0 fun _ _ _ _ _ _ _ q => add_int q
theorem op_sub : OpR X (binaryOp .Sub) (rI0 fun i j => .int (i - j)) := opI0 fun _ _ _ _ _ _ _ q => sub_int q
theorem op_modN : OpR X (binaryOp .Mod) (rI (fun _ j => j ≠ 0) fun i j => .int (i.fmod j)) := opI fun _ _ _ _ _ _ _ hc q => mod_int' hc q
theorem op_pow : OpR X (binaryOp .Pow) (rI CPow fun i j => .int (i ^ j.toNat)) := opI fun _ _ _ _ _ _ _ hc q => pow_int_small hc.1 hc.2.1 hc.2.2 q
theorem op_shl : OpR X (binaryOp .LShift) (rI CPow fun i j => .int (i * 2 ^ j.toNat)) := opI fun _ _ _ _ _ _ _ hc q => lshift_int_small hc.1 hc.2.1 hc.2.2 q
theorem unI {f : Value → Sem Value} {g : Int → Int}
    (rule : ∀ (i : Int) (t : Tok) (s : Shared) (Q : Value → Shared → Prop) (E : Value → Shared → Prop), Q (.int (g i) s.toks) { s with toks := s.toks + 1 } → wpAny (model X.prog X.w) X.A (f (.int i t)) Q E s) :
    UnR X f (rU fun i => .int (g i)) := by
  intro pins s σ H x v Q I rx h
  obtain ⟨i, rfl, q⟩ := h
  obtain ⟨t, rfl⟩ := rx
  exact rule i t s _ _ ⟨.int (g i), H, I.tok _, ⟨_, rfl⟩, q⟩
theorem un_neg : UnR X (unaryOp .USub) (rU fun i => .int (-i)) := unI fun _ _ _ _ _ q => neg_int q
end
def scal : V → V → Bool
  | .non, .non => true | .non, .int _ => true | .int _, .non => true | .non, .bl _ => true | .bl _, .non => true | .non, .str _ => true | .str _, .non => true
  | .int _, .int _ => true | .bl _, .bl _ => true | .str _, .str _ => true | .byt _, .byt _ => true
  | .int _, .str _ => true | .str _, .int _ => true | .bl _, .str _ => true | .str _, .bl _ => true
  | _, _ => false
def rEq : R2 := fun x y H Q => scal x y = true ∧ Q (.bl (decide (x = y))) H
def rNe : R2 := fun x y H Q => scal x y = true ∧ Q (.bl (!decide (x = y))) H
theorem dec_int {i j : Int} : decide (V.int i = V.int j) = (i == j) := by
  rw [Bool.eq_iff_iff]
  simp
theorem dec_bl {i j : Bool} : decide (V.bl i = V.bl j) = (i == j) := by
  rw [Bool.eq_iff_iff]
  simp
theorem dec_str {i j : Str} : decide (V.str i = V.str j) = (i == j) := by
  rw [Bool.eq_iff_iff]
  simp
theorem dec_byt {i j : Array UInt8} : decide (V.byt i = V.byt j) = (i.toList == j.toList) := by
  rw [Bool.eq_iff_iff]
  cases i
  cases j
  simp
section
variable {X : Cx} {a b c : Expr} {ta tb tc : TE} {pos : Pos}
theorem fin_bl {pins : List (Addr × Obj)} {σ : St} {H : Hp} {s : Shared} {Q : VK} {k k' : Bool} (I : Inv X pins σ H s) (q : Q (.bl k) H) (e : k = k') : EP X pins σ Q (.bool k') s := by
  subst e
  exact ⟨.bl k, H, I, rfl, q⟩
theorem op_eq : OpR X (compareOp .Eq) rEq := by
  intro pins s σ H x y v u Q I rx ry h
  obtain ⟨hs, q⟩ := h
  cases x with
  | non =>
    cases rx
    cases y with
    | non => cases ry; exact PySem.EqNone.eq_none_none (fin_bl I q (by simp))
    | bl j => cases ry; exact PySem.EqNone.eq_none_bool (fin_bl I q (by simp))
    | int j => obtain ⟨t', rfl⟩ := ry; exact PySem.EqNone.eq_none_int (fin_bl I q (by simp))
    | str j => obtain ⟨t', rfl⟩ := ry; exact PySem.EqNone.eq_none_str (fin_bl I q (by simp))
    | _ => exact absurd (show false = true from hs) Bool.false_ne_true
  | bl i =>
    cases rx
    cases y with
    | non => cases ry; exact PySem.EqNone.eq_bool_none (fin_bl I q (by simp))
    | bl j => cases ry; exact eq_bool (fin_bl I q dec_bl)
    | str j => obtain ⟨t', rfl⟩ := ry; exact PySem.EqMixed.eq_bool_str (fin_bl I q (by simp))
    | _ => exact absurd (show false = true from hs) Bool.false_ne_true
  | int i =>
    obtain ⟨t, rfl⟩ := rx
    cases y with
    | non => cases ry; exact PySem.EqNone.eq_int_none (fin_bl I q (by simp))
    | int j => obtain ⟨t', rfl⟩ := ry; exact eq_int (fin_bl I q dec_int)
    | str j => obtain ⟨t', rfl⟩ := ry; exact PySem.EqMixed.eq_int_str (fin_bl I q (by simp))
    | _ => exact absurd (show false = true from hs) Bool.false_ne_true
  | str i =>
    obtain ⟨t, rfl⟩ := rx
    cases y with
    | non => cases ry; exact PySem.EqNone.eq_str_none (fin_bl I q (by simp))
    | bl j => cases ry; exact PySem.EqMixed.eq_str_bool (fin_bl I q (by simp))
    | int j => obtain ⟨t', rfl⟩ := ry; exact PySem.EqMixed.eq_str_int (fin_bl I q (by simp))
    | str j => obtain ⟨t', rfl⟩ := ry; exact eq_str (fin_bl I q dec_str)
    | _ => exact absurd (show false = true from hs) Bool.false_ne_true
  | byt i =>
    obtain ⟨t, rfl⟩ := rx
    cases y with
    | byt j => obtain ⟨t', rfl⟩ := ry; exact PySem.W.eq_bytes (fin_bl I q dec_byt)
    | _ => exact absurd (show false = true from hs) Bool.false_ne_true
  | _ => cases y <;> exact absurd (show false = true from hs) Bool.false_ne_true
theorem op_ne : OpR X (compareOp .NotEq) rNe := by
  intro pins s σ H x y v u Q I rx ry h
  obtain ⟨hs, q⟩ := h
  cases x with
  | non =>
    cases rx
    cases y with
    | non => cases ry; exact PySem.EqNone.ne_none_none (fin_bl I q (by simp))
    | bl j => cases ry; exact PySem.EqNone.ne_none_bool (fin_bl I q (by simp))
    | int j => obtain ⟨t', rfl⟩ := ry; exact PySem.EqNone.ne_none_int (fin_bl I q (by simp))
    | str j => obtain ⟨t', rfl⟩ := ry; exact PySem.EqNone.ne_none_str (fin_bl I q (by simp))
    | _ => exact absurd (show false = true from hs) Bool.false_ne_true
  | bl i =>
    cases rx
    cases y with
    | non => cases ry; exact PySem.EqNone.ne_bool_none (fin_bl I q (by simp))
    | bl j => cases ry; exact ne_bool (fin_bl I q (congrArg not dec_bl))
    | str j => obtain ⟨t', rfl⟩ := ry; exact PySem.EqMixed.ne_bool_str (fin_bl I q (by simp))
    | _ => exact absurd (show false = true from hs) Bool.false_ne_true
  | int i =>
    obtain ⟨t, rfl⟩ := rx
    cases y with
    | non => cases ry; exact PySem.EqNone.ne_int_none (fin_bl I q (by simp))
    | int j => obtain ⟨t', rfl⟩ := ry; exact ne_int (fin_bl I q (congrArg not dec_int))
    | str j => obtain ⟨t', rfl⟩ := ry; exact PySem.EqMixed.ne_int_str (fin_bl I q (by simp))
    | _ => exact absurd (show false = true from hs) Bool.false_ne_true
  | str i =>
    obtain ⟨t, rfl⟩ := rx
    cases y with
    | non => cases ry; exact PySem.EqNone.ne_str_none (fin_bl I q (by simp))
    | bl j => cases ry; exact PySem.EqMixed.ne_str_bool (fin_bl I q (by simp))
    | int j => obtain ⟨t', rfl⟩ := ry; exact PySem.EqMixed.ne_str_int (fin_bl I q (by simp))
    | str j => obtain ⟨t', rfl⟩ := ry; exact ne_str (fin_bl I q (congrArg not dec_str))
    | _ => exact absurd (show false = true from hs) Bool.false_ne_true
  | byt i =>
    obtain ⟨t, rfl⟩ := rx
    cases y with
    | byt j => obtain ⟨t', rfl⟩ := ry; exact PySem.W.ne_bytes (fin_bl I q (congrArg not dec_byt))
    | _ => exact absurd (show false = true from hs) Bool.false_ne_true
  | _ => cases y <;> exact absurd (show false = true from hs) Bool.false_ne_true
theorem op_lt : OpR X (compareOp .Lt) (rI0 fun i j => .bl (decide (i < j))) := opB0 fun _ _ _ _ _ _ _ q => lt_int q
theorem op_le : OpR X (compareOp .LtE) (rI0 fun i j => .bl (decide (i ≤ j))) := opB0 fun _ _ _ _ _ _ _ q => le_int q
theorem op_gt : OpR X (compareOp .Gt) (rI0 fun i j => .bl (decide (j < i))) := opB0 fun _ _ _ _ _ _ _ q => gt_int q
theorem op_ge : OpR X (compareOp .GtE) (rI0 fun i j => .bl (decide (j ≤ i))) := opB0 fun _ _ _ _ _ _ _ q => ge_int q
theorem op_isN : OpR X (compareOp .Is) (fun x y H Q => y = .non ∧ Q (.bl (decide (x = .non))) H) := by
  intro pins s σ H x y v u Q I rx ry h
  obtain ⟨rfl, q⟩ := h
  cases ry
  refine is_none_gen (fin_bl I q ?_)
  cases x <;> first
    | (cases rx; rfl)
    | (obtain ⟨t, rfl⟩ := rx; rfl)
theorem op_notN : OpR X (compareOp .IsNot) (fun x y H Q => y = .non ∧ Q (.bl (!decide (x = .non))) H) := by
  intro pins s σ H x y v u Q I rx ry h
  obtain ⟨rfl, q⟩ := h
  cases ry
  refine isnot_none_gen (fin_bl I q ?_)
  cases x <;> first
    | (cases rx; rfl)
    | (obtain ⟨t, rfl⟩ := rx; rfl)
def isObj : HO → Bool
  | .lst _ => true
  | .ins _ _ _ => true
  | _ => false
theorem nomark (b : Expr) {op : CmpOp} (h : op ≠ .In := by decide) (h2 : op ≠ .NotIn := by decide) : behindInMarks op b = false := by
  have e1 : (op == CmpOp.In) = false := by cases op <;> first | rfl | exact absurd rfl h
  have e2 : (op == CmpOp.NotIn) = false := by cases op <;> first | rfl | exact absurd rfl h2
  cases b <;> simp [behindInMarks, e1, e2]
theorem pe_cmpR {op : CmpOp} {r : R2} (ho : OpR X (compareOp op) r) (ha : PE X a ta) (hb : PE X b tb) (hm : behindInMarks op b = false) : PE X (.Compare a [op] [b] pos) (tOp r ta tb) := by
  intro pins s σ H Q I h
  exact wpAny_Compare1 (binT ha hb I h fun v u s2 x y H2 I2 rx ry q => ho pins s2 σ H2 x y v u Q I2 rx ry q) hm
def tTest (t : TE) : TT := fun σ H Q => t σ H fun x H' => ∃ k, x = .bl k ∧ Q k H'
theorem pt_cmpR {op : CmpOp} {r : R2} (ho : OpR X (compareOp op) r) (ha : PE X a ta) (hb : PE X b tb) (hm : behindInMarks op b = false) : PT X (.Compare a [op] [b] pos) (tTest (tOp r ta tb)) := by
  intro pins s σ H Q I h
  refine wpAny_isTrue_Compare1 (thn (ha pins s σ H _ I h) fun v s1 ⟨x, H1, I1, r1, q1⟩ => thn (hb pins s1 σ H1 _ I1 q1) fun u s2 ⟨y, H2, I2, r2, q2⟩ =>
    thn (ho pins s2 σ H2 x y v u _ I2 r1 r2 q2) fun c s3 ⟨z, H3, I3, r3, k, e, q3⟩ => ?_) hm
  subst e
  cases r3
  exact wpAny_truthy_bool ⟨H3, I3, q3⟩
def tChain (r r' : R2) (ta tb tc : TE) : TE := fun σ H Q => ta σ H fun x H1 => tb σ H1 fun y H2 => r x y H2 fun z H3 => ∃ k, z = .bl k ∧
  (if k = true then tc σ H3 fun w' H4 => r' y w' H4 Q else Q (.bl false) H3)
def TruV (K : PySem.W.Frag) (x : V) (H : Hp) (k : Bool) : Prop :=
  match x with
  | .non => k = false
  | .bl b => k = b
  | .int i => k = (i != 0)
  | .str y => y.length ≤ sizeLine ∧ k = ((y.length : Int) != 0)
  | .byt y => y.size ≤ sizeLine ∧ k = ((y.size : Int) != 0)
  | .ref p => (∃ xs, SqL K H p xs ∧ k = !xs.isEmpty) ∨ (∃ xs, SqT K H p xs ∧ k = !xs.isEmpty) ∨ ∃ kvs, H p = some (.dK kvs) ∧ k = !kvs.isEmpty
  | _ => False
theorem line63 : (sizeLine : Nat) < 2 ^ 63 := by rw [sizeLine_eq]; decide
theorem op_add_str : OpR X (binaryOp .Add) (fun x y H Q => ∃ i j, x = .str i ∧ y = .str j ∧ i.length + j.length ≤ sizeLine ∧ Q (.str (i ++ j)) H) := by
  intro pins s σ H x y v u Q I rx ry h
  obtain ⟨i, j, rfl, rfl, hz, q⟩ := h
  obtain ⟨t, rfl⟩ := rx
  obtain ⟨t', rfl⟩ := ry
  exact add_str (fun t' tk => ⟨.str (i ++ j), H, I.tok _, ⟨_, rfl⟩, q⟩) hz
def PlainIxT (b : Expr) : Prop := ∀ o i, subscripted b false o i = operate [o, i] (getItem o i)
theorem vals1 {x : V} {us : List Value} (r : Vals [x] us) : ∃ u, us = [u] ∧ RelV x u := by
  cases r with
  | cons r1 r2 => cases r2; exact ⟨_, rfl, r1⟩
theorem vals2 {x y : V} {us : List Value} (r : Vals [x, y] us) : ∃ u w', us = [u, w'] ∧ RelV x u ∧ RelV y w' := by
  cases r with
  | cons r1 r2 =>
    cases r2 with
    | cons r3 r4 => cases r4; exact ⟨_, _, rfl, r1, r3⟩
theorem call_abs : CallR X (.builtin "abs") (fun xs H Q => ∃ i, xs = [.int i] ∧ Q (.int (if i < 0 then -i else i)) H) := by
  intro pins s σ H xs us Q I r h
  obtain ⟨i, rfl, q⟩ := h
  obtain ⟨u, rfl, t, rfl⟩ := vals1 r
  exact call_abs_int fun u tk => ⟨.int (if i < 0 then -i else i), H, I.tok _, ⟨_, rfl⟩, q⟩
theorem call_max2 (hc : X.calm = true) : CallR X (.builtin "max") (fun xs H Q => ∃ i j, xs = [.int i, .int j] ∧ Q (.int (if j > i then j else i)) H) := by
  intro pins s σ H xs us Q I r h
  obtain ⟨i, j, rfl, q⟩ := h
  obtain ⟨u, w', rfl, ⟨t, rfl⟩, ⟨t', rfl⟩⟩ := vals2 r
  refine max_two_ints (I.ok.hd hc) fun h' tk k => ⟨_, H, I.kept k, ?_, q⟩
  by_cases hj : j > i
  · rw [if_pos hj, if_pos hj]; exact ⟨_, rfl⟩
  · rw [if_neg hj, if_neg hj]; exact ⟨_, rfl⟩
theorem call_min2 (hc : X.calm = true) : CallR X (.builtin "min") (fun xs H Q => ∃ i j, xs = [.int i, .int j] ∧ Q (.int (if j < i then j else i)) H) := by
  intro pins s σ H xs us Q I r h
  obtain ⟨i, j, rfl, q⟩ := h
  obtain ⟨u, w', rfl, ⟨t, rfl⟩, ⟨t', rfl⟩⟩ := vals2 r
  refine min_two_ints (I.ok.hd hc) fun h' tk k => ⟨_, H, I.kept k, ?_, q⟩
  by_cases hj : j < i
  · rw [if_pos hj, if_pos hj]; exact ⟨_, rfl⟩
  · rw [if_neg hj, if_neg hj]; exact ⟨_, rfl⟩
theorem call_int1 : CallR X (.type "int") (fun xs H Q => (∃ i, xs = [.int i] ∧ Q (.int i) H) ∨ ∃ k, xs = [.bl k] ∧ Q (.int (if k then 1 else 0)) H) := by
  intro pins s σ H xs us Q I r h
  rcases h with ⟨i, rfl, q⟩ | ⟨k, rfl, q⟩
  · obtain ⟨u, rfl, t, rfl⟩ := vals1 r
    exact call_int_int ⟨.int i, H, I, ⟨_, rfl⟩, q⟩
  · obtain ⟨u, rfl, r1⟩ := vals1 r
    cases r1
    exact call_int_bool ⟨.int (if k then 1 else 0), H, I.tok _, ⟨_, rfl⟩, q⟩
def LenV (K : PySem.W.Frag) (x : V) (H : Hp) (n : Nat) : Prop :=
  match x with
  | .str y => y.length ≤ sizeLine ∧ n = y.length
  | .byt y => y.size ≤ sizeLine ∧ n = y.size
  | .ref p => (∃ xs, SqL K H p xs ∧ n = xs.length) ∨ ∃ xs, SqT K H p xs ∧ n = xs.length
  | _ => False
end
end L2
namespace L2
open PySem PySem.Spec PyProof.Rows
structure ObjM (h : Heap) (x dx C : Addr) (mA : Str → Option Value) : Prop where
  obj : h.get? x = some (PySem.W.instObj C dx)
  ns : h.Ns1 dx mA
  ne : dx ≠ x
section
variable {prog : Program} {w : World} {A : Around} {E : Value → Shared → Prop} {s : Shared} {K : PySem.W.Frag} {x dx C f : Addr} {mA : Str → Option Value} {name : Str} {v : Value}
end
def putF (f : Str) (v : V) : List (Str × V) → List (Str × V)
  | [] => [(f, v)]
  | (g, x) :: r => if g = f then (g, v) :: r else (g, x) :: putF f v r
section
variable {P : Program} {w : World} {H H' : Hp} {h h' : Heap} {a C dx : Addr} {fs fs' : List (Str × V)}
end
structure Cls (K : PySem.W.Frag) (C : Addr) : Prop where
  pg : PySem.W.plainGet K C Str.empty = true
  hd : PySem.W.hasDictIn K C = true
  po : PySem.W.plainOver K C = true
  sa : PySem.W.findIn K (.ref C) "__setattr__" = some (some (.builtin "object.__setattr__"))
def NoAttr (K : PySem.W.Frag) (C : Addr) (f : Str) : Prop := PySem.W.findIn K (.ref C) f = some none
structure Con (K : PySem.W.Frag) (C : Addr) (f : Str) (v : V) (u : Value) : Prop where
  at_ : PySem.W.findIn K (.ref C) f = some (some u)
  rel : RelV v u
  get : PySem.W.specialIn K u "__get__" = some none
  cp : PySem.W.copiedNames.contains f = false
structure Meth (K : PySem.W.Frag) (C : Addr) (m : Str) (f : Addr) : Prop where
  at_ : PySem.W.findIn K (.ref C) m = some (some (.ref f))
  fn : PySem.W.isFn K (.ref f) = true
  kp : PySem.W.keepIn K (.ref f) = true
section
variable {X : Cx} {pins : List (Addr × Obj)} {σ : St} {H : Hp} {s : Shared} {a C dx : Addr} {fs : List (Str × V)} {f : Str} {v : V} {A : Around} {E : Value → Shared → Prop}
end
def tFld (K : PySem.W.Frag) (ta : TE) (f : Str) : TE := fun σ H Q => ta σ H fun x H1 => ∃ a C dx fs v, x = .ref a ∧ H1 a = some (.ins C dx fs) ∧ Cls K C ∧ NoAttr K C f ∧ fs.lookup f = some v ∧ Q v H1
def tCon (K : PySem.W.Frag) (ta : TE) (f : Str) : TE := fun σ H Q => ta σ H fun x H1 => ∃ a C dx fs v u, x = .ref a ∧ H1 a = some (.ins C dx fs) ∧ Cls K C ∧ Con K C f v u ∧ fs.lookup f = none ∧ Q v H1
def sFld (K : PySem.W.Frag) (ta tv : TE) (f : Str) : TS := fun D σ H => tv σ H fun y H1 => ta σ H1 fun x H2 => ∃ a C dx fs, x = .ref a ∧ H2 a = some (.ins C dx fs) ∧ Cls K C ∧ NoAttr K C f ∧ fs.length < 1000 ∧
  D.nx σ (upd H2 a (.ins C dx (putF f y fs)))
def InOp (X : Cx) (op : Operator) (rd : V → V → Hp → VK → Prop) : Prop :=
  ∀ (pins : List (Addr × Obj)) (s : Shared) (σ : St) (H : Hp) (x y : V) (u v : Value) (Q : VK), Inv X pins σ H s → RelV x u → RelV y v → rd x y H Q → wpAny (model X.prog X.w) X.A (inplaceOp op u v) (EP X pins σ Q) X.xe s
def sFldAug (K : PySem.W.Frag) (ta tv : TE) (rd : V → V → Hp → VK → Prop) (f : Str) : TS := fun D σ H => ta σ H fun x H1 => ∃ a C dx fs v, x = .ref a ∧ H1 a = some (.ins C dx fs) ∧ Cls K C ∧ NoAttr K C f ∧ fs.lookup f = some v ∧
  tv σ H1 fun y H2 => rd v y H2 fun z H3 => ∃ dx' fs', H3 a = some (.ins C dx' fs') ∧ fs'.length < 1000 ∧ D.nx σ (upd H3 a (.ins C dx' (putF f z fs')))
section
variable {X : Cx} {o e value : Expr} {f : Str} {pos pos' tpos : Pos} {ta tv : TE}
def rAdd : V → V → Hp → VK → Prop := fun x y H Q => ∃ i j, x = .int i ∧ y = .int j ∧ Q (.int (i + j)) H
def rSub : V → V → Hp → VK → Prop := fun x y H Q => ∃ i j, x = .int i ∧ y = .int j ∧ Q (.int (i - j)) H
end
section
variable {X : Cx} {pins : List (Addr × Obj)} {σ : St} {H : Hp} {s : Shared} {A : Around} {E : Value → Shared → Prop} {Q : Value → Shared → Prop} {c : Value} {b : Bool}
inductive TyOf (K : PySem.W.Frag) (H : Hp) : V → Value → Prop where
  | non : TyOf K H .non (.type "NoneType")
  | bl (x : Bool) : TyOf K H (.bl x) (.type "bool")
  | int (i : Int) : TyOf K H (.int i) (.type "int")
  | str (x : Str) : TyOf K H (.str x) (.type "str")
  | flt (x : UInt64) : TyOf K H (.flt x) (.type "float")
  | lst {a : Addr} {xs : List V} (e : H a = some (.lst xs)) : TyOf K H (.ref a) (.type "list")
  | frz {a : Addr} {o : Obj} {xs : List V} (e : H a = some (.frz o (.lst xs))) : TyOf K H (.ref a) (.type "list")
  | tup {a : Addr} {xs : List V} (e : H a = some (.tup xs)) : TyOf K H (.ref a) (.type "tuple")
  | dK {a : Addr} {kvs : List (Key × V)} (e : H a = some (.dK kvs)) : TyOf K H (.ref a) (.type "dict")
  | dT {a : Addr} {kvs : List (List Key × V)} (e : H a = some (.dT kvs)) : TyOf K H (.ref a) (.type "dict")
  | ins {a C dx : Addr} {fs : List (Str × V)} (e : H a = some (.ins C dx fs)) (cl : Cls K C) (ha : PySem.W.findIn K (.ref C) "__class__" = some (some (.builtin "object.__class__")))
      (hn : PySem.W.specialIn K (.builtin "object.__class__") "__get__" = some (some (.builtin "getset_descriptor.__get__"))) (htk : PySem.W.takesIn K (.builtin "object.__class__") = some true)
      (hm : PySem.W.mroIn K C (.type "object") = some true) : TyOf K H (.ref a) (.ref C)
end
end L2
namespace L2
open PySem PySem.Spec PyProof.Rows
structure Room (k : Nat) (A : Around) : Prop where
  hd : A.handled = none
  dp : A.depth + 3 * k + 5 < recursionLimit
  un : A.units + 16 * k + 200 < cLine
theorem Room.mono {j k : Nat} {A : Around} (r : Room k A) (h : j ≤ k) : Room j A := ⟨r.hd, by have := r.dp; omega, by have := r.un; omega⟩
theorem Room.deeper {k : Nat} {A : Around} (r : Room (k + 1) A) (env : Env) : Room k (A.deeper env) :=
  ⟨r.hd, by have := r.dp; show A.depth + 1 + 3 * k + 5 < _; omega, by have := r.un; show A.units + 3 + 16 * k + 200 < _; omega⟩
theorem Room.depth {k : Nat} {A : Around} (r : Room k A) : A.depth < recursionLimit := by have := r.dp; omega
theorem Room.units {k : Nat} {A : Around} (r : Room k A) : A.units + 64 < cLine := by have := r.un; omega
def tNil : TA := fun _ H Q => Q [] H
def tCons (ta : TE) (tr : TA) : TA := fun σ H Q => ta σ H fun x H1 => tr σ H1 fun xs H2 => Q (x :: xs) H2
section
variable {X : Cx} {e : Expr} {es : List Expr} {te : TE} {t : TA} {pos : Pos}
theorem pa_nil : PA X [] tNil := fun _ _ _ _ H Q I h => Calls.spliced_nil ⟨[], H, I, .nil, h⟩
theorem pa_cons (ha : PE X e te) (hr : PA X es t) (hs : starEach (e :: es) X.env = (false, eval e X.env) :: starEach es X.env := by rfl) : PA X (e :: es) (tCons te t) := by
  intro pos pins s σ H Q I h
  rw [hs]
  show wpAny _ _ (spliced ((false, eval e X.env) :: backTo pos (starEach es X.env))) _ _ s
  refine Calls.spliced_cons (thn (ha pins s σ H _ I h) fun u s1 ⟨x, H1, I1, r1, q1⟩ => ?_)
  exact thn (hr pos pins s1 σ H1 _ I1 q1) fun us s2 ⟨xs, H2, I2, r2, q2⟩ => ⟨x :: xs, H2, I2, .cons r1 r2, q2⟩
def tTup (t : TA) : TE := fun σ H Q => t σ H fun xs H1 => xs.length ≤ sizeLine ∧ ∀ p, H1 p = none → Q (.ref p) (upd H1 p (.tup xs))
def tLst (t : TA) : TE := fun σ H Q => t σ H fun xs H1 => xs.length ≤ sizeLine ∧ ∀ p, H1 p = none → Q (.ref p) (upd H1 p (.lst xs))
theorem pe_tup {x1} (h : PA X es t) : PE X (.Tuple es x1 pos) (tTup t) := by
  intro pins s σ H Q I hq
  refine wpAny_Tuple_spliced (thn (h pos pins s σ H _ I hq) fun us s1 ⟨xs, H1, I1, r, z, q⟩ => ⟨by rw [← r.length]; exact z, ?_⟩)
  have hf : H1 s1.heap.objs.size = none := I1.hok.fresh (Nat.le_refl _)
  refine ⟨.ref s1.heap.objs.size, upd H1 s1.heap.objs.size (.tup xs), I1.laid (t' := s1.toks) (fun b u e => Heap.get?_push_of_some _ e) (Nat.le_refl _) ?_, rfl, q _ hf⟩
  exact ⟨z, us, r, ⟨_, Heap.get?_push_size _ rfl, rfl, _, rfl⟩⟩
theorem pe_lst (h : PA X es t) : PE X (.List es pos) (tLst t) := by
  intro pins s σ H Q I hq
  refine wpAny_List_spliced (thn (h pos pins s σ H _ I hq) fun us s1 ⟨xs, H1, I1, r, z, q⟩ => ⟨by rw [← r.length]; exact z, ?_⟩)
  have hf : H1 s1.heap.objs.size = none := I1.hok.fresh (Nat.le_refl _)
  refine ⟨.ref s1.heap.objs.size, upd H1 s1.heap.objs.size (.lst xs), I1.laid (t' := s1.toks) (fun b u e => Heap.get?_push_of_some _ e) (Nat.le_refl _) ?_, rfl, q _ hf⟩
  exact ⟨z, us, 0, r, Heap.get?_push_size _ rfl⟩
end
abbrev Sp := List V → Hp → VK → XK → Prop
abbrev CXT := List Env → Hp → Shared → XK → Value → Shared → Prop
structure Env0 (P : Program) (w : World) (K : PySem.W.Frag) (mg : Str → Option Value) (base : Heap) (A : Around) (outer : List Env) (s : Shared) (H : Hp) : Prop where
  frames : A.frames = some outer
  mod : Mod K mg base
  bs : ∀ b o, base.get? b = some o → s.heap.get? b = some o ∧ H b = none
  bsz : base.objs.size ≤ s.heap.objs.size
  funs : s.heap.FunFrames base outer
  frf : ∀ b ∈ frs outer, H b = none
  hok : HOk P w H s.heap
  bare : AllBare s.gens
def CE (outer : List Env) (P : Program) (w : World) (H : Hp) (s : Shared) (Q : VK) (u : Value) (s' : Shared) : Prop :=
  ∃ v H', s'.os = s.os ∧ AllBare s'.gens ∧ Un (frs outer) [] H H' s.heap s'.heap ∧ HOk P w H' s'.heap ∧ RelV v u ∧ Q v H'
def CR (CX : CXT) (outer : List Env) (P : Program) (w : World) (H : Hp) (s : Shared) (Q : VK) (E : XK) (r : Result) (s' : Shared) : Prop :=
  match r with
  | .ok (.ret u) => CE outer P w H s Q u s'
  | .ok _ => False
  | .error e => CX outer H s E e s'
structure FnOk (P : Program) (w : World) (K : PySem.W.Frag) (mg : Str → Option Value) (base : Heap) (CX : CXT) (k : Nat) (f : Addr) (fd : FuncData) (ps : List Str) (sp : Sp) : Prop where
  len : ∀ vs H Q E, sp vs H Q E → vs.length = ps.length
  run : ∀ (A : Around) (outer : List Env) (s : Shared) (H : Hp) (args : Args) (us : List Value) (vs : List V) (Q : VK) (E : XK), Room k A → Env0 P w K mg base A outer s H → BindsTo s fd args (ps.zip us) → Vals vs us → sp vs H Q E →
    codeAny (model P w) A (.call (.ref f) args) (CR CX outer P w H s Q E) s
section
variable {X : Cx} {pins : List (Addr × Obj)} {σ : St} {H : Hp} {s s' : Shared}
theorem Inv.env0 (I : Inv X pins σ H s) : Env0 X.prog X.w X.K X.mg X.base X.A X.stack s H :=
  ⟨I.ok.frames, I.ok.mod, I.bs, Nat.le_trans I.ok.bsz I.sz, I.stack, I.stkFree, I.hok, I.bare⟩
theorem Inv.after {Q : VK} {u : Value} (I : Inv X pins σ H s) (h : CE X.stack X.prog X.w H s Q u s') : EP X pins σ Q u s' := by
  obtain ⟨v, H', os, bare, un, hok, r, q⟩ := h
  obtain ⟨hh, g, d, t, os'⟩ := s'
  obtain rfl : os' = s.os := os
  exact ⟨v, H', I.call (h' := hh) (g' := g) (d' := d) (t' := t) (ch := []) un hok bare (fun b z => absurd z (by simp)), r, q⟩
end
def tCall (sp : Sp) (dvs : List V) (E : XK) (t : TA) : TE := fun σ H Q => t σ H fun vs H1 => sp (vs ++ dvs) H1 Q E
def tMeth (C : Addr) (m : Str) (sp : Sp) (dvs : List V) (E : XK) (ta : TE) (t : TA) : TE := fun σ H Q => ta σ H fun x H1 => ∃ a dx fs, x = .ref a ∧ H1 a = some (.ins C dx fs) ∧ fs.lookup m = none ∧
  t σ H1 fun vs H2 => sp (x :: (vs ++ dvs)) H2 Q E
def tMake (C : Addr) (sp : Sp) (dvs : List V) (E : XK) (t : TA) : TE := fun σ H Q => t σ H fun vs H1 => ∀ x dx, H1 x = none → H1 dx = none → dx ≠ x →
  sp (.ref x :: (vs ++ dvs)) (upd (upd H1 dx (.own x)) x (.ins C dx [])) (fun v H2 => v = .non ∧ Q (.ref x) H2) E
def Binds (K : PySem.W.Frag) (fd : FuncData) (ps : List Str) (ds : List Value) : Prop :=
  ∀ (s : Shared) (us : List Value), K.In s.heap → (us ++ ds).length = ps.length → BindsTo s fd ⟨us, []⟩ (ps.zip (us ++ ds))
theorem Binds.all {K : PySem.W.Frag} {fd : FuncData} {ps : List Str} (h : ∀ us : List Value, us.length = ps.length → bindArgs fd ⟨us, []⟩ = pure (ps.zip us)) : Binds K fd ps [] := fun s us _ hl => by
  rw [List.append_nil] at hl ⊢
  exact .of_eq (h us hl)
def Passes (CX : CXT) (X : Cx) (E : XK) : Prop := ∀ (pins : List (Addr × Obj)) (σ : St) (H : Hp) (s : Shared) (e : Value) (s' : Shared), Inv X pins σ H s → CX X.stack H s E e s' → X.xe e s'
section
variable {X : Cx} {CX : CXT} {k : Nat} {f C : Addr} {fd : FuncData} {ps : List Str} {sp : Sp} {dvs : List V} {ds : List Value} {E : XK} {x m : Str} {p pos apos : Pos} {e o : Expr} {es : List Expr} {ta : TE} {t : TA}
theorem run_fn {pins : List (Addr × Obj)} {σ : St} {H : Hp} {s : Shared} {Q : VK} {us : List Value} {vs : List V} (F : FnOk X.prog X.w X.K X.mg X.base CX k f fd ps sp) (hr : Room k X.A) (hb : Binds X.K fd ps ds) (hd : Vals dvs ds) (hx : Passes CX X E)
    (I : Inv X pins σ H s) (r : Vals vs us) (h : sp (vs ++ dvs) H Q E) : wpAny (model X.prog X.w) X.A (call (.ref f) us) (EP X pins σ Q) X.xe s := by
  have r2 : Vals (vs ++ dvs) (us ++ ds) := r.append hd
  have hl : (us ++ ds).length = ps.length := by rw [← r2.length]; exact F.len _ _ _ _ h
  refine wpAny_call (codeAny_mono (F.run X.A X.stack s H ⟨us, []⟩ (us ++ ds) (vs ++ dvs) Q E hr I.env0 (hb s us I.kIn hl) r2 h) fun r s' hq => ?_)
  cases r with
  | error e => exact hx pins σ H s e s' I hq
  | ok fl =>
    cases fl with
    | ret u => exact I.after hq
    | next => exact False.elim hq
    | brk => exact False.elim hq
    | cont => exact False.elim hq
theorem pe_call (F : FnOk X.prog X.w X.K X.mg X.base CX k f fd ps sp) (hr : Room k X.A) (hg : Gl X x) (hm : X.mg x = some (.ref f)) (hk : PySem.W.keepIn X.K (.ref f) = true) (hb : Binds X.K fd ps ds) (hd : Vals dvs ds) (hx : Passes CX X E)
    (ha : PA X (e :: es) t) (hdb : (x == ("__debug__" : Str)) = false := by decide) (he : starEach (e :: es) X.env = (false, eval e X.env) :: starEach es X.env := by rfl) (hpl : (backTo pos (starEach es X.env)).any (·.1) = false := by rfl) :
    PE X (.Call (.Name x p) (e :: es) [] pos) (tCall sp dvs E t) := by
  intro pins s σ H Q I h
  refine wpAny_Call_Name_kw (ld_glob I hg hm ?_ hdb)
  refine PySem.W.callWith_K (h₀ := X.base) I.ok.mod.kin hk (thn (ha pos pins s σ H _ I h) fun us s1 ⟨vs, H1, I1, r, q⟩ => ⟨I1.kIn, ?_⟩) he hpl
  exact run_fn F hr hb hd hx I1 r q
structure Mk (K : PySem.W.Frag) (C f : Addr) : Prop where
  makes : PySem.W.makesIn K C = true
  init : PySem.W.findIn K (.ref C) "__init__" = some (some (.ref f))
  fn : PySem.W.isFn K (.ref f) = true
  kp : PySem.W.keepIn K (.ref C) = true
end
def PK (X : Cx) (kws : List Keyword) (t : TA) : Prop :=
  ∀ (pos : Pos) (pins : List (Addr × Obj)) (s : Shared) (σ : St) (H : Hp) (Q : List V → Hp → Prop), Inv X pins σ H s → t σ H Q → wpAny (model X.prog X.w) X.A (evalAll ((backToKw pos (keywordEach kws X.env)).map (·.2))) (AP X pins σ Q) X.xe s
section
variable {X : Cx} {CX : CXT} {k : Nat} {f C : Addr} {fd : FuncData} {ps ks : List Str} {sp : Sp} {E : XK} {x m : Str} {p pos apos kpos : Pos} {e o : Expr} {es : List Expr} {kws : List Keyword} {te ta : TE} {t tk : TA} {nm : Option Str}
structure KBinds (K : PySem.W.Frag) (fd : FuncData) (ps ks : List Str) (g : List Value → List Value → List Value) (gV : List V → List V → List V) : Prop where
  to : ∀ (s : Shared) (us ws : List Value), K.In s.heap → (g us ws).length = ps.length → BindsTo s fd ⟨us, ks.zip ws⟩ (ps.zip (g us ws))
  rel : ∀ {vs : List V} {us : List Value} {zs : List V} {ws : List Value}, Vals vs us → Vals zs ws → Vals (gV vs zs) (g us ws)
def tCallK (sp : Sp) (gV : List V → List V → List V) (E : XK) (t tk : TA) : TE := fun σ H Q => t σ H fun vs H1 => tk σ H1 fun zs H2 => sp (gV vs zs) H2 Q E
variable {g : List Value → List Value → List Value} {gV : List V → List V → List V}
end
structure FnScope (N P : List Str) (sc : Scope) : Prop where
  kind : sc.kind = .function
  co : sc.isCoroutine = false
  gen : sc.isGenerator = false
  nd : N.Nodup
  pre : N.take P.length = P
  par : ∀ x ∈ P, sc.names.lookup x = some .local ∨ sc.names.lookup x = some .cell
  nofree : ∀ y ∈ sc.names, y.2 ≠ .free
theorem bindL_out {kindOf : Str → Option NameKind} {x : Str} : ∀ {binds : List (Str × Value)} {m : Str → Option Value}, (∀ v, (x, v) ∉ binds) → bindL kindOf binds m x = m x
  | [], _, _ => rfl
  | (n, v) :: r, m, h => by
    unfold bindL
    rw [bindL_out fun w hw => h w (List.mem_cons_of_mem _ hw)]
    split
    · have : x ≠ n := by rintro rfl; exact h v List.mem_cons_self
      simp [this]
    · rfl
theorem bindC_out {kindOf : Str → Option NameKind} {x : Str} : ∀ {binds : List (Str × Value)} {m : Str → Option Value}, (∀ v, (x, v) ∉ binds) → bindC kindOf binds m x = m x
  | [], _, _ => rfl
  | (n, v) :: r, m, h => by
    unfold bindC
    rw [bindC_out fun w hw => h w (List.mem_cons_of_mem _ hw)]
    split
    · rfl
    · have : x ≠ n := by rintro rfl; exact h v List.mem_cons_self
      simp [this]
theorem bindL_get {kindOf : Str → Option NameKind} {x : Str} {v : Value} : ∀ {P : List Str} {vs : List Value} {i : Nat} {m : Str → Option Value}, P.Nodup → P[i]? = some x → vs[i]? = some v → kindOf x = some .local →
    bindL kindOf (P.zip vs) m x = some v
  | [], _, _, _, _, h, _, _ => by simp at h
  | _ :: _, [], _, _, _, _, h, _ => by simp at h
  | p :: P, w :: vs, 0, m, nd, h1, h2, hk => by
    simp at h1 h2; subst h1; subst h2
    show bindL kindOf ((p, w) :: P.zip vs) m p = _
    unfold bindL
    rw [bindL_out fun v hv => (List.nodup_cons.mp nd).1 (List.of_mem_zip hv).1, if_pos hk]
    simp
  | p :: P, w :: vs, i + 1, m, nd, h1, h2, hk => by
    show bindL kindOf ((p, w) :: P.zip vs) m x = _
    unfold bindL
    exact bindL_get (i := i) (List.nodup_cons.mp nd).2 (by simpa using h1) (by simpa using h2) hk
theorem bindC_get {kindOf : Str → Option NameKind} {x : Str} {v : Value} : ∀ {P : List Str} {vs : List Value} {i : Nat} {m : Str → Option Value}, P.Nodup → P[i]? = some x → vs[i]? = some v → kindOf x ≠ some .local →
    bindC kindOf (P.zip vs) m x = some v
  | [], _, _, _, _, h, _, _ => by simp at h
  | _ :: _, [], _, _, _, _, h, _ => by simp at h
  | p :: P, w :: vs, 0, m, nd, h1, h2, hk => by
    simp at h1 h2; subst h1; subst h2
    show bindC kindOf ((p, w) :: P.zip vs) m p = _
    unfold bindC
    rw [bindC_out fun v hv => (List.nodup_cons.mp nd).1 (List.of_mem_zip hv).1, if_neg hk]
    simp
  | p :: P, w :: vs, i + 1, m, nd, h1, h2, hk => by
    show bindC kindOf ((p, w) :: P.zip vs) m x = _
    unfold bindC
    exact bindC_get (i := i) (List.nodup_cons.mp nd).2 (by simpa using h1) (by simpa using h2) hk
def start (N : List Str) (vs : List V) : St := vs.map some ++ List.replicate (N.length - vs.length) none
def cxOf (CX : CXT) (P : Program) (w : World) (K : PySem.W.Frag) (mg : Str → Option Value) (base : Heap) (N : List Str) (qual : Str) (scope : Scope) (f : Addr) (cd : Value) (A : Around) (outer : List Env) (s : Shared) (H : Hp) (E : XK) : Cx where
  prog := P
  w := w
  K := K
  mg := mg
  base := base
  A := A.deeper (envOfC qual scope s.heap.objs.size f cd)
  N := N
  s₀ := s
  H₀ := H
  env := envOfC qual scope s.heap.objs.size f cd
  outer := outer
  stack := envOfC qual scope s.heap.objs.size f cd :: outer
  ex := []
  calm := true
  fn := fun _ => true
  pn := []
  xe := fun e s' => wpAny (model P w) (A.deeper (envOfC qual scope s.heap.objs.size f cd)) (leaving (envOfC qual scope s.heap.objs.size f cd) e) (fun _ s'' => CX outer H s E e s'') (fun e' s'' => CX outer H s E e' s'') s'
theorem cell_has {sc : Scope} {n : Nat} {x : Str} (h : sc.names.lookup x = some .cell) : ∃ c, (cellsFrom n sc.names []).lookup x = some c := by
  have q := PySem.W.cellsFrom_some sc.names n [] (.inl h)
  exact Option.isSome_iff_exists.mp q
theorem inv_start {CX : CXT} {P : Program} {w : World} {K : PySem.W.Frag} {mg : Str → Option Value} {base : Heap} {N ps : List Str} {qual : Str} {scope : Scope} {f : Addr} {cd : Value} {A : Around} {outer : List Env} {s s1 : Shared} {H : Hp} {E : XK} {us : List Value} {vs : List V}
    (S : FnScope N ps scope) (hd : A.handled = none) (e0 : Env0 P w K mg base A outer s H) (hl : vs.length = ps.length) (r : Vals vs us)
    (x : InCallC s s.heap.objs.size (bindL (envOfC qual scope s.heap.objs.size f cd).kindOf (ps.zip us) fun _ => none) (cellsFrom (s.heap.objs.size + 1) scope.names []) (bindC (envOfC qual scope s.heap.objs.size f cd).kindOf (ps.zip us) fun _ => none) s1) :
    Inv (cxOf CX P w K mg base N qual scope f cd A outer s H E) [] (start N vs) H s1 := by
  have hpl : ps.length ≤ N.length := by have := congrArg List.length S.pre; rw [List.length_take] at this; omega
  obtain ⟨h1, tk, rfl, hk⟩ := x.done
  have noA : ∀ b : Addr, b ∉ (cxOf CX P w K mg base N qual scope f cd A outer s H E).ex := fun b z => absurd (show b ∈ ([] : List Addr) from z) (by simp)
  refine ⟨⟨e0.mod, S.kind, rfl, rfl, Nat.le_refl _, fun y z c h1 h2 => ?_, fun y hy => ?_, fun y c _ h => ?_, fun _ => hd, Around.frames_deeper e0.frames, .inr ⟨rfl, rfl⟩, fun b z => absurd z (noA b), e0.bs, e0.bsz, fun b _ _ => noA b, fun b z => absurd z (noA b), e0.funs, e0.frf⟩,
    rfl, e0.bare, Un.kept hk, ⟨_, x.toInCall.ns, fun i y v h1 h2 h3 => ?_⟩, fun y c h => ⟨_, x.cell y c h⟩, e0.hok.fresh (Nat.le_refl _), fun y c h => ?_, fun p hp => absurd (show p ∈ ([] : List (Addr × Obj)) from hp) (by simp), e0.hok.kept hk, ?_⟩
  · exact name_of_addr x.apart (PySem.mem_of_lookup h1) (PySem.mem_of_lookup h2)
  · have hy : scope.names.lookup y = some .cell ∨ scope.names.lookup y = some .free := hy
    rcases hy with hy | hy
    · exact cell_has hy
    · exact absurd rfl (S.nofree _ (PySem.mem_of_lookup hy))
  · exact Nat.le_of_lt (x.above y c (PySem.mem_of_lookup h))
  · have hi : i < vs.length := by
      unfold start at h2
      by_cases hi : i < vs.length
      · exact hi
      · rw [List.getElem?_append_right (by simpa using hi)] at h2
        rw [List.getElem?_replicate] at h2
        split at h2 <;> cases h2
    have ha : vs[i]? = some v := by
      unfold start at h2
      rw [List.getElem?_append_left (by simpa using hi), List.getElem?_map] at h2
      cases e : vs[i]? with
      | none => rw [e] at h2; cases h2
      | some a => rw [e] at h2; cases h2; rfl
    obtain ⟨u, hu, rv⟩ := r.get ha
    have hp : ps[i]? = some y := by
      rw [← S.pre, List.getElem?_take_of_lt (by omega)]; exact h1
    have ndP : ps.Nodup := by rw [← S.pre]; exact S.nd.sublist (List.take_sublist _ _)
    refine ⟨u, rv, ?_⟩
    rcases S.par y (List.mem_of_getElem? hp) with k | k
    · exact .inl ⟨k, bindL_get ndP hp hu k⟩
    · obtain ⟨c, e⟩ := cell_has (n := s.heap.objs.size + 1) k
      refine .inr ⟨.inl k, c, e, ?_⟩
      have q := x.cell y c e
      rw [bindC_get ndP hp hu (by show scope.names.lookup y ≠ _; rw [k]; decide)] at q
      exact q
  · exact e0.hok.fresh (Nat.le_of_lt (x.above y c (PySem.mem_of_lookup h)))
  · unfold start
    show _ = N.length
    rw [List.length_append, List.length_map, List.length_replicate]
    omega
theorem fn_of {CX : CXT} {P : Program} {w : World} {K : PySem.W.Frag} {mg : Str → Option Value} {base : Heap} {k : Nat} {f : Addr} {name qual : Str} {params : Arguments} {body : List Stmt} {scope : Scope} {dV kV doc pm cdv ct oc : Value} {an od : Option Addr}
    {osl : Array (Option Value)} {N ps : List Str} {sp : Sp} (lk : K.lookup f = some ⟨oc, od, .func (PySem.W.fnOf name qual params body scope dV kV doc pm an cdv ct), osl⟩) (hcd : PySem.W.codeIn K cdv qual = true) (S : FnScope N ps scope)
    (len : ∀ vs H Q E, sp vs H Q E → vs.length = ps.length)
    (hbody : ∀ (A : Around) (outer : List Env) (s : Shared) (H : Hp) (vs : List V) (Q : VK) (E : XK), Room k (A.deeper (envOfC qual scope s.heap.objs.size f cdv)) → sp vs H Q E →
      ∃ t, PSs (cxOf CX P w K mg base N qual scope f cdv A outer s H E) body t ∧ t { nx := fun _ H' => Q .non H', rt := Q } (start N vs) H) :
    FnOk P w K mg base CX (k + 1) f (PySem.W.fnOf name qual params body scope dV kV doc pm an cdv ct) ps sp := by
  refine ⟨len, fun A outer s H args us vs Q E hr e0 hb r hsp => ?_⟩
  have hl := len _ _ _ _ hsp
  have KX : K.In s.heap := e0.mod.kin.keeps fun b o e => (e0.bs b o e).1
  have lim : s.heap.NoLimit := e0.mod.nolimit.keeps fun b o e => (e0.bs b o e).1
  have hkind : ∀ y ∈ ps.zip us, scope.names.lookup y.1 = some .local ∨ (scope.names.lookup y.1 = some .cell ∧ ((cellsFrom (s.heap.objs.size + 1) scope.names []).lookup y.1).isSome = true) := fun ⟨n, v⟩ hy => by
    rcases S.par n (List.of_mem_zip hy).1 with q | q
    · exact .inl q
    · exact .inr ⟨q, PySem.W.cellsFrom_some _ _ _ (.inl q)⟩
  refine codeAny_call_function hr.depth (KX _ _ lk) rfl S.co S.gen rfl (PySem.W.codeRec_of KX hcd) (hb _ _ _ _ ?_)
  refine wpAny_newFunctionEnv_cells S.kind hkind fun env he s1 x => ?_
  subst he
  refine ⟨lim.keeps x.toInCall.keep, codeAny_func ?_⟩
  obtain ⟨t, ht, hq⟩ := hbody A outer s H vs Q E (hr.deeper _) hsp
  have I : Inv (cxOf CX P w K mg base N qual scope f cdv A outer s H E) [] (start N vs) H s1 := inv_start S hr.hd e0 hl r x
  refine wpAny_mono (ht [] s1 (start N vs) H _ I hq) (fun fl s' hs => ?_) fun e s' hs => hs
  have fin : ∀ {σ' : St} {H' : Hp} {v : V} {u : Value}, Inv (cxOf CX P w K mg base N qual scope f cdv A outer s H E) [] σ' H' s' → RelV v u → Q v H' → CE outer P w H s Q u s' :=
    fun {σ' H' v u} J rv q => ⟨v, H', J.os, J.bare, J.base, J.hok, rv, q⟩
  cases fl with
  | ret u =>
    obtain ⟨v, σ', H', J, rv, q⟩ := hs
    exact fin J rv q
  | next =>
    obtain ⟨σ', H', J, q⟩ := hs
    exact fin (v := V.non) (u := Value.none) J rfl q
  | brk =>
    obtain ⟨_, _, _, q⟩ := hs
    exact False.elim q
  | cont =>
    obtain ⟨_, _, _, q⟩ := hs
    exact False.elim q
end L2
namespace L2
open PySem PySem.Spec PyProof.Rows
section
variable {X : Cx} {x : Str} {p pos : Pos} {e : Expr} {es : List Expr} {t : TA} {id T : String} {r : List V → Hp → VK → Prop}
def tCB (r : List V → Hp → VK → Prop) (t : TA) : TE := fun σ H Q => t σ H fun vs H1 => r vs H1 Q
theorem pe_callB (hc : CallR X (.builtin id) r) (hg : Gl X x) (hm : X.mg x = none) (hv : bootBuiltins x = some (.builtin id)) (ha : PA X (e :: es) t) (hn : x ≠ "__name__" := by decide) (hdb : (x == ("__debug__" : Str)) = false := by decide)
    (he : starEach (e :: es) X.env = (false, eval e X.env) :: starEach es X.env := by rfl) (hpl : (backTo pos (starEach es X.env)).any (·.1) = false := by rfl) : PE X (.Call (.Name x p) (e :: es) [] pos) (tCB r t) := by
  intro pins s σ H Q I h
  refine wpAny_Call_Name_kw (ld_blt I hg hm hv ?_ hn hdb)
  exact PyProof.Rows.callWith_builtin1 (thn (ha pos pins s σ H _ I h) fun us s1 ⟨vs, H1, I1, r1, q1⟩ => hc pins s1 σ H1 vs us Q I1 r1 q1) he hpl
theorem pe_callTy (hc : CallR X (.type T) r) (hg : Gl X x) (hm : X.mg x = none) (hv : bootBuiltins x = some (.type T)) (ha : PA X (e :: es) t) (hn : x ≠ "__name__" := by decide) (hdb : (x == ("__debug__" : Str)) = false := by decide)
    (he : starEach (e :: es) X.env = (false, eval e X.env) :: starEach es X.env := by rfl) (hpl : (backTo pos (starEach es X.env)).any (·.1) = false := by rfl) : PE X (.Call (.Name x p) (e :: es) [] pos) (tCB r t) := by
  intro pins s σ H Q I h
  refine wpAny_Call_Name_kw (ld_blt I hg hm hv ?_ hn hdb)
  exact PyProof.Rows.callWith_type1 (thn (ha pos pins s σ H _ I h) fun us s1 ⟨vs, H1, I1, r1, q1⟩ => hc pins s1 σ H1 vs us Q I1 r1 q1) he hpl
end
end L2
namespace HT
open PySem PyProof.Rows
def lexLt : List Int → List Int → Bool
  | [], [] => false
  | [], _ :: _ => true
  | _ :: _, [] => false
  | x :: xs, y :: ys => if x = y then lexLt xs ys else decide (x < y)
section
open PySem.SeqAt
open PySem.AutoSeq1 (wpAny_loadPart')
open PySem.MeetsSeq PySem.MeetsSeq2 PySem.MeetsSeq3
end
section
variable {prog : Program} {w : World} {A : Around} {E : Value → Shared → Prop} {s : Shared}
theorem cat_tup {t b : Addr} {vs ws : List Value} {Q : Value → Shared → Prop} (ht : IsTup s.heap t vs.toArray) (hb : IsTup s.heap b ws.toArray) (hv : vs ≠ [])
    (h1 : ws = [] → Q (.ref t) s) (h2 : ws ≠ [] → Q (.ref s.heap.objs.size) { s with heap := s.heap.push { cls := .type "tuple", data := .seq (vs ++ ws).toArray } })
    (hsz : vs.length + ws.length ≤ sizeLine) : wpAny (model prog w) A (binaryOp .Add (.ref t) (.ref b)) Q E s := by
  obtain ⟨⟨cls, dd, data, sl⟩, ho, hc, n, hd⟩ := id ht
  obtain ⟨⟨cls2, dd2, data2, sl2⟩, ho2, hc2, n2, hd2⟩ := id hb
  simp only at hc hd hc2 hd2
  subst hc hd hc2 hd2
  have e : vs.toArray ++ ws.toArray = (vs ++ ws).toArray := by simp
  by_cases hw : ws = []
  · exact concat_meets ⟨_, ho, rfl⟩ ⟨_, ho2, rfl⟩ noFill_tuple_add seq_tuple_add PySem.F.slot_tuple_add PySem.F.entry_tuple_add (PySem.F.args_tuple_add_2 _ _)
      (tuple_addW1 t b vs.toArray ws.toArray n n2 dd dd2 sl sl2 (by simpa using hv) (by simp [hw])) ⟨ho, ho2, h1 hw⟩
  · refine concat_meets ⟨_, ho, rfl⟩ ⟨_, ho2, rfl⟩ noFill_tuple_add seq_tuple_add PySem.F.slot_tuple_add PySem.F.entry_tuple_add (PySem.F.args_tuple_add_2 _ _)
      (tuple_addW2 t b vs.toArray ws.toArray n n2 dd dd2 sl sl2 (by simpa using hv) (by simpa using hw) (by rw [List.size_toArray, List.size_toArray]; exact hsz)) ⟨ho, ho2, ?_⟩
    rw [e]
    exact h2 hw
def sIx (n d : Nat) : Option Int → Nat
  | none => d
  | some v => if v < 0 then (v + (n : Int)).toNat else min v.toNat n
theorem sIx_le (n d : Nat) (hd : d ≤ n) (o : Option Int) : sIx n d o ≤ n := by
  cases o with
  | none => exact hd
  | some v =>
    show (if v < 0 then (v + (n : Int)).toNat else min v.toNat n) ≤ n
    by_cases hv : v < 0
    · rw [if_pos hv]; omega
    · rw [if_neg hv]; exact Nat.min_le_right _ _
theorem clip_eq (v : Int) (n d : Nat) : (if v < 0 then max (v + (n : Int)) 0 else min v (n : Int)) = ((sIx n d (some v) : Nat) : Int) := by
  show (if v < 0 then max (v + (n : Int)) 0 else min v (n : Int)) = (((if v < 0 then (v + (n : Int)).toNat else min v.toNat n) : Nat) : Int)
  by_cases hv : v < 0
  · simp only [if_pos hv]; omega
  · simp only [if_neg hv]; omega
theorem adjust_gen (lo hi : Option Int) (n : Nat) : Builtin.Slice.sliceAdjust lo hi 1 (n : Int) = (((sIx n 0 lo : Nat) : Int), ((sIx n n hi : Nat) : Int)) := by
  have h1 : ¬ ((1 : Int) < 0) := by omega
  unfold Builtin.Slice.sliceAdjust
  simp only [h1, if_false]
  refine Prod.ext ?_ ?_
  · cases lo with
    | none => rfl
    | some v => exact clip_eq v n 0
  · cases hi with
    | none => rfl
    | some v => exact clip_eq v n n
theorem places_gen (i j : Nat) : Builtin.Slice.slicePlaces (i : Int) (j : Int) 1 = j - i := by
  unfold Builtin.Slice.slicePlaces
  have h1 : (1 : Int) > 0 := by omega
  simp only [h1, if_true, Int.ediv_one]
  split <;> omega
theorem slicePart_ {v : Value} {o : Option Int} {Q : Option Int → Shared → Prop} (p : IsPart v o) (h : Q o s) : wpAny (model prog w) A (Builtin.Slice.slicePartIndex v) Q E s := by
  cases p with
  | none => exact slicePart_none h
  | int i t => exact slicePart_int h
theorem sliceApplied_gen {sl : Addr} {vl vu : Value} {lo hi : Option Int} {n : Nat} {Q : Int × Int × Nat → Shared → Prop} (hs : s.heap.IsSliceOf sl vl vu .none) (pl : IsPart vl lo) (pu : IsPart vu hi)
    (h : Q (((sIx n 0 lo : Nat) : Int), 1, sIx n n hi - sIx n 0 lo) s) : wpAny (model prog w) A (Builtin.Slice.sliceApplied (.ref sl) (pure (n : Int))) Q E s := by
  obtain ⟨os, hos, hcs, hds⟩ := id hs
  unfold Builtin.Slice.sliceApplied Builtin.Slice.sliceFields
  refine wpAny_bind (wpAny_bind (wpAny_field hos hds (x := vl) rfl (wpAny_bind (wpAny_field hos hds (x := vu) rfl (wpAny_bind (wpAny_field hos hds (x := .none) rfl (wpAny_pure ?_)))))))
  refine wpAny_bind (slicePart_none ?_)
  show wpAny _ _ (if ((1 : Int) == 0) = true then _ else _) _ _ s
  rw [if_neg (by decide)]
  refine wpAny_bind (slicePart_ pl (wpAny_bind (slicePart_ pu (wpAny_bind (wpAny_pure ?_)))))
  show wpAny _ _ (match Builtin.Slice.sliceAdjust lo hi 1 (n : Int) with | (lo, hi) => pure (lo, (1 : Int), Builtin.Slice.slicePlaces lo hi 1)) _ _ s
  rw [adjust_gen lo hi n]
  show wpAny _ _ (pure (((sIx n 0 lo : Nat) : Int), (1 : Int), Builtin.Slice.slicePlaces ((sIx n 0 lo : Nat) : Int) ((sIx n n hi : Nat) : Int) 1)) _ _ s
  rw [places_gen]
  exact wpAny_pure h
theorem pick_gen (xs : Array Value) (i k : Nat) : ((List.range k).filterMap fun (m : Nat) => xs[((i : Int) + (m : Int) * 1).toNat]?).toArray = ((xs.toList.drop i).take k).toArray := by
  have e : (fun (m : Nat) => xs[((i : Int) + (m : Int) * 1).toNat]?) = fun m => xs[i + m]? := by
    funext m
    have : ((i : Int) + (m : Int) * 1).toNat = i + m := by omega
    rw [this]
  rw [e]
  have := pick_run xs i k
  rw [List.filterMap_map] at this
  have e2 : ((fun x => xs[x]?) ∘ fun x => i + x) = fun m => xs[i + m]? := rfl
  rw [e2] at this
  rw [this]
theorem getItem_tuple_cut {t sl : Addr} {items : Array Value} {vl vu : Value} {lo hi : Option Int} {Q : Value → Shared → Prop} (ht : IsTup s.heap t items) (hs : s.heap.IsSliceOf sl vl vu .none) (pl : IsPart vl lo) (pu : IsPart vu hi)
    (hw : ¬ (sIx items.size 0 lo = 0 ∧ sIx items.size items.size hi = items.size))
    (h : Q (.ref s.heap.objs.size) { s with heap := s.heap.push { cls := .type "tuple", data := .seq ((items.toList.drop (sIx items.size 0 lo)).take (sIx items.size items.size hi - sIx items.size 0 lo)).toArray } })
    (hsz : items.size ≤ sizeLine) : wpAny (model prog w) A (getItem (.ref t) (.ref sl)) Q E s := by
  have htake : sizeOk (.seq ((items.toList.drop (sIx items.size 0 lo)).take (sIx items.size items.size hi - sIx items.size 0 lo)).toArray) := by
    show ((items.toList.drop (sIx items.size 0 lo)).take (sIx items.size items.size hi - sIx items.size 0 lo)).toArray.size ≤ sizeLine
    rw [List.size_toArray, List.length_take, List.length_drop, Array.length_toList]
    omega
  have hj : sIx items.size items.size hi ≤ items.size := sIx_le _ _ (Nat.le_refl _) hi
  obtain ⟨os, hos, hcs, hds⟩ := id hs
  have hTs : s.TypeIs (.ref sl) "slice" := ⟨os, hos, hcs⟩
  unfold getItem
  try with_reducible refine wpAny_holding ?_
  first | refine wpAny_bind (wpAny_pure ?_) | skip
  refine wpAny_bind (wpAny_sequenceKey ht.typeIs (by decide) ?_)
  refine wpAny_bind (wpAny_callSpecial?_slot (name := Str.ofString "__getitem__") ht.typeIs PyProof.Rows.slot_tuple_getitem
    (wpAny_call_entry PyProof.Rows.slot_tuple_getitem ht.typeIs entry_tuple_getitem ?_ (args_tuple_getitem _ _)))
  show wpAny _ _ (Builtin.Tuple.tupleItemsOf (.ref t) >>= _) _ _ s
  refine wpAny_bind (tupleItemsOf_ ht ?_)
  refine wpAny_bind (wpAny_typeOf hTs ?_)
  rw [if_pos (by decide)]
  refine wpAny_bind (sliceApplied_gen hs pl pu ?_)
  have hno : ¬ ((((sIx items.size 0 lo : Nat) : Int) == 0 && (1 : Int) == 1 && (sIx items.size items.size hi - sIx items.size 0 lo) == items.size) = true) := by
    intro q
    rw [Bool.and_eq_true, Bool.and_eq_true] at q
    have q1 : ((sIx items.size 0 lo : Nat) : Int) = 0 := eq_of_beq q.1.1
    have q2 : sIx items.size items.size hi - sIx items.size 0 lo = items.size := eq_of_beq q.2
    exact hw ⟨by omega, by omega⟩
  show wpAny _ _ (if (((sIx items.size 0 lo : Nat) : Int) == 0 && (1 : Int) == 1 && (sIx items.size items.size hi - sIx items.size 0 lo) == items.size) = true then _ else _) _ _ s
  rw [if_neg hno, pick_gen]
  first
    | exact wpAny_bind (m := Builtin.Tuple.tupleExact _) (wpAny_newObj_type (wpAny_pure ⟨_, rfl, wpAny_pure h⟩) htake)
    | exact wpAny_bind (m := Builtin.Tuple.tupleExact _) (wpAny_newObj_type (wpAny_bind (wpAny_pure (wpAny_pure ⟨_, rfl, wpAny_pure h⟩))) htake)
    | exact wpAny_bind (wpAny_bind (m := Builtin.Tuple.tupleExact _) (wpAny_newObj_type (wpAny_pure (wpAny_pure ⟨_, rfl, wpAny_pure h⟩)) htake))
    | exact wpAny_bind (wpAny_bind (m := Builtin.Tuple.tupleExact _) (wpAny_newObj_type (wpAny_pure ⟨_, rfl, wpAny_pure h⟩) htake))
end
end HT
namespace L2
open PySem PySem.Spec PyProof.Rows
abbrev TO := St → Hp → (Option Int → Hp → Prop) → Prop
def PO (X : Cx) (e : Option Expr) (t : TO) : Prop :=
  ∀ (pins : List (Addr × Obj)) (s : Shared) (σ : St) (H : Hp) (Q : Option Int → Hp → Prop), Inv X pins σ H s → t σ H Q →
    wpAny (model X.prog X.w) X.A (evalPart e X.env) (fun u s' => ∃ o H', Inv X pins σ H' s' ∧ IsPart u o ∧ Q o H') X.xe s
def tNoPart : TO := fun _ H Q => Q none H
def tPart (t : TE) : TO := fun σ H Q => t σ H fun x H1 => ∃ i, x = .int i ∧ Q (some i) H1
section
variable {X : Cx} {e : Expr} {te : TE} {lo hi : Option Expr} {tl th : TO} {pos p2 : Pos}
theorem po_none : PO X none tNoPart := by
  intro pins s σ H Q I h
  rw [evalPart_none]
  exact wpAny_pure ⟨none, H, I, .none, h⟩
theorem po_some (h : PE X e te) : PO X (some e) (tPart te) := by
  intro pins s σ H Q I hw
  rw [evalPart_some]
  refine thn (h pins s σ H _ I hw) fun u s1 ⟨x, H1, I1, r1, q1⟩ => ?_
  obtain ⟨i, rfl, q⟩ := q1
  obtain ⟨t, rfl⟩ := r1
  exact ⟨some i, H1, I1, .int i t, q⟩
def SlR (X : Cx) (r : V → Option Int → Option Int → Hp → VK → Prop) : Prop :=
  ∀ (pins : List (Addr × Obj)) (s : Shared) (σ : St) (H : Hp) (x : V) (v vl vu : Value) (lo hi : Option Int) (sl : Addr) (Q : VK), Inv X pins σ H s → RelV x v → s.heap.IsSliceOf sl vl vu .none → IsPart vl lo → IsPart vu hi → r x lo hi H Q →
    ∃ T id, typeLookup (.type T) "__getitem__" = pure (some (.builtin id)) ∧ s.TypeIs v T ∧ wpAny (model X.prog X.w) X.A (getItem v (.ref sl)) (EP X pins σ Q) X.xe s
theorem SlR.or {r r' : V → Option Int → Option Int → Hp → VK → Prop} (h : SlR X r) (h' : SlR X r') : SlR X (fun x lo hi H Q => r x lo hi H Q ∨ r' x lo hi H Q) := by
  intro pins s σ H x v vl vu lo hi sl Q I rx hs pl pu q
  rcases q with q | q
  · exact h pins s σ H x v vl vu lo hi sl Q I rx hs pl pu q
  · exact h' pins s σ H x v vl vu lo hi sl Q I rx hs pl pu q
def tSl (r : V → Option Int → Option Int → Hp → VK → Prop) (te : TE) (tl th : TO) : TE := fun σ H Q => te σ H fun x H1 => tl σ H1 fun l H2 => th σ H2 fun u H3 => r x l u H3 Q
theorem pe_slice {r : V → Option Int → Option Int → Hp → VK → Prop} (hr : SlR X r) (he : PE X e te) (hl : PO X lo tl) (hu : PO X hi th) : PE X (.Subscript e (.Slice lo hi none p2) pos) (tSl r te tl th) := by
  intro pins s σ H Q I h
  refine Subscript_ (thn (he pins s σ H _ I h) fun v s1 ⟨x, H1, I1, r1, q1⟩ => ?_)
  refine wpAny_Slice (thn (hl pins s1 σ H1 _ I1 q1) fun vl s2 ⟨l, H2, I2, pl, q2⟩ => thn (hu pins s2 σ H2 _ I2 q2) fun vu s3 ⟨u, H3, I3, pu, q3⟩ => ?_)
  rw [evalPart_none]
  refine wpAny_pure ?_
  have I4 : Inv X pins σ H3 { s3 with heap := s3.heap.push { cls := .type "slice", data := .fields #[vl, vu, .none] } } := I3.kept (t' := s3.toks) fun b ob q => Heap.get?_push_of_some _ q
  obtain ⟨T, id, hT, ht, hg⟩ := hr pins { s3 with heap := s3.heap.push { cls := .type "slice", data := .fields #[vl, vu, .none] } } σ H3 x v vl vu l u s3.heap.objs.size Q I4 r1 (Heap.IsSliceOf.new ..) pl pu q3
  show wpAny (model X.prog X.w) X.A (subscriptTail e (.Slice lo hi none p2) v (.ref s3.heap.objs.size)) (EP X pins σ Q) X.xe { s3 with heap := s3.heap.push { cls := .type "slice", data := .fields #[vl, vu, .none] } }
  exact tail_any (ops := [.ref s3.heap.objs.size, v]) ht hT hg (by with_unfolding_all rfl)
def cutV (xs : List V) (lo hi : Option Int) : List V := (xs.drop (HT.sIx xs.length 0 lo)).take (HT.sIx xs.length xs.length hi - HT.sIx xs.length 0 lo)
theorem cutV_length (xs : List V) (lo hi : Option Int) : (cutV xs lo hi).length ≤ xs.length := by
  unfold cutV
  rw [List.length_take, List.length_drop]
  omega
def rSlT (K : PySem.W.Frag) : V → Option Int → Option Int → Hp → VK → Prop := fun x lo hi H Q => ∃ a xs, x = .ref a ∧ SqT K H a xs ∧
  ¬ (HT.sIx xs.length 0 lo = 0 ∧ HT.sIx xs.length xs.length hi = xs.length) ∧ ∀ p, H p = none → Q (.ref p) (upd H p (.tup (cutV xs lo hi)))
theorem sl_tup : SlR X (rSlT X.K) := by
  intro pins s σ H x v vl vu lo hi sl Q I rx hs pl pu h
  obtain ⟨a, xs, rfl, hx, hw, q⟩ := h
  cases rx
  obtain ⟨its, r, ht, hz⟩ := I.tuple hx
  have hlen : its.toArray.size = xs.length := by rw [List.size_toArray]; exact r.length.symm
  refine ⟨"tuple", _, PyProof.Rows.slot_tuple_getitem.lookup, ht.typeIs, ?_⟩
  refine HT.getItem_tuple_cut ht hs pl pu (by rw [hlen]; exact hw) ?_ (by rw [hlen]; exact hz)
  rw [hlen]
  refine ⟨.ref s.heap.objs.size, _, I.laid (t' := s.toks) (o := .tup (cutV xs lo hi)) (fun b ob q => Heap.get?_push_of_some _ q) (Nat.le_refl _) ?_, rfl, q _ (I.hok.fresh (Nat.le_refl _))⟩
  exact ⟨Nat.le_trans (cutV_length xs lo hi) hz, _, (r.drop (HT.sIx xs.length 0 lo)).take (HT.sIx xs.length xs.length hi - HT.sIx xs.length 0 lo), IsTup.new _ _⟩
def rLtT (K : PySem.W.Frag) : R2 := fun x y H Q => ∃ a b ns ms, x = .ref a ∧ y = .ref b ∧ SqT K H a (ns.map V.int) ∧ SqT K H b (ms.map V.int) ∧ Q (.bl (HT.lexLt ns ms)) H
def rCatT (K : PySem.W.Frag) : R2 := fun x y H Q => ∃ a b xs ys, x = .ref a ∧ y = .ref b ∧ SqT K H a xs ∧ SqT K H b ys ∧ xs ≠ [] ∧ xs.length + ys.length ≤ sizeLine ∧
  (ys = [] → Q (.ref a) H) ∧ (ys ≠ [] → ∀ p, H p = none → Q (.ref p) (upd H p (.tup (xs ++ ys))))
theorem Vals.nil_iff {xs : List V} {us : List Value} (r : Vals xs us) : us = [] ↔ xs = [] := by
  cases r with
  | nil => simp
  | cons _ _ => simp
theorem op_catT : OpR X (binaryOp .Add) (rCatT X.K) := by
  intro pins s σ H x y v u Q I rx ry h
  obtain ⟨a, b, xs, ys, rfl, rfl, ha, hb, hx, hz, q1, q2⟩ := h
  cases rx
  cases ry
  obtain ⟨its, r1, p1, _⟩ := I.tuple ha
  obtain ⟨its2, r2, p2, _⟩ := I.tuple hb
  refine HT.cat_tup p1 p2 (fun z => hx (r1.nil_iff.mp z)) (fun z => ⟨.ref a, H, I, rfl, q1 (r2.nil_iff.mp z)⟩) (fun z => ?_) (by rw [← r1.length, ← r2.length]; exact hz)
  refine ⟨.ref s.heap.objs.size, _, I.laid (t' := s.toks) (o := .tup (xs ++ ys)) (fun b ob q => Heap.get?_push_of_some _ q) (Nat.le_refl _) ?_, rfl, q2 (fun w => z (r2.nil_iff.mpr w)) _ (I.hok.fresh (Nat.le_refl _))⟩
  exact ⟨by rw [List.length_append]; exact hz, _, r1.append r2, IsTup.new _ _⟩
end
end L2
namespace L2
open PySem PySem.Spec PyProof.Rows
def ixN (n : Nat) (i : Int) : Option Nat := if 0 ≤ i then (if i < n then some i.toNat else none) else if -(n : Int) ≤ i then some (i + n).toNat else none
def atI {α : Type} (xs : List α) (i : Int) : Option α := (ixN xs.length i).bind fun j => xs[j]?
theorem ixN_seq {n : Nat} {i : Int} {j : Nat} (h : ixN n i = some j) : seqIndex? i n = some j ∧ j < n ∧ -(n : Int) ≤ i ∧ i < n := by
  unfold ixN at h
  by_cases h0 : 0 ≤ i
  · rw [if_pos h0] at h
    by_cases h1 : i < n
    · rw [if_pos h1] at h
      have e : i.toNat = j := Option.some.inj h
      exact ⟨by rw [seqIndex_of h0 h1, e], by omega, by omega, h1⟩
    · rw [if_neg h1] at h; cases h
  · rw [if_neg h0] at h
    by_cases h1 : -(n : Int) ≤ i
    · rw [if_pos h1] at h
      have e : (i + n).toNat = j := Option.some.inj h
      exact ⟨by rw [seqIndex_neg (by omega) h1, e], by omega, h1, by omega⟩
    · rw [if_neg h1] at h; cases h
theorem atI_get {α : Type} {xs : List α} {i : Int} {v : α} (h : atI xs i = some v) : ∃ j, seqIndex? i xs.length = some j ∧ xs[j]? = some v ∧ j < xs.length ∧ -(xs.length : Int) ≤ i ∧ i < xs.length := by
  unfold atI at h
  cases e : ixN xs.length i with
  | none => rw [e] at h; cases h
  | some j =>
    rw [e] at h
    obtain ⟨h1, h2, h3, h4⟩ := ixN_seq e
    exact ⟨j, h1, h, h2, h3, h4⟩
theorem atI_nat {α : Type} {xs : List α} {j : Nat} {v : α} (h : xs[j]? = some v) : atI xs (j : Int) = some v := by
  have hj : j < xs.length := (List.getElem?_eq_some_iff.mp h).1
  have e : ixN xs.length (j : Int) = some j := by
    unfold ixN
    rw [if_pos (by omega), if_pos (by omega)]; simp
  unfold atI; rw [e]; exact h
def PlainIx (b : Expr) : Prop := ∀ o i, subscripted b false o i = operate [o, i] (getItem o i)
def IxR (X : Cx) (r : R2) : Prop :=
  ∀ (value slice : Expr) (pins : List (Addr × Obj)) (s : Shared) (σ : St) (H : Hp) (x y : V) (v u : Value) (Q : VK), Inv X pins σ H s → RelV x v → RelV y u → r x y H Q →
    subscripted slice false v u = operate [v, u] (getItem v u) → wpAny (model X.prog X.w) X.A (subscriptTail value slice v u) (EP X pins σ Q) X.xe s
def MtR (X : Cx) (id : String) (r : V → List V → Hp → VK → Prop) : Prop :=
  ∀ (pins : List (Addr × Obj)) (s : Shared) (σ : St) (H : Hp) (x : V) (xs : List V) (v : Value) (us : List Value) (Q : VK), Inv X pins σ H s → RelV x v → Vals xs us → r x xs H Q →
    wpAny (model X.prog X.w) X.A (call (.builtin id) (v :: us)) (EP X pins σ Q) X.xe s
section
variable {X : Cx} {a b : Expr} {ta tb : TE} {pos : Pos}
theorem pe_ix {r : R2} (hr : IxR X r) (ha : PE X a ta) (hb : PE X b tb) (hs : PlainIx b) : PE X (.Subscript a b pos) (tOp r ta tb) := by
  intro pins s σ H Q I h
  exact Subscript_ (binT ha hb I h fun v u s2 x y H2 I2 rx ry q => hr a b pins s2 σ H2 x y v u Q I2 rx ry q (hs _ _))
def rIxL (K : PySem.W.Frag) : R2 := fun x y H Q => ∃ p xs i v, x = .ref p ∧ y = .int i ∧ SqL K H p xs ∧ atI xs i = some v ∧ Q v H
def rIxT (K : PySem.W.Frag) : R2 := fun x y H Q => ∃ p xs i v, x = .ref p ∧ y = .int i ∧ SqT K H p xs ∧ atI xs i = some v ∧ Q v H
def rIxS : R2 := fun x y H Q => ∃ z i c, x = .str z ∧ y = .int i ∧ z.length ≤ sizeLine ∧ atI z.cps.toList i = some c ∧ Q (.str ⟨#[c]⟩) H
theorem ix_list : IxR X (rIxL X.K) := by
  intro value slice pins s σ H x y v u Q I rx ry h hs
  obtain ⟨p, xs, i, z, rfl, rfl, hq, he, q⟩ := h
  cases rx
  obtain ⟨t, rfl⟩ := ry
  obtain ⟨its, r, pl, hz⟩ := I.list hq
  obtain ⟨j, h1, h2, h3, h4, h5⟩ := atI_get he
  obtain ⟨w, ew, rw'⟩ := r.get h2
  have hl := r.length
  have hn := line63
  have fin : EP X pins σ Q w s := ⟨z, H, I, rw', q⟩
  by_cases h0 : 0 ≤ i
  · have hj : i.toNat = j := by
      rw [seqIndex_of h0 h5] at h1
      exact Option.some.inj h1
    exact item_listR pl.isList h0 (by omega) (by rw [hj]; simpa using ew) fin hs
  · have hj : (i + (its.toArray.size : Int)).toNat = j := by
      rw [seqIndex_neg (by omega) h4] at h1
      rw [List.size_toArray, ← hl]
      exact Option.some.inj h1
    exact subscriptTail_builtinR (x := w) pl.isList.typeIs slot_list_getitem.lookup
      (wpAny_getItem_list_neg (Q := fun r s' => r = w ∧ EP X pins σ Q r s') pl.isList (by omega) (by rw [List.size_toArray] <;> omega) (by omega) (by rw [hj]; simpa using ew) ⟨rfl, fin⟩) hs
theorem ix_tup : IxR X (rIxT X.K) := by
  intro value slice pins s σ H x y v u Q I rx ry h hs
  obtain ⟨p, xs, i, z, rfl, rfl, hq, he, q⟩ := h
  cases rx
  obtain ⟨t, rfl⟩ := ry
  obtain ⟨its, r, pl, hz⟩ := I.tuple hq
  obtain ⟨j, h1, h2, h3, h4, h5⟩ := atI_get he
  obtain ⟨w, ew, rw'⟩ := r.get h2
  have hl := r.length
  have hn := line63
  have fin : EP X pins σ Q w s := ⟨z, H, I, rw', q⟩
  exact subscriptTail_builtinR (x := w) pl.typeIs slot_tuple_getitem.lookup
    (getItem_tuple (j := j) (Q := fun r s' => r = w ∧ EP X pins σ Q r s') pl (by omega) (by omega) (by rw [List.size_toArray, ← hl]; exact h1) (by simpa using ew) ⟨rfl, fin⟩) hs
def rIx (K : PySem.W.Frag) : R2 := fun x y H Q => rIxL K x y H Q ∨ rIxT K x y H Q ∨ rIxS x y H Q
theorem mapSeq_set (its : List Value) (n j : Nat) (u : Value) : Obj.mapSeq (·.setIfInBounds j u) { cls := .type "list", data := .seq its.toArray n } = { cls := .type "list", data := .seq (its.set j u).toArray n } := by
  simp [Obj.mapSeq]
theorem Inv.lst {pins : List (Addr × Obj)} {σ : St} {H : Hp} {s : Shared} {p : Addr} {xs : List V} (I : Inv X pins σ H s) (h : H p = some (.lst xs)) :
    ∃ (its : List Value) (n : Nat), Vals xs its ∧ s.heap.get? p = some { cls := .type "list", data := .seq its.toArray n } ∧ xs.length ≤ sizeLine := by
  obtain ⟨z, its, n, r, e⟩ := I.hok p _ h
  exact ⟨its, n, r, e, z⟩
theorem Inv.lstUpd {pins : List (Addr × Obj)} {σ : St} {H : Hp} {s : Shared} {p : Addr} {xs ys : List V} {its its' : List Value} {n n' : Nat} {f : Obj → Obj} (I : Inv X pins σ H s) (h : H p = some (.lst xs))
    (ho : s.heap.get? p = some { cls := .type "list", data := .seq its.toArray n }) (hf : f { cls := .type "list", data := .seq its.toArray n } = { cls := .type "list", data := .seq its'.toArray n' }) (r : Vals ys its') (hz : ys.length ≤ sizeLine) (t : Nat) :
    Inv X pins σ (upd H p (.lst ys)) { s with heap := s.heap.update p f, toks := t } := by
  have e : (s.heap.update p f).get? p = some { cls := .type "list", data := .seq its'.toArray n' } := by
    rw [Heap.get?_update_self f ho (by rw [hf] <;> rfl), hf]
  refine I.write (x := p) (e := p) (by rw [h]; trivial) (.inl rfl) (fun b u hb q => (Heap.get?_update_other _ _ (Ne.symm hb)).trans q) ⟨_, e⟩ ?_
  exact ⟨hz, its', n', r, e⟩
def rSetL : V → V → V → Hp → (Hp → Prop) → Prop := fun o i v H Q => ∃ p xs k j, o = .ref p ∧ i = .int k ∧ H p = some (.lst xs) ∧ ixN xs.length k = some j ∧ Q (upd H p (.lst (xs.set j v)))
theorem set_list : PSet X rSetL := by
  intro pins s σ H o i v ov iv u Q I ro ri rv h
  obtain ⟨p, xs, k, j, rfl, rfl, hp, hj, q⟩ := h
  cases ro
  obtain ⟨t, rfl⟩ := ri
  obtain ⟨its, n, r, ho, hz⟩ := I.lst hp
  obtain ⟨h1, h2, h3, h4⟩ := ixN_seq hj
  have hl := r.length
  have hn := line63
  have I' : Inv X pins σ (upd H p (.lst (xs.set j v))) { s with heap := s.heap.update p (Obj.mapSeq (·.setIfInBounds j u)) } :=
    I.lstUpd hp ho (mapSeq_set its n j u) (r.set rv j) (by rw [List.length_set]; exact hz) s.toks
  by_cases h0 : 0 ≤ k
  · have hk : k.toNat = j := by
      rw [seqIndex_of h0 h4] at h1
      exact Option.some.inj h1
    exact PySem.W.ki_setAt ho h0 (by omega) (by rw [List.size_toArray, ← hl]; exact h4) (by rw [hk]; exact ⟨_, I', q⟩)
  · have hk : (k + (its.toArray.size : Int)).toNat = j := by
      rw [seqIndex_neg (by omega) h3] at h1
      rw [List.size_toArray, ← hl]
      exact Option.some.inj h1
    exact PySem.W.ki_setBack ho (by omega) (by rw [List.size_toArray, ← hl]; exact h3) (by omega) (by rw [hk]; exact ⟨_, I', q⟩)
theorem slice_bounds (lo hi : Option Int) (n : Nat) : (sliceBounds lo hi none n).1 = ((HT.sIx n 0 lo : Nat) : Int) ∧ (sliceBounds lo hi none n).2.1 = ((HT.sIx n n hi : Nat) : Int) ∧ (sliceBounds lo hi none n).2.2 = 1 := by
  refine ⟨?_, ?_, rfl⟩
  · cases lo with
    | none => simp [sliceBounds, HT.sIx]
    | some i =>
      simp only [sliceBounds, HT.sIx, Option.getD_none, show (1 : Int) > 0 by decide, if_true]
      by_cases h : i < 0
      · simp only [h, if_true] <;> omega
      · simp only [h, if_false] <;> omega
  · cases hi with
    | none => simp [sliceBounds, HT.sIx]
    | some i =>
      simp only [sliceBounds, HT.sIx, Option.getD_none, show (1 : Int) > 0 by decide, if_true]
      by_cases h : i < 0
      · simp only [h, if_true] <;> omega
      · simp only [h, if_false] <;> omega
theorem slicePick_cut (its : List Value) (lo hi : Option Int) : slicePick its.toArray lo hi none = ((its.drop (HT.sIx its.length 0 lo)).take (HT.sIx its.length its.length hi - HT.sIx its.length 0 lo)).toArray := by
  obtain ⟨h1, h2, h3⟩ := slice_bounds lo hi its.toArray.size
  unfold slicePick
  rw [h1, h2, h3]
  simp only [sliceRange_one, pick_run, List.size_toArray] <;> rfl
def rSlL (K : PySem.W.Frag) : V → Option Int → Option Int → Hp → VK → Prop := fun x lo hi H Q => ∃ a xs, x = .ref a ∧ SqL K H a xs ∧ ∀ p, H p = none → Q (.ref p) (upd H p (.lst (cutV xs lo hi)))
theorem sl_list : SlR X (rSlL X.K) := by
  intro pins s σ H x v vl vu lo hi sl Q I rx hs pl pu h
  obtain ⟨a, xs, rfl, hx, q⟩ := h
  cases rx
  obtain ⟨its, r, ht, hz⟩ := I.list hx
  have hlen := r.length
  refine ⟨"list", _, slot_list_getitem.lookup, ht.isList.typeIs, ?_⟩
  refine wpAny_getItem_list_slice ht.isList hs pl pu .none (by simp) ?_ (by rw [List.size_toArray] <;> omega)
  rw [slicePick_cut, ← hlen]
  refine ⟨.ref s.heap.objs.size, _, I.laid (t' := s.toks) (o := .lst (cutV xs lo hi)) (fun b ob q => Heap.get?_push_of_some _ q) (Nat.le_refl _) ?_, rfl, q _ (I.hok.fresh (Nat.le_refl _))⟩
  exact ⟨Nat.le_trans (cutV_length xs lo hi) hz, _, 0, (r.drop (HT.sIx xs.length 0 lo)).take (HT.sIx xs.length xs.length hi - HT.sIx xs.length 0 lo), Heap.get?_push_size _ rfl⟩
def flatV : V → Bool
  | .non => true
  | .bl _ => true
  | .int _ => true
  | .str _ => true
  | _ => false
def eqV : V → V → Bool
  | .non, .non => true
  | .bl a, .bl b => a == b
  | .bl a, .int b => (if a then 1 else 0) == b
  | .int a, .bl b => a == (if b then 1 else 0)
  | .int a, .int b => a == b
  | .str a, .str b => a == b
  | _, _ => false
theorem eqAt_V {A : Around} {s : Shared} {y x : V} {u v : Value} (ry : RelV y u) (rx : RelV x v) (fy : flatV y = true) (fx : flatV x = true) : SeqAt.EqAt A s u v (eqV y x) := by
  cases y with
  | non =>
    cases ry
    cases x with
    | non => cases rx; exact SeqAt.EqAt.same _
    | bl b => cases rx; exact SeqAt.EqAt.none_bool b
    | int b => obtain ⟨t, rfl⟩ := rx; exact SeqAt.EqAt.none_int b t
    | str b => obtain ⟨t, rfl⟩ := rx; exact SeqAt.EqAt.none_str b t
    | _ => exact absurd (show false = true from fx) Bool.false_ne_true
  | bl a =>
    cases ry
    cases x with
    | non => cases rx; exact SeqAt.EqAt.bool_none a
    | bl b => cases rx; exact SeqAt.EqAt.bool_bool a b
    | int b => obtain ⟨t, rfl⟩ := rx; exact SeqAt.EqAt.bool_int a b t
    | str b => obtain ⟨t, rfl⟩ := rx; exact SeqAt.EqAt.bool_str a b t
    | _ => exact absurd (show false = true from fx) Bool.false_ne_true
  | int a =>
    obtain ⟨t', rfl⟩ := ry
    cases x with
    | non => cases rx; exact SeqAt.EqAt.int_none a t'
    | bl b => cases rx; exact SeqAt.EqAt.int_bool a t' b
    | int b => obtain ⟨t, rfl⟩ := rx; exact SeqAt.EqAt.int_int a t' b t
    | str b => obtain ⟨t, rfl⟩ := rx; exact SeqAt.EqAt.int_str a t' b t
    | _ => exact absurd (show false = true from fx) Bool.false_ne_true
  | str a =>
    obtain ⟨t', rfl⟩ := ry
    cases x with
    | non => cases rx; exact SeqAt.EqAt.str_none a t'
    | bl b => cases rx; exact SeqAt.EqAt.str_bool a t' b
    | int b => obtain ⟨t, rfl⟩ := rx; exact SeqAt.EqAt.str_int a t' b t
    | str b => obtain ⟨t, rfl⟩ := rx; exact SeqAt.EqAt.str_str a t' b t
    | _ => exact absurd (show false = true from fx) Bool.false_ne_true
  | _ => exact absurd (show false = true from fy) Bool.false_ne_true
def eqU (x : V) (u : Value) : Bool := match u with
  | .none => eqV .non x
  | .bool b => eqV (.bl b) x
  | .int i _ => eqV (.int i) x
  | .str z _ => eqV (.str z) x
  | _ => false
theorem eqU_of {x y : V} {u : Value} (r : RelV y u) (f : flatV y = true) : eqU x u = eqV y x := by
  cases y with
  | non => cases r; rfl
  | bl b => cases r; rfl
  | int i => obtain ⟨t, rfl⟩ := r; rfl
  | str z => obtain ⟨t, rfl⟩ := r; rfl
  | _ => exact absurd (show false = true from f) Bool.false_ne_true
theorem any_eqU {x : V} : ∀ {xs : List V} {us : List Value}, Vals xs us → xs.all flatV = true → us.any (eqU x) = xs.any fun y => eqV y x
  | _, _, .nil, _ => rfl
  | y :: xs, u :: us, .cons r t, f => by
    rw [List.all_cons, Bool.and_eq_true] at f
    rw [List.any_cons, List.any_cons, eqU_of r f.1, any_eqU t f.2]
theorem mem_eqAt {A : Around} {s : Shared} {x : V} {v : Value} (rx : RelV x v) (fx : flatV x = true) : ∀ {xs : List V} {us : List Value}, Vals xs us → xs.all flatV = true → ∀ u ∈ us, SeqAt.EqAt A s u v (eqU x u)
  | _, _, .nil, _ => fun u hu => by cases hu
  | y :: xs, u :: us, .cons r t, f => fun u' hu => by
    rw [List.all_cons, Bool.and_eq_true] at f
    rcases List.mem_cons.mp hu with rfl | hu
    · rw [eqU_of r f.1]; exact eqAt_V r rx f.1 fx
    · exact mem_eqAt rx fx t f.2 u' hu
def inV (x : V) (xs : List V) : Bool := xs.any fun y => eqV y x
def rIn (K : PySem.W.Frag) (neg : Bool) : R2 := fun x y H Q => ∃ p xs, y = .ref p ∧ (SqL K H p xs ∨ SqT K H p xs) ∧ flatV x = true ∧ xs.all flatV = true ∧ Q (.bl (if neg then !inV x xs else inV x xs)) H
theorem op_in_seq : OpR X (compareOp .In) (rIn X.K false) := by
  intro pins s σ H x y v u Q I rx ry h
  obtain ⟨p, xs, rfl, hq, fx, fs, q⟩ := h
  cases ry
  rcases hq with hq | hq
  · obtain ⟨its, r, pl, hz⟩ := I.list hq
    refine SeqAt.in_listAt (eqU x) pl.isList (fun w hw => mem_eqAt rx fx r fs w (by simpa using hw)) ⟨.bl _, H, I, rfl, ?_⟩
    rw [show its.toArray.any (eqU x) = its.any (eqU x) by simp, any_eqU r fs]
    exact q
  · obtain ⟨its, r, pl, hz⟩ := I.tuple hq
    refine SeqAt.in_tupleAt (eqU x) pl (fun w hw => mem_eqAt rx fx r fs w (by simpa using hw)) ⟨.bl _, H, I, rfl, ?_⟩
    rw [show its.toArray.any (eqU x) = its.any (eqU x) by simp, any_eqU r fs]
    exact q
theorem call_len_seq : CallR X (.builtin "len") (fun xs H Q => ∃ p ys, xs = [.ref p] ∧ (SqL X.K H p ys ∨ SqT X.K H p ys) ∧ Q (.int ys.length) H) := by
  intro pins s σ H xs us Q I r h
  obtain ⟨p, ys, rfl, hq, q⟩ := h
  obtain ⟨u, rfl, rx⟩ := vals1 r
  cases rx
  have hn := line63
  rcases hq with hq | hq
  · obtain ⟨its, r', pl, hz⟩ := I.list hq
    have hlen := r'.length
    exact Calls.call_len_list pl.isList (by simp only [List.size_toArray] <;> omega) ⟨.int ys.length, H, I.tok _, ⟨s.toks + 1, by rw [List.size_toArray, hlen]⟩, q⟩
  · obtain ⟨its, r', pl, hz⟩ := I.tuple hq
    have hlen := r'.length
    exact len_tuple pl (by simp only [List.size_toArray] <;> omega) ⟨.int ys.length, H, I.tok _, ⟨s.toks + 1, by rw [List.size_toArray, hlen]⟩, q⟩
theorem call_tuple_of : CallR X (.type "tuple") (fun xs H Q => ∃ p ys, xs = [.ref p] ∧ ((SqL X.K H p ys ∧ ∀ l, H l = none → Q (.ref l) (upd H l (.tup ys))) ∨ (SqT X.K H p ys ∧ Q (.ref p) H))) := by
  intro pins s σ H xs us Q I r h
  obtain ⟨p, ys, rfl, h⟩ := h
  obtain ⟨u, rfl, rx⟩ := vals1 r
  cases rx
  rcases h with ⟨hq, q⟩ | ⟨hq, q⟩
  · obtain ⟨its, r', pl, hz⟩ := I.list hq
    have hlen := r'.length
    refine call_tuple_list pl.isList (fun h' kp => ?_) (by simp only [List.size_toArray] <;> omega)
    have I1 : Inv X pins σ H { s with heap := h' } := I.kept (t' := s.toks) kp
    have I2 : Inv X pins σ (upd H h'.objs.size (.tup ys)) { s with heap := h'.push { cls := .type "tuple", data := .seq its.toArray } } :=
      I1.laid (t' := s.toks) (fun b o e => Heap.get?_push_of_some _ e) (Nat.le_refl _) (show ObjOk X.prog X.w _ _ _ (.tup ys) from ⟨hz, its, r', IsTup.new _ _⟩)
    exact ⟨.ref h'.objs.size, _, I2, rfl, q _ (I1.hok.fresh (Nat.le_refl _))⟩
  · obtain ⟨its, r', pl, hz⟩ := I.tuple hq
    exact call_tuple_same pl ⟨.ref p, H, I, rfl, q⟩
def tyV (K : PySem.W.Frag) (T : String) (x : V) (H : Hp) : Prop := match x with
  | .str _ => T = "str"
  | .int _ => T = "int"
  | .ref p => (T = "list" ∧ ∃ xs, SqL K H p xs) ∨ (T = "tuple" ∧ ∃ o, K.lookup p = some o ∧ o.cls = .type "tuple" ∧ o.dict = none) ∨
      (T = "dict" ∧ ((∃ kvs, H p = some (.dK kvs)) ∨ ∃ kvs, H p = some (.dT kvs))) ∨ (T = "set" ∧ ∃ S n, H p = some (.set S n))
  | _ => False
theorem tyV_is {pins : List (Addr × Obj)} {σ : St} {H : Hp} {s : Shared} {T : String} {x : V} {v : Value} (I : Inv X pins σ H s) (r : RelV x v) (ty : tyV X.K T x H) :
    s.TypeIs v T ∧ ∀ a, v = .ref a → ∃ ob, s.heap.get? a = some ob ∧ ob.dict = none := by
  cases x with
  | str z =>
    obtain ⟨t, rfl⟩ := r
    cases (show T = "str" from ty)
    exact ⟨typeIs_str s z t, fun _ e => nomatch e⟩
  | int i =>
    obtain ⟨t, rfl⟩ := r
    cases (show T = "int" from ty)
    exact ⟨typeIs_int s i t, fun _ e => nomatch e⟩
  | ref p =>
    cases r
    rcases ty with ⟨rfl, xs, hq⟩ | ⟨rfl, o, hk, hc, hd⟩ | ⟨rfl, hk⟩ | ⟨rfl, S, n, hk⟩
    · obtain ⟨its, _, pl, _⟩ := I.list hq
      refine ⟨pl.isList.typeIs, fun a e => ?_⟩
      cases e
      obtain ⟨o, n, e, c, hd, _⟩ := pl
      exact ⟨o, e, hd⟩
    · refine ⟨⟨o, I.kIn p o hk, hc⟩, fun a e => ?_⟩
      cases e
      exact ⟨o, I.kIn _ o hk, hd⟩
    · have z : ∃ o, s.heap.get? p = some o ∧ o.ExactDict := by
        rcases hk with ⟨kvs, hk⟩ | ⟨kvs, hk⟩
        · obtain ⟨_, _, _, _, o, _, _, e, ex, _⟩ := I.hok p _ hk
          exact ⟨o, e, ex⟩
        · obtain ⟨_, _, _, _, o, _, _, e, ex, _⟩ := I.hok p _ hk
          exact ⟨o, e, ex⟩
      obtain ⟨o, e, ex⟩ := z
      refine ⟨⟨o, e, ex.1⟩, fun a e2 => ?_⟩
      cases e2
      exact ⟨o, e, ex.2.1⟩
    · obtain ⟨o, _, _, _, e, ex, _⟩ := I.hok p _ hk
      refine ⟨⟨o, e, ex.1⟩, fun a e2 => ?_⟩
      cases e2
      exact ⟨o, e, ex.2.1⟩
  | _ => exact False.elim ty
def tBM0 (K : PySem.W.Frag) (T : String) (r : V → List V → Hp → VK → Prop) (to : TE) : TE := fun σ H Q => to σ H fun x H1 => tyV K T x H1 ∧ r x [] H1 Q
def tBM (K : PySem.W.Frag) (T : String) (r : V → List V → Hp → VK → Prop) (to : TE) (t : TA) : TE := fun σ H Q => to σ H fun x H1 => tyV K T x H1 ∧ t σ H1 fun xs H2 => r x xs H2 Q
variable {o e : Expr} {es : List Expr} {to : TE} {t : TA} {name : Str} {apos cpos : Pos} {T id : String} {r : V → List V → Hp → VK → Prop}
theorem pe_bm0 (pa : PlainAttrs T) (slot : Slot T name id) (hty : typeOf (.builtin id) = pure (.type "method_descriptor")) (hm : MtR X id r) (ho : PE X o to)
    (hbase : attributeBase o name X.env (eval o X.env) = eval o X.env := by rfl) (hline : (apos.endLine == cpos.line) = true := by rfl) : PE X (.Call (.Attribute o name apos) [] [] cpos) (tBM0 X.K T r to) := by
  intro pins s σ H Q I h
  refine wpAny_Call_method0_late hbase hline (thn (ho pins s σ H _ I h) fun v s1 ⟨x, H1, I1, r1, ty, q1⟩ => ?_)
  obtain ⟨h1, h2⟩ := tyV_is I1 r1 ty
  exact ⟨T, id, pa, slot, hty, h1, h2, Calls.callWith_builtin rfl (PySem.evalArgs_none (hm pins s1 σ H1 x [] v [] Q I1 r1 .nil q1))⟩
theorem pe_bm (pa : PlainAttrs T) (slot : Slot T name id) (hty : typeOf (.builtin id) = pure (.type "method_descriptor")) (hm : MtR X id r) (ho : PE X o to) (ha : PA X (e :: es) t)
    (hbase : attributeBase o name X.env (eval o X.env) = eval o X.env := by rfl)
    (hfew : ((backTo cpos (starEach (e :: es) X.env)).all (fun x => !x.1) && (backToKw cpos (keywordEach [] X.env)).all (fun x => x.1.isSome)
      && decide ((e :: es).length + ([] : List Keyword).length + (if ([] : List Keyword).isEmpty then 0 else 1) < 30)) = true := by rfl)
    (hline : (apos.endLine == cpos.line) = true := by rfl) (hs : starEach (e :: es) X.env = (false, eval e X.env) :: starEach es X.env := by rfl) (hplain : (backTo cpos (starEach es X.env)).any (·.1) = false := by rfl) :
    PE X (.Call (.Attribute o name apos) (e :: es) [] cpos) (tBM X.K T r to t) := by
  intro pins s σ H Q I h
  refine wpAny_Call_method_late hbase hfew hline rfl (thn (ho pins s σ H _ I h) fun v s1 ⟨x, H1, I1, r1, ty, q1⟩ => ?_)
  obtain ⟨h1, h2⟩ := tyV_is I1 r1 ty
  refine ⟨T, id, pa, slot, hty, h1, h2, ?_⟩
  have hA := ha cpos pins s1 σ H1 _ I1 q1
  rw [hs] at hA ⊢
  refine Calls.callWith_builtin (by show (false || (backTo cpos (starEach es X.env)).any (·.1)) = false; rw [hplain] <;> rfl) (Calls.evalArgs_plain ?_)
  exact thn hA fun us s2 ⟨vs, H2, I2, r2, q2⟩ => hm pins s2 σ H2 x vs v us Q I2 r1 r2 q2
end
end L2
namespace L2
open PySem PySem.Spec PyProof.Rows
def MtM (X : Cx) (id : String) (r : V → List V → Hp → VK → Prop) : Prop :=
  ∀ (pins : List (Addr × Obj)) (s : Shared) (σ : St) (H : Hp) (x : V) (xs : List V) (v : Value) (us : List Value) (Q : VK), Inv X pins σ H s → RelV x v → Vals xs us → r x xs H Q →
    wpAny (model X.prog X.w) X.A (call (.builtin id) (v :: us)) (EP X pins σ Q) X.xe s
theorem Vals.one : ∀ {x : V} {us : List Value}, Vals [x] us → ∃ u, us = [u] ∧ RelV x u
  | _, _, .cons r .nil => ⟨_, rfl, r⟩
theorem Vals.rep {xs : List V} {us : List Value} (h : Vals xs us) : ∀ k : Nat, Vals (List.replicate k xs).flatten (List.replicate k us).flatten
  | 0 => .nil
  | k + 1 => by
    rw [List.replicate_succ, List.replicate_succ, List.flatten_cons, List.flatten_cons]
    exact Vals.append h (Vals.rep h k)
theorem foldl_rep (its : List Value) : ∀ (k : Nat) (acc : List Value),
    List.foldl (fun x1 x2 => x1 ++ x2) acc.toArray (List.replicate k its.toArray) = (acc ++ (List.replicate k its).flatten).toArray
  | 0, acc => by simp
  | k + 1, acc => by
    have e : acc.toArray ++ its.toArray = (acc ++ its).toArray := by simp
    have e2 : (acc ++ its) ++ (List.replicate k its).flatten = acc ++ (List.replicate (k + 1) its).flatten := by
      rw [List.replicate_succ, List.flatten_cons, List.append_assoc]
    rw [← e2, ← foldl_rep its k (acc ++ its), ← e, List.replicate_succ, List.foldl_cons]
section
variable {X : Cx} {pins : List (Addr × Obj)} {σ : St} {H : Hp} {s : Shared} {l b : Addr} {xs ys zs : List V}
theorem Inv.lset {its its' : List Value} {n : Nat} {f : Array Value → Array Value} {t' : Nat} (I : Inv X pins σ H s) (hH : H l = some (.lst xs))
    (e : s.heap.get? l = some { cls := .type "list", data := .seq its.toArray n }) (hf : f its.toArray = its'.toArray) (hv : Vals ys its') (hz : ys.length ≤ sizeLine) :
    Inv X pins σ (upd H l (.lst ys)) { s with heap := s.heap.update l (Obj.mapSeq f), toks := t' } := by
  have q := PySem.IsL.update e f
  rw [hf] at q
  refine I.write (x := l) (e := l) (by rw [hH]; exact trivial) (.inl rfl) (fun b' u hb hu => (Heap.get?_update_other s.heap (Obj.mapSeq f) (Ne.symm hb)).trans hu) ⟨_, q⟩ ?_
  exact ⟨hz, its', _, hv, q⟩
theorem Inv.lnew {its : List Value} {t' : Nat} (I : Inv X pins σ H s) (hv : Vals ys its) (hz : ys.length ≤ sizeLine) :
    Inv X pins σ (upd H s.heap.objs.size (.lst ys)) { s with heap := s.heap.push { cls := .type "list", data := .seq its.toArray }, toks := t' } :=
  I.laid (fun _ _ q => Heap.get?_push_of_some _ q) (Nat.le_refl _) ⟨hz, its, 0, hv, Heap.get?_push_size _ rfl⟩
theorem Inv.fresh (I : Inv X pins σ H s) : H s.heap.objs.size = none := I.hok.fresh (Nat.le_refl _)
theorem Inv.lstM (I : Inv X pins σ H s) (hH : H l = some (.lst xs)) : xs.length ≤ sizeLine ∧ ∃ (its : List Value) (n : Nat), Vals xs its ∧ xs.length = its.length ∧ s.heap.get? l = some { cls := .type "list", data := .seq its.toArray n } := by
  obtain ⟨z, its, n, r, e⟩ := I.hok l _ hH
  exact ⟨z, its, n, r, r.length, e⟩
theorem notLongL {n : Nat} (h : n ≤ sizeLine) : Builtin.List.listTooLong n = false := by
  unfold Builtin.List.listTooLong
  exact decide_eq_false (by omega)
end
section
variable {X : Cx}
def rAppend : V → List V → Hp → VK → Prop := fun x vs H Q => ∃ l xs y, x = .ref l ∧ vs = [y] ∧ H l = some (.lst xs) ∧ xs.length < sizeLine ∧ Q .non (upd H l (.lst (xs ++ [y])))
theorem mt_append : MtM X "list.append" rAppend := by
  intro pins s σ H x vs v us Q I rx rv h
  obtain ⟨l, xs, y, rfl, rfl, hH, hz, q⟩ := h
  cases rx
  obtain ⟨u, rfl, ru⟩ := rv.one
  obtain ⟨z, its, n, r, hl, e⟩ := I.lstM hH
  refine call_meets F.slot_list_append ⟨_, e, rfl⟩ F.entry_list_append (F.args_list_append_2 _ _) (PySem.list_append l its.toArray n u (by rw [List.size_toArray]; omega)) ⟨e, ?_⟩
  refine ⟨.non, _, I.lset (its' := its ++ [u]) hH e (by simp) (r.append (.cons ru .nil)) ?_, rfl, q⟩
  rw [List.length_append, List.length_singleton]
  omega
def rExtend : V → List V → Hp → VK → Prop := fun x vs H Q => ∃ l b xs zs, x = .ref l ∧ vs = [.ref b] ∧ H l = some (.lst xs) ∧ H b = some (.lst zs) ∧ xs.length + zs.length ≤ sizeLine ∧ Q .non (upd H l (.lst (xs ++ zs)))
theorem mt_extend : MtM X "list.extend" rExtend := by
  intro pins s σ H x vs v us Q I rx rv h
  obtain ⟨l, b, xs, zs, rfl, rfl, hH, hB, hz, q⟩ := h
  cases rx
  obtain ⟨u, rfl, ru⟩ := rv.one
  cases ru
  obtain ⟨z, its, n, r, hl, e⟩ := I.lstM hH
  obtain ⟨z2, its2, n2, r2, hl2, e2⟩ := I.lstM hB
  have hsz : its.toArray.size + its2.toArray.size ≤ sizeLine := by rw [List.size_toArray, List.size_toArray]; omega
  have hlong : ¬ (!its.toArray.isEmpty && Builtin.List.listTooLong (its.toArray.size + its2.toArray.size)) = true := by
    rw [notLongL hsz, Bool.and_false]
    exact Bool.false_ne_true
  refine call_meets F.slot_list_extend ⟨_, e, rfl⟩ F.entry_list_extend (F.args_list_extend_2 _ _)
    (AutoSeq1.list_extend_list_list_0 l its.toArray n b its2.toArray n2 hlong (by rw [List.size_toArray]; omega) (by omega)) ⟨e, e2, ?_⟩
  refine ⟨.non, _, I.lset (its' := its ++ its2) hH e (by simp) (r.append r2) ?_, rfl, q⟩
  rw [List.length_append]
  omega
def rPop : V → List V → Hp → VK → Prop := fun x vs H Q => ∃ l xs y, x = .ref l ∧ vs = [] ∧ H l = some (.lst xs) ∧ xs[xs.length - 1]? = some y ∧ Q y (upd H l (.lst xs.dropLast))
def rPopAt : V → List V → Hp → VK → Prop := fun x vs H Q => ∃ l xs i k y, x = .ref l ∧ vs = [.int i] ∧ H l = some (.lst xs) ∧ -(2 ^ 63) ≤ i ∧ i < 2 ^ 63 ∧ seqIndex? i xs.length = some k ∧ xs[k]? = some y ∧ Q y (upd H l (.lst (xs.eraseIdx k)))
def rReverse : V → List V → Hp → VK → Prop := fun x vs H Q => ∃ l xs, x = .ref l ∧ vs = [] ∧ H l = some (.lst xs) ∧ Q .non (upd H l (.lst xs.reverse))
def rClear : V → List V → Hp → VK → Prop := fun x vs H Q => ∃ l xs, x = .ref l ∧ vs = [] ∧ H l = some (.lst xs) ∧ Q .non (upd H l (.lst []))
def rCat : R2 := fun x y H Q => ∃ l b xs zs, x = .ref l ∧ y = .ref b ∧ H l = some (.lst xs) ∧ H b = some (.lst zs) ∧ xs.length + zs.length ≤ sizeLine ∧ ∀ p, H p = none → Q (.ref p) (upd H p (.lst (xs ++ zs)))
theorem op_cat : OpR X (binaryOp .Add) rCat := by
  intro pins s σ H x y v u Q I rx ry h
  obtain ⟨l, b, xs, zs, rfl, rfl, hH, hB, hz, q⟩ := h
  cases rx
  cases ry
  obtain ⟨z, its, n, r, hl, e⟩ := I.lstM hH
  obtain ⟨z2, its2, n2, r2, hl2, e2⟩ := I.lstM hB
  refine PySem.P.add_list e e2 ?_ (by rw [List.size_toArray, List.size_toArray]; omega)
  have ea : its.toArray ++ its2.toArray = (its ++ its2).toArray := by simp
  rw [ea]
  exact ⟨.ref _, _, I.lnew (t' := s.toks) (r.append r2) (by rw [List.length_append]; omega), rfl, q _ I.fresh⟩
def rRep : R2 := fun x y H Q => ∃ l k xs, x = .ref l ∧ y = .int k ∧ H l = some (.lst xs) ∧ -(2 ^ 63) ≤ k ∧ k < 2 ^ 63 ∧ xs.length * k.toNat ≤ sizeLine ∧
  ∀ p, H p = none → Q (.ref p) (upd H p (.lst (List.replicate k.toNat xs).flatten))
theorem len_rep {α : Type} (xs : List α) (k : Nat) : (List.replicate k xs).flatten.length = k * xs.length := by
  induction k with
  | zero => simp
  | succ k ih => rw [List.replicate_succ, List.flatten_cons, List.length_append, ih, Nat.succ_mul, Nat.add_comm]
theorem op_rep : OpR X (binaryOp .Mult) rRep := by
  intro pins s σ H x y v u Q I rx ry h
  obtain ⟨l, k, xs, rfl, rfl, hH, h1, h2, hz, q⟩ := h
  cases rx
  obtain ⟨t, rfl⟩ := ry
  obtain ⟨z, its, n, r, hl, e⟩ := I.lstM hH
  have hlen : its.toArray.size * k.toNat ≤ sizeLine := by rw [List.size_toArray, ← hl]; exact hz
  have hcap : ¬ its.toArray.size * k.toNat > (2 ^ 63 - 1) / 8 := by
    have : (sizeLine : Nat) ≤ (2 ^ 63 - 1) / 8 := by decide
    omega
  have hfit : ¬ (!Builtin.List.listFitsIndex k) = true := by
    rw [fitsIndex_both h1 h2]
    exact Bool.false_ne_true
  have hlong : ¬ Builtin.List.listTooLong (its.toArray.size * k.toNat) = true := by
    rw [notLongL hlen]
    exact Bool.false_ne_true
  have hnew : List.foldl (fun x1 x2 => x1 ++ x2) #[] (List.replicate (if its.toArray.isEmpty = true then 0 else k.toNat) its.toArray) = (List.replicate k.toNat its).flatten.toArray := by
    have f0 : ∀ m : Nat, List.foldl (fun x1 x2 => x1 ++ x2) #[] (List.replicate m its.toArray) = (List.replicate m its).flatten.toArray := fun m => by
      have := foldl_rep its m []
      rw [List.nil_append] at this
      exact this
    rw [f0]
    cases its with
    | nil => simp
    | cons a r' => rw [if_neg (by simp)]
  refine wpAny_binaryOp_repeat_ref (T := "list") (U := "int") (by decide) ⟨_, e, rfl⟩ (fun s' => typeIs_int s' k t) noFill_list_mul F.fills_int_mul F.slot_int_rmul repeat_list F.slot_int_index.lookup
    (call_meets F.slot_int_rmul (typeIs_int s k t) F.entry_int_rmul (F.args_int_rmul_2 _ _) (int___rmul___int_list k t l its.toArray n)
      ⟨e, rfl, ⟨_, e, rfl⟩, call_meets F.slot_list_mul ⟨_, e, rfl⟩ F.entry_list_mul (F.args_list_mul_2 _ _) (AutoListH.list___mul___list_int_3 l its.toArray n k t hfit hcap hlong) ⟨e, ?_⟩⟩)
  rw [hnew]
  exact ⟨.ref _, _, I.lnew (t' := s.toks) (r.rep k.toNat) (by rw [len_rep, Nat.mul_comm]; exact hz), rfl, q _ I.fresh⟩
end
section
variable {prog : Program} {w : World} {A : Around} {E : Value → Shared → Prop} {s : Shared}
end
section
variable {X : Cx}
end
end L2
namespace L2
open PySem PySem.Spec PyProof.Rows
section
variable {κ : Type} [DecidableEq κ]
def valV (kvs : List (κ × V)) (k : κ) : Option V := (kvs.find? fun kv => decide (kv.1 = k)).map (·.2)
def putK (kvs : List (κ × V)) (k : κ) (v : V) : List (κ × V) :=
  if (kvs.any fun kv => decide (kv.1 = k)) = true then kvs.map (fun kv => if kv.1 = k then (kv.1, v) else kv) else kvs ++ [(k, v)]
def dropK (kvs : List (κ × V)) (k : κ) : List (κ × V) := kvs.filter fun kv => decide (kv.1 ≠ k)
end
abbrev KT (H : Hp) : List (List Key × V) → List (List Key × Addr × Value) → Prop := Paired fun p q => p.1 = q.1 ∧ H q.2.1 = some (.tup (p.1.map kV)) ∧ RelV p.2 q.2.2
section
variable {P : Program} {w : World} {H : Hp} {h : Heap} {a : Addr}
end
def DGet (H : Hp) (a : Addr) (y : V) (r : Option V) : Prop :=
  (∃ kvs k, Rd H a (.dK kvs) ∧ y = kV k ∧ r = valV kvs k) ∨ ∃ kvs k b, Rd H a (.dT kvs) ∧ y = .ref b ∧ H b = some (.tup (k.map kV)) ∧ r = valV kvs k
def DPut (H : Hp) (a : Addr) (y v : V) (H' : Hp) : Prop :=
  (∃ kvs k, H a = some (.dK kvs) ∧ y = kV k ∧ kvs.length < sizeLine ∧ H' = upd H a (.dK (putK kvs k v))) ∨
  ∃ kvs k b, H a = some (.dT kvs) ∧ y = .ref b ∧ H b = some (.tup (k.map kV)) ∧ kvs.length < sizeLine ∧ H' = upd H a (.dT (putK kvs k v))
section
variable {X : Cx} {pins : List (Addr × Obj)} {σ : St} {H : Hp} {s : Shared} {a : Addr} {y v : V} {u r : Value} {o : Option V} {A : Around} {E : Value → Shared → Prop}
end
section
variable {X : Cx} {pins : List (Addr × Obj)} {σ : St} {H : Hp} {s : Shared} {a : Addr} {kvs : List (Key × V)} {k : Key} {u : Value} {A : Around} {E : Value → Shared → Prop}
end
def NoSl (i : Expr) : Prop := ∀ ov iv, subscripted i false ov iv = operate [ov, iv] (getItem ov iv)
def tDGet (td ty : TE) : TE := fun σ H Q => td σ H fun x H1 => ty σ H1 fun y H2 => ∃ a v, x = .ref a ∧ DGet H2 a y (some v) ∧ Q v H2
def tDIn (ty td : TE) : TE := fun σ H Q => ty σ H fun y H1 => td σ H1 fun x H2 => ∃ a o, x = .ref a ∧ DGet H2 a y o ∧ Q (.bl o.isSome) H2
def tDNotIn (ty td : TE) : TE := fun σ H Q => ty σ H fun y H1 => td σ H1 fun x H2 => ∃ a o, x = .ref a ∧ DGet H2 a y o ∧ Q (.bl (!o.isSome)) H2
def sDPut (td ty tv : TE) : TS := fun D σ H => tv σ H fun v H1 => td σ H1 fun x H2 => ty σ H2 fun y H3 => ∃ a H4, x = .ref a ∧ DPut H3 a y v H4 ∧ D.nx σ H4
def sDAug (td ty tv : TE) (rd : V → V → Hp → VK → Prop) : TS := fun D σ H => td σ H fun x H1 => ty σ H1 fun y H2 => ∃ a v, x = .ref a ∧ DGet H2 a y (some v) ∧
  tv σ H2 fun y2 H3 => rd v y2 H3 fun z H4 => ∃ H5, DPut H4 a y z H5 ∧ D.nx σ H5
def sDDel (td ty : TE) : TS := fun D σ H => td σ H fun x H1 => ty σ H1 fun y H2 => ∃ a kvs k, x = .ref a ∧ H2 a = some (.dK kvs) ∧ y = kV k ∧ (valV kvs k).isSome = true ∧ D.nx σ (upd H2 a (.dK (dropK kvs k)))
section
variable {X : Cx} {o i e value : Expr} {pos pos' tpos : Pos} {td ty tv : TE}
end
def tDNewK : TE := fun _ H Q => ∀ p, H p = none → Q (.ref p) (upd H p (.dK []))
def tDNewT : TE := fun _ H Q => ∀ p, H p = none → Q (.ref p) (upd H p (.dT []))
section
variable {X : Cx} {pos : Pos}
end
def tPairs : List (TE × TE) → St → Hp → (List (V × V) → Hp → Prop) → Prop
  | [], _, H, Q => Q [] H
  | (tk, tv) :: r, σ, H, Q => tk σ H fun x H1 => tv σ H1 fun y H2 => tPairs r σ H2 fun ps H3 => Q ((x, y) :: ps) H3
abbrev VV : List (V × V) → List (Value × Value) → Prop := Paired fun p q => RelV p.1 q.1 ∧ RelV p.2 q.2
def PPs (X : Cx) (pos : Pos) (keys : List (Option Expr)) (values : List Expr) (trs : List (TE × TE)) : Prop :=
  ∀ (pins : List (Addr × Obj)) (s : Shared) (σ : St) (H : Hp) (Q : List (V × V) → Hp → Prop), Inv X pins σ H s → tPairs trs σ H Q →
    wpAny (model X.prog X.w) X.A (evalPairs (pairTrees keys values X.env pos)) (fun vs s' => ∃ ps H', Inv X pins σ H' s' ∧ VV ps vs ∧ Q ps H') X.xe s
def mergeK (kvs more : List (Key × V)) : List (Key × V) := more.foldl (fun acc kv => putK acc kv.1 kv.2) kvs
def tDisp (trs : List (TE × TE)) : TE := fun σ H Q => ∀ p, H p = none → tPairs trs σ (upd H p (.dK [])) fun ps H2 => H2 p = some (.dK []) ∧ ∃ kvs : List (Key × V), ps = kvs.map (fun kv => (kV kv.1, kv.2)) ∧ kvs.length ≤ 15 ∧ Q (.ref p) (upd H2 p (.dK (mergeK [] kvs)))
structure M1 (X : Cx) (o : Expr) (m : Str) (apos : Pos) (e : Expr) (cpos : Pos) : Prop where
  base : attributeBase o m X.env (eval o X.env) = eval o X.env
  few : ((backTo cpos (starEach [e] X.env)).all (fun x => !x.1) && (backToKw cpos (keywordEach [] X.env)).all (fun x => x.1.isSome)
    && decide (([e] : List Expr).length + ([] : List Keyword).length + (if ([] : List Keyword).isEmpty then 0 else 1) < 30)) = true
  line : (apos.endLine == cpos.line) = true
  trees : backTo cpos (starEach [e] X.env) = [(false, eval e X.env)]
structure M2 (X : Cx) (o : Expr) (m : Str) (apos : Pos) (e f : Expr) (cpos : Pos) : Prop where
  base : attributeBase o m X.env (eval o X.env) = eval o X.env
  few : ((backTo cpos (starEach [e, f] X.env)).all (fun x => !x.1) && (backToKw cpos (keywordEach [] X.env)).all (fun x => x.1.isSome)
    && decide (([e, f] : List Expr).length + ([] : List Keyword).length + (if ([] : List Keyword).isEmpty then 0 else 1) < 30)) = true
  line : (apos.endLine == cpos.line) = true
  trees : backTo cpos (starEach [e, f] X.env) = [(false, eval e X.env), (false, eval f X.env)]
def IsD (H : Hp) (a : Addr) : Prop := (∃ kvs, Rd H a (.dK kvs)) ∨ ∃ kvs, Rd H a (.dT kvs)
section
variable {X : Cx} {pins : List (Addr × Obj)} {σ : St} {H : Hp} {s : Shared} {a : Addr} {y d : V} {u r : Value} {o : Option V} {A : Around} {E : Value → Shared → Prop}
end
def tDGet1 (td ty : TE) : TE := fun σ H Q => td σ H fun x H1 => ∃ a, x = .ref a ∧ IsD H1 a ∧ ty σ H1 fun y H2 => ∃ o, DGet H2 a y o ∧ Q (o.getD .non) H2
def tDGet2 (td ty tx : TE) : TE := fun σ H Q => td σ H fun x H1 => ∃ a, x = .ref a ∧ IsD H1 a ∧ ty σ H1 fun y H2 => tx σ H2 fun z H3 => ∃ o, DGet H3 a y o ∧ Q (o.getD z) H3
def tDPop1 (td ty : TE) : TE := fun σ H Q => td σ H fun x H1 => ∃ a, x = .ref a ∧ IsD H1 a ∧ ty σ H1 fun y H2 => ∃ kvs k v, H2 a = some (.dK kvs) ∧ y = kV k ∧ valV kvs k = some v ∧ Q v (upd H2 a (.dK (dropK kvs k)))
def tDPop2 (td ty tx : TE) : TE := fun σ H Q => td σ H fun x H1 => ∃ a, x = .ref a ∧ IsD H1 a ∧ ty σ H1 fun y H2 => tx σ H2 fun z H3 => ∃ kvs k, H3 a = some (.dK kvs) ∧ y = kV k ∧
  (∀ v, valV kvs k = some v → Q v (upd H3 a (.dK (dropK kvs k)))) ∧ (valV kvs k = none → Q z H3)
section
variable {X : Cx} {o e f : Expr} {apos cpos : Pos} {td ty tx : TE}
end
section
variable {X : Cx} {pins : List (Addr × Obj)} {σ : St} {H : Hp} {s : Shared} {a : Addr} {kvs : List (Key × V)} {A : Around} {E : Value → Shared → Prop}
end
section
variable {X : Cx} {pins : List (Addr × Obj)} {σ : St} {H : Hp} {s : Shared} {a : Addr} {y : V} {u : Value} {A : Around} {E : Value → Shared → Prop}
end
end L2
namespace Att
open PySem PySem.W PySem.Calls PyProof.Rows
theorem ints_of_wellAll {P : Params} {h : Heap} : ∀ (ns : List Int) (vs : List Value), WellAll P h vs (ns.map WData.int) → IntsAre vs ns := by
  intro ns
  induction ns with
  | nil =>
    intro vs w
    rw [List.map_nil] at w
    cases w
    exact .nil
  | cons n ns ih =>
    intro vs w
    rw [List.map_cons] at w
    cases w with
    | cons a b =>
      cases a
      exact .cons _ _ (ih _ b)
theorem script_of {l : OpenLaw} {n : Nat} (hn : l.most = some n) {P : Params} {h : Heap} {args : List WData} {vals : List Value}
    (hpre : l.row.toRowW.claim.pre args = true) (hwl : WellAll P h vals args) :
    ∃ a vs ns, vals = [Value.ref a] ∧ args = [WData.list (ns.map WData.int)] ∧ h.get? a = some { cls := .type "list", data := .seq vs.toArray } ∧ IntsAre vs ns ∧ ns.length ≤ n := by
  have hsh : WShape.hasAll [] args [.list .int] = true := (pre_splitW hpre).1
  have hc : l.pre.holds [] { args := args } = true := (pre_splitW hpre).2
  obtain ⟨d, r, rfl, h1, h2⟩ := hasAllW_cons hsh
  obtain rfl := hasAllW_nil h2
  obtain ⟨xs, rfl, h3⟩ := hasW_list h1
  obtain ⟨ns, rfl⟩ := items_int h3
  have hlen : ns.length ≤ n := by
    unfold OpenLaw.pre at hc
    have h4 : (WTm.not (.lt (.lit (.int (n : Int))) (.len (.arg 0)))).holds [] { args := [.list (ns.map .int)] } = true := by
      have h4 := (holds_andW hc).1
      rw [hn] at h4
      exact h4
    have h5 := condW_of h4 (w_not (w_lt w_lit (w_len_list (w_arg rfl))))
    rw [List.length_map] at h5
    refine Nat.le_of_not_lt fun q => ?_
    have q' : (n : Int) < ((ns.length : Nat) : Int) := by omega
    first
      | (rw [decide_eq_true q'] at h5; exact absurd h5 (by decide))
      | (simp at h5; omega)
  cases hwl with
  | cons w1 w2 =>
    cases w2
    cases w1 with
    | list ho hall => exact ⟨_, _, ns, rfl, rfl, ho, ints_of_wellAll ns _ hall, hlen⟩
theorem post_true (l : OpenLaw) (args : List WData) : l.row.toRowW.claim.post args (.bool true) args = true :=
  postW_of (r := l.row.toRowW) (X := (true == true))
    (show WShape.has [] (.bool true) .bool = true by first | rfl | decide | simp [WShape.has, WShape.arms, WShape.armsAll])
    (show (WTm.eq .res (.lit (.bool true))).value [] { args := args, res := some (.bool true), after := args } = some (.bool (true == true)) from w_eq_bool (w_res rfl) w_lit) rfl
theorem attach_call {l : OpenLaw} {n : Nat} {q : Program} {loose : List Str} {XP : (Str → Option Value) → Heap → Prop} {YP : World → Heap → Prop} {d : DefRec}
    (hn : l.most = some n) (hdf : d.params.defaults = [])
    (call : ∀ (w : World) (s₀ s₁ : Shared) (mg mb : Str → Option Value) (fa : Addr) (o : Obj) (pm cd doc : Value) (a : Addr) (vs : List Value) (ns : List Int),
      Ground q loose [] XP w s₀ mg mb s₁.heap → YP w s₁.heap →
      s₁.heap.get? fa = some o → o.data = .func (docDef d.name d.params d.body d.scope pm cd doc) → s₁.heap.CodeRec cd d.name → mg d.name = some (.ref fa) →
      s₁.heap.get? a = some { cls := .type "list", data := .seq vs.toArray } → IntsAre vs ns → ns.length ≤ n → s₁.gens = #[] →
      codeAny (model l.prog w) callerA (.call (.ref fa) ⟨[.ref a], []⟩) (fun r s' => r = .ok (.ret (.bool true)) ∧ OldK s₁.heap s'.heap ∧ s'.os = s₁.os ∧ AllBare s'.gens) s₁) :
    WalkO q loose XP YP l.row.toRowW d [] (fun f vs => PySem.call f vs) := by
  intro w s₀ s₁ mg mb G Y fa o pm cd doc dV kV ho hd hcd hD hmg hg args vals as hpre hlay hrd hwl hlo
  obtain rfl : dV = .none := Dflts.none hD hdf
  obtain rfl : kV = .none := Dflts.noKw hD
  obtain ⟨a, vs, ns, rfl, rfl, hobj, hints, hlen⟩ := script_of hn hpre hwl
  refine enter_call (codeAny_mono (call w s₀ s₁ mg mb fa o pm cd doc a vs ns G Y ho (fd_plain hd) hcd hmg hobj hints hlen hg) fun r s' hq => ?_)
  obtain ⟨rfl, h2, h3, h4⟩ := hq
  exact ⟨.inl ⟨.bool true, .bool true, [], rfl, fun _ => rfl, .bool true, post_true l _, fun _ => ⟨List.Pairwise.nil, fun _ hm => (nomatch hm)⟩⟩, h2, h3, h4⟩
section
variable {prog : Program} {w : World} {A : Around} {E : Value → Shared → Prop} {s : Shared} {K : Frag}
def noObjs (h : Heap) : Heap := { h with objs := #[] }
def ledger (h : Heap) (L d : Addr) : List (Addr × Obj) := (List.range h.objs.size).filterMap fun a => if a = L ∨ a = d then none else (h.get? a).map fun o => (a, o)
end
end Att
namespace L2
open PySem PySem.Spec PyProof.Rows
theorem vals_ints : ∀ {vs : List Value} {ns : List Int}, IntsAre vs ns → Vals (ns.map V.int) vs
  | _, _, .nil => .nil
  | _, _, .cons n t h => .cons ⟨t, rfl⟩ (vals_ints h)
def Only (H : Hp) : Prop := ∀ b, H b = none ∨ ∃ o xs, H b = some (.frz o (.lst xs))
end L2
namespace L2
open PySem PySem.Spec PyProof.Rows
abbrev KOf {K : PySem.W.Frag} {h : Heap} (_ : K.In h) : PySem.W.Frag := K
end L2
namespace L2
open PySem PySem.Spec PyProof.Rows
def inClass (s : Stmt) (j : Nat) : Stmt := match s with
  | .ClassDef _ _ _ body _ _ _ _ _ _ _ => body.getD j (.Pass ⟨0, 0, 0, 0⟩)
  | _ => .Pass ⟨0, 0, 0, 0⟩
def defArgs (s : Stmt) : Arguments := match s with
  | .FunctionDef _ a _ _ _ _ _ _ _ _ => a
  | _ => { posonlyargs := [], args := [], vararg := none, kwonlyargs := [], kw_defaults := [], kwarg := none, defaults := [] }
def defBody (s : Stmt) : List Stmt := match s with
  | .FunctionDef _ _ b _ _ _ _ _ _ _ => b
  | _ => []
def defScope (s : Stmt) : Scope := match s with
  | .FunctionDef _ _ _ _ _ _ sc _ _ _ => sc
  | _ => { kind := .function, names := [], isGenerator := false, isCoroutine := false }
abbrev CX0 : CXT := fun _ _ _ _ _ _ => False
abbrev E0 : XK := fun _ _ _ => False
theorem pass0 {X : Cx} : Passes CX0 X E0 := fun _ _ _ _ _ _ _ h => h.elim
structure Fun (K : PySem.W.Frag) (x qual : Str) (st : Stmt) (f : Addr) (fd : FuncData) : Prop where
  ex : ∃ (oc : Value) (od : Option Addr) (kV doc pm : Value) (an : Option Addr) (cdv ct : Value) (osl : Array (Option Value)),
    fd = PySem.W.fnOf x qual (defArgs st) (defBody st) (defScope st) .none kV doc pm an cdv ct ∧ K.lookup f = some ⟨oc, od, .func fd, osl⟩ ∧ PySem.W.codeIn K cdv qual = true
  kp : PySem.W.keepIn K (.ref f) = true
section
variable {P : Program} {w : World} {K : PySem.W.Frag} {mg : Str → Option Value} {base : Heap}
theorem Fun.ok {x qual : Str} {st : Stmt} {f : Addr} {fd : FuncData} {N ps : List Str} {k : Nat} {sp : Sp} (F : Fun K x qual st f fd) (S : FnScope N ps (defScope st)) (len : ∀ vs H Q E, sp vs H Q E → vs.length = ps.length)
    (hbody : ∀ (cdv : Value) (A : Around) (outer : List Env) (s : Shared) (H : Hp) (vs : List V) (Q : VK) (E : XK), Room k (A.deeper (envOfC qual (defScope st) s.heap.objs.size f cdv)) → sp vs H Q E →
      ∃ t, PSs (cxOf CX0 P w K mg base N qual (defScope st) f cdv A outer s H E).nox (defBody st) t ∧ t { nx := fun _ H' => Q .non H', rt := Q } (start N vs) H) : FnOk P w K mg base CX0 (k + 1) f fd ps sp := by
  obtain ⟨oc, od, kV, doc, pm, an, cdv, ct, osl, rfl, lk, hcd⟩ := F.ex
  refine fn_of lk hcd S len fun A outer s H vs Q E hr hsp => ?_
  obtain ⟨t, h, q⟩ := hbody cdv A outer s H vs Q E hr hsp
  exact ⟨t, h.nox, q⟩
theorem Fun.binds {x qual : Str} {st : Stmt} {f : Addr} {fd : FuncData} {ps : List Str} (F : Fun K x qual st f fd)
    (h : ∀ (kV doc pm : Value) (an : Option Addr) (cdv ct : Value) (us : List Value), us.length = ps.length → bindArgs (PySem.W.fnOf x qual (defArgs st) (defBody st) (defScope st) .none kV doc pm an cdv ct) ⟨us, []⟩ = pure (ps.zip us)) : Binds K fd ps [] := by
  obtain ⟨oc, od, kV, doc, pm, an, cdv, ct, osl, rfl, lk, hcd⟩ := F.ex
  exact .all (h kV doc pm an cdv ct)
theorem fun_mk {x qual : Str} {st : Stmt} {f : Addr} {oc : Value} {od an : Option Addr} {osl : Array (Option Value)} {kV doc pm cdv ct : Value} (l : K.lookup f = some ⟨oc, od, .func (PySem.W.fnOf x qual (defArgs st) (defBody st) (defScope st) .none kV doc pm an cdv ct), osl⟩)
    (c : PySem.W.codeIn K cdv qual = true) (k : PySem.W.keepIn K (.ref f) = true) : Fun K x qual st f (PySem.W.fnOf x qual (defArgs st) (defBody st) (defScope st) .none kV doc pm an cdv ct) := ⟨⟨oc, od, kV, doc, pm, an, cdv, ct, osl, rfl, l, c⟩, k⟩
end
section
variable {X : Cx}
end
theorem iteF {A B : Prop} (h : B) : if false = true then A else B := by
  rw [if_neg Bool.false_ne_true]
  exact h
theorem iteT {A B : Prop} (h : A) : if true = true then A else B := by
  rw [if_pos rfl]
  exact h
def Same (H H' : Hp) : Prop := ∀ b o, H b = some o → H' b = some o
end L2
namespace L2
open PySem PySem.Spec PyProof.Rows
section
variable {X : Cx}
end
section
variable {κ : Type} [DecidableEq κ]
end
end L2
set_option linter.all false
namespace HM
theorem gcd_fmod (a b : Int) : Int.gcd b (a.fmod b) = Int.gcd a b := by
  have h := Int.gcd_sub_mul_right_right b a (a.fdiv b)
  rw [Int.fmod_def, Int.mul_comm b, h, Int.gcd_comm]
theorem fmod_lt (a b : Int) (h : b ≠ 0) : (a.fmod b).natAbs < b.natAbs := by
  rcases Int.lt_or_gt_of_ne h with hb | hb
  · have e : a.fmod b = -((-a).fmod (-b)) := by rw [Int.neg_fmod_neg, Int.neg_neg]
    have h1 := Int.fmod_nonneg_of_pos (-a) (show 0 < -b by omega)
    have h2 := Int.fmod_lt_of_pos (-a) (show 0 < -b by omega)
    omega
  · have h1 := Int.fmod_nonneg_of_pos a hb
    have h2 := Int.fmod_lt_of_pos a hb
    omega
theorem gcd_zero (a : Int) : ((Int.gcd a 0 : Nat) : Int) = if a < 0 then -a else a := by
  rw [Int.gcd_zero_right]
  split <;> omega
def shr (t b : Int) : Int := if b < 0 then -((Int.gcd t b : Nat) : Int) else ((Int.gcd t b : Nat) : Int)
theorem shr_ne {t b : Int} (h : b ≠ 0) : shr t b ≠ 0 := by
  have h1 : Int.gcd t b ≠ 0 := fun e => h (Int.gcd_eq_zero_iff.mp e).2
  unfold shr
  split <;> omega
theorem div_num {t b : Int} (h : b ≠ 0) : t.fdiv (shr t b) = (Rat.divInt t b).num := by
  have hg : ((Int.gcd t b : Nat) : Int) ∣ t := Int.gcd_dvd_left t b
  rw [Rat.num_divInt, Int.gcd_comm b t]
  unfold shr
  rcases Int.lt_or_gt_of_ne h with hb | hb
  · rw [if_pos hb, Int.sign_eq_neg_one_of_neg hb, Int.fdiv_eq_ediv_of_dvd (Int.neg_dvd.mpr hg), Int.ediv_neg, Int.neg_mul, Int.one_mul, Int.neg_ediv_of_dvd hg]
  · rw [if_neg (by omega), Int.sign_eq_one_of_pos hb, Int.fdiv_eq_ediv_of_dvd hg, Int.one_mul]
theorem div_den {t b : Int} (h : b ≠ 0) : b.fdiv (shr t b) = ((Rat.divInt t b).den : Int) := by
  have hg : ((Int.gcd t b : Nat) : Int) ∣ b := Int.gcd_dvd_right t b
  rw [Rat.den_divInt, Int.gcd_comm b t, if_neg h]
  unfold shr
  rcases Int.lt_or_gt_of_ne h with hb | hb
  · rw [if_pos hb, Int.fdiv_eq_ediv_of_dvd (Int.neg_dvd.mpr hg), Int.ediv_neg, Int.natCast_ediv]
    rw [show ((b.natAbs : Nat) : Int) = -b by omega, Int.neg_ediv_of_dvd hg]
  · rw [if_neg (by omega), Int.fdiv_eq_ediv_of_dvd hg, Int.natCast_ediv]
    rw [show ((b.natAbs : Nat) : Int) = b by omega]
theorem add_of (a b : Rat) : Rat.divInt (a.num * b.den + b.num * a.den) (a.den * b.den) = a + b := by
  rw [Rat.add_def', Rat.mkRat_eq_div, Rat.divInt_eq_div]; simp [Rat.intCast_natCast]
theorem sub_of (a b : Rat) : Rat.divInt (a.num * b.den - b.num * a.den) (a.den * b.den) = a - b := by
  rw [Rat.sub_def', Rat.mkRat_eq_div, Rat.divInt_eq_div]; simp [Rat.intCast_natCast]
theorem mul_of (a b : Rat) : Rat.divInt (a.num * b.num) (a.den * b.den) = a * b := by
  rw [Rat.mul_def', Rat.mkRat_eq_div, Rat.divInt_eq_div]; simp [Rat.intCast_natCast]
theorem div_of (a b : Rat) : Rat.divInt (a.num * b.den) (a.den * b.num) = a / b := by
  rw [Rat.div_def, ← Rat.num_divInt_den b, Rat.inv_divInt]
  conv => rhs; rw [← Rat.num_divInt_den a]
  rw [Rat.divInt_mul_divInt, Rat.num_divInt_den]
def isqN : Nat → Nat
  | 0 => 0
  | n + 1 => if (isqN n + 1) * (isqN n + 1) ≤ n + 1 then isqN n + 1 else isqN n
theorem isqN_spec : ∀ n, isqN n * isqN n ≤ n ∧ n < (isqN n + 1) * (isqN n + 1)
  | 0 => by decide
  | n + 1 => by
    obtain ⟨h1, h2⟩ := isqN_spec n
    unfold isqN
    split
    · rename_i h
      refine ⟨h, ?_⟩
      have : (isqN n + 1 + 1) * (isqN n + 1 + 1) = (isqN n + 1) * (isqN n + 1) + 2 * (isqN n + 1) + 1 := by grind
      omega
    · rename_i h
      exact ⟨Nat.le_succ_of_le h1, Nat.lt_of_not_le h⟩
def isq (n : Int) : Int := (isqN n.toNat : Nat)
structure Rt (n r : Int) : Prop where
  nn : 0 ≤ r
  le : r * r ≤ n
  lt : n < (r + 1) * (r + 1)
theorem isq_rt {n : Int} (h : 0 ≤ n) : Rt n (isq n) := by
  obtain ⟨h1, h2⟩ := isqN_spec n.toNat
  refine ⟨by unfold isq; omega, ?_, ?_⟩
  · unfold isq
    have : ((isqN n.toNat * isqN n.toNat : Nat) : Int) ≤ (n.toNat : Int) := Int.ofNat_le.mpr h1
    rw [Int.natCast_mul] at this
    omega
  · unfold isq
    have : ((n.toNat : Nat) : Int) < (((isqN n.toNat + 1) * (isqN n.toNat + 1) : Nat) : Int) := Int.ofNat_lt.mpr h2
    rw [Int.natCast_mul, Int.natCast_add] at this
    rw [show ((n.toNat : Nat) : Int) = n by omega] at this
    exact this
theorem sq_mono {a b : Int} (ha : 0 ≤ a) (h : a ≤ b) : a * a ≤ b * b := Int.mul_le_mul h h ha (by omega)
theorem Rt.le_of {n r x : Int} (h : Rt n r) (hx : x * x ≤ n) : x ≤ r := by
  apply Int.not_lt.mp
  intro hl
  have := sq_mono (a := r + 1) (b := x) (by have := h.nn; omega) (by omega)
  have := h.lt
  omega
theorem Rt.uniq {n r q : Int} (h : Rt n r) (h' : Rt n q) : r = q := Int.le_antisymm (h'.le_of h.le) (h.le_of h'.le)
theorem isq_eq {n r : Int} (h : Rt n r) : isq n = r := (isq_rt (Int.le_trans (by have := sq_mono (Int.le_refl 0) h.nn; omega) h.le)).uniq h
theorem isq_sq {n x : Int} (e : x * x = n) : isq n * isq n = n := by
  have h : Rt n x.natAbs := by
    refine ⟨by omega, ?_, ?_⟩
    · rw [Int.natAbs_mul_self' x]; omega
    · have : ((x.natAbs : Int) + 1) * ((x.natAbs : Int) + 1) = (x.natAbs : Int) * (x.natAbs : Int) + 2 * x.natAbs + 1 := by grind
      rw [Int.natAbs_mul_self' x] at this
      omega
  rw [isq_eq h, Int.natAbs_mul_self' x]
  exact e
theorem newton_ge {n g r : Int} (hg : 0 < g) (hr : 0 ≤ r) (h : r * r ≤ n) : r ≤ (g + n / g) / 2 := by
  apply Int.not_lt.mp
  intro hl
  have h1 : g + n / g + 1 ≤ 2 * r := by omega
  have hn : 0 ≤ n := by have := sq_mono (Int.le_refl 0) hr; omega
  have hq : 0 ≤ n / g := Int.ediv_nonneg hn (by omega)
  have h2 := sq_mono (a := g + n / g + 1) (b := 2 * r) (by omega) h1
  have h3 : n < (n / g + 1) * g := by
    have := Int.lt_ediv_add_one_mul_self n hg
    exact this
  have h4 : 0 ≤ (g - (n / g + 1)) * (g - (n / g + 1)) := by
    rw [← Int.natAbs_mul_self' (g - (n / g + 1))]; exact Int.natCast_nonneg _
  generalize n / g = q at *
  grind
theorem newton_lt {n g r : Int} (hn : 0 ≤ n) (h : Rt n r) (hg : r < g) : (g + n / g) / 2 < g := by
  have h0 := h.nn
  have h1 : n / g < r + 1 := by
    apply Int.ediv_lt_of_lt_mul (by omega)
    have := h.lt
    have h2 : (r + 1) * (r + 1) ≤ (r + 1) * g := Int.mul_le_mul_of_nonneg_left (by omega) (by omega)
    omega
  omega
def Bt (n : Nat) (x : Int) : Prop := x.natAbs < 2 ^ n
theorem two_pow_le {m n : Nat} (h : m ≤ n) : 2 ^ m ≤ 2 ^ n := Nat.pow_le_pow_right (by decide) h
theorem Bt.mono {m n : Nat} {x : Int} (h : Bt m x) (hm : m ≤ n) : Bt n x := Nat.lt_of_lt_of_le h (two_pow_le hm)
theorem Bt.mul {m n : Nat} {x y : Int} (hx : Bt m x) (hy : Bt n y) : Bt (m + n) (x * y) := by
  unfold Bt at *
  rw [Int.natAbs_mul, Nat.pow_add]
  exact Nat.mul_lt_mul'' hx hy
theorem Bt.add {m n : Nat} {x y : Int} (hx : Bt m x) (hy : Bt n y) : Bt (max m n + 1) (x + y) := by
  have h1 := hx.mono (Nat.le_max_left m n)
  have h2 := hy.mono (Nat.le_max_right m n)
  unfold Bt at *
  have := Int.natAbs_add_le x y
  rw [Nat.pow_succ]
  omega
theorem Bt.neg {m : Nat} {x : Int} (hx : Bt m x) : Bt m (-x) := by unfold Bt at *; omega
theorem Bt.sub {m n : Nat} {x y : Int} (hx : Bt m x) (hy : Bt n y) : Bt (max m n + 1) (x - y) := by
  rw [Int.sub_eq_add_neg]; exact hx.add hy.neg
theorem Bt.le {m : Nat} {x y : Int} (hx : Bt m x) (h : y.natAbs ≤ x.natAbs) : Bt m y := Nat.lt_of_le_of_lt h hx
structure Sz (n : Nat) (q : Rat) : Prop where
  num : Bt n q.num
  den : Bt n q.den
theorem Sz.mono {m n : Nat} {q : Rat} (h : Sz m q) (hm : m ≤ n) : Sz n q := ⟨h.num.mono hm, h.den.mono hm⟩
theorem natAbs_fdiv_le : ∀ a b : Int, (a.fdiv b).natAbs ≤ a.natAbs
  | .ofNat 0, b => by
    have e : Int.fdiv (.ofNat 0) b = 0 := Int.zero_fdiv b
    rw [e]; exact Nat.zero_le _
  | .ofNat (k + 1), .ofNat j => Nat.div_le_self (k + 1) j
  | .ofNat (k + 1), .negSucc j => Nat.succ_le_succ (Nat.div_le_self k (j + 1))
  | .negSucc _, .ofNat 0 => Nat.zero_le _
  | .negSucc k, .ofNat (j + 1) => Nat.succ_le_succ (Nat.div_le_self k (j + 1))
  | .negSucc k, .negSucc j => Nat.div_le_self (k + 1) (j + 1)
theorem Sz.divInt {n : Nat} {t b : Int} (ht : Bt n t) (hb : Bt n b) (h : b ≠ 0) : Sz n (Rat.divInt t b) :=
  ⟨by rw [← div_num h]; exact ht.le (natAbs_fdiv_le _ _), by rw [← div_den h]; exact hb.le (natAbs_fdiv_le _ _)⟩
theorem den_ne (q : Rat) : (q.den : Int) ≠ 0 := by have := q.den_nz; omega
theorem den_mul_ne (p q : Rat) : (p.den : Int) * q.den ≠ 0 := Int.mul_ne_zero (den_ne p) (den_ne q)
theorem Sz.add {m n : Nat} {a b : Rat} (ha : Sz m a) (hb : Sz n b) : Sz (m + n + 1) (a + b) := by
  rw [← add_of]
  refine .divInt ?_ ?_ (den_mul_ne a b)
  · exact ((ha.num.mul hb.den).add (hb.num.mul ha.den)).mono (by omega)
  · exact (ha.den.mul hb.den).mono (by omega)
theorem Sz.sub {m n : Nat} {a b : Rat} (ha : Sz m a) (hb : Sz n b) : Sz (m + n + 1) (a - b) := by
  rw [← sub_of]
  refine .divInt ?_ ?_ (den_mul_ne a b)
  · exact ((ha.num.mul hb.den).sub (hb.num.mul ha.den)).mono (by omega)
  · exact (ha.den.mul hb.den).mono (by omega)
theorem Sz.mul {m n : Nat} {a b : Rat} (ha : Sz m a) (hb : Sz n b) : Sz (m + n) (a * b) := by
  rw [← mul_of]
  exact .divInt (ha.num.mul hb.num) (ha.den.mul hb.den) (den_mul_ne a b)
theorem num_ne {q : Rat} (h : q ≠ 0) : q.num ≠ 0 := fun e => h (Rat.num_eq_zero.mp e)
theorem Sz.div {m n : Nat} {a b : Rat} (ha : Sz m a) (hb : Sz n b) (h : b ≠ 0) : Sz (m + n) (a / b) := by
  rw [← div_of]
  exact .divInt (ha.num.mul hb.den) (ha.den.mul hb.num) (Int.mul_ne_zero (den_ne a) (num_ne h))
theorem Sz.neg {m : Nat} {a : Rat} (ha : Sz m a) : Sz m (-a) := ⟨by rw [Rat.neg_num]; exact ha.num.neg, by rw [Rat.neg_den]; exact ha.den⟩
theorem sq_num (r : Rat) : (r * r).num = r.num * r.num := by
  have h := Rat.num_pow r 2
  rw [show r ^ 2 = r * r by grind, show r.num ^ 2 = r.num * r.num by grind] at h
  exact h
theorem sq_den (r : Rat) : (r * r).den = r.den * r.den := by
  have h := Rat.den_pow r 2
  rw [show r ^ 2 = r * r by grind, show r.den ^ 2 = r.den * r.den by grind] at h
  exact h
def NoSq (u : Rat) : Prop := ∀ r : Rat, r * r ≠ u
end HM
namespace HM
theorem isq_le {n : Int} (h : 0 ≤ n) : isq n ≤ n := by
  have rt := isq_rt h
  have h0 := rt.nn
  have h1 := rt.le
  rcases Int.lt_or_le (isq n) 1 with h2 | h2
  · omega
  · have : isq n * 1 ≤ isq n * isq n := Int.mul_le_mul_of_nonneg_left h2 h0
    omega
theorem isq_bt {n : Int} {m : Nat} (h : 0 ≤ n) (hb : Bt m n) : Bt m (isq n) := hb.le (by have := isq_le h; have := (isq_rt h).nn; omega)
theorem isq_zero : isq 0 = 0 := by decide
structure Gd (n g : Int) : Prop where
  pos : 0 < g
  ge : isq n ≤ g
  bt : Bt 2002 g
theorem fdiv2 (a : Int) {b : Int} (h : 0 < b) : a.fdiv b = a / b := Int.fdiv_eq_ediv_of_nonneg a (by omega)
end HM
namespace HM
abbrev absI (a : Int) : Int := if a < 0 then -a else a
theorem absI_nn (a : Int) : 0 ≤ absI a := by unfold absI; split <;> omega
theorem absI_bt {n : Nat} {a : Int} (h : Bt n a) : Bt n (absI a) := h.le (by unfold absI; split <;> omega)
theorem rat_sq_nonneg (r : Rat) : 0 ≤ r * r := by
  rcases Rat.le_total (a := 0) (b := r) with h | h
  · exact Rat.mul_nonneg h h
  · have : 0 ≤ -r := by grind
    have := Rat.mul_nonneg this this
    grind
theorem rat_num_den (w : Rat) : (w.num : Rat) = w * (w.den : Rat) := by
  have h := Rat.num_divInt_den w
  rw [Rat.divInt_eq_div, Rat.intCast_natCast] at h
  have hd : (w.den : Rat) ≠ 0 := by
    have := w.den_nz
    exact fun e => this (by exact_mod_cast e)
  grind
theorem rat_den_ne (w : Rat) : (w.den : Rat) ≠ 0 := by
  have := w.den_nz
  exact fun e => this (by exact_mod_cast e)
def Unders : List Int := [2, 3, 5, 6, 7, 8, 10, 12, 18, 101]
end HM
namespace HM
def ab (b : Rat) : Rat := if b < 0 then -b else b
theorem ab_nn (b : Rat) : 0 ≤ ab b := by unfold ab; split <;> grind
theorem ab_sq (b : Rat) : ab b * ab b = b * b := by unfold ab; split <;> grind
def ss (b : Rat) : Rat := b * ab b
theorem num_neg_iff (q : Rat) : q.num < 0 ↔ q < 0 := by
  have := Rat.num_nonneg (q := q)
  constructor
  · intro h
    apply Rat.not_le.mp
    intro h2
    have := this.mpr h2
    omega
  · intro h
    apply Int.not_le.mp
    intro h2
    exact absurd (this.mp h2) (Rat.not_le.mpr h)
theorem ab_num (q : Rat) : (ab q).num = absI q.num := by
  unfold ab absI
  by_cases h : q < 0
  · rw [if_pos h, if_pos ((num_neg_iff q).mpr h), Rat.neg_num]
  · rw [if_neg h, if_neg (fun e => h ((num_neg_iff q).mp e))]
theorem ab_den (q : Rat) : (ab q).den = q.den := by
  unfold ab
  split
  · exact Rat.neg_den _
  · rfl
theorem isq_self {x : Int} (h : 0 ≤ x) : isq (x * x) = x := isq_eq ⟨h, Int.le_refl _, by grind⟩
theorem ss_zero {b u : Rat} (hu : 0 < u) : ss b * u = 0 ↔ b = 0 := by
  unfold ss ab
  constructor
  · intro h
    have hu' : u ≠ 0 := by grind
    split at h <;> grind
  · intro h
    subst h
    grind
theorem ss_ab {b u : Rat} (hu : 0 < u) : ab (ss b * u) = b * b * u := by
  have h2 := rat_sq_nonneg b
  have h3 := Rat.mul_nonneg h2 (Rat.le_of_lt hu)
  unfold ss
  by_cases h : b < 0
  · have e : b * ab b * u = -(b * b * u) := by unfold ab; rw [if_pos h]; grind
    rw [e]
    have hp : 0 < b * b * u := by
      have h4 : 0 < -b := by grind
      have h5 := Rat.mul_pos h4 h4
      have h6 := Rat.mul_pos h5 hu
      grind
    unfold ab
    rw [if_pos (by grind)]
    grind
  · have e : b * ab b * u = b * b * u := by unfold ab; rw [if_neg h]
    rw [e]
    unfold ab
    rw [if_neg (by grind)]
theorem ss_neg {b u : Rat} (hu : 0 < u) : ss b * u < 0 ↔ b < 0 := by
  have h2 := rat_sq_nonneg b
  have h3 := Rat.mul_nonneg h2 (Rat.le_of_lt hu)
  unfold ss ab
  constructor
  · intro h
    split at h
    · assumption
    · exfalso; grind
  · intro h
    rw [if_pos h]
    have h4 : 0 < -b := by grind
    have h5 := Rat.mul_pos h4 h4
    have h6 := Rat.mul_pos h5 hu
    grind
theorem ss_mul (a b : Rat) : ss (a * b) = ss a * ss b := by
  have e : ab (a * b) = ab a * ab b := by
    unfold ab
    by_cases ha : a < 0 <;> by_cases hb : b < 0
    · have := Rat.mul_pos (show 0 < -a by grind) (show 0 < -b by grind)
      rw [if_neg (by grind), if_pos ha, if_pos hb]; grind
    · rw [if_pos ha, if_neg hb]
      by_cases h0 : b = 0
      · subst h0; grind
      · have := Rat.mul_pos (show 0 < -a by grind) (show 0 < b by grind)
        rw [if_pos (by grind)]; grind
    · rw [if_neg ha, if_pos hb]
      by_cases h0 : a = 0
      · subst h0; grind
      · have := Rat.mul_pos (show 0 < a by grind) (show 0 < -b by grind)
        rw [if_pos (by grind)]; grind
    · have := Rat.mul_nonneg (show 0 ≤ a by grind) (show 0 ≤ b by grind)
      rw [if_neg (by grind), if_neg ha, if_neg hb]
  unfold ss
  rw [e]
  grind
theorem ss_negate (b : Rat) : ss (-b) = -ss b := by
  unfold ss ab
  by_cases h : b < 0
  · rw [if_neg (by grind), if_pos h]; grind
  · by_cases h0 : b = 0
    · subst h0; grind
    · rw [if_pos (by grind), if_neg h]; grind
theorem ss_nonneg {b : Rat} (h : 0 ≤ b) : ss b = b * b := by unfold ss ab; rw [if_neg (by grind)]
def sg (p q : Rat) : Rat := if q < 0 then -p else p
end HM
namespace HM
def sgR (q : Rat) : Int := if 0 < q then 1 else if q < 0 then -1 else 0
theorem sgR_pos {q : Rat} (h : 0 < q) : sgR q = 1 := if_pos h
theorem sgR_neg {q : Rat} (h : q < 0) : sgR q = -1 := by unfold sgR; rw [if_neg (by grind), if_pos h]
theorem sgR_zero : sgR 0 = 0 := by decide
theorem tri (q : Rat) : 0 < q ∨ q < 0 ∨ q = 0 := by
  rcases Rat.le_total (a := 0) (b := q) with h | h
  · by_cases e : q = 0
    · exact .inr (.inr e)
    · exact .inl (by grind)
  · by_cases e : q = 0
    · exact .inr (.inr e)
    · exact .inr (.inl (by grind))
theorem sgR_mul (p q : Rat) : sgR (p * q) = sgR p * sgR q := by
  rcases tri p with hp | hp | hp
  · rcases tri q with hq | hq | hq
    · rw [sgR_pos hp, sgR_pos hq, sgR_pos (Rat.mul_pos hp hq)]; rfl
    · have := Rat.mul_pos hp (show 0 < -q by grind)
      rw [sgR_pos hp, sgR_neg hq, sgR_neg (by grind)]; rfl
    · subst hq
      rw [show p * 0 = 0 by grind, sgR_zero]; omega
  · rcases tri q with hq | hq | hq
    · have := Rat.mul_pos (show 0 < -p by grind) hq
      rw [sgR_neg hp, sgR_pos hq, sgR_neg (by grind)]; rfl
    · have := Rat.mul_pos (show 0 < -p by grind) (show 0 < -q by grind)
      rw [sgR_neg hp, sgR_neg hq, sgR_pos (by grind)]; rfl
    · subst hq
      rw [show p * 0 = 0 by grind, sgR_zero]; omega
  · subst hp
    rw [show 0 * q = 0 by grind, sgR_zero]; omega
def sq2 (a b u : Rat) : Int := if 0 < a * a - b * b * u then sgR a else sgR b
theorem sq2_n {a b u : Rat} (h : a * a - b * b * u < 0) : sq2 a b u = sgR b := if_neg (by grind)
end HM
namespace HM
theorem div_nn {x y : Rat} (hx : 0 ≤ x) (hy : 0 ≤ y) : 0 ≤ x / y := by
  by_cases h : y = 0
  · subst h
    rw [show x / 0 = 0 by grind]
    exact Rat.le_refl
  · apply Rat.not_lt.mp
    intro hl
    have h1 := Rat.mul_pos (show 0 < -(x / y) by grind) (show 0 < y by grind)
    have h2 : x / y * y = x := by grind
    grind
theorem ab_zero : ab 0 = 0 := by unfold ab; rw [if_neg (by grind)]
theorem ss_of_zero : ss 0 = 0 := by unfold ss; grind
theorem num_nn {q : Rat} (h : 0 ≤ q) : 0 ≤ q.num := Rat.num_nonneg.mpr h
theorem root_of_sq {q r : Rat} (h0 : 0 ≤ r) (e : r * r = q) : isq q.num = r.num ∧ isq (q.den : Int) = (r.den : Int) := by
  subst e
  rw [sq_num, sq_den]
  refine ⟨isq_self (num_nn h0), ?_⟩
  rw [Int.natCast_mul]
  exact isq_self (by omega)
theorem sq_of_root {q : Rat} (h0 : 0 ≤ q) (s1 : isq q.num * isq q.num = q.num) (s2 : isq (q.den : Int) * isq (q.den : Int) = (q.den : Int)) : ∃ r : Rat, 0 ≤ r ∧ r * r = q := by
  have n1 := (isq_rt (num_nn h0)).nn
  have n2 := (isq_rt (n := (q.den : Int)) (by omega)).nn
  generalize isq q.num = x at s1 n1
  generalize isq (q.den : Int) = y at s2 n2
  have t1 : (x : Rat) * x = (q.num : Rat) := by
    have := congrArg (fun z : Int => (z : Rat)) s1
    simpa [Rat.intCast_mul] using this
  have t2 : (y : Rat) * y = (q.den : Rat) := by
    have := congrArg (fun z : Int => (z : Rat)) s2
    simpa [Rat.intCast_mul, Rat.intCast_natCast] using this
  have hd := rat_den_ne q
  have hy0 : (y : Rat) ≠ 0 := by intro e; rw [e] at t2; exact hd (by grind)
  have hwn := rat_num_den q
  have x0 : (0 : Rat) ≤ x := by exact_mod_cast n1
  have y0 : (0 : Rat) ≤ y := by exact_mod_cast n2
  refine ⟨(x : Rat) / y, ?_, by grind⟩
  exact div_nn x0 y0
theorem ab_ne {e : Rat} (h : e ≠ 0) : ab e ≠ 0 := by unfold ab; split <;> grind
theorem ab_pos {e : Rat} (h : e ≠ 0) : 0 < ab e := by have := ab_nn e; have := ab_ne h; grind
theorem nn_eq {r s : Rat} (hr : 0 ≤ r) (hs : 0 ≤ s) (e : r * r = s * s) : r = s := by
  by_cases h : r + s = 0
  · grind
  · have : (r - s) * (r + s) = 0 := by grind
    grind
theorem share_root {b e u r : Rat} (u0 : 0 < u) (he : e ≠ 0) (hr : 0 ≤ r) (h : r * r = (b * b * u) / (e * e * u)) : r = ab b / ab e := by
  have u1 : u ≠ 0 := by grind
  have e1 := ab_sq e
  have b1 := ab_sq b
  have e2 := ab_ne he
  apply nn_eq hr (div_nn (ab_nn b) (ab_nn e))
  rw [h]
  have : ab b / ab e * (ab b / ab e) = (ab b * ab b) / (ab e * ab e) := by grind
  rw [this, e1, b1]
  grind
theorem share_sq {b e u : Rat} (u0 : 0 < u) (he : e ≠ 0) : (ab b / ab e) * (ab b / ab e) = (b * b * u) / (e * e * u) := by
  have u1 : u ≠ 0 := by grind
  have e1 := ab_sq e
  have b1 := ab_sq b
  have e2 := ab_ne he
  have : ab b / ab e * (ab b / ab e) = (ab b * ab b) / (ab e * ab e) := by grind
  rw [this, e1, b1]
  grind
theorem share_sg {b e u : Rat} (u0 : 0 < u) : sg (ab b / ab e) (ss b * u) = b / ab e := by
  unfold sg
  by_cases h : b < 0
  · rw [if_pos ((ss_neg u0).mpr h)]
    unfold ab
    rw [if_pos h]
    grind
  · rw [if_neg (fun z => h ((ss_neg u0).mp z))]
    unfold ab
    rw [if_neg h]
theorem ss_div {x y : Rat} (hy : 0 < y) : ss (x / y) = ss x / (y * y) := by
  have h1 : x / y = x * (1 / y) := by grind
  have h2 : 0 ≤ 1 / y := div_nn (by decide) (Rat.le_of_lt hy)
  rw [h1, ss_mul, ss_nonneg h2]
  grind
theorem join_ss {x e u : Rat} (he : e ≠ 0) : ss (x / ab e) * (e * e * u) = ss x * u := by
  have e1 := ab_sq e
  rw [ss_div (ab_pos he), e1]
  grind
theorem sg_ss (p base : Rat) : sg (p * p * base) p = ss p * base := by
  unfold sg ss ab
  by_cases h : p < 0
  · rw [if_pos h, if_pos h]; grind
  · rw [if_neg h, if_neg h]
def pick (b d : Rat) : Rat := if b = 0 then d else b
theorem pick_b {b d : Rat} : b = 0 ∨ pick b d ≠ 0 := by
  unfold pick
  by_cases h : b = 0
  · exact .inl h
  · rw [if_neg h]; exact .inr h
theorem pick_d {b d : Rat} : d = 0 ∨ pick b d ≠ 0 := by
  unfold pick
  by_cases h : b = 0
  · rw [if_pos h]
    by_cases h2 : d = 0
    · exact .inl h2
    · exact .inr h2
  · rw [if_neg h]; exact .inr h
theorem pick_zero {b d : Rat} (h : pick b d = 0) : b = 0 ∧ d = 0 := by
  unfold pick at h
  by_cases h2 : b = 0
  · rw [if_pos h2] at h; exact ⟨h2, h⟩
  · rw [if_neg h2] at h; exact absurd h h2
theorem plus_join {b d u : Rat} : ss (b / ab (pick b d) + d / ab (pick b d)) * (pick b d * pick b d * u) = ss (b + d) * u := by
  by_cases h : pick b d = 0
  · obtain ⟨rfl, rfl⟩ := pick_zero h
    rw [h]
    have : ss ((0 : Rat) + 0) = 0 := by rw [show (0 : Rat) + 0 = 0 by grind]; exact ss_of_zero
    rw [this]
    grind
  · rw [← join_ss (x := b + d) h]
    congr 2
    have := ab_ne h
    grind
theorem times_part {a b c d u : Rat} : a * c + (b / ab (pick b d)) * (d / ab (pick b d)) * (pick b d * pick b d * u) = a * c + b * d * u := by
  by_cases h : pick b d = 0
  · obtain ⟨rfl, rfl⟩ := pick_zero h
    rw [h]
    grind
  · have e1 := ab_sq (pick b d)
    have e2 := ab_ne h
    rw [← e1]
    grind
theorem times_join {a b c d u : Rat} : ss (a * (d / ab (pick b d)) + c * (b / ab (pick b d))) * (pick b d * pick b d * u) = ss (a * d + b * c) * u := by
  by_cases h : pick b d = 0
  · obtain ⟨rfl, rfl⟩ := pick_zero h
    rw [h, show a * (0 / ab (0 : Rat)) + c * (0 / ab 0) = 0 by grind, show a * 0 + 0 * c = 0 by grind, ss_of_zero]
    grind
  · rw [← join_ss (x := a * d + b * c) h]
    congr 2
    have := ab_ne h
    grind
theorem ab_ss {b u : Rat} (u0 : 0 < u) : ab (ss b * u) = b * b * u := ss_ab u0
theorem Sz.ab {n : Nat} {q : Rat} (h : Sz n q) : Sz n (HM.ab q) := by
  unfold HM.ab
  split
  · exact h.neg
  · exact h
theorem Sz.ss {n : Nat} {q : Rat} (h : Sz n q) : Sz (n + n) (HM.ss q) := h.mul h.ab
theorem Sz.sg {n : Nat} {p q : Rat} (h : Sz n p) : Sz n (HM.sg p q) := by
  unfold HM.sg
  split
  · exact h.neg
  · exact h
theorem Sz.zero : Sz 1 0 := ⟨by show (0 : Int).natAbs < 2 ^ 1; decide, by show ((1 : Nat) : Int).natAbs < 2 ^ 1; decide⟩
theorem Sz.pick {n : Nat} {b d : Rat} (hb : Sz n b) (hd : Sz n d) : Sz n (HM.pick b d) := by
  unfold HM.pick
  split
  · exact hd
  · exact hb
theorem Sz.div' {m n : Nat} {a b : Rat} (ha : Sz m a) (hb : Sz n b) : Sz (m + n + 1) (a / b) := by
  by_cases h : b = 0
  · subst h
    rw [show a / 0 = 0 by grind]
    exact Sz.zero.mono (by omega)
  · exact (ha.div hb h).mono (by omega)
theorem sgR_ss {b u : Rat} (u0 : 0 < u) : sgR (ss b * u) = sgR b := by
  rcases tri b with h | h | h
  · have := Rat.mul_pos (Rat.mul_pos h (ab_pos (show b ≠ 0 by grind))) u0
    unfold ss
    rw [sgR_pos h, sgR_pos this]
  · rw [sgR_neg h, sgR_neg ((ss_neg u0).mpr h)]
  · subst h
    rw [ss_of_zero, show (0 : Rat) * u = 0 by grind]
theorem num_pos_iff (q : Rat) : q.num > 0 ↔ 0 < q := by
  constructor
  · intro h
    rcases tri q with h1 | h1 | h1
    · exact h1
    · have := (num_neg_iff q).mpr h1; omega
    · subst h1; exact absurd h (by decide)
  · intro h
    have := num_nn (Rat.le_of_lt h)
    have n0 : q.num ≠ 0 := num_ne (by grind)
    omega
end HM
namespace HM
def sI (i : Int) : Int := (if decide (0 < i) = true then 1 else 0) - (if decide (i < 0) = true then 1 else 0)
section
variable {p q : Rat} {u : Int}
end
end HM
namespace L2
open PySem PySem.Spec PyProof.Rows
theorem compTurn_if0 (elt target iter : Expr) (scope : Scope) (pos : Pos) (it acc : Value) (env : Env) :
    compTurn (.ListComp elt [⟨target, iter, [], 0⟩] scope pos) 0 it acc env = (standAt iter.pos >>= fun _ => pyNext it >>= fun r => match r with
      | none => pure (.done .next)
      | some v => letOwnedTupleGo target it v >>= fun _ => assign target env v >>= fun _ =>
        (eval elt env >>= fun x => call (.builtin "list.append") [acc, x] >>= fun _ => pure ()) >>= fun _ =>
          again (.compLoop (.ListComp elt [⟨target, iter, [], 0⟩] scope pos) 0 it acc env)) := by rfl
section
variable {prog : Program} {w : World} {A : Around} {R : Result → Shared → Prop} {s : Shared}
abbrev NoE : Value → Shared → Prop := fun _ _ => False
theorem noE {α : Type} {M : Model} {A : Around} {t : Sem α} {Q : α → Shared → Prop} {E : Value → Shared → Prop} {s : Shared} (h : wpAny M A t Q NoE s) : wpAny M A t Q E s := wpAny_mono h (fun _ _ q => q) fun _ _ z => z.elim
theorem compLoop_if0 {elt target iter : Expr} {scope : Scope} {pos : Pos} {it acc : Value} {env : Env} (I : Nat → Shared → Prop)
    (turn : ∀ n s, I n s → wpAny (model prog w) A (pyNext it) (fun r s1 => match r with
      | none => R (.ok .next) s1
      | some v => wpAny (model prog w) A (letOwnedTupleGo target it v) (fun _ s2 => wpAny (model prog w) A (assign target env v) (fun _ s3 => wpAny (model prog w) A (eval elt env) (fun x s4 =>
          wpAny (model prog w) A (call (.builtin "list.append") [acc, x]) (fun _ s5 => ∃ m, m < n ∧ I m s5) NoE s4) NoE s3) NoE s2) NoE s1) NoE s)
    (n : Nat) (h : I n s) : codeAny (model prog w) A (.compLoop (.ListComp elt [⟨target, iter, [], 0⟩] scope pos) 0 it acc env) R s := by
  refine codeAny_loop rfl I (fun n s hI => ?_) n h
  show wpAny _ _ ((compTurn (.ListComp elt [⟨target, iter, [], 0⟩] scope pos) 0 it acc env).onRaise (fun x => do noteFrame x env; theTreesLotGoes x)) _ _ s
  refine wpAny_noted ?_
  rw [compTurn_if0]
  refine wpAny_bind (wpAny_standAt (wpAny_bind (noE (wpAny_mono (turn n s hI) (fun r s1 h1 => ?_) fun _ _ z => z))))
  cases r with
  | none => exact wpAny_pure h1
  | some v =>
    exact wpAny_bind (noE (thn h1 fun _ s2 h2 => wpAny_bind (noE (thn h2 fun _ s3 h3 => wpAny_bind (wpAny_bind (noE (thn h3 fun x s4 h4 => wpAny_bind (noE (thn h4 fun _ s5 h5 => wpAny_pure (wpAny_pure ⟨rfl, h5⟩))))))))))
theorem wpAny_forIn_one {M : Model} {A : Around} {E : Value → Shared → Prop} {c : Expr} {env : Env} {Q : Bool → Shared → Prop} {s : Shared} (h : wpAny M A (PySem.isTrue c env (eval c env)) Q E s) :
    wpAny M A (forIn [c] true fun c r => if r = true then do let ok ← PySem.isTrue c env (eval c env); pure (ForInStep.yield ok) else pure (ForInStep.yield r)) Q E s := by
  rw [List.forIn_cons]
  refine wpAny_bind ?_
  rw [if_pos rfl]
  refine wpAny_bind (thn h fun ok s1 q => wpAny_pure ?_)
  show wpAny M A (forIn [] ok _) Q E s1
  rw [List.forIn_nil]
  exact wpAny_pure q
theorem compLoop_if1 {elt target iter c : Expr} {scope : Scope} {pos : Pos} {it acc : Value} {env : Env} (I : Nat → Shared → Prop)
    (turn : ∀ n s, I n s → wpAny (model prog w) A (pyNext it) (fun r s1 => match r with
      | none => R (.ok .next) s1
      | some v => wpAny (model prog w) A (letOwnedTupleGo target it v) (fun _ s2 => wpAny (model prog w) A (assign target env v) (fun _ s3 => wpAny (model prog w) A (isTrue c env (eval c env)) (fun b s3' =>
          if b = true then wpAny (model prog w) A (eval elt env) (fun x s4 => wpAny (model prog w) A (call (.builtin "list.append") [acc, x]) (fun _ s5 => ∃ m, m < n ∧ I m s5) NoE s4) NoE s3'
          else ∃ m, m < n ∧ I m s3') NoE s3) NoE s2) NoE s1) NoE s)
    (n : Nat) (h : I n s) : codeAny (model prog w) A (.compLoop (.ListComp elt [⟨target, iter, [c], 0⟩] scope pos) 0 it acc env) R s := by
  refine codeAny_loop rfl I (fun n s hI => ?_) n h
  show wpAny _ _ ((compTurn (.ListComp elt [⟨target, iter, [c], 0⟩] scope pos) 0 it acc env).onRaise (fun x => do noteFrame x env; theTreesLotGoes x)) _ _ s
  refine wpAny_noted ?_
  rw [compTurn_list]
  refine wpAny_bind (wpAny_standAt (wpAny_bind (noE (wpAny_mono (turn n s hI) (fun r s1 h1 => ?_) fun _ _ z => z))))
  cases r with
  | none => exact wpAny_pure h1
  | some v =>
    refine wpAny_bind (noE (thn h1 fun _ s2 h2 => wpAny_bind (noE (thn h2 fun _ s3 h3 => wpAny_bind (wpAny_forIn_one (noE (thn h3 fun b s3' h3' => ?_)))))))
    cases b with
    | true =>
      rw [if_pos rfl] at h3' ⊢
      exact wpAny_bind (wpAny_bind (noE (thn h3' fun x s4 h4 => wpAny_bind (noE (thn h4 fun _ s5 h5 => wpAny_pure (wpAny_pure ⟨rfl, h5⟩))))))
    | false =>
      rw [if_neg Bool.false_ne_true] at h3' ⊢
      exact wpAny_pure ⟨rfl, h3'⟩
end
def cxC (X : Cx) (scope : Scope) (cl : List (Str × Addr)) (N : List Str) (s0 : Shared) (H0 : Hp) (ex : List Addr) (C : Addr) : Cx where
  prog := X.prog
  w := X.w
  K := X.K
  mg := X.mg
  base := X.base
  A := X.A
  N := N
  s₀ := s0
  H₀ := H0
  env := compEnvC scope cl C X.env
  outer := X.stack
  stack := X.stack
  ex := ex
  fn := fun _ => false
  calm := X.calm
  pn := []
  xe := NoE
structure CompSc (X : Cx) (scope : Scope) (cl : List (Str × Addr)) (N : List Str) (cap : List (Option Nat)) : Prop where
  kind : scope.kind = .function
  clos : closureFor scope X.env = pure cl
  nocell : (scope.names.all fun y => y.2 != NameKind.cell) = true
  names : (scope.names.all fun y => y.2 != NameKind.local || scope.names.lookup y.1 == some NameKind.local) = true
  sub : ∀ p ∈ cl, X.env.cells.lookup p.1 = some p.2
  has : ((relabel scope X.env).names.all fun y => (y.2 != NameKind.cell && y.2 != NameKind.free) || (cl.lookup y.1).isSome) = true
  len : cap.length = N.length
  caps : ∀ (i j : Nat) (x : Str), cap[i]? = some (some j) → N[i]? = some x → X.N[j]? = some x ∧ (X.env.scope.names.lookup x = some .cell ∨ X.env.scope.names.lookup x = some .free) ∧ ((relabel scope X.env).names.lookup x = some .cell ∨ (relabel scope X.env).names.lookup x = some .free)
def capSt (cap : List (Option Nat)) (σ : St) : St := cap.map fun o => match o with
  | some j => (σ[j]?).join
  | none => none
theorem capSt_get {cap : List (Option Nat)} {σ : St} {i : Nat} {v : V} (h : (capSt cap σ)[i]? = some (some v)) : ∃ j, cap[i]? = some (some j) ∧ σ[j]? = some (some v) := by
  unfold capSt at h
  rw [List.getElem?_map] at h
  cases e : cap[i]? with
  | none => rw [e] at h; cases h
  | some o =>
    rw [e] at h
    cases o with
    | none => cases h
    | some j =>
      refine ⟨j, rfl, ?_⟩
      have h : (σ[j]?).join = some v := Option.some.inj h
      cases e2 : σ[j]? with
      | none => rw [e2] at h; cases h
      | some q => rw [e2] at h; exact congrArg some h
theorem lookup_sub {X : Cx} {cl : List (Str × Addr)} (h : ∀ p ∈ cl, X.env.cells.lookup p.1 = some p.2) {x : Str} {c : Addr} (e : cl.lookup x = some c) : X.env.cells.lookup x = some c := h (x, c) (PySem.mem_of_lookup e)
theorem inv_comp {X : Cx} {scope : Scope} {cl : List (Str × Addr)} {N : List Str} {cap : List (Option Nat)} (Sc : CompSc X scope cl N cap) {pins : List (Addr × Obj)} {σ : St} {H : Hp} {s : Shared} {fp : List Addr} (I : Inv X pins σ H s)
    (hf : ∀ b ∈ fp, FpOk X pins H b) (ho : ∀ b ∈ fp, ∃ o, s.heap.get? b = some o) {h1 h1' : Heap} {m : Str → Option Value} {tk : Nat} {ob : Obj}
    (hD : s.heap.push { cls := .type "list", data := .seq ([] : List Value).toArray } = h1') (hns : h1.Ns h1'.objs.size m) (hsb : Heap.SameBut h1'.objs.size (h1'.push ob) h1) :
    Inv (cxC X scope cl N { s with heap := h1' } (upd H s.heap.objs.size (.lst [])) fp h1'.objs.size) [] (capSt cap σ) (upd H s.heap.objs.size (.lst [])) { s with heap := h1, toks := tk } ∧
      Un (frs X.stack) fp H (upd H s.heap.objs.size (.lst [])) s.heap h1' := by
  have hC : h1'.objs.size = s.heap.objs.size + 1 := by rw [← hD, Heap.size_push]
  have k1 : ∀ b o, s.heap.get? b = some o → h1'.get? b = some o := fun b o e => by rw [← hD]; exact Heap.get?_push_of_some _ e
  have k2 : ∀ b o, h1'.get? b = some o → h1.get? b = some o := fun b o e => (hsb.2 b (Nat.ne_of_lt (Heap.lt_size e))).trans (Heap.get?_push_of_some _ e)
  have hHn : H s.heap.objs.size = none := I.hok.fresh (Nat.le_refl _)
  have neD : ∀ b o, s.heap.get? b = some o → b ≠ s.heap.objs.size := fun b o e => Nat.ne_of_lt (Heap.lt_size e)
  have un1 : Un (frs X.stack) fp H (upd H s.heap.objs.size (.lst [])) s.heap h1' := Un.laid k1 (Nat.le_refl _) hHn
  have new : ObjOk X.prog X.w (upd H s.heap.objs.size (.lst [])) h1' s.heap.objs.size (.lst []) := ⟨Nat.zero_le _, [], 0, .nil, by rw [← hD]; exact Heap.get?_push_size _ rfl⟩
  have hok1 : HOk X.prog X.w (upd H s.heap.objs.size (.lst [])) h1' := I.hok.laid k1 (Nat.le_refl _) new
  have fsub : ∀ b ∈ fp, b ∉ frs X.stack := fun b hb z => by
    obtain ⟨_, f1, f2, _⟩ := hf b hb
    rcases List.mem_cons.mp (I.stkSub b z) with e | e
    · exact f1 e
    · exact f2 e
  have cellK : ∀ x c, cl.lookup x = some c → ∃ v, s.heap.IsCell c v := fun x c e => I.cell x c (lookup_sub Sc.sub e)
  refine ⟨⟨⟨I.ok.mod, ?_, I.ok.glob, I.ok.blt, Nat.le_refl _, fun x y c e1 e2 => I.ok.inj x y c (lookup_sub Sc.sub e1) (lookup_sub Sc.sub e2), fun x hx => ?_, fun x c z => (by cases z), I.ok.hd, I.ok.frames, .inl rfl, fun b hb => ⟨?_, fun x c e => ?_⟩, fun b o e => ⟨?_, ?_⟩, ?_, fun b o e hb => ?_, fsub, ?_, fun b hb => ?_⟩,
    rfl, I.bare, Un.kept k2, ⟨m, hns, fun i x v e1 e2 e3 => ?_⟩, fun x c e => ?_, ?_, fun x c e => ?_, fun p hp => absurd hp (by simp [cxC]), hok1.kept k2, ?_⟩, un1⟩
  · exact Sc.kind
  · have hx : (relabel scope X.env).names.lookup x = some .cell ∨ (relabel scope X.env).names.lookup x = some .free := hx
    have ha := List.all_eq_true.mp Sc.has
    show ∃ c, cl.lookup x = some c
    rcases hx with hx | hx
    · have := ha _ (PySem.mem_of_lookup hx)
      exact Option.isSome_iff_exists.mp (by simpa using this)
    · have := ha _ (PySem.mem_of_lookup hx)
      exact Option.isSome_iff_exists.mp (by simpa using this)
  · obtain ⟨o, e⟩ := ho b hb
    have := Heap.lt_size e
    show b ≠ h1'.objs.size
    rw [hC]
    exact Nat.ne_of_lt (Nat.lt_succ_of_lt this)
  · exact (hf b hb).2.2.2.2.1 x c (lookup_sub Sc.sub e)
  · exact k1 b o (I.bk b o e)
  · show upd H s.heap.objs.size (.lst []) b = none
    rw [upd_ne (neD b o (I.bk b o e))]
    exact (I.bs b o e).2
  · show X.base.objs.size ≤ h1'.objs.size
    rw [hC]
    exact Nat.le_succ_of_le (Nat.le_trans I.ok.bsz I.sz)
  · obtain ⟨_, _, _, f3, _⟩ := hf b hb
    rcases f3 with f3 | f3
    · exact I.ok.noex b o e f3
    · have q1 := Heap.lt_size e
      have q2 := I.ok.bsz
      exact absurd (Nat.lt_of_lt_of_le q1 (Nat.le_trans q2 f3)) (Nat.lt_irrefl _)
  · exact I.stack.of_keeps fun b o e _ => ⟨o, k1 b o e, rfl⟩
  · show upd H s.heap.objs.size (.lst []) b = none
    obtain ⟨_, o, e, _⟩ := I.stack.mem hb
    rw [upd_ne (neD b o e)]
    exact I.stkFree b hb
  · obtain ⟨j, c1, c2⟩ := capSt_get e2
    obtain ⟨d1, d2, d3⟩ := Sc.caps i j x c1 e1
    obtain ⟨m0, _, l0⟩ := I.loc
    obtain ⟨u, ru, lk⟩ := l0 j x v d1 c2 (d2.elim (fun z => .inr (.inl z)) fun z => .inr (.inr z))
    refine ⟨u, ru, .inr ⟨d3, ?_⟩⟩
    rcases lk with ⟨z, _⟩ | ⟨_, c, z1, z2⟩
    · have z : X.env.scope.names.lookup x = some .local := z
      rcases d2 with q | q <;> (rw [q] at z; cases z)
    · have ha := List.all_eq_true.mp Sc.has
      have hs : ∃ c', cl.lookup x = some c' := by
        rcases d3 with q | q
        · exact Option.isSome_iff_exists.mp (by simpa using ha _ (PySem.mem_of_lookup q))
        · exact Option.isSome_iff_exists.mp (by simpa using ha _ (PySem.mem_of_lookup q))
      obtain ⟨c', q⟩ := hs
      have q2 := lookup_sub Sc.sub q
      rw [z1] at q2
      cases q2
      obtain ⟨o, e, d⟩ := z2
      exact ⟨c, q, o, k2 _ _ (k1 _ _ e), d⟩
  · obtain ⟨v, o, e1, d⟩ := cellK x c e
    exact ⟨v, o, k2 _ _ (k1 _ _ e1), d⟩
  · show upd H s.heap.objs.size (.lst []) h1'.objs.size = none
    rw [hC, upd_ne (Nat.succ_ne_self _)]
    exact I.hok.fresh (Nat.le_succ _)
  · obtain ⟨v, o, e1, d⟩ := cellK x c e
    show upd H s.heap.objs.size (.lst []) c = none
    rw [upd_ne (neD c o e1)]
    exact I.freeC x c (lookup_sub Sc.sub e)
  · show (capSt cap σ).length = N.length
    unfold capSt
    rw [List.length_map]
    exact Sc.len
def tComp (cap : List (Option Nat)) (wi : TI) (g : TG) (te : TE) : TE := fun σ H Q => wi σ H fun J H1 => ∀ D, H1 D = none → ∃ W : Nat → Nat → St → Hp → Prop, (∃ m, W 0 m (capSt cap σ) (upd H1 D (.lst []))) ∧ ∀ i m σ' H', W i m σ' H' →
  (J.stop i H' ∧ Q (.ref D) H') ∨ (J.go i H' ∧ ∃ N : St → Hp → Prop, (∀ σ2 H2, N σ2 H2 → ∃ m', m' < m ∧ W (i + 1) m' σ2 H2) ∧ ∀ x H2, J.yld i H' x H2 → g x σ' H2 fun σ3 H3 => te σ3 H3 fun v H4 => ∃ ys, H4 D = some (.lst ys) ∧ ys.length < sizeLine ∧ N σ3 (upd H4 D (.lst (ys ++ [v]))))
def tCompIf (cap : List (Option Nat)) (wi : TI) (g : TG) (tc : TT) (te : TE) : TE := fun σ H Q => wi σ H fun J H1 => ∀ D, H1 D = none → ∃ W : Nat → Nat → St → Hp → Prop, (∃ m, W 0 m (capSt cap σ) (upd H1 D (.lst []))) ∧ ∀ i m σ' H', W i m σ' H' →
  (J.stop i H' ∧ Q (.ref D) H') ∨ (J.go i H' ∧ ∃ N : St → Hp → Prop, (∀ σ2 H2, N σ2 H2 → ∃ m', m' < m ∧ W (i + 1) m' σ2 H2) ∧ ∀ x H2, J.yld i H' x H2 → g x σ' H2 fun σ3 H3 => tc σ3 H3 fun b H3' => if b = true then te σ3 H3' fun v H4 => ∃ ys, H4 D = some (.lst ys) ∧ ys.length < sizeLine ∧ N σ3 (upd H4 D (.lst (ys ++ [v]))) else N σ3 H3')
section
variable {X : Cx} {elt tg iter c : Expr} {scope : Scope} {cl : List (Str × Addr)} {N : List Str} {cap : List (Option Nat)} {pos : Pos} {wi : TI} {g : TG} {te : TE} {tc : TT}
theorem comp_out (Sc : CompSc X scope cl N cap) {pins : List (Addr × Obj)} {σ σ3 : St} {H2 H3 : Hp} {s2 s4 : Shared} {fp : List Addr} {h1' : Heap} {C : Addr} (I2 : Inv X pins σ H2 s2) (f2 : ∀ b ∈ fp, FpOk X pins H2 b) {H1 : Hp}
    (un3 : Un (frs X.stack) fp H2 H1 s2.heap h1') (I4 : Inv (cxC X scope cl N { s2 with heap := h1' } H1 fp C) [] σ3 H3 s4) {h' : Heap} (hC : s2.heap.objs.size ≤ C) (sb : Heap.SameBut C s4.heap h') : Inv X pins σ H3 { s4 with heap := h' } := by
  have u : Un (frs X.stack) fp H2 H3 s2.heap s4.heap := un3.trans I4.base
  have ne : ∀ b o, s2.heap.get? b = some o → b ≠ C := fun b o e => Nat.ne_of_lt (Nat.lt_of_lt_of_le (Heap.lt_size e) hC)
  have u' : Un (frs X.stack) fp H2 H3 s2.heap h' := ⟨fun b o e n hb hx => (sb.2 b (ne b o e)).trans (u.keep b o e n hb hx), fun b o e n hb hx => by
      obtain ⟨sl, q⟩ := u.slot b o e n hb hx
      exact ⟨sl, (sb.2 b (ne b o e)).trans q⟩, u.free, fun b o e hx => by
      obtain ⟨o', q⟩ := u.there b o e hx
      exact ⟨o', (sb.2 b (ne b o e)).trans q⟩, u.tups, u.frzs, u.tbls⟩
  have hok : HOk X.prog X.w H3 h' := fun b ob e => by
    refine (I4.hok b ob e).stay (fun c w' hc q => (sb.2 c ?_).trans q) (fun _ q => q) fun _ _ q => q
    rintro rfl
    have hfree : H3 c = none := I4.free
    rcases hc with rfl | hc
    · rw [hfree] at e; cases e
    · rw [hfree] at hc; cases hc
  refine I2.call' (s' := { s4 with heap := h' }) (ch := fp) I4.os u' hok I4.bare fun b hb => ?_
  obtain ⟨_, f1, _, f3, f4, f5⟩ := f2 b hb
  exact ⟨f3, f1, f4, f5⟩
theorem comp_fp {s0 : Shared} {H0 : Hp} {C : Addr} {fp : List Addr} {σ : St} {H : Hp} {s : Shared} (I : Inv (cxC X scope cl N s0 H0 fp C) [] σ H s) (hn : ∀ b ∈ fp, H b = none) : ∀ b ∈ fp, FpOk (cxC X scope cl N s0 H0 fp C) [] H b := fun b hb =>
  ⟨hn b hb, (I.ok.exf b hb).1, I.ok.exfs b hb, .inl hb, (I.ok.exf b hb).2, fun p hp => absurd hp (by simp [cxC])⟩
theorem pe_comp (hc : X.calm = true) (Sc : CompSc X scope cl N cap) (hi : PI X tg iter wi) (hg : ∀ s0 H0 ex C, PG (cxC X scope cl N s0 H0 ex C) tg g) (he : ∀ s0 H0 ex C, PE (cxC X scope cl N s0 H0 ex C) elt te)
    (hs : ∀ x, foldedSetIterable iter X.env x = pure x := by intro _; rfl) : PE X (.ListComp elt [⟨tg, iter, [], 0⟩] scope pos) (tComp cap wi g te) := by
  intro pins s σ H Q I h
  rw [eval_ListComp]
  have hcell : ∀ y ∈ scope.names, y.2 ≠ .cell := fun y hy => by simpa using List.all_eq_true.mp Sc.nocell y hy
  have hnames : ∀ y ∈ scope.names, y.2 = .local → scope.names.lookup y.1 = some .local := fun y hy e => by
    have := List.all_eq_true.mp Sc.names y hy
    rw [e] at this
    simpa using this
  refine wpAny_comprehension_free (use := none) rfl hs Sc.clos Sc.kind hnames (thn (hi pins s σ H _ I h) fun v s1 h1 => thn h1 fun itv s2 h2 => ?_)
  obtain ⟨it, fp, tn, J, H2, e, I2, T, st2, f2, hW⟩ := h2
  subst e
  refine wpAny_newObj_type (wpAny_newFunctionEnv hcell (by intro y hy; simp at hy) (fun h1 hns hsb => ?_) Sc.kind)
  obtain ⟨W, ⟨m0, w0⟩, turn⟩ := hW s2.heap.objs.size I2.fresh
  dsimp only at hns hsb ⊢
  generalize hD : s2.heap.push { cls := .type "list", dict := none, data := .seq ([] : List Value).toArray } = h1' at hns hsb ⊢
  obtain ⟨I3, un3⟩ := inv_comp (tk := s2.toks + ([] : List (Str × Value)).length) Sc I2 f2 (fun b hb => let ⟨o, e, _⟩ := T.obj 0 _ st2 b hb; ⟨o, e⟩) hD hns hsb
  have hC : s2.heap.objs.size ≤ h1'.objs.size := by rw [← hD, Heap.size_push]; exact Nat.le_succ _
  have k1 : ∀ b o, s2.heap.get? b = some o → h1.get? b = some o := fun b o e => by
    have e1 : h1'.get? b = some o := by rw [← hD]; exact Heap.get?_push_of_some _ e
    exact (hsb.2 b (Nat.ne_of_lt (Heap.lt_size e1))).trans (Heap.get?_push_of_some _ e1)
  have st3 : tn 0 h1 := T.keep 0 _ _ st2 fun b _ o e => k1 b o e
  have fr3 : ∀ b ∈ fp, (upd H2 s2.heap.objs.size (.lst [])) b = none := fun b hb => by
    obtain ⟨o, e, _⟩ := T.obj 0 _ st2 b hb
    rw [upd_ne (Nat.ne_of_lt (Heap.lt_size e))]
    exact (f2 b hb).1
  have loop : ∀ s3 : Shared, s3 = { s2 with heap := h1, toks := s2.toks + ([] : List (Str × Value)).length } →
      codeAny (model X.prog X.w) X.A (.compLoop (.ListComp elt [⟨tg, iter, [], 0⟩] scope pos) 0 (.ref it) (.ref s2.heap.objs.size) (compEnvC scope cl h1'.objs.size X.env))
        (compPost (model X.prog X.w) X.A X.xe none (EP X pins σ Q) (.ref s2.heap.objs.size) h1'.objs.size) s3 := by
    rintro s3 rfl
    refine compLoop_if0 (fun n s' => ∃ i σ' H', Inv (cxC X scope cl N { s2 with heap := h1' } (upd H2 s2.heap.objs.size (.lst [])) fp h1'.objs.size) [] σ' H' s' ∧ tn i s'.heap ∧ (∀ b ∈ fp, H' b = none) ∧ W i n σ' H') ?_ m0 ⟨0, _, _, I3, st3, fr3, w0⟩
    rintro n s3 ⟨i, σ3, H3, I3, st3, fr3, w3⟩
    rcases turn i n σ3 H3 w3 with ⟨stop, qn⟩ | ⟨go, Nn, hN, step⟩
    · refine thn (T.done (cxC X scope cl N { s2 with heap := h1' } (upd H2 s2.heap.objs.size (.lst [])) fp h1'.objs.size) rfl rfl rfl hc i [] s3 σ3 H3 NoE I3 (comp_fp I3 fr3) st3 stop) fun r s4 ⟨hr, I4⟩ => ?_
      subst hr
      obtain ⟨m, hm, _⟩ := I4.loc
      exact ⟨m, hm, fun h' sb => ⟨.ref _, H3, comp_out Sc I2 f2 un3 I4 hC sb, rfl, qn⟩⟩
    · refine thn (T.item (cxC X scope cl N { s2 with heap := h1' } (upd H2 s2.heap.objs.size (.lst [])) fp h1'.objs.size) rfl rfl rfl hc i [] s3 σ3 H3 NoE I3 (comp_fp I3 fr3) st3 go) fun r s4 ⟨u, hr, h4⟩ => ?_
      subst hr
      refine thn h4 fun _ s5 ⟨x, H5, I5, r5, y5, st5, fr5⟩ => ?_
      have I5' := I5.pinned (comp_fp I5 fr5) (T.obj _ _ st5)
      refine thn (hg _ _ _ _ _ s5 σ3 H5 x u _ I5' r5 (step x H5 y5)) fun _ s6 ⟨σ6, H6, I6, q6⟩ => ?_
      refine thn (he _ _ _ _ _ s6 σ6 H6 _ I6 q6) fun uv s7 ⟨v, H7, I7, r7, ys, hy, hl, q7⟩ => ?_
      refine thn (mt_append (X := cxC X scope cl N { s2 with heap := h1' } (upd H2 s2.heap.objs.size (.lst [])) fp h1'.objs.size) _ s7 σ6 H7 (.ref s2.heap.objs.size) [v] (.ref s2.heap.objs.size) [uv] (fun _ H8 => Nn σ6 H8) I7 rfl (.cons r7 .nil) ⟨_, ys, v, rfl, rfl, hy, hl, q7⟩) fun _ s8 ⟨_, H8, I8, _, n8⟩ => ?_
      obtain ⟨m', hm, w8⟩ := hN σ6 H8 n8
      refine ⟨m', hm, i + 1, σ6, H8, I8.unpinned, T.keep _ _ _ st5 fun b hb o e => (I8.pin (b, o) (List.mem_append_right _ (List.mem_append_right _ (mem_pinsAt hb e)))).1, fun b hb => ?_, w8⟩
      obtain ⟨o, e, d⟩ := T.obj _ _ st5 b hb
      exact (I8.pin (b, o) (List.mem_append_right _ (List.mem_append_right _ (mem_pinsAt hb e)))).2.1
  exact codeAny_compStart_list (loop _ rfl) (T.self _ 0 _ _ _ st3 (loop _ rfl))
theorem pe_compIf (hc : X.calm = true) (Sc : CompSc X scope cl N cap) (hi : PI X tg iter wi) (hg : ∀ s0 H0 ex C, PG (cxC X scope cl N s0 H0 ex C) tg g) (hcnd : ∀ s0 H0 ex C, PT (cxC X scope cl N s0 H0 ex C) c tc) (he : ∀ s0 H0 ex C, PE (cxC X scope cl N s0 H0 ex C) elt te)
    (hs : ∀ x, foldedSetIterable iter X.env x = pure x := by intro _; rfl) : PE X (.ListComp elt [⟨tg, iter, [c], 0⟩] scope pos) (tCompIf cap wi g tc te) := by
  intro pins s σ H Q I h
  rw [eval_ListComp]
  have hcell : ∀ y ∈ scope.names, y.2 ≠ .cell := fun y hy => by simpa using List.all_eq_true.mp Sc.nocell y hy
  have hnames : ∀ y ∈ scope.names, y.2 = .local → scope.names.lookup y.1 = some .local := fun y hy e => by
    have := List.all_eq_true.mp Sc.names y hy
    rw [e] at this
    simpa using this
  refine wpAny_comprehension_free (use := none) rfl hs Sc.clos Sc.kind hnames (thn (hi pins s σ H _ I h) fun v s1 h1 => thn h1 fun itv s2 h2 => ?_)
  obtain ⟨it, fp, tn, J, H2, e, I2, T, st2, f2, hW⟩ := h2
  subst e
  refine wpAny_newObj_type (wpAny_newFunctionEnv hcell (by intro y hy; simp at hy) (fun h1 hns hsb => ?_) Sc.kind)
  obtain ⟨W, ⟨m0, w0⟩, turn⟩ := hW s2.heap.objs.size I2.fresh
  dsimp only at hns hsb ⊢
  generalize hD : s2.heap.push { cls := .type "list", dict := none, data := .seq ([] : List Value).toArray } = h1' at hns hsb ⊢
  obtain ⟨I3, un3⟩ := inv_comp (tk := s2.toks + ([] : List (Str × Value)).length) Sc I2 f2 (fun b hb => let ⟨o, e, _⟩ := T.obj 0 _ st2 b hb; ⟨o, e⟩) hD hns hsb
  have hC : s2.heap.objs.size ≤ h1'.objs.size := by rw [← hD, Heap.size_push]; exact Nat.le_succ _
  have k1 : ∀ b o, s2.heap.get? b = some o → h1.get? b = some o := fun b o e => by
    have e1 : h1'.get? b = some o := by rw [← hD]; exact Heap.get?_push_of_some _ e
    exact (hsb.2 b (Nat.ne_of_lt (Heap.lt_size e1))).trans (Heap.get?_push_of_some _ e1)
  have st3 : tn 0 h1 := T.keep 0 _ _ st2 fun b _ o e => k1 b o e
  have fr3 : ∀ b ∈ fp, (upd H2 s2.heap.objs.size (.lst [])) b = none := fun b hb => by
    obtain ⟨o, e, _⟩ := T.obj 0 _ st2 b hb
    rw [upd_ne (Nat.ne_of_lt (Heap.lt_size e))]
    exact (f2 b hb).1
  have loop : ∀ s3 : Shared, s3 = { s2 with heap := h1, toks := s2.toks + ([] : List (Str × Value)).length } →
      codeAny (model X.prog X.w) X.A (.compLoop (.ListComp elt [⟨tg, iter, [c], 0⟩] scope pos) 0 (.ref it) (.ref s2.heap.objs.size) (compEnvC scope cl h1'.objs.size X.env))
        (compPost (model X.prog X.w) X.A X.xe none (EP X pins σ Q) (.ref s2.heap.objs.size) h1'.objs.size) s3 := by
    rintro s3 rfl
    refine compLoop_if1 (fun n s' => ∃ i σ' H', Inv (cxC X scope cl N { s2 with heap := h1' } (upd H2 s2.heap.objs.size (.lst [])) fp h1'.objs.size) [] σ' H' s' ∧ tn i s'.heap ∧ (∀ b ∈ fp, H' b = none) ∧ W i n σ' H') ?_ m0 ⟨0, _, _, I3, st3, fr3, w0⟩
    rintro n s3 ⟨i, σ3, H3, I3, st3, fr3, w3⟩
    rcases turn i n σ3 H3 w3 with ⟨stop, qn⟩ | ⟨go, Nn, hN, step⟩
    · refine thn (T.done (cxC X scope cl N { s2 with heap := h1' } (upd H2 s2.heap.objs.size (.lst [])) fp h1'.objs.size) rfl rfl rfl hc i [] s3 σ3 H3 NoE I3 (comp_fp I3 fr3) st3 stop) fun r s4 ⟨hr, I4⟩ => ?_
      subst hr
      obtain ⟨m, hm, _⟩ := I4.loc
      exact ⟨m, hm, fun h' sb => ⟨.ref _, H3, comp_out Sc I2 f2 un3 I4 hC sb, rfl, qn⟩⟩
    · refine thn (T.item (cxC X scope cl N { s2 with heap := h1' } (upd H2 s2.heap.objs.size (.lst [])) fp h1'.objs.size) rfl rfl rfl hc i [] s3 σ3 H3 NoE I3 (comp_fp I3 fr3) st3 go) fun r s4 ⟨u, hr, h4⟩ => ?_
      subst hr
      refine thn h4 fun _ s5 ⟨x, H5, I5, r5, y5, st5, fr5⟩ => ?_
      have I5' := I5.pinned (comp_fp I5 fr5) (T.obj _ _ st5)
      refine thn (hg _ _ _ _ _ s5 σ3 H5 x u _ I5' r5 (step x H5 y5)) fun _ s6 ⟨σ6, H6, I6, q6⟩ => ?_
      have again : ∀ {s8 : Shared} {H8 : Hp}, Inv (cxC X scope cl N { s2 with heap := h1' } (upd H2 s2.heap.objs.size (.lst [])) fp h1'.objs.size) ([] ++ pinsAt fp s5.heap) σ6 H8 s8 → Nn σ6 H8 →
          ∃ m, m < n ∧ ∃ i σ' H', Inv (cxC X scope cl N { s2 with heap := h1' } (upd H2 s2.heap.objs.size (.lst [])) fp h1'.objs.size) [] σ' H' s8 ∧ tn i s8.heap ∧ (∀ b ∈ fp, H' b = none) ∧ W i m σ' H' := fun {s8 H8} I8 n8 => by
        obtain ⟨m', hm, w8⟩ := hN σ6 H8 n8
        refine ⟨m', hm, i + 1, σ6, H8, I8.unpinned, T.keep _ _ _ st5 fun b hb o e => (I8.pin (b, o) (List.mem_append_right _ (List.mem_append_right _ (mem_pinsAt hb e)))).1, fun b hb => ?_, w8⟩
        obtain ⟨o, e, d⟩ := T.obj _ _ st5 b hb
        exact (I8.pin (b, o) (List.mem_append_right _ (List.mem_append_right _ (mem_pinsAt hb e)))).2.1
      refine thn (hcnd _ _ _ _ _ s6 σ6 H6 _ I6 q6) fun b s6' ⟨H6', I6', q6'⟩ => ?_
      cases b with
      | true =>
        rw [if_pos rfl] at q6' ⊢
        refine thn (he _ _ _ _ _ s6' σ6 H6' _ I6' q6') fun uv s7 ⟨v, H7, I7, r7, ys, hy, hl, q7⟩ => ?_
        refine thn (mt_append (X := cxC X scope cl N { s2 with heap := h1' } (upd H2 s2.heap.objs.size (.lst [])) fp h1'.objs.size) _ s7 σ6 H7 (.ref s2.heap.objs.size) [v] (.ref s2.heap.objs.size) [uv] (fun _ H8 => Nn σ6 H8) I7 rfl (.cons r7 .nil) ⟨_, ys, v, rfl, rfl, hy, hl, q7⟩) fun _ s8 ⟨_, H8, I8, _, n8⟩ => ?_
        exact again I8 n8
      | false =>
        rw [if_neg Bool.false_ne_true] at q6' ⊢
        exact again I6' q6'
  exact codeAny_compStart_list (loop _ rfl) (T.self _ 0 _ _ _ st3 (loop _ rfl))
end
end L2
namespace DL
open PySem PySem.Spec PyProof.Rows L2
abbrev Fg := PySem.W.Frag
inductive Ty where
  | non | bool | int | str | tup | lst | dic | verr
def Ty.name : Ty → String
  | .non => "NoneType" | .bool => "bool" | .int => "int" | .str => "str" | .tup => "tuple" | .lst => "list" | .dic => "dict" | .verr => "ValueError"
inductive D where
  | non | bl (b : Bool) | int (i : Int) | str (x : Str) | tup (ds : List D) | rl (ds : List D) | ref (a : Addr) | ty (n : Ty)
def SqF (K : Fg) (H : Hp) (a : Addr) (xs : List V) : Prop :=
  (∃ o, H a = some (.frz o (.lst xs))) ∨ ∃ (o : Obj) (its : Array Value) (n : Nat), K.lookup a = some o ∧ o.cls = .type "list" ∧ o.dict = none ∧ o.data = .seq its n ∧ its.size ≤ sizeLine ∧ Vals xs its.toList
theorem SqF.sq {K : Fg} {H : Hp} {a : Addr} {xs : List V} (h : SqF K H a xs) : SqL K H a xs := by
  rcases h with h | h
  · exact .inl (.inr h)
  · exact .inr h
mutual
def IsD (K : Fg) (H : Hp) : D → V → Prop
  | .non, v => v = .non
  | .bl b, v => v = .bl b
  | .int i, v => v = .int i
  | .str x, v => v = .str x
  | .tup ds, v => ∃ a xs, v = .ref a ∧ SqT K H a xs ∧ IsDs K H ds xs
  | .rl ds, v => ∃ a xs, v = .ref a ∧ SqF K H a xs ∧ IsDs K H ds xs
  | .ref a, v => v = .ref a
  | .ty n, v => v = .ty n.name
def IsDs (K : Fg) (H : Hp) : List D → List V → Prop
  | [], vs => vs = []
  | d :: ds, vs => ∃ v r, vs = v :: r ∧ IsD K H d v ∧ IsDs K H ds r
end
def Imm : HO → Prop
  | .tup _ => True
  | .frz _ _ => True
  | _ => False
def Kp (H H' : Hp) : Prop := ∀ a o, H a = some o → Imm o → H' a = some o
theorem Kp.refl (H : Hp) : Kp H H := fun _ _ h _ => h
theorem Kp.trans {H H1 H2 : Hp} (a : Kp H H1) (b : Kp H1 H2) : Kp H H2 := fun c o h i => b c o (a c o h i) i
theorem Kp.tup {K : Fg} {H H' : Hp} {a : Addr} {xs : List V} (k : Kp H H') (h : SqT K H a xs) : SqT K H' a xs := by
  rcases h with (h | ⟨o, h⟩) | h
  · exact .inl (.inl (k _ _ h trivial))
  · exact .inl (.inr ⟨o, k _ _ h trivial⟩)
  · exact .inr h
theorem Kp.fro {K : Fg} {H H' : Hp} {a : Addr} {xs : List V} (k : Kp H H') (h : SqF K H a xs) : SqF K H' a xs := by
  rcases h with ⟨o, h⟩ | h
  · exact .inl ⟨o, k _ _ h trivial⟩
  · exact .inr h
theorem Kp.new {H : Hp} {p : Addr} {o : HO} (h : H p = none) : Kp H (upd H p o) := fun b u e _ => by rw [upd_ne (ne_of_none e h)]; exact e
theorem Kp.mut {H : Hp} {p : Addr} {o u : HO} (h : H p = some u) (n : ¬ Imm u) : Kp H (upd H p o) := fun b z e i => by
  rw [upd_ne (fun q => by subst q; rw [h] at e; cases e; exact n i)]; exact e
mutual
theorem IsD.kp {K : Fg} {H H' : Hp} (k : Kp H H') : ∀ {d : D} {v : V}, IsD K H d v → IsD K H' d v
  | .non, _, h => by unfold IsD at *; exact h
  | .bl _, _, h => by unfold IsD at *; exact h
  | .int _, _, h => by unfold IsD at *; exact h
  | .str _, _, h => by unfold IsD at *; exact h
  | .ref _, _, h => by unfold IsD at *; exact h
  | .ty _, _, h => by unfold IsD at *; exact h
  | .tup ds, _, h => by
    unfold IsD at *
    obtain ⟨a, xs, e, t, r⟩ := h
    exact ⟨a, xs, e, k.tup t, IsDs.kp k r⟩
  | .rl ds, _, h => by
    unfold IsD at *
    obtain ⟨a, xs, e, t, r⟩ := h
    exact ⟨a, xs, e, k.fro t, IsDs.kp k r⟩
theorem IsDs.kp {K : Fg} {H H' : Hp} (k : Kp H H') : ∀ {ds : List D} {vs : List V}, IsDs K H ds vs → IsDs K H' ds vs
  | [], _, h => by unfold IsDs at *; exact h
  | d :: ds, _, h => by
    unfold IsDs at *
    obtain ⟨v, r, e, h1, h2⟩ := h
    exact ⟨v, r, e, IsD.kp k h1, IsDs.kp k h2⟩
end
section
variable {K : Fg} {H : Hp}
theorem isInt {i : Int} {v : V} : IsD K H (.int i) v ↔ v = .int i := by unfold IsD; exact Iff.rfl
theorem isBl {b : Bool} {v : V} : IsD K H (.bl b) v ↔ v = .bl b := by unfold IsD; exact Iff.rfl
theorem isStr {b : Str} {v : V} : IsD K H (.str b) v ↔ v = .str b := by unfold IsD; exact Iff.rfl
theorem isNon {v : V} : IsD K H .non v ↔ v = .non := by unfold IsD; exact Iff.rfl
theorem isRef {a : Addr} {v : V} : IsD K H (.ref a) v ↔ v = .ref a := by unfold IsD; exact Iff.rfl
theorem isTy {a : Ty} {v : V} : IsD K H (.ty a) v ↔ v = .ty a.name := by unfold IsD; exact Iff.rfl
theorem isTup {ds : List D} {v : V} : IsD K H (.tup ds) v ↔ ∃ a xs, v = .ref a ∧ SqT K H a xs ∧ IsDs K H ds xs := by unfold IsD; exact Iff.rfl
theorem isRl {ds : List D} {v : V} : IsD K H (.rl ds) v ↔ ∃ a xs, v = .ref a ∧ SqF K H a xs ∧ IsDs K H ds xs := by unfold IsD; exact Iff.rfl
theorem isNil {vs : List V} : IsDs K H [] vs ↔ vs = [] := by unfold IsDs; exact Iff.rfl
theorem isCons {d : D} {ds : List D} {vs : List V} : IsDs K H (d :: ds) vs ↔ ∃ v r, vs = v :: r ∧ IsD K H d v ∧ IsDs K H ds r := by
  constructor
  · intro h; unfold IsDs at h; exact h
  · intro h; unfold IsDs; exact h
theorem IsDs.nil : IsDs K H [] [] := isNil.mpr rfl
theorem IsDs.cons {d : D} {ds : List D} {v : V} {vs : List V} (h1 : IsD K H d v) (h2 : IsDs K H ds vs) : IsDs K H (d :: ds) (v :: vs) := isCons.mpr ⟨v, vs, rfl, h1, h2⟩
theorem IsDs.length : ∀ {ds : List D} {vs : List V}, IsDs K H ds vs → ds.length = vs.length
  | [], _, h => by rw [isNil.mp h]; rfl
  | d :: ds, _, h => by
    obtain ⟨v, r, rfl, _, h2⟩ := isCons.mp h
    rw [List.length_cons, List.length_cons, IsDs.length h2]
theorem IsDs.get : ∀ {ds : List D} {vs : List V} {i : Nat} {d : D}, IsDs K H ds vs → ds[i]? = some d → ∃ v, vs[i]? = some v ∧ IsD K H d v
  | [], _, _, _, _, e => by simp at e
  | c :: ds, _, 0, d, h, e => by
    obtain ⟨v, r, rfl, h1, h2⟩ := isCons.mp h
    simp at e
    subst e
    exact ⟨v, rfl, h1⟩
  | c :: ds, _, i + 1, d, h, e => by
    obtain ⟨v, r, rfl, h1, h2⟩ := isCons.mp h
    obtain ⟨u, q1, q2⟩ := IsDs.get (i := i) (d := d) h2 (by simpa using e)
    exact ⟨u, by simpa using q1, q2⟩
theorem IsDs.set : ∀ {ds : List D} {vs : List V} {d : D} {v : V} (i : Nat), IsDs K H ds vs → IsD K H d v → IsDs K H (ds.set i d) (vs.set i v)
  | [], _, _, _, _, h, _ => by rw [isNil.mp h]; exact IsDs.nil
  | c :: ds, _, d, v, 0, h, hd => by
    obtain ⟨u, r, rfl, h1, h2⟩ := isCons.mp h
    exact IsDs.cons hd h2
  | c :: ds, _, d, v, i + 1, h, hd => by
    obtain ⟨u, r, rfl, h1, h2⟩ := isCons.mp h
    exact IsDs.cons h1 (IsDs.set i h2 hd)
theorem IsDs.append : ∀ {ds es : List D} {vs us : List V}, IsDs K H ds vs → IsDs K H es us → IsDs K H (ds ++ es) (vs ++ us)
  | [], _, _, _, h, h' => by rw [isNil.mp h]; exact h'
  | c :: ds, _, _, _, h, h' => by
    obtain ⟨u, r, rfl, h1, h2⟩ := isCons.mp h
    exact IsDs.cons h1 (IsDs.append h2 h')
theorem IsDs.drop : ∀ {ds : List D} {vs : List V} (n : Nat), IsDs K H ds vs → IsDs K H (ds.drop n) (vs.drop n)
  | _, _, 0, h => h
  | [], _, n + 1, h => by rw [isNil.mp h]; exact IsDs.nil
  | c :: ds, _, n + 1, h => by
    obtain ⟨u, r, rfl, h1, h2⟩ := isCons.mp h
    exact IsDs.drop n h2
theorem IsDs.take : ∀ {ds : List D} {vs : List V} (n : Nat), IsDs K H ds vs → IsDs K H (ds.take n) (vs.take n)
  | _, _, 0, h => by simpa using IsDs.nil
  | [], _, n + 1, h => by rw [isNil.mp h]; exact IsDs.nil
  | c :: ds, _, n + 1, h => by
    obtain ⟨u, r, rfl, h1, h2⟩ := isCons.mp h
    exact IsDs.cons h1 (IsDs.take n h2)
end
def hashT (ks : List Int) : Int := reduceHash (Builtin.Tuple.tupleHashOf (ks.map hashInt))
def eT (x : List Int × Addr × Value) : DictEntry := ⟨hashT x.1, .ref x.2.1, x.2.2⟩
def dxO (es : Array DictEntry) (ep : Nat) : Obj := { cls := .type "dict", dict := none, data := .dict es ep, slots := #[] }
def DxP (a : Addr) (xs : List (List Int × Addr × Value)) (ep : Nat) : Heap → Prop := fun h => (a == sysModules) = false ∧ xs.length ≤ sizeLine ∧ (xs.map (·.1)).Nodup ∧ h.get? a = some (dxO (xs.map eT).toArray ep)
inductive Gen where
  | dT (kvs : List (List Int × D)) (ep : Nat)
  | dK (kvs : List (Key × D))
abbrev KtR (K : Fg) (H : Hp) : List (List Int × D) → List (List Int × Addr × Value) → Prop := Paired fun p q => p.1 = q.1 ∧ SqT K H q.2.1 (p.1.map V.int) ∧ ∃ v, RelV v q.2.2 ∧ IsD K H p.2 v
def GObj (K : Fg) (H : Hp) (a : Addr) : Gen → Prop
  | .dT kvs ep => ∃ xs, H a = some (.ext (DxP a xs ep)) ∧ KtR K H kvs xs
  | .dK kvs => ∃ ys, H a = some (.dK ys) ∧ Paired (fun (p : Key × D) (q : Key × V) => p.1 = q.1 ∧ IsD K H p.2 q.2) kvs ys
theorem KtR.kp {K : Fg} {H H' : Hp} {kvs : List (List Int × D)} {xs : List (List Int × Addr × Value)} (r : KtR K H kvs xs) (k : Kp H H') : KtR K H' kvs xs :=
  Paired.mapP r fun _ _ ⟨a, b, v, c, d⟩ => ⟨a, k.tup b, v, c, d.kp k⟩
theorem GObj.there {K : Fg} {H : Hp} {a : Addr} {g : Gen} (h : GObj K H a g) : ∃ o, H a = some o ∧ ¬ Imm o := by
  cases g with
  | dT kvs ep => obtain ⟨xs, e, _⟩ := h; exact ⟨_, e, fun z => z⟩
  | dK kvs => obtain ⟨xs, e, _⟩ := h; exact ⟨_, e, fun z => z⟩
theorem GObj.step {K : Fg} {H H' : Hp} {a : Addr} {g : Gen} (h : GObj K H a g) (k : Kp H H') (s : H' a = H a) : GObj K H' a g := by
  cases g with
  | dT kvs ep => obtain ⟨xs, e, r⟩ := h; exact ⟨xs, s.trans e, r.kp k⟩
  | dK kvs => obtain ⟨xs, e, r⟩ := h; exact ⟨xs, s.trans e, Paired.mapP r fun _ _ z => ⟨z.1, z.2.kp k⟩⟩
inductive DO where
  | lst (ds : List D)
  | dic
  | exc (C : Addr)
  | fn (φ : Hp → Prop)
  | tbl (ψ : Hp → Array Value → Prop)
  | gen (g : Gen)
abbrev DH := Addr → Option DO
def put (S : DH) (a : Addr) (o : DO) : DH := fun b => if b = a then some o else S b
theorem put_same {S : DH} {a : Addr} {o : DO} : put S a o a = some o := by unfold put; rw [if_pos rfl]
theorem put_ne {S : DH} {a b : Addr} {o : DO} (h : b ≠ a) : put S a o b = S b := by unfold put; rw [if_neg h]
theorem put_put {S : DH} {a : Addr} {o u : DO} : put (put S a o) a u = put S a u := by funext b; unfold put; split <;> rfl
theorem ne_put {S : DH} {a p : Addr} {o : DO} (h : S a = some o) (h' : S p = none) : a ≠ p := by intro e; subst e; rw [h] at h'; cases h'
def DObj (K : Fg) (H : Hp) (a : Addr) : DO → Prop
  | .lst ds => ∃ xs, H a = some (.lst xs) ∧ IsDs K H ds xs
  | .dic => ∃ kvs, H a = some (.dK kvs)
  | .exc C => ∃ o u, H a = some (.frz o u) ∧ o.cls = .ref C
  | .fn φ => (∃ o u, H a = some (.frz o u)) ∧ ∀ H', Kp H H' → φ H'
  | .tbl ψ => ∃ ps, H a = some (.tbl ps) ∧ ∀ H', Kp H H' → ψ H' ps
  | .gen g => GObj K H a g
def Hs (K : Fg) (H : Hp) (S : DH) : Prop := ∀ a o, S a = some o → DObj K H a o
section
variable {K : Fg} {H H' : Hp} {S : DH} {p : Addr}
theorem Hs.lst {ds : List D} (h : Hs K H S) (e : S p = some (.lst ds)) : ∃ xs, H p = some (.lst xs) ∧ IsDs K H ds xs := h p _ e
theorem Hs.free (h : Hs K H S) (e : H p = none) : S p = none := by
  cases q : S p with
  | none => rfl
  | some o =>
    have z := h p o q
    cases o with
    | lst ds => obtain ⟨xs, z, _⟩ := z; rw [e] at z; cases z
    | dic => obtain ⟨xs, z⟩ := z; rw [e] at z; cases z
    | exc C => obtain ⟨_, _, z, _⟩ := z; rw [e] at z; cases z
    | fn φ => obtain ⟨⟨_, _, z⟩, _⟩ := z; rw [e] at z; cases z
    | tbl ψ => obtain ⟨_, z, _⟩ := z; rw [e] at z; cases z
    | gen g => obtain ⟨_, z, _⟩ := GObj.there z; rw [e] at z; cases z
theorem Hs.step (h : Hs K H S) (k : Kp H H') (s : ∀ a o, S a = some o → H' a = H a) : Hs K H' S := fun a o e => by
  have z := h a o e
  cases o with
  | lst ds => obtain ⟨xs, z, r⟩ := z; exact ⟨xs, by rw [s a _ e]; exact z, r.kp k⟩
  | dic => obtain ⟨xs, z⟩ := z; exact ⟨xs, by rw [s a _ e]; exact z⟩
  | exc C => obtain ⟨x, y, z, r⟩ := z; exact ⟨x, y, by rw [s a _ e]; exact z, r⟩
  | fn φ => obtain ⟨⟨x, y, z⟩, r⟩ := z; exact ⟨⟨x, y, by rw [s a _ e]; exact z⟩, fun H2 k2 => r H2 (k.trans k2)⟩
  | tbl ψ => obtain ⟨ps, z, r⟩ := z; exact ⟨ps, by rw [s a _ e]; exact z, fun H2 k2 => r H2 (k.trans k2)⟩
  | gen g => exact GObj.step z k (s a _ e)
theorem Hs.new {o : HO} (h : Hs K H S) (e : H p = none) : Hs K (upd H p o) S := h.step (Kp.new e) fun a u q => by
  rw [upd_ne]; intro z; subst z; rw [h.free e] at q; cases q
theorem Hs.newL {xs : List V} {ds : List D} (h : Hs K H S) (e : H p = none) (r : IsDs K H ds xs) : Hs K (upd H p (.lst xs)) (put S p (.lst ds)) := fun a o q => by
  by_cases z : a = p
  · subst z
    rw [put_same] at q
    cases q
    exact ⟨xs, upd_same, r.kp (Kp.new e)⟩
  · rw [put_ne z] at q
    exact (h.new e) a o q
theorem Hs.setL {xs ys : List V} {ds : List D} (h : Hs K H S) (e : H p = some (.lst xs)) (r : IsDs K H ds ys) : Hs K (upd H p (.lst ys)) (put S p (.lst ds)) := fun a o q => by
  have k : Kp H (upd H p (.lst ys)) := Kp.mut e (fun z => z)
  by_cases z : a = p
  · subst z
    rw [put_same] at q
    cases q
    exact ⟨ys, upd_same, r.kp k⟩
  · rw [put_ne z] at q
    have w := h a o q
    cases o with
    | lst ds => obtain ⟨xs, w, r⟩ := w; exact ⟨xs, by rw [upd_ne z]; exact w, r.kp k⟩
    | dic => obtain ⟨xs, w⟩ := w; exact ⟨xs, by rw [upd_ne z]; exact w⟩
    | exc C => obtain ⟨x, y, w, r⟩ := w; exact ⟨x, y, by rw [upd_ne z]; exact w, r⟩
    | fn φ => obtain ⟨⟨x, y, w⟩, r⟩ := w; exact ⟨⟨x, y, by rw [upd_ne z]; exact w⟩, fun H2 k2 => r H2 (k.trans k2)⟩
    | tbl ψ => obtain ⟨ps, w, r⟩ := w; exact ⟨ps, by rw [upd_ne z]; exact w, fun H2 k2 => r H2 (k.trans k2)⟩
    | gen g => exact GObj.step w k (upd_ne z)
end
abbrev Lo := List (Option D)
def Lc (K : Fg) (H : Hp) : Lo → L2.St → Prop
  | [], σ => σ = []
  | none :: L, σ => ∃ x r, σ = x :: r ∧ Lc K H L r
  | some d :: L, σ => ∃ v r, σ = some v :: r ∧ IsD K H d v ∧ Lc K H L r
section
variable {K : Fg} {H H' : Hp}
theorem Lc.kp (k : Kp H H') : ∀ {L : Lo} {σ : L2.St}, Lc K H L σ → Lc K H' L σ
  | [], _, h => h
  | none :: L, _, h => by
    obtain ⟨x, r, e, h⟩ := h
    exact ⟨x, r, e, Lc.kp k h⟩
  | some d :: L, _, h => by
    obtain ⟨v, r, e, h1, h⟩ := h
    exact ⟨v, r, e, h1.kp k, Lc.kp k h⟩
theorem Lc.get : ∀ {L : Lo} {σ : L2.St} {i : Nat} {d : D}, Lc K H L σ → L[i]? = some (some d) → ∃ v, σ[i]? = some (some v) ∧ IsD K H d v
  | [], _, _, _, _, e => by simp at e
  | none :: L, _, 0, _, _, e => by simp at e
  | some c :: L, _, 0, d, h, e => by
    obtain ⟨v, r, rfl, h1, h⟩ := h
    simp at e
    subst e
    exact ⟨v, rfl, h1⟩
  | none :: L, _, i + 1, d, h, e => by
    obtain ⟨x, r, rfl, h⟩ := h
    obtain ⟨u, q1, q2⟩ := Lc.get (i := i) (d := d) h (by simpa using e)
    exact ⟨u, by simpa using q1, q2⟩
  | some c :: L, _, i + 1, d, h, e => by
    obtain ⟨v, r, rfl, _, h⟩ := h
    obtain ⟨u, q1, q2⟩ := Lc.get (i := i) (d := d) h (by simpa using e)
    exact ⟨u, by simpa using q1, q2⟩
theorem Lc.set {d : D} {v : V} (hd : IsD K H d v) : ∀ {L : Lo} {σ : L2.St} (i : Nat), Lc K H L σ → Lc K H (L.set i (some d)) (σ.set i (some v))
  | [], _, _, h => by
    have e : _ = [] := h
    subst e
    exact rfl
  | none :: L, _, 0, h => by
    obtain ⟨x, r, rfl, h⟩ := h
    exact ⟨v, r, rfl, hd, h⟩
  | some c :: L, _, 0, h => by
    obtain ⟨x, r, rfl, _, h⟩ := h
    exact ⟨v, r, rfl, hd, h⟩
  | none :: L, _, i + 1, h => by
    obtain ⟨x, r, rfl, h⟩ := h
    exact ⟨x, r.set i (some v), rfl, Lc.set hd i h⟩
  | some c :: L, _, i + 1, h => by
    obtain ⟨x, r, rfl, h1, h⟩ := h
    exact ⟨x, r.set i (some v), rfl, h1, Lc.set hd i h⟩
theorem Lc.none : ∀ (n : Nat), Lc K H (List.replicate n .none) (List.replicate n .none)
  | 0 => rfl
  | n + 1 => ⟨_, _, rfl, Lc.none n⟩
theorem Lc.start : ∀ {ds : List D} {vs : List V} (n : Nat), IsDs K H ds vs → Lc K H (ds.map some ++ List.replicate n .none) (vs.map some ++ List.replicate n .none)
  | [], _, n, h => by rw [isNil.mp h]; exact Lc.none n
  | d :: ds, _, n, h => by
    obtain ⟨v, r, rfl, h1, h2⟩ := isCons.mp h
    exact ⟨v, _, rfl, h1, Lc.start n h2⟩
end
abbrev DK := D → DH → Prop
abbrev DE := Lo → DH → DK → Prop
abbrev DT := Lo → DH → (Bool → DH → Prop) → Prop
abbrev DA := Lo → DH → (List D → DH → Prop) → Prop
structure DEnds where
  nx : Lo → DH → Prop
  rt : DK
  bk : Lo → DH → Prop := fun _ _ => False
  ct : Lo → DH → Prop := fun _ _ => False
abbrev DS := DEnds → Lo → DH → Prop
def up (K : Fg) (g : DE) : TE := fun σ H Q => ∃ L S k, Lc K H L σ ∧ Hs K H S ∧ g L S k ∧ ∀ d S' v H', k d S' → Kp H H' → Hs K H' S' → IsD K H' d v → Q v H'
def upT (K : Fg) (g : DT) : TT := fun σ H Q => ∃ L S k, Lc K H L σ ∧ Hs K H S ∧ g L S k ∧ ∀ b S' H', k b S' → Kp H H' → Hs K H' S' → Q b H'
def upA (K : Fg) (g : DA) : TA := fun σ H Q => ∃ L S k, Lc K H L σ ∧ Hs K H S ∧ g L S k ∧ ∀ ds S' vs H', k ds S' → Kp H H' → Hs K H' S' → IsDs K H' ds vs → Q vs H'
structure Rch (K : Fg) (H : Hp) (M : DEnds) (N : Ends) : Prop where
  nx : ∀ L S σ H', M.nx L S → Kp H H' → Lc K H' L σ → Hs K H' S → N.nx σ H'
  rt : ∀ d S v H', M.rt d S → Kp H H' → Hs K H' S → IsD K H' d v → N.rt v H'
  bk : ∀ L S σ H', M.bk L S → Kp H H' → Lc K H' L σ → Hs K H' S → N.bk σ H'
  ct : ∀ L S σ H', M.ct L S → Kp H H' → Lc K H' L σ → Hs K H' S → N.ct σ H'
theorem Rch.kp {K : Fg} {H H1 : Hp} {M : DEnds} {N : Ends} (r : Rch K H M N) (k : Kp H H1) : Rch K H1 M N :=
  ⟨fun L S σ H' h k' => r.nx L S σ H' h (k.trans k'), fun d S v H' h k' => r.rt d S v H' h (k.trans k'), fun L S σ H' h k' => r.bk L S σ H' h (k.trans k'), fun L S σ H' h k' => r.ct L S σ H' h (k.trans k')⟩
def upS (K : Fg) (g : DS) : TS := fun N σ H => ∃ L S M, Lc K H L σ ∧ Hs K H S ∧ g M L S ∧ Rch K H M N
theorem PE.imp {X : Cx} {e : Expr} {t t' : TE} (h : PE X e t) (i : ∀ σ H Q, t' σ H Q → t σ H Q) : PE X e t' := fun pins s σ H Q I q => h pins s σ H Q I (i σ H Q q)
theorem PT.imp {X : Cx} {e : Expr} {t t' : TT} (h : PT X e t) (i : ∀ σ H Q, t' σ H Q → t σ H Q) : PT X e t' := fun pins s σ H Q I q => h pins s σ H Q I (i σ H Q q)
theorem PW.imp {X : Cx} {e : Expr} {t t' : TT} (h : PW X e t) (i : ∀ σ H Q, t' σ H Q → t σ H Q) : PW X e t' := fun w pins s σ H Q I q => h w pins s σ H Q I (i σ H Q q)
theorem PA.imp {X : Cx} {e : List Expr} {t t' : TA} (h : PA X e t) (i : ∀ σ H Q, t' σ H Q → t σ H Q) : PA X e t' := fun pos pins s σ H Q I q => h pos pins s σ H Q I (i σ H Q q)
theorem PS.imp {X : Cx} {e : Stmt} {t t' : TS} (h : PS X e t) (i : ∀ N σ H, t' N σ H → t N σ H) : PS X e t' := fun pins s σ H Q I q => h pins s σ H Q I (i Q σ H q)
theorem PSs.imp {X : Cx} {e : List Stmt} {t t' : TS} (h : PSs X e t) (i : ∀ N σ H, t' N σ H → t N σ H) : PSs X e t' := fun pins s σ H Q I q => h pins s σ H Q I (i Q σ H q)
theorem up.go {K : Fg} {g : DE} {σ : L2.St} {H : Hp} {Q : VK} {L : Lo} {S : DH} {k : DK} (hL : Lc K H L σ) (hS : Hs K H S) (h : g L S k)
    (n : ∀ d S' v H', k d S' → Kp H H' → Lc K H' L σ → Hs K H' S' → IsD K H' d v → Q v H') : up K g σ H Q :=
  ⟨L, S, k, hL, hS, h, fun d S' v H' a b c e => n d S' v H' a b (hL.kp b) c e⟩
theorem upT.go {K : Fg} {g : DT} {σ : L2.St} {H : Hp} {Q : Bool → Hp → Prop} {L : Lo} {S : DH} {k : Bool → DH → Prop} (hL : Lc K H L σ) (hS : Hs K H S) (h : g L S k)
    (n : ∀ b S' H', k b S' → Kp H H' → Lc K H' L σ → Hs K H' S' → Q b H') : upT K g σ H Q :=
  ⟨L, S, k, hL, hS, h, fun b S' H' a c e => n b S' H' a c (hL.kp c) e⟩
theorem upA.go {K : Fg} {g : DA} {σ : L2.St} {H : Hp} {Q : List V → Hp → Prop} {L : Lo} {S : DH} {k : List D → DH → Prop} (hL : Lc K H L σ) (hS : Hs K H S) (h : g L S k)
    (n : ∀ ds S' vs H', k ds S' → Kp H H' → Lc K H' L σ → Hs K H' S' → IsDs K H' ds vs → Q vs H') : upA K g σ H Q :=
  ⟨L, S, k, hL, hS, h, fun d S' v H' a b c e => n d S' v H' a b (hL.kp b) c e⟩
section
variable {X : Cx} {a b c : Expr} {ga gb gc : DE} {pos : Pos}
def dVar (i : Nat) : DE := fun L S k => match L[i]? with
  | some (some d) => k d S
  | _ => False
def dC (d : D) : DE := fun _ S k => k d S
theorem d_var (i : Nat) {x : Str} (hN : X.N[i]? = some x := by rfl) (hv : Vis X.env.scope x := by first | exact Or.inl rfl | exact Or.inr (Or.inl rfl) | exact Or.inr (Or.inr rfl)) (hd : (x == ("__debug__" : Str)) = false := by decide)
    (hcd : (x == ("__classdict__" : Str)) = false := by decide) : PE X (.Name x pos) (up X.K (dVar i)) :=
  PE.imp (pe_var hN hv hd hcd) fun σ H Q ⟨L, S, k, hL, hS, h, n⟩ => by
    unfold dVar at h
    split at h
    · rename_i d e
      obtain ⟨v, e1, e2⟩ := hL.get e
      exact ⟨v, e1, n d S v H h (Kp.refl H) hS e2⟩
    · exact h.elim
theorem d_c {e : Expr} {d : D} {v : V} (h : PE X e (tC v)) (hd : ∀ H, IsD X.K H d v) : PE X e (up X.K (dC d)) :=
  PE.imp h fun σ H Q ⟨L, S, k, hL, hS, h, n⟩ => n d S v H h (Kp.refl H) hS (hd H)
theorem d_int {i j pos} : PE X (.Constant (.int i) j pos) (up X.K (dC (.int i))) := d_c pe_int fun _ => isInt.mpr rfl
theorem d_bl {i j pos} : PE X (.Constant (.bool i) j pos) (up X.K (dC (.bl i))) := d_c pe_bl fun _ => isBl.mpr rfl
theorem d_non {j pos} : PE X (.Constant .none j pos) (up X.K (dC .non)) := d_c pe_non fun _ => isNon.mpr rfl
theorem d_ty {x : Str} {n : Ty} (hg : Gl X x) (hm : X.mg x = none) (hv : bootBuiltins x = some (.type n.name)) (hn : x ≠ "__name__" := by decide) (hd : (x == ("__debug__" : Str)) = false := by decide) : PE X (.Name x pos) (up X.K (dC (.ty n))) :=
  d_c (pe_bltn (v := .ty n.name) hg hm hv rfl hn hd) fun _ => isTy.mpr rfl
def starB : Expr → Bool
  | .Starred _ _ => true
  | _ => false
theorem star_cons {a : Expr} {es : List Expr} {env : Env} (h : starB a = false) : starEach (a :: es) env = (false, eval a env) :: starEach es env := by
  cases a <;> first | rfl | cases h
theorem star_any {pos : Pos} {env : Env} : ∀ {es : List Expr}, (es.all fun e => !starB e) = true → (backTo pos (starEach es env)).any (·.1) = false
  | [], _ => rfl
  | e :: es, h => by
    rw [List.all_cons, Bool.and_eq_true] at h
    rw [star_cons (by simpa using h.1)]
    exact star_any h.2
def dNil : DA := fun _ S k => k [] S
def dCons (g : DE) (t : DA) : DA := fun L S k => g L S fun d S1 => t L S1 fun ds S2 => k (d :: ds) S2
theorem da_nil : PA X [] (upA X.K dNil) := PA.imp pa_nil fun σ H Q ⟨L, S, k, hL, hS, h, n⟩ => n [] S [] H h (Kp.refl H) hS IsDs.nil
theorem da_cons {es : List Expr} {t : DA} (ha : PE X a (up X.K ga)) (hr : PA X es (upA X.K t)) (hs : starEach (a :: es) X.env = (false, eval a X.env) :: starEach es X.env := by exact star_cons rfl) : PA X (a :: es) (upA X.K (dCons ga t)) :=
  PA.imp (pa_cons ha hr hs) fun σ H Q ⟨L, S, k, hL, hS, h, n⟩ => up.go hL hS h fun d S1 v H1 h1 k1 hL1 hS1 i1 => upA.go hL1 hS1 h1 fun ds S2 vs H2 h2 k2 hL2 hS2 i2 =>
    n (d :: ds) S2 (v :: vs) H2 h2 (k1.trans k2) hS2 (IsDs.cons (i1.kp k2) i2)
def dTup (t : DA) : DE := fun L S k => t L S fun ds S1 => ds.length ≤ sizeLine ∧ k (.tup ds) S1
def dLst (t : DA) : DE := fun L S k => t L S fun ds S1 => ds.length ≤ sizeLine ∧ ∀ p, S1 p = none → k (.ref p) (put S1 p (.lst ds))
theorem d_tup {es : List Expr} {x1} {t : DA} (h : PA X es (upA X.K t)) : PE X (.Tuple es x1 pos) (up X.K (dTup t)) :=
  PE.imp (pe_tup h) fun σ H Q ⟨L, S, k, hL, hS, h, n⟩ => upA.go hL hS h fun ds S1 vs H1 h1 k1 hL1 hS1 i1 => by
    refine ⟨by rw [← i1.length]; exact h1.1, fun p hp => ?_⟩
    have k2 : Kp H1 (upd H1 p (.tup vs)) := Kp.new hp
    exact n (.tup ds) S1 _ _ h1.2 (k1.trans k2) (hS1.new hp) (isTup.mpr ⟨p, vs, rfl, SqT.of upd_same, i1.kp k2⟩)
theorem d_lst {es : List Expr} {t : DA} (h : PA X es (upA X.K t)) : PE X (.List es pos) (up X.K (dLst t)) :=
  PE.imp (pe_lst h) fun σ H Q ⟨L, S, k, hL, hS, h, n⟩ => upA.go hL hS h fun ds S1 vs H1 h1 k1 hL1 hS1 i1 => by
    refine ⟨by rw [← i1.length]; exact h1.1, fun p hp => ?_⟩
    exact n (.ref p) _ _ _ (h1.2 p (hS1.free hp)) (k1.trans (Kp.new hp)) (hS1.newL hp i1) (isRef.mpr rfl)
abbrev D2 := D → D → DH → DK → Prop
def upR (K : Fg) (r : D2) : R2 := fun x y H Q => ∃ d e S k, IsD K H d x ∧ IsD K H e y ∧ Hs K H S ∧ r d e S k ∧ ∀ d' S' v H', k d' S' → Kp H H' → Hs K H' S' → IsD K H' d' v → Q v H'
def dOp (r : D2) (ga gb : DE) : DE := fun L S k => ga L S fun x S1 => gb L S1 fun y S2 => r x y S2 k
theorem dOp_go {K : Fg} {r : D2} : ∀ σ H Q, up K (dOp r ga gb) σ H Q → tOp (upR K r) (up K ga) (up K gb) σ H Q := fun σ H Q ⟨L, S, k, hL, hS, h, n⟩ =>
  up.go hL hS h fun d S1 v H1 h1 k1 hL1 hS1 i1 => up.go hL1 hS1 h1 fun e S2 u H2 h2 k2 hL2 hS2 i2 =>
    ⟨d, e, S2, k, i1.kp k2, i2, hS2, h2, fun d' S' v H' q k3 z1 z2 => n d' S' v H' q (k1.trans (k2.trans k3)) z1 z2⟩
theorem d_op {op : Operator} {r : D2} (ho : OpR X (binaryOp op) (upR X.K r)) (ha : PE X a (up X.K ga)) (hb : PE X b (up X.K gb)) : PE X (.BinOp a op b pos) (up X.K (dOp r ga gb)) := PE.imp (pe_op ho ha hb) dOp_go
theorem d_cmp {op : CmpOp} {r : D2} (ho : OpR X (compareOp op) (upR X.K r)) (ha : PE X a (up X.K ga)) (hb : PE X b (up X.K gb)) (hm : behindInMarks op b = false) : PE X (.Compare a [op] [b] pos) (up X.K (dOp r ga gb)) := PE.imp (pe_cmpR ho ha hb hm) dOp_go
theorem d_ix {r : D2} (hr : IxR X (upR X.K r)) (ha : PE X a (up X.K ga)) (hb : PE X b (up X.K gb)) (hs : PlainIx b) : PE X (.Subscript a b pos) (up X.K (dOp r ga gb)) := PE.imp (pe_ix hr ha hb hs) dOp_go
abbrev D1 := D → DH → DK → Prop
def upU (K : Fg) (r : D1) : V → Hp → VK → Prop := fun x H Q => ∃ d S k, IsD K H d x ∧ Hs K H S ∧ r d S k ∧ ∀ d' S' v H', k d' S' → Kp H H' → Hs K H' S' → IsD K H' d' v → Q v H'
def dUn (r : D1) (ga : DE) : DE := fun L S k => ga L S fun x S1 => r x S1 k
theorem d_un {op : UnaryOp} {r : D1} (ho : UnR X (unaryOp op) (upU X.K r)) (ha : PE X a (up X.K ga)) : PE X (.UnaryOp op a pos) (up X.K (dUn r ga)) :=
  PE.imp (pe_un ho ha) fun σ H Q ⟨L, S, k, hL, hS, h, n⟩ => up.go hL hS h fun d S1 v H1 h1 k1 hL1 hS1 i1 => ⟨d, S1, k, i1, hS1, h1, fun d' S' v H' q k3 z1 z2 => n d' S' v H' q (k1.trans k3) z1 z2⟩
def dTest (g : DE) : DT := fun L S k => g L S fun d S1 => match d with
  | .bl c => k c S1
  | _ => False
theorem dTest_go {K : Fg} {g : DE} : ∀ σ H Q, upT K (dTest g) σ H Q → tTest (up K g) σ H Q := fun σ H Q ⟨L, S, k, hL, hS, h, n⟩ =>
  up.go hL hS h fun d S1 v H1 h1 k1 hL1 hS1 i1 => by
    cases d with
    | bl c =>
      have e := isBl.mp i1
      subst e
      exact ⟨c, rfl, n c S1 H1 h1 k1 hS1⟩
    | _ => exact (show False from h1).elim
theorem dt_cmp {op : CmpOp} {r : D2} (ho : OpR X (compareOp op) (upR X.K r)) (ha : PE X a (up X.K ga)) (hb : PE X b (up X.K gb)) (hm : behindInMarks op b = false) : PT X (.Compare a [op] [b] pos) (upT X.K (dTest (dOp r ga gb))) :=
  PT.imp (PT.imp (pt_cmpR ho ha hb hm) fun σ H Q h => dOp_go σ H _ h) dTest_go
theorem dt_val {e : Expr} {g : DE} (h : PE X e (up X.K g)) (he : ∀ whole, isTrue e X.env whole = (do let v ← whole; standAt e.pos; holding [v] (truthy v)) := by intro _; rfl) : PT X e (upT X.K (dTest g)) :=
  PT.imp (pt_val h he) dTest_go
variable {tA tB' : DT} {rest : List Expr}
def dAndT (t u : DT) : DT := fun L S k => t L S fun c S1 => if c = true then u L S1 k else k false S1
def dOrT (t u : DT) : DT := fun L S k => t L S fun c S1 => if c = true then k true S1 else u L S1 k
def dNotT (t : DT) : DT := fun L S k => t L S fun c S1 => k (!c) S1
theorem dw_or1 (ha : PT X a (upT X.K tA)) : PW X (.BoolOp .Or [a] pos) (upT X.K tA) := pw_or1 ha
theorem dw_or (ha : PT X a (upT X.K tA)) (hb : PW X (.BoolOp .Or (b :: rest) pos) (upT X.K tB')) : PW X (.BoolOp .Or (a :: b :: rest) pos) (upT X.K (dOrT tA tB')) :=
  PW.imp (pw_or ha hb) fun σ H Q ⟨L, S, k, hL, hS, h, n⟩ => upT.go hL hS h fun c S1 H1 h1 k1 hL1 hS1 => by
    cases c with
    | true =>
      rw [if_pos rfl] at h1 ⊢
      exact n true S1 H1 h1 k1 hS1
    | false =>
      rw [if_neg Bool.false_ne_true] at h1 ⊢
      exact upT.go hL1 hS1 h1 fun c2 S2 H2 h2 k2 _ hS2 => n c2 S2 H2 h2 (k1.trans k2) hS2
theorem dt_not (ha : PT X a (upT X.K tA)) : PT X (.UnaryOp .Not a pos) (upT X.K (dNotT tA)) :=
  PT.imp (pt_not ha) fun σ H Q ⟨L, S, k, hL, hS, h, n⟩ => upT.go hL hS h fun c S1 H1 h1 k1 hL1 hS1 => n _ S1 H1 h1 k1 hS1
def dAndV (ga gb : DE) : DE := fun L S k => ga L S fun x S1 => match x with
  | .bl c => if c = true then gb L S1 k else k (.bl false) S1
  | _ => False
def dOrV (ga gb : DE) : DE := fun L S k => ga L S fun x S1 => match x with
  | .bl c => if c = true then k (.bl true) S1 else gb L S1 k
  | _ => False
def dNotV (ga : DE) : DE := fun L S k => ga L S fun x S1 => match x with
  | .bl c => k (.bl (!c)) S1
  | _ => False
theorem d_one {op} (h : PE X a (up X.K ga)) : PE X (.BoolOp op [a] pos) (up X.K ga) := pe_one h
def dIf (t : DT) (ga gb : DE) : DE := fun L S k => t L S fun c S1 => if c = true then ga L S1 k else gb L S1 k
theorem d_if {c : Expr} (hc : PT X c (upT X.K tA)) (ha : PE X a (up X.K ga)) (hb : PE X b (up X.K gb)) : PE X (.IfExp c a b pos) (up X.K (dIf tA ga gb)) :=
  PE.imp (pe_ifExp hc ha hb) fun σ H Q ⟨L, S, k, hL, hS, h, n⟩ => upT.go hL hS h fun d S1 H1 h1 k1 hL1 hS1 => by
    cases d with
    | true =>
      rw [if_pos rfl] at h1 ⊢
      exact up.go hL1 hS1 h1 fun d2 S2 v2 H2 h2 k2 _ hS2 i2 => n d2 S2 v2 H2 h2 (k1.trans k2) hS2 i2
    | false =>
      rw [if_neg Bool.false_ne_true] at h1 ⊢
      exact up.go hL1 hS1 h1 fun d2 S2 v2 H2 h2 k2 _ hS2 i2 => n d2 S2 v2 H2 h2 (k1.trans k2) hS2 i2
end
end DL
namespace DL
open PySem PySem.Spec PyProof.Rows L2
section
variable {X : Cx}
theorem up1 {K : Fg} {H : Hp} {S : DH} {k : DK} {Q : VK} {d : D} {v : V} (n : ∀ d' S' v H', k d' S' → Kp H H' → Hs K H' S' → IsD K H' d' v → Q v H') (hS : Hs K H S) (h : k d S) (i : IsD K H d v) : Q v H := n d S v H h (Kp.refl H) hS i
def d2I (C : Int → Int → Prop) (g : Int → Int → D) : D2 := fun d e S k => match d, e with
  | .int i, .int j => C i j ∧ k (g i j) S
  | _, _ => False
theorem op2I {f : Value → Value → Sem Value} {C : Int → Int → Prop} {g : Int → Int → D} {gV : Int → Int → V} (ho : OpR X f (rI C gV)) (hg : ∀ i j H, IsD X.K H (g i j) (gV i j)) : OpR X f (upR X.K (d2I C g)) := by
  intro pins s σ H x y v u Q I rx ry h
  obtain ⟨d, e, S, k, i1, i2, hS, r, n⟩ := h
  cases d with
  | int i =>
    cases e with
    | int j =>
      have e1 := isInt.mp i1
      have e2 := isInt.mp i2
      subst e1
      subst e2
      exact ho pins s σ H _ _ v u Q I rx ry ⟨i, j, rfl, rfl, r.1, up1 n hS r.2 (hg i j H)⟩
    | _ => exact (show False from r).elim
  | _ => exact (show False from r).elim
def d2I0 (g : Int → Int → D) : D2 := fun d e S k => match d, e with
  | .int i, .int j => k (g i j) S
  | _, _ => False
theorem op2I0 {f : Value → Value → Sem Value} {g : Int → Int → D} {gV : Int → Int → V} (ho : OpR X f (rI0 gV)) (hg : ∀ i j H, IsD X.K H (g i j) (gV i j)) : OpR X f (upR X.K (d2I0 g)) := by
  intro pins s σ H x y v u Q I rx ry h
  obtain ⟨d, e, S, k, i1, i2, hS, r, n⟩ := h
  cases d with
  | int i =>
    cases e with
    | int j =>
      have e1 := isInt.mp i1
      have e2 := isInt.mp i2
      subst e1
      subst e2
      exact ho pins s σ H _ _ v u Q I rx ry ⟨i, j, rfl, rfl, up1 n hS r (hg i j H)⟩
    | _ => exact (show False from r).elim
  | _ => exact (show False from r).elim
def CDivB (i j : Int) : Prop := j ≠ 0 ∧ j.natAbs.log2 < 9000
abbrev dSub : D2 := d2I0 fun i j => .int (i - j)
abbrev dMul : D2 := d2I IntMulOk fun i j => .int (i * j)
abbrev dDiv : D2 := d2I CDivB fun i j => .int (i.fdiv j)
abbrev dMod : D2 := d2I (fun _ j => j ≠ 0) fun i j => .int (i.fmod j)
abbrev dPow : D2 := d2I CPow fun i j => .int (i ^ j.toNat)
abbrev dShl : D2 := d2I CPow fun i j => .int (i * 2 ^ j.toNat)
abbrev dLt : D2 := d2I0 fun i j => .bl (decide (i < j))
abbrev dLe : D2 := d2I0 fun i j => .bl (decide (i ≤ j))
abbrev dGt : D2 := d2I0 fun i j => .bl (decide (j < i))
abbrev dGe : D2 := d2I0 fun i j => .bl (decide (j ≤ i))
theorem o_sub : OpR X (binaryOp .Sub) (upR X.K dSub) := op2I0 op_sub fun _ _ _ => isInt.mpr rfl
theorem o_mul : OpR X (binaryOp .Mult) (upR X.K dMul) := op2I (C := IntMulOk) (gV := fun i j => .int (i * j)) (opI fun _ _ _ _ _ _ _ hc q => mul_int q hc) fun _ _ _ => isInt.mpr rfl
theorem o_div : OpR X (binaryOp .FloorDiv) (upR X.K dDiv) := op2I (C := CDivB) (gV := fun i j => .int (i.fdiv j)) (opI fun _ _ _ _ _ _ _ hc q => floordiv_int hc.1 q (.inl (PyProof.noPylong_of_log2 hc.2))) fun _ _ _ => isInt.mpr rfl
theorem o_mod : OpR X (binaryOp .Mod) (upR X.K dMod) := op2I op_modN fun _ _ _ => isInt.mpr rfl
theorem o_pow : OpR X (binaryOp .Pow) (upR X.K dPow) := op2I op_pow fun _ _ _ => isInt.mpr rfl
theorem o_shl : OpR X (binaryOp .LShift) (upR X.K dShl) := op2I op_shl fun _ _ _ => isInt.mpr rfl
theorem o_lt : OpR X (compareOp .Lt) (upR X.K dLt) := op2I0 op_lt fun _ _ _ => isBl.mpr rfl
theorem o_le : OpR X (compareOp .LtE) (upR X.K dLe) := op2I0 op_le fun _ _ _ => isBl.mpr rfl
theorem o_gt : OpR X (compareOp .Gt) (upR X.K dGt) := op2I0 op_gt fun _ _ _ => isBl.mpr rfl
theorem o_ge : OpR X (compareOp .GtE) (upR X.K dGe) := op2I0 op_ge fun _ _ _ => isBl.mpr rfl
def dAdd : D2 := fun d e S k => match d, e with
  | .int i, .int j => k (.int (i + j)) S
  | .str x, .str y => x.length + y.length ≤ sizeLine ∧ k (.str (x ++ y)) S
  | .tup xs, .tup ys => xs ≠ [] ∧ ys ≠ [] ∧ xs.length + ys.length ≤ sizeLine ∧ k (.tup (xs ++ ys)) S
  | .ref a, .ref b => ∃ xs ys, S a = some (.lst xs) ∧ S b = some (.lst ys) ∧ xs.length + ys.length ≤ sizeLine ∧ ∀ p, S p = none → k (.ref p) (put S p (.lst (xs ++ ys)))
  | _, _ => False
theorem ne_nil_of {K : Fg} {H : Hp} {ds : List D} {vs : List V} (i : IsDs K H ds vs) (h : ds ≠ []) : vs ≠ [] := by
  intro e
  subst e
  have := i.length
  exact h (List.length_eq_zero_iff.mp this)
theorem o_add : OpR X (binaryOp .Add) (upR X.K dAdd) := by
  intro pins s σ H x y v u Q I rx ry h
  obtain ⟨d, e, S, k, i1, i2, hS, r, n⟩ := h
  cases d with
  | int i =>
    cases e with
    | int j =>
      have e1 := isInt.mp i1
      have e2 := isInt.mp i2
      subst e1
      subst e2
      exact op_add pins s σ H _ _ v u Q I rx ry ⟨i, j, rfl, rfl, up1 n hS r (isInt.mpr rfl)⟩
    | _ => exact (show False from r).elim
  | str i =>
    cases e with
    | str j =>
      have e1 := isStr.mp i1
      have e2 := isStr.mp i2
      subst e1
      subst e2
      exact op_add_str pins s σ H _ _ v u Q I rx ry ⟨i, j, rfl, rfl, r.1, up1 n hS r.2 (isStr.mpr rfl)⟩
    | _ => exact (show False from r).elim
  | tup xs =>
    cases e with
    | tup ys =>
      obtain ⟨a, vs, rfl, t1, j1⟩ := isTup.mp i1
      obtain ⟨b, us, rfl, t2, j2⟩ := isTup.mp i2
      obtain ⟨h1, h2, h3, r⟩ := r
      refine op_catT pins s σ H _ _ v u Q I rx ry ⟨a, b, vs, us, rfl, rfl, t1, t2, ne_nil_of j1 h1, by rw [← j1.length, ← j2.length]; exact h3, fun z => absurd z (ne_nil_of j2 h2), fun _ p hp => ?_⟩
      have kp : Kp H (upd H p (.tup (vs ++ us))) := Kp.new hp
      exact n _ S _ _ r kp (hS.new hp) (isTup.mpr ⟨p, _, rfl, SqT.of upd_same, (j1.append j2).kp kp⟩)
    | _ => exact (show False from r).elim
  | ref a =>
    cases e with
    | ref b =>
      have e1 := isRef.mp i1
      have e2 := isRef.mp i2
      subst e1
      subst e2
      obtain ⟨xs, ys, h1, h2, h3, r⟩ := r
      obtain ⟨vs, q1, j1⟩ := hS.lst h1
      obtain ⟨us, q2, j2⟩ := hS.lst h2
      refine op_cat pins s σ H _ _ v u Q I rx ry ⟨a, b, vs, us, rfl, rfl, q1, q2, by rw [← j1.length, ← j2.length]; exact h3, fun p hp => ?_⟩
      exact n _ _ _ _ (r p (hS.free hp)) (Kp.new hp) (hS.newL hp (j1.append j2)) (isRef.mpr rfl)
    | _ => exact (show False from r).elim
  | _ => exact (show False from r).elim
def eqF : D → D → Option Bool
  | .int i, .int j => some (decide (i = j))
  | .bl i, .bl j => some (decide (i = j))
  | .str i, .str j => some (decide (i = j))
  | _, _ => none
def dEq : D2 := fun d e S k => match eqF d e with
  | some b => k (.bl b) S
  | none => False
def dNe : D2 := fun d e S k => match eqF d e with
  | some b => k (.bl (!b)) S
  | none => False
theorem eqF_V {K : Fg} {H : Hp} {d e : D} {x y : V} {b : Bool} (h : eqF d e = some b) (i1 : IsD K H d x) (i2 : IsD K H e y) : scal x y = true ∧ decide (x = y) = b := by
  unfold eqF at h
  split at h
  · have e1 := isInt.mp i1
    have e2 := isInt.mp i2
    subst e1; subst e2
    cases h
    exact ⟨rfl, by simp⟩
  · have e1 := isBl.mp i1
    have e2 := isBl.mp i2
    subst e1; subst e2
    cases h
    exact ⟨rfl, by simp⟩
  · have e1 := isStr.mp i1
    have e2 := isStr.mp i2
    subst e1; subst e2
    cases h
    exact ⟨rfl, by simp⟩
  · cases h
theorem o_eq : OpR X (compareOp .Eq) (upR X.K dEq) := by
  intro pins s σ H x y v u Q I rx ry h
  obtain ⟨d, e, S, k, i1, i2, hS, r, n⟩ := h
  unfold dEq at r
  cases q : eqF d e with
  | none => rw [q] at r; exact r.elim
  | some b =>
    rw [q] at r
    obtain ⟨h1, h2⟩ := eqF_V q i1 i2
    exact op_eq pins s σ H _ _ v u Q I rx ry ⟨h1, by rw [h2]; exact up1 n hS r (isBl.mpr rfl)⟩
theorem o_ne : OpR X (compareOp .NotEq) (upR X.K dNe) := by
  intro pins s σ H x y v u Q I rx ry h
  obtain ⟨d, e, S, k, i1, i2, hS, r, n⟩ := h
  unfold dNe at r
  cases q : eqF d e with
  | none => rw [q] at r; exact r.elim
  | some b =>
    rw [q] at r
    obtain ⟨h1, h2⟩ := eqF_V q i1 i2
    exact op_ne pins s σ H _ _ v u Q I rx ry ⟨h1, by rw [h2]; exact up1 n hS r (isBl.mpr rfl)⟩
def isNonD : D → Bool
  | .non => true
  | _ => false
def dIs : D2 := fun d e S k => match d, e with
  | .bl c, .bl b => k (.bl (c == b)) S
  | d, .non => k (.bl (isNonD d)) S
  | _, _ => False
def dIsNot : D2 := fun d e S k => match d, e with
  | .bl c, .bl b => k (.bl (!(c == b))) S
  | d, .non => k (.bl (!isNonD d)) S
  | _, _ => False
theorem isNonD_V {K : Fg} {H : Hp} {d : D} {x : V} (i : IsD K H d x) : decide (x = .non) = isNonD d := by
  cases d with
  | non => rw [isNon.mp i]; rfl
  | bl b => rw [isBl.mp i]; rfl
  | int b => rw [isInt.mp i]; rfl
  | str b => rw [isStr.mp i]; rfl
  | ref b => rw [isRef.mp i]; rfl
  | ty b => rw [isTy.mp i]; rfl
  | tup b => obtain ⟨a, xs, rfl, _⟩ := isTup.mp i; rfl
  | rl b => obtain ⟨a, xs, rfl, _⟩ := isRl.mp i; rfl
theorem o_is : OpR X (compareOp .Is) (upR X.K dIs) := by
  intro pins s σ H x y v u Q I rx ry h
  obtain ⟨d, e, S, k, i1, i2, hS, r, n⟩ := h
  unfold dIs at r
  split at r
  · rename_i c b
    have e1 := isBl.mp i1
    have e2 := isBl.mp i2
    subst e1; subst e2
    cases rx; cases ry
    exact is_bool ⟨.bl _, H, I, rfl, up1 n hS r (isBl.mpr rfl)⟩
  · have e2 := isNon.mp i2
    exact op_isN pins s σ H _ _ v u Q I rx ry ⟨e2, by rw [isNonD_V i1]; exact up1 n hS r (isBl.mpr rfl)⟩
  · exact r.elim
theorem o_isNot : OpR X (compareOp .IsNot) (upR X.K dIsNot) := by
  intro pins s σ H x y v u Q I rx ry h
  obtain ⟨d, e, S, k, i1, i2, hS, r, n⟩ := h
  unfold dIsNot at r
  split at r
  · rename_i c b
    have e1 := isBl.mp i1
    have e2 := isBl.mp i2
    subst e1; subst e2
    cases rx; cases ry
    exact isnot_bool ⟨.bl _, H, I, rfl, up1 n hS r (isBl.mpr rfl)⟩
  · have e2 := isNon.mp i2
    exact op_notN pins s σ H _ _ v u Q I rx ry ⟨e2, by rw [isNonD_V i1]; exact up1 n hS r (isBl.mpr rfl)⟩
  · exact r.elim
def dNeg : D1 := fun d S k => match d with
  | .int i => k (.int (-i)) S
  | _ => False
theorem o_neg : UnR X (unaryOp .USub) (upU X.K dNeg) := by
  intro pins s σ H x v Q I rx h
  obtain ⟨d, S, k, i1, hS, r, n⟩ := h
  cases d with
  | int i =>
    have e1 := isInt.mp i1
    subst e1
    exact un_neg pins s σ H _ v Q I rx ⟨i, rfl, up1 n hS r (isInt.mpr rfl)⟩
  | _ => exact (show False from r).elim
def dIx : D2 := fun d e S k => match d, e with
  | .tup ds, .int i => (match atI ds i with
    | some c => k c S
    | none => False)
  | .rl ds, .int i => (match atI ds i with
    | some c => k c S
    | none => False)
  | .ref a, .int i => (match S a with
    | some (.lst ds) => (match atI ds i with
      | some c => k c S
      | none => False)
    | _ => False)
  | _, _ => False
theorem IsDs.atI {K : Fg} {H : Hp} {ds : List D} {vs : List V} {i : Int} {d : D} (r : IsDs K H ds vs) (h : atI ds i = some d) : ∃ v, L2.atI vs i = some v ∧ IsD K H d v := by
  unfold L2.atI at h ⊢
  rw [← r.length]
  cases q : ixN ds.length i with
  | none => rw [q] at h; cases h
  | some j =>
    rw [q] at h
    exact r.get h
theorem x_ix : IxR X (upR X.K dIx) := by
  intro value slice pins s σ H x y v u Q I rx ry h hs
  obtain ⟨d, e, S, k, i1, i2, hS, r, n⟩ := h
  cases e with
  | int i =>
    have e2 := isInt.mp i2
    subst e2
    cases d with
    | tup ds =>
      obtain ⟨a, vs, rfl, t, j⟩ := isTup.mp i1
      cases q : atI ds i with
      | none => simp only [dIx, q] at r
      | some c =>
        simp only [dIx, q] at r
        obtain ⟨w, e1, e2⟩ := j.atI q
        exact ix_tup value slice pins s σ H _ _ v u Q I rx ry ⟨a, vs, i, w, rfl, rfl, t, e1, up1 n hS r e2⟩ hs
    | rl ds =>
      obtain ⟨a, vs, rfl, t, j⟩ := isRl.mp i1
      cases q : atI ds i with
      | none => simp only [dIx, q] at r
      | some c =>
        simp only [dIx, q] at r
        obtain ⟨w, e1, e2⟩ := j.atI q
        exact ix_list value slice pins s σ H _ _ v u Q I rx ry ⟨a, vs, i, w, rfl, rfl, t.sq, e1, up1 n hS r e2⟩ hs
    | ref a =>
      have e1 := isRef.mp i1
      subst e1
      cases z : S a with
      | none => simp only [dIx, z] at r
      | some o =>
        cases o with
        | dic => simp only [dIx, z] at r
        | exc _ => simp only [dIx, z] at r
        | fn _ => simp only [dIx, z] at r
        | tbl _ => simp only [dIx, z] at r
        | gen _ => simp only [dIx, z] at r
        | lst ds =>
          obtain ⟨vs, hl, j⟩ := hS.lst z
          cases q : atI ds i with
          | none => simp only [dIx, z, q] at r
          | some c =>
            simp only [dIx, z, q] at r
            obtain ⟨w, e1, e2⟩ := j.atI q
            exact ix_list value slice pins s σ H _ _ v u Q I rx ry ⟨a, vs, i, w, rfl, rfl, SqL.of hl, e1, up1 n hS r e2⟩ hs
    | _ => exact (show False from r).elim
  | _ =>
    cases d <;> exact (show False from r).elim
end
abbrev DSp := List D → DH → DK → Prop
def upC (K : Fg) (r : DSp) : List V → Hp → VK → Prop := fun xs H Q => ∃ ds S k, IsDs K H ds xs ∧ Hs K H S ∧ r ds S k ∧ ∀ d' S' v H', k d' S' → Kp H H' → Hs K H' S' → IsD K H' d' v → Q v H'
def dCall (r : DSp) (t : DA) : DE := fun L S k => t L S fun ds S1 => r ds S1 k
section
variable {X : Cx} {x : Str} {p pos : Pos} {e : Expr} {es : List Expr} {t : DA} {id T : String} {r : DSp}
theorem dCall_go {K : Fg} : ∀ σ H Q, up K (dCall r t) σ H Q → tCB (upC K r) (upA K t) σ H Q := fun σ H Q ⟨L, S, k, hL, hS, h, n⟩ =>
  upA.go hL hS h fun ds S1 vs H1 h1 k1 hL1 hS1 i1 => ⟨ds, S1, k, i1, hS1, h1, fun d' S' v H' q k3 z1 z2 => n d' S' v H' q (k1.trans k3) z1 z2⟩
theorem d_callB (hc : CallR X (.builtin id) (upC X.K r)) (hg : Gl X x) (hm : X.mg x = none) (hv : bootBuiltins x = some (.builtin id)) (ha : PA X (e :: es) (upA X.K t)) (hn : x ≠ "__name__" := by decide) (hdb : (x == ("__debug__" : Str)) = false := by decide)
    (he : starEach (e :: es) X.env = (false, eval e X.env) :: starEach es X.env := by exact star_cons rfl) (hpl : (backTo pos (starEach es X.env)).any (·.1) = false := by exact star_any rfl) : PE X (.Call (.Name x p) (e :: es) [] pos) (up X.K (dCall r t)) :=
  PE.imp (pe_callB hc hg hm hv ha hn hdb he hpl) dCall_go
theorem d_callT (hc : CallR X (.type T) (upC X.K r)) (hg : Gl X x) (hm : X.mg x = none) (hv : bootBuiltins x = some (.type T)) (ha : PA X (e :: es) (upA X.K t)) (hn : x ≠ "__name__" := by decide) (hdb : (x == ("__debug__" : Str)) = false := by decide)
    (he : starEach (e :: es) X.env = (false, eval e X.env) :: starEach es X.env := by exact star_cons rfl) (hpl : (backTo pos (starEach es X.env)).any (·.1) = false := by exact star_any rfl) : PE X (.Call (.Name x p) (e :: es) [] pos) (up X.K (dCall r t)) :=
  PE.imp (pe_callTy hc hg hm hv ha hn hdb he hpl) dCall_go
def spU (K : Fg) (F : DSp) : Sp := fun vs H Q _ => upC K F vs H Q
structure Own (P : Program) (w : World) (K : Fg) (mg : Str → Option Value) (base : Heap) (x : Str) (n : Nat) (F : DSp) : Prop where
  ex : ∃ f fd ps, FnOk P w K mg base CX0 n f fd ps (spU K F) ∧ mg x = some (.ref f) ∧ PySem.W.keepIn K (.ref f) = true ∧ Binds K fd ps []
theorem d_call {n : Nat} {F : DSp} (c : Own X.prog X.w X.K X.mg X.base x n F) (hr : Room n X.A) (hg : Gl X x) (ha : PA X (e :: es) (upA X.K t)) (hdb : (x == ("__debug__" : Str)) = false := by decide)
    (he : starEach (e :: es) X.env = (false, eval e X.env) :: starEach es X.env := by exact star_cons rfl) (hpl : (backTo pos (starEach es X.env)).any (·.1) = false := by exact star_any rfl) :
    PE X (.Call (.Name x p) (e :: es) [] pos) (up X.K (dCall F t)) := by
  obtain ⟨f, fd, ps, F1, h1, h2, h3⟩ := c.ex
  refine PE.imp (pe_call F1 hr hg h1 h2 h3 .nil pass0 ha hdb he hpl) fun σ H Q ⟨L, S, k, hL, hS, h, n⟩ => ?_
  refine upA.go hL hS h fun ds S1 vs H1 h1 k1 hL1 hS1 i1 => ?_
  show spU X.K F (vs ++ []) H1 Q E0
  rw [List.append_nil]
  exact ⟨ds, S1, k, i1, hS1, h1, fun d' S' v H' q k3 z1 z2 => n d' S' v H' q (k1.trans k3) z1 z2⟩
def bAbs : DSp := fun ds S k => match ds with
  | [.int i] => k (.int (if i < 0 then -i else i)) S
  | _ => False
theorem isDs1 {K : Fg} {H : Hp} {d : D} {xs : List V} (h : IsDs K H [d] xs) : ∃ x, xs = [x] ∧ IsD K H d x := by
  obtain ⟨v, r, rfl, h1, h2⟩ := isCons.mp h
  rw [isNil.mp h2]
  exact ⟨v, rfl, h1⟩
theorem isDs2 {K : Fg} {H : Hp} {d e : D} {xs : List V} (h : IsDs K H [d, e] xs) : ∃ x y, xs = [x, y] ∧ IsD K H d x ∧ IsD K H e y := by
  obtain ⟨v, r, rfl, h1, h2⟩ := isCons.mp h
  obtain ⟨y, rfl, h3⟩ := isDs1 h2
  exact ⟨v, y, rfl, h1, h3⟩
theorem b_abs : CallR X (.builtin "abs") (upC X.K bAbs) := by
  intro pins s σ H xs us Q I rs h
  obtain ⟨ds, S, k, i, hS, r, n⟩ := h
  unfold bAbs at r
  split at r
  · obtain ⟨x, rfl, i1⟩ := isDs1 i
    have e1 := isInt.mp i1
    subst e1
    exact call_abs pins s σ H _ us Q I rs ⟨_, rfl, up1 n hS r (isInt.mpr rfl)⟩
  · exact r.elim
def bLen : DSp := fun ds S k => match ds with
  | [.tup xs] => k (.int xs.length) S
  | [.rl xs] => k (.int xs.length) S
  | [.ref a] => (match S a with
    | some (.lst xs) => k (.int xs.length) S
    | _ => False)
  | _ => False
theorem b_len : CallR X (.builtin "len") (upC X.K bLen) := by
  intro pins s σ H xs us Q I rs h
  obtain ⟨ds, S, k, i, hS, r, n⟩ := h
  unfold bLen at r
  split at r
  · obtain ⟨x, rfl, i1⟩ := isDs1 i
    obtain ⟨a, vs, rfl, t, j⟩ := isTup.mp i1
    exact call_len_seq pins s σ H _ us Q I rs ⟨a, vs, rfl, .inr t, by rw [← j.length]; exact up1 n hS r (isInt.mpr rfl)⟩
  · obtain ⟨x, rfl, i1⟩ := isDs1 i
    obtain ⟨a, vs, rfl, t, j⟩ := isRl.mp i1
    exact call_len_seq pins s σ H _ us Q I rs ⟨a, vs, rfl, .inl t.sq, by rw [← j.length]; exact up1 n hS r (isInt.mpr rfl)⟩
  · obtain ⟨x, rfl, i1⟩ := isDs1 i
    have e1 := isRef.mp i1
    subst e1
    split at r
    · rename_i z
      obtain ⟨vs, hl, j⟩ := hS.lst z
      exact call_len_seq pins s σ H _ us Q I rs ⟨_, vs, rfl, .inl (SqL.of hl), by rw [← j.length]; exact up1 n hS r (isInt.mpr rfl)⟩
    · exact r.elim
  · exact r.elim
def bMax : DSp := fun ds S k => match ds with
  | [.int i, .int j] => k (.int (if j > i then j else i)) S
  | _ => False
def bMin : DSp := fun ds S k => match ds with
  | [.int i, .int j] => k (.int (if j < i then j else i)) S
  | _ => False
theorem b_max (hc : X.calm = true := by rfl) : CallR X (.builtin "max") (upC X.K bMax) := by
  intro pins s σ H xs us Q I rs h
  obtain ⟨ds, S, k, i, hS, r, n⟩ := h
  unfold bMax at r
  split at r
  · obtain ⟨x, y, rfl, i1, i2⟩ := isDs2 i
    have e1 := isInt.mp i1
    have e2 := isInt.mp i2
    subst e1; subst e2
    exact call_max2 hc pins s σ H _ us Q I rs ⟨_, _, rfl, up1 n hS r (isInt.mpr rfl)⟩
  · exact r.elim
theorem b_min (hc : X.calm = true := by rfl) : CallR X (.builtin "min") (upC X.K bMin) := by
  intro pins s σ H xs us Q I rs h
  obtain ⟨ds, S, k, i, hS, r, n⟩ := h
  unfold bMin at r
  split at r
  · obtain ⟨x, y, rfl, i1, i2⟩ := isDs2 i
    have e1 := isInt.mp i1
    have e2 := isInt.mp i2
    subst e1; subst e2
    exact call_min2 hc pins s σ H _ us Q I rs ⟨_, _, rfl, up1 n hS r (isInt.mpr rfl)⟩
  · exact r.elim
def bInt : DSp := fun ds S k => match ds with
  | [.int i] => k (.int i) S
  | [.bl b] => k (.int (if b then 1 else 0)) S
  | _ => False
theorem b_int : CallR X (.type "int") (upC X.K bInt) := by
  intro pins s σ H xs us Q I rs h
  obtain ⟨ds, S, k, i, hS, r, n⟩ := h
  unfold bInt at r
  split at r
  · obtain ⟨x, rfl, i1⟩ := isDs1 i
    have e1 := isInt.mp i1
    subst e1
    exact call_int1 pins s σ H _ us Q I rs (.inl ⟨_, rfl, up1 n hS r (isInt.mpr rfl)⟩)
  · obtain ⟨x, rfl, i1⟩ := isDs1 i
    have e1 := isBl.mp i1
    subst e1
    exact call_int1 pins s σ H _ us Q I rs (.inr ⟨_, rfl, up1 n hS r (isInt.mpr rfl)⟩)
  · exact r.elim
def bStr : DSp := fun ds S k => match ds with
  | [.int i] => i.natAbs.log2 < 1920 ∧ k (.str (toString i)) S
  | _ => False
def bList : DSp := fun ds S k => match ds with
  | [.tup xs] => ∀ p, S p = none → k (.ref p) (put S p (.lst xs))
  | [.ref a] => ∃ xs, S a = some (.lst xs) ∧ ∀ p, S p = none → k (.ref p) (put S p (.lst xs))
  | _ => False
def tyR : Option DO → Option Ty
  | some (.lst _) => some .lst
  | some .dic => some .dic
  | _ => none
def tyD (S : DH) : D → Option Ty
  | .non => some .non
  | .bl _ => some .bool
  | .int _ => some .int
  | .str _ => some .str
  | .tup _ => some .tup
  | .rl _ => none
  | .ref a => tyR (S a)
  | .ty _ => none
def subT : Ty → Ty → Bool
  | .non, .non => true | .bool, .bool => true | .bool, .int => true | .int, .int => true | .str, .str => true | .tup, .tup => true | .lst, .lst => true | .dic, .dic => true | .verr, .verr => true
  | _, _ => false
theorem kit_of {K : Fg} (t c : Ty) : PySem.W.kitOne K (.type t.name) (.type c.name) = some (subT t c) := by
  cases t <;> cases c <;> rfl
def bIsi : DSp := fun ds S k => match ds with
  | [d, .ty c] => (match tyD S d with
    | some t => k (.bl (subT t c)) S
    | none => False)
  | _ => False
def mBits : D1 := fun d S k => match d with
  | .int i => k (.int ((Builtin.Int.intBits i : Nat) : Int)) S
  | _ => False
theorem d_bits {o : Expr} {g : DE} {apos cpos : Pos} (ho : PE X o (up X.K g)) (hbase : attributeBase o "bit_length" X.env (eval o X.env) = eval o X.env := by rfl) (hline : (apos.endLine == cpos.line) = true := by rfl) :
    PE X (.Call (.Attribute o "bit_length" apos) [] [] cpos) (up X.K (dUn mBits g)) := by
  refine PE.imp (pe_bm0 PySem.F.plainAttrs_int PySem.F.slot_int_bit_length PySem.F.type_int_bit_length (r := fun x xs H Q => ∃ i, x = .int i ∧ xs = [] ∧ Q (.int ((Builtin.Int.intBits i : Nat) : Int)) H) ?_ ho hbase hline) fun σ H Q ⟨L, S, k, hL, hS, h, n⟩ => ?_
  · intro pins s σ H x xs v us Q I rx rs h
    obtain ⟨i, rfl, rfl, q⟩ := h
    obtain ⟨t, rfl⟩ := rx
    cases rs
    exact call_int_bit_length ⟨.int _, H, I.tok _, ⟨_, rfl⟩, q⟩
  · refine up.go hL hS h fun d S1 v H1 h1 k1 hL1 hS1 i1 => ?_
    cases d with
    | int i =>
      have e1 := isInt.mp i1
      subst e1
      exact ⟨rfl, i, rfl, rfl, n _ S1 _ H1 h1 k1 hS1 (isInt.mpr rfl)⟩
    | _ => exact (show False from h1).elim
def cutD (xs : List D) (lo hi : Option Int) : List D := (xs.drop (HT.sIx xs.length 0 lo)).take (HT.sIx xs.length xs.length hi - HT.sIx xs.length 0 lo)
abbrev DOp := Lo → DH → (Option Int → DH → Prop) → Prop
def upO (K : Fg) (g : DOp) : TO := fun σ H Q => ∃ L S k, Lc K H L σ ∧ Hs K H S ∧ g L S k ∧ ∀ i S' H', k i S' → Kp H H' → Hs K H' S' → Q i H'
def oNone : DOp := fun _ S k => k none S
def oSome (g : DE) : DOp := fun L S k => g L S fun d S1 => match d with
  | .int i => k (some i) S1
  | _ => False
theorem do_none : PO X none (upO X.K oNone) := by
  intro pins s σ H Q I h
  obtain ⟨L, S, k, hL, hS, h, n⟩ := h
  exact po_none pins s σ H Q I (n none S H h (Kp.refl H) hS)
theorem do_some {e : Expr} {g : DE} (he : PE X e (up X.K g)) : PO X (some e) (upO X.K (oSome g)) := by
  intro pins s σ H Q I h
  obtain ⟨L, S, k, hL, hS, h, n⟩ := h
  refine po_some he pins s σ H Q I (up.go hL hS h fun d S1 v H1 h1 k1 hL1 hS1 i1 => ?_)
  cases d with
  | int i =>
    have e1 := isInt.mp i1
    subst e1
    exact ⟨i, rfl, n (some i) S1 H1 h1 k1 hS1⟩
  | _ => exact (show False from h1).elim
def dCutT (g : DE) (tl th : DOp) : DE := fun L S k => g L S fun x S1 => tl L S1 fun lo S2 => th L S2 fun hi S3 => match x with
  | .tup xs => ¬ (HT.sIx xs.length 0 lo = 0 ∧ HT.sIx xs.length xs.length hi = xs.length) ∧ k (.tup (cutD xs lo hi)) S3
  | _ => False
def dDict0 : DE := fun _ S k => ∀ p, S p = none → k (.ref p) (put S p .dic)
end
end DL
namespace DL
open PySem PySem.Spec PyProof.Rows L2
section
variable {X : Cx} {st : Stmt} {rest : List Stmt} {g h : DS} {e : Expr} {ge : DE} {pos : Pos}
def dNext : DS := fun M L S => M.nx L S
def dSeq (g h : DS) : DS := fun M L S => g { M with nx := h M } L S
theorem ds_nil : PSs X [] (upS X.K dNext) := PSs.imp pss_nil fun N σ H ⟨L, S, M, hL, hS, h, r⟩ => r.nx L S σ H h (Kp.refl H) hL hS
theorem dSeq_go {K : Fg} : ∀ N σ H, upS K (dSeq g h) N σ H → tSeq (upS K g) (upS K h) N σ H := fun N σ H ⟨L, S, M, hL, hS, q, r⟩ =>
  ⟨L, S, { M with nx := h M }, hL, hS, q, ⟨fun L' S' σ' H' q' k' hL' hS' => ⟨L', S', M, hL', hS', q', r.kp k'⟩, r.rt, r.bk, r.ct⟩⟩
theorem ds_cons (h1 : PS X st (upS X.K g)) (h2 : PSs X rest (upS X.K h)) : PSs X (st :: rest) (upS X.K (dSeq g h)) := PSs.imp (pss_cons h1 h2) dSeq_go
theorem ds_one (h1 : PS X st (upS X.K g)) : PSs X [st] (upS X.K g) := pss_one h1
def dBreak : DS := fun M L S => M.bk L S
def dCont : DS := fun M L S => M.ct L S
def dDrop (ge : DE) : DS := fun M L S => ge L S fun _ S1 => M.nx L S1
theorem dst_expr (he : PE X e (up X.K ge)) (hs : swapsWith e none pos.line X.env = pure false := by rfl) : PS X (.Expr e pos) (upS X.K (dDrop ge)) :=
  PS.imp (ps_expr he hs) fun N σ H ⟨L, S, M, hL, hS, h, r⟩ => up.go hL hS h fun d S1 v H1 h1 k1 hL1 hS1 _ => r.nx L S1 σ H1 h1 k1 hL1 hS1
def dRet (ge : DE) : DS := fun M L S => ge L S M.rt
theorem dst_ret (he : PE X e (up X.K ge)) : PS X (.Return (some e) pos) (upS X.K (dRet ge)) :=
  PS.imp (ps_ret he) fun N σ H ⟨L, S, M, hL, hS, h, r⟩ => up.go hL hS h fun d S1 v H1 h1 k1 _ hS1 i1 => r.rt d S1 v H1 h1 k1 hS1 i1
def dRetN : DS := fun M _ S => M.rt .non S
def dIfS (c : DT) (g h : DS) : DS := fun M L S => c L S fun b S1 => if b = true then g M L S1 else h M L S1
theorem dst_if {c : Expr} {a b : List Stmt} {gc : DT} (hc : PT X c (upT X.K gc)) (ha : PSs X a (upS X.K g)) (hb : PSs X b (upS X.K h)) : PS X (.If c a b pos) (upS X.K (dIfS gc g h)) :=
  PS.imp (ps_if hc ha hb) fun N σ H ⟨L, S, M, hL, hS, q, r⟩ => upT.go hL hS q fun t S1 H1 h1 k1 hL1 hS1 => by
    cases t with
    | true =>
      rw [if_pos rfl] at h1 ⊢
      exact ⟨L, S1, M, hL1, hS1, h1, r.kp k1⟩
    | false =>
      rw [if_neg Bool.false_ne_true] at h1 ⊢
      exact ⟨L, S1, M, hL1, hS1, h1, r.kp k1⟩
def dNever : DS := fun _ _ _ => False
theorem dst_never : PS X st (upS X.K dNever) := PS.imp ps_never fun N σ H ⟨L, S, M, hL, hS, h, r⟩ => h.elim
def dSet (i : Nat) (ge : DE) : DS := fun M L S => ge L S fun d S1 => M.nx (L.set i (some d)) S1
theorem dst_set {i : Nat} {x : Str} {pos' : Pos} (hN : X.N.Nodup) (he : PE X e (up X.K ge)) (hi : X.N[i]? = some x := by rfl) (hx : Loc X.env.scope x := by first | exact Or.inl rfl | exact Or.inr rfl) (hs : swapsWith e (some (.Name x pos')) pos.line X.env = pure false := by rfl)
    (hf : X.fn x = true ∨ X.env.scope.names.lookup x = some .local := by first | exact .inl rfl | exact .inr rfl | assumption) : PS X (.Assign [.Name x pos'] e pos) (upS X.K (dSet i ge)) :=
  PS.imp (ps_set hN hi hx he hs hf) fun N σ H ⟨L, S, M, hL, hS, h, r⟩ => up.go hL hS h fun d S1 v H1 h1 k1 hL1 hS1 i1 => r.nx _ S1 _ H1 h1 k1 (hL1.set i1 i) hS1
def dPar (i j : Nat) (ta : DA) : DS := fun M L S => ta L S fun ds S1 => match ds with
  | [d, e] => M.nx ((L.set i (some d)).set j (some e)) S1
  | _ => False
theorem dst_par {i j : Nat} {x y : Str} {a b : Expr} {ta : DA} {px py pt : Pos} {kt k2 pt2} (hc : X.calm = true) (hN : X.N.Nodup) (hij : i ≠ j) (ha : PA X [a, b] (upA X.K ta)) (hi : X.N[i]? = some x := by rfl) (hj : X.N[j]? = some y := by rfl)
    (hx : X.env.scope.names.lookup x = some .local := by rfl) (hy : X.env.scope.names.lookup y = some .local := by rfl)
    (hw : swappedStores [.Tuple [.Name x px, .Name y py] kt pt] (.Tuple [a, b] k2 pt2) X.env = pure (some [x, y]) := by rfl)
    (hs : swapsWithSole [.Tuple [.Name x px, .Name y py] kt pt] (.Tuple [a, b] k2 pt2) pos.line X.env = pure false := by rfl) :
    PS X (.Assign [.Tuple [.Name x px, .Name y py] kt pt] (.Tuple [a, b] k2 pt2) pos) (upS X.K (dPar i j ta)) :=
  PS.imp (ps_par hc hN hi hj hij hx hy ha hw hs) fun N σ H ⟨L, S, M, hL, hS, h, r⟩ => upA.go hL hS h fun ds S1 vs H1 h1 k1 hL1 hS1 i1 => by
    split at h1
    · obtain ⟨v, u, rfl, j1, j2⟩ := isDs2 i1
      exact ⟨v, u, rfl, r.nx _ S1 _ H1 h1 k1 ((hL1.set j1 i).set j2 j) hS1⟩
    · exact h1.elim
abbrev DG := D → Lo → DH → (Lo → DH → Prop) → Prop
def upG (K : Fg) (g : DG) : TG := fun v σ H Q => ∃ d L S k, IsD K H d v ∧ Lc K H L σ ∧ Hs K H S ∧ g d L S k ∧ ∀ L' S' σ' H', k L' S' → Kp H H' → Lc K H' L' σ' → Hs K H' S' → Q σ' H'
theorem PG.imp {e : Expr} {t t' : TG} (h : PG X e t) (i : ∀ v σ H Q, t' v σ H Q → t v σ H Q) : PG X e t' := fun pins s σ H v u Q I rv q => h pins s σ H v u Q I rv (i v σ H Q q)
def dgName (i : Nat) : DG := fun d L S k => k (L.set i (some d)) S
theorem dg_name {i : Nat} {x : Str} (hN : X.N.Nodup) (hi : X.N[i]? = some x := by rfl) (hx : Loc X.env.scope x := by first | exact Or.inl rfl | exact Or.inr rfl) (hf : X.fn x = true ∨ X.env.scope.names.lookup x = some .local := by first | exact .inl rfl | exact .inr rfl | assumption) : PG X (.Name x pos) (upG X.K (dgName i)) :=
  PG.imp (pg_name hN hi hx hf) fun v σ H Q ⟨d, L, S, k, i1, hL, hS, h, n⟩ => n _ S _ H h (Kp.refl H) (hL.set i1 i) hS
abbrev DGs := List D → Lo → DH → (Lo → DH → Prop) → Prop
def upGs (K : Fg) (g : DGs) : TGs := fun v σ H Q => ∃ d L S k, IsDs K H d v ∧ Lc K H L σ ∧ Hs K H S ∧ g d L S k ∧ ∀ L' S' σ' H', k L' S' → Kp H H' → Lc K H' L' σ' → Hs K H' S' → Q σ' H'
theorem PGs.imp {e : List Expr} {t t' : TGs} (h : PGs X e t) (i : ∀ v σ H Q, t' v σ H Q → t v σ H Q) : PGs X e t' := fun pins s σ H v u Q I rv q => h pins s σ H v u Q I rv (i v σ H Q q)
def dgNil : DGs := fun ds L S k => ds = [] ∧ k L S
def dgCons (t : DG) (u : DGs) : DGs := fun ds L S k => match ds with
  | d :: r => t d L S fun L1 S1 => u r L1 S1 k
  | [] => False
theorem dgs_nil : PGs X [] (upGs X.K dgNil) := PGs.imp pgs_nil fun v σ H Q ⟨d, L, S, k, i1, hL, hS, h, n⟩ => by
  obtain ⟨rfl, h⟩ := h
  exact ⟨isNil.mp i1, n L S σ H h (Kp.refl H) hL hS⟩
theorem dgs_cons {es : List Expr} {t : DG} {u : DGs} (h1 : PG X e (upG X.K t)) (h2 : PGs X es (upGs X.K u)) (hs : (assignEach (e :: es) X.env).map (·.2) = assign e X.env :: (assignEach es X.env).map (·.2) := by rfl) : PGs X (e :: es) (upGs X.K (dgCons t u)) :=
  PGs.imp (pgs_cons h1 h2 hs) fun vs σ H Q ⟨ds, L, S, k, i1, hL, hS, h, n⟩ => by
    cases ds with
    | nil => exact (show False from h).elim
    | cons d r =>
      obtain ⟨v, vr, rfl, j1, j2⟩ := isCons.mp i1
      exact ⟨v, vr, rfl, d, L, S, _, j1, hL, hS, h, fun L1 S1 σ1 H1 q k1 hL1 hS1 => ⟨r, L1, S1, k, j2.kp k1, hL1, hS1, q, fun L' S' σ' H' q' k' => n L' S' σ' H' q' (k1.trans k')⟩⟩
def dgTup (n : Nat) (t : DGs) : DG := fun d L S k => match d with
  | .tup ds => ds.length = n ∧ t ds L S k
  | _ => False
def dgSub (go gi : DE) : DG := fun d L S k => go L S fun o S1 => gi L S1 fun i S2 => match o, i with
  | .ref a, .int j => (match S2 a with
    | some (.lst ds) => (match ixN ds.length j with
      | some n => k L (put S2 a (.lst (ds.set n d)))
      | none => False)
    | _ => False)
  | _, _ => False
def dAsg (ge : DE) (g : DG) : DS := fun M L S => ge L S fun d S1 => g d L S1 M.nx
theorem dst_asg {tg e : Expr} {g : DG} (he : PE X e (up X.K ge)) (hg : PG X tg (upG X.K g)) (hs : swapsWithSole [tg] e pos.line X.env = pure false := by rfl) (hw : swappedStores [tg] e X.env = pure none := by rfl)
    (h1 : (assignEach [tg] X.env).map (·.2) = [assign tg X.env] := by rfl) : PS X (.Assign [tg] e pos) (upS X.K (dAsg ge g)) :=
  PS.imp (ps_asg he hg hs hw h1) fun N σ H ⟨L, S, M, hL, hS, h, r⟩ => up.go hL hS h fun d S1 v H1 h1 k1 hL1 hS1 i1 =>
    ⟨d, L, S1, M.nx, i1, hL1, hS1, h1, fun L' S' σ' H' q k' hL' hS' => r.nx L' S' σ' H' q (k1.trans k') hL' hS'⟩
def dWhile (c : DT) (b : DS) : DS := fun M L S => ∃ W : Nat → Lo → DH → Prop, (∃ m, W m L S) ∧ ∀ m L S, W m L S →
  c L S fun t S1 => if t = true then ∃ N : Lo → DH → Prop, (∀ L' S', N L' S' → ∃ m', m' < m ∧ W m' L' S') ∧ b { M with nx := N, ct := N, bk := M.nx } L S1 else M.nx L S1
theorem dst_while {c : Expr} {body : List Stmt} {gc : DT} (hp : PassesOwn (model X.prog X.w) X.A X.env X.xe) (hc : PT X c (upT X.K gc)) (hb : PSs X body (upS X.K g)) : PS X (.While c body [] pos) (upS X.K (dWhile gc g)) :=
  PS.imp (ps_while hp hc hb) fun N σ H ⟨L, S, M, hL, hS, ⟨W, ⟨m0, w0⟩, turn⟩, r⟩ => by
    refine ⟨fun m σ H1 => ∃ L S, Lc X.K H1 L σ ∧ Hs X.K H1 S ∧ W m L S ∧ Kp H H1, ⟨m0, L, S, hL, hS, w0, Kp.refl H⟩, ?_⟩
    rintro m σ1 H1 ⟨L1, S1, hL1, hS1, w1, k1⟩
    refine upT.go hL1 hS1 (turn m L1 S1 w1) fun t S2 H2 h2 k2 hL2 hS2 => ?_
    cases t with
    | true =>
      rw [if_pos rfl] at h2 ⊢
      obtain ⟨N', hN, hb⟩ := h2
      refine ⟨fun σ' H' => ∃ L' S', Lc X.K H' L' σ' ∧ Hs X.K H' S' ∧ N' L' S' ∧ Kp H H', ?_, L1, S2, _, hL2, hS2, hb, ?_⟩
      · rintro σ' H' ⟨L', S', hL', hS', n', k'⟩
        obtain ⟨m', hm, w'⟩ := hN L' S' n'
        exact ⟨m', hm, L', S', hL', hS', w', k'⟩
      · have r2 := r.kp (k1.trans k2)
        exact ⟨fun L' S' σ' H' n' k' hL' hS' => ⟨L', S', hL', hS', n', (k1.trans k2).trans k'⟩, r2.rt, r2.nx, fun L' S' σ' H' n' k' hL' hS' => ⟨L', S', hL', hS', n', (k1.trans k2).trans k'⟩⟩
    | false =>
      rw [if_neg Bool.false_ne_true] at h2 ⊢
      exact (r.kp (k1.trans k2)).nx L1 S2 σ1 H2 h2 (Kp.refl H2) hL2 hS2
def dLoop (ok : DH → Prop) (g : DG) (b : DS) (M : DEnds) : List D → Lo → DH → Prop
  | [], L, S => ok S ∧ M.nx L S
  | d :: r, L, S => ok S ∧ g d L S fun L1 S1 => b { M with nx := fun L2 S2 => dLoop ok g b M r L2 S2, ct := fun L2 S2 => dLoop ok g b M r L2 S2, bk := M.nx } L1 S1
theorem for_core {K : Fg} {ok : DH → Prop} {gg : DG} {b : DS} {M : DEnds} {ds : List D} {L : Lo} {S : DH} {N : Ends} {σ : L2.St} {H : Hp} {J : It} (hL : Lc K H L σ) (hS : Hs K H S) (h : dLoop ok gg b M ds L S) (r : Rch K H M N)
    (hgo : ∀ i d S1 H1, ds[i]? = some d → Kp H H1 → Hs K H1 S1 → ok S1 → J.go i H1 ∧ ∀ x H', J.yld i H1 x H' → H' = H1 ∧ IsD K H1 d x)
    (hst : ∀ S1 H1, Kp H H1 → Hs K H1 S1 → ok S1 → J.stop ds.length H1) :
    ∃ W : Nat → Nat → L2.St → Hp → Prop, (∃ m, W 0 m σ H) ∧ ∀ i m σ H, W i m σ H →
      (J.stop i H ∧ N.nx σ H) ∨ (J.go i H ∧ ∃ N' : L2.St → Hp → Prop, (∀ σ' H', N' σ' H' → ∃ m', m' < m ∧ W (i + 1) m' σ' H') ∧ ∀ x H', J.yld i H x H' → upG K gg x σ H' fun σ2 H2 => upS K b { N with nx := N', ct := N', bk := N.nx } σ2 H2) := by
  refine ⟨fun i m σ1 H1 => m = ds.length - i ∧ i ≤ ds.length ∧ ∃ L1 S1, Lc K H1 L1 σ1 ∧ Hs K H1 S1 ∧ Kp H H1 ∧ dLoop ok gg b M (ds.drop i) L1 S1, ⟨ds.length, by simp, Nat.zero_le _, L, S, hL, hS, Kp.refl H, h⟩, ?_⟩
  rintro i m σ1 H1 ⟨rfl, hi, L1, S1, hL1, hS1, k1, w1⟩
  by_cases hlt : i < ds.length
  · have e : ds.drop i = ds[i] :: ds.drop (i + 1) := List.drop_eq_getElem_cons hlt
    rw [e] at w1
    obtain ⟨o1, w1⟩ := w1
    obtain ⟨g1, y1⟩ := hgo i ds[i] S1 H1 (by simp [hlt]) k1 hS1 o1
    refine .inr ⟨g1, fun σ' H' => i + 1 ≤ ds.length ∧ ∃ L' S', Lc K H' L' σ' ∧ Hs K H' S' ∧ Kp H H' ∧ dLoop ok gg b M (ds.drop (i + 1)) L' S', fun σ' H' ⟨q1, q2⟩ => ⟨ds.length - (i + 1), by omega, rfl, q1, q2⟩, fun x H' y => ?_⟩
    obtain ⟨rfl, ix⟩ := y1 x H' y
    refine ⟨ds[i], L1, S1, _, ix, hL1, hS1, w1, fun L2 S2 σ2 H2 q k2 hL2 hS2 => ⟨L2, S2, _, hL2, hS2, q, ?_⟩⟩
    have r2 := r.kp (k1.trans k2)
    exact ⟨fun L3 S3 σ3 H3 q3 k3 hL3 hS3 => ⟨hlt, L3, S3, hL3, hS3, (k1.trans k2).trans k3, q3⟩, r2.rt, r2.nx, fun L3 S3 σ3 H3 q3 k3 hL3 hS3 => ⟨hlt, L3, S3, hL3, hS3, (k1.trans k2).trans k3, q3⟩⟩
  · have e : i = ds.length := by omega
    subst e
    rw [List.drop_length] at w1
    obtain ⟨o1, w1⟩ := w1
    exact .inl ⟨hst S1 H1 k1 hS1 o1, r.nx L1 S1 σ1 H1 w1 k1 hL1 hS1⟩
def dItems (S : DH) : D → Option (List D × Option Addr)
  | .tup ds => some (ds, none)
  | .rl ds => some (ds, none)
  | .ref a => (match S a with
    | some (.lst ds) => some (ds, some a)
    | _ => none)
  | _ => none
def okFor : List D × Option Addr → DH → Prop
  | (_, none) => fun _ => True
  | (ds, some a) => fun S => S a = some (.lst ds)
def dFor (gi : DE) (g : DG) (b : DS) : DS := fun M L S => gi L S fun d S1 => match dItems S1 d with
  | some p => dLoop (okFor p) g b M p.1 L S1
  | none => False
def iSeq (K : Fg) (t : TE) : TI := fun σ H R => t σ H fun x H1 => ∃ a, x = .ref a ∧ (((∃ xs, SqL K H1 a xs) ∧ R (Itl K a) H1) ∨ ((∃ xs, SqT K H1 a xs) ∧ R (Itt K a) H1))
theorem pi_seq {tg l : Expr} {tl : TE} (hl : PE X l tl) : PI X tg l (iSeq X.K tl) := by
  intro pins s σ H R I h
  refine thn (hl pins s σ H _ I h) fun v s1 ⟨x, H1, I1, r1, q1⟩ => ?_
  obtain ⟨a, e, q1⟩ := q1
  subst e
  cases r1
  rcases q1 with ⟨⟨xs, hq⟩, q⟩ | ⟨⟨xs, hq⟩, q⟩
  · obtain ⟨its, rv, p, hz⟩ := I1.list hq
    refine wpAny_pyIter_list p.isList ?_
    refine ⟨s1.heap.objs.size, [s1.heap.objs.size], _, _, H1, rfl, I1.kept (t' := s1.toks) fun b o e => Heap.get?_push_of_some _ e, turn_list a _, ⟨_, Heap.get?_push_size _ rfl, rfl, rfl⟩, fun b hb => ?_, q⟩
    have e : b = s1.heap.objs.size := by simpa using hb
    subst e
    exact I1.fpOk (Nat.le_refl _) (I1.hok.fresh (Nat.le_refl _))
  · obtain ⟨its, rv, p, hz⟩ := I1.tuple hq
    refine wpAny_pyIter_tuple (show s1.heap.IsTuple a its.toArray from p) ?_
    refine ⟨s1.heap.objs.size, [s1.heap.objs.size], _, _, H1, rfl, I1.kept (t' := s1.toks) fun b o e => Heap.get?_push_of_some _ e, turn_tuple a _, ⟨_, Heap.get?_push_size _ rfl, rfl, rfl⟩, fun b hb => ?_, q⟩
    have e : b = s1.heap.objs.size := by simpa using hb
    subst e
    exact I1.fpOk (Nat.le_refl _) (I1.hok.fresh (Nat.le_refl _))
def dForR (ta : DA) (g : DG) (b : DS) : DS := fun M L S => ta L S fun ds S1 => match ds with
  | [.int n] => (-(2 ^ 62) ≤ n ∧ n < 2 ^ 62) ∧ dLoop (fun _ => True) g b M ((List.range n.toNat).map fun i => D.int (i : Nat)) L S1
  | _ => False
theorem dst_forR {tg a : Expr} {body : List Stmt} {ta : DA} {gg : DG} {p pos' : Pos} (hp : PassesOwn (model X.prog X.w) X.A X.env X.xe) (hc : X.calm = true) (hgl : Gl X "range") (hm : X.mg "range" = none) (ha : PA X [a] (upA X.K ta)) (hg : PG X tg (upG X.K gg)) (hb : PSs X body (upS X.K g))
    (hs1 : starEach [a] X.env = [(false, eval a X.env)] := by rfl) (hs : ∀ x, foldedSetIterable (.Call (.Name "range" p) [a] [] pos') X.env x = pure x := by intro _; rfl) : PS X (.For tg (.Call (.Name "range" p) [a] [] pos') body [] pos) (upS X.K (dForR ta gg g)) :=
  PS.imp (ps_for hp hc (pi_range1 hgl hm ha hs1) hg hb hs) fun N σ H ⟨L, S, M, hL, hS, h, r⟩ => upA.go hL hS h fun ds S1 vs H1 h1 k1 hL1 hS1 i1 => by
    split at h1
    · obtain ⟨v, rfl, j⟩ := isDs1 i1
      have e := isInt.mp j
      subst e
      obtain ⟨⟨h2, h3⟩, h1⟩ := h1
      refine ⟨_, rfl, h2, h3, for_core hL1 hS1 h1 (r.kp k1) (fun i d S2 H2 e k2 hS2 _ => ?_) fun S2 H2 k2 hS2 _ => ?_⟩
      · rw [List.getElem?_map] at e
        cases q : (List.range (Int.toNat _))[i]? with
        | none => rw [q] at e; cases e
        | some z =>
          rw [q] at e
          cases e
          have hz := List.getElem?_eq_some_iff.mp q
          obtain ⟨hz1, hz2⟩ := hz
          rw [List.length_range] at hz1
          rw [List.getElem_range] at hz2
          subst hz2
          exact ⟨hz1, fun x H' y => ⟨y.1, by rw [y.2]; exact isInt.mpr (by rw [Int.zero_add])⟩⟩
      · rw [List.length_map, List.length_range]
        exact Nat.le_refl _
    · exact h1.elim
end
section
variable {P : Program} {w : World} {K : Fg} {mg : Str → Option Value} {base : Heap}
theorem _root_.L2.Fun.okD {x qual : Str} {st : Stmt} {f : Addr} {fd : FuncData} {N ps : List Str} {k : Nat} {F : DSp} (Fn : Fun K x qual st f fd) (Sc : FnScope N ps (defScope st)) (len : ∀ ds S k, F ds S k → ds.length = ps.length)
    (hbody : ∀ (cdv : Value) (A : Around) (outer : List Env) (s : Shared) (H : Hp) (E : XK), Room k (A.deeper (envOfC qual (defScope st) s.heap.objs.size f cdv)) →
      ∃ g, PSs (cxOf CX0 P w K mg base N qual (defScope st) f cdv A outer s H E).nox (defBody st) (upS K g) ∧
        ∀ ds S k, F ds S k → g { nx := fun _ S' => k .non S', rt := k } (ds.map some ++ List.replicate (N.length - ps.length) none) S) : FnOk P w K mg base CX0 (k + 1) f fd ps (spU K F) := by
  refine Fn.ok Sc (fun vs H Q E h => ?_) (fun cdv A outer s H vs Q E hr h => ?_)
  · obtain ⟨ds, S, k, i, _, q, _⟩ := h
    rw [← i.length]
    exact len ds S k q
  · obtain ⟨g, hg, q⟩ := hbody cdv A outer s H E hr
    obtain ⟨ds, S, k', i, hS, h, n⟩ := h
    refine ⟨_, hg, ds.map some ++ List.replicate (N.length - ps.length) none, S, _, ?_, hS, q ds S k' h, ?_⟩
    · unfold L2.start
      rw [← i.length, len ds S k' h]
      exact Lc.start _ i
    · exact ⟨fun L S' σ H' h1 k1 _ hS' => n _ S' _ H' h1 k1 hS' (isNon.mpr rfl), fun d S' v H' h1 k1 hS' i1 => n d S' v H' h1 k1 hS' i1, fun _ _ _ _ h1 => h1.elim, fun _ _ _ _ h1 => h1.elim⟩
theorem Own.mk' {x qual : Str} {st : Stmt} {f : Addr} {fd : FuncData} {ps : List Str} {n : Nat} {F : DSp} (Fn : Fun K x qual st f fd) (h : FnOk P w K mg base CX0 n f fd ps (spU K F)) (hm : mg x = some (.ref f)) (hb : Binds K fd ps []) : Own P w K mg base x n F :=
  ⟨f, fd, ps, h, hm, Fn.kp, hb⟩
end
end DL
namespace DL
open PySem PySem.Spec PyProof.Rows L2 HM
theorem mok {m n : Nat} {x y : Int} (hx : Bt m x) (hy : Bt n y) (h : m + n ≤ 134217728 := by decide) : IntMulOk x y := IntMulOk.of_le (intBits_le_iff.mpr hx) (intBits_le_iff.mpr hy) h
theorem dok {m : Nat} {y : Int} (h0 : y ≠ 0) (hy : Bt m y) (h : m ≤ 9000 := by decide) : CDivB x y := ⟨h0, (Nat.log2_lt (by omega)).mpr (hy.mono h)⟩
def pr (a b : Int) : D := .tup [.int a, .int b]
def fr (q : Rat) : D := pr q.num (q.den : Int)
end DL
namespace DL
theorem atI0 {x : D} {r : List D} : L2.atI (x :: r) 0 = some x := L2.atI_nat (j := 0) rfl
theorem atI1 {x y : D} {r : List D} : L2.atI (x :: y :: r) 1 = some y := L2.atI_nat (j := 1) rfl
theorem atI2 {x y z : D} {r : List D} : L2.atI (x :: y :: z :: r) 2 = some z := L2.atI_nat (j := 2) rfl
theorem atI3 {x y z u : D} {r : List D} : L2.atI (x :: y :: z :: u :: r) 3 = some u := L2.atI_nat (j := 3) rfl
theorem ixN0 {n : Nat} : L2.ixN (n + 1) 0 = some 0 := by
  unfold L2.ixN
  rw [if_pos (by decide), if_pos (by omega)]
  rfl
end DL
namespace DL
open PySem PySem.Spec PyProof.Rows L2
def eqS : D → D → Option Bool
  | .int i, .int j => some (i == j)
  | .bl i, .bl j => some (i == j)
  | .str i, .str j => some (i == j)
  | .non, .non => some true
  | .non, .int _ => some false
  | .int _, .non => some false
  | .non, .bl _ => some false
  | .bl _, .non => some false
  | .bl a, .int j => some ((if a then 1 else 0) == j)
  | .int i, .bl b => some (i == (if b then 1 else 0))
  | _, _ => none
def eqTs (f : D → D → Option Bool) : List D → List D → Option Bool
  | [], [] => some true
  | [], _ :: _ => some false
  | _ :: _, [] => some false
  | x :: xs, y :: ys => match f x y, eqTs f xs ys with
    | some a, some b => some (a && b)
    | _, _ => none
def eqT : Nat → D → D → Option Bool
  | 0, d, e => eqS d e
  | n + 1, .tup xs, .tup ys => eqTs (eqT n) xs ys
  | _ + 1, d, e => eqS d e
theorem eqT_succ (n : Nat) (d e : D) : eqT (n + 1) d e = (match d, e with | .tup xs, .tup ys => eqTs (eqT n) xs ys | d, e => eqS d e) := by
  cases d <;> cases e <;> rfl
def eqAts (f : D → D → Option Bool) : List D → List D → Nat → Bool
  | x :: _, y :: _, 0 => (f x y).getD false
  | _ :: xs, _ :: ys, j + 1 => eqAts f xs ys j
  | _, _, _ => false
theorem all_succ (e : Nat → Bool) (m : Nat) : (List.range (m + 1)).all e = (e 0 && (List.range m).all fun j => e (j + 1)) := by
  rw [List.range_succ_eq_map, List.all_cons, List.all_map]
  rfl
theorem eqTs_all {f : D → D → Option Bool} : ∀ {xs ys : List D} {b : Bool}, eqTs f xs ys = some b → ((List.range (min xs.length ys.length)).all (eqAts f xs ys) && xs.length == ys.length) = b
  | [], [], b, h => by unfold eqTs at h; cases h; rfl
  | [], _ :: _, b, h => by unfold eqTs at h; cases h; simp
  | _ :: _, [], b, h => by unfold eqTs at h; cases h; simp
  | x :: xs, y :: ys, b, h => by
    unfold eqTs at h
    split at h
    · rename_i a c e1 e2
      cases h
      have ih := eqTs_all e2
      rw [List.length_cons, List.length_cons, Nat.succ_min_succ, all_succ]
      have e3 : eqAts f (x :: xs) (y :: ys) 0 = a := by unfold eqAts; rw [e1]; rfl
      rw [e3, Bool.and_assoc]
      have e4 : (fun j => eqAts f (x :: xs) (y :: ys) (j + 1)) = eqAts f xs ys := by funext j; rfl
      rw [e4]
      have e5 : (xs.length + 1 == ys.length + 1) = (xs.length == ys.length) := by simp
      rw [e5, ih]
    · cases h
theorem eqTs_at {f : D → D → Option Bool} : ∀ {xs ys : List D} {b : Bool} {j : Nat} {x y : D}, eqTs f xs ys = some b → xs[j]? = some x → ys[j]? = some y → f x y = some (eqAts f xs ys j)
  | [], _, _, _, _, _, _, e, _ => by simp at e
  | _ :: _, [], _, _, _, _, _, _, e => by simp at e
  | x :: xs, y :: ys, b, 0, x', y', h, e1, e2 => by
    simp at e1 e2
    subst e1; subst e2
    unfold eqTs at h
    split at h
    · rename_i a c q1 q2
      unfold eqAts
      rw [q1]
      rfl
    · cases h
  | x :: xs, y :: ys, b, j + 1, x', y', h, e1, e2 => by
    unfold eqTs at h
    split at h
    · rename_i a c q1 q2
      unfold eqAts
      exact eqTs_at q2 (by simpa using e1) (by simpa using e2)
    · cases h
section
variable {X : Cx} {pins : List (Addr × Obj)} {σ : L2.St} {H : Hp} {s : Shared}
theorem pair_at {K : Fg} {ds es : List D} {xs ys : List V} {us ws : List Value} {j : Nat} (i1 : IsDs K H ds xs) (i2 : IsDs K H es ys) (r1 : Vals xs us) (r2 : Vals ys ws) (h1 : j < us.length) (h2 : j < ws.length) :
    ∃ d e x y, ds[j]? = some d ∧ es[j]? = some e ∧ IsD K H d x ∧ IsD K H e y ∧ RelV x us[j] ∧ RelV y ws[j] := by
  have l1 := i1.length
  have l2 := i2.length
  have l3 := r1.length
  have l4 := r2.length
  have e1 : ds[j]? = some ds[j] := by simp [show j < ds.length by omega]
  have e2 : es[j]? = some es[j] := by simp [show j < es.length by omega]
  obtain ⟨x, q1, d1⟩ := i1.get e1
  obtain ⟨y, q2, d2⟩ := i2.get e2
  obtain ⟨u, q3, rx⟩ := r1.get q1
  obtain ⟨w, q4, ry⟩ := r2.get q2
  have f1 : us[j] = u := (List.getElem?_eq_some_iff.mp q3).2
  have f2 : ws[j] = w := (List.getElem?_eq_some_iff.mp q4).2
  exact ⟨_, _, x, y, e1, e2, d1, d2, by rw [f1]; exact rx, by rw [f2]; exact ry⟩
theorem eqS_at {K : Fg} {A : Around} {d e : D} {x y : V} {u w : Value} {b : Bool} (h : eqS d e = some b) (i1 : IsD K H d x) (i2 : IsD K H e y) (rx : RelV x u) (ry : RelV y w) : SeqAt.EqAt A s u w b ∧ SeqAt.RcAt A s u w b := by
  unfold eqS at h
  split at h
  · cases h; rw [isInt.mp i1] at rx; rw [isInt.mp i2] at ry; obtain ⟨t, rfl⟩ := rx; obtain ⟨t', rfl⟩ := ry; exact ⟨(SeqAt.EqAt.int_int _ _ _ _), (SeqAt.RcAt.int_int _ _ _ _)⟩
  · cases h; rw [isBl.mp i1] at rx; rw [isBl.mp i2] at ry; cases rx; cases ry; exact ⟨(SeqAt.EqAt.bool_bool _ _), (SeqAt.RcAt.bool_bool _ _)⟩
  · cases h; rw [isStr.mp i1] at rx; rw [isStr.mp i2] at ry; obtain ⟨t, rfl⟩ := rx; obtain ⟨t', rfl⟩ := ry; exact ⟨(SeqAt.EqAt.str_str _ _ _ _), (SeqAt.RcAt.str_str _ _ _ _)⟩
  · cases h; rw [isNon.mp i1] at rx; rw [isNon.mp i2] at ry; cases rx; cases ry; exact ⟨SeqAt.EqAt.same _, SeqAt.RcAt.none_none⟩
  · cases h; rw [isNon.mp i1] at rx; rw [isInt.mp i2] at ry; cases rx; obtain ⟨t', rfl⟩ := ry; exact ⟨(SeqAt.EqAt.none_int _ _), (SeqAt.RcAt.none_int _ _)⟩
  · cases h; rw [isInt.mp i1] at rx; rw [isNon.mp i2] at ry; obtain ⟨t, rfl⟩ := rx; cases ry; exact ⟨(SeqAt.EqAt.int_none _ _), (SeqAt.RcAt.int_none _ _)⟩
  · cases h; rw [isNon.mp i1] at rx; rw [isBl.mp i2] at ry; cases rx; cases ry; exact ⟨(SeqAt.EqAt.none_bool _), (SeqAt.RcAt.none_bool _)⟩
  · cases h; rw [isBl.mp i1] at rx; rw [isNon.mp i2] at ry; cases rx; cases ry; exact ⟨(SeqAt.EqAt.bool_none _), (SeqAt.RcAt.bool_none _)⟩
  · cases h; rw [isBl.mp i1] at rx; rw [isInt.mp i2] at ry; cases rx; obtain ⟨t', rfl⟩ := ry; exact ⟨(SeqAt.EqAt.bool_int _ _ _), (SeqAt.RcAt.bool_int _ _ _)⟩
  · cases h; rw [isInt.mp i1] at rx; rw [isBl.mp i2] at ry; obtain ⟨t, rfl⟩ := rx; cases ry; exact ⟨(SeqAt.EqAt.int_bool _ _ _), (SeqAt.RcAt.int_bool _ _ _)⟩
  · cases h
theorem eqS_same {K : Fg} {d e : D} {x : V} {b : Bool} (h : eqS d e = some b) (i1 : IsD K H d x) (i2 : IsD K H e x) : b = true := by
  unfold eqS at h
  split at h
  · cases h; have e1 := isInt.mp i1; have e2 := isInt.mp i2; rw [e1] at e2; cases e2; simp
  · cases h; have e1 := isBl.mp i1; have e2 := isBl.mp i2; rw [e1] at e2; cases e2; simp
  · cases h; have e1 := isStr.mp i1; have e2 := isStr.mp i2; rw [e1] at e2; cases e2; simp
  · cases h; rfl
  · have e1 := isNon.mp i1; have e2 := isInt.mp i2; rw [e1] at e2; cases e2
  · have e1 := isInt.mp i1; have e2 := isNon.mp i2; rw [e1] at e2; cases e2
  · have e1 := isNon.mp i1; have e2 := isBl.mp i2; rw [e1] at e2; cases e2
  · have e1 := isBl.mp i1; have e2 := isNon.mp i2; rw [e1] at e2; cases e2
  · have e1 := isBl.mp i1; have e2 := isInt.mp i2; rw [e1] at e2; cases e2
  · have e1 := isInt.mp i1; have e2 := isBl.mp i2; rw [e1] at e2; cases e2
  · cases h
theorem eqTs_same {K : Fg} {f : D → D → Option Bool} (hf : ∀ d e x b, f d e = some b → IsD K H d x → IsD K H e x → b = true) : ∀ {ds es : List D} {xs : List V} {b : Bool}, eqTs f ds es = some b → IsDs K H ds xs → IsDs K H es xs → b = true
  | [], [], _, _, h, _, _ => by unfold eqTs at h; cases h; rfl
  | [], _ :: _, _, _, _, i1, i2 => by
    have e1 := isNil.mp i1
    obtain ⟨v, r, e2, _⟩ := isCons.mp i2
    rw [e1] at e2; cases e2
  | _ :: _, [], _, _, _, i1, i2 => by
    have e1 := isNil.mp i2
    obtain ⟨v, r, e2, _⟩ := isCons.mp i1
    rw [e1] at e2; cases e2
  | d :: ds, e :: es, xs, b, h, i1, i2 => by
    obtain ⟨v, r, e1, h1, h2⟩ := isCons.mp i1
    obtain ⟨v', r', e2, h3, h4⟩ := isCons.mp i2
    rw [e1] at e2
    cases e2
    unfold eqTs at h
    split at h
    · rename_i a c q1 q2
      cases h
      rw [hf _ _ _ _ q1 h1 h3, eqTs_same hf q2 h2 h4]
      rfl
    · cases h
theorem eqT_same (I : Inv X pins σ H s) : ∀ (n : Nat) (d e : D) (x : V) (b : Bool), eqT n d e = some b → IsD X.K H d x → IsD X.K H e x → b = true
  | 0, d, e, x, b, h, i1, i2 => eqS_same (by unfold eqT at h; exact h) i1 i2
  | n + 1, d, e, x, b, h, i1, i2 => by
    rw [eqT_succ] at h
    split at h
    · rename_i xs ys
      obtain ⟨a, vs, e1, t1, j1⟩ := isTup.mp i1
      obtain ⟨a', vs', e2, t2, j2⟩ := isTup.mp i2
      rw [e1] at e2
      cases e2
      have q := I.tuple_inj t1 t2
      subst q
      exact eqTs_same (fun d e x b => eqT_same I n d e x b) h j1 j2
    · exact eqS_same h i1 i2
theorem eqT_at (I : Inv X pins σ H s) : ∀ (n : Nat) (A : Around) (d e : D) (x y : V) (u w : Value) (b : Bool), A.units + n < cLine → eqT n d e = some b → IsD X.K H d x → IsD X.K H e y → RelV x u → RelV y w → SeqAt.EqAt A s u w b ∧ SeqAt.RcAt A s u w b
  | 0, A, d, e, x, y, u, w, b, hu, h, i1, i2, rx, ry => eqS_at (by unfold eqT at h; exact h) i1 i2 rx ry
  | n + 1, A, d, e, x, y, u, w, b, hu, h, i1, i2, rx, ry => by
    have h0 := h
    rw [eqT_succ] at h
    split at h
    · rename_i xs ys
      obtain ⟨p, vs, rfl, t1, j1⟩ := isTup.mp i1
      obtain ⟨q, vs', rfl, t2, j2⟩ := isTup.mp i2
      cases rx
      cases ry
      obtain ⟨us, r1, p1, _⟩ := I.tuple t1
      obtain ⟨ws, r2, p2, _⟩ := I.tuple t2
      have l1 := j1.length
      have l2 := j2.length
      have l3 := r1.length
      have l4 := r2.length
      have rc : SeqAt.RcAt A s (.ref p) (.ref q) b := by
        have e := eqTs_all h
        have z := SeqAt.RcAt.tuples (A := A) (s := s) (items := us.toArray) (items2 := ws.toArray) (e := eqAts (eqT n) xs ys) (show s.heap.IsTuple p us.toArray from p1) (show s.heap.IsTuple q ws.toArray from p2) (by omega) (fun j h1 h2 => by
          simp only [List.size_toArray] at h1 h2
          obtain ⟨d, e, x, y, q1, q2, d1, d2, rx, ry⟩ := pair_at j1 j2 r1 r2 h1 h2
          have := (eqT_at I n A.in1 d e x y us[j] ws[j] _ (by show A.units + 1 + n < cLine; omega) (eqTs_at h q1 q2) d1 d2 rx ry).1
          simpa using this)
        simp only [List.size_toArray] at z
        rw [← l3, ← l4, ← l1, ← l2, e] at z
        exact z
      refine ⟨?_, rc⟩
      by_cases hpq : p = q
      · subst hpq
        have := eqT_same I (n + 1) _ _ _ _ h0 i1 i2
        subst this
        exact SeqAt.EqAt.same _
      · exact SeqAt.EqAt.of_refs hpq rc
    · exact eqS_at h i1 i2 rx ry
theorem eqS_ne {K : Fg} {A : Around} {d e : D} {x y : V} {u w : Value} {b : Bool} (h : eqS d e = some b) (i1 : IsD K H d x) (i2 : IsD K H e y) (rx : RelV x u) (ry : RelV y w) : SeqAt.RcNeAt A s u w (!b) := by
  unfold eqS at h
  split at h
  · cases h; rw [isInt.mp i1] at rx; rw [isInt.mp i2] at ry; obtain ⟨t, rfl⟩ := rx; obtain ⟨t', rfl⟩ := ry; exact (SeqAt.RcNeAt.int_int _ _ _ _)
  · cases h; rw [isBl.mp i1] at rx; rw [isBl.mp i2] at ry; cases rx; cases ry; exact (SeqAt.RcNeAt.bool_bool _ _)
  · cases h; rw [isStr.mp i1] at rx; rw [isStr.mp i2] at ry; obtain ⟨t, rfl⟩ := rx; obtain ⟨t', rfl⟩ := ry; exact (SeqAt.RcNeAt.str_str _ _ _ _)
  · cases h; rw [isNon.mp i1] at rx; rw [isNon.mp i2] at ry; cases rx; cases ry; exact SeqAt.RcNeAt.none_none
  · cases h; rw [isNon.mp i1] at rx; rw [isInt.mp i2] at ry; cases rx; obtain ⟨t', rfl⟩ := ry; exact (SeqAt.RcNeAt.none_int _ _)
  · cases h; rw [isInt.mp i1] at rx; rw [isNon.mp i2] at ry; obtain ⟨t, rfl⟩ := rx; cases ry; exact (SeqAt.RcNeAt.int_none _ _)
  · cases h; rw [isNon.mp i1] at rx; rw [isBl.mp i2] at ry; cases rx; cases ry; exact (SeqAt.RcNeAt.none_bool _)
  · cases h; rw [isBl.mp i1] at rx; rw [isNon.mp i2] at ry; cases rx; cases ry; exact (SeqAt.RcNeAt.bool_none _)
  · cases h; rw [isBl.mp i1] at rx; rw [isInt.mp i2] at ry; cases rx; obtain ⟨t', rfl⟩ := ry; exact (SeqAt.RcNeAt.bool_int _ _ _)
  · cases h; rw [isInt.mp i1] at rx; rw [isBl.mp i2] at ry; obtain ⟨t, rfl⟩ := rx; cases ry; exact (SeqAt.RcNeAt.int_bool _ _ _)
  · cases h
theorem eqT_ne (I : Inv X pins σ H s) (n : Nat) (A : Around) (d e : D) (x y : V) (u w : Value) (b : Bool) (hu : A.units + n < cLine) (h : eqT n d e = some b) (i1 : IsD X.K H d x) (i2 : IsD X.K H e y) (rx : RelV x u) (ry : RelV y w) : SeqAt.RcNeAt A s u w (!b) := by
  cases n with
  | zero => exact eqS_ne (by unfold eqT at h; exact h) i1 i2 rx ry
  | succ n =>
    rw [eqT_succ] at h
    split at h
    · rename_i xs ys
      obtain ⟨p, vs, rfl, t1, j1⟩ := isTup.mp i1
      obtain ⟨q, vs', rfl, t2, j2⟩ := isTup.mp i2
      cases rx
      cases ry
      obtain ⟨us, r1, p1, _⟩ := I.tuple t1
      obtain ⟨ws, r2, p2, _⟩ := I.tuple t2
      have l1 := j1.length
      have l2 := j2.length
      have l3 := r1.length
      have l4 := r2.length
      have e := eqTs_all h
      have z := SeqAt.RcNeAt.tuples (A := A) (s := s) (items := us.toArray) (items2 := ws.toArray) (e := eqAts (eqT n) xs ys) (show s.heap.IsTuple p us.toArray from p1) (show s.heap.IsTuple q ws.toArray from p2) (by omega) (fun j h1 h2 => by
        simp only [List.size_toArray] at h1 h2
        obtain ⟨d, e, x, y, q1, q2, d1, d2, rx, ry⟩ := pair_at j1 j2 r1 r2 h1 h2
        have := (eqT_at I n A.in1 d e x y us[j] ws[j] _ (by show A.units + 1 + n < cLine; omega) (eqTs_at h q1 q2) d1 d2 rx ry).1
        simpa using this)
      simp only [List.size_toArray] at z
      rw [← l3, ← l4, ← l1, ← l2, e] at z
      exact z
    · exact eqS_ne h i1 i2 rx ry
def dEqT : D2 := fun d e S k => match eqT 8 d e with
  | some b => k (.bl b) S
  | none => False
def dNeT : D2 := fun d e S k => match eqT 8 d e with
  | some b => k (.bl (!b)) S
  | none => False
end
end DL
namespace DL
open PySem PySem.Spec PyProof.Rows L2
structure EJ (X : Cx) (e : Expr) (g : DE) : Prop where
  h : PE X e (up X.K g)
structure TJ (X : Cx) (e : Expr) (g : DT) : Prop where
  h : PT X e (upT X.K g)
structure WJ (X : Cx) (e : Expr) (g : DT) : Prop where
  h : PW X e (upT X.K g)
structure AJ (X : Cx) (e : List Expr) (g : DA) : Prop where
  h : PA X e (upA X.K g)
structure SJ (X : Cx) (e : Stmt) (g : DS) : Prop where
  h : PS X e (upS X.K g)
structure SsJ (X : Cx) (e : List Stmt) (g : DS) : Prop where
  h : PSs X e (upS X.K g)
structure GJ (X : Cx) (e : Expr) (g : DG) : Prop where
  h : PG X e (upG X.K g)
structure GsJ (X : Cx) (e : List Expr) (g : DGs) : Prop where
  h : PGs X e (upGs X.K g)
structure OJ (X : Cx) (e : Option Expr) (g : DOp) : Prop where
  h : PO X e (upO X.K g)
theorem WJ.pt {X : Cx} {e : Expr} {g : DT} (h : WJ X e g) : TJ X e g := ⟨PW.pt h.h⟩
section
variable {X : Cx} {a b c : Expr} {ga gb gc : DE} {pos : Pos}
theorem d_varj (i : Nat) {x : Str} (hN : X.N[i]? = some x := by rfl) (hv : Vis X.env.scope x := by first | exact Or.inl rfl | exact Or.inr (Or.inl rfl) | exact Or.inr (Or.inr rfl)) (hd : (x == ("__debug__" : Str)) = false := by decide) (hcd : (x == ("__classdict__" : Str)) = false := by decide) : EJ X (.Name x pos) (dVar i) := ⟨d_var (i := i) (hN := hN) (hv := hv) (hd := hd) (hcd := hcd)⟩
end
section
variable {X : Cx} {a b c : Expr} {ga gb gc : DE} {pos : Pos}
theorem d_intj {i j pos} : EJ X (.Constant (.int i) j pos) (dC (.int i)) := ⟨d_int ⟩
end
section
variable {X : Cx} {a b c : Expr} {ga gb gc : DE} {pos : Pos}
theorem d_blj {i j pos} : EJ X (.Constant (.bool i) j pos) (dC (.bl i)) := ⟨d_bl ⟩
end
section
variable {X : Cx} {a b c : Expr} {ga gb gc : DE} {pos : Pos}
theorem d_nonj {j pos} : EJ X (.Constant .none j pos) (dC .non) := ⟨d_non ⟩
end
section
variable {X : Cx} {a b c : Expr} {ga gb gc : DE} {pos : Pos}
end
section
variable {X : Cx} {a b c : Expr} {ga gb gc : DE} {pos : Pos}
theorem d_tyj {x : Str} {n : Ty} (hg : Gl X x) (hm : X.mg x = none) (hv : bootBuiltins x = some (.type n.name)) (hn : x ≠ "__name__" := by decide) (hd : (x == ("__debug__" : Str)) = false := by decide) : EJ X (.Name x pos) (dC (.ty n)) := ⟨d_ty (hg := hg) (hm := hm) (hv := hv) (hn := hn) (hd := hd)⟩
end
section
variable {X : Cx} {a b c : Expr} {ga gb gc : DE} {pos : Pos}
end
section
variable {X : Cx} {a b c : Expr} {ga gb gc : DE} {pos : Pos}
theorem da_nilj  : AJ X [] dNil := ⟨da_nil ⟩
end
section
variable {X : Cx} {a b c : Expr} {ga gb gc : DE} {pos : Pos}
theorem da_consj {es : List Expr} {t : DA} (ha : EJ X a ga) (hr : AJ X es t) (hs : starEach (a :: es) X.env = (false, eval a X.env) :: starEach es X.env := by exact star_cons rfl) : AJ X (a :: es) (dCons ga t) := ⟨da_cons (ha := ha.h) (hr := hr.h) (hs := hs)⟩
end
section
variable {X : Cx} {a b c : Expr} {ga gb gc : DE} {pos : Pos}
theorem d_tupj {es : List Expr} {x1} {t : DA} (h : AJ X es t) : EJ X (.Tuple es x1 pos) (dTup t) := ⟨d_tup (h := h.h)⟩
end
section
variable {X : Cx} {a b c : Expr} {ga gb gc : DE} {pos : Pos}
theorem d_lstj {es : List Expr} {t : DA} (h : AJ X es t) : EJ X (.List es pos) (dLst t) := ⟨d_lst (h := h.h)⟩
end
section
variable {X : Cx} {a b c : Expr} {ga gb gc : DE} {pos : Pos}
theorem d_opj {op : Operator} {r : D2} (ho : OpR X (binaryOp op) (upR X.K r)) (ha : EJ X a ga) (hb : EJ X b gb) : EJ X (.BinOp a op b pos) (dOp r ga gb) := ⟨d_op (ho := ho) (ha := ha.h) (hb := hb.h)⟩
end
section
variable {X : Cx} {a b c : Expr} {ga gb gc : DE} {pos : Pos}
theorem d_cmpj {op : CmpOp} {r : D2} (ho : OpR X (compareOp op) (upR X.K r)) (ha : EJ X a ga) (hb : EJ X b gb) (hm : behindInMarks op b = false) : EJ X (.Compare a [op] [b] pos) (dOp r ga gb) := ⟨d_cmp (ho := ho) (ha := ha.h) (hb := hb.h) (hm := hm)⟩
end
section
variable {X : Cx} {a b c : Expr} {ga gb gc : DE} {pos : Pos}
theorem d_ixj {r : D2} (hr : IxR X (upR X.K r)) (ha : EJ X a ga) (hb : EJ X b gb) (hs : PlainIx b) : EJ X (.Subscript a b pos) (dOp r ga gb) := ⟨d_ix (hr := hr) (ha := ha.h) (hb := hb.h) (hs := hs)⟩
end
section
variable {X : Cx} {a b c : Expr} {ga gb gc : DE} {pos : Pos}
theorem d_unj {op : UnaryOp} {r : D1} (ho : UnR X (unaryOp op) (upU X.K r)) (ha : EJ X a ga) : EJ X (.UnaryOp op a pos) (dUn r ga) := ⟨d_un (ho := ho) (ha := ha.h)⟩
end
section
variable {X : Cx} {a b c : Expr} {ga gb gc : DE} {pos : Pos}
theorem dt_cmpj {op : CmpOp} {r : D2} (ho : OpR X (compareOp op) (upR X.K r)) (ha : EJ X a ga) (hb : EJ X b gb) (hm : behindInMarks op b = false) : TJ X (.Compare a [op] [b] pos) (dTest (dOp r ga gb)) := ⟨dt_cmp (ho := ho) (ha := ha.h) (hb := hb.h) (hm := hm)⟩
end
section
variable {X : Cx} {a b c : Expr} {ga gb gc : DE} {pos : Pos}
theorem dt_valj {e : Expr} {g : DE} (h : EJ X e g) (he : ∀ whole, isTrue e X.env whole = (do let v ← whole; standAt e.pos; holding [v] (truthy v)) := by intro _; rfl) : TJ X e (dTest g) := ⟨dt_val (h := h.h) (he := he)⟩
end
section
variable {X : Cx} {a b c : Expr} {ga gb gc : DE} {pos : Pos}
variable {tA tB' : DT} {rest : List Expr}
end
section
variable {X : Cx} {a b c : Expr} {ga gb gc : DE} {pos : Pos}
variable {tA tB' : DT} {rest : List Expr}
theorem dw_or1j (ha : TJ X a tA) : WJ X (.BoolOp .Or [a] pos) tA := ⟨dw_or1 (ha := ha.h)⟩
end
section
variable {X : Cx} {a b c : Expr} {ga gb gc : DE} {pos : Pos}
variable {tA tB' : DT} {rest : List Expr}
end
section
variable {X : Cx} {a b c : Expr} {ga gb gc : DE} {pos : Pos}
variable {tA tB' : DT} {rest : List Expr}
theorem dw_orj (ha : TJ X a tA) (hb : WJ X (.BoolOp .Or (b :: rest) pos) tB') : WJ X (.BoolOp .Or (a :: b :: rest) pos) (dOrT tA tB') := ⟨dw_or (ha := ha.h) (hb := hb.h)⟩
end
section
variable {X : Cx} {a b c : Expr} {ga gb gc : DE} {pos : Pos}
variable {tA tB' : DT} {rest : List Expr}
theorem dt_notj (ha : TJ X a tA) : TJ X (.UnaryOp .Not a pos) (dNotT tA) := ⟨dt_not (ha := ha.h)⟩
end
section
variable {X : Cx} {a b c : Expr} {ga gb gc : DE} {pos : Pos}
variable {tA tB' : DT} {rest : List Expr}
theorem d_onej {op} (h : EJ X a ga) : EJ X (.BoolOp op [a] pos) ga := ⟨d_one (h := h.h)⟩
end
section
variable {X : Cx} {a b c : Expr} {ga gb gc : DE} {pos : Pos}
variable {tA tB' : DT} {rest : List Expr}
end
section
variable {X : Cx} {a b c : Expr} {ga gb gc : DE} {pos : Pos}
variable {tA tB' : DT} {rest : List Expr}
end
section
variable {X : Cx} {a b c : Expr} {ga gb gc : DE} {pos : Pos}
variable {tA tB' : DT} {rest : List Expr}
end
section
variable {X : Cx} {a b c : Expr} {ga gb gc : DE} {pos : Pos}
variable {tA tB' : DT} {rest : List Expr}
theorem d_ifj {c : Expr} (hc : TJ X c tA) (ha : EJ X a ga) (hb : EJ X b gb) : EJ X (.IfExp c a b pos) (dIf tA ga gb) := ⟨d_if (hc := hc.h) (ha := ha.h) (hb := hb.h)⟩
end
section
variable {X : Cx} {x : Str} {p pos : Pos} {e : Expr} {es : List Expr} {t : DA} {id T : String} {r : DSp}
theorem d_callBj (hc : CallR X (.builtin id) (upC X.K r)) (hg : Gl X x) (hm : X.mg x = none) (hv : bootBuiltins x = some (.builtin id)) (ha : AJ X (e :: es) t) (hn : x ≠ "__name__" := by decide) (hdb : (x == ("__debug__" : Str)) = false := by decide) (he : starEach (e :: es) X.env = (false, eval e X.env) :: starEach es X.env := by exact star_cons rfl) (hpl : (backTo pos (starEach es X.env)).any (·.1) = false := by exact star_any rfl) : EJ X (.Call (.Name x p) (e :: es) [] pos) (dCall r t) := ⟨d_callB (hc := hc) (hg := hg) (hm := hm) (hv := hv) (ha := ha.h) (hn := hn) (hdb := hdb) (he := he) (hpl := hpl)⟩
end
section
variable {X : Cx} {x : Str} {p pos : Pos} {e : Expr} {es : List Expr} {t : DA} {id T : String} {r : DSp}
theorem d_callTj (hc : CallR X (.type T) (upC X.K r)) (hg : Gl X x) (hm : X.mg x = none) (hv : bootBuiltins x = some (.type T)) (ha : AJ X (e :: es) t) (hn : x ≠ "__name__" := by decide) (hdb : (x == ("__debug__" : Str)) = false := by decide) (he : starEach (e :: es) X.env = (false, eval e X.env) :: starEach es X.env := by exact star_cons rfl) (hpl : (backTo pos (starEach es X.env)).any (·.1) = false := by exact star_any rfl) : EJ X (.Call (.Name x p) (e :: es) [] pos) (dCall r t) := ⟨d_callT (hc := hc) (hg := hg) (hm := hm) (hv := hv) (ha := ha.h) (hn := hn) (hdb := hdb) (he := he) (hpl := hpl)⟩
end
section
variable {X : Cx} {x : Str} {p pos : Pos} {e : Expr} {es : List Expr} {t : DA} {id T : String} {r : DSp}
theorem d_callj {n : Nat} {F : DSp} (c : Own X.prog X.w X.K X.mg X.base x n F) (hr : Room n X.A) (hg : Gl X x) (ha : AJ X (e :: es) t) (hdb : (x == ("__debug__" : Str)) = false := by decide) (he : starEach (e :: es) X.env = (false, eval e X.env) :: starEach es X.env := by exact star_cons rfl) (hpl : (backTo pos (starEach es X.env)).any (·.1) = false := by exact star_any rfl) : EJ X (.Call (.Name x p) (e :: es) [] pos) (dCall F t) := ⟨d_call (c := c) (hr := hr) (hg := hg) (ha := ha.h) (hdb := hdb) (he := he) (hpl := hpl)⟩
end
section
variable {X : Cx} {x : Str} {p pos : Pos} {e : Expr} {es : List Expr} {t : DA} {id T : String} {r : DSp}
theorem d_bitsj {o : Expr} {g : DE} {apos cpos : Pos} (ho : EJ X o g) (hbase : attributeBase o "bit_length" X.env (eval o X.env) = eval o X.env := by rfl) (hline : (apos.endLine == cpos.line) = true := by rfl) : EJ X (.Call (.Attribute o "bit_length" apos) [] [] cpos) (dUn mBits g) := ⟨d_bits (ho := ho.h) (hbase := hbase) (hline := hline)⟩
end
section
variable {X : Cx} {x : Str} {p pos : Pos} {e : Expr} {es : List Expr} {t : DA} {id T : String} {r : DSp}
theorem do_nonej  : OJ X none oNone := ⟨do_none ⟩
end
section
variable {X : Cx} {x : Str} {p pos : Pos} {e : Expr} {es : List Expr} {t : DA} {id T : String} {r : DSp}
theorem do_somej {e : Expr} {g : DE} (he : EJ X e g) : OJ X (some e) (oSome g) := ⟨do_some (he := he.h)⟩
end
section
variable {X : Cx} {x : Str} {p pos : Pos} {e : Expr} {es : List Expr} {t : DA} {id T : String} {r : DSp}
end
section
variable {X : Cx} {x : Str} {p pos : Pos} {e : Expr} {es : List Expr} {t : DA} {id T : String} {r : DSp}
end
section
variable {X : Cx} {x : Str} {p pos : Pos} {e : Expr} {es : List Expr} {t : DA} {id T : String} {r : DSp}
end
section
variable {X : Cx} {st : Stmt} {rest : List Stmt} {g h : DS} {e : Expr} {ge : DE} {pos : Pos}
theorem ds_nilj  : SsJ X [] dNext := ⟨ds_nil ⟩
end
section
variable {X : Cx} {st : Stmt} {rest : List Stmt} {g h : DS} {e : Expr} {ge : DE} {pos : Pos}
theorem ds_consj (h1 : SJ X st g) (h2 : SsJ X rest h) : SsJ X (st :: rest) (dSeq g h) := ⟨ds_cons (h1 := h1.h) (h2 := h2.h)⟩
end
section
variable {X : Cx} {st : Stmt} {rest : List Stmt} {g h : DS} {e : Expr} {ge : DE} {pos : Pos}
theorem ds_onej (h1 : SJ X st g) : SsJ X [st] g := ⟨ds_one (h1 := h1.h)⟩
end
section
variable {X : Cx} {st : Stmt} {rest : List Stmt} {g h : DS} {e : Expr} {ge : DE} {pos : Pos}
end
section
variable {X : Cx} {st : Stmt} {rest : List Stmt} {g h : DS} {e : Expr} {ge : DE} {pos : Pos}
end
section
variable {X : Cx} {st : Stmt} {rest : List Stmt} {g h : DS} {e : Expr} {ge : DE} {pos : Pos}
end
section
variable {X : Cx} {st : Stmt} {rest : List Stmt} {g h : DS} {e : Expr} {ge : DE} {pos : Pos}
theorem dst_exprj (he : EJ X e ge) (hs : swapsWith e none pos.line X.env = pure false := by rfl) : SJ X (.Expr e pos) (dDrop ge) := ⟨dst_expr (he := he.h) (hs := hs)⟩
end
section
variable {X : Cx} {st : Stmt} {rest : List Stmt} {g h : DS} {e : Expr} {ge : DE} {pos : Pos}
theorem dst_retj (he : EJ X e ge) : SJ X (.Return (some e) pos) (dRet ge) := ⟨dst_ret (he := he.h)⟩
end
section
variable {X : Cx} {st : Stmt} {rest : List Stmt} {g h : DS} {e : Expr} {ge : DE} {pos : Pos}
end
section
variable {X : Cx} {st : Stmt} {rest : List Stmt} {g h : DS} {e : Expr} {ge : DE} {pos : Pos}
theorem dst_ifj {c : Expr} {a b : List Stmt} {gc : DT} (hc : TJ X c gc) (ha : SsJ X a g) (hb : SsJ X b h) : SJ X (.If c a b pos) (dIfS gc g h) := ⟨dst_if (hc := hc.h) (ha := ha.h) (hb := hb.h)⟩
end
section
variable {X : Cx} {st : Stmt} {rest : List Stmt} {g h : DS} {e : Expr} {ge : DE} {pos : Pos}
theorem dst_neverj  : SJ X st dNever := ⟨dst_never ⟩
end
section
variable {X : Cx} {st : Stmt} {rest : List Stmt} {g h : DS} {e : Expr} {ge : DE} {pos : Pos}
end
section
variable {X : Cx} {st : Stmt} {rest : List Stmt} {g h : DS} {e : Expr} {ge : DE} {pos : Pos}
theorem dst_setj {i : Nat} {x : Str} {pos' : Pos} (hN : X.N.Nodup) (he : EJ X e ge) (hi : X.N[i]? = some x := by rfl) (hx : Loc X.env.scope x := by first | exact Or.inl rfl | exact Or.inr rfl) (hs : swapsWith e (some (.Name x pos')) pos.line X.env = pure false := by rfl) (hf : X.fn x = true ∨ X.env.scope.names.lookup x = some .local := by first | exact .inl rfl | exact .inr rfl | assumption) : SJ X (.Assign [.Name x pos'] e pos) (dSet i ge) := ⟨dst_set (hN := hN) (he := he.h) (hi := hi) (hx := hx) (hs := hs) (hf := hf)⟩
end
section
variable {X : Cx} {st : Stmt} {rest : List Stmt} {g h : DS} {e : Expr} {ge : DE} {pos : Pos}
theorem dst_parj {i j : Nat} {x y : Str} {a b : Expr} {ta : DA} {px py pt : Pos} {kt k2 pt2} (hc : X.calm = true) (hN : X.N.Nodup) (hij : i ≠ j) (ha : AJ X [a, b] ta) (hi : X.N[i]? = some x := by rfl) (hj : X.N[j]? = some y := by rfl) (hx : X.env.scope.names.lookup x = some .local := by rfl) (hy : X.env.scope.names.lookup y = some .local := by rfl) (hw : swappedStores [.Tuple [.Name x px, .Name y py] kt pt] (.Tuple [a, b] k2 pt2) X.env = pure (some [x, y]) := by rfl) (hs : swapsWithSole [.Tuple [.Name x px, .Name y py] kt pt] (.Tuple [a, b] k2 pt2) pos.line X.env = pure false := by rfl) : SJ X (.Assign [.Tuple [.Name x px, .Name y py] kt pt] (.Tuple [a, b] k2 pt2) pos) (dPar i j ta) := ⟨dst_par (hc := hc) (hN := hN) (hij := hij) (ha := ha.h) (hi := hi) (hj := hj) (hx := hx) (hy := hy) (hw := hw) (hs := hs)⟩
end
section
variable {X : Cx} {st : Stmt} {rest : List Stmt} {g h : DS} {e : Expr} {ge : DE} {pos : Pos}
theorem dg_namej {i : Nat} {x : Str} (hN : X.N.Nodup) (hi : X.N[i]? = some x := by rfl) (hx : Loc X.env.scope x := by first | exact Or.inl rfl | exact Or.inr rfl) (hf : X.fn x = true ∨ X.env.scope.names.lookup x = some .local := by first | exact .inl rfl | exact .inr rfl | assumption) : GJ X (.Name x pos) (dgName i) := ⟨dg_name (hN := hN) (hi := hi) (hx := hx) (hf := hf)⟩
end
section
variable {X : Cx} {st : Stmt} {rest : List Stmt} {g h : DS} {e : Expr} {ge : DE} {pos : Pos}
theorem dgs_nilj  : GsJ X [] dgNil := ⟨dgs_nil ⟩
end
section
variable {X : Cx} {st : Stmt} {rest : List Stmt} {g h : DS} {e : Expr} {ge : DE} {pos : Pos}
theorem dgs_consj {es : List Expr} {t : DG} {u : DGs} (h1 : GJ X e t) (h2 : GsJ X es u) (hs : (assignEach (e :: es) X.env).map (·.2) = assign e X.env :: (assignEach es X.env).map (·.2) := by rfl) : GsJ X (e :: es) (dgCons t u) := ⟨dgs_cons (h1 := h1.h) (h2 := h2.h) (hs := hs)⟩
end
section
variable {X : Cx} {st : Stmt} {rest : List Stmt} {g h : DS} {e : Expr} {ge : DE} {pos : Pos}
end
section
variable {X : Cx} {st : Stmt} {rest : List Stmt} {g h : DS} {e : Expr} {ge : DE} {pos : Pos}
end
section
variable {X : Cx} {st : Stmt} {rest : List Stmt} {g h : DS} {e : Expr} {ge : DE} {pos : Pos}
theorem dst_asgj {tg e : Expr} {g : DG} (he : EJ X e ge) (hg : GJ X tg g) (hs : swapsWithSole [tg] e pos.line X.env = pure false := by rfl) (hw : swappedStores [tg] e X.env = pure none := by rfl) (h1 : (assignEach [tg] X.env).map (·.2) = [assign tg X.env] := by rfl) : SJ X (.Assign [tg] e pos) (dAsg ge g) := ⟨dst_asg (he := he.h) (hg := hg.h) (hs := hs) (hw := hw) (h1 := h1)⟩
end
section
variable {X : Cx} {st : Stmt} {rest : List Stmt} {g h : DS} {e : Expr} {ge : DE} {pos : Pos}
theorem dst_whilej {c : Expr} {body : List Stmt} {gc : DT} (hp : PassesOwn (model X.prog X.w) X.A X.env X.xe) (hc : TJ X c gc) (hb : SsJ X body g) : SJ X (.While c body [] pos) (dWhile gc g) := ⟨dst_while (hp := hp) (hc := hc.h) (hb := hb.h)⟩
end
section
variable {X : Cx} {st : Stmt} {rest : List Stmt} {g h : DS} {e : Expr} {ge : DE} {pos : Pos}
end
section
variable {X : Cx} {st : Stmt} {rest : List Stmt} {g h : DS} {e : Expr} {ge : DE} {pos : Pos}
theorem dst_forRj {tg a : Expr} {body : List Stmt} {ta : DA} {gg : DG} {p pos' : Pos} (hp : PassesOwn (model X.prog X.w) X.A X.env X.xe) (hc : X.calm = true) (hgl : Gl X "range") (hm : X.mg "range" = none) (ha : AJ X [a] ta) (hg : GJ X tg gg) (hb : SsJ X body g) (hs1 : starEach [a] X.env = [(false, eval a X.env)] := by rfl) (hs : ∀ x, foldedSetIterable (.Call (.Name "range" p) [a] [] pos') X.env x = pure x := by intro _; rfl) : SJ X (.For tg (.Call (.Name "range" p) [a] [] pos') body [] pos) (dForR ta gg g) := ⟨dst_forR (hp := hp) (hc := hc) (hgl := hgl) (hm := hm) (ha := ha.h) (hg := hg.h) (hb := hb.h) (hs1 := hs1) (hs := hs)⟩
end
section
variable {P : Program} {w : World} {K : Fg} {mg : Str → Option Value} {base : Heap}
theorem _root_.L2.Fun.okJ {x qual : Str} {st : Stmt} {f : Addr} {fd : FuncData} {N ps : List Str} {k : Nat} {F : DSp} (Fn : Fun K x qual st f fd) (Sc : FnScope N ps (defScope st)) (len : ∀ ds S k, F ds S k → ds.length = ps.length)
    (hbody : ∀ (cdv : Value) (A : Around) (outer : List Env) (s : Shared) (H : Hp) (E : XK), Room k (A.deeper (envOfC qual (defScope st) s.heap.objs.size f cdv)) →
      ∃ g, SsJ (cxOf CX0 P w K mg base N qual (defScope st) f cdv A outer s H E).nox (defBody st) g ∧
        ∀ ds S k, F ds S k → g { nx := fun _ S' => k .non S', rt := k } (ds.map some ++ List.replicate (N.length - ps.length) none) S) : FnOk P w K mg base CX0 (k + 1) f fd ps (spU K F) :=
  Fn.okD Sc len fun cdv A outer s H E hr => let ⟨g, h, q⟩ := hbody cdv A outer s H E hr; ⟨g, h.h, q⟩
end
end DL
namespace L2
open PySem PySem.Spec PyProof.Rows
section
variable {X : Cx} {pos : Pos}
def gLst (K : PySem.W.Frag) (n : Nat) (t : TGs) : TG := fun v σ H Q => ∃ a xs, v = .ref a ∧ SqL K H a xs ∧ xs.length = n ∧ t xs σ H Q
theorem pg_lst {es : List Expr} {k : Nat} {t : TGs} {n : Nat} (hc : X.calm = true) (h : PGs X es t)
    (hn : (assignEach es X.env).length = n := by rfl) (hst : (assignEach es X.env).findIdx? (·.1) = none := by rfl) : PG X (.Tuple es k pos) (gLst X.K n t) := by
  intro pins s σ H v u Q I r hw
  obtain ⟨a, xs, e1, hq, hl, hw⟩ := hw
  subst e1
  cases r
  obtain ⟨its, rv, ht, hz⟩ := I.list hq
  have e2 : (assignEach es X.env).length = its.toArray.size := by simp [hn, ← hl, rv.length]
  rw [arm_assign_Tuple]
  refine wpAny_bind (wpAny_standAt ?_)
  unfold unpack
  rw [e2, hst]
  refine wpAny_bind (wpAny_holding (PySem.W.kun_itemsOf (I.ok.hd hc) ht.isList fun h' hx => ?_))
  have I1 : Inv X pins σ H { s with heap := h' } := I.kept (t' := s.toks) fun b o e => hx b o (Nat.ne_of_lt (Heap.lt_size e)) e
  exact h pins _ σ H xs _ Q I1 (by simpa using rv) hw
theorem PG.or {e : Expr} {t t' : TG} (h : PG X e t) (h' : PG X e t') : PG X e (fun v σ H Q => t v σ H Q ∨ t' v σ H Q) := by
  intro pins s σ H v u Q I r q
  rcases q with q | q
  · exact h pins s σ H v u Q I r q
  · exact h' pins s σ H v u Q I r q
end
end L2
namespace L2
open PySem PySem.Spec PyProof.Rows
def CapOk (X : Cx) (scope : Scope) : List (Option Nat) → List Str → Prop
  | some j :: r, x :: xs => (X.N[j]? = some x ∧ (X.env.scope.names.lookup x = some .cell ∨ X.env.scope.names.lookup x = some .free) ∧ ((relabel scope X.env).names.lookup x = some .cell ∨ (relabel scope X.env).names.lookup x = some .free)) ∧ CapOk X scope r xs
  | none :: r, _ :: xs => CapOk X scope r xs
  | _, _ => True
theorem CapOk.get {X : Cx} {scope : Scope} : ∀ {cap : List (Option Nat)} {N : List Str}, CapOk X scope cap N → ∀ (i j : Nat) (x : Str), cap[i]? = some (some j) → N[i]? = some x →
    X.N[j]? = some x ∧ (X.env.scope.names.lookup x = some .cell ∨ X.env.scope.names.lookup x = some .free) ∧ ((relabel scope X.env).names.lookup x = some .cell ∨ (relabel scope X.env).names.lookup x = some .free)
  | [], _, _, _, _, _, h, _ => by simp at h
  | _ :: _, [], _, _, _, _, _, h => by simp at h
  | some _ :: _, _ :: _, h, 0, j, x, h1, h2 => by
    simp at h1 h2
    subst h1 h2
    exact h.1
  | none :: _, _ :: _, _, 0, j, x, h1, _ => by simp at h1
  | some _ :: _, _ :: _, h, i + 1, j, x, h1, h2 => CapOk.get h.2 i j x (by simpa using h1) (by simpa using h2)
  | none :: r, _ :: xs, h, i + 1, j, x, h1, h2 => CapOk.get (show CapOk X scope r xs from h) i j x (by simpa using h1) (by simpa using h2)
def SubOk (X : Cx) : List (Str × Addr) → Prop
  | [] => True
  | p :: r => X.env.cells.lookup p.1 = some p.2 ∧ SubOk X r
theorem SubOk.mem {X : Cx} : ∀ {cl : List (Str × Addr)}, SubOk X cl → ∀ p ∈ cl, X.env.cells.lookup p.1 = some p.2
  | [], _, p, hp => by simp at hp
  | q :: r, h, p, hp => by
    rcases List.mem_cons.mp hp with e | e
    · subst e; exact h.1
    · exact SubOk.mem h.2 p e
theorem compSc {X : Cx} {scope : Scope} {cl : List (Str × Addr)} {N : List Str} {cap : List (Option Nat)} (h1 : scope.kind = .function) (h2 : closureFor scope X.env = pure cl) (h3 : (scope.names.all fun y => y.2 != NameKind.cell) = true)
    (h4 : (scope.names.all fun y => y.2 != NameKind.local || scope.names.lookup y.1 == some NameKind.local) = true) (h5 : SubOk X cl)
    (h6 : ((relabel scope X.env).names.all fun y => (y.2 != NameKind.cell && y.2 != NameKind.free) || (cl.lookup y.1).isSome) = true) (h7 : cap.length = N.length) (h8 : CapOk X scope cap N) : CompSc X scope cl N cap := ⟨h1, h2, h3, h4, h5.mem, h6, h7, h8.get⟩
end L2
namespace DL
open PySem PySem.Spec PyProof.Rows L2
section
variable {X : Cx} {pos : Pos}
def dgSeq (n : Nat) (t : DGs) : DG := fun d L S k => match dItems S d with
  | some p => p.1.length = n ∧ t p.1 L S k
  | none => False
theorem dg_seq {es : List Expr} {k : Nat} {t : DGs} {n : Nat} (hc : X.calm = true) (h : GsJ X es t) (hn : (assignEach es X.env).length = n := by rfl) (hst : (assignEach es X.env).findIdx? (·.1) = none := by rfl) : GJ X (.Tuple es k pos) (dgSeq n t) :=
  ⟨PG.imp (PG.or (pg_tup hc h.h hn hst) (pg_lst hc h.h hn hst)) fun v σ H Q ⟨d, L, S, k, i1, hL, hS, h, m⟩ => by
    cases d with
    | tup ds =>
      obtain ⟨a, xs, rfl, t1, j⟩ := isTup.mp i1
      exact .inl ⟨a, xs, rfl, t1, by rw [← j.length]; exact h.1, ds, L, S, k, j, hL, hS, h.2, m⟩
    | rl ds =>
      obtain ⟨a, xs, rfl, t1, j⟩ := isRl.mp i1
      exact .inr ⟨a, xs, rfl, t1.sq, by rw [← j.length]; exact h.1, ds, L, S, k, j, hL, hS, h.2, m⟩
    | ref a =>
      have e1 := isRef.mp i1
      subst e1
      cases z : S a with
      | none => simp only [dgSeq, dItems, z] at h
      | some o =>
        cases o with
        | dic => simp only [dgSeq, dItems, z] at h
        | exc _ => simp only [dgSeq, dItems, z] at h
        | fn _ => simp only [dgSeq, dItems, z] at h
        | tbl _ => simp only [dgSeq, dItems, z] at h
        | gen _ => simp only [dgSeq, dItems, z] at h
        | lst ds =>
          simp only [dgSeq, dItems, z] at h
          obtain ⟨xs, hl, j⟩ := hS.lst z
          exact .inr ⟨a, xs, rfl, SqL.of hl, by rw [← j.length]; exact h.1, ds, L, S, k, j, hL, hS, h.2, m⟩
    | _ => exact (show False from h).elim⟩
end
def capL (cap : List (Option Nat)) (L : Lo) : Lo := cap.map fun o => match o with
  | some j => (L[j]?).join
  | none => none
theorem Lc.cap {K : Fg} {H : Hp} {L : Lo} {σ : L2.St} (hL : Lc K H L σ) : ∀ cap : List (Option Nat), Lc K H (capL cap L) (capSt cap σ)
  | [] => rfl
  | Option.none :: r => ⟨_, _, rfl, Lc.cap hL r⟩
  | Option.some j :: r => by
    show Lc K H ((L[j]?).join :: capL r L) ((σ[j]?).join :: capSt r σ)
    cases e : L[j]? with
    | none => exact ⟨_, _, rfl, Lc.cap hL r⟩
    | some o =>
      cases o with
      | none => exact ⟨_, _, rfl, Lc.cap hL r⟩
      | some d =>
        obtain ⟨v, e1, e2⟩ := hL.get e
        rw [e1]
        exact ⟨v, _, rfl, e2, Lc.cap hL r⟩
abbrev DB := Lo → DH → (Option D → DH → Prop) → Prop
def bdAll (ge : DE) : DB := fun L S k => ge L S fun v S1 => k (some v) S1
def bdIf (c : DT) (ge : DE) : DB := fun L S k => c L S fun b S1 => if b = true then ge L S1 fun v S2 => k (some v) S2 else k none S1
def dCLoop (ok : DH → Prop) (p : Addr) (g : DG) (bd : DB) (k : DK) : List D → List D → Lo → DH → Prop
  | [], _, _, S => ok S ∧ k (.ref p) S
  | d :: r, acc, L, S => ok S ∧ g d L S fun L1 S1 => bd L1 S1 fun o S2 => match o with
    | some v => S2 p = some (.lst acc) ∧ acc.length < sizeLine ∧ dCLoop ok p g bd k r (acc ++ [v]) L1 (put S2 p (.lst (acc ++ [v])))
    | none => dCLoop ok p g bd k r acc L1 S2
def dComp (cap : List (Option Nat)) (gi : DE) (g : DG) (bd : DB) : DE := fun L S k => gi L S fun d S1 => match dItems S1 d with
  | some q => ∀ p, S1 p = none → dCLoop (okFor q) p g bd k q.1 [] (capL cap L) (put S1 p (.lst []))
  | none => False
def dCompR (cap : List (Option Nat)) (ta : DA) (g : DG) (bd : DB) : DE := fun L S k => ta L S fun ds S1 => match ds with
  | [.int n] => (-(2 ^ 62) ≤ n ∧ n < 2 ^ 62) ∧ ∀ p, S1 p = none → dCLoop (fun _ => True) p g bd k ((List.range n.toNat).map fun i => D.int (i : Nat)) [] (capL cap L) (put S1 p (.lst []))
  | _ => False
section
variable {K : Fg} {ok : DH → Prop} {gg : DG} {ge : DE} {gc : DT} {k : DK} {ds : List D} {L : Lo} {S : DH} {σ : L2.St} {H : Hp} {J : It} {Q : VK} {p : Addr}
theorem comp_core (hL : Lc K H L σ) (hS : Hs K H S) (hp : H p = none) (h : dCLoop ok p gg (bdAll ge) k ds [] L (put S p (.lst [])))
    (n : ∀ d S' v H', k d S' → Kp H H' → Hs K H' S' → IsD K H' d v → Q v H')
    (hgo : ∀ i d S1 H1, ds[i]? = some d → Kp H H1 → Hs K H1 S1 → ok S1 → J.go i H1 ∧ ∀ x H', J.yld i H1 x H' → H' = H1 ∧ IsD K H1 d x)
    (hst : ∀ S1 H1, Kp H H1 → Hs K H1 S1 → ok S1 → J.stop ds.length H1) :
    ∃ W : Nat → Nat → L2.St → Hp → Prop, (∃ m, W 0 m σ (upd H p (.lst []))) ∧ ∀ i m σ' H', W i m σ' H' →
      (J.stop i H' ∧ Q (.ref p) H') ∨ (J.go i H' ∧ ∃ N : L2.St → Hp → Prop, (∀ σ2 H2, N σ2 H2 → ∃ m', m' < m ∧ W (i + 1) m' σ2 H2) ∧ ∀ x H2, J.yld i H' x H2 → upG K gg x σ' H2 fun σ3 H3 => up K ge σ3 H3 fun v H4 => ∃ ys, H4 p = some (.lst ys) ∧ ys.length < sizeLine ∧ N σ3 (upd H4 p (.lst (ys ++ [v])))) := by
  refine ⟨fun i m σ1 H1 => m = ds.length - i ∧ i ≤ ds.length ∧ ∃ acc L1 S1, Lc K H1 L1 σ1 ∧ Hs K H1 S1 ∧ Kp H H1 ∧ dCLoop ok p gg (bdAll ge) k (ds.drop i) acc L1 S1, ⟨ds.length, by simp, Nat.zero_le _, [], L, _, hL.kp (Kp.new hp), hS.newL hp IsDs.nil, Kp.new hp, h⟩, ?_⟩
  rintro i m σ1 H1 ⟨rfl, hi, acc, L1, S1, hL1, hS1, k1, w1⟩
  by_cases hlt : i < ds.length
  · have e : ds.drop i = ds[i] :: ds.drop (i + 1) := List.drop_eq_getElem_cons hlt
    rw [e] at w1
    obtain ⟨o1, w1⟩ := w1
    obtain ⟨g1, y1⟩ := hgo i ds[i] S1 H1 (by simp [hlt]) k1 hS1 o1
    refine .inr ⟨g1, fun σ' H' => i + 1 ≤ ds.length ∧ ∃ acc L' S', Lc K H' L' σ' ∧ Hs K H' S' ∧ Kp H H' ∧ dCLoop ok p gg (bdAll ge) k (ds.drop (i + 1)) acc L' S', fun σ' H' ⟨q1, q2⟩ => ⟨ds.length - (i + 1), by omega, rfl, q1, q2⟩, fun x H' y => ?_⟩
    obtain ⟨rfl, ix⟩ := y1 x H' y
    refine ⟨ds[i], L1, S1, _, ix, hL1, hS1, w1, fun L2 S2 σ2 H2 q k2 hL2 hS2 => up.go hL2 hS2 q fun d S3 v H3 h3 k3 hL3 hS3 i3 => ?_⟩
    obtain ⟨z1, z2, z3⟩ := h3
    obtain ⟨xs, hl, j⟩ := hS3.lst z1
    have k4 : Kp H3 (upd H3 p (.lst (xs ++ [v]))) := Kp.mut hl (fun z => z)
    exact ⟨xs, hl, by rw [← j.length]; exact z2, hlt, _, L2, _, hL3.kp k4, hS3.setL hl (j.append (IsDs.cons i3 IsDs.nil)), ((k1.trans k2).trans k3).trans k4, z3⟩
  · have e : i = ds.length := by omega
    subst e
    rw [List.drop_length] at w1
    obtain ⟨o1, w1⟩ := w1
    exact .inl ⟨hst S1 H1 k1 hS1 o1, n _ S1 _ H1 w1 k1 hS1 (isRef.mpr rfl)⟩
theorem comp_coreIf (hL : Lc K H L σ) (hS : Hs K H S) (hp : H p = none) (h : dCLoop ok p gg (bdIf gc ge) k ds [] L (put S p (.lst [])))
    (n : ∀ d S' v H', k d S' → Kp H H' → Hs K H' S' → IsD K H' d v → Q v H')
    (hgo : ∀ i d S1 H1, ds[i]? = some d → Kp H H1 → Hs K H1 S1 → ok S1 → J.go i H1 ∧ ∀ x H', J.yld i H1 x H' → H' = H1 ∧ IsD K H1 d x)
    (hst : ∀ S1 H1, Kp H H1 → Hs K H1 S1 → ok S1 → J.stop ds.length H1) :
    ∃ W : Nat → Nat → L2.St → Hp → Prop, (∃ m, W 0 m σ (upd H p (.lst []))) ∧ ∀ i m σ' H', W i m σ' H' →
      (J.stop i H' ∧ Q (.ref p) H') ∨ (J.go i H' ∧ ∃ N : L2.St → Hp → Prop, (∀ σ2 H2, N σ2 H2 → ∃ m', m' < m ∧ W (i + 1) m' σ2 H2) ∧ ∀ x H2, J.yld i H' x H2 → upG K gg x σ' H2 fun σ3 H3 => upT K gc σ3 H3 fun b H3' => if b = true then up K ge σ3 H3' fun v H4 => ∃ ys, H4 p = some (.lst ys) ∧ ys.length < sizeLine ∧ N σ3 (upd H4 p (.lst (ys ++ [v]))) else N σ3 H3') := by
  refine ⟨fun i m σ1 H1 => m = ds.length - i ∧ i ≤ ds.length ∧ ∃ acc L1 S1, Lc K H1 L1 σ1 ∧ Hs K H1 S1 ∧ Kp H H1 ∧ dCLoop ok p gg (bdIf gc ge) k (ds.drop i) acc L1 S1, ⟨ds.length, by simp, Nat.zero_le _, [], L, _, hL.kp (Kp.new hp), hS.newL hp IsDs.nil, Kp.new hp, h⟩, ?_⟩
  rintro i m σ1 H1 ⟨rfl, hi, acc, L1, S1, hL1, hS1, k1, w1⟩
  by_cases hlt : i < ds.length
  · have e : ds.drop i = ds[i] :: ds.drop (i + 1) := List.drop_eq_getElem_cons hlt
    rw [e] at w1
    obtain ⟨o1, w1⟩ := w1
    obtain ⟨g1, y1⟩ := hgo i ds[i] S1 H1 (by simp [hlt]) k1 hS1 o1
    refine .inr ⟨g1, fun σ' H' => i + 1 ≤ ds.length ∧ ∃ acc L' S', Lc K H' L' σ' ∧ Hs K H' S' ∧ Kp H H' ∧ dCLoop ok p gg (bdIf gc ge) k (ds.drop (i + 1)) acc L' S', fun σ' H' ⟨q1, q2⟩ => ⟨ds.length - (i + 1), by omega, rfl, q1, q2⟩, fun x H' y => ?_⟩
    obtain ⟨rfl, ix⟩ := y1 x H' y
    refine ⟨ds[i], L1, S1, _, ix, hL1, hS1, w1, fun L2 S2 σ2 H2 q k2 hL2 hS2 => upT.go hL2 hS2 q fun b S2' H2' h2 k2' hL2' hS2' => ?_⟩
    cases b with
    | true =>
      rw [if_pos rfl] at h2 ⊢
      refine up.go hL2' hS2' h2 fun d S3 v H3 h3 k3 hL3 hS3 i3 => ?_
      obtain ⟨z1, z2, z3⟩ := h3
      obtain ⟨xs, hl, j⟩ := hS3.lst z1
      have k4 : Kp H3 (upd H3 p (.lst (xs ++ [v]))) := Kp.mut hl (fun z => z)
      exact ⟨xs, hl, by rw [← j.length]; exact z2, hlt, _, L2, _, hL3.kp k4, hS3.setL hl (j.append (IsDs.cons i3 IsDs.nil)), (((k1.trans k2).trans k2').trans k3).trans k4, z3⟩
    | false =>
      rw [if_neg Bool.false_ne_true] at h2 ⊢
      exact ⟨hlt, acc, L2, S2', hL2', hS2', (k1.trans k2).trans k2', h2⟩
  · have e : i = ds.length := by omega
    subst e
    rw [List.drop_length] at w1
    obtain ⟨o1, w1⟩ := w1
    exact .inl ⟨hst S1 H1 k1 hS1 o1, n _ S1 _ H1 w1 k1 hS1 (isRef.mpr rfl)⟩
end
theorem range_go {K : Fg} {H : Hp} {n : Int} : ∀ i d (S1 : DH) H1, ((List.range n.toNat).map fun i => D.int (i : Nat))[i]? = some d → Kp H H1 → Hs K H1 S1 → (fun _ => True : DH → Prop) S1 → (Itr 0 n.toNat).go i H1 ∧ ∀ x H', (Itr 0 n.toNat).yld i H1 x H' → H' = H1 ∧ IsD K H1 d x := by
  intro i d S1 H1 e _ _ _
  rw [List.getElem?_map] at e
  cases q : (List.range (Int.toNat _))[i]? with
  | none => rw [q] at e; cases e
  | some z =>
    rw [q] at e
    cases e
    obtain ⟨hz1, hz2⟩ := List.getElem?_eq_some_iff.mp q
    rw [List.length_range] at hz1
    rw [List.getElem_range] at hz2
    subst hz2
    exact ⟨hz1, fun x H' y => ⟨y.1, by rw [y.2]; exact isInt.mpr (by rw [Int.zero_add])⟩⟩
section
variable {X : Cx} {elt tg iter c a : Expr} {scope : Scope} {cl : List (Str × Addr)} {N : List Str} {cap : List (Option Nat)} {pos p pos' : Pos} {gg : DG} {ge gi : DE} {gc : DT} {ta : DA}
theorem d_compRj (hc : X.calm = true) (Sc : CompSc X scope cl N cap) (hgl : Gl X "range") (hm : X.mg "range" = none) (ha : AJ X [a] ta) (hg : ∀ s0 H0 ex C, GJ (cxC X scope cl N s0 H0 ex C) tg gg) (he : ∀ s0 H0 ex C, EJ (cxC X scope cl N s0 H0 ex C) elt ge)
    (hs1 : starEach [a] X.env = [(false, eval a X.env)] := by exact star_cons rfl) (hs : ∀ x, foldedSetIterable (.Call (.Name "range" p) [a] [] pos') X.env x = pure x := by intro _; rfl) :
    EJ X (.ListComp elt [⟨tg, .Call (.Name "range" p) [a] [] pos', [], 0⟩] scope pos) (dCompR cap ta gg (bdAll ge)) :=
  ⟨PE.imp (pe_comp hc Sc (pi_range1 hgl hm ha.h hs1) (fun s0 H0 ex C => (hg s0 H0 ex C).h) (fun s0 H0 ex C => (he s0 H0 ex C).h) hs) fun σ H Q ⟨L, S, k, hL, hS, h, n⟩ => upA.go hL hS h fun ds S1 vs H1 h1 k1 hL1 hS1 i1 => by
    split at h1
    · obtain ⟨v, rfl, j⟩ := isDs1 i1
      have e := isInt.mp j
      subst e
      obtain ⟨⟨h2, h3⟩, h1⟩ := h1
      refine ⟨_, rfl, h2, h3, fun D hD => comp_core (hL1.cap cap) hS1 hD (h1 D (hS1.free hD)) (fun d S' v H' q k3 => n d S' v H' q (k1.trans k3)) range_go fun S2 H2 k2 hS2 _ => ?_⟩
      rw [List.length_map, List.length_range]
      exact Nat.le_refl _
    · exact h1.elim⟩
end
def GTup (K : Fg) (mg : Str → Option Value) (x : Str) (ns : List Int) : Prop := ∃ p o its n, mg x = some (.ref p) ∧ K.lookup p = some o ∧ o.cls = .type "tuple" ∧ o.data = .seq its n ∧ its.size ≤ sizeLine ∧ Vals (ns.map V.int) its.toList
theorem isDs_ints {K : Fg} {H : Hp} : ∀ ns : List Int, IsDs K H (ns.map D.int) (ns.map V.int)
  | [] => IsDs.nil
  | _ :: ns => IsDs.cons (isInt.mpr rfl) (isDs_ints ns)
theorem d_gtup {X : Cx} {x : Str} {ns : List Int} {pos : Pos} (g : GTup X.K X.mg x ns) (hg : Gl X x) (hd : (x == ("__debug__" : Str)) = false := by decide) : EJ X (.Name x pos) (dC (.tup (ns.map D.int))) := by
  obtain ⟨p, o, its, n, hm, h1, h2, h3, h4, h5⟩ := g
  exact ⟨d_c (pe_glob (v := .ref p) hg hm rfl hd) fun H => isTup.mpr ⟨p, _, rfl, .inr ⟨o, its, n, h1, h2, h3, h4, h5⟩, isDs_ints ns⟩⟩
end DL
namespace DL
open PySem PySem.Spec PyProof.Rows L2
theorem upR.imp {K : Fg} {r r' : D2} (i : ∀ d e S k, r' d e S k → r d e S k) : ∀ x y H Q, upR K r' x y H Q → upR K r x y H Q := fun x y H Q ⟨d, e, S, k, a, b, c, h, n⟩ => ⟨d, e, S, k, a, b, c, i d e S k h, n⟩
theorem upC.imp {K : Fg} {r r' : DSp} (i : ∀ ds S k, r' ds S k → r ds S k) : ∀ xs H Q, upC K r' xs H Q → upC K r xs H Q := fun xs H Q ⟨ds, S, k, a, b, h, n⟩ => ⟨ds, S, k, a, b, i ds S k h, n⟩
theorem OpR.imp {X : Cx} {f : Value → Value → Sem Value} {r r' : R2} (h : OpR X f r) (i : ∀ x y H Q, r' x y H Q → r x y H Q) : OpR X f r' := fun pins s σ H x y v u Q I rx ry q => h pins s σ H x y v u Q I rx ry (i x y H Q q)
theorem IxR.imp {X : Cx} {r r' : R2} (h : IxR X r) (i : ∀ x y H Q, r' x y H Q → r x y H Q) : IxR X r' := fun value slice pins s σ H x y v u Q I rx ry q => h value slice pins s σ H x y v u Q I rx ry (i x y H Q q)
theorem CallR.imp {X : Cx} {f : Value} {r r' : List V → Hp → VK → Prop} (h : CallR X f r) (i : ∀ xs H Q, r' xs H Q → r xs H Q) : CallR X f r' := fun pins s σ H xs us Q I rs q => h pins s σ H xs us Q I rs (i xs H Q q)
def dIxE : D2 := fun d e S k => match d, e with
  | .tup ds, .int i => (match L2.atI ds i with
    | some c => k c S
    | none => False)
  | .rl ds, .int i => ∃ c, L2.atI ds i = some c ∧ k c S
  | .ref a, .int i => ∃ ds c, S a = some (.lst ds) ∧ L2.atI ds i = some c ∧ k c S
  | _, _ => False
theorem x_ixE {X : Cx} : IxR X (upR X.K dIxE) := IxR.imp x_ix (upR.imp fun d e S k h => by
  unfold dIxE at h
  split at h
  · exact h
  · obtain ⟨c, h1, h2⟩ := h
    simp only [dIx, h1]
    exact h2
  · obtain ⟨ds, c, h0, h1, h2⟩ := h
    simp only [dIx, h0, h1]
    exact h2
  · exact h.elim)
def bIsiE : DSp := fun ds S k => match ds with
  | [d, .ty c] => ∃ t, tyD S d = some t ∧ k (.bl (subT t c)) S
  | _ => False
def bLenE : DSp := fun ds S k => match ds with
  | [.tup xs] => k (.int xs.length) S
  | [.rl xs] => k (.int xs.length) S
  | [.ref a] => ∃ xs, S a = some (.lst xs) ∧ k (.int xs.length) S
  | _ => False
theorem b_lenE {X : Cx} : CallR X (.builtin "len") (upC X.K bLenE) := CallR.imp b_len (upC.imp fun ds S k h => by
  unfold bLenE at h
  split at h
  · exact h
  · exact h
  · obtain ⟨xs, h1, h2⟩ := h
    simp only [bLen, h1]
    exact h2
  · exact h.elim)
def dEqE : D2 := fun d e S k => ∃ b, eqT 8 d e = some b ∧ k (.bl b) S
def dNeE : D2 := fun d e S k => ∃ b, eqT 8 d e = some b ∧ k (.bl (!b)) S
def dForE (gi : DE) (g : DG) (b : DS) : DS := fun M L S => gi L S fun d S1 => ∃ p, dItems S1 d = some p ∧ dLoop (okFor p) g b M p.1 L S1
def Mono (g : DE) : Prop := ∀ L S (k k' : DK), (∀ d S, k d S → k' d S) → g L S k → g L S k'
def dgSeqE (n : Nat) (t : DGs) : DG := fun d L S k => ∃ p, dItems S d = some p ∧ p.1.length = n ∧ t p.1 L S k
theorem GJ.imp {X : Cx} {e : Expr} {g g' : DG} (h : GJ X e g) (i : ∀ d L S k, g' d L S k → g d L S k) : GJ X e g' := ⟨PG.imp h.h fun v σ H Q ⟨d, L, S, k, a, hL, hS, q, n⟩ => ⟨d, L, S, k, a, hL, hS, i d L S k q, n⟩⟩
theorem dg_seqE {X : Cx} {pos : Pos} {es : List Expr} {k : Nat} {t : DGs} {n : Nat} (hc : X.calm = true) (h : GsJ X es t) (hn : (assignEach es X.env).length = n := by rfl) (hst : (assignEach es X.env).findIdx? (·.1) = none := by rfl) : GJ X (.Tuple es k pos) (dgSeqE n t) :=
  GJ.imp (dg_seq hc h hn hst) fun d L S k ⟨p, h1, h2⟩ => by
    simp only [dgSeq, h1]
    exact h2
section
variable {X : Cx} {pos : Pos}
def dgSubE (go gi : DE) : DG := fun d L S k => go L S fun o S1 => gi L S1 fun i S2 => match o, i with
  | .ref a, .int j => ∃ ds n, S2 a = some (.lst ds) ∧ ixN ds.length j = some n ∧ k L (put S2 a (.lst (ds.set n d)))
  | _, _ => False
theorem dg_subE {o i : Expr} {go gi : DE} (ho : EJ X o go) (hi : EJ X i gi)
    (ha : ∀ v, assign (.Subscript o i pos) X.env v = (do
      let ov ← holding [v] (eval o X.env)
      let iv ← holding [v, ov] (eval i X.env)
      standAt pos
      holding [v, ov, iv] (setItem ov iv v)
      release [v, ov, iv] []) := by intro _; rfl) : GJ X (.Subscript o i pos) (dgSubE go gi) :=
  ⟨PG.imp (pg_sub ho.h hi.h set_list ha) fun v σ H Q ⟨d, L, S, k, i1, hL, hS, h, n⟩ => up.go hL hS h fun c S1 u H1 h1 k1 hL1 hS1 j1 => up.go hL1 hS1 h1 fun c2 S2 u2 H2 h2 k2 hL2 hS2 j2 => by
    cases c with
    | ref a =>
      cases c2 with
      | int z =>
        have e1 := isRef.mp j1
        have e2 := isInt.mp j2
        subst e1
        subst e2
        obtain ⟨ds, m, w, q, h2⟩ := h2
        obtain ⟨vs, hl, j⟩ := hS2.lst w
        refine ⟨a, vs, z, m, rfl, rfl, hl, by rw [← j.length]; exact q, ?_⟩
        have k3 : Kp H2 (upd H2 a (.lst (vs.set m v))) := Kp.mut hl (fun z => z)
        exact n L _ σ _ h2 (k1.trans (k2.trans k3)) (hL2.kp k3) (hS2.setL hl (j.set m (i1.kp (k1.trans k2))))
      | _ => exact (show False from h2).elim
    | _ => exact (show False from h2).elim⟩
theorem seq_go {K : Fg} {S1 : DH} {H1 : Hp} {d : D} {v : V} {p : List D × Option Addr} (hS1 : Hs K H1 S1) (i1 : IsD K H1 d v) (hp : dItems S1 d = some p) : ∃ a, v = .ref a ∧
    (((∃ xs, SqL K H1 a xs) ∧ (∀ i c S2 H2, p.1[i]? = some c → Kp H1 H2 → Hs K H2 S2 → okFor p S2 → (Itl K a).go i H2 ∧ ∀ x H', (Itl K a).yld i H2 x H' → H' = H2 ∧ IsD K H2 c x) ∧ ∀ S2 H2, Kp H1 H2 → Hs K H2 S2 → okFor p S2 → (Itl K a).stop p.1.length H2) ∨
     ((∃ xs, SqT K H1 a xs) ∧ (∀ i c S2 H2, p.1[i]? = some c → Kp H1 H2 → Hs K H2 S2 → okFor p S2 → (Itt K a).go i H2 ∧ ∀ x H', (Itt K a).yld i H2 x H' → H' = H2 ∧ IsD K H2 c x) ∧ ∀ S2 H2, Kp H1 H2 → Hs K H2 S2 → okFor p S2 → (Itt K a).stop p.1.length H2)) := by
  cases d with
  | tup ds =>
    cases hp
    obtain ⟨a, xs, rfl, t, j⟩ := isTup.mp i1
    refine ⟨a, rfl, .inr ⟨⟨xs, t⟩, fun i d S2 H2 e k2 hS2 _ => ?_, fun S2 H2 k2 hS2 _ => ⟨xs, k2.tup t, by rw [← j.length]; exact Nat.le_refl _⟩⟩⟩
    obtain ⟨w, e1, e2⟩ := j.get e
    refine ⟨⟨xs, w, k2.tup t, e1⟩, fun x H' y => ⟨y.1, ?_⟩⟩
    have z := y.2 xs (k2.tup t)
    rw [e1] at z
    cases z
    exact e2.kp k2
  | rl ds =>
    cases hp
    obtain ⟨a, xs, rfl, t, j⟩ := isRl.mp i1
    refine ⟨a, rfl, .inl ⟨⟨xs, t.sq⟩, fun i d S2 H2 e k2 hS2 _ => ?_, fun S2 H2 k2 hS2 _ => ⟨xs, (k2.fro t).sq, by rw [← j.length]; exact Nat.le_refl _⟩⟩⟩
    obtain ⟨w, e1, e2⟩ := j.get e
    refine ⟨⟨xs, w, (k2.fro t).sq, e1⟩, fun x H' y => ⟨y.1, ?_⟩⟩
    have z := y.2 xs (k2.fro t).sq
    rw [e1] at z
    cases z
    exact e2.kp k2
  | ref a =>
    have e1 := isRef.mp i1
    subst e1
    cases z : S1 a with
    | none => simp only [dItems, z] at hp; cases hp
    | some o =>
      cases o with
      | dic => simp only [dItems, z] at hp; cases hp
      | exc _ => simp only [dItems, z] at hp; cases hp
      | fn _ => simp only [dItems, z] at hp; cases hp
      | tbl _ => simp only [dItems, z] at hp; cases hp
      | gen _ => simp only [dItems, z] at hp; cases hp
      | lst ds =>
        simp only [dItems, z] at hp
        cases hp
        obtain ⟨xs, hl, j⟩ := hS1.lst z
        refine ⟨a, rfl, .inl ⟨⟨xs, SqL.of hl⟩, fun i d S2 H2 e k2 hS2 o2 => ?_, fun S2 H2 k2 hS2 o2 => ?_⟩⟩
        · obtain ⟨ys, hl2, j2⟩ := hS2.lst o2
          obtain ⟨w, e1, e2⟩ := j2.get e
          refine ⟨⟨ys, w, SqL.of hl2, e1⟩, fun x H' y => ⟨y.1, ?_⟩⟩
          have q := y.2 ys (SqL.of hl2)
          rw [e1] at q
          cases q
          exact e2
        · obtain ⟨ys, hl2, j2⟩ := hS2.lst o2
          exact ⟨ys, SqL.of hl2, by rw [← j2.length]; exact Nat.le_refl _⟩
  | _ => cases hp
theorem dst_forEj {tg iter : Expr} {body : List Stmt} {gi : DE} {gg : DG} {g : DS} (hp : PassesOwn (model X.prog X.w) X.A X.env X.xe) (hc : X.calm = true) (hi : EJ X iter gi) (hg : GJ X tg gg) (hb : SsJ X body g)
    (hs : ∀ x, foldedSetIterable iter X.env x = pure x := by intro _; rfl) : SJ X (.For tg iter body [] pos) (dForE gi gg g) :=
  ⟨PS.imp (ps_for hp hc (pi_seq hi.h) hg.h hb.h hs) fun N σ H ⟨L, S, M, hL, hS, h, r⟩ => up.go hL hS h fun d S1 v H1 h1 k1 hL1 hS1 i1 => by
    obtain ⟨p, hp, h1⟩ := h1
    obtain ⟨a, e, q⟩ := seq_go hS1 i1 hp
    refine ⟨a, e, ?_⟩
    rcases q with ⟨q1, q2, q3⟩ | ⟨q1, q2, q3⟩
    · exact .inl ⟨q1, for_core hL1 hS1 h1 (r.kp k1) q2 q3⟩
    · exact .inr ⟨q1, for_core hL1 hS1 h1 (r.kp k1) q2 q3⟩⟩
def dCompE (cap : List (Option Nat)) (gi : DE) (g : DG) (bd : DB) : DE := fun L S k => gi L S fun d S1 => ∃ q, dItems S1 d = some q ∧ ∀ p, S1 p = none → dCLoop (okFor q) p g bd k q.1 [] (capL cap L) (put S1 p (.lst []))
theorem d_compEj {elt tg iter : Expr} {scope : Scope} {cl : List (Str × Addr)} {N : List Str} {cap : List (Option Nat)} {gg : DG} {ge gi : DE} (hc : X.calm = true) (Sc : CompSc X scope cl N cap) (hi : EJ X iter gi) (hg : ∀ s0 H0 ex C, GJ (cxC X scope cl N s0 H0 ex C) tg gg) (he : ∀ s0 H0 ex C, EJ (cxC X scope cl N s0 H0 ex C) elt ge)
    (hs : ∀ x, foldedSetIterable iter X.env x = pure x := by intro _; rfl) : EJ X (.ListComp elt [⟨tg, iter, [], 0⟩] scope pos) (dCompE cap gi gg (bdAll ge)) :=
  ⟨PE.imp (pe_comp hc Sc (pi_seq hi.h) (fun s0 H0 ex C => (hg s0 H0 ex C).h) (fun s0 H0 ex C => (he s0 H0 ex C).h) hs) fun σ H Q ⟨L, S, k, hL, hS, h, n⟩ => up.go hL hS h fun d S1 v H1 h1 k1 hL1 hS1 i1 => by
    obtain ⟨p, hp, h1⟩ := h1
    obtain ⟨a, e, q⟩ := seq_go hS1 i1 hp
    refine ⟨a, e, ?_⟩
    have n' : ∀ d S' v H', k d S' → Kp H1 H' → Hs X.K H' S' → IsD X.K H' d v → Q v H' := fun d S' v H' q k3 => n d S' v H' q (k1.trans k3)
    rcases q with ⟨q1, q2, q3⟩ | ⟨q1, q2, q3⟩
    · exact .inl ⟨q1, fun D hD => comp_core (hL1.cap cap) hS1 hD (h1 D (hS1.free hD)) n' q2 q3⟩
    · exact .inr ⟨q1, fun D hD => comp_core (hL1.cap cap) hS1 hD (h1 D (hS1.free hD)) n' q2 q3⟩⟩
end
end DL
namespace L2
open PySem PySem.Spec PyProof.Rows
structure Hands (P : Program) (w : World) (it l : Addr) (st : Nat → Heap → Prop) (sq : Array Value → Heap → Prop) : Prop where
  at_ : ∀ k h h', st k h → (∀ o, h.get? it = some o → h'.get? it = some o) → st k h'
  sqAt : ∀ xs h h', sq xs h → (∀ o, h.get? l = some o → h'.get? l = some o) → sq xs h'
  obj : ∀ k h, st k h → ∃ o, h.get? it = some o ∧ ∀ v, o.data ≠ .cell v
  item : ∀ (A : Around) (k : Nat) (s : Shared) (xs : Array Value) (x : Value) (Q : Value → Shared → Prop) (E : Value → Shared → Prop), st k s.heap → sq xs s.heap → xs[k]? = some x →
    (∀ h', st (k + 1) h' → Heap.SameBut it s.heap h' → Q x { s with heap := h' }) → wpAny (model P w) A (Builtin.SmallTypes.nextOf (.ref it)) Q E s
  fin : ∀ (A : Around) (k : Nat) (s : Shared) (xs : Array Value) (Q : Value → Shared → Prop) (E : Value → Shared → Prop), A.handled = none → st k s.heap → sq xs s.heap → xs[k]? = none →
    (∀ h' e, Heap.ExtBut it s.heap h' → (∃ o, h'.get? e = some o ∧ o.cls = .type "StopIteration") → E (.ref e) { s with heap := h' }) → wpAny (model P w) A (Builtin.SmallTypes.nextOf (.ref it)) Q E s
theorem Hands.list {P : Program} {w : World} (it l : Addr) : Hands P w it l (fun k h => h.IsListIter it l k) (fun xs h => h.IsList l xs) where
  at_ := fun _ _ _ x y => x.at y
  sqAt := fun _ _ _ x y => x.at y
  obj := fun _ _ ⟨o, e, _, d⟩ => ⟨o, e, fun v z => by rw [d] at z; cases z⟩
  item := fun _ _ _ _ _ _ _ a b c d => wpAny_nextOf_list_item a b c d
  fin := fun _ _ _ _ _ _ hh a b c d => wpAny_nextOf_list_end hh a b c d
section
variable {prog : Program} {w : World} {A : Around} {E : Value → Shared → Prop} {s : Shared}
theorem nextOf_tuple_item {it t : Addr} {i : Nat} {items} {x : Value} {Q : Value → Shared → Prop} (hit : s.heap.IsTupleIter it t i) (ht : s.heap.IsTuple t items) (hx : items[i]? = some x)
    (hQ : ∀ h', h'.IsTupleIter it t (i + 1) → Heap.SameBut it s.heap h' → Q x { s with heap := h' }) : wpAny (model prog w) A (Builtin.SmallTypes.nextOf (.ref it)) Q E s := by
  obtain ⟨o, ho, hc, hd⟩ := id hit
  obtain ⟨ol, hol, _, nl, hdl⟩ := ht
  unfold Builtin.SmallTypes.nextOf
  refine wpAny_bind (wpAny_callSpecial?_slot (name := Str.ofString "__next__") hit.typeIs F.slot_tuple_iterator_next (wpAny_call_entry F.slot_tuple_iterator_next hit.typeIs F.entry_tuple_iterator_next ?_ (F.args_tuple_iterator_next_1 _)))
  refine wpAny_bind (m := field (.ref it) 0) (wpAny_field ho hd (x := .ref t) rfl ?_)
  show wpAny _ _ (if (Value.ref t == Value.none) = true then _ else _) _ _ s
  rw [if_neg (show ¬ ((Value.ref t == Value.none) = true) from Bool.false_ne_true)]
  refine wpAny_bind (m := field (.ref it) 1) (wpAny_field ho hd (x := .int i 0) rfl ?_)
  refine wpAny_bind (m := seqItems? (.ref t)) (wpAny_seqItems hol hdl ?_)
  simp only [Int.toNat_natCast, hx]
  refine wpAny_bind (wpAny_setField ho hd (by simp) (wpAny_pure ⟨x, rfl, wpAny_pure (hQ _ ⟨_, Heap.get?_update_self _ ho (Obj.isFreed_of_fields (Obj.data_mapFields hd _)), (Obj.cls_mapFields ..).trans hc, ?_⟩ (Heap.SameBut.update ..))⟩))
  rw [Obj.data_mapFields hd]
  simp [rawInt]
theorem nextOf_tuple_end {it t : Addr} {i : Nat} {items} {Q : Value → Shared → Prop} (hh : A.handled = none) (hit : s.heap.IsTupleIter it t i) (ht : s.heap.IsTuple t items) (hx : items[i]? = none)
    (hE : ∀ h' e, Heap.ExtBut it s.heap h' → (∃ o, h'.get? e = some o ∧ o.cls = .type "StopIteration") → E (.ref e) { s with heap := h' }) : wpAny (model prog w) A (Builtin.SmallTypes.nextOf (.ref it)) Q E s := by
  obtain ⟨o, ho, hc, hd⟩ := id hit
  obtain ⟨ol, hol, _, nl, hdl⟩ := ht
  unfold Builtin.SmallTypes.nextOf
  refine wpAny_bind (wpAny_callSpecial?_slot (name := Str.ofString "__next__") hit.typeIs F.slot_tuple_iterator_next (wpAny_call_entry F.slot_tuple_iterator_next hit.typeIs F.entry_tuple_iterator_next ?_ (F.args_tuple_iterator_next_1 _)))
  refine wpAny_bind (m := field (.ref it) 0) (wpAny_field ho hd (x := .ref t) rfl ?_)
  show wpAny _ _ (if (Value.ref t == Value.none) = true then _ else _) _ _ s
  rw [if_neg (show ¬ ((Value.ref t == Value.none) = true) from Bool.false_ne_true)]
  refine wpAny_bind (m := field (.ref it) 1) (wpAny_field ho hd (x := .int i 0) rfl ?_)
  refine wpAny_bind (m := seqItems? (.ref t)) (wpAny_seqItems hol hdl ?_)
  simp only [Int.toNat_natCast, hx]
  refine wpAny_bind (wpAny_rule (wpAny_bind (wpAny_setField ho hd (by simp) ?_)))
  refine wpAny_bind (m := newExc (.type "StopIteration") []) ?_
  simp only [newExc, newTuple]
  refine wpAny_bind (wpAny_newObj_type ?_ (by size_fits))
  refine wpAny_bind (m := firstArgMember _ _) (wpAny_of_eq (a := Value.none) (by first | rfl | (simp only [firstArgMember]; rfl)) ?_)
  refine wpAny_newObj_type ?_ (by size_fits)
  simp only [raiseNew]
  refine wpAny_bind (wpAny_handled ?_)
  first | rw [show A.in1.handled = none from hh] | rw [hh]
  exact wpAny_bind (wpAny_pure (wpAny_throw (hE _ _ (((Heap.SameBut.update ..).extBut.push _).push _) ⟨_, Heap.get?_push_size _ rfl, rfl⟩)))
end
theorem Hands.tuple {P : Program} {w : World} (it l : Addr) : Hands P w it l (fun k h => h.IsTupleIter it l k) (fun xs h => h.IsTuple l xs) where
  at_ := fun _ _ _ x y => x.at y
  sqAt := fun _ _ _ x y => x.at y
  obj := fun _ _ ⟨o, e, _, d⟩ => ⟨o, e, fun v z => by rw [d] at z; cases z⟩
  item := fun _ _ _ _ _ _ _ a b c d => nextOf_tuple_item a b c d
  fin := fun _ _ _ _ _ _ hh a b c d => nextOf_tuple_end hh a b c d
end L2
namespace L2
open PySem PySem.Spec PyProof.Rows
section
variable {prog : Program} {w : World} {A : Around} {E : Value → Shared → Prop} {s : Shared} {z TI TO i1 i2 l1 l2 : Addr} {st1 st2 : Nat → Heap → Prop} {sq1 sq2 : Array Value → Heap → Prop} {k1 k2 : Nat} {xs ys : Array Value} {x y a b : Value}
end
end L2
namespace L2
open PySem PySem.Spec PyProof.Rows
structure Begins (l : Addr) (nm : String) (sq : Array Value → Heap → Prop) : Prop where
  iter : ∀ (P : Program) (w : World) (A : Around) (s : Shared) (xs : Array Value) (Q : Value → Shared → Prop) (E : Value → Shared → Prop), sq xs s.heap →
    Q (.ref s.heap.objs.size) { s with heap := s.heap.push { cls := .type nm, data := .fields #[.ref l, .int 0 0] } } → wpAny (model P w) A (pyIter (.ref l)) Q E s
  sqAt : ∀ xs h h', sq xs h → (∀ o, h.get? l = some o → h'.get? l = some o) → sq xs h'
section
variable {l1 l2 : Addr} {n1 n2 : String} {sq1 sq2 : Array Value → Heap → Prop}
abbrev zh1 (h : Heap) (n1 : String) (l1 : Addr) : Heap := h.push { cls := .type n1, data := .fields #[.ref l1, .int 0 0] }
abbrev zh2 (h : Heap) (n1 n2 : String) (l1 l2 : Addr) : Heap := (zh1 h n1 l1).push { cls := .type n2, data := .fields #[.ref l2, .int 0 0] }
abbrev zh3 (h : Heap) (n1 n2 : String) (l1 l2 : Addr) : Heap := (zh2 h n1 n2 l1 l2).push { cls := .type "tuple", data := .seq #[.ref h.objs.size, .ref (zh1 h n1 l1).objs.size] }
abbrev zh4 (h : Heap) (n1 n2 : String) (l1 l2 : Addr) : Heap := (zh3 h n1 n2 l1 l2).push { cls := .type "tuple", data := .seq #[.none, .none] }
abbrev zh5 (h : Heap) (n1 n2 : String) (l1 l2 : Addr) : Heap := (zh4 h n1 n2 l1 l2).push { cls := .type "zip", data := .fields #[.none, .bool false, .bool false, .ref (zh2 h n1 n2 l1 l2).objs.size, .ref (zh3 h n1 n2 l1 l2).objs.size] }
variable {prog : Program} {w : World} {A : Around} {E : Value → Shared → Prop} {s : Shared}
end
section
variable {X : Cx} {pins : List (Addr × Obj)} {σ : St} {H : Hp} {s : Shared} {h' : Heap}
theorem Inv.turnedL {t' : Nat} (ch : List Addr) (I : Inv X pins σ H s) (k : ∀ b o, b ∉ ch → s.heap.get? b = some o → h'.get? b = some o) (hf : ∀ b ∈ ch, FpOk X pins H b) : Inv X pins σ H { s with heap := h', toks := t' } := by
  have nit : ∀ b u, H b = some u → b ∉ ch := fun b u e z => by rw [(hf b z).1] at e; cases e
  refine I.step (g' := s.gens) (d' := s.drawn) (ch := ch) (fun b hb => ⟨(hf b hb).2.2.2.1, (hf b hb).2.1, (hf b hb).2.2.2.2.1, (hf b hb).2.2.2.2.2⟩) (fun b o _ _ hc e _ => k b o hc e) (fun b o _ _ hc e _ => ⟨o.slots, k b o hc e⟩) (fun _ _ _ _ n => n)
    (fun b o hc e => ⟨o, k b o hc e⟩) (fun _ _ e => e) (fun _ _ _ e => e) (fun b ps e => ⟨#[], by rw [e]; simp⟩) (fun m hm => ?_) (fun b u e => ?_) I.bare
  · obtain ⟨o, es, ep, ho, r⟩ := hm
    exact ⟨o, es, ep, k _ o (fun z => (hf _ z).2.1 rfl) ho, r⟩
  · refine (I.hok b u e).stay (fun c v hc q => k c v ?_ q) (fun _ q => q) fun _ _ q => q
    rcases hc with z | z
    · rw [z]; exact nit b u e
    · exact nit c _ z
theorem Inv.turnedNew {t' : Nat} {T : Addr} {xs : List V} (ch : List Addr) (I : Inv X pins σ H s) (k : ∀ b o, b ∉ ch → s.heap.get? b = some o → h'.get? b = some o) (hf : ∀ b ∈ ch, FpOk X pins H b) (hT : s.heap.objs.size ≤ T)
    (new : ObjOk X.prog X.w (upd H T (.tup xs)) h' T (.tup xs)) : Inv X pins σ (upd H T (.tup xs)) { s with heap := h', toks := t' } := by
  have hn : H T = none := I.hok.fresh hT
  have nit : ∀ b u, H b = some u → b ∉ ch := fun b u e z => by rw [(hf b z).1] at e; cases e
  have neT : ∀ b o, s.heap.get? b = some o → b ≠ T := fun b o e z => by subst z; exact absurd (Nat.lt_of_lt_of_le (Heap.lt_size e) hT) (Nat.lt_irrefl _)
  refine I.step (g' := s.gens) (d' := s.drawn) (ch := ch) (fun b hb => ⟨(hf b hb).2.2.2.1, (hf b hb).2.1, (hf b hb).2.2.2.2.1, (hf b hb).2.2.2.2.2⟩) (fun b o _ _ hc e _ => k b o hc e) (fun b o _ _ hc e _ => ⟨o.slots, k b o hc e⟩) (fun b o _ e n => by rw [upd_ne (neT b o e)]; exact n)
    (fun b o hc e => ⟨o, k b o hc e⟩) (fun b _ e => by rw [upd_ne (ne_of_none e hn)]; exact e) (fun b _ _ e => by rw [upd_ne (ne_of_none e hn)]; exact e) (fun b ps e => ⟨#[], by rw [upd_ne (ne_of_none e hn), e]; simp⟩) (fun m hm => ?_) (fun b u e => ?_) I.bare
  · obtain ⟨o, es, ep, ho, r⟩ := hm
    exact ⟨o, es, ep, k _ o (fun z => (hf _ z).2.1 rfl) ho, r⟩
  · by_cases hb : b = T
    · subst hb
      rw [upd_same] at e
      cases e
      exact new
    · rw [upd_ne hb] at e
      refine (I.hok b u e).stay (fun c v hc q => k c v ?_ q) (fun c q => by rw [upd_ne (ne_of_none q hn)]; exact q) fun c _ q => by rw [upd_ne (ne_of_none q hn)]; exact q
      rcases hc with z | z
      · rw [z]; exact nit b u e
      · exact nit c _ z
end
end L2
namespace L2
open PySem PySem.Spec PyProof.Rows
def SqB (b : Bool) (K : PySem.W.Frag) (H : Hp) (a : Addr) (xs : List V) : Prop := match b with | true => SqL K H a xs | false => SqT K H a xs
def itB (b : Bool) (it l : Addr) (k : Nat) (h : Heap) : Prop := match b with | true => h.IsListIter it l k | false => h.IsTupleIter it l k
def sqB (b : Bool) (l : Addr) (xs : Array Value) (h : Heap) : Prop := match b with | true => h.IsList l xs | false => h.IsTuple l xs
def nmB (b : Bool) : String := match b with | true => "list_iterator" | false => "tuple_iterator"
theorem handsB {P : Program} {w : World} (b : Bool) (it l : Addr) : Hands P w it l (itB b it l) (sqB b l) := match b with | true => Hands.list it l | false => Hands.tuple it l
section
variable {X : Cx} {pins : List (Addr × Obj)} {σ : St} {H : Hp} {s : Shared} {a : Addr} {xs ys : List V} {b : Bool}
theorem Inv.sqB (I : Inv X pins σ H s) (h : SqB b X.K H a xs) : ∃ its : List Value, Vals xs its ∧ L2.sqB b a its.toArray s.heap := by
  cases b with
  | true => obtain ⟨its, r, p, _⟩ := I.list h; exact ⟨its, r, p.isList⟩
  | false => obtain ⟨its, r, p, _⟩ := I.tuple h; exact ⟨its, r, p⟩
theorem Inv.sqB_inj (I : Inv X pins σ H s) (h : SqB b X.K H a xs) (h' : SqB b X.K H a ys) : xs = ys := by
  cases b with
  | true => exact I.list_inj h h'
  | false => exact I.tuple_inj h h'
theorem sqB_lt {its : Array Value} {h : Heap} (e : L2.sqB b a its h) : a < h.objs.size := by
  cases b with
  | true => obtain ⟨o, e, _⟩ := e; exact Heap.lt_size e
  | false => obtain ⟨o, e, _⟩ := e; exact Heap.lt_size e
end
def Itz (K : PySem.W.Frag) (b1 b2 : Bool) (a1 a2 : Addr) : It :=
  ⟨fun i H => ∃ xs ys x y, SqB b1 K H a1 xs ∧ SqB b2 K H a2 ys ∧ xs[i]? = some x ∧ ys[i]? = some y,
   fun i H v H' => ∃ T x y, v = .ref T ∧ H T = none ∧ H' = upd H T (.tup [x, y]) ∧ ∀ xs ys, SqB b1 K H a1 xs → SqB b2 K H a2 ys → xs[i]? = some x ∧ ys[i]? = some y,
   fun i H => ∃ xs ys, SqB b1 K H a1 xs ∧ SqB b2 K H a2 ys ∧ (xs.length ≤ i ∨ ys.length ≤ i)⟩
def tnZ (b1 b2 : Bool) (z TI TO i1 i2 a1 a2 : Addr) (i : Nat) (h : Heap) : Prop :=
  IsZip h z TI TO .none ∧ IsPair h TI (.ref i1) (.ref i2) ∧ (∃ a b, IsPair h TO a b) ∧ itB b1 i1 a1 i h ∧ itB b2 i2 a2 i h
def iZip (K : PySem.W.Frag) (ta : TA) : TI := fun σ H R => ta σ H fun vs H1 => ∃ a1 a2 b1 b2, vs = [.ref a1, .ref a2] ∧ (∃ xs, SqB b1 K H1 a1 xs) ∧ (∃ ys, SqB b2 K H1 a2 ys) ∧ R (Itz K b1 b2 a1 a2) H1
end L2
namespace DL
open PySem PySem.Spec PyProof.Rows L2
section
variable {K : Fg} {ok : DH → Prop} {gg : DG} {ge : DE} {k : DK} {ds : List D} {L : Lo} {S : DH} {σ : L2.St} {H : Hp} {J : It} {p : Addr} {Q : V → Hp → Prop}
end
theorem seq_kd {K : Fg} {S1 : DH} {H1 : Hp} {d : D} {v : V} {p : List D × Option Addr} (hS1 : Hs K H1 S1) (i1 : IsD K H1 d v) (hp : dItems S1 d = some p) : ∃ a b, v = .ref a ∧
    (∃ xs, SqB b K H1 a xs) ∧ ∀ S2 H2, Kp H1 H2 → Hs K H2 S2 → okFor p S2 → ∃ xs, SqB b K H2 a xs ∧ IsDs K H2 p.1 xs := by
  cases d with
  | tup ds =>
    cases hp
    obtain ⟨a, xs, rfl, t, j⟩ := isTup.mp i1
    exact ⟨a, false, rfl, ⟨xs, t⟩, fun S2 H2 k2 _ _ => ⟨xs, k2.tup t, j.kp k2⟩⟩
  | rl ds =>
    cases hp
    obtain ⟨a, xs, rfl, t, j⟩ := isRl.mp i1
    exact ⟨a, true, rfl, ⟨xs, t.sq⟩, fun S2 H2 k2 _ _ => ⟨xs, (k2.fro t).sq, j.kp k2⟩⟩
  | ref a =>
    have e1 := isRef.mp i1
    subst e1
    cases z : S1 a with
    | none => simp only [dItems, z] at hp; cases hp
    | some o =>
      cases o with
      | dic => simp only [dItems, z] at hp; cases hp
      | exc _ => simp only [dItems, z] at hp; cases hp
      | fn _ => simp only [dItems, z] at hp; cases hp
      | tbl _ => simp only [dItems, z] at hp; cases hp
      | gen _ => simp only [dItems, z] at hp; cases hp
      | lst ds =>
        simp only [dItems, z] at hp
        cases hp
        obtain ⟨xs, hl, j⟩ := hS1.lst z
        refine ⟨a, true, rfl, ⟨xs, SqL.of hl⟩, fun S2 H2 k2 hS2 o2 => ?_⟩
        obtain ⟨ys, hl2, j2⟩ := hS2.lst o2
        exact ⟨ys, SqL.of hl2, j2⟩
  | _ => cases hp
def zipD (xs ys : List D) : List D := List.zipWith (fun a b => D.tup [a, b]) xs ys
def dCompZ (cap : List (Option Nat)) (ta : DA) (g : DG) (bd : DB) : DE := fun L S k => ta L S fun ds S1 => match ds with
  | [d1, d2] => ∃ q1 q2, dItems S1 d1 = some q1 ∧ dItems S1 d2 = some q2 ∧ ∀ p, S1 p = none → dCLoop (fun S => okFor q1 S ∧ okFor q2 S) p g bd k (zipD q1.1 q2.1) [] (capL cap L) (put S1 p (.lst []))
  | _ => False
section
variable {X : Cx} {elt a b : Expr} {es : List Expr} {kt : Nat} {tp : Pos} {scope : Scope} {cl : List (Str × Addr)} {N : List Str} {cap : List (Option Nat)} {pos p pos' : Pos} {gg : DG} {ge : DE} {ta : DA}
end
end DL
namespace DL
open PySem PySem.Spec PyProof.Rows L2
theorem ok_self {S : DH} {d : D} {q : List D × Option Addr} (h : dItems S d = some q) : okFor q S := by
  cases d with
  | tup ds => cases h; trivial
  | rl ds => cases h; trivial
  | ref a =>
    simp only [dItems] at h
    split at h
    · rename_i z; cases h; exact z
    · cases h
  | _ => cases h
def bAllE : DSp := fun ds S k => match ds with
  | [d] => ∃ (q : List D × Option Addr) (bs : List Bool), dItems S d = some q ∧ q.1 = bs.map D.bl ∧ k (.bl (bs.all id)) S
  | _ => False
end DL
namespace DL
open PySem PySem.Spec PyProof.Rows L2
theorem kitx_D {X : Cx} {pins : List (Addr × Obj)} {σ : L2.St} {H : Hp} {s : Shared} {S : DH} {d : D} {x : V} {u : Value} {t : Ty} (I : Inv X pins σ H s) (hS : Hs X.K H S) (i : IsD X.K H d x) (r : RelV x u) (h : tyD S d = some t) :
    ∃ Hh : Heap → Prop, PySem.W.KitX X.K u (.type t.name) Hh ∧ Hh s.heap ∧ u ≠ .builtin "__main__.__loader__#opaque" := by
  cases d with
  | non => cases h; rw [isNon.mp i] at r; cases (show u = Value.none from r); exact ⟨_, PySem.W.kitx_none, True.intro, fun z => nomatch z⟩
  | bl b => cases h; rw [isBl.mp i] at r; cases (show u = Value.bool b from r); exact ⟨_, PySem.W.kitx_bool, True.intro, fun z => nomatch z⟩
  | int b => cases h; rw [isInt.mp i] at r; obtain ⟨tk, q⟩ := (show ∃ t, u = Value.int b t from r); cases q; exact ⟨_, PySem.W.kitx_int, True.intro, fun z => nomatch z⟩
  | str b => cases h; rw [isStr.mp i] at r; obtain ⟨tk, q⟩ := (show ∃ t, u = Value.str b t from r); cases q; exact ⟨_, PySem.W.kitx_str, True.intro, fun z => nomatch z⟩
  | tup ds =>
    cases h
    obtain ⟨a, vs, rfl, q, _⟩ := isTup.mp i
    cases (show u = Value.ref a from r)
    obtain ⟨its, _, ⟨o, h1, h2, _⟩, _⟩ := I.tuple q
    exact ⟨_, PySem.W.kitx_tuple, ⟨o, h1, h2⟩, fun z => nomatch z⟩
  | rl ds => cases h
  | ty n => cases h
  | ref a =>
    rw [isRef.mp i] at r
    cases (show u = Value.ref a from r)
    have h : tyR (S a) = some t := h
    cases z : S a with
    | none => rw [z] at h; cases h
    | some o =>
      rw [z] at h
      cases o with
      | lst ds =>
        cases h
        obtain ⟨vs, e, _⟩ := hS.lst z
        obtain ⟨its, _, ⟨o, n, h1, h2, _⟩, _⟩ := I.list (SqL.of e)
        exact ⟨_, PySem.W.kitx_list, ⟨o, h1, h2⟩, fun z => nomatch z⟩
      | dic =>
        cases h
        obtain ⟨vs, e⟩ := hS _ _ z
        obtain ⟨_, _, vs', _, p⟩ := (show ObjOk X.prog X.w H s.heap a (.dK vs) from I.hok a _ e)
        obtain ⟨o, es, ep, h1, h2, _⟩ := p
        exact ⟨_, PySem.W.kitx_dict, ⟨o, h1, h2.1⟩, fun z => nomatch z⟩
      | exc _ => cases h
      | fn _ => cases h
      | tbl _ => cases h
      | gen _ => cases h
theorem kitAny_of {K : Fg} (t : Ty) : ∀ cs : List Ty, PySem.W.kitAny K (.type t.name) (cs.map fun c => .type c.name) = some (cs.any (subT t))
  | [] => rfl
  | c :: r => by
    have ih := kitAny_of (K := K) t r
    rw [List.map_cons, PySem.W.kitAny, kit_of]
    cases z : subT t c with
    | true => simp [z]
    | false => simp only [List.any_cons, z, Bool.false_or]; exact ih
theorem isDs_tys {K : Fg} {H : Hp} : ∀ {cs : List Ty} {xs : List V}, IsDs K H (cs.map D.ty) xs → xs = cs.map fun c => V.ty c.name
  | [], _, h => isNil.mp h
  | b :: bs, _, h => by
    obtain ⟨v, r, rfl, h1, h2⟩ := isCons.mp h
    rw [isTy.mp h1, isDs_tys h2]
    rfl
theorem vals_tys : ∀ {cs : List Ty} {us : List Value}, Vals (cs.map fun c => V.ty c.name) us → us = cs.map fun c => Value.type c.name
  | [], _, .nil => rfl
  | b :: bs, _, .cons r t => by
    cases r
    rw [vals_tys t]
    rfl
def bIsiX : DSp := fun ds S k => match ds with
  | [d, .ty c] => ∃ t, tyD S d = some t ∧ k (.bl (subT t c)) S
  | [d, .tup cs] => ∃ (t : Ty) (ts : List Ty), tyD S d = some t ∧ cs = ts.map D.ty ∧ k (.bl (ts.any (subT t))) S
  | _ => False
theorem b_isiX {X : Cx} : CallR X (.builtin "isinstance") (upC X.K bIsiX) := by
  intro pins s σ H xs us Q I rs h
  obtain ⟨ds, S, k, i, hS, r, n⟩ := h
  unfold bIsiX at r
  split at r
  · rename_i d c
    obtain ⟨t, ht, r⟩ := r
    obtain ⟨x, y, rfl, i1, i2⟩ := isDs2 i
    have e2 := isTy.mp i2
    subst e2
    obtain ⟨u, w', rfl, r1, r2⟩ := vals2 rs
    cases (show w' = Value.type c.name from r2)
    obtain ⟨Hh, kx, p, nb⟩ := kitx_D I hS i1 r1 ht
    exact PySem.W.kia_one kx I.kIn p (kit_of t c) nb fun tk => ⟨.bl (subT t c), H, I.tok tk, rfl, n _ _ _ _ r (Kp.refl H) hS (isBl.mpr rfl)⟩
  · rename_i d cs
    obtain ⟨t, ts, ht, rfl, r⟩ := r
    obtain ⟨x, y, rfl, i1, i2⟩ := isDs2 i
    obtain ⟨a, vs, rfl, q, j⟩ := isTup.mp i2
    have ev := isDs_tys j
    subst ev
    obtain ⟨u, w', rfl, r1, r2⟩ := vals2 rs
    cases (show w' = Value.ref a from r2)
    obtain ⟨Hh, kx, p, nb⟩ := kitx_D I hS i1 r1 ht
    obtain ⟨its, rv, ⟨o, h1, h2, m, h3⟩, _⟩ := I.tuple q
    have ei := vals_tys rv
    subst ei
    obtain ⟨oc, od, odt, os⟩ := o
    cases h2
    cases h3
    exact PySem.W.kia_tup kx I.kIn p h1 (kitAny_of t ts) nb fun tk => ⟨.bl (ts.any (subT t)), H, I.tok tk, rfl, n _ _ _ _ r (Kp.refl H) hS (isBl.mpr rfl)⟩
  · exact r.elim
end DL
namespace DL
open PySem PySem.Spec PyProof.Rows L2
section
variable {X : Cx} {o e a b c : Expr} {go ge ga gb gc : DE} {apos cpos pos : Pos}
def dApp (go ge : DE) : DE := fun L S k => go L S fun d S1 => match d with
  | .ref a => (∃ ds, S1 a = some (.lst ds)) ∧ ge L S1 fun e S2 => ∃ ds, S2 a = some (.lst ds) ∧ ds.length < sizeLine ∧ k .non (put S2 a (.lst (ds ++ [e])))
  | _ => False
theorem d_appj (ho : EJ X o go) (he : EJ X e ge) (hbase : attributeBase o "append" X.env (eval o X.env) = eval o X.env := by rfl)
    (hfew : ((backTo cpos (starEach [e] X.env)).all (fun x => !x.1) && (backToKw cpos (keywordEach [] X.env)).all (fun x => x.1.isSome) && decide ([e].length + ([] : List Keyword).length + (if ([] : List Keyword).isEmpty then 0 else 1) < 30)) = true := by rfl)
    (hline : (apos.endLine == cpos.line) = true := by rfl) (hs : starEach [e] X.env = (false, eval e X.env) :: starEach [] X.env := by rfl) (hpl : (backTo cpos (starEach [] X.env)).any (·.1) = false := by rfl) :
    EJ X (.Call (.Attribute o "append" apos) [e] [] cpos) (dApp go ge) :=
  ⟨PE.imp (pe_bm PySem.F.plainAttrs_list PySem.F.slot_list_append PySem.F.type_list_append mt_append ho.h (pa_cons he.h pa_nil hs) hbase hfew hline hs hpl) fun σ H Q ⟨L, S, k, hL, hS, h, n⟩ => up.go hL hS h fun d S1 v H1 h1 k1 hL1 hS1 i1 => by
    cases d with
    | ref a =>
      have e1 := isRef.mp i1
      subst e1
      obtain ⟨⟨ds1, z1⟩, h1⟩ := h1
      obtain ⟨xs1, hl1, _⟩ := hS1.lst z1
      refine ⟨.inl ⟨rfl, xs1, SqL.of hl1⟩, up.go hL1 hS1 h1 fun d2 S2 v2 H2 h2 k2 hL2 hS2 i2 => ?_⟩
      obtain ⟨ds, z, hz, w⟩ := h2
      obtain ⟨xs, hl, j⟩ := hS2.lst z
      have k3 : Kp H2 (upd H2 a (.lst (xs ++ [v2]))) := Kp.mut hl (fun z => z)
      exact ⟨a, xs, v2, rfl, rfl, hl, by rw [← j.length]; exact hz, n _ _ _ _ w (k1.trans (k2.trans k3)) (hS2.setL hl (j.append (IsDs.cons i2 IsDs.nil))) (isNon.mpr rfl)⟩
    | _ => exact (show False from h1).elim⟩
def dExt (go ge : DE) : DE := fun L S k => go L S fun d S1 => match d with
  | .ref a => (∃ ds, S1 a = some (.lst ds)) ∧ ge L S1 fun e S2 => match e with
    | .ref b => ∃ ds es, S2 a = some (.lst ds) ∧ S2 b = some (.lst es) ∧ ds.length + es.length ≤ sizeLine ∧ k .non (put S2 a (.lst (ds ++ es)))
    | _ => False
  | _ => False
theorem d_extj (ho : EJ X o go) (he : EJ X e ge) (hbase : attributeBase o "extend" X.env (eval o X.env) = eval o X.env := by rfl)
    (hfew : ((backTo cpos (starEach [e] X.env)).all (fun x => !x.1) && (backToKw cpos (keywordEach [] X.env)).all (fun x => x.1.isSome) && decide ([e].length + ([] : List Keyword).length + (if ([] : List Keyword).isEmpty then 0 else 1) < 30)) = true := by rfl)
    (hline : (apos.endLine == cpos.line) = true := by rfl) (hs : starEach [e] X.env = (false, eval e X.env) :: starEach [] X.env := by rfl) (hpl : (backTo cpos (starEach [] X.env)).any (·.1) = false := by rfl) :
    EJ X (.Call (.Attribute o "extend" apos) [e] [] cpos) (dExt go ge) :=
  ⟨PE.imp (pe_bm PySem.F.plainAttrs_list PySem.F.slot_list_extend PySem.F.type_list_extend mt_extend ho.h (pa_cons he.h pa_nil hs) hbase hfew hline hs hpl) fun σ H Q ⟨L, S, k, hL, hS, h, n⟩ => up.go hL hS h fun d S1 v H1 h1 k1 hL1 hS1 i1 => by
    cases d with
    | ref a =>
      have e1 := isRef.mp i1
      subst e1
      obtain ⟨⟨ds1, z1⟩, h1⟩ := h1
      obtain ⟨xs1, hl1, _⟩ := hS1.lst z1
      refine ⟨.inl ⟨rfl, xs1, SqL.of hl1⟩, up.go hL1 hS1 h1 fun d2 S2 v2 H2 h2 k2 hL2 hS2 i2 => ?_⟩
      cases d2 with
      | ref b =>
        have e2 := isRef.mp i2
        subst e2
        obtain ⟨ds, es, z, y, hz, w⟩ := h2
        obtain ⟨xs, hl, j⟩ := hS2.lst z
        obtain ⟨ys, hm, i⟩ := hS2.lst y
        have k3 : Kp H2 (upd H2 a (.lst (xs ++ ys))) := Kp.mut hl (fun z => z)
        exact ⟨a, b, xs, ys, rfl, rfl, hl, hm, by rw [← j.length, ← i.length]; exact hz, n _ _ _ _ w (k1.trans (k2.trans k3)) (hS2.setL hl (j.append i)) (isNon.mpr rfl)⟩
      | _ => exact (show False from h2).elim
    | _ => exact (show False from h1).elim⟩
def dChain (r r' : D2) (ga gb gc : DE) : DE := fun L S k => ga L S fun x S1 => gb L S1 fun y S2 => r x y S2 fun z S3 => match z with
  | .bl t => if t = true then gc L S3 fun w S4 => r' y w S4 k else k (.bl false) S3
  | _ => False
end
end DL
namespace DL
open PySem PySem.Spec PyProof.Rows L2
theorem for_coreG {K : Fg} {ok : DH → Prop} {gg : DG} {b : DS} {M : DEnds} {ds : List D} {L : Lo} {S : DH} {N : Ends} {σ : L2.St} {H : Hp} {J : It} (hL : Lc K H L σ) (hS : Hs K H S) (h : dLoop ok gg b M ds L S) (r : Rch K H M N)
    (hgo : ∀ i d S1 H1, ds[i]? = some d → Kp H H1 → Hs K H1 S1 → ok S1 → J.go i H1 ∧ ∀ x H', J.yld i H1 x H' → Kp H1 H' ∧ Hs K H' S1 ∧ IsD K H' d x)
    (hst : ∀ S1 H1, Kp H H1 → Hs K H1 S1 → ok S1 → J.stop ds.length H1) :
    ∃ W : Nat → Nat → L2.St → Hp → Prop, (∃ m, W 0 m σ H) ∧ ∀ i m σ H, W i m σ H →
      (J.stop i H ∧ N.nx σ H) ∨ (J.go i H ∧ ∃ N' : L2.St → Hp → Prop, (∀ σ' H', N' σ' H' → ∃ m', m' < m ∧ W (i + 1) m' σ' H') ∧ ∀ x H', J.yld i H x H' → upG K gg x σ H' fun σ2 H2 => upS K b { N with nx := N', ct := N', bk := N.nx } σ2 H2) := by
  refine ⟨fun i m σ1 H1 => m = ds.length - i ∧ i ≤ ds.length ∧ ∃ L1 S1, Lc K H1 L1 σ1 ∧ Hs K H1 S1 ∧ Kp H H1 ∧ dLoop ok gg b M (ds.drop i) L1 S1, ⟨ds.length, by simp, Nat.zero_le _, L, S, hL, hS, Kp.refl H, h⟩, ?_⟩
  rintro i m σ1 H1 ⟨rfl, hi, L1, S1, hL1, hS1, k1, w1⟩
  by_cases hlt : i < ds.length
  · have e : ds.drop i = ds[i] :: ds.drop (i + 1) := List.drop_eq_getElem_cons hlt
    rw [e] at w1
    obtain ⟨o1, w1⟩ := w1
    obtain ⟨g1, y1⟩ := hgo i ds[i] S1 H1 (by simp [hlt]) k1 hS1 o1
    refine .inr ⟨g1, fun σ' H' => i + 1 ≤ ds.length ∧ ∃ L' S', Lc K H' L' σ' ∧ Hs K H' S' ∧ Kp H H' ∧ dLoop ok gg b M (ds.drop (i + 1)) L' S', fun σ' H' ⟨q1, q2⟩ => ⟨ds.length - (i + 1), by omega, rfl, q1, q2⟩, fun x H' y => ?_⟩
    obtain ⟨k0, hS0, ix⟩ := y1 x H' y
    have k10 := k1.trans k0
    refine ⟨ds[i], L1, S1, _, ix, hL1.kp k0, hS0, w1, fun L2 S2 σ2 H2 q k2 hL2 hS2 => ⟨L2, S2, _, hL2, hS2, q, ?_⟩⟩
    have r2 := r.kp (k10.trans k2)
    exact ⟨fun L3 S3 σ3 H3 q3 k3 hL3 hS3 => ⟨hlt, L3, S3, hL3, hS3, (k10.trans k2).trans k3, q3⟩, r2.rt, r2.nx, fun L3 S3 σ3 H3 q3 k3 hL3 hS3 => ⟨hlt, L3, S3, hL3, hS3, (k10.trans k2).trans k3, q3⟩⟩
  · have e : i = ds.length := by omega
    subst e
    rw [List.drop_length] at w1
    obtain ⟨o1, w1⟩ := w1
    exact .inl ⟨hst S1 H1 k1 hS1 o1, r.nx L1 S1 σ1 H1 w1 k1 hL1 hS1⟩
def dForZ (ta : DA) (g : DG) (b : DS) : DS := fun M L S => ta L S fun ds S1 => match ds with
  | [d1, d2] => ∃ q1 q2, dItems S1 d1 = some q1 ∧ dItems S1 d2 = some q2 ∧ dLoop (fun S => okFor q1 S ∧ okFor q2 S) g b M (zipD q1.1 q2.1) L S1
  | _ => False
section
variable {X : Cx} {a b : Expr} {es : List Expr} {kt : Nat} {tp p pos pos' : Pos} {gg : DG} {ta : DA} {g : DS} {body : List Stmt} {tg : Expr}
def rngD (i j : Int) : List D := (List.range (j - i).toNat).map fun (n : Nat) => D.int (i + n)
def dForR2 (ta : DA) (g : DG) (b : DS) : DS := fun M L S => ta L S fun ds S1 => match ds with
  | [.int i, .int j] => (-(2 ^ 62) ≤ i ∧ i < 2 ^ 62 ∧ -(2 ^ 62) ≤ j ∧ j < 2 ^ 62) ∧ dLoop (fun _ => True) g b M (rngD i j) L S1
  | _ => False
end
section
variable {X : Cx} {elt tg a b : Expr} {scope : Scope} {cl : List (Str × Addr)} {N : List Str} {cap : List (Option Nat)} {pos p pos' : Pos} {gg : DG} {ge : DE} {ta : DA}
def dCompR2 (cap : List (Option Nat)) (ta : DA) (g : DG) (bd : DB) : DE := fun L S k => ta L S fun ds S1 => match ds with
  | [.int i, .int j] => (-(2 ^ 62) ≤ i ∧ i < 2 ^ 62 ∧ -(2 ^ 62) ≤ j ∧ j < 2 ^ 62) ∧ ∀ p, S1 p = none → dCLoop (fun _ => True) p g bd k (rngD i j) [] (capL cap L) (put S1 p (.lst []))
  | _ => False
end
def flatD : D → Bool
  | .int _ => true | .bl _ => true | .str _ => true | .non => true | _ => false
def vOf : D → V
  | .int i => .int i | .bl b => .bl b | .str x => .str x | _ => .non
theorem isFlat {K : Fg} {H : Hp} {d : D} {v : V} (f : flatD d = true) (i : IsD K H d v) : v = vOf d ∧ flatV v = true := by
  cases d with
  | int n => rw [isInt.mp i]; exact ⟨rfl, rfl⟩
  | bl n => rw [isBl.mp i]; exact ⟨rfl, rfl⟩
  | str n => rw [isStr.mp i]; exact ⟨rfl, rfl⟩
  | non => rw [isNon.mp i]; exact ⟨rfl, rfl⟩
  | _ => cases f
theorem isFlats {K : Fg} {H : Hp} : ∀ {ds : List D} {vs : List V}, ds.all flatD = true → IsDs K H ds vs → vs = ds.map vOf ∧ vs.all flatV = true
  | [], _, _, i => by rw [isNil.mp i]; exact ⟨rfl, rfl⟩
  | d :: ds, _, f, i => by
    obtain ⟨v, r, rfl, h1, h2⟩ := isCons.mp i
    rw [List.all_cons, Bool.and_eq_true] at f
    obtain ⟨a1, a2⟩ := isFlat f.1 h1
    obtain ⟨b1, b2⟩ := isFlats f.2 h2
    exact ⟨by rw [a1, b1]; rfl, by rw [List.all_cons, a2, b2]; rfl⟩
def dInE (neg : Bool) : D2 := fun d e S k => ∃ q, dItems S e = some q ∧ flatD d = true ∧ q.1.all flatD = true ∧ k (.bl (if neg then !inV (vOf d) (q.1.map vOf) else inV (vOf d) (q.1.map vOf))) S
theorem in_go {K : Fg} {neg : Bool} : ∀ x y H Q, upR K (dInE neg) x y H Q → rIn K neg x y H Q := fun x y H Q ⟨d, e, S, k, i1, i2, hS, h, n⟩ => by
  obtain ⟨q, e1, f1, f2, w⟩ := h
  obtain ⟨a, b, rfl, _, y⟩ := seq_kd hS i2 e1
  obtain ⟨xs, w1, w2⟩ := y S H (Kp.refl H) hS (ok_self e1)
  obtain ⟨a1, a2⟩ := isFlat f1 i1
  obtain ⟨b1, b2⟩ := isFlats f2 w2
  refine ⟨a, xs, rfl, (by cases b with | true => exact .inl w1 | false => exact .inr w1), a2, b2, n _ _ _ _ w (Kp.refl H) hS (isBl.mpr ?_)⟩
  rw [a1, b1]
theorem o_inE {X : Cx} : OpR X (compareOp .In) (upR X.K (dInE false)) := OpR.imp op_in_seq in_go
end DL
namespace DL
open PySem PySem.Spec PyProof.Rows L2
section
variable {X : Cx} {o e : Expr} {go ge : DE} {apos cpos pos : Pos}
def dPop1 (go ge : DE) : DE := fun L S k => go L S fun d S1 => match d with
  | .ref a => (∃ ds, S1 a = some (.lst ds)) ∧ ge L S1 fun e S2 => match e with
    | .int i => ∃ ds n c, S2 a = some (.lst ds) ∧ -(2 ^ 63) ≤ i ∧ i < 2 ^ 63 ∧ seqIndex? i ds.length = some n ∧ ds[n]? = some c ∧ k c (put S2 a (.lst (ds.eraseIdx n)))
    | _ => False
  | _ => False
def dClr (go : DE) : DE := fun L S k => go L S fun d S1 => match d with
  | .ref a => ∃ ds, S1 a = some (.lst ds) ∧ k .non (put S1 a (.lst []))
  | _ => False
end
end DL
namespace DL
open PySem PySem.Spec PyProof.Rows L2
section
variable {X : Cx} {pos : Pos}
def dCutE (g : DE) (tl th : DOp) : DE := fun L S k => g L S fun x S1 => tl L S1 fun lo S2 => th L S2 fun hi S3 => match x with
  | .tup xs => ¬ (HT.sIx xs.length 0 lo = 0 ∧ HT.sIx xs.length xs.length hi = xs.length) ∧ k (.tup (cutD xs lo hi)) S3
  | .rl xs => ∀ p, S3 p = none → k (.ref p) (put S3 p (.lst (cutD xs lo hi)))
  | .ref a => ∃ xs, S3 a = some (.lst xs) ∧ ∀ p, S3 p = none → k (.ref p) (put S3 p (.lst (cutD xs lo hi)))
  | _ => False
theorem d_cutEj {e : Expr} {g : DE} {lo hi : Option Expr} {tl th : DOp} {p2 pos : Pos} (he : EJ X e g) (hl : OJ X lo tl) (hu : OJ X hi th) : EJ X (.Subscript e (.Slice lo hi none p2) pos) (dCutE g tl th) :=
  ⟨PE.imp (pe_slice (SlR.or sl_tup sl_list) he.h hl.h hu.h) fun σ H Q ⟨L, S, k, hL, hS, h, n⟩ => up.go hL hS h fun d S1 v H1 h1 k1 hL1 hS1 i1 => by
    refine ⟨L, S1, _, hL1, hS1, h1, fun lo' S2 H2 h2 k2 hS2 => ⟨L, S2, _, hL1.kp k2, hS2, h2, fun hi' S3 H3 h3 k3 hS3 => ?_⟩⟩
    cases d with
    | tup xs =>
      obtain ⟨a, vs, rfl, t, j⟩ := isTup.mp i1
      have j3 := j.kp (k2.trans k3)
      refine .inl ⟨a, vs, rfl, (k2.trans k3).tup t, by rw [← j.length]; exact h3.1, fun p hp => ?_⟩
      have k4 : Kp H3 (upd H3 p (.tup (cutV vs lo' hi'))) := Kp.new hp
      refine n _ S3 _ _ h3.2 (k1.trans (k2.trans (k3.trans k4))) (hS3.new hp) (isTup.mpr ⟨p, _, rfl, SqT.of upd_same, ?_⟩)
      unfold cutD cutV
      rw [j.length]
      exact ((j3.drop _).take _).kp k4
    | rl xs =>
      obtain ⟨a, vs, rfl, t, j⟩ := isRl.mp i1
      have j3 := j.kp (k2.trans k3)
      refine .inr ⟨a, vs, rfl, ((k2.trans k3).fro t).sq, fun p hp => ?_⟩
      refine n _ _ _ _ (h3 p (hS3.free hp)) (k1.trans (k2.trans (k3.trans (Kp.new hp)))) (hS3.newL hp ?_) (isRef.mpr rfl)
      unfold cutD cutV
      rw [j.length]
      exact (j3.drop _).take _
    | ref a =>
      have e1 := isRef.mp i1
      subst e1
      obtain ⟨xs, z, h3⟩ := h3
      obtain ⟨vs, hl, j⟩ := hS3.lst z
      refine .inr ⟨a, vs, rfl, SqL.of hl, fun p hp => ?_⟩
      refine n _ _ _ _ (h3 p (hS3.free hp)) (k1.trans (k2.trans (k3.trans (Kp.new hp)))) (hS3.newL hp ?_) (isRef.mpr rfl)
      unfold cutD cutV
      rw [j.length]
      exact (j.drop _).take _
    | _ => exact (show False from h3).elim⟩
theorem d_compEIfj {elt tg iter c : Expr} {scope : Scope} {cl : List (Str × Addr)} {N : List Str} {cap : List (Option Nat)} {gg : DG} {ge gi : DE} {gc : DT} (hc : X.calm = true) (Sc : CompSc X scope cl N cap) (hi : EJ X iter gi) (hg : ∀ s0 H0 ex C, GJ (cxC X scope cl N s0 H0 ex C) tg gg) (hcnd : ∀ s0 H0 ex C, TJ (cxC X scope cl N s0 H0 ex C) c gc) (he : ∀ s0 H0 ex C, EJ (cxC X scope cl N s0 H0 ex C) elt ge)
    (hs : ∀ x, foldedSetIterable iter X.env x = pure x := by intro _; rfl) : EJ X (.ListComp elt [⟨tg, iter, [c], 0⟩] scope pos) (dCompE cap gi gg (bdIf gc ge)) :=
  ⟨PE.imp (pe_compIf hc Sc (pi_seq hi.h) (fun s0 H0 ex C => (hg s0 H0 ex C).h) (fun s0 H0 ex C => (hcnd s0 H0 ex C).h) (fun s0 H0 ex C => (he s0 H0 ex C).h) hs) fun σ H Q ⟨L, S, k, hL, hS, h, n⟩ => up.go hL hS h fun d S1 v H1 h1 k1 hL1 hS1 i1 => by
    obtain ⟨p, hp, h1⟩ := h1
    obtain ⟨a, e, q⟩ := seq_go hS1 i1 hp
    refine ⟨a, e, ?_⟩
    have n' : ∀ d S' v H', k d S' → Kp H1 H' → Hs X.K H' S' → IsD X.K H' d v → Q v H' := fun d S' v H' q k3 => n d S' v H' q (k1.trans k3)
    rcases q with ⟨q1, q2, q3⟩ | ⟨q1, q2, q3⟩
    · exact .inl ⟨q1, fun D hD => comp_coreIf (hL1.cap cap) hS1 hD (h1 D (hS1.free hD)) n' q2 q3⟩
    · exact .inr ⟨q1, fun D hD => comp_coreIf (hL1.cap cap) hS1 hD (h1 D (hS1.free hD)) n' q2 q3⟩⟩
theorem loop_ix {ok : DH → Prop} {g : DG} {b : DS} {M : DEnds} (Iv : List D → Lo → DH → Prop) (hok : ∀ r L S, Iv r L S → ok S)
    (hs : ∀ d r L S N, Iv (d :: r) L S → (∀ L' S', Iv r L' S' → N L' S') → g d L S fun L1 S1 => b { M with nx := N, ct := N, bk := M.nx } L1 S1) (hd : ∀ L S, Iv [] L S → M.nx L S) : ∀ r L S, Iv r L S → dLoop ok g b M r L S
  | [], L, S, i => ⟨hok [] L S i, hd L S i⟩
  | d :: r, L, S, i => ⟨hok _ L S i, hs d r L S _ i fun L' S' i' => loop_ix Iv hok hs hd r L' S' i'⟩
end
end DL
namespace L2
open PySem PySem.Spec PyProof.Rows
section
variable {X : Cx} {elt tg iter c : Expr} {scope : Scope} {cl : List (Str × Addr)} {N : List Str} {cap : List (Option Nat)} {pos : Pos} {wi : TI} {g : TG} {te : TE} {tc : TT}
theorem comp_store (Sc : CompSc X scope cl N cap) {pins : List (Addr × Obj)} {σ σ3 : St} {H2 H3 : Hp} {s2 s4 : Shared} {fp : List Addr} {h1' : Heap} {C : Addr} (I2 : Inv X pins σ H2 s2) (f2 : ∀ b ∈ fp, FpOk X pins H2 b) {H1 : Hp}
    (un3 : Un (frs X.stack) fp H2 H1 s2.heap h1') (I4 : Inv (cxC X scope cl N { s2 with heap := h1' } H1 fp C) [] σ3 H3 s4) (hC : s2.heap.objs.size ≤ C) {x : Str} {pos' : Pos} {i : Nat} {D : Ends} {a : Addr} (pg : PG X (.Name x pos') (gName i)) (qn : D.nx (σ.set i (some (.ref a))) H3) :
    wpAny (model X.prog X.w) X.A (assign (.Name x pos') X.env (.ref a)) (fun _ s'' => ∃ m, s''.heap.Ns C m ∧ ∀ h', Heap.SameBut C s''.heap h' → ∃ σ' H', Inv X pins σ' H' { s'' with heap := h' } ∧ D.nx σ' H') X.xe s4 := by
  have J : Inv X pins σ H3 s4 := comp_out Sc I2 f2 un3 I4 (h' := s4.heap) hC ⟨rfl, fun _ _ => rfl⟩
  obtain ⟨m, ⟨o, es, ep, ho, hd, hr⟩, _⟩ := I4.loc
  have ltC : ∀ b u, s2.heap.get? b = some u → b ≠ C := fun b u e => Nat.ne_of_lt (Nat.lt_of_lt_of_le (Heap.lt_size e) hC)
  have hL : C ≠ X.env.locals := fun z => by
    have := I2.lt
    rw [← z] at this
    exact absurd (Nat.lt_of_lt_of_le this hC) (Nat.lt_irrefl _)
  have hn : H3 C = none := I4.free
  have J' : Inv X ((C, o) :: pins) σ H3 s4 := ⟨J.ok, J.os, J.bare, J.base, J.loc, J.cell, J.free, J.freeC, fun p hp => by
    rcases List.mem_append.mp hp with hp | hp
    · exact J.pin p (List.mem_append_left _ hp)
    · rcases List.mem_cons.mp hp with rfl | hp
      · exact ⟨ho, hn, hL, I2.nofs hC, fun v z => by rw [hd] at z; cases z⟩
      · exact J.pin p (List.mem_append_right _ hp), J.hok, J.len⟩
  refine thn (pg _ s4 σ H3 (.ref a) (.ref a) (fun σ' H' => σ' = σ.set i (some (.ref a)) ∧ H' = H3) J' rfl ⟨rfl, rfl⟩) fun _ s5 h5 => ?_
  obtain ⟨_, _, I5, rfl, rfl⟩ := h5
  have h6 := I5.pin (C, o) (List.mem_append_right _ List.mem_cons_self)
  refine ⟨m, ⟨o, es, ep, h6.1, hd, hr⟩, fun h' sb => ⟨_, _, ?_, qn⟩⟩
  have I6 : Inv X pins (σ.set i (some (.ref a))) _ s5 := ⟨I5.ok, I5.os, I5.bare, I5.base, I5.loc, I5.cell, I5.free, I5.freeC, fun p hp => I5.pin p (by
    rcases List.mem_append.mp hp with hp | hp
    · exact List.mem_append_left _ hp
    · exact List.mem_append_right _ (List.mem_cons_of_mem _ hp)), I5.hok, I5.len⟩
  exact I6.turned (t' := s5.toks) (it := C) (fun b u hb e => (sb.2 b hb).trans e) hn hL (.inr (Nat.le_trans I2.sz hC)) (fun y c e => by
    obtain ⟨v, u, q, _⟩ := I2.cell y c e
    exact ltC c u q) (fun p hp => ltC p.1 p.2 (I2.pin p hp).1)
theorem ps_compS {x : Str} {i : Nat} {pos' spos : Pos} (hN : X.N.Nodup) (hi' : X.N[i]? = some x) (hx' : X.env.scope.names.lookup x = some .local) (hsw : swapsWith (.ListComp elt [⟨tg, iter, [], 0⟩] scope pos) (some (.Name x pos')) spos.line X.env = pure true) (hc : X.calm = true) (Sc : CompSc X scope cl N cap) (hi : PI X tg iter wi) (hg : ∀ s0 H0 ex C, PG (cxC X scope cl N s0 H0 ex C) tg g) (he : ∀ s0 H0 ex C, PE (cxC X scope cl N s0 H0 ex C) elt te)
    (hs : ∀ x, foldedSetIterable iter X.env x = pure x := by intro _; rfl) : PS X (.Assign [.Name x pos'] (.ListComp elt [⟨tg, iter, [], 0⟩] scope pos) spos) (tAsg (tComp cap wi g te) (gName i)) := by
  intro pins s σ H D I h
  have pg : PG X (.Name x pos') (gName i) := pg_name hN hi' (.inl hx') (.inr hx')
  rw [exec_Assign_Name_used _ _ _ _ hsw]
  refine wpAny_bind (wpAny_standAt (wpAny_bind ?_))
  show wpAny _ _ (evalThenUse _ X.env _) _ _ _
  unfold evalThenUse
  have Q := fun v H1 => D.nx (σ.set i (some v)) H1
  refine wpAny_bind (wpAny_mono (Q := fun _ s' => ∃ σ' H', Inv X pins σ' H' s' ∧ D.nx σ' H') ?_ (fun v s' q => wpAny_pure (wpAny_pure q)) fun _ _ q => q)
  have hcell : ∀ y ∈ scope.names, y.2 ≠ .cell := fun y hy => by simpa using List.all_eq_true.mp Sc.nocell y hy
  have hnames : ∀ y ∈ scope.names, y.2 = .local → scope.names.lookup y.1 = some .local := fun y hy e => by
    have := List.all_eq_true.mp Sc.names y hy
    rw [e] at this
    simpa using this
  refine wpAny_comprehension_free (use := some (assign (.Name x pos') X.env)) rfl hs Sc.clos Sc.kind hnames (thn (hi pins s σ H _ I h) fun v s1 h1 => thn h1 fun itv s2 h2 => ?_)
  obtain ⟨it, fp, tn, J, H2, e, I2, T, st2, f2, hW⟩ := h2
  subst e
  refine wpAny_newObj_type (wpAny_newFunctionEnv hcell (by intro y hy; simp at hy) (fun h1 hns hsb => ?_) Sc.kind)
  obtain ⟨W, ⟨m0, w0⟩, turn⟩ := hW s2.heap.objs.size I2.fresh
  dsimp only at hns hsb ⊢
  generalize hD : s2.heap.push { cls := .type "list", dict := none, data := .seq ([] : List Value).toArray } = h1' at hns hsb ⊢
  obtain ⟨I3, un3⟩ := inv_comp (tk := s2.toks + ([] : List (Str × Value)).length) Sc I2 f2 (fun b hb => let ⟨o, e, _⟩ := T.obj 0 _ st2 b hb; ⟨o, e⟩) hD hns hsb
  have hC : s2.heap.objs.size ≤ h1'.objs.size := by rw [← hD, Heap.size_push]; exact Nat.le_succ _
  have k1 : ∀ b o, s2.heap.get? b = some o → h1.get? b = some o := fun b o e => by
    have e1 : h1'.get? b = some o := by rw [← hD]; exact Heap.get?_push_of_some _ e
    exact (hsb.2 b (Nat.ne_of_lt (Heap.lt_size e1))).trans (Heap.get?_push_of_some _ e1)
  have st3 : tn 0 h1 := T.keep 0 _ _ st2 fun b _ o e => k1 b o e
  have fr3 : ∀ b ∈ fp, (upd H2 s2.heap.objs.size (.lst [])) b = none := fun b hb => by
    obtain ⟨o, e, _⟩ := T.obj 0 _ st2 b hb
    rw [upd_ne (Nat.ne_of_lt (Heap.lt_size e))]
    exact (f2 b hb).1
  have loop : ∀ s3 : Shared, s3 = { s2 with heap := h1, toks := s2.toks + ([] : List (Str × Value)).length } →
      codeAny (model X.prog X.w) X.A (.compLoop (.ListComp elt [⟨tg, iter, [], 0⟩] scope pos) 0 (.ref it) (.ref s2.heap.objs.size) (compEnvC scope cl h1'.objs.size X.env))
        (compPost (model X.prog X.w) X.A X.xe (some (assign (.Name x pos') X.env)) (fun _ s' => ∃ σ' H', Inv X pins σ' H' s' ∧ D.nx σ' H') (.ref s2.heap.objs.size) h1'.objs.size) s3 := by
    rintro s3 rfl
    refine compLoop_if0 (fun n s' => ∃ i σ' H', Inv (cxC X scope cl N { s2 with heap := h1' } (upd H2 s2.heap.objs.size (.lst [])) fp h1'.objs.size) [] σ' H' s' ∧ tn i s'.heap ∧ (∀ b ∈ fp, H' b = none) ∧ W i n σ' H') ?_ m0 ⟨0, _, _, I3, st3, fr3, w0⟩
    rintro n s3 ⟨i, σ3, H3, I3, st3, fr3, w3⟩
    rcases turn i n σ3 H3 w3 with ⟨stop, qn⟩ | ⟨go, Nn, hN, step⟩
    · refine thn (T.done (cxC X scope cl N { s2 with heap := h1' } (upd H2 s2.heap.objs.size (.lst [])) fp h1'.objs.size) rfl rfl rfl hc i [] s3 σ3 H3 NoE I3 (comp_fp I3 fr3) st3 stop) fun r s4 ⟨hr, I4⟩ => ?_
      subst hr
      exact comp_store Sc I2 f2 un3 I4 hC pg qn
    · refine thn (T.item (cxC X scope cl N { s2 with heap := h1' } (upd H2 s2.heap.objs.size (.lst [])) fp h1'.objs.size) rfl rfl rfl hc i [] s3 σ3 H3 NoE I3 (comp_fp I3 fr3) st3 go) fun r s4 ⟨u, hr, h4⟩ => ?_
      subst hr
      refine thn h4 fun _ s5 ⟨x, H5, I5, r5, y5, st5, fr5⟩ => ?_
      have I5' := I5.pinned (comp_fp I5 fr5) (T.obj _ _ st5)
      refine thn (hg _ _ _ _ _ s5 σ3 H5 x u _ I5' r5 (step x H5 y5)) fun _ s6 ⟨σ6, H6, I6, q6⟩ => ?_
      refine thn (he _ _ _ _ _ s6 σ6 H6 _ I6 q6) fun uv s7 ⟨v, H7, I7, r7, ys, hy, hl, q7⟩ => ?_
      refine thn (mt_append (X := cxC X scope cl N { s2 with heap := h1' } (upd H2 s2.heap.objs.size (.lst [])) fp h1'.objs.size) _ s7 σ6 H7 (.ref s2.heap.objs.size) [v] (.ref s2.heap.objs.size) [uv] (fun _ H8 => Nn σ6 H8) I7 rfl (.cons r7 .nil) ⟨_, ys, v, rfl, rfl, hy, hl, q7⟩) fun _ s8 ⟨_, H8, I8, _, n8⟩ => ?_
      obtain ⟨m', hm, w8⟩ := hN σ6 H8 n8
      refine ⟨m', hm, i + 1, σ6, H8, I8.unpinned, T.keep _ _ _ st5 fun b hb o e => (I8.pin (b, o) (List.mem_append_right _ (List.mem_append_right _ (mem_pinsAt hb e)))).1, fun b hb => ?_, w8⟩
      obtain ⟨o, e, d⟩ := T.obj _ _ st5 b hb
      exact (I8.pin (b, o) (List.mem_append_right _ (List.mem_append_right _ (mem_pinsAt hb e)))).2.1
  exact codeAny_compStart_list (loop _ rfl) (T.self _ 0 _ _ _ st3 (loop _ rfl))
end
end L2
namespace DL
open PySem PySem.Spec PyProof.Rows L2
theorem setC {K : Fg} {ge : DE} {tc : TE} {i : Nat} (f : ∀ σ H Q, up K ge σ H Q → tc σ H Q) : ∀ N σ H, upS K (dSet i ge) N σ H → tAsg tc (gName i) N σ H := fun N σ H ⟨L, S, M, hL, hS, h, r⟩ =>
  f σ H _ (up.go hL hS h fun d S1 v H1 h1 k1 hL1 hS1 i1 => r.nx _ S1 _ H1 h1 k1 (hL1.set i1 i) hS1)
section
variable {X : Cx} {pos pos' p : Pos} {elt tg a b c : Expr} {scope : Scope} {cl : List (Str × Addr)} {N : List Str} {cap : List (Option Nat)} {gg : DG} {ge gi : DE} {gc : DT} {ta : DA}
theorem dst_compRjS {xv : Str} {iv : Nat} {pv sv : Pos} (hNv : X.N.Nodup) (hc : X.calm = true) (Sc : CompSc X scope cl N cap) (hgl : Gl X "range") (hm : X.mg "range" = none) (ha : AJ X [a] ta) (hg : ∀ s0 H0 ex C, GJ (cxC X scope cl N s0 H0 ex C) tg gg) (he : ∀ s0 H0 ex C, EJ (cxC X scope cl N s0 H0 ex C) elt ge)
    (hs1 : starEach [a] X.env = [(false, eval a X.env)] := by exact star_cons rfl) (hs : ∀ x, foldedSetIterable (.Call (.Name "range" p) [a] [] pos') X.env x = pure x := by intro _; rfl) (hiv : X.N[iv]? = some xv := by rfl) (hxv : X.env.scope.names.lookup xv = some .local := by rfl) (hswv : swapsWith (.ListComp elt [⟨tg, .Call (.Name "range" p) [a] [] pos', [], 0⟩] scope pos) (some (.Name xv pv)) sv.line X.env = pure true := by rfl) : SJ X (.Assign [.Name xv pv] (.ListComp elt [⟨tg, .Call (.Name "range" p) [a] [] pos', [], 0⟩] scope pos) sv) (dSet iv (dCompR cap ta gg (bdAll ge))) :=
  ⟨PS.imp (ps_compS hNv hiv hxv hswv hc Sc (pi_range1 hgl hm ha.h hs1) (fun s0 H0 ex C => (hg s0 H0 ex C).h) (fun s0 H0 ex C => (he s0 H0 ex C).h) hs) (setC (fun σ H Q ⟨L, S, k, hL, hS, h, n⟩ => upA.go hL hS h fun ds S1 vs H1 h1 k1 hL1 hS1 i1 => by
    split at h1
    · obtain ⟨v, rfl, j⟩ := isDs1 i1
      have e := isInt.mp j
      subst e
      obtain ⟨⟨h2, h3⟩, h1⟩ := h1
      refine ⟨_, rfl, h2, h3, fun D hD => comp_core (hL1.cap cap) hS1 hD (h1 D (hS1.free hD)) (fun d S' v H' q k3 => n d S' v H' q (k1.trans k3)) range_go fun S2 H2 k2 hS2 _ => ?_⟩
      rw [List.length_map, List.length_range]
      exact Nat.le_refl _
    · exact h1.elim))⟩
theorem dst_compEjS {xv : Str} {iv : Nat} {pv sv : Pos} (hNv : X.N.Nodup) {elt tg iter : Expr} {scope : Scope} {cl : List (Str × Addr)} {N : List Str} {cap : List (Option Nat)} {gg : DG} {ge gi : DE} (hc : X.calm = true) (Sc : CompSc X scope cl N cap) (hi : EJ X iter gi) (hg : ∀ s0 H0 ex C, GJ (cxC X scope cl N s0 H0 ex C) tg gg) (he : ∀ s0 H0 ex C, EJ (cxC X scope cl N s0 H0 ex C) elt ge)
    (hs : ∀ x, foldedSetIterable iter X.env x = pure x := by intro _; rfl) (hiv : X.N[iv]? = some xv := by rfl) (hxv : X.env.scope.names.lookup xv = some .local := by rfl) (hswv : swapsWith (.ListComp elt [⟨tg, iter, [], 0⟩] scope pos) (some (.Name xv pv)) sv.line X.env = pure true := by rfl) : SJ X (.Assign [.Name xv pv] (.ListComp elt [⟨tg, iter, [], 0⟩] scope pos) sv) (dSet iv (dCompE cap gi gg (bdAll ge))) :=
  ⟨PS.imp (ps_compS hNv hiv hxv hswv hc Sc (pi_seq hi.h) (fun s0 H0 ex C => (hg s0 H0 ex C).h) (fun s0 H0 ex C => (he s0 H0 ex C).h) hs) (setC (fun σ H Q ⟨L, S, k, hL, hS, h, n⟩ => up.go hL hS h fun d S1 v H1 h1 k1 hL1 hS1 i1 => by
    obtain ⟨p, hp, h1⟩ := h1
    obtain ⟨a, e, q⟩ := seq_go hS1 i1 hp
    refine ⟨a, e, ?_⟩
    have n' : ∀ d S' v H', k d S' → Kp H1 H' → Hs X.K H' S' → IsD X.K H' d v → Q v H' := fun d S' v H' q k3 => n d S' v H' q (k1.trans k3)
    rcases q with ⟨q1, q2, q3⟩ | ⟨q1, q2, q3⟩
    · exact .inl ⟨q1, fun D hD => comp_core (hL1.cap cap) hS1 hD (h1 D (hS1.free hD)) n' q2 q3⟩
    · exact .inr ⟨q1, fun D hD => comp_core (hL1.cap cap) hS1 hD (h1 D (hS1.free hD)) n' q2 q3⟩))⟩
end
end DL
namespace L2
open PySem PySem.Spec PyProof.Rows
def CXE (P : Program) (w : World) : CXT := fun outer H s E e s' => ∃ (ea : Addr) (cls a0 : Value) (H' : Hp) (B : Heap), e = .ref ea ∧ s'.os = s.os ∧ AllBare s'.gens ∧ Heap.FlyingW B outer ea cls a0 s'.heap ∧ HOk P w H' B ∧
  (∀ b o, s.heap.get? b = some o → H b = none → b ∉ frs outer → B.get? b = some o) ∧ (∀ b o, s.heap.get? b = some o → b ∉ frs outer → ∃ o', B.get? b = some o') ∧ Un (frs outer) [] H H' s.heap s'.heap ∧ E cls none H'
section
variable {P : Program} {w : World} {K : PySem.W.Frag} {mg : Str → Option Value} {base : Heap} {N : List Str} {qual : Str} {scope : Scope} {f : Addr} {cd : Value} {A : Around} {outer : List Env} {s0 : Shared} {H0 : Hp} {E : XK}
theorem cx_out {pins : List (Addr × Obj)} {σ : St} {H H' : Hp} {s : Shared} {sx : Shared} {B h' : Heap} {ea : Addr} {cls a0 : Value} (I : Inv (cxOf (CXE P w) P w K mg base N qual scope f cd A outer s0 H0 E) pins σ H s) (os : sx.os = s.os) (bare : AllBare sx.gens)
    (fl : Heap.FlyingW B outer ea cls a0 h') (hok : HOk P w H' B) (hB : ∀ b o, s.heap.get? b = some o → H b = none → b ∉ frs (cxOf (CXE P w) P w K mg base N qual scope f cd A outer s0 H0 E).stack → B.get? b = some o)
    (hB2 : ∀ b o, s.heap.get? b = some o → b ∉ frs (cxOf (CXE P w) P w K mg base N qual scope f cd A outer s0 H0 E).stack → ∃ o', B.get? b = some o')
    (hsl : ∀ b ∈ frs outer, ∀ o, s.heap.get? b = some o → ∃ sl, h'.get? b = some { o with slots := sl }) (fr : ∀ b o, s.heap.get? b = some o → H b = none → H' b = none) (tu : ∀ b xs, H b = some (.tup xs) → H' b = some (.tup xs)) (fz : ∀ b o u, H b = some (.frz o u) → H' b = some (.frz o u))
    (tb : ∀ b ps, H b = some (.tbl ps) → ∃ more, H' b = some (.tbl (ps ++ more))) (q : E cls none H') : CXE P w outer H0 s0 E (.ref ea) { sx with heap := h' } := by
  have nst : ∀ b o, s0.heap.get? b = some o → b ∉ frs outer → b ∉ frs (cxOf (CXE P w) P w K mg base N qual scope f cd A outer s0 H0 E).stack := fun b o e hb z => by
    rcases List.mem_cons.mp (I.stkSub b z) with z | z
    · have := Heap.lt_size e
      have ab := I.ok.above
      rw [z] at this
      exact absurd (Nat.lt_of_lt_of_le this ab) (Nat.lt_irrefl _)
    · exact hb z
  have hkeep : ∀ b o, s0.heap.get? b = some o → H0 b = none → b ∉ frs outer → B.get? b = some o := fun b o e n hb =>
    hB b o (I.base.keep b o e n hb (fun z => nomatch z)) (I.base.free b o e n (fun z => nomatch z)) (nst b o e hb)
  have hthere : ∀ b o, s0.heap.get? b = some o → b ∉ frs outer → ∃ o', B.get? b = some o' := fun b o e hb => by
    obtain ⟨o', e1⟩ := I.base.there b o e (fun z => nomatch z)
    exact hB2 b o' e1 (nst b o e hb)
  refine ⟨ea, cls, a0, H', B, rfl, os.trans I.os, bare, fl, hok, hkeep, hthere, ⟨fun b o e n hb _ => fl.1 _ _ (hkeep b o e n hb), fun b o e n hb _ => ?_, fun b o e n _ => ?_, fun b o e _ => ?_, fun b xs e => tu _ _ (I.base.tups b xs e), fun b o u e => fz _ _ _ (I.base.frzs b o u e), fun b ps e => ?_⟩, q⟩
  · obtain ⟨sl, e1⟩ := I.base.slot b o e n hb (fun z => nomatch z)
    obtain ⟨sl', e2⟩ := hsl b hb _ e1
    exact ⟨sl', e2⟩
  · obtain ⟨o', e1⟩ := I.base.there b o e (fun z => nomatch z)
    exact fr b o' e1 (I.base.free b o e n (fun z => nomatch z))
  · by_cases hb : b ∈ frs outer
    · obtain ⟨o', e1⟩ := I.base.there b o e (fun z => nomatch z)
      obtain ⟨sl', e2⟩ := hsl b hb _ e1
      exact ⟨_, e2⟩
    · obtain ⟨o', e1⟩ := hthere b o e hb
      exact ⟨o', fl.1 _ _ e1⟩
  · obtain ⟨m1, e1⟩ := I.base.tbls b ps e
    obtain ⟨m2, e2⟩ := tb b _ e1
    exact ⟨m1 ++ m2, by rw [e2, Array.append_assoc]⟩
theorem passesE : Passes (CXE P w) (cxOf (CXE P w) P w K mg base N qual scope f cd A outer s0 H0 E) E := by
  intro pins σ H s e s' I h
  obtain ⟨ea, cls, a0, H', B, rfl, os, bare, fl, hok, hB, hB2, un, q⟩ := h
  show wpAny _ _ (leaving _ (.ref ea)) _ _ s'
  refine wpAny_leaves_onW I.ok.frames rfl fl fun h' fl' up => ?_
  refine cx_out (sx := s') I os bare fl' hok hB hB2 (fun b hb o e => ?_) (fun b o e n => un.free b o e n (fun z => nomatch z)) un.tups un.frzs un.tbls q
  have hb' : b ∈ frs (cxOf (CXE P w) P w K mg base N qual scope f cd A outer s0 H0 E).stack := List.mem_cons_of_mem _ hb
  have hn := I.stkFree b hb'
  obtain ⟨sl, e1⟩ := un.slot b o e hn hb' (fun z => nomatch z)
  obtain ⟨_, o2, e2, d2⟩ := fl.2.2.1.mem hb'
  rw [e1] at e2
  cases e2
  obtain ⟨sl', e3⟩ := up b _ e1 d2
  exact ⟨sl', e3⟩
end
theorem exc_own {K : PySem.W.Frag} {C : Addr} {bmB : List Value} {newId : String} {h : Heap} {x : Str} {mg : Str → Option Value} (X : K.In h) (q : PySem.W.excIn K C bmB newId = true) (hm : mg x = some (.ref C)) : OwnCls x C bmB newId mg h := by
  refine ⟨hm, ?_⟩
  unfold PySem.W.excIn at q
  split at q
  · rename_i d1 c1 sl hlk
    split at q
    · rename_i C1 bm a0 a1 a2 a3 nn a5 hmro hsl
      simp only [Bool.and_eq_true, beq_iff_eq, Bool.not_eq_true'] at q
      obtain ⟨⟨⟨⟨⟨q1, q2⟩, q3⟩, q4⟩, q5⟩, q6⟩ := q
      subst q1 q2
      obtain ⟨v1, v2, v3, v4, v5, v6, v7, v8, v9, v10, v11⟩ := c1
      dsimp only at hmro q3 q5 q6
      subst hmro q3
      obtain ⟨l⟩ := sl
      simp only at hsl
      subst hsl
      exact ⟨bm, v4, v1, v5, v2, v6, v7, v8, v9, v10, d1, a0, a1, a2, a3, a5, _, X _ _ hlk, .of_isNs (PySem.W.isNs_of_in X q5), PySem.W.nsMap_none_of_in X q5 q6, PySem.W.tail_of_in X q4⟩
    · cases q
  · cases q
section
variable {P : Program} {w : World} {K : PySem.W.Frag} {mg : Str → Option Value} {base : Heap} {N : List Str} {qual : Str} {scope : Scope} {f : Addr} {cd : Value} {A : Around} {outer : List Env} {s0 : Shared} {H0 : Hp} {E : XK}
theorem ps_raise {x t : Str} {C : Addr} {bmB : List Value} {Bn newId initId : String} {j : Nat} {p np cpos pos : Pos} (FB : ExcBaseFacts Bn newId initId bmB) (q : PySem.W.excIn K C bmB newId = true) (hm : mg x = some (.ref C))
    (hg : Gl (cxOf (CXE P w) P w K mg base N qual scope f cd A outer s0 H0 E) x) (hd : (x == ("__debug__" : Str)) = false := by decide) :
    PS (cxOf (CXE P w) P w K mg base N qual scope f cd A outer s0 H0 E) (.Raise (some (.Call (.Name x np) [.Constant (.str t) j p] [] cpos)) none pos) (fun _ _ H => E (.ref C) none H) := by
  intro pins s σ H D I h
  obtain ⟨tl, Nn, nm, qn, bs, hdct, sn, sub, ab, col, dd, k0, k1, k2, k3, k5, mN, hC, hN, hni, T⟩ := (exc_own (x := x) I.kIn q hm).obj
  refine wpAny_Raise_call_subT (C := C) (nm := nm) (q := qn) (N := Nn) (bs := bs) (bm := tl) (hdct := hdct) (sn := sn) (sub := sub) (ab := ab) (col := col) (dd := dd) (k0 := k0) (k1 := k1) (k2 := k2) (k3 := k3) (k5 := k5)
    FB (mN := mN) (T.hasType FB.hasBase) (I.ok.hd rfl) rfl hni (ld_glob I hg hm ⟨rfl, ?_⟩ hd)
  refine Calls.evalArgs_plain (Calls.spliced_cons (Calls.Constant_str (k := j) (pos := p) (Calls.spliced_nil ⟨rfl, Nat.le_of_ble_eq_true rfl, hC, hN, T, fun h' e hx => ?_⟩)))
  show wpAny _ _ (leaving _ (.ref e)) _ _ _
  have I1 := I.tok (s.toks + 1)
  have hin : ∀ env ∈ (cxOf (CXE P w) P w K mg base N qual scope f cd A outer s0 H0 E).stack, ∀ b, env.frame = some b → b ∈ frs (cxOf (CXE P w) P w K mg base N qual scope f cd A outer s0 H0 E).stack := fun env he b hb => List.mem_filterMap.mpr ⟨env, he, hb⟩
  refine wpAny_leaves_madeW (base := PySem.W.hideAll s.heap (frs (cxOf (CXE P w) P w K mg base N qual scope f cd A outer s0 H0 E).stack)) I.ok.frames rfl (fun b o z => PySem.W.of_hideAll _ z) (PySem.W.funFrames_hide I.stack hin) hx fun h2 t2 fl _ _ up => ?_
  refine cx_out (sx := { s with heap := h', toks := s.toks + 1 }) I rfl I.bare fl (fun b ob z => ?_) (fun b o z _ hb => PySem.W.hideAll_get _ z hb) (fun b o z hb => ⟨o, PySem.W.hideAll_get _ z hb⟩) (fun b hb o z => ?_) (fun _ _ _ n => n) (fun _ _ z => z) (fun _ _ _ z => z) (fun b ps z => ⟨#[], by rw [z]; simp⟩) h
  · refine (I.hok b ob z).stay (fun c v hc y => PySem.W.hideAll_get _ y fun hf => ?_) (fun _ y => y) fun _ _ y => y
    have hn := I.stkFree c hf
    rcases hc with rfl | hc
    · rw [hn] at z; cases z
    · rw [hn] at hc; cases hc
  · obtain ⟨_, o2, e2, d2⟩ := I.stack.mem (List.mem_cons_of_mem _ hb)
    rw [z] at e2
    cases e2
    exact up b o (hx.keeps _ _ z) d2
end
end L2
namespace L2
open PySem PySem.Spec PyProof.Rows
section
variable {X : Cx} {pins : List (Addr × Obj)} {σ : St} {H H' : Hp} {s s' : Shared} {E : XK}
theorem Inv.landed {B h5 : Heap} {ea : Addr} {cls a0 : Value} (I : Inv X pins σ H s) (os : s'.os = s.os) (bare : AllBare s'.gens) (fl : Heap.FlyingW B X.stack ea cls a0 s'.heap) (fl5 : Heap.FlyingW B X.stack ea cls a0 h5) (up : s'.heap.UpToSlots h5) (hok : HOk X.prog X.w H' B)
    (hB : ∀ b o, s.heap.get? b = some o → H b = none → b ∉ frs X.stack → B.get? b = some o) (hB2 : ∀ b o, s.heap.get? b = some o → b ∉ frs X.stack → ∃ o', B.get? b = some o') (un : Un (frs X.stack) [] H H' s.heap s'.heap) :
    Inv X pins σ H' { s' with heap := h5 } := by
  have fsl : ∀ b ∈ frs X.stack, ∀ o, s.heap.get? b = some o → ∃ sl, h5.get? b = some { o with slots := sl } := fun b hb o e => by
    obtain ⟨sl, e1⟩ := un.slot b o e (I.stkFree b hb) hb (fun z => nomatch z)
    obtain ⟨_, o2, e2, d2⟩ := fl.2.2.1.mem hb
    rw [e1] at e2
    cases e2
    obtain ⟨sl', e3⟩ := up b _ e1 d2
    exact ⟨sl', e3⟩
  refine I.call' (s' := { s' with heap := h5 }) (ch := []) os ⟨fun b o e n hb _ => fl5.1 _ _ (hB b o e n hb), fun b o e n hb _ => fsl b hb o e, un.free, fun b o e _ => ?_, un.tups, un.frzs, un.tbls⟩ (hok.kept fl5.1) bare fun b z => nomatch z
  by_cases hb : b ∈ frs X.stack
  · obtain ⟨sl, e1⟩ := fsl b hb o e
    exact ⟨_, e1⟩
  · obtain ⟨o', e1⟩ := hB2 b o e hb
    exact ⟨o', fl5.1 _ _ e1⟩
theorem Inv.freeze {a : Addr} {o : Obj} (I : Inv X pins σ H s) (e : s.heap.get? a = some o) (hn : H a = none) (h0 : X.s₀.heap.get? a = none) (hL : a ≠ X.env.locals) (hc : ∀ x c, X.env.cells.lookup x = some c → c ≠ a) (hp : ∀ p ∈ X.pn ++ pins, p.1 ≠ a) :
    Inv X pins σ (upd H a (.frz o (.ext fun _ => True))) s := by
  have ne : ∀ b u, X.s₀.heap.get? b = some u → b ≠ a := fun b u z y => by rw [y, h0] at z; cases z
  refine ⟨I.ok, I.os, I.bare, ⟨I.base.keep, I.base.slot, fun b u z n x => ?_, I.base.there, fun b xs z => ?_, fun b u v z => ?_, fun b ps z => ?_⟩, I.loc, I.cell, ?_, fun x c z => ?_, fun p z => ?_, fun b u z => ?_, I.len⟩
  · rw [upd_ne (ne b u z)]; exact I.base.free b u z n x
  · have q := I.base.tups b xs z
    rw [upd_ne (ne_of_none q hn)]; exact q
  · have q := I.base.frzs b u v z
    rw [upd_ne (ne_of_none q hn)]; exact q
  · obtain ⟨m, q⟩ := I.base.tbls b ps z
    exact ⟨m, by rw [upd_ne (ne_of_none q hn)]; exact q⟩
  · rw [upd_ne (Ne.symm hL)]; exact I.free
  · rw [upd_ne (hc x c z)]; exact I.freeC x c z
  · obtain ⟨q1, q2, q3⟩ := I.pin p z
    exact ⟨q1, by rw [upd_ne (hp p z)]; exact q2, q3⟩
  · by_cases hb : b = a
    · subst hb
      rw [upd_same] at z
      cases z
      exact ⟨e, trivial, ⟨o, e⟩, fun _ _ _ _ => trivial⟩
    · rw [upd_ne hb] at z
      exact (I.hok b u z).stay (fun _ _ _ q => q) (fun c q => by rw [upd_ne (ne_of_none q hn)]; exact q) fun c xs q => by rw [upd_ne (ne_of_none q hn)]; exact q
abbrev Cx.marked (X : Cx) (v : Value) (W : Value → Shared → Prop) : Cx := { X with A := X.A.mark (some v), calm := false, xe := W }
theorem Inv.marked (I : Inv X pins σ H s) (v : Value) (W : Value → Shared → Prop) : Inv (X.marked v W) pins σ H s :=
  ⟨⟨I.ok.mod, I.ok.kind, I.ok.glob, I.ok.blt, I.ok.above, I.ok.inj, I.ok.has, I.ok.cab, fun z => (by cases z), I.ok.frames, I.ok.stk, I.ok.exf, I.ok.bs, I.ok.bsz, I.ok.noex, I.ok.exfs, I.ok.funs, I.ok.frf⟩, I.os, I.bare, I.base, I.loc, I.cell, I.free, I.freeC, I.pin, I.hok, I.len⟩
theorem Inv.unmarked {v : Value} {W : Value → Shared → Prop} (I : Inv (X.marked v W) pins σ H s) (hd : X.calm = true → X.A.handled = none) : Inv X pins σ H s :=
  ⟨⟨I.ok.mod, I.ok.kind, I.ok.glob, I.ok.blt, I.ok.above, I.ok.inj, I.ok.has, I.ok.cab, hd, I.ok.frames, I.ok.stk, I.ok.exf, I.ok.bs, I.ok.bsz, I.ok.noex, I.ok.exfs, I.ok.funs, I.ok.frf⟩, I.os, I.bare, I.base, I.loc, I.cell, I.free, I.freeC, I.pin, I.hok, I.len⟩
end
theorem ObjOk.there {P : Program} {w : World} {H : Hp} {h : Heap} {a : Addr} {o : HO} (x : ObjOk P w H h a o) : ∃ ob, h.get? a = some ob := by
  cases o with
  | lst xs => obtain ⟨_, _, _, _, e⟩ := x; exact ⟨_, e⟩
  | tup xs => obtain ⟨_, _, _, ob, e, _⟩ := x; exact ⟨_, e⟩
  | dK kvs => obtain ⟨_, _, _, _, o, _, _, e, _⟩ := x; exact ⟨_, e⟩
  | dT kvs => obtain ⟨_, _, _, _, o, _, _, e, _⟩ := x; exact ⟨_, e⟩
  | set S n => obtain ⟨o, _, _, _, e, _⟩ := x; exact ⟨_, e⟩
  | ins C dx fs => obtain ⟨_, _, _, e, _⟩ := x; exact ⟨_, e⟩
  | own y => obtain ⟨_, e⟩ := x; exact ⟨_, e⟩
  | xd fs => obtain ⟨_, ⟨_, _, _, e, _⟩, _⟩ := x; exact ⟨_, e⟩
  | rng lo hi => obtain ⟨_, _, _, e⟩ := x; exact ⟨_, e⟩
  | frz ob u => obtain ⟨e, _⟩ := x; exact ⟨_, e⟩
  | tbl ps => exact ⟨_, (show h.get? a = some _ from x)⟩
  | met f y => exact ⟨_, (show h.get? a = some _ from x)⟩
  | ext φ => obtain ⟨_, e, _⟩ := x; exact e
section
variable {X : Cx} {pins : List (Addr × Obj)} {σ : St} {H : Hp} {s s' : Shared} {E : XK}
end
end L2
namespace L2
open PySem PySem.Spec PyProof.Rows
def Cells (cells : List (Addr × Obj)) (outer : List Env) (H : Hp) (h : Heap) : Prop := ∀ p ∈ cells, h.get? p.1 = some p.2 ∧ H p.1 = none ∧ p.1 ∉ frs outer
structure Fails (cells : List (Addr × Obj)) (P : Program) (w : World) (K : PySem.W.Frag) (mg : Str → Option Value) (base : Heap) (n : Nat) (g : Addr) (H : Hp) (E : XK) : Prop where
  fn : ∃ (o : Obj) (u : HO) (fd : FuncData), H g = some (.frz o u) ∧ o.data = .func fd
  run : ∀ (A : Around) (outer : List Env) (s : Shared), Room n A → Env0 P w K mg base A outer s H → Cells cells outer H s.heap → codeAny (model P w) A (.call (.ref g) ⟨[], []⟩) (CR (CXE P w) outer P w H s (fun _ _ => False) E) s
section
variable {X : Cx} {pins : List (Addr × Obj)} {σ : St} {H : Hp} {s : Shared} {E : XK}
def tTry (cells : List (Addr × Obj)) (P : Program) (w : World) (K : PySem.W.Frag) (mg : Str → Option Value) (base : Heap) (m : Nat) (cv : Value) (j i : Nat) (t : TS) : TS := fun D σ H => ∃ g E, σ[j]? = some (some (.ref g)) ∧ Fails cells P w K mg base m g H E ∧ (∀ c H', E c none H' → PySem.W.exmOne K c cv = some true) ∧
  ∀ ea c H' o, E c none H' → H' ea = none → o.cls = c → t ⟨fun σ7 H7 => D.nx (σ7.set i none) H7, D.rt, fun σ7 H7 => D.bk (σ7.set i none) H7, fun σ7 H7 => D.ct (σ7.set i none) H7⟩ (σ.set i (some (.ref ea))) (upd H' ea (.frz o (.ext fun _ => True)))
end
end L2
namespace L2
open PySem PySem.Spec PyProof.Rows
structure ExcCls (K : PySem.W.Frag) (C : Addr) : Prop where
  ga : PySem.W.findIn K (.ref C) "__getattribute__" = some (some (.builtin "BaseException.__getattribute__"))
  gt : PySem.W.findIn K (.ref C) "__getattr__" = some none
  cl : PySem.W.findIn K (.ref C) "__class__" = some (some (.builtin "object.__class__"))
  sb : PySem.W.subIn K (.ref C) (.type "BaseException") = some true
  so : PySem.W.subIn K (.ref C) (.type "object") = some true
  is : (PySem.W.clsIn K C).isSome = true
section
variable {prog : Program} {w : World} {A : Around} {E : Value → Shared → Prop} {h : Heap} {g : Array GenState} {d : Drawn} {t : Nat} {os : OsState} {a C : Addr} {o : Obj} {K : PySem.W.Frag}
end
end L2
namespace L2
open PySem PySem.Spec PyProof.Rows
end L2
namespace DL
open PySem PySem.Spec PyProof.Rows L2
def ExtD (S S' : DH) : Prop := ∀ b o, S b = some o → S' b = some o
def FailsD (cells : List (Addr × Obj)) (P : Program) (w : World) (K : Fg) (mg : Str → Option Value) (base : Heap) (m : Nat) (g C : Addr) (H : Hp) : Prop :=
  ∀ S, Hs K H S → Fails cells P w K mg base m g H fun c _ H' => c = .ref C ∧ Kp H H' ∧ ∃ S', Hs K H' S' ∧ ExtD S S'
section
variable {X : Cx} {pos : Pos}
def bIsiC (K : Fg) : DSp := fun ds S k => match ds with
  | [.ref a, .ref c] => ∃ C b, S a = some (.exc C) ∧ ExcCls K C ∧ PySem.W.kitOne K (.ref C) (.ref c) = some b ∧ k (.bl b) S
  | [.ref a, .ty c] => ∃ C b, S a = some (.exc C) ∧ ExcCls K C ∧ PySem.W.kitOne K (.ref C) (.type c.name) = some b ∧ k (.bl b) S
  | _ => False
def dTry (cells : List (Addr × Obj)) (P : Program) (w : World) (K : Fg) (mg : Str → Option Value) (base : Heap) (m : Nat) (cv : Value) (j i : Nat) (t : DS) : DS := fun M L S => ∃ g C φ, L[j]? = some (some (.ref g)) ∧ S g = some (.fn φ) ∧ (∀ H, φ H → FailsD cells P w K mg base m g C H) ∧
  PySem.W.exmOne K (.ref C) cv = some true ∧ ∀ ea S', ExtD S S' → S' ea = none → t { nx := fun L S => M.nx (L.set i none) S, rt := M.rt, bk := fun L S => M.bk (L.set i none) S, ct := fun L S => M.ct (L.set i none) S } (L.set i (some (.ref ea))) (put S' ea (.exc C))
end
end DL
namespace DL
open PySem PySem.Spec PyProof.Rows L2
abbrev DSpX := List D → DH → DK → (Addr → DH → Prop) → Prop
def spX (K : Fg) (F : DSpX) : Sp := fun vs H Q E => ∃ ds S k x, IsDs K H ds vs ∧ Hs K H S ∧ F ds S k x ∧ (∀ d' S' v H', k d' S' → Kp H H' → Hs K H' S' → IsD K H' d' v → Q v H') ∧ ∀ C S' H', x C S' → Hs K H' S' → E (.ref C) none H'
structure OwnX (P : Program) (w : World) (K : Fg) (mg : Str → Option Value) (base : Heap) (x : Str) (n : Nat) (F : DSpX) : Prop where
  ex : ∃ f fd ps, FnOk P w K mg base (CXE P w) n f fd ps (spX K F) ∧ mg x = some (.ref f) ∧ PySem.W.keepIn K (.ref f) = true ∧ Binds K fd ps []
section
variable {P : Program} {w : World} {K : Fg} {mg : Str → Option Value} {base : Heap} {N : List Str} {qual : Str} {scope : Scope} {f : Addr} {cd : Value} {A : Around} {outer : List Env} {s0 : Shared} {H0 : Hp} {E : XK} {ex : Addr → DH → Prop}
theorem dst_raisej {x t : Str} {C : Addr} {bmB : List Value} {Bn newId initId : String} {j : Nat} {p np cpos pos : Pos} (hE : ∀ C S' H', ex C S' → Hs K H' S' → E (.ref C) none H') (FB : ExcBaseFacts Bn newId initId bmB) (q : PySem.W.excIn K C bmB newId = true) (hm : mg x = some (.ref C))
    (hg : Gl (cxOf (CXE P w) P w K mg base N qual scope f cd A outer s0 H0 E) x) (hd : (x == ("__debug__" : Str)) = false := by decide) :
    SJ (cxOf (CXE P w) P w K mg base N qual scope f cd A outer s0 H0 E) (.Raise (some (.Call (.Name x np) [.Constant (.str t) j p] [] cpos)) none pos) (fun _ _ S => ex C S) :=
  ⟨PS.imp (ps_raise FB q hm hg hd) fun _ _ H ⟨_, S, _, _, hS, h, _⟩ => hE C S H h hS⟩
def dCallX (F : DSpX) (ex : Addr → DH → Prop) (t : DA) : DE := fun L S k => t L S fun ds S1 => F ds S1 k ex
theorem d_callXj {x : Str} {n : Nat} {F : DSpX} {e : Expr} {es : List Expr} {t : DA} {p pos : Pos} (hE : ∀ C S' H', ex C S' → Hs K H' S' → E (.ref C) none H') (c : OwnX P w K mg base x n F) (hr : Room n (cxOf (CXE P w) P w K mg base N qual scope f cd A outer s0 H0 E).A)
    (hg : Gl (cxOf (CXE P w) P w K mg base N qual scope f cd A outer s0 H0 E) x) (ha : AJ (cxOf (CXE P w) P w K mg base N qual scope f cd A outer s0 H0 E) (e :: es) t) (hdb : (x == ("__debug__" : Str)) = false := by decide)
    (he : starEach (e :: es) (cxOf (CXE P w) P w K mg base N qual scope f cd A outer s0 H0 E).env = (false, eval e (cxOf (CXE P w) P w K mg base N qual scope f cd A outer s0 H0 E).env) :: starEach es (cxOf (CXE P w) P w K mg base N qual scope f cd A outer s0 H0 E).env := by exact star_cons rfl)
    (hpl : (backTo pos (starEach es (cxOf (CXE P w) P w K mg base N qual scope f cd A outer s0 H0 E).env)).any (·.1) = false := by exact star_any rfl) :
    EJ (cxOf (CXE P w) P w K mg base N qual scope f cd A outer s0 H0 E) (.Call (.Name x p) (e :: es) [] pos) (dCallX F ex t) := by
  obtain ⟨g, fd, ps, F1, h1, h2, h3⟩ := c.ex
  refine ⟨PE.imp (pe_call F1 hr hg h1 h2 h3 .nil passesE ha.h hdb he hpl) fun σ H Q ⟨L, S, k, hL, hS, h, n⟩ => ?_⟩
  refine upA.go hL hS h fun ds S1 vs H1 h1 k1 hL1 hS1 i1 => ?_
  show spX K F (vs ++ []) H1 Q E
  rw [List.append_nil]
  exact ⟨ds, S1, k, ex, i1, hS1, h1, fun d' S' v H' q k3 z1 z2 => n d' S' v H' q (k1.trans k3) z1 z2, hE⟩
theorem _root_.L2.Fun.okX {x qual : Str} {st : Stmt} {f : Addr} {fd : FuncData} {N ps : List Str} {k : Nat} {F : DSpX} (Fn : Fun K x qual st f fd) (Sc : FnScope N ps (defScope st)) (len : ∀ ds S k x, F ds S k x → ds.length = ps.length)
    (hbody : ∀ (cdv : Value) (A : Around) (outer : List Env) (s : Shared) (H : Hp) (E : XK) (ex : Addr → DH → Prop), Room k (A.deeper (envOfC qual (defScope st) s.heap.objs.size f cdv)) → (∀ C S' H', ex C S' → Hs K H' S' → E (.ref C) none H') →
      ∃ g, SsJ (cxOf (CXE P w) P w K mg base N qual (defScope st) f cdv A outer s H E) (defBody st) g ∧
        ∀ ds S k, F ds S k ex → g { nx := fun _ S' => k .non S', rt := k } (ds.map some ++ List.replicate (N.length - ps.length) none) S) : FnOk P w K mg base (CXE P w) (k + 1) f fd ps (spX K F) := by
  obtain ⟨oc, od, kV, doc, pm, an, cdv, ct, osl, rfl, lk, hcd⟩ := Fn.ex
  refine fn_of lk hcd Sc (fun vs H Q E h => ?_) fun A outer s H vs Q E hr h => ?_
  · obtain ⟨ds, S, k, x, i, _, q, _⟩ := h
    rw [← i.length]
    exact len ds S k x q
  · obtain ⟨ds, S, k', x, i, hS, h, n, hE⟩ := h
    obtain ⟨g, hg, q⟩ := hbody cdv A outer s H E x hr hE
    refine ⟨_, hg.h, ds.map some ++ List.replicate (N.length - ps.length) none, S, _, ?_, hS, q ds S k' h, ?_⟩
    · unfold L2.start
      rw [← i.length, len ds S k' x h]
      exact Lc.start _ i
    · exact ⟨fun L S' σ H' h1 k1 _ hS' => n _ S' _ H' h1 k1 hS' (isNon.mpr rfl), fun d S' v H' h1 k1 hS' i1 => n d S' v H' h1 k1 hS' i1, fun _ _ _ _ h1 => h1.elim, fun _ _ _ _ h1 => h1.elim⟩
end
end DL
namespace L2
open PySem PySem.Spec PyProof.Rows
def CodeOk (H : Hp) (qual : Str) (cv : Value) : Prop := ∃ (c' : Addr) (oc : Obj) (uc : HO) (vs : Array Value) (t : Tok), cv = .ref c' ∧ H c' = some (.frz oc uc) ∧ oc.data = .fields vs ∧ vs[1]? = some (.str qual t)
structure TblOk (H : Hp) (qual : Str) (ps : Array Value) : Prop where
  tri : TriplesOk ps.toList
  ok : ∀ pos cv, codeAmong pos ps.toList = some cv → CodeOk H qual cv
def IsLam (qual : Str) (params : Arguments) (body : Expr) (scope : Scope) (clos : List (Str × Addr)) (g : Addr) (H : Hp) : Prop :=
  ∃ (o : Obj) (u : HO) (cv pm ctv : Value), H g = some (.frz o u) ∧ o.data = .func (PySem.W.kla_fn "<lambda>" qual params body scope clos pm cv ctv) ∧ CodeOk H qual cv
def BltB (mg : Str → Option Value) (base : Heap) : Prop := (∃ bm ob, mg "__builtins__" = some (.ref bm) ∧ bm ≠ builtinsNs ∧ base.get? bm = some ob ∧ ob.cls = .type "module" ∧ ob.dict = some builtinsNs ∧ ob.data = .plain) ∧ base.NoSeer
def tLam (P : Addr) (qual : Str) (params : Arguments) (body : Expr) (scope : Scope) (clos : List (Str × Addr)) : TE := fun σ H Q => ∃ ps, H P = some (.tbl ps) ∧ TblOk H qual ps ∧
  ∀ g H', H g = none → (∀ b o, b ≠ P → H b = some o → H' b = some o) → (∃ ps', H' P = some (.tbl ps') ∧ TblOk H' qual ps') → IsLam qual params body scope clos g H' → Q (.ref g) H'
section
variable {X : Cx} {params : Arguments} {body : Expr} {scope : Scope} {clos : List (Str × Addr)} {c P : Addr} {pos : Pos}
end
end L2
namespace L2
open PySem PySem.Spec PyProof.Rows
section
variable {X : Cx} {pins : List (Addr × Obj)} {σ : St} {H H' : Hp} {s sx : Shared} {E : XK}
end
structure FnOkP (cells : List (Addr × Obj)) (P : Program) (w : World) (K : PySem.W.Frag) (mg : Str → Option Value) (base : Heap) (CX : CXT) (k : Nat) (f : Addr) (fd : FuncData) (ps : List Str) (sp : Sp) : Prop where
  len : ∀ vs H Q E, sp vs H Q E → vs.length = ps.length
  run : ∀ (A : Around) (outer : List Env) (s : Shared) (H : Hp) (args : Args) (us : List Value) (vs : List V) (Q : VK) (E : XK), Room k A → Env0 P w K mg base A outer s H → Cells cells outer H s.heap → BindsTo s fd args (ps.zip us) → Vals vs us → sp vs H Q E →
    codeAny (model P w) A (.call (.ref f) args) (CR CX outer P w H s Q E) s
def cxL (P : Program) (w : World) (K : PySem.W.Frag) (mg : Str → Option Value) (base : Heap) (N : List Str) (qual : Str) (scope : Scope) (clos : List (Str × Addr)) (f : Addr) (cd : Value) (A : Around) (outer : List Env) (s : Shared) (H : Hp) (E : XK) : Cx where
  prog := P
  w := w
  K := K
  mg := mg
  base := base
  A := A.deeper (PySem.W.envX qual scope s.heap.objs.size f cd clos)
  N := N
  s₀ := s
  H₀ := H
  env := PySem.W.envX qual scope s.heap.objs.size f cd clos
  outer := outer
  stack := PySem.W.envX qual scope s.heap.objs.size f cd clos :: outer
  ex := []
  calm := true
  fn := fun _ => false
  pn := []
  xe := fun e s' => wpAny (model P w) (A.deeper (PySem.W.envX qual scope s.heap.objs.size f cd clos)) (leaving (PySem.W.envX qual scope s.heap.objs.size f cd clos) e) (fun _ s'' => CXE P w outer H s E e s'') (fun e' s'' => CXE P w outer H s E e' s'') s'
structure LamSc (scope : Scope) (clos : List (Str × Addr)) (N : List Str) : Prop where
  kind : scope.kind = .function
  co : scope.isCoroutine = false
  gen : scope.isGenerator = false
  nocell : ∀ y ∈ scope.names, y.2 ≠ .cell
  has : ∀ x, scope.names.lookup x = some .free → ∃ c, clos.lookup x = some c
  inj : ∀ x y c, clos.lookup x = some c → clos.lookup y = some c → x = y
  free : ∀ x ∈ N, scope.names.lookup x = some .free
section
variable {P : Program} {w : World} {K : PySem.W.Frag} {mg : Str → Option Value} {base : Heap} {N : List Str} {qual : Str} {scope : Scope} {clos : List (Str × Addr)} {g : Addr} {cd : Value} {A : Around} {outer : List Env} {s : Shared} {H : Hp} {E : XK} {cells : List (Addr × Obj)} {σ0 : St}
end
end L2
namespace DL
open PySem PySem.Spec PyProof.Rows L2
theorem cxe_kp {P : Program} {w : World} {outer : List Env} {H : Hp} {s : Shared} {E : XK} {e : Value} {s' : Shared} (h : CXE P w outer H s E e s') : CXE P w outer H s (fun c t H' => E c t H' ∧ Kp H H') e s' := by
  obtain ⟨ea, cls, a0, H', B, h1, h2, h3, h4, h5, h6, h7, h8, h9⟩ := h
  refine ⟨ea, cls, a0, H', B, h1, h2, h3, h4, h5, h6, h7, h8, h9, fun a o z i => ?_⟩
  cases o with
  | tup xs => exact h8.tups a xs z
  | frz ob u => exact h8.frzs a ob u z
  | _ => exact i.elim
def dLam (P : Addr) (qual : Str) (params : Arguments) (body : Expr) (scope : Scope) (clos : List (Str × Addr)) : DE := fun _ S k => S P = some (.tbl fun H ps => TblOk H qual ps) ∧ ∀ g, S g = none → k (.ref g) (put S g (.fn (IsLam qual params body scope clos g)))
section
variable {X : Cx} {params : Arguments} {body : Expr} {scope : Scope} {clos : List (Str × Addr)} {c P : Addr} {pos : Pos}
end
def exE (K : Fg) (ex : Addr → DH → Prop) : XK := fun cls _ H' => ∃ C S', cls = .ref C ∧ ex C S' ∧ Hs K H' S'
section
variable {P : Program} {w : World} {K : Fg} {mg : Str → Option Value} {base : Heap} {N : List Str} {qual : Str} {scope : Scope} {clos : List (Str × Addr)} {g : Addr} {cd : Value} {A : Around} {outer : List Env} {s : Shared} {H : Hp} {ex : Addr → DH → Prop}
end
def Fref (cls : List (Nat × Addr)) (m : Nat) (P : Program) (w : World) (K : Fg) (mg : Str → Option Value) (base : Heap) (cells : List (Addr × Obj)) : DSp := fun ds S k =>
  ∃ g φ j C, ds = [.ref g] ∧ S g = some (.fn φ) ∧ (∀ H, φ H → FailsD cells P w K mg base m g C H) ∧ (j, C) ∈ cls ∧ ∀ p S', ExtD S S' → S' p = none → k (.ref p) (put S' p (.lst [.int (j : Nat)]))
structure OwnR (P : Program) (w : World) (K : Fg) (mg : Str → Option Value) (base : Heap) (x : Str) (n : Nat) (F : List (Addr × Obj) → DSp) : Prop where
  ex : ∃ f fd ps, (∀ cells, FnOkP cells P w K mg base CX0 n f fd ps (spU K (F cells))) ∧ mg x = some (.ref f) ∧ PySem.W.keepIn K (.ref f) = true ∧ Binds K fd ps []
structure LamCap (X : Cx) (scope : Scope) (clos : List (Str × Addr)) (N : List Str) (cap : List (Option Nat)) : Prop where
  sc : (∀ x y c, clos.lookup x = some c → clos.lookup y = some c → x = y) → LamSc scope clos N
  sub : ∀ p ∈ clos, X.env.cells.lookup p.1 = some p.2
  fn : ∀ p ∈ clos, X.fn p.1 = true
  len : cap.length = N.length
  caps : ∀ (i j : Nat) (x : Str), cap[i]? = some (some j) → N[i]? = some x → X.N[j]? = some x ∧ (X.env.scope.names.lookup x = some .cell ∨ X.env.scope.names.lookup x = some .free)
def LCapOk (X : Cx) : List (Option Nat) → List Str → Prop
  | some j :: r, x :: xs => (X.N[j]? = some x ∧ (X.env.scope.names.lookup x = some .cell ∨ X.env.scope.names.lookup x = some .free)) ∧ LCapOk X r xs
  | none :: r, _ :: xs => LCapOk X r xs
  | _, _ => True
def RefQ (cls : List (Nat × Addr)) (qual : Str) (params : Arguments) (body : Expr) (scope : Scope) (clos : List (Str × Addr)) (cap : List (Option Nat)) (gb : (Addr → DH → Prop) → DE) (L : Lo) (k : DK) (d : D) (S1 : DH) : Prop := ∃ (g : Addr) (j : Nat) (C : Addr), d = .ref g ∧ S1 g = some (.fn (IsLam qual params body scope clos g)) ∧
  (j, C) ∈ cls ∧ (∀ S, gb (fun C' S' => C' = C ∧ ExtD S S') (capL cap L) S fun _ _ => False) ∧ ∀ p S', ExtD S1 S' → S' p = none → k (.ref p) (put S' p (.lst [.int (j : Nat)]))
def dRef (cls : List (Nat × Addr)) (qual : Str) (params : Arguments) (body : Expr) (scope : Scope) (clos : List (Str × Addr)) (cap : List (Option Nat)) (gb : (Addr → DH → Prop) → DE) (ge : DE) : DE := fun L S k => ge L S fun d S1 => RefQ cls qual params body scope clos cap gb L k d S1
section
variable {X : Cx} {qual : Str} {params : Arguments} {body : Expr} {scope : Scope} {clos : List (Str × Addr)} {p pos : Pos}
end
end DL
namespace L2
open PySem PySem.Spec PyProof.Rows
structure OnlyT (tabs : List (Addr × Addr)) (H : Hp) : Prop where
  only : ∀ b, H b = none ∨ (∃ o xs, H b = some (.frz o (.lst xs))) ∨ (b ∈ tabs.map (·.2) ∧ H b = some (.tbl #[]))
  all : ∀ q ∈ tabs, H q.2 = some (.tbl #[])
theorem law_callT {P : Program} {w : World} {K : PySem.W.Frag} {mg mb : Str → Option Value} {CX : CXT} {k : Nat} {fa a : Addr} {fd : FuncData} {x : Str} {sp : Sp} {s₁ : Shared} {vs : List Value} {ns : List Int} {tabs : List (Addr × Addr)}
    (hT : PySem.W.TabsAt tabs s₁.heap) (hnK : PySem.W.noTabs K = true) (hbm : BltB mg s₁.heap)
    (KX : K.In s₁.heap) (hns : s₁.heap.Ns mainGlobals mg) (hb : s₁.heap.Ns builtinsNs mb) (hbb : ∀ x : Str, x ≠ "__name__" → mb x = bootBuiltins x) (hlim : s₁.heap.NoLimit) (hg : s₁.gens = #[])
    (ha : s₁.heap.get? a = some { cls := .type "list", data := .seq vs.toArray }) (hi : IntsAre vs ns) (hl : ns.length ≤ sizeLine) (hr : Room k callerA)
    (F : ∀ base : Heap, K.In base → base.Ns mainGlobals mg → BltB mg base → PySem.W.CodeAll tabs base → FnOk P w K mg base CX k fa fd [x] sp) (hbind : ∀ (s : Shared) (u : Value), BindsTo s fd ⟨[u], []⟩ [(x, u)])
    (hsp : ∀ H : Hp, OnlyT tabs H → SqL K H a (ns.map V.int) → sp [.ref a] H (fun v _ => v = .bl true) fun _ _ _ => False)
    (hCX : ∀ H e s', CX [] H s₁ (fun _ _ _ => False) e s' → False) :
    codeAny (model P w) callerA (.call (.ref fa) ⟨[.ref a], []⟩) (fun r s' => r = .ok (.ret (.bool true)) ∧ OldK s₁.heap s'.heap ∧ s'.os = s₁.os ∧ AllBare s'.gens) s₁ := by
  have rv := vals_ints hi
  have lenV := hi.length
  have tabO : ∀ b ∈ tabs.map (·.2), s₁.heap.get? b = some (PySem.W.tabObj #[]) := fun b hb => by
    obtain ⟨q, hq, rfl⟩ := List.mem_map.mp hb
    exact (hT q hq).2
  have naT : a ∉ tabs.map (·.2) := fun z => by
    have e := tabO a z
    rw [ha] at e
    cases e
  have nKT : ∀ b o, K.lookup b = some o → b ∉ tabs.map (·.2) := fun b o e z => by
    have e1 := KX b o e
    rw [tabO b z] at e1
    cases e1
    have h2 := List.all_eq_true.mp hnK (b, _) (PySem.W.mem_of_lookupK e)
    exact absurd (show false = true from h2) Bool.false_ne_true
  have core : ∀ H : Hp, OnlyT tabs H → SqL K H a (ns.map V.int) → HOk P w H s₁.heap → (∀ b, H b ≠ none → b = a ∨ b ∈ tabs.map (·.2)) → (H a ≠ none → K.lookup a = none) →
      codeAny (model P w) callerA (.call (.ref fa) ⟨[.ref a], []⟩) (fun r s' => r = .ok (.ret (.bool true)) ∧ OldK s₁.heap s'.heap ∧ s'.os = s₁.os ∧ AllBare s'.gens) s₁ := by
    intro H hO hS hok hA hK
    have base_of : ∀ {b : Addr} {o : Obj}, s₁.heap.get? b = some o → H b = none → (hidT s₁.heap H).get? b = some o := fun e n => hidT_get e n
    have noC : ∀ {b : Addr} {o : Obj}, s₁.heap.get? b = some o → o.cls ≠ .type "list" → o.cls ≠ .none → H b = none := fun {b o} e d1 d2 => by
      cases q : H b with
      | none => rfl
      | some u =>
        rcases hA b (by rw [q]; simp) with e' | e'
        · subst e'
          rw [ha] at e; cases e
          exact absurd rfl d1
        · rw [tabO b e'] at e; cases e
          exact absurd rfl d2
    have noA : ∀ {b : Addr} {o : Obj} {es : Array DictEntry} {ep : Nat}, s₁.heap.get? b = some o → o.data = .dict es ep → H b = none := fun {b o es ep} e d => by
      cases q : H b with
      | none => rfl
      | some u =>
        rcases hA b (by rw [q]; simp) with e' | e'
        · subst e'
          rw [ha] at e; cases e
          have d' : Data.seq vs.toArray _ = Data.dict es ep := d
          cases d'
        · rw [tabO b e'] at e; cases e
          cases d
    have nsK : ∀ {b : Addr} {m : Str → Option Value}, s₁.heap.Ns b m → (hidT s₁.heap H).Ns b m := fun {b m} ⟨o, es, ep, e, d, r⟩ => ⟨o, es, ep, base_of e (noA e d), d, r⟩
    have hKb : K.In (hidT s₁.heap H) := fun b o e => base_of (KX b o e) (by
      cases q : H b with
      | none => rfl
      | some u =>
        rcases hA b (by rw [q]; simp) with e' | e'
        · subst e'
          rw [hK (by rw [q]; simp)] at e; cases e
        · exact absurd e' (nKT b o e))
    have hBb : BltB mg (hidT s₁.heap H) := by
      obtain ⟨⟨bm, ob, b1, b2, b3, b4, b5⟩, ns⟩ := hbm
      refine ⟨⟨bm, ob, b1, b2, base_of b3 (noC b3 (by rw [b4]; decide) (by rw [b4]; nofun)), b4, b5⟩, ?_, ?_, ?_, ?_⟩
      · obtain ⟨mc, h1, h2⟩ := ns.statics
        exact ⟨mc, nsK h1, h2⟩
      · obtain ⟨mc, h1, h2⟩ := ns.mods
        exact ⟨mc, nsK h1, h2⟩
      · obtain ⟨mc, h1, h2⟩ := ns.imp
        exact ⟨mc, nsK h1, h2⟩
      · obtain ⟨mg', bm', ob', h1, h2, h3, h4, h5⟩ := ns.main
        exact ⟨mg', bm', ob', nsK h1, h2, base_of h3 (noC h3 (by rw [h4]; decide) (by rw [h4]; nofun)), h4, h5⟩
    have hCb : PySem.W.CodeAll tabs (hidT s₁.heap H) := .of fun q hq => by
      obtain ⟨o, vs, file, tf, flags, tg, inF, text, tt, e1, r1, r2⟩ := (hT q hq).1
      exact ⟨o, vs, file, tf, flags, tg, inF, text, tt, base_of e1 (noC e1 (by rw [r1]; decide) (by rw [r1]; nofun)), r1, r2⟩
    have hM : Mod K mg (hidT s₁.heap H) := ⟨hKb, nsK hns, ⟨mb, nsK hb, hbb⟩, let ⟨mc, h1, h2⟩ := hlim; ⟨mc, nsK h1, h2⟩⟩
    have e0 : Env0 P w K mg (hidT s₁.heap H) callerA [] s₁ H := ⟨rfl, hM, fun b o e => of_hidT e, Nat.le_of_eq (hidT_size _ _), trivial, fun b hb => absurd (show b ∈ ([] : List Addr) from hb) (by simp), hok, .of_eq hg⟩
    refine codeAny_mono ((F _ hKb (nsK hns) hBb hCb).run callerA [] s₁ H ⟨[.ref a], []⟩ [.ref a] [.ref a] _ _ hr e0 (hbind s₁ (.ref a)) (.cons rfl .nil) (hsp H hO hS)) fun r s' h => ?_
    cases r with
    | error e => exact (hCX H e s' h).elim
    | ok fl =>
      cases fl with
      | next => exact False.elim h
      | brk => exact False.elim h
      | cont => exact False.elim h
      | ret u =>
        obtain ⟨v, H', os, bare, un, hok', r', q⟩ := h
        have q' : v = .bl true := q
        subst q'
        obtain rfl : u = Value.bool true := r'
        refine ⟨rfl, ⟨fun b o e => ?_, fun b o e => un.there b o e (by simp)⟩, os, bare⟩
        rcases hO.only b with z | ⟨ob, xs, z⟩ | ⟨hm, z⟩
        · exact .inl (un.keep b o e z (by intro z; exact absurd (show b ∈ ([] : List Addr) from z) (by simp)) (by simp))
        · have z2 := un.frzs b ob _ z
          obtain ⟨e1, _⟩ := hok b _ z
          obtain ⟨e2, _⟩ := hok' b _ z2
          rw [e] at e1; cases e1
          exact .inl e2
        · obtain ⟨more, z2⟩ := un.tbls b _ z
          have e2 : s'.heap.get? b = some (PySem.W.tabObj (#[] ++ more)) := hok' b _ z2
          have e3 := tabO b hm
          obtain ⟨q, hq, rfl⟩ := List.mem_map.mp hm
          rw [e] at e3
          cases e3
          exact .inr (.inl ⟨((hT q hq).1.tab (hT q hq).2).isCodeTable, rfl, #[], more, rfl, e2⟩)
  have tb : ∀ b, b ∈ tabs.map (·.2) → HOk P w (fun _ => none) s₁.heap → ObjOk P w (fun _ => none) s₁.heap b (.tbl #[]) := fun b hb _ => tabO b hb
  cases hk : K.lookup a with
  | some o =>
    have e := KX a o hk
    rw [ha] at e
    cases e
    refine core (fun b => if b ∈ tabs.map (·.2) then some (.tbl #[]) else none) ⟨fun b => ?_, fun q hq => if_pos (List.mem_map_of_mem hq)⟩ (.inr ⟨_, vs.toArray, _, hk, rfl, rfl, rfl, by rw [List.size_toArray, lenV]; exact hl, by simpa using rv⟩) (fun b u z => ?_) (fun b z => ?_) fun z => ?_
    · by_cases hm : b ∈ tabs.map (·.2)
      · exact .inr (.inr ⟨hm, if_pos hm⟩)
      · exact .inl (if_neg hm)
    · by_cases hm : b ∈ tabs.map (·.2)
      · have z' := (if_pos hm).symm.trans z
        cases z'
        exact tabO b hm
      · have z' := (if_neg hm).symm.trans z
        cases z'
    · by_cases hm : b ∈ tabs.map (·.2)
      · exact .inr hm
      · exact absurd (if_neg hm) z
    · exact absurd (if_neg naT) z
  | none =>
    refine core (fun b => if b = a then some (.frz { cls := .type "list", data := .seq vs.toArray } (.lst (ns.map V.int))) else if b ∈ tabs.map (·.2) then some (.tbl #[]) else none) ⟨fun b => ?_, fun q hq => ?_⟩ (.inl (.inr ⟨{ cls := .type "list", data := .seq vs.toArray }, if_pos rfl⟩)) (fun b u z => ?_) (fun b z => ?_) fun _ => hk
    · by_cases hb : b = a
      · exact .inr (.inl ⟨_, _, if_pos hb⟩)
      · by_cases hm : b ∈ tabs.map (·.2)
        · exact .inr (.inr ⟨hm, (if_neg hb).trans (if_pos hm)⟩)
        · exact .inl ((if_neg hb).trans (if_neg hm))
    · have hm : q.2 ∈ tabs.map (·.2) := List.mem_map_of_mem hq
      have hb : q.2 ≠ a := fun z => naT (z ▸ hm)
      exact (if_neg hb).trans (if_pos hm)
    · by_cases hb : b = a
      · have z' := (if_pos hb).symm.trans z
        cases z'
        subst hb
        exact ⟨ha, by rw [List.length_map]; exact hl, vs, _, rv, ha⟩
      · by_cases hm : b ∈ tabs.map (·.2)
        · have z' := ((if_neg hb).trans (if_pos hm)).symm.trans z
          cases z'
          exact tabO b hm
        · have z' := ((if_neg hb).trans (if_neg hm)).symm.trans z
          cases z'
    · by_cases hb : b = a
      · exact .inl hb
      · by_cases hm : b ∈ tabs.map (·.2)
        · exact .inr hm
        · exact absurd ((if_neg hb).trans (if_neg hm)) z
theorem walk_ofT {l : PySem.W.OpenLaw} {n k : Nat} {q : Program} {loose : List Str} {XP : (Str → Option Value) → Heap → Prop} {YP : World → Heap → Prop} {d : DefRec} {K : Params → PySem.W.Frag} {CX : World → CXT} {sp : World → Sp} {x : Str} {tabs : List (Addr × Addr)}
    (himp : importsNone q = true) (hn : l.most = some n) (hn2 : n ≤ sizeLine) (hdf : d.params.defaults = []) (hr : Room k callerA)
    (hY : ∀ (w : World) (h : Heap), YP w h → (K w.params).In h) (hnK : ∀ w : World, PySem.W.noTabs (K w.params) = true) (hT : ∀ (w : World) (h : Heap), YP w h → PySem.W.TabsAt tabs h)
    (F : ∀ (w : World) (mg : Str → Option Value) (fa : Addr) (h : Heap), (K w.params).In h → h.Ns mainGlobals mg → mg d.name = some (.ref fa) →
      ∃ fd : FuncData, (∀ (s : Shared) (u : Value), BindsTo s fd ⟨[u], []⟩ [(x, u)]) ∧
        ∀ base : Heap, (K w.params).In base → base.Ns mainGlobals mg → BltB mg base → PySem.W.CodeAll tabs base → FnOk l.prog w (K w.params) mg base (CX w) k fa fd [x] (sp w))
    (hsp : ∀ (w : World) (H : Hp) (a : Addr) (ns : List Int), ns.length ≤ n → OnlyT tabs H → SqL (K w.params) H a (ns.map V.int) → sp w [.ref a] H (fun v _ => v = .bl true) fun _ _ _ => False)
    (hCX : ∀ (w : World) (H : Hp) (s : Shared) (e : Value) (s' : Shared), CX w [] H s (fun _ _ _ => False) e s' → False) :
    PySem.W.WalkO q loose XP YP l.row.toRowW d [] (fun f vs => PySem.call f vs) := by
  refine Att.attach_call hn hdf fun w s₀ s₁ mg mb fa o pm cd doc a vs ns G Y ho hd hcd hmg hobj hints hlen hg => ?_
  have KX := hY w _ Y
  obtain ⟨fd, hb, hF⟩ := F w mg fa _ KX G.T.g hmg
  have hbm : BltB mg s₁.heap := by
    obtain ⟨bm, ob, b1, b2, b3, b4, b5, b6⟩ := G.T.bmain
    exact ⟨⟨bm, ob, b1, b2, b3, b4, b5, b6⟩, G.T.seer himp⟩
  exact law_callT (hT w _ Y) (hnK w) hbm KX G.T.g G.T.b G.T.builtins G.T.nolimit hg hobj hints (Nat.le_trans hlen hn2) hr hF hb (fun H hO hS => hsp w H a ns hlen hO hS) fun H e s' => hCX w H s₁ e s'
end L2
namespace DL
open PySem PySem.Spec PyProof.Rows L2
theorem mem_lk {β : Type} : ∀ {l : List (Addr × β)} {a : Addr} {b : β}, l.lookup a = some b → (a, b) ∈ l
  | [], _, _, e => by cases e
  | (c, x) :: r, a, b, e => by
    rw [List.lookup_cons] at e
    cases hb : a == c with
    | true => rw [hb] at e; cases e; rw [eq_of_beq hb]; exact .head _
    | false => rw [hb] at e; exact .tail _ (mem_lk e)
def tab0 (tq : List (Addr × Str)) : DH := fun b => (tq.lookup b).map fun q => DO.tbl fun H ps => TblOk H q ps
theorem law_upT {K : Fg} {H : Hp} {a : Addr} {ns : List Int} {F : DSp} {E : XK} {tabs : List (Addr × Addr)} {tq : List (Addr × Str)} (ho : OnlyT tabs H) (hS : SqL K H a (ns.map V.int)) (ht : ∀ p ∈ tq, p.1 ∈ tabs.map (·.2)) (h : F [.rl (ns.map D.int)] (tab0 tq) (fun d _ => d = .bl true)) : spU K F [.ref a] H (fun v _ => v = .bl true) E := by
  refine ⟨[.rl (ns.map D.int)], tab0 tq, fun d _ => d = .bl true, IsDs.cons (isRl.mpr ⟨a, ns.map V.int, rfl, ?_, ?_⟩) IsDs.nil, fun b o e => ?_, h, fun d' S' v H' e _ _ i => ?_⟩
  · rcases hS with (h1 | h1) | h1
    · rcases ho.only a with z | ⟨o, xs, z⟩ | ⟨_, z⟩
      · rw [z] at h1; cases h1
      · rw [z] at h1; cases h1
      · rw [z] at h1; cases h1
    · exact .inl h1
    · exact .inr h1
  · clear h hS
    induction ns with
    | nil => exact IsDs.nil
    | cons n ns ih => exact IsDs.cons (isInt.mpr rfl) ih
  · unfold tab0 at e
    cases q : tq.lookup b with
    | none => rw [q] at e; cases e
    | some x =>
      rw [q] at e
      cases e
      obtain ⟨t, ht', e2⟩ := List.mem_map.mp (ht _ (mem_lk q))
      have z := ho.all t ht'
      rw [e2] at z
      exact ⟨#[], z, fun H2 _ => ⟨trivial, fun pos cv z2 => by cases z2⟩⟩
  · subst e
    exact isBl.mp i
end DL
namespace L2
open PySem PySem.Spec PyProof.Rows
theorem op_divR {X : Cx} {n : Nat} (hr : Room n X.A) (hn : 33 ≤ n) (hB : BltB X.mg X.base) (hT : X.prog.given.tree = none) (hst : X.stack = X.env :: X.outer) (hg : X.env.scope.isGenerator = false) (hc : X.env.scope.isCoroutine = false) :
    OpR X (binaryOp .FloorDiv) (rI (fun _ j => j ≠ 0) fun i j => .int (i.fdiv j)) := by
  intro pins s σ H x y v u Q I rx ry h
  obtain ⟨i, j, rfl, rfl, hj, q⟩ := h
  obtain ⟨t, rfl⟩ := rx
  obtain ⟨t', rfl⟩ := ry
  have hd := hr.dp
  have hN : s.heap.NoSeer := hB.2.keeps I.bk
  exact floordiv_int hj ⟨.int (i.fdiv j), H, I.tok _, ⟨_, rfl⟩, q⟩ (.inr (PylongRoom.of I.nolimit (by show X.A.depth + 100 < recursionLimit; omega) (SeerAt.of hN hT (hst ▸ I.ok.frames) hg hc I.ok.blt I.ok.glob)))
end L2
namespace DL
open PySem PySem.Spec PyProof.Rows L2
abbrev dDivR : D2 := d2I (fun _ j => j ≠ 0) fun i j => .int (i.fdiv j)
theorem o_divR {X : Cx} {n : Nat} (hr : Room n X.A) (hB : BltB X.mg X.base) (hT : X.prog.given.tree = none) (hst : X.stack = X.env :: X.outer) (hg : X.env.scope.isGenerator = false) (hc : X.env.scope.isCoroutine = false) (hn : 33 ≤ n) :
    OpR X (binaryOp .FloorDiv) (upR X.K dDivR) := op2I (C := fun _ j => j ≠ 0) (gV := fun i j => .int (i.fdiv j)) (op_divR hr hn hB hT hst hg hc) fun _ _ _ => isInt.mpr rfl
end DL
namespace DL
open PySem PySem.Spec PyProof.Rows L2
section
variable {X : Cx} {pins : List (Addr × Obj)} {σ : L2.St} {H : Hp} {s : Shared}
theorem eqL_at (I : Inv X pins σ H s) {S : DH} {a c : Addr} {ds es : List D} {b : Bool} (hS : Hs X.K H S) (h1 : S a = some (.lst ds)) (h2 : S c = some (.lst es)) (hl : ds.length = es.length) (A : Around) (hu : A.units + 8 < cLine) (h : eqTs (eqT 7) ds es = some b) :
    SeqAt.RcAt A s (.ref a) (.ref c) b ∧ SeqAt.RcNeAt A s (.ref a) (.ref c) (!b) := by
  obtain ⟨xs, q1, j1⟩ := hS.lst h1
  obtain ⟨ys, q2, j2⟩ := hS.lst h2
  obtain ⟨us, r1, p1, _⟩ := I.list (SqL.of q1)
  obtain ⟨ws, r2, p2, _⟩ := I.list (SqL.of q2)
  have l1 := j1.length
  have l2 := j2.length
  have l3 := r1.length
  have l4 := r2.length
  have hsz : us.toArray.size = ws.toArray.size := by simp only [List.size_toArray]; omega
  have he : ∀ j (h1 : j < us.toArray.size) (h2 : j < ws.toArray.size), SeqAt.EqAt A.in1 s us.toArray[j] ws.toArray[j] (eqAts (eqT 7) ds es j) := fun j h1 h2 => by
    simp only [List.size_toArray] at h1 h2
    obtain ⟨d, e, x, y, q1, q2, d1, d2, rx, ry⟩ := pair_at j1 j2 r1 r2 h1 h2
    have := (eqT_at I 7 A.in1 d e x y us[j] ws[j] _ (by show A.units + 1 + 7 < cLine; omega) (eqTs_at h q1 q2) d1 d2 rx ry).1
    simpa using this
  have e := eqTs_all h
  rw [hl, Nat.min_self] at e
  have e : (List.range us.toArray.size).all (eqAts (eqT 7) ds es) = b := by
    simp only [List.size_toArray]
    rw [← l3, ← l1, hl]
    simpa using e
  refine ⟨?_, ?_⟩
  · have z := SeqAt.RcAt.lists p1.isList p2.isList hsz (by omega) he
    rw [e] at z
    exact z
  · have z := SeqAt.RcNeAt.lists p1.isList p2.isList hsz (by omega) he
    rw [e] at z
    exact z
end
def dEqX : D2 := fun d e S k => match d, e with
  | .ref a, .ref c => ∃ xs ys b, S a = some (.lst xs) ∧ S c = some (.lst ys) ∧ xs.length = ys.length ∧ eqTs (eqT 7) xs ys = some b ∧ k (.bl b) S
  | d, e => ∃ b, eqT 8 d e = some b ∧ k (.bl b) S
def dNeX : D2 := fun d e S k => match d, e with
  | .ref a, .ref c => ∃ xs ys b, S a = some (.lst xs) ∧ S c = some (.lst ys) ∧ xs.length = ys.length ∧ eqTs (eqT 7) xs ys = some b ∧ k (.bl (!b)) S
  | d, e => ∃ b, eqT 8 d e = some b ∧ k (.bl (!b)) S
theorem o_neX {X : Cx} {n : Nat} (hr : Room n X.A) : OpR X (compareOp .NotEq) (upR X.K dNeX) := by
  intro pins s σ H x y v u Q I rx ry h
  obtain ⟨d, e, S, k, i1, i2, hS, r, m⟩ := h
  have hu := hr.units
  unfold dNeX at r
  split at r
  · obtain ⟨xs, ys, b, h1, h2, h3, h4, w⟩ := r
    have e1 := isRef.mp i1
    have e2 := isRef.mp i2
    subst e1 e2
    cases rx
    cases ry
    exact (eqL_at I hS h1 h2 h3 X.A (by omega) h4).2 X.prog X.w X.xe _ ⟨.bl (!b), H, I, rfl, up1 m hS w (isBl.mpr rfl)⟩
  · obtain ⟨b, h1, w⟩ := r
    exact eqT_ne I 8 X.A d e x y v u b (by omega) h1 i1 i2 rx ry X.prog X.w X.xe _ ⟨.bl (!b), H, I, rfl, up1 m hS w (isBl.mpr rfl)⟩
end DL
namespace DL
open PySem PySem.Spec PyProof.Rows L2
structure RefC (K : Fg) (rod : Value) (nine : List Addr) (j : Nat) (C : Addr) : Prop where
  exc : ExcCls K C
  kit : ∀ (i : Nat) (c : Addr), nine[i]? = some c → PySem.W.kitOne K (.ref C) (.ref c) = some (decide (i = j))
  val : PySem.W.kitOne K (.ref C) (.type "ValueError") = some true
  rod : PySem.W.exmOne K (.ref C) rod = some true
  lt : j < 9
end DL
namespace DL
open PySem PySem.Spec PyProof.Rows L2
theorem OwnX.mk' {P : Program} {w : World} {K : Fg} {mg : Str → Option Value} {base : Heap} {x qual : Str} {st : Stmt} {f : Addr} {fd : FuncData} {ps : List Str} {n : Nat} {F : DSpX} (Fn : Fun K x qual st f fd) (h : FnOk P w K mg base (CXE P w) n f fd ps (spX K F)) (hm : mg x = some (.ref f)) (hb : Binds K fd ps []) : OwnX P w K mg base x n F :=
  ⟨f, fd, ps, h, hm, Fn.kp, hb⟩
end DL
namespace DL
open PySem PySem.Spec PyProof.Rows L2
end DL
namespace L2
open PySem PySem.Spec PyProof.Rows
section
variable {X : Cx} {e st : Expr} {te ts : TE} {p2 pos : Pos}
def tRev (K : PySem.W.Frag) (te ts : TE) : TE := fun σ H Q => te σ H fun x H1 => ts σ H1 fun y H2 => y = .int (-1) ∧ ∃ a xs, x = .ref a ∧ SqL K H2 a xs ∧ ∀ p, H2 p = none → Q (.ref p) (upd H2 p (.lst xs.reverse))
end
end L2
namespace DL
open PySem PySem.Spec PyProof.Rows L2
def dRev (ge gs : DE) : DE := fun L S k => ge L S fun d S1 => gs L S1 fun y S2 => y = .int (-1) ∧ match d with
  | .ref a => ∃ xs, S2 a = some (.lst xs) ∧ ∀ p, S2 p = none → k (.ref p) (put S2 p (.lst xs.reverse))
  | _ => False
end DL
namespace DL
open PySem PySem.Spec PyProof.Rows L2
def bTuple : DSp := fun ds S k => match ds with
  | [.tup xs] => k (.tup xs) S
  | [.ref a] => ∃ xs, S a = some (.lst xs) ∧ k (.tup xs) S
  | _ => False
theorem b_tuple {X : Cx} : CallR X (.type "tuple") (upC X.K bTuple) := by
  intro pins s σ H xs us Q I rs h
  obtain ⟨ds, S, k, i, hS, r, n⟩ := h
  unfold bTuple at r
  split at r
  · obtain ⟨x, rfl, i1⟩ := isDs1 i
    obtain ⟨a, vs, rfl, t, j⟩ := isTup.mp i1
    exact call_tuple_of pins s σ H _ us Q I rs ⟨a, vs, rfl, .inr ⟨t, n _ S _ H r (Kp.refl H) hS i1⟩⟩
  · obtain ⟨x, rfl, i1⟩ := isDs1 i
    have e1 := isRef.mp i1
    subst e1
    obtain ⟨xs, z, r⟩ := r
    obtain ⟨vs, hl, j⟩ := hS.lst z
    refine call_tuple_of pins s σ H _ us Q I rs ⟨_, vs, rfl, .inl ⟨SqL.of hl, fun p hp => ?_⟩⟩
    have kp : Kp H (upd H p (.tup vs)) := Kp.new hp
    exact n _ S _ _ r kp (hS.new hp) (isTup.mpr ⟨p, vs, rfl, SqT.of upd_same, j.kp kp⟩)
  · exact r.elim
end DL
namespace L2
open PySem PySem.Spec PyProof.Rows
section
variable {X : Cx} {pos : Pos}
def tPar3 (i j l : Nat) (ta : TA) : TS := fun D σ H => ta σ H fun vs H1 => ∃ v w t, vs = [v, w, t] ∧ D.nx (((σ.set l (some t)).set j (some w)).set i (some v)) H1
end
end L2
namespace DL
open PySem PySem.Spec PyProof.Rows L2
def dPar3 (i j l : Nat) (ta : DA) : DS := fun M L S => ta L S fun ds S1 => match ds with
  | [d, e, f] => M.nx (((L.set l (some f)).set j (some e)).set i (some d)) S1
  | _ => False
end DL
namespace L2
open PySem PySem.Spec PyProof.Rows
theorem boot_enum : bootBuiltins "enumerate" = some (.type "enumerate") := by decide +kernel
theorem drawsB {P : Program} {w : World} {A : Around} (b : Bool) (it l : Addr) (xs : Array Value) (hh : A.handled = none) (hne : it ≠ l) : Draws P w A it [it, l] xs.size (fun i x => xs[i]? = some x) (fun i h => itB b it l i h ∧ sqB b l xs h) where
  live := fun i h st => by obtain ⟨o, e, _⟩ := (handsB (P := P) (w := w) b it l).obj _ _ st.1; exact ⟨o, e⟩
  frame := fun i h h' st q => ⟨(handsB (P := P) (w := w) b it l).at_ _ _ _ st.1 fun o e => q it (by simp) o e, (handsB (P := P) (w := w) b it l).sqAt _ _ _ st.2 fun o e => q l (by simp) o e⟩
  item := fun i s Q E hi st hQ => (handsB (P := P) (w := w) b it l).item A i s xs xs[i] Q E st.1 st.2 (by simp [hi]) fun h' a1 a2 => hQ _ h' s.toks (by simp [hi]) ⟨a1, (handsB (P := P) (w := w) b it l).sqAt _ _ _ st.2 fun o e => a2.extBut _ _ (Ne.symm hne) e⟩ a2
  done := fun s Q E st hE => (handsB (P := P) (w := w) b it l).fin _ _ _ _ _ _ hh st.1 st.2 (by simp) hE
def Ite (K : PySem.W.Frag) (b : Bool) (a : Addr) : It :=
  ⟨fun i H => ∃ xs x, SqB b K H a xs ∧ xs[i]? = some x,
   fun i H v H' => ∃ T x, v = .ref T ∧ H T = none ∧ H' = upd H T (.tup [.int (i : Nat), x]) ∧ ∀ xs, SqB b K H a xs → xs[i]? = some x,
   fun i H => ∃ xs, SqB b K H a xs ∧ xs.length = i⟩
def tnE (b : Bool) (e it a : Addr) (i : Nat) (h : Heap) : Prop := (∃ old, IsEnum h e it (i : Nat) old) ∧ itB b it a i h
theorem turn_enum {P : Program} {w : World} {K : PySem.W.Frag} {es : List Expr} {k : Nat} {pos : Pos} (b : Bool) {e it a : Addr} (h1 : e ≠ it) (h2 : e ≠ a) (h3 : it ≠ a) :
    Turn P w K (.Tuple es k pos) (Ite K b a) [e, it] e (tnE b e it a) where
  mem := by simp
  obj := fun i h st c hc => by
    obtain ⟨⟨old, he⟩, hi⟩ := st
    have hc' : c = e ∨ c = it := by simpa using hc
    rcases hc' with rfl | rfl
    · exact ⟨_, he, fun v q => by cases q⟩
    · exact (handsB (P := P) (w := w) b c a).obj _ _ hi
  keep := fun i h h' st q => by
    obtain ⟨⟨old, he⟩, hi⟩ := st
    exact ⟨⟨old, q e (by simp) _ he⟩, (handsB (P := P) (w := w) b it a).at_ _ _ _ hi fun o x => q it (by simp) o x⟩
  item := by
    intro X hP hw hK hc i pins s σ H E I hf st hg
    subst hP hw hK
    obtain ⟨xs, x, q1, hx⟩ := hg
    obtain ⟨its, rv, p⟩ := I.sqB q1
    obtain ⟨u, hu, ru⟩ := rv.get hx
    obtain ⟨⟨old, he⟩, hi⟩ := st
    have hn : H s.heap.objs.size = none := I.hok.fresh (Nat.le_refl _)
    have helt : e < s.heap.objs.size := Heap.lt_size he
    have hilt : it < s.heap.objs.size := by obtain ⟨o, z, _⟩ := (handsB (P := X.prog) (w := X.w) b it a).obj _ _ hi; exact Heap.lt_size z
    have hlt : i < its.toArray.size := by
      have := List.getElem?_eq_some_iff.mp hu
      obtain ⟨z, _⟩ := this
      simpa using z
    refine wpAny_pyNext_enum_itemD (drawsB b it a its.toArray (show X.A.in1.handled = none from I.ok.hd hc) h3) he ⟨hi, p⟩ hlt h1 (by simp [h1, h2]) fun x' h' tk hx' ho hst hT hsz hk => ?_
    have ex : x' = u := by
      have z : its[i]? = some x' := by simpa using hx'
      rw [hu] at z
      exact (Option.some.inj z).symm
    subst ex
    have I1 : Inv X pins σ (upd H s.heap.objs.size (.tup [.int (i : Nat), x])) { s with heap := h', toks := tk + 1 } :=
      I.turnedNew (t' := tk + 1) [e, it] (fun c o hb y => hk c o (fun q => hb (by simp [q])) (fun q => hb (by simp [q])) y) hf (Nat.le_refl _) ⟨Nat.le_of_ble_eq_true rfl, [.int (i : Nat) tk, x'], .cons ⟨tk, rfl⟩ (.cons ru .nil), ⟨_, hT, rfl, _, rfl⟩⟩
    refine ⟨_, rfl, wpAny_letOwnedTupleGo_enum (s := { s with heap := h', toks := tk + 1 }) ho fun h2' g1 g2 => ?_⟩
    refine ⟨.ref s.heap.objs.size, upd H s.heap.objs.size (.tup [.int (i : Nat), x]), ?_, rfl, ⟨_, x, rfl, hn, rfl, fun xs' e1 => by rw [I.sqB_inj e1 q1]; exact hx⟩, ⟨⟨x', by simpa using g1⟩, ?_⟩, fun c hb => ?_⟩
    · refine I1.turnedL (t' := tk + 1) [e] (fun c o hb y => g2.extBut _ _ (fun q => hb (by simp [q])) y) fun c hb => ?_
      have z : c = e := by simpa using hb
      subst z
      obtain ⟨f0, f1, f2, f3, f4, f5⟩ := hf c (by simp)
      exact ⟨by rw [upd_ne (Nat.ne_of_lt helt)]; exact f0, f1, f2, f3, f4, f5⟩
    · exact (handsB (P := X.prog) (w := X.w) b it a).at_ _ _ _ hst.1 fun o z => g2.extBut _ _ (Ne.symm h1) z
    · have hc' : c = e ∨ c = it := by simpa using hb
      rw [upd_ne (by rcases hc' with rfl | rfl; exact Nat.ne_of_lt helt; exact Nat.ne_of_lt hilt)]
      exact (hf c hb).1
  done := by
    intro X hP hw hK hc i pins s σ H E I hf st hg
    subst hP hw hK
    obtain ⟨xs, q1, hx⟩ := hg
    obtain ⟨its, rv, p⟩ := I.sqB q1
    obtain ⟨⟨old, he⟩, hi⟩ := st
    have l1 := rv.length
    have ez : i = its.toArray.size := by simp; omega
    refine wpAny_pyNext_enum_endD (drawsB b it a its.toArray (show X.A.in1.handled = none from I.ok.hd hc) h3) he ⟨by rw [← ez]; exact hi, p⟩ fun h' kk => ⟨rfl, I.turnedL (t' := s.toks) [it] (fun c o hb y => kk c o (fun q => hb (by simp [q])) y) fun c hb => hf c ?_⟩
    have z : c = it := by simpa using hb
    subst z
    simp
  self := fun _ _ _ _ _ st h => by
    obtain ⟨⟨old, he⟩, _⟩ := st
    exact wpAny_pyIter_enum he h
theorem meets_enumT (l : Addr) (xs : Array Value) (n : Nat) (dct : Option Addr) (sl : Array (Option Value)) :
    Meets (Builtin.«enumerate.__new__» ⟨[.type "enumerate", .ref l], []⟩) (fun _ R s => s.heap.get? l = some ⟨.type "tuple", dct, .seq xs n, sl⟩ ∧
      R (.ok (.ret (.ref (zh1 s.heap "tuple_iterator" l).objs.size))) { s with heap := (zh1 s.heap "tuple_iterator" l).push { cls := .type "enumerate", data := .fields #[.none, .bool false, .ref s.heap.objs.size, rawInt 0, .none, .none] } }) :=
  .of_wp fun prog w A R s h => by
    obtain ⟨hp, g, d, tk, os⟩ := s
    obtain ⟨hl, h⟩ := h
    have hsub := sub_enumerate
    have hT : Heap.IsTuple (Shared.heap ⟨hp, g, d, tk, os⟩) l xs := ⟨_, hl, rfl, n, rfl⟩
    wp_walk using AutoSeq1.wpAny_loadPart' hl
    refine wpAny_stack_any fun _ => wpAny_pure ?_
    split
    · rename_i c _ _ _ _ _
      cases (c == Value.type "enumerate") <;> (wp_walk using AutoSeq1.wpAny_loadPart' hl, wpAny_pyIter_tuple hT; exact ⟨_, rfl, h⟩)
    · wp_walk using AutoSeq1.wpAny_loadPart' hl, wpAny_pyIter_tuple hT
      exact ⟨_, rfl, h⟩
section
variable {prog : Program} {w : World} {A : Around} {E : Value → Shared → Prop} {s : Shared}
theorem call_enumT {l : Addr} {xs : Array Value} {Q : Value → Shared → Prop} (hL : s.heap.IsTuple l xs)
    (h : ∀ h', IsEnum h' (s.heap.objs.size + 1) s.heap.objs.size 0 .none → h'.get? s.heap.objs.size = some { cls := .type "tuple_iterator", data := .fields #[.ref l, .int 0 0] } → (∀ c o, s.heap.get? c = some o → h'.get? c = some o) → Q (.ref (s.heap.objs.size + 1)) { s with heap := h' }) :
    wpAny (model prog w) A (call (.type "enumerate") [.ref l]) Q E s := by
  obtain ⟨⟨c, dct, dt, sl⟩, hl, hc, n, hd⟩ := hL
  obtain rfl : c = .type "tuple" := hc
  obtain rfl : dt = .seq xs n := hd
  refine callType_new F.called_enumerate (by decide) (F.typeCall_enumerate_1 _) (F.newCall_enumerate_1 _) (fun obj => F.args_object_init_2 obj _) F.entry_enumerate_new (meets_enumT l xs n dct sl) ⟨hl, ?_⟩
  have z1 : (zh1 s.heap "tuple_iterator" l).objs.size = s.heap.objs.size + 1 := Heap.size_push ..
  have g5 := Heap.get?_push_size (zh1 s.heap "tuple_iterator" l) (o := { cls := .type "enumerate", data := .fields #[.none, .bool false, .ref s.heap.objs.size, rawInt 0, .none, .none] }) rfl
  show _ ∧ _
  rw [z1] at g5 ⊢
  exact ⟨⟨_, g5, rfl⟩, h _ g5 (Heap.get?_push_of_some _ (Heap.get?_push_size _ rfl)) fun c o x => Heap.get?_push_of_some _ (Heap.get?_push_of_some _ x)⟩
theorem call_enumB {b : Bool} {l : Addr} {xs : Array Value} {Q : Value → Shared → Prop} (hL : sqB b l xs s.heap)
    (h : ∀ h', IsEnum h' (s.heap.objs.size + 1) s.heap.objs.size 0 .none → itB b s.heap.objs.size l 0 h' → (∀ c o, s.heap.get? c = some o → h'.get? c = some o) → Q (.ref (s.heap.objs.size + 1)) { s with heap := h' }) :
    wpAny (model prog w) A (call (.type "enumerate") [.ref l]) Q E s := by
  cases b with
  | true => exact call_enumerate_list hL fun h' a1 a2 _ a4 => h h' a1 a2 a4
  | false => exact call_enumT hL fun h' a1 a2 a4 => h h' a1 ⟨_, a2, rfl, rfl⟩ a4
end
def iEnum (K : PySem.W.Frag) (ta : TA) : TI := fun σ H R => ta σ H fun vs H1 => ∃ a b, vs = [.ref a] ∧ (∃ xs, SqB b K H1 a xs) ∧ R (Ite K b a) H1
theorem pi_enum {X : Cx} {a : Expr} {ta : TA} {p pos tp : Pos} {es : List Expr} {k : Nat} (hg : Gl X "enumerate") (hm : X.mg "enumerate" = none) (ha : PA X [a] ta) (hs : starEach [a] X.env = [(false, eval a X.env)] := by rfl) :
    PI X (.Tuple es k tp) (.Call (.Name "enumerate" p) [a] [] pos) (iEnum X.K ta) := by
  intro pins s σ H R I h
  refine Call_ (ld_blt I hg hm boot_enum (PyProof.Rows.callWith_type1 (thn (ha pos pins s σ H _ I h) fun us s1 ⟨vs, H1, I1, r1, q1⟩ => ?_) (by rw [hs]; rfl) rfl))
  obtain ⟨a1, b, rfl, ⟨xs, e1⟩, q⟩ := q1
  cases r1 with
  | cons r rr =>
    cases rr
    cases r
    obtain ⟨its, rv, p1⟩ := I1.sqB e1
    have al := sqB_lt p1
    refine call_enumB p1 fun h' c1 c2 c3 => ?_
    refine wpAny_pyIter_enum (s := { s1 with heap := h' }) c1 ?_
    have fr : ∀ j, H1 (s1.heap.objs.size + j) = none := fun j => I1.hok.fresh (Nat.le_add_right _ _)
    refine ⟨_, [s1.heap.objs.size + 1, s1.heap.objs.size], _, _, H1, rfl, I1.kept (t' := s1.toks) c3, turn_enum b (Nat.succ_ne_self _) (Nat.ne_of_gt (Nat.lt_succ_of_lt al)) (Nat.ne_of_gt al), ⟨⟨_, c1⟩, c2⟩, fun c hb => ?_, q⟩
    have hb' : c = s1.heap.objs.size + 1 ∨ c = s1.heap.objs.size := by simpa using hb
    rcases hb' with rfl | rfl
    · exact I1.fpOk (Nat.le_add_right _ _) (fr 1)
    · exact I1.fpOk (Nat.le_refl _) (fr 0)
end L2
namespace DL
open PySem PySem.Spec PyProof.Rows L2
def enumD : Nat → List D → List D
  | _, [] => []
  | j, d :: r => .tup [.int (j : Nat), d] :: enumD (j + 1) r
theorem enumD_get : ∀ {ds : List D} {j i : Nat} {c : D}, (enumD j ds)[i]? = some c → ∃ d, ds[i]? = some d ∧ c = .tup [.int ((j + i : Nat) : Int), d]
  | [], _, _, _, h => by cases h
  | d :: r, j, 0, c, h => ⟨d, rfl, (Option.some.inj h).symm⟩
  | d :: r, j, i + 1, c, h => by
    obtain ⟨e, h1, h2⟩ := enumD_get (ds := r) (j := j + 1) (i := i) h
    exact ⟨e, h1, by rw [h2, show j + 1 + i = j + (i + 1) by omega]⟩
theorem enumD_len : ∀ {ds : List D} {j : Nat}, (enumD j ds).length = ds.length
  | [], _ => rfl
  | _ :: r, j => congrArg (· + 1) (enumD_len (ds := r) (j := j + 1))
theorem enum_go {K : Fg} {H1 : Hp} {q : List D × Option Addr} {a : Addr} {b : Bool} (y : ∀ S2 H2, Kp H1 H2 → Hs K H2 S2 → okFor q S2 → ∃ xs, SqB b K H2 a xs ∧ IsDs K H2 q.1 xs) :
    (∀ i d S2 H2, (enumD 0 q.1)[i]? = some d → Kp H1 H2 → Hs K H2 S2 → okFor q S2 → (Ite K b a).go i H2 ∧ ∀ x H', (Ite K b a).yld i H2 x H' → Kp H2 H' ∧ Hs K H' S2 ∧ IsD K H' d x) ∧
    ∀ S2 H2, Kp H1 H2 → Hs K H2 S2 → okFor q S2 → (Ite K b a).stop (enumD 0 q.1).length H2 := by
  refine ⟨fun i c S2 H2 e k2 hS2 o2 => ?_, fun S2 H2 k2 hS2 o2 => ?_⟩
  · obtain ⟨xs, w1, u1⟩ := y S2 H2 k2 hS2 o2
    obtain ⟨d, f1, rfl⟩ := enumD_get e
    obtain ⟨v1, g1, r1⟩ := u1.get f1
    refine ⟨⟨xs, v1, w1, g1⟩, ?_⟩
    rintro x H' ⟨T, x', rfl, hT, rfl, al⟩
    have l1 := al xs w1
    rw [g1] at l1
    cases l1
    have kn : Kp H2 (upd H2 T (.tup [.int (i : Nat), v1])) := Kp.new hT
    exact ⟨kn, hS2.new hT, isTup.mpr ⟨T, [.int (i : Nat), v1], rfl, SqT.of upd_same, IsDs.cons (isInt.mpr (by rw [Nat.zero_add])) (IsDs.cons (r1.kp kn) IsDs.nil)⟩⟩
  · obtain ⟨xs, w1, u1⟩ := y S2 H2 k2 hS2 o2
    refine ⟨xs, w1, ?_⟩
    rw [← u1.length, enumD_len]
def dForEn (ta : DA) (g : DG) (b : DS) : DS := fun M L S => ta L S fun ds S1 => match ds with
  | [d] => ∃ q, dItems S1 d = some q ∧ dLoop (okFor q) g b M (enumD 0 q.1) L S1
  | _ => False
section
variable {X : Cx} {a : Expr} {es : List Expr} {kt : Nat} {tp p pos pos' : Pos} {gg : DG} {ta : DA} {g : DS} {body : List Stmt}
theorem dst_forEnj (hp : PassesOwn (model X.prog X.w) X.A X.env X.xe) (hc : X.calm = true) (hgl : Gl X "enumerate") (hm : X.mg "enumerate" = none) (ha : AJ X [a] ta) (hg : GJ X (.Tuple es kt tp) gg) (hb : SsJ X body g)
    (hs1 : starEach [a] X.env = [(false, eval a X.env)] := by rfl) (hs : ∀ x, foldedSetIterable (.Call (.Name "enumerate" p) [a] [] pos') X.env x = pure x := by intro _; rfl) :
    SJ X (.For (.Tuple es kt tp) (.Call (.Name "enumerate" p) [a] [] pos') body [] pos) (dForEn ta gg g) :=
  ⟨PS.imp (ps_for hp hc (pi_enum hgl hm ha.h hs1) hg.h hb.h hs) fun N σ H ⟨L, S, M, hL, hS, h, r⟩ => upA.go hL hS h fun ds S1 vs H1 h1 k1 hL1 hS1 i1 => by
    split at h1
    · rename_i d1
      obtain ⟨v1, rfl, j1⟩ := isDs1 i1
      obtain ⟨q1, e1, h1⟩ := h1
      obtain ⟨a1, b1, rfl, x1, y1⟩ := seq_kd hS1 j1 e1
      obtain ⟨z1, z2⟩ := enum_go y1
      exact ⟨a1, b1, rfl, x1, for_coreG hL1 hS1 h1 (r.kp k1) z1 z2⟩
    · exact h1.elim⟩
end
end DL
namespace DL
open PySem PySem.Spec PyProof.Rows L2
def dNeL : D2 := fun d e S k => match d, e with
  | .ref a, .ref c => ∃ xs ys b, S a = some (.lst xs) ∧ S c = some (.lst ys) ∧ ((xs.length = ys.length ∧ eqTs (eqT 7) xs ys = some b) ∨ (xs.length ≠ ys.length ∧ b = false)) ∧ k (.bl (!b)) S
  | d, e => ∃ b, eqT 8 d e = some b ∧ k (.bl (!b)) S
end DL
namespace DL
open PySem PySem.Spec PyProof.Rows L2
def dIxF : D2 := fun d e S k => match d, e with
  | .tup ds, .int i => ∃ c, L2.atI ds i = some c ∧ k c S
  | .rl ds, .int i => ∃ c, L2.atI ds i = some c ∧ k c S
  | .ref a, .int i => ∃ ds c, S a = some (.lst ds) ∧ L2.atI ds i = some c ∧ k c S
  | _, _ => False
theorem x_ixF {X : Cx} : IxR X (upR X.K dIxF) := IxR.imp x_ix (upR.imp fun d e S k h => by
  unfold dIxF at h
  split at h
  · obtain ⟨c, h1, h2⟩ := h
    simp only [dIx, h1]
    exact h2
  · obtain ⟨c, h1, h2⟩ := h
    simp only [dIx, h1]
    exact h2
  · obtain ⟨ds, c, h0, h1, h2⟩ := h
    simp only [dIx, h0, h1]
    exact h2
  · exact h.elim)
end DL
namespace L2
open PySem PySem.Spec PyProof.Rows
structure Runs (cells : List (Addr × Obj)) (P : Program) (w : World) (K : PySem.W.Frag) (mg : Str → Option Value) (base : Heap) (n : Nat) (g : Addr) (H : Hp) (Q : VK) : Prop where
  fn : ∃ (o : Obj) (u : HO) (fd : FuncData), H g = some (.frz o u) ∧ o.data = .func fd
  run : ∀ (A : Around) (outer : List Env) (s : Shared), Room n A → Env0 P w K mg base A outer s H → Cells cells outer H s.heap → codeAny (model P w) A (.call (.ref g) ⟨[], []⟩) (CR CX0 outer P w H s Q E0) s
section
variable {P : Program} {w : World} {K : PySem.W.Frag} {mg : Str → Option Value} {base : Heap} {N : List Str} {qual : Str} {scope : Scope} {clos : List (Str × Addr)} {g : Addr} {cd : Value} {A : Around} {outer : List Env} {s : Shared} {H : Hp} {cells : List (Addr × Obj)} {σ0 : St}
end
section
variable {X : Cx} {pins : List (Addr × Obj)} {σ : St} {H : Hp} {s : Shared}
def tTryS (cells : List (Addr × Obj)) (P : Program) (w : World) (K : PySem.W.Frag) (mg : Str → Option Value) (base : Heap) (m : Nat) (j : Nat) : TS := fun D σ H => ∃ g Q, σ[j]? = some (some (.ref g)) ∧ Runs cells P w K mg base m g H Q ∧ ∀ v H', Q v H' → D.nx σ H'
end
end L2
namespace DL
open PySem PySem.Spec PyProof.Rows L2
def RunsD (cells : List (Addr × Obj)) (P : Program) (w : World) (K : Fg) (mg : Str → Option Value) (base : Heap) (m : Nat) (g : Addr) (H : Hp) : Prop :=
  ∀ S, Hs K H S → Runs cells P w K mg base m g H fun _ H' => Kp H H' ∧ ∃ S', Hs K H' S' ∧ ExtD S S'
section
variable {P : Program} {w : World} {K : Fg} {mg : Str → Option Value} {base : Heap} {N : List Str} {qual : Str} {scope : Scope} {clos : List (Str × Addr)} {g : Addr} {H : Hp}
end
def dTryS (cells : List (Addr × Obj)) (P : Program) (w : World) (K : Fg) (mg : Str → Option Value) (base : Heap) (m : Nat) (j : Nat) : DS := fun M L S => ∃ g φ, L[j]? = some (some (.ref g)) ∧ S g = some (.fn φ) ∧ (∀ H, φ H → RunsD cells P w K mg base m g H) ∧ ∀ S', ExtD S S' → M.nx L S'
section
variable {X : Cx} {pos : Pos}
end
end DL
namespace L2
open PySem PySem.Spec PyProof.Rows
structure CellsFor (X : Cx) (σ : St) (cells : List (Addr × Obj)) : Prop where
  all : ∀ x c, X.env.cells.lookup x = some c → ∃ o v, (c, o) ∈ cells ∧ o.data = .cell v
  val : ∀ (j : Nat) (x : Str) (v : V), X.N[j]? = some x → σ[j]? = some (some v) → (X.env.scope.names.lookup x = some .cell ∨ X.env.scope.names.lookup x = some .free) → ∃ c o u, X.env.cells.lookup x = some c ∧ (c, o) ∈ cells ∧ o.data = .cell (some u) ∧ RelV v u
  inj : ∀ x y c, X.env.cells.lookup x = some c → X.env.cells.lookup y = some c → x = y
def tCompK (X : Cx) (cap : List (Option Nat)) (wi : TI) (g : TG) (te : List (Addr × Obj) → TE) : TE := fun σ H Q => wi σ H fun J H1 => ∀ cells, CellsFor X σ cells → ∀ D, H1 D = none → ∃ W : Nat → Nat → St → Hp → Prop, (∃ m, W 0 m (capSt cap σ) (upd H1 D (.lst []))) ∧ ∀ i m σ' H', W i m σ' H' →
  (J.stop i H' ∧ Q (.ref D) H') ∨ (J.go i H' ∧ ∃ N : St → Hp → Prop, (∀ σ2 H2, N σ2 H2 → ∃ m', m' < m ∧ W (i + 1) m' σ2 H2) ∧ ∀ x H2, J.yld i H' x H2 → g x σ' H2 fun σ3 H3 => te cells σ3 H3 fun v H4 => ∃ ys, H4 D = some (.lst ys) ∧ ys.length < sizeLine ∧ N σ3 (upd H4 D (.lst (ys ++ [v]))))
section
variable {X : Cx} {elt tg iter c : Expr} {scope : Scope} {cl : List (Str × Addr)} {N : List Str} {cap : List (Option Nat)} {pos : Pos} {wi : TI} {g : TG} {te : List (Addr × Obj) → TE}
end
end L2
namespace DL
open PySem PySem.Spec PyProof.Rows L2
def CFor (X : Cx) (cells : List (Addr × Obj)) (R : Hp → Prop) (L : Lo) : Prop := ∃ σ, CellsFor X σ cells ∧ ∀ H, R H → Lc X.K H L σ
def LamK (X : Cx) (φ : Hp → Prop) (g : Addr) (cap : List (Option Nat)) (gb : (Addr → DH → Prop) → DE) (m : Nat) : Prop := ∀ cells R L, CFor X cells R L → ∀ H, φ H → R H →
  (∀ C, (∀ S, gb (fun C' S' => C' = C ∧ ExtD S S') (capL cap L) S fun _ _ => False) → FailsD cells X.prog X.w X.K X.mg X.base (m + 1) g C H) ∧
  ((∀ S, gb (fun _ _ => False) (capL cap L) S fun _ S' => ExtD S S') → RunsD cells X.prog X.w X.K X.mg X.base (m + 1) g H)
section
variable {X : Cx} {params : Arguments} {body : Expr} {scope : Scope} {clos : List (Str × Addr)} {c P : Addr} {pos : Pos} {N : List Str} {cap : List (Option Nat)} {gb : (Addr → DH → Prop) → DE} {m : Nat} {qual : Str}
def dLamK (X : Cx) (P : Addr) (qual : Str) (cap : List (Option Nat)) (gb : (Addr → DH → Prop) → DE) (m : Nat) : DE := fun _ S k => S P = some (.tbl fun H ps => TblOk H qual ps) ∧ ∀ g φ, S g = none → LamK X φ g cap gb m → k (.ref g) (put S g (.fn φ))
end
def StrR (R : Hp → Prop) (S : DH) : DH := fun a => match S a with
  | some (.fn φ) => some (.fn fun H => φ H ∧ R H)
  | o => o
def dCompK (X : Cx) (cap : List (Option Nat)) (gi : DE) (g : DG) (ge : List (Addr × Obj) → DE) : DE := fun L S k => gi L S fun d S1 => ∃ q, dItems S1 d = some q ∧ ∀ cells R, CFor X cells R L → ∀ p, StrR R S1 p = none → dCLoop (okFor q) p g (bdAll (ge cells)) k q.1 [] (capL cap L) (put (StrR R S1) p (.lst []))
section
variable {X : Cx} {pos : Pos}
end
def FrefA (cls : List (Nat × Addr)) (m : Nat) (P : Program) (w : World) (K : Fg) (mg : Str → Option Value) (base : Heap) (cells : List (Addr × Obj)) : DSp := fun ds S k =>
  Fref cls m P w K mg base cells ds S k ∨ ∃ g φ, ds = [.ref g] ∧ S g = some (.fn φ) ∧ (∀ H, φ H → RunsD cells P w K mg base m g H) ∧ ∀ S', ExtD S S' → k .non S'
def bIsiN (K : Fg) : DSp := fun ds S k => match ds with
  | [.ref a, .ref c] => ∃ C b, S a = some (.exc C) ∧ ExcCls K C ∧ PySem.W.kitOne K (.ref C) (.ref c) = some b ∧ k (.bl b) S
  | [.ref a, .ty c] => ∃ C b, S a = some (.exc C) ∧ ExcCls K C ∧ PySem.W.kitOne K (.ref C) (.type c.name) = some b ∧ k (.bl b) S
  | [.non, .ref c] => ∃ b, PySem.W.kitOne K (.type "NoneType") (.ref c) = some b ∧ k (.bl b) S
  | [.non, .ty c] => ∃ b, PySem.W.kitOne K (.type "NoneType") (.type c.name) = some b ∧ k (.bl b) S
  | _ => False
end DL
namespace DL
open PySem PySem.Spec PyProof.Rows L2
end DL
namespace DL
open PySem PySem.Spec PyProof.Rows L2
def ElT (S : DH) (x y : D) : Prop := eqT 6 x y = some true ∨ ∃ a c us, x = .ref a ∧ y = .ref c ∧ a ≠ c ∧ S a = some (.lst us) ∧ S c = some (.lst us) ∧ eqTs (eqT 7) us us = some true
section
variable {X : Cx} {pins : List (Addr × Obj)} {σ : L2.St} {H : Hp} {s : Shared}
end
def dNeD : D2 := fun d e S k => match d, e with
  | .ref a, .ref c => (∃ xs ys, S a = some (.lst xs) ∧ S c = some (.lst ys) ∧ xs.length = ys.length ∧ (∀ (i : Nat) x y, xs[i]? = some x → ys[i]? = some y → ElT S x y) ∧ k (.bl false) S) ∨ dNeL (.ref a) (.ref c) S k
  | d, e => dNeL d e S k
def dEqD : D2 := fun d e S k => match d, e with
  | .ref a, .ref c => (∃ xs ys, S a = some (.lst xs) ∧ S c = some (.lst ys) ∧ xs.length = ys.length ∧ (∀ (i : Nat) x y, xs[i]? = some x → ys[i]? = some y → ElT S x y) ∧ k (.bl true) S) ∨ dEqX (.ref a) (.ref c) S k
  | d, e => dEqX d e S k
theorem isDs.rep {K : Fg} {H : Hp} {ds : List D} {vs : List V} (h : IsDs K H ds vs) : ∀ n : Nat, IsDs K H (List.replicate n ds).flatten (List.replicate n vs).flatten
  | 0 => IsDs.nil
  | n + 1 => by
    rw [List.replicate_succ, List.flatten_cons, List.replicate_succ, List.flatten_cons]
    exact h.append (isDs.rep h n)
def dMulF : D2 := fun d e S k => match d, e with
  | .ref a, .int j => ∃ xs, S a = some (.lst xs) ∧ -(2 ^ 63) ≤ j ∧ j < 2 ^ 63 ∧ xs.length * j.toNat ≤ sizeLine ∧ ∀ p, S p = none → k (.ref p) (put S p (.lst (List.replicate j.toNat xs).flatten))
  | d, e => dMul d e S k
theorem o_mulF {X : Cx} : OpR X (binaryOp .Mult) (upR X.K dMulF) := by
  intro pins s σ H x y v u Q I rx ry h
  obtain ⟨d, e, S, k, i1, i2, hS, r, m⟩ := h
  unfold dMulF at r
  split at r
  · rename_i a j
    obtain ⟨xs, h1, h2, h3, h4, w⟩ := r
    have e1 := isRef.mp i1
    have e2 := isInt.mp i2
    subst e1 e2
    obtain ⟨vs, hl, jj⟩ := hS.lst h1
    refine op_rep pins s σ H _ _ v u Q I rx ry ⟨a, j, vs, rfl, rfl, hl, h2, h3, by rw [← jj.length]; exact h4, fun p hp => ?_⟩
    exact m _ _ _ _ (w p (hS.free hp)) (Kp.new hp) (hS.newL hp (isDs.rep jj _)) (isRef.mpr rfl)
  · exact o_mul pins s σ H x y v u Q I rx ry ⟨_, _, S, k, i1, i2, hS, r, m⟩
end DL
namespace HT
open PySem PyProof.Rows
end HT
namespace L2
open PySem PySem.Spec PyProof.Rows
section
variable {X : Cx}
end
end L2
namespace DL
open PySem PySem.Spec PyProof.Rows L2
def dAddT : D2 := fun d e S k => match d, e with
  | .tup xs, .tup ys => xs.length + ys.length ≤ sizeLine ∧ k (.tup (xs ++ ys)) S
  | d, e => dAdd d e S k
theorem isDs_intsM {K : Fg} {H : Hp} : ∀ {ns : List Int} {vs : List V}, IsDs K H (ns.map D.int) vs → vs = ns.map V.int
  | [], vs, h => by
    have := h.length
    exact List.length_eq_zero_iff.mp this.symm
  | n :: ns, vs, h => by
    obtain ⟨u, r, rfl, h1, h2⟩ := isCons.mp h
    rw [isInt.mp h1, isDs_intsM h2]
    rfl
def bSorted : DSp := fun ds S k => match ds with
  | [.ref a] => ∃ ns : List Int, S a = some (.lst (ns.map D.int)) ∧ ns.length < 64 ∧ ∀ ns' : List Int, ns'.Perm ns → ns'.Pairwise (· ≤ ·) → ∀ p, S p = none → k (.ref p) (put S p (.lst (ns'.map D.int)))
  | _ => False
end DL
namespace DL
open PySem PySem.Spec PyProof.Rows L2
def dEqS : D2 := fun d e S k => match e with
  | .str y => (match d with
    | .str x => k (.bl (x == y)) S
    | .int _ => k (.bl false) S
    | .bl _ => k (.bl false) S
    | .non => k (.bl false) S
    | .tup _ => k (.bl false) S
    | .ref a => (∃ ds, S a = some (.lst ds)) ∧ k (.bl false) S
    | _ => False)
  | _ => False
end DL
namespace HT
open PySem PyProof.Rows
section
variable {prog : Program} {w : World} {A : Around} {E : Value → Shared → Prop} {s : Shared}
end
end HT
namespace PySem
open Sem (wp)
open Builtin
end PySem
namespace L2
open PySem PySem.Spec PyProof.Rows
section
variable {X : Cx}
end
end L2
namespace DL
open PySem PySem.Spec PyProof.Rows L2
def dCutX (g : DE) (tl th : DOp) : DE := fun L S k => g L S fun x S1 => tl L S1 fun lo S2 => th L S2 fun hi S3 => match x with
  | .tup xs => k (.tup (cutD xs lo hi)) S3
  | _ => False
def dMulT : D2 := fun d e S k => match d, e with
  | .tup xs, .int j => xs ≠ [] ∧ 2 ≤ j ∧ j < 1000 ∧ xs.length * j.toNat ≤ 1000 ∧ k (.tup (List.replicate j.toNat xs).flatten) S
  | d, e => dMul d e S k
end DL
namespace PySem
open PySem.Spec
section
variable {prog : Program} {w : World} {A : Around} {E : Value → Shared → Prop} {s : Shared}
end
end PySem
namespace PySem
open PySem.Spec
section
variable {prog : Program} {w : World} {A : Around} {E : Value → Shared → Prop} {s : Shared}
end
end PySem
namespace L2
open PySem PySem.Spec PyProof.Rows
section
variable {X : Cx}
def metN (ns : List Int) : Nat := (firstMet (fun i => ns.getD i 0) ns.length).length
end
end L2
namespace DL
open PySem PySem.Spec PyProof.Rows L2
def dLenSet (g : DE) : DE := fun L S k => g L S fun d S1 => match d with
  | .tup ds => ∃ ns : List Int, ds = ns.map D.int ∧ ns.length ≤ 100 ∧ k (.int (metN ns : Nat)) S1
  | _ => False
end DL
namespace DL
open PySem PySem.Spec PyProof.Rows L2
def GInt (mg : Str → Option Value) (x : Str) (n : Int) : Prop := ∃ t, mg x = some (.int n t)
end DL
set_option linter.all false
namespace DT
abbrev Mx := Nat → Nat → Rat
def sm : Nat → (Nat → Rat) → Rat
  | 0, _ => 0
  | n + 1, f => sm n f + f n
def sk (i r : Nat) : Nat := if r < i then r else r + 1
def sg (n : Nat) : Rat := if n % 2 = 0 then 1 else -1
def det : Nat → Mx → Rat
  | 0, _ => 1
  | n + 1, M => sm (n + 1) fun i => sg (n + i) * M i n * det n (fun r c => M (sk i r) c)
def cl (M : Mx) (a : Nat) (u : Nat → Rat) : Mx := fun r c => if c = a then u r else M r c
def IsN (b : Nat) (q : Rat) : Prop := ∃ v : Int, q = v ∧ v.natAbs ≤ b
def fac : Nat → Nat
  | 0 => 1
  | n + 1 => (n + 1) * fac n
def ups (f : Nat → Nat) (k v : Nat) : Nat → Nat := fun i => if i = k then v else f i
structure BS (M : Mx) (P C : Nat → Nat) (k : Nat) (d : Rat) (z : Nat → Nat → Rat) : Prop where
  det : d = DT.det k (fun r c => M (P r) (C c))
  ne : d ≠ 0
  sol : ∀ r, r < k → ∀ x, sm k (fun j => z j x * M (P r) (C j)) = M (P r) x
def ldE (d : Rat) (z : Nat → Nat → Rat) (j x : Nat) : Rat := d * z j x
def otE (M : Mx) (C : Nat → Nat) (k : Nat) (d : Rat) (z : Nat → Nat → Rat) (q x : Nat) : Rat := d * (M q x - sm k fun j => z j x * M q (C j))
def zn (M : Mx) (C : Nat → Nat) (k : Nat) (d : Rat) (z : Nat → Nat → Rat) (l c : Nat) : Nat → Nat → Rat := fun j x => if j = k then otE M C k d z l x / otE M C k d z l c else z j x - z j c * (otE M C k d z l x / otE M C k d z l c)
end DT
namespace L2
open PySem PySem.Spec PyProof.Rows
theorem insert_list {prog : Program} {w : World} {A : Around} {E : Value → Shared → Prop} {s : Shared} {Q : Value → Shared → Prop} (l : Addr) (items : Array Value) (n : Nat) (x : Int) (u : Tok) (y : Value) (hc0 : ¬(!Builtin.List.listFitsIndex x) = true) (hsz : items.size ≤ sizeLine) (e : s.heap.get? l = some { cls := .type "list", dict := none, data := .seq items n, slots := #[] })
    (h : Q .none { s with heap := s.heap.update l (Obj.mapSeq fun xs => have k := if x < 0 then (x + ((xs.size : Nat) : Int)).toNat else min x.toNat xs.size; (xs.extract 0 k).push y ++ xs.extract k) }) :
    wpAny (model prog w) A (call (.builtin "list.insert") [.ref l, .int x u, y]) Q E s := by
  have h1 := @AutoListH.list_insert_list_int_val_1 l items n x u y hc0 hsz
  have h2 := @call_meets prog w A E s "list" "insert" "list.insert" _ (.ref l) [.int x u, y] _ Q F.slot_list_insert ⟨_, e, rfl⟩ F.entry_list_insert (F.args_list_insert_3 _ _ _) h1
  exact h2 ⟨e, h⟩
section
variable {X : Cx}
def rInsert : V → List V → Hp → VK → Prop := fun x vs H Q => ∃ (l : Addr) (xs : List V) (i : Nat) (y : V), x = .ref l ∧ vs = [.int (i : Nat), y] ∧ H l = some (.lst xs) ∧ i ≤ xs.length ∧ xs.length < 300 ∧ Q .non (upd H l (.lst (xs.take i ++ y :: xs.drop i)))
theorem mt_insert : MtM X "list.insert" rInsert := by
  intro pins s σ H x vs v us Q I rx rv h
  obtain ⟨l, xs, i, y, rfl, rfl, hH, hi, hl9, q⟩ := h
  cases rx
  obtain ⟨z, its, n, r, hl, e⟩ := I.lstM hH
  obtain ⟨u1, u2, rfl, ⟨t, rfl⟩, r2⟩ : ∃ u1 u2, us = [u1, u2] ∧ RelV (.int (i : Nat)) u1 ∧ RelV y u2 := by
    match us, rv with
    | [u1, u2], .cons r1 (.cons r2 .nil) => exact ⟨u1, u2, rfl, r1, r2⟩
  have hz : 300 ≤ sizeLine := Nat.le_of_ble_eq_true (rfl : Nat.ble 300 sizeLine = true)
  have b1 : -(2 ^ 63) ≤ ((i : Nat) : Int) := by omega
  have b2 : ((i : Nat) : Int) < 2 ^ 63 := by omega
  have hf : ¬ (!Builtin.List.listFitsIndex ((i : Nat) : Int)) = true := by
    rw [fitsIndex_both b1 b2]
    exact Bool.false_ne_true
  have hs : its.toArray.size ≤ sizeLine := by rw [List.size_toArray]; omega
  refine insert_list l its.toArray n _ t u2 hf hs e ?_
  refine ⟨.non, _, I.lset (its' := its.take i ++ u2 :: its.drop i) hH e ?_ ((r.take i).append (.cons r2 (r.drop i))) ?_, rfl, q⟩
  · have hk : (if ((i : Nat) : Int) < 0 then (((i : Nat) : Int) + ((its.toArray.size : Nat) : Int)).toNat else min ((i : Nat) : Int).toNat its.toArray.size) = i := by
      rw [if_neg (by omega), Int.toNat_natCast, List.size_toArray]
      omega
    show (its.toArray.extract 0 (if ((i : Nat) : Int) < 0 then (((i : Nat) : Int) + ((its.toArray.size : Nat) : Int)).toNat else min ((i : Nat) : Int).toNat its.toArray.size)).push u2 ++ its.toArray.extract (if ((i : Nat) : Int) < 0 then (((i : Nat) : Int) + ((its.toArray.size : Nat) : Int)).toNat else min ((i : Nat) : Int).toNat its.toArray.size) = _
    rw [hk]
    apply Array.ext'
    simp
    rw [List.take_of_length_le (by rw [List.length_drop]; omega)]
  · rw [List.length_append, List.length_cons, List.length_take, List.length_drop]
    omega
end
end L2
namespace DL
open PySem PySem.Spec PyProof.Rows L2
def dIns (go gi ge : DE) : DE := fun L S k => go L S fun d S1 => match d with
  | .ref a => (∃ ds, S1 a = some (.lst ds)) ∧ gi L S1 fun y S2 => ge L S2 fun e S3 => ∃ (i : Nat) (ds : List D), y = .int (i : Nat) ∧ S3 a = some (.lst ds) ∧ i ≤ ds.length ∧ ds.length < 300 ∧ k .non (put S3 a (.lst (ds.take i ++ e :: ds.drop i)))
  | _ => False
section
variable {X : Cx} {o e1 e2 : Expr} {go gi ge : DE} {apos cpos : Pos}
theorem d_insj (ho : EJ X o go) (hi : EJ X e1 gi) (he : EJ X e2 ge) (hbase : attributeBase o "insert" X.env (eval o X.env) = eval o X.env := by rfl)
    (hfew : ((backTo cpos (starEach [e1, e2] X.env)).all (fun x => !x.1) && (backToKw cpos (keywordEach [] X.env)).all (fun x => x.1.isSome) && decide ([e1, e2].length + ([] : List Keyword).length + (if ([] : List Keyword).isEmpty then 0 else 1) < 30)) = true := by rfl)
    (hline : (apos.endLine == cpos.line) = true := by rfl) (hs : starEach [e1, e2] X.env = (false, eval e1 X.env) :: starEach [e2] X.env := by rfl) (hs2 : starEach [e2] X.env = (false, eval e2 X.env) :: starEach [] X.env := by rfl) (hpl : (backTo cpos (starEach [e2] X.env)).any (·.1) = false := by rfl) :
    EJ X (.Call (.Attribute o "insert" apos) [e1, e2] [] cpos) (dIns go gi ge) :=
  ⟨PE.imp (pe_bm PySem.F.plainAttrs_list PySem.F.slot_list_insert PySem.F.type_list_insert mt_insert ho.h (pa_cons hi.h (pa_cons he.h pa_nil hs2) hs) hbase hfew hline hs hpl) fun σ H Q ⟨L, S, k, hL, hS, h, n⟩ => up.go hL hS h fun d S1 v H1 h1 k1 hL1 hS1 i1 => by
    cases d with
    | ref a =>
      have q1 := isRef.mp i1
      subst q1
      obtain ⟨⟨ds1, z1⟩, h1⟩ := h1
      obtain ⟨xs1, hl1, _⟩ := hS1.lst z1
      refine ⟨.inl ⟨rfl, xs1, SqL.of hl1⟩, up.go hL1 hS1 h1 fun d2 S2 v2 H2 h2 k2 hL2 hS2 i2 => up.go hL2 hS2 h2 fun d3 S3 v3 H3 h3 k3 hL3 hS3 i3 => ?_⟩
      obtain ⟨i, ds, rfl, z, hi, hl, w⟩ := h3
      have q2 := isInt.mp i2
      subst q2
      obtain ⟨xs, hl3, j⟩ := hS3.lst z
      have hj := j.length
      have k4 : Kp H3 (upd H3 a (.lst (xs.take i ++ v3 :: xs.drop i))) := Kp.mut hl3 (fun z => z)
      exact ⟨a, xs, i, v3, rfl, rfl, hl3, by omega, by omega, n _ _ _ _ w (k1.trans (k2.trans (k3.trans k4))) (hS3.setL hl3 ((j.take i).append (IsDs.cons i3 (j.drop i)))) (isNon.mpr rfl)⟩
    | _ => exact (show False from h1).elim⟩
end
end DL
namespace PySem
open Sem (wp)
open Builtin
end PySem
namespace L2
open PySem PySem.Spec PyProof.Rows
section
variable {X : Cx}
def rExtendT (K : PySem.W.Frag) : V → List V → Hp → VK → Prop := fun x vs H Q => ∃ l b xs zs, x = .ref l ∧ vs = [.ref b] ∧ H l = some (.lst xs) ∧ SqT K H b zs ∧ xs.length + zs.length ≤ sizeLine ∧ Q .non (upd H l (.lst (xs ++ zs)))
end
end L2
namespace DL
open PySem PySem.Spec PyProof.Rows L2
def dExtT (go ge : DE) : DE := fun L S k => go L S fun d S1 => match d with
  | .ref a => (∃ ds, S1 a = some (.lst ds)) ∧ ge L S1 fun e S2 => match e with
    | .ref b => ∃ ds es, S2 a = some (.lst ds) ∧ S2 b = some (.lst es) ∧ ds.length + es.length ≤ sizeLine ∧ k .non (put S2 a (.lst (ds ++ es)))
    | .tup es => ∃ ds, S2 a = some (.lst ds) ∧ ds.length + es.length ≤ sizeLine ∧ k .non (put S2 a (.lst (ds ++ es)))
    | _ => False
  | _ => False
section
variable {X : Cx} {o e : Expr} {go ge : DE} {apos cpos : Pos}
end
def dMulU : D2 := fun d e S k => match d, e with
  | .tup xs, .int j => xs ≠ [] ∧ 1 ≤ j ∧ j < 1000 ∧ xs.length * j.toNat ≤ 1000 ∧ k (.tup (List.replicate j.toNat xs).flatten) S
  | d, e => dMulF d e S k
inductive Kept (K : Fg) : List Value → List (List Int) → Prop
  | nil : Kept K [] []
  | cons {p : Addr} {o : Obj} {its : Array Value} {n : Nat} {ns : List Int} {vs : List Value} {nss : List (List Int)} (h1 : K.lookup p = some o) (h2 : o.cls = .type "tuple") (h3 : o.data = .seq its n) (h4 : its.size ≤ sizeLine) (h5 : Vals (ns.map V.int) its.toList) (r : Kept K vs nss) : Kept K (.ref p :: vs) (ns :: nss)
def GTup2 (K : Fg) (mg : Str → Option Value) (x : Str) (nss : List (List Int)) : Prop := ∃ p o its n, mg x = some (.ref p) ∧ K.lookup p = some o ∧ o.cls = .type "tuple" ∧ o.data = .seq its n ∧ its.size ≤ sizeLine ∧ Kept K its.toList nss
theorem Kept.vals {K : Fg} : ∀ {vs : List Value} {nss : List (List Int)}, Kept K vs nss → ∃ us : List V, Vals us vs ∧ ∀ H, IsDs K H (nss.map fun ns => .tup (ns.map D.int)) us
  | _, _, .nil => ⟨[], .nil, fun _ => IsDs.nil⟩
  | _, _, .cons (p := p) h1 h2 h3 h4 h5 r => by
    obtain ⟨us, a, b⟩ := r.vals
    exact ⟨.ref p :: us, .cons rfl a, fun H => IsDs.cons (isTup.mpr ⟨p, _, rfl, .inr ⟨_, _, _, h1, h2, h3, h4, h5⟩, isDs_ints _⟩) (b H)⟩
end DL
namespace DL
open PySem PySem.Spec PyProof.Rows L2
def dCompEn (cap : List (Option Nat)) (ta : DA) (g : DG) (bd : DB) : DE := fun L S k => ta L S fun ds S1 => match ds with
  | [d] => ∃ q, dItems S1 d = some q ∧ ∀ p, S1 p = none → dCLoop (okFor q) p g bd k (enumD 0 q.1) [] (capL cap L) (put S1 p (.lst []))
  | _ => False
section
variable {X : Cx} {elt a : Expr} {es : List Expr} {kt : Nat} {tp : Pos} {scope : Scope} {cl : List (Str × Addr)} {N : List Str} {cap : List (Option Nat)} {pos p pos' : Pos} {gg : DG} {ge : DE} {ta : DA}
end
end DL
namespace DT
end DT
namespace DL
open PySem PySem.Spec PyProof.Rows L2
section
variable {X : Cx} {o : Expr} {go : DE} {apos cpos : Pos}
def dPop0 (go : DE) : DE := fun L S k => go L S fun d S1 => match d with
  | .ref a => ∃ ds c, S1 a = some (.lst ds) ∧ ds[ds.length - 1]? = some c ∧ k c (put S1 a (.lst ds.dropLast))
  | _ => False
end
end DL
namespace DL
open PySem PySem.Spec PyProof.Rows L2
inductive Kept3 (K : Fg) : List Value → List (List (List Int)) → Prop
  | nil : Kept3 K [] []
  | cons {p : Addr} {o : Obj} {its : Array Value} {n : Nat} {nss : List (List Int)} {vs : List Value} {r : List (List (List Int))} (h1 : K.lookup p = some o) (h2 : o.cls = .type "tuple") (h3 : o.data = .seq its n) (h4 : its.size ≤ sizeLine) (h5 : Kept K its.toList nss) (q : Kept3 K vs r) : Kept3 K (.ref p :: vs) (nss :: r)
def GTup3 (K : Fg) (mg : Str → Option Value) (x : Str) (nss : List (List (List Int))) : Prop := ∃ p o its n, mg x = some (.ref p) ∧ K.lookup p = some o ∧ o.cls = .type "tuple" ∧ o.data = .seq its n ∧ its.size ≤ sizeLine ∧ Kept3 K its.toList nss
theorem Kept3.vals {K : Fg} : ∀ {vs : List Value} {nss : List (List (List Int))}, Kept3 K vs nss → ∃ us : List V, Vals us vs ∧ ∀ H, IsDs K H (nss.map fun ms => .tup (ms.map fun ns => .tup (ns.map D.int))) us
  | _, _, .nil => ⟨[], .nil, fun _ => IsDs.nil⟩
  | _, _, .cons (p := p) h1 h2 h3 h4 h5 r => by
    obtain ⟨us, a, b⟩ := r.vals
    obtain ⟨us', a', b'⟩ := h5.vals
    exact ⟨.ref p :: us, .cons rfl a, fun H => IsDs.cons (isTup.mpr ⟨p, us', rfl, .inr ⟨_, _, _, h1, h2, h3, h4, a'⟩, b' H⟩) (b H)⟩
theorem d_gtup3 {X : Cx} {x : Str} {nss : List (List (List Int))} {pos : Pos} (g : GTup3 X.K X.mg x nss) (hg : Gl X x) (hd : (x == ("__debug__" : Str)) = false := by decide) : EJ X (.Name x pos) (dC (.tup (nss.map fun ms => .tup (ms.map fun ns => .tup (ns.map D.int))))) := by
  obtain ⟨p, o, its, n, hm, h1, h2, h3, h4, h5⟩ := g
  obtain ⟨us, a, b⟩ := h5.vals
  exact ⟨d_c (pe_glob (v := .ref p) hg hm rfl hd) fun H => isTup.mpr ⟨p, us, rfl, .inr ⟨o, its, n, h1, h2, h3, h4, a⟩, b H⟩⟩
end DL
namespace DL
open PySem PySem.Spec PyProof.Rows L2
def TupK (K : Fg) (q : Addr) (ns : List Int) : Prop := ∃ o its n, K.lookup q = some o ∧ o.cls = .type "tuple" ∧ o.data = .seq its n ∧ its.size ≤ sizeLine ∧ Vals (ns.map V.int) its.toList
inductive DEnt (K : Fg) (w : World) : List DictEntry → List (Str × List Int) → Prop
  | nil : DEnt K w [] []
  | cons {h : Int} {k : Str} {t : Tok} {q : Addr} {ns : List Int} {es : List DictEntry} {tab : List (Str × List Int)} (hh : h = hashStr w k) (h1 : TupK K q ns) (r : DEnt K w es tab) : DEnt K w (⟨h, .str k t, .ref q⟩ :: es) ((k, ns) :: tab)
def GDic (K : Fg) (mg : Str → Option Value) (w : World) (x : Str) (tab : List (Str × List Int)) : Prop := ∃ p o es ep, mg x = some (.ref p) ∧ K.lookup p = some o ∧ o.ExactDict ∧ o.data = .dict es ep ∧ DEnt K w es.toList tab ∧ (tab.map (·.1)).Nodup
def rTab (K : Fg) (p : Addr) (tab : List (Str × List Int)) : R2 := fun x y H Q => x = .ref p ∧ ∃ k ns, y = .str k ∧ (k, ns) ∈ tab ∧ ∀ q, TupK K q ns → Q (.ref q) H
def dTab (tab : List (Str × List Int)) (gi : DE) : DE := fun L S k => gi L S fun d S1 => match d with
  | .str w => ∃ ns, (w, ns) ∈ tab ∧ k (.tup (ns.map D.int)) S1
  | _ => False
end DL
namespace L2
open PySem PySem.Spec PyProof.Rows
theorem best_max (val : Nat → Int) : ∀ k, argBest (fun i j => decide (val i > val j)) k ≤ k ∧ ∀ i, i ≤ k → val i ≤ val (argBest (fun i j => decide (val i > val j)) k)
  | 0 => ⟨Nat.le_refl _, fun i h => by have : i = 0 := by omega
                                       subst this; exact Int.le_refl _⟩
  | k + 1 => by
    obtain ⟨h1, h2⟩ := best_max val k
    unfold argBest
    by_cases h : val (k + 1) > val (argBest (fun i j => decide (val i > val j)) k)
    · rw [if_pos (decide_eq_true h)]
      refine ⟨Nat.le_refl _, fun i hi => ?_⟩
      by_cases e : i = k + 1
      · subst e; exact Int.le_refl _
      · have := h2 i (by omega); omega
    · rw [if_neg (by simpa using h)]
      refine ⟨by omega, fun i hi => ?_⟩
      by_cases e : i = k + 1
      · subst e; omega
      · exact h2 i (by omega)
theorem vals_get : ∀ {ns : List Int} {vs : List Value} {i : Nat} {v : Value}, Vals (ns.map V.int) vs → vs[i]? = some v → ∃ t, v = .int (ns.getD i 0) t
  | [], _, i, v, .nil, h => by simp at h
  | n :: ns, _, 0, v, .cons r _, h => by
    obtain ⟨t, e⟩ := r
    simp at h
    exact ⟨t, by rw [← h, e]; rfl⟩
  | n :: ns, u :: us, i + 1, v, .cons _ t, h => by
    have h : us[i]? = some v := by simpa using h
    obtain ⟨t', e⟩ := vals_get t h
    exact ⟨t', by rw [e]; rfl⟩
section
variable {X : Cx}
theorem fin_walk {pins : List (Addr × Obj)} {σ : St} {H : Hp} {s : Shared} {a : Addr} {Q : VK} {nm : String} (I : Inv X pins σ H s) {v : V} {u : Value} (r : RelV v u) (q : Q v H) (h' : Heap) (tk : Nat)
    (kk : ∀ c o, c ∉ [s.heap.objs.size] → (s.heap.push { cls := .type nm, data := .fields #[.ref a, .int 0 0] }).get? c = some o → h'.get? c = some o) : EP X pins σ Q u { s with heap := h', toks := tk } := by
  have I1 : Inv X pins σ H { s with heap := s.heap.push { cls := .type nm, data := .fields #[.ref a, .int 0 0] } } := I.kept (t' := s.toks) fun c o e => Heap.get?_push_of_some _ e
  refine ⟨v, H, Inv.turnedL (s := { s with heap := s.heap.push { cls := .type nm, data := .fields #[.ref a, .int 0 0] } }) (t' := tk) [s.heap.objs.size] I1 kk (fun c hc => ?_), r, q⟩
  have e : c = s.heap.objs.size := by simpa using hc
  subst e
  exact I.fpOk (Nat.le_refl _) (I.hok.fresh (Nat.le_refl _))
theorem fp_lt {s : Shared} {a : Addr} {o : Obj} (hlt : a < s.heap.objs.size) (ho : o.isFreed = false := by rfl) : ∀ b ∈ [s.heap.objs.size, a], b < (s.heap.push o).objs.size := fun b hb => by
  have hz : s.heap.objs.size < (s.heap.push o).objs.size := Heap.lt_size (Heap.get?_push_size _ ho)
  simp only [List.mem_cons, List.not_mem_nil, or_false] at hb
  rcases hb with e | e
  · rw [e]; exact hz
  · rw [e]; exact Nat.lt_trans hlt hz
theorem call_maxL (hc : X.calm = true) : CallR X (.builtin "max") (fun xs H Q => ∃ (p : Addr) (ns : List Int), xs = [.ref p] ∧ SqL X.K H p (ns.map V.int) ∧ ns ≠ [] ∧ ∀ m : Int, m ∈ ns → (∀ x ∈ ns, x ≤ m) → Q (.int m) H) := by
  intro pins s σ H xs us Q I r h
  obtain ⟨p, ns, rfl, hq, hn, q⟩ := h
  obtain ⟨u, rfl, rx⟩ := vals1 r
  cases rx
  obtain ⟨its, rv, pl, hz⟩ := I.list hq
  have hl := rv.length
  rw [List.length_map] at hl
  have hlt := pl.lt
  have n0 : 0 < ns.length := List.length_pos_iff.mpr hn
  have hh : X.A.in1.handled = none := I.ok.hd hc
  have hv : ∀ i v, its.toArray[i]? = some v → ∃ t, v = Value.int (ns.getD i 0) t := fun i v h => vals_get (i := i) (v := v) rv (by rw [List.getElem?_toArray] at h; exact h)
  refine call_max_walk (wpAny_pyIter_list pl.isList ?_)
  refine ⟨s.heap.objs.size, _, _, _, _, _, fun i j => decide (ns.getD i 0 > ns.getD j 0), rfl, Walks.list hh s.heap.objs.size p (Nat.ne_of_lt hlt) its.toArray, ⟨⟨_, Heap.get?_push_size _ rfl, rfl, rfl⟩, Heap.IsList.at pl.isList fun o e => Heap.get?_push_of_some _ e⟩, fp_lt hlt, by rw [List.size_toArray]; omega, CmpOf.ints_gt _ hv, fun v h' tk hP kk => ?_⟩
  rw [List.size_toArray, ← hl] at hP
  obtain ⟨t, rfl⟩ := hv _ _ hP
  obtain ⟨b1, b2⟩ := best_max (fun i => ns.getD i 0) (ns.length - 1)
  have hm : ns.getD (argBest (fun i j => decide (ns.getD i 0 > ns.getD j 0)) (ns.length - 1)) 0 ∈ ns := by
    have hlt2 : argBest (fun i j => decide (ns.getD i 0 > ns.getD j 0)) (ns.length - 1) < ns.length := by omega
    rw [List.getD_eq_getElem?_getD, List.getElem?_eq_getElem hlt2]
    exact List.getElem_mem hlt2
  refine fin_walk I (show RelV (.int _) (.int _ t) from ⟨t, rfl⟩) (q _ hm fun x hx => ?_) h' tk kk
  obtain ⟨i, hi, rfl⟩ := List.mem_iff_getElem.mp hx
  have := b2 i (by omega)
  rw [List.getD_eq_getElem?_getD, List.getElem?_eq_getElem hi] at this
  exact this
theorem call_sumL (hc : X.calm = true) : CallR X (.builtin "sum") (fun xs H Q => ∃ (p : Addr) (ns : List Int), xs = [.ref p] ∧ SqL X.K H p (ns.map V.int) ∧ (∀ j, j < ns.length → InLong (ns.getD j 0) ∧ InLong (preSum (fun i => ns.getD i 0) (j + 1))) ∧ Q (.int (preSum (fun i => ns.getD i 0) ns.length)) H) := by
  intro pins s σ H xs us Q I r h
  obtain ⟨p, ns, rfl, hq, hn, q⟩ := h
  obtain ⟨u, rfl, rx⟩ := vals1 r
  cases rx
  obtain ⟨its, rv, pl, hz⟩ := I.list hq
  have hl := rv.length
  rw [List.length_map] at hl
  have hlt := pl.lt
  have hh : X.A.in1.handled = none := I.ok.hd hc
  have hv : ∀ i v, its.toArray[i]? = some v → ∃ t, v = Value.int (ns.getD i 0) t := fun i v h => vals_get (i := i) (v := v) rv (by rw [List.getElem?_toArray] at h; exact h)
  refine call_sum_walk (wpAny_pyIter_list pl.isList ?_)
  refine ⟨s.heap.objs.size, _, _, _, _, _, fun i => ns.getD i 0, rfl, Walks.list hh s.heap.objs.size p (Nat.ne_of_lt hlt) its.toArray, ⟨⟨_, Heap.get?_push_size _ rfl, rfl, rfl⟩, Heap.IsList.at pl.isList fun o e => Heap.get?_push_of_some _ e⟩, fp_lt hlt, hv, by rw [List.size_toArray, ← hl]; exact hn, fun h' tk t' kk => ?_⟩
  rw [List.size_toArray, ← hl]
  exact fin_walk I (show RelV (.int _) (.int _ t') from ⟨t', rfl⟩) q h' tk kk
end
end L2
namespace DL
open PySem PySem.Spec PyProof.Rows L2
def bMaxX : DSp := fun ds S k => match ds with
  | [.ref a] => ∃ ns : List Int, S a = some (.lst (ns.map D.int)) ∧ ns ≠ [] ∧ ∀ m : Int, m ∈ ns → (∀ x ∈ ns, x ≤ m) → k (.int m) S
  | ds => bMax ds S k
def bMinX : DSp := fun ds S k => match ds with
  | [.ref a] => ∃ ns : List Int, S a = some (.lst (ns.map D.int)) ∧ ns ≠ [] ∧ ∀ m : Int, m ∈ ns → (∀ x ∈ ns, m ≤ x) → k (.int m) S
  | ds => bMin ds S k
def bSumX : DSp := fun ds S k => match ds with
  | [.ref a] => ∃ ns : List Int, S a = some (.lst (ns.map D.int)) ∧ (∀ j, j < ns.length → InLong (ns.getD j 0) ∧ InLong (preSum (fun i => ns.getD i 0) (j + 1))) ∧ k (.int (preSum (fun i => ns.getD i 0) ns.length)) S
  | _ => False
theorem b_maxX {X : Cx} (hc : X.calm = true := by rfl) : CallR X (.builtin "max") (upC X.K bMaxX) := by
  intro pins s σ H xs us Q I rs h
  obtain ⟨ds, S, k, i, hS, r, n⟩ := h
  unfold bMaxX at r
  split at r
  · obtain ⟨x, rfl, i1⟩ := isDs1 i
    have e1 := isRef.mp i1
    subst e1
    obtain ⟨ns, z, hl, r⟩ := r
    obtain ⟨vs, q1, j⟩ := hS.lst z
    have e := isDs_intsM j
    subst e
    exact call_maxL hc pins s σ H _ us Q I rs ⟨_, ns, rfl, SqL.of q1, hl, fun m h1 h2 => n _ _ _ _ (r m h1 h2) (Kp.refl H) hS (isInt.mpr rfl)⟩
  · exact b_max hc pins s σ H xs us Q I rs ⟨_, S, k, i, hS, r, n⟩
theorem b_sumX {X : Cx} (hc : X.calm = true := by rfl) : CallR X (.builtin "sum") (upC X.K bSumX) := by
  intro pins s σ H xs us Q I rs h
  obtain ⟨ds, S, k, i, hS, r, n⟩ := h
  unfold bSumX at r
  split at r
  · obtain ⟨x, rfl, i1⟩ := isDs1 i
    have e1 := isRef.mp i1
    subst e1
    obtain ⟨ns, z, hl, r⟩ := r
    obtain ⟨vs, q1, j⟩ := hS.lst z
    have e := isDs_intsM j
    subst e
    exact call_sumL hc pins s σ H _ us Q I rs ⟨_, ns, rfl, SqL.of q1, hl, n _ _ _ _ r (Kp.refl H) hS (isInt.mpr rfl)⟩
  · exact r.elim
theorem bt_sum : bootBuiltins "sum" = some (.builtin "sum") := by decide +kernel
end DL
namespace L2
open PySem PySem.Spec PyProof.Rows
def Tru (K : PySem.W.Frag) (H : Hp) (x : V) (c : Bool) : Prop := (x = .bl c) ∨ (x = .non ∧ c = false) ∨ (∃ i, x = .int i ∧ c = (i != 0)) ∨ ∃ a xs, x = .ref a ∧ SqL K H a xs ∧ c = !xs.isEmpty
def tOrX (K : PySem.W.Frag) (ta tb : TE) : TE := fun σ H Q => ta σ H fun x H1 => ∃ c, Tru K H1 x c ∧ (c = true → Q x H1) ∧ (c = false → tb σ H1 Q)
section
variable {X : Cx} {a b : Expr} {rest : List Expr} {pos : Pos} {ta tb : TE}
theorem pe_orX (ha : PE X a ta) (hb : PE X (.BoolOp .Or (b :: rest) pos) tb) : PE X (.BoolOp .Or (a :: b :: rest) pos) (tOrX X.K ta tb) := by
  intro pins s σ H Q I h
  refine BoolOp_or (thn (ha pins s σ H _ I h) fun v s1 ⟨x, H1, I1, r1, c, t1, q1, q2⟩ => ?_)
  have fin : ∀ s2, Inv X pins σ H1 s2 → if c = true then EP X pins σ Q v s2 else wpAny (model X.prog X.w) X.A (eval (.BoolOp .Or (b :: rest) pos) X.env) (EP X pins σ Q) X.xe s2 := fun s2 I2 => by
    cases c with
    | true => rw [if_pos rfl]; exact ⟨x, H1, I2, r1, q1 rfl⟩
    | false => rw [if_neg Bool.false_ne_true]; exact hb pins s2 σ H1 Q I2 (q2 rfl)
  rcases t1 with rfl | ⟨rfl, rfl⟩ | ⟨i, rfl, rfl⟩ | ⟨p, xs, rfl, hq, rfl⟩
  · cases r1
    exact wpAny_truthy_bool (fin s1 I1)
  · cases r1
    exact truthy_none (fin s1 I1)
  · obtain ⟨t, rfl⟩ := r1
    exact truthy_int (fin s1 I1)
  · cases r1
    obtain ⟨its, rv, pl, hz⟩ := I1.list hq
    have hl := rv.length
    have e : (!its.toArray.isEmpty) = !xs.isEmpty := by
      cases rv <;> rfl
    refine wpAny_truthy_list pl.isList (by rw [List.size_toArray]; have := line63; omega) ?_
    rw [e]
    exact fin _ (I1.tok _)
end
end L2
namespace DL
open PySem PySem.Spec PyProof.Rows L2
def dOrX (ga gb : DE) : DE := fun L S k => ga L S fun d S1 => match d with
  | .bl c => if c = true then k (.bl true) S1 else gb L S1 k
  | .non => gb L S1 k
  | .int i => (i ≠ 0 → k (.int i) S1) ∧ (i = 0 → gb L S1 k)
  | .ref a => ∃ ds, S1 a = some (.lst ds) ∧ (ds ≠ [] → k (.ref a) S1) ∧ (ds = [] → gb L S1 k)
  | _ => False
theorem d_orXj {X : Cx} {a b : Expr} {rest : List Expr} {pos : Pos} {ga gb : DE} (ha : EJ X a ga) (hb : EJ X (.BoolOp .Or (b :: rest) pos) gb) : EJ X (.BoolOp .Or (a :: b :: rest) pos) (dOrX ga gb) :=
  ⟨PE.imp (pe_orX ha.h hb.h) fun σ H Q ⟨L, S, k, hL, hS, h, n⟩ => up.go hL hS h fun d S1 v H1 h1 k1 hL1 hS1 i1 => by
    have go : gb L S1 k → up X.K gb σ H1 Q := fun h2 => up.go hL1 hS1 h2 fun d2 S2 v2 H2 h3 k2 _ hS2 i2 => n d2 S2 v2 H2 h3 (k1.trans k2) hS2 i2
    cases d with
    | bl c =>
      have e := isBl.mp i1
      subst e
      have h1 : if c = true then _ else _ := h1
      refine ⟨c, .inl rfl, fun e => ?_, fun e => ?_⟩
      · subst e
        rw [if_pos rfl] at h1
        exact n _ S1 _ H1 h1 k1 hS1 (isBl.mpr rfl)
      · subst e
        rw [if_neg Bool.false_ne_true] at h1
        exact go h1
    | non =>
      have e := isNon.mp i1
      subst e
      exact ⟨false, .inr (.inl ⟨rfl, rfl⟩), (fun z => by cases z), fun _ => go h1⟩
    | int i =>
      have e := isInt.mp i1
      subst e
      refine ⟨i != 0, .inr (.inr (.inl ⟨i, rfl, rfl⟩)), fun z => n _ S1 _ H1 (h1.1 (by simpa using z)) k1 hS1 (isInt.mpr rfl), fun z => go (h1.2 (by simpa using z))⟩
    | ref a =>
      have e := isRef.mp i1
      subst e
      obtain ⟨ds, z, h2, h3⟩ := h1
      obtain ⟨xs, q1, j⟩ := hS1.lst z
      have ee : ds.isEmpty = xs.isEmpty := by
        have hl := j.length
        cases ds with
        | nil => cases xs with
          | nil => rfl
          | cons _ _ => cases hl
        | cons _ _ => cases xs with
          | nil => cases hl
          | cons _ _ => rfl
      refine ⟨!xs.isEmpty, .inr (.inr (.inr ⟨a, xs, rfl, SqL.of q1, rfl⟩)), fun zc => n _ S1 _ H1 (h2 fun w => ?_) k1 hS1 (isRef.mpr rfl), fun zc => go (h3 ?_)⟩
      · subst w
        rw [← ee] at zc
        cases zc
      · rw [← ee] at zc
        cases ds with
        | nil => rfl
        | cons _ _ => cases zc
    | _ => exact (show False from h1).elim⟩
def prD (p : Int × Int) : D := .tup [.int p.1, .int p.2]
def dInP : D2 := fun d e S k => ∃ (p : Int × Int) (qs : List (Int × Int)), d = prD p ∧ e = .tup (qs.map prD) ∧ k (.bl (decide (p ∈ qs))) S
end DL
namespace DL
open PySem PySem.Spec PyProof.Rows L2
def FailsS (cells : List (Addr × Obj)) (P : Program) (w : World) (K : Fg) (mg : Str → Option Value) (base : Heap) (m : Nat) (g C : Addr) (H : Hp) (S : DH) : Prop :=
  Hs K H S → Fails cells P w K mg base m g H fun c _ H' => c = .ref C ∧ Kp H H' ∧ ∃ S', Hs K H' S' ∧ ExtD S S'
section
variable {X : Cx} {pos : Pos}
def dTryH (cells : List (Addr × Obj)) (P : Program) (w : World) (K : Fg) (mg : Str → Option Value) (base : Heap) (m : Nat) (cv : Value) (j i : Nat) (t : DS) : DS := fun M L S => ∃ g C φ, L[j]? = some (some (.ref g)) ∧ S g = some (.fn φ) ∧ (∀ H, φ H → FailsS cells P w K mg base m g C H S) ∧
  PySem.W.exmOne K (.ref C) cv = some true ∧ ∀ ea S', ExtD S S' → S' ea = none → t { nx := fun L S => M.nx (L.set i none) S, rt := M.rt, bk := fun L S => M.bk (L.set i none) S, ct := fun L S => M.ct (L.set i none) S } (L.set i (some (.ref ea))) (put S' ea (.exc C))
end
section
variable {P : Program} {w : World} {K : Fg} {mg : Str → Option Value} {base : Heap} {N : List Str} {qual : Str} {scope : Scope} {clos : List (Str × Addr)} {g : Addr} {cd : Value} {A : Around} {outer : List Env} {s : Shared} {H : Hp} {ex : Addr → DH → Prop}
end
def FrefH (cls : List (Nat × Addr)) (m : Nat) (P : Program) (w : World) (K : Fg) (mg : Str → Option Value) (base : Heap) (cells : List (Addr × Obj)) : DSp := fun ds S k =>
  ∃ g φ j C, ds = [.ref g] ∧ S g = some (.fn φ) ∧ (∀ H, φ H → FailsS cells P w K mg base m g C H S) ∧ (j, C) ∈ cls ∧ ∀ p S', ExtD S S' → S' p = none → k (.ref p) (put S' p (.lst [.int (j : Nat)]))
def RefQH (cls : List (Nat × Addr)) (qual : Str) (params : Arguments) (body : Expr) (scope : Scope) (clos : List (Str × Addr)) (cap : List (Option Nat)) (gb : (Addr → DH → Prop) → DE) (L : Lo) (k : DK) (d : D) (S1 : DH) : Prop := ∃ (g : Addr) (j : Nat) (C : Addr), d = .ref g ∧ S1 g = some (.fn (IsLam qual params body scope clos g)) ∧
  (j, C) ∈ cls ∧ (∀ S, (∀ b o, b ≠ g → S1 b = some o → S b = some o) → gb (fun C' S' => C' = C ∧ ExtD S S') (capL cap L) S fun _ _ => False) ∧ ∀ p S', ExtD S1 S' → S' p = none → k (.ref p) (put S' p (.lst [.int (j : Nat)]))
def dRefH (cls : List (Nat × Addr)) (qual : Str) (params : Arguments) (body : Expr) (scope : Scope) (clos : List (Str × Addr)) (cap : List (Option Nat)) (gb : (Addr → DH → Prop) → DE) (ge : DE) : DE := fun L S k => ge L S fun d S1 => RefQH cls qual params body scope clos cap gb L k d S1
section
variable {X : Cx} {qual : Str} {params : Arguments} {body : Expr} {scope : Scope} {clos : List (Str × Addr)} {p pos : Pos}
end
end DL
namespace PySem
open Builtin
def rvO (l : Value) (i : Int) : Obj := { cls := .type "reversed", dict := none, data := .fields #[l, .int i 0], slots := #[] }
section
variable {prog : Program} {w : World} {A : Around} {E : Value → Shared → Prop} {s : Shared}
end
end PySem
namespace L2
open PySem PySem.Spec PyProof.Rows
def Itv (K : PySem.W.Frag) (b : Bool) (a : Addr) (n : Nat) : It :=
  ⟨fun i H => i < n ∧ ∃ xs x, SqB b K H a xs ∧ xs.length = n ∧ xs[n - 1 - i]? = some x, fun i H x H' => H' = H ∧ ∀ xs, SqB b K H a xs → xs[n - 1 - i]? = some x, fun i H => i = n ∧ ∃ xs, SqB b K H a xs ∧ xs.length = n⟩
def rvB (b : Bool) (it a : Addr) (i : Int) (h : Heap) : Prop := match b with | true => h.IsRevIter it a i | false => h.get? it = some (rvO (.ref a) i)
def iRev (K : PySem.W.Frag) (ta : TA) : TI := fun σ H R => ta σ H fun vs H1 => ∃ a b xs, vs = [.ref a] ∧ SqB b K H1 a xs ∧ R (Itv K b a xs.length) H1
end L2
namespace DL
open PySem PySem.Spec PyProof.Rows L2
def dCompRv (cap : List (Option Nat)) (ta : DA) (g : DG) (bd : DB) : DE := fun L S k => ta L S fun ds S1 => match ds with
  | [d] => ∃ q, dItems S1 d = some q ∧ ∀ p, S1 p = none → dCLoop (okFor q) p g bd k q.1.reverse [] (capL cap L) (put S1 p (.lst []))
  | _ => False
section
variable {X : Cx} {elt a tg : Expr} {scope : Scope} {cl : List (Str × Addr)} {N : List Str} {cap : List (Option Nat)} {pos p pos' : Pos} {gg : DG} {ge : DE} {ta : DA}
end
end DL
namespace L2
open PySem PySem.Spec PyProof.Rows
section
variable {X : Cx} {pins : List (Addr × Obj)} {σ : St} {H : Hp} {s s' : Shared} {E : XK}
theorem caught0 {e : Value} (hex : X.ex = []) (hst : X.stack = X.env :: X.outer) (hf : X.env.frame = some X.env.locals) (I : Inv X pins σ H s) (h : CXE X.prog X.w X.stack H s E e s') {Cn : Str} {cv : Value} {p1 hp : Pos} {b0 : Stmt} {suite : List Stmt} {Q : Flow → Shared → Prop}
    (hg : Gl X Cn) (hm : X.mg Cn = some cv) (hdb : (Cn == ("__debug__" : Str)) = false) (hx : ∀ c H', E c none H' → PySem.W.exmOne X.K c cv = some true)
    (k : ∀ ea c H' o s6, E c none H' → H' ea = none → o.cls = c → Inv X pins σ (upd H' ea (.frz o (.ext fun _ => True))) s6 →
      wpAny (model X.prog X.w) (X.A.mark (some (.ref ea))) (execs (b0 :: suite) X.env) Q NoE s6) :
    wpAny (model X.prog X.w) X.A (noteFrame e X.env) (fun _ s2 => wpAny (model X.prog X.w) X.A (setFlight e none) (fun _ s3 => wpAny (model X.prog X.w) X.A (handleBy e X.env [.ExceptHandler (some (.Name Cn p1)) none (b0 :: suite) hp]) Q X.xe s3) X.xe s2) X.xe s' := by
  obtain ⟨ea, cls, a0, H', B, rfl, os, bare, fl, hok, hB, hB2, un, q⟩ := h
  have fr0 : X.A.frames = some (X.env :: X.outer) := by rw [← hst]; exact I.ok.frames
  have fl0 : Heap.FlyingW B (X.env :: X.outer) ea cls a0 s'.heap := by rw [← hst]; exact fl
  refine wpAny_looks_onW fr0 hf fl0 fun h4 held4 up4 => ?_
  refine wpAny_landsW held4 fun h5 fl5 up5 => ?_
  have up45 := up4.trans up5
  have I5 := I.landed os bare fl (by rw [hst]; exact fl5) up45 hok hB hB2 un
  obtain ⟨ob, hob, hobc⟩ := fl5.there
  refine wpAny_handleBy_cons (codeAny_handlers_test (ld_glob (X := X.marked (.ref ea) NoE) (I5.marked (.ref ea) _) hg hm ?_ hdb)) (by intro z; cases z)
  have LT : PySem.W.Looks (model X.prog X.w) h5 (typeOf (.ref ea)) cls := by
    subst hobc
    exact (PySem.W.Looks.ld hob).andThen .now
  refine PySem.W.exm_one I5.kIn LT (hx cls H' q) _ _ _ _ (fun _ _ z => z) ?_
  refine codeAny_handlers_suite ?_
  refine lands_againW fl5 fun h6 fl6 up6 => ?_
  have I6 := I.landed os bare fl (by rw [hst]; exact fl6) (up45.trans up6) hok hB hB2 un
  obtain ⟨o6, ho6, hc6⟩ := fl6.there
  have nfr : ea ∉ frs X.stack := fun z => by
    obtain ⟨_, o2, e2, d2⟩ := fl.2.2.1.mem z
    obtain ⟨oe, vs, T, oT, ts, w1, w2, w3, w4⟩ := fl.2.2.2
    rw [w1] at e2
    cases e2
    exact d2 _ w3
  have nB : B.get? ea = none := fl.2.1
  have nw : ∀ b o, s.heap.get? b = some o → b ≠ ea := fun b o z y => by
    subst y
    obtain ⟨o', z'⟩ := hB2 b o z nfr
    rw [nB] at z'
    cases z'
  have hn : H' ea = none := by
    cases y : H' ea with
    | none => rfl
    | some u =>
      obtain ⟨o', z'⟩ := (hok ea u y).there
      rw [nB] at z'
      cases z'
  have h0 : X.s₀.heap.get? ea = none := by
    cases y : X.s₀.heap.get? ea with
    | none => rfl
    | some u =>
      obtain ⟨o', z'⟩ := I.base.there ea u y (by rw [hex]; simp)
      exact absurd rfl (nw ea o' z')
  have I7 := I6.freeze ho6 hn h0 (fun z => nfr (by rw [hst, z]; unfold frs; rw [List.filterMap_cons, hf]; exact List.mem_cons_self)) (fun x c z => by
    obtain ⟨v, o, z2, _⟩ := I.cell x c z
    exact nw c o z2) (fun p z => nw p.1 p.2 (I.pin p z).1)
  exact wpAny_mono (k ea cls H' o6 _ q hn hc6 I7) (fun _ _ z => z) fun _ _ z => z.elim
end
abbrev Cx.still (X : Cx) : Cx := { X with xe := NoE }
theorem Inv.still {X : Cx} {pins : List (Addr × Obj)} {σ : St} {H : Hp} {s : Shared} (I : Inv X pins σ H s) : Inv X.still pins σ H s :=
  ⟨⟨I.ok.mod, I.ok.kind, I.ok.glob, I.ok.blt, I.ok.above, I.ok.inj, I.ok.has, I.ok.cab, I.ok.hd, I.ok.frames, I.ok.stk, I.ok.exf, I.ok.bs, I.ok.bsz, I.ok.noex, I.ok.exfs, I.ok.funs, I.ok.frf⟩, I.os, I.bare, I.base, I.loc, I.cell, I.free, I.freeC, I.pin, I.hok, I.len⟩
theorem Inv.unstill {X : Cx} {pins : List (Addr × Obj)} {σ : St} {H : Hp} {s : Shared} (I : Inv X.still pins σ H s) : Inv X pins σ H s :=
  ⟨⟨I.ok.mod, I.ok.kind, I.ok.glob, I.ok.blt, I.ok.above, I.ok.inj, I.ok.has, I.ok.cab, I.ok.hd, I.ok.frames, I.ok.stk, I.ok.exf, I.ok.bs, I.ok.bsz, I.ok.noex, I.ok.exfs, I.ok.funs, I.ok.frf⟩, I.os, I.bare, I.base, I.loc, I.cell, I.free, I.freeC, I.pin, I.hok, I.len⟩
def XW (X : Cx) (pins : List (Addr × Obj)) (σ : St) (R : Hp → Prop) (E : XK) (e : Value) (s' : Shared) : Prop := ∃ H1 s1, Inv X pins σ H1 s1 ∧ R H1 ∧ CXE X.prog X.w X.stack H1 s1 E e s'
abbrev TX := St → Hp → VK → (Hp → Prop) → Prop
def PEx (X : Cx) (E : XK) (e : Expr) (t : TX) : Prop := ∀ (pins : List (Addr × Obj)) (s : Shared) (σ : St) (H : Hp) (Q : VK) (R : Hp → Prop), Inv X pins σ H s → t σ H Q R → wpAny (model X.prog X.w) X.A (eval e X.env) (EP X pins σ Q) (XW X pins σ R E) s
section
variable {X : Cx} {E : XK}
theorem EP.unstill {pins : List (Addr × Obj)} {σ : St} {Q : VK} {u : Value} {s : Shared} (h : EP X.still pins σ Q u s) : EP X pins σ Q u s := by
  obtain ⟨v, H', I, r, q⟩ := h
  exact ⟨v, H', I.unstill, r, q⟩
theorem PEx.imp {e : Expr} {t t' : TX} (h : PEx X E e t) (i : ∀ σ H Q R, t' σ H Q R → t σ H Q R) : PEx X E e t' := fun pins s σ H Q R I q => h pins s σ H Q R I (i σ H Q R q)
theorem px_call {fn : Str} {f : Addr} {fd : FuncData} {ps : List Str} {sp : Sp} {k : Nat} {e : Expr} {es : List Expr} {ta : TA} {fp cp : Pos}
    (F : FnOk X.prog X.w X.K X.mg X.base (CXE X.prog X.w) k f fd ps sp) (hr : Room k X.A) (hgf : Gl X fn) (hmf : X.mg fn = some (.ref f)) (hkf : PySem.W.keepIn X.K (.ref f) = true) (hb : Binds X.K fd ps []) (ha : PA X.still (e :: es) ta)
    (hdf : (fn == ("__debug__" : Str)) = false := by decide) (he : starEach (e :: es) X.env = (false, eval e X.env) :: starEach es X.env := by rfl) (hpl : (backTo cp (starEach es X.env)).any (·.1) = false := by rfl) :
    PEx X E (.Call (.Name fn fp) (e :: es) [] cp) (fun σ H Q R => ta σ H fun vs H1 => R H1 ∧ sp vs H1 Q E) := by
  intro pins s σ H Q R I h
  refine wpAny_Call_Name_kw (ld_glob I hgf hmf ?_ hdf)
  refine PySem.W.callWith_K (h₀ := X.base) I.ok.mod.kin hkf (wpAny_mono (ha cp pins s σ H _ I.still h) (fun us s1 ⟨vs, H1, I1, r, hR, q⟩ => ?_) fun _ _ z => z.elim) he hpl
  have I1 : Inv X pins σ H1 s1 := I1.unstill
  refine ⟨I1.kIn, ?_⟩
  have r2 : Vals (vs ++ []) (us ++ []) := by rw [List.append_nil, List.append_nil]; exact r
  have q2 : sp (vs ++ []) H1 Q E := by rw [List.append_nil]; exact q
  have hl : (us ++ []).length = ps.length := by rw [← r2.length]; exact F.len _ _ _ _ q2
  refine wpAny_call (codeAny_mono (F.run X.A X.stack s1 H1 ⟨us, []⟩ (us ++ []) (vs ++ []) _ E hr I1.env0 (hb s1 us I1.kIn hl) r2 q2) fun r s' hq => ?_)
  cases r with
  | ok fl =>
    cases fl with
    | ret u => exact I1.after hq
    | next => exact False.elim hq
    | brk => exact False.elim hq
    | cont => exact False.elim hq
  | error e => exact ⟨H1, s1, I1, hR, hq⟩
theorem px_cmp {op : CmpOp} {a b : Expr} {ta : TX} {tb : TE} {pos : Pos} {r : R2} (ho : OpR X.still (compareOp op) r) (ha : PEx X E a ta) (hb : PE X.still b tb) (hm : behindInMarks op b = false) : PEx X E (.Compare a [op] [b] pos) (fun σ H Q R => ta σ H (fun x H1 => tb σ H1 fun y H2 => r x y H2 Q) R) := by
  intro pins s σ H Q R I h
  refine wpAny_Compare1 (wpAny_mono (ha pins s σ H _ R I h) (fun v s1 ⟨x, H1, I1, r1, q1⟩ => ?_) fun _ _ z => z) hm
  refine wpAny_mono (hb pins s1 σ H1 _ I1.still q1) (fun u s2 ⟨y, H2, I2, r2, q2⟩ => ?_) fun _ _ z => z.elim
  exact wpAny_mono (ho pins s2 σ H2 x y v u Q I2 r1 r2 q2) (fun _ _ z => z.unstill) fun _ _ z => z.elim
theorem px_caught {pins : List (Addr × Obj)} {σ : St} {R : Hp → Prop} {s' : Shared} {e : Value} {Cn : Str} {cv : Value} {p1 hp : Pos} {b0 : Stmt} {suite : List Stmt} {D : Ends} {t : TS} (h : XW X pins σ R E e s') (hd : X.calm = true → X.A.handled = none) (hex : X.ex = []) (hst : X.stack = X.env :: X.outer) (hf : X.env.frame = some X.env.locals)
    (hg : Gl X Cn) (hm : X.mg Cn = some cv) (hdb : (Cn == ("__debug__" : Str)) = false) (hs : ∀ v, PSs (X.marked v NoE) (b0 :: suite) t) (hE : ∀ c H', E c none H' → PySem.W.exmOne X.K c cv = some true)
    (kk : ∀ H1 ea c H' o, R H1 → E c none H' → DL.Kp H1 H' → H' ea = none → o.cls = c → t D σ (upd H' ea (.frz o (.ext fun _ => True)))) :
    wpAny (model X.prog X.w) X.A (noteFrame e X.env) (fun _ s2 => wpAny (model X.prog X.w) X.A (setFlight e none) (fun _ s3 => wpAny (model X.prog X.w) X.A (handleBy e X.env [.ExceptHandler (some (.Name Cn p1)) none (b0 :: suite) hp]) (SP X pins D) X.xe s3) X.xe s2) X.xe s' := by
  obtain ⟨H1, s1, I1, hR, hq⟩ := h
  refine caught0 hex hst hf I1 (DL.cxe_kp hq) hg hm hdb (fun c H' z => hE c H' z.1) fun ea c H' o s6 y1 y2 y3 I6 => ?_
  refine thn (hs (.ref ea) pins s6 _ _ _ (I6.marked (.ref ea) NoE) (kk H1 ea c H' o hR y1.1 y1.2 y2 y3)) fun f s7 y => ?_
  cases f with
  | next =>
    obtain ⟨σ7, H7, I7, q⟩ := y
    exact ⟨σ7, H7, I7.unmarked hd, q⟩
  | brk =>
    obtain ⟨σ7, H7, I7, q⟩ := y
    exact ⟨σ7, H7, I7.unmarked hd, q⟩
  | cont =>
    obtain ⟨σ7, H7, I7, q⟩ := y
    exact ⟨σ7, H7, I7.unmarked hd, q⟩
  | ret v =>
    obtain ⟨v, σ7, H7, I7, r, q⟩ := y
    exact ⟨v, σ7, H7, I7.unmarked hd, r, q⟩
def tTryE (K : PySem.W.Frag) (E : XK) (cv : Value) (te : TX) (k : Ends → St → VK) (t : TS) : TS := fun D σ H => (∀ c H', E c none H' → PySem.W.exmOne K c cv = some true) ∧
  ∃ R : Hp → Prop, te σ H (k D σ) R ∧ ∀ H1 ea c H' o, R H1 → E c none H' → DL.Kp H1 H' → H' ea = none → o.cls = c → t D σ (upd H' ea (.frz o (.ext fun _ => True)))
theorem ps_tryR {Cn : Str} {cv : Value} {e : Expr} {te : TX} {t : TS} {b0 : Stmt} {suite : List Stmt} {ap p1 hp pos : Pos} (he : PEx X E e te)
    (hd : X.calm = true → X.A.handled = none) (hex : X.ex = []) (hst : X.stack = X.env :: X.outer) (hf : X.env.frame = some X.env.locals) (hg : Gl X Cn) (hm : X.mg Cn = some cv) (hs : ∀ v, PSs (X.marked v NoE) (b0 :: suite) t) (hdb : (Cn == ("__debug__" : Str)) = false := by decide) :
    PS X (.Try [.Return (some e) ap] [.ExceptHandler (some (.Name Cn p1)) none (b0 :: suite) hp] [] [] pos) (tTryE X.K E cv te (fun D _ => D.rt) t) := by
  intro pins s σ H D I h
  obtain ⟨hE, R, h, kk⟩ := h
  refine wpAny_Try_except (wpAny_execs_cons (wpAny_Return_some (wpAny_mono (he pins s σ H _ R I h) (fun v s1 ⟨y, H1, I1, r1, q1⟩ => ?_) fun e s' z => ?_)))
  · exact ⟨y, σ, H1, I1, r1, q1⟩
  · exact px_caught z hd hex hst hf hg hm hdb hs hE kk
end
end L2
namespace DL
open PySem PySem.Spec PyProof.Rows L2
def upX (K : Fg) (g : DE) : TX := fun σ H Q R => ∃ L S k, Lc K H L σ ∧ Hs K H S ∧ g L S k ∧ (∀ d S' v H', k d S' → Kp H H' → Hs K H' S' → IsD K H' d v → Q v H') ∧ ∀ H1, Kp H H1 → R H1
structure EJx (X : Cx) (ex : Addr → DH → Prop) (e : Expr) (g : DE) : Prop where
  h : PEx X (exE X.K ex) e (upX X.K g)
section
variable {X : Cx} {ex : Addr → DH → Prop}
theorem dx_callj {fn : Str} {n : Nat} {F : DSpX} {e : Expr} {es : List Expr} {ta : DA} {fp cp : Pos} (c : OwnX X.prog X.w X.K X.mg X.base fn n F) (hr : Room n X.A) (hgf : Gl X fn) (ha : AJ X.still (e :: es) ta)
    (hdf : (fn == ("__debug__" : Str)) = false := by decide) (he : starEach (e :: es) X.env = (false, eval e X.env) :: starEach es X.env := by exact star_cons rfl) (hpl : (backTo cp (starEach es X.env)).any (·.1) = false := by exact star_any rfl) :
    EJx X ex (.Call (.Name fn fp) (e :: es) [] cp) (dCallX F ex ta) := by
  obtain ⟨g, fd, ps, F1, h1, h2, h3⟩ := c.ex
  refine ⟨PEx.imp (px_call F1 hr hgf h1 h2 h3 ha.h hdf he hpl) fun σ H Q R ⟨L, S, k, hL, hS, h, n, hR⟩ => ?_⟩
  refine upA.go hL hS h fun ds S1 vs H1 h1 k1 hL1 hS1 i1 => ?_
  exact ⟨hR H1 k1, ds, S1, k, ex, i1, hS1, h1, fun d' S' v H' q k3 z1 z2 => n d' S' v H' q (k1.trans k3) z1 z2, fun C S' H' z zs => ⟨C, S', rfl, z, zs⟩⟩
theorem dx_cmpj {op : CmpOp} {a b : Expr} {ga gb : DE} {pos : Pos} {r : D2} (ho : OpR X.still (compareOp op) (upR X.K r)) (ha : EJx X ex a ga) (hb : EJ X.still b gb) (hm : behindInMarks op b = false) : EJx X ex (.Compare a [op] [b] pos) (dOp r ga gb) := by
  refine ⟨PEx.imp (px_cmp ho ha.h hb.h hm) fun σ H Q R ⟨L, S, k, hL, hS, h, n, hR⟩ => ?_⟩
  refine ⟨L, S, _, hL, hS, h, fun d S1 v H1 h1 k1 hS1 i1 => ?_, hR⟩
  refine up.go (hL.kp k1) hS1 h1 fun e S2 u H2 h2 k2 hL2 hS2 i2 => ?_
  exact ⟨d, e, S2, k, i1.kp k2, i2, hS2, h2, fun d' S' v' H' q k3 z1 z2 => n d' S' v' H' q (k1.trans (k2.trans k3)) z1 z2⟩
def dTryE (K : Fg) (cv : Value) (g : (Addr → DH → Prop) → DE) (i : Nat) (t : DS) : DS := fun M L S => g (fun C S2 => PySem.W.exmOne K (.ref C) cv = some true ∧ t M L S2) L S fun d S2 => M.nx (L.set i (some d)) S2
def dTryR (K : Fg) (cv : Value) (g : (Addr → DH → Prop) → DE) (t : DS) : DS := fun M L S => g (fun C S2 => PySem.W.exmOne K (.ref C) cv = some true ∧ t M L S2) L S M.rt
theorem dst_tryRj {Cn : Str} {cv : Value} {e : Expr} {g : (Addr → DH → Prop) → DE} {t : DS} {b0 : Stmt} {suite : List Stmt} {ap p1 hp pos : Pos} (he : ∀ ex, EJx X ex e (g ex))
    (hd : X.calm = true → X.A.handled = none) (hex : X.ex = []) (hst : X.stack = X.env :: X.outer) (hf : X.env.frame = some X.env.locals) (hg : Gl X Cn) (hm : X.mg Cn = some cv) (hs : ∀ v, SsJ (X.marked v NoE) (b0 :: suite) t) (hdb : (Cn == ("__debug__" : Str)) = false := by decide) :
    SJ X (.Try [.Return (some e) ap] [.ExceptHandler (some (.Name Cn p1)) none (b0 :: suite) hp] [] [] pos) (dTryR X.K cv g t) := by
  refine ⟨fun pins s σ H N I ⟨L, S, M, hL, hS, h, r⟩ => ps_tryR (t := upS X.K t) (he (fun C S2 => PySem.W.exmOne X.K (.ref C) cv = some true ∧ t M L S2)).h hd hex hst hf hg hm (fun v => (hs v).h) hdb pins s σ H N I ⟨?_, Kp H, ⟨L, S, _, hL, hS, h, fun d S' v H' q k1 hS' i1 => r.rt _ _ _ _ q k1 hS' i1, fun _ z => z⟩, ?_⟩⟩
  · rintro c H' ⟨C, S', rfl, z, _⟩
    exact z.1
  · rintro H1 ea c H' o k0 ⟨C, S', rfl, z, zs⟩ kp hn ho
    have k2 : Kp H (upd H' ea (.frz o (.ext fun _ => True))) := k0.trans (kp.trans (Kp.new hn))
    exact ⟨L, S', M, hL.kp k2, zs.new hn, z.2, r.kp k2⟩
end
end DL
namespace My
open PySem PySem.Spec PyProof.Rows L2 DL HM
set_option maxHeartbeats 4000000
def top (i : Nat) : Stmt := PySem.Challenge.pw_hingedraw_k51_four_rods_and_stands.main.body.getD i (.Pass ⟨0, 0, 0, 0⟩)
abbrev s_common_divisor : Stmt := top 6
abbrev s_ratio : Stmt := top 7
abbrev s_plus : Stmt := top 8
abbrev s_times : Stmt := top 9
abbrev s_over : Stmt := top 10
abbrev s_negative : Stmt := top 11
abbrev s_without_sign : Stmt := top 12
abbrev s_whole_root : Stmt := top 13
abbrev s_square_root_or_none : Stmt := top 14
abbrev s_root_in : Stmt := top 15
abbrev s_is_plain : Stmt := top 17
abbrev s_with_sign_of : Stmt := top 18
abbrev s_field_base : Stmt := top 20
abbrev s_share : Stmt := top 21
abbrev s_joined : Stmt := top 22
abbrev s_root_negative : Stmt := top 23
abbrev s_root_plus : Stmt := top 24
abbrev s_root_minus : Stmt := top 25
abbrev s_root_times : Stmt := top 26
abbrev s_way_between : Stmt := top 30
abbrev s_square_of_way : Stmt := top 31
abbrev s_plain_point : Stmt := top 28
abbrev s_one_field : Stmt := top 19
abbrev s_ask_one_field : Stmt := top 29
abbrev s__law_cell_at : Stmt := top 42
abbrev s__law_state : Stmt := top 43
abbrev s__law_take : Stmt := top 44
abbrev s__law_divisor : Stmt := top 45
abbrev s__law_ratio : Stmt := top 46
abbrev s__law_times : Stmt := top 49
abbrev s__law_plus : Stmt := top 47
abbrev s__law_minus : Stmt := top 48
abbrev s__law_over : Stmt := top 57
abbrev s__law_fraction : Stmt := top 50
abbrev s__law_drive : Stmt := top 54
abbrev s__law_rods : Stmt := top 51
abbrev s__law_root : Stmt := top 55
abbrev s__law_made : Stmt := top 56
abbrev s__law_signed : Stmt := top 58
abbrev s__law_end : Stmt := top 59
abbrev s__law_stands : Stmt := top 60
abbrev s_in_wholes : Stmt := top 38
abbrev s_ground_end : Stmt := top 36
abbrev s_can_stand : Stmt := top 39
abbrev s__law_most : Stmt := top 52
abbrev s__law_sorted : Stmt := top 53
abbrev s_first_wrong : Stmt := top 33
abbrev s_square_of : Stmt := top 37
abbrev s_is_stand : Stmt := top 40
abbrev s__law_add : Stmt := top 61
abbrev s__law_less : Stmt := top 62
abbrev s__law_multiply : Stmt := top 63
abbrev s__law_turned : Stmt := top 69
abbrev s__law_pairs : Stmt := top 67
abbrev s__law_due : Stmt := top 68
abbrev s__law_bent : Stmt := top 70
abbrev s_law : Stmt := top 71
theorem bt_abs : bootBuiltins "abs" = some (.builtin "abs") := by decide +kernel
theorem bt_len : bootBuiltins "len" = some (.builtin "len") := by decide +kernel
theorem bt_tuple : bootBuiltins "tuple" = some (.type "tuple") := by decide +kernel
theorem bt_int : bootBuiltins "int" = some (.type "int") := by decide +kernel
theorem bt_max : bootBuiltins "max" = some (.builtin "max") := by decide +kernel
theorem bt_sum : bootBuiltins "sum" = some (.builtin "sum") := by decide +kernel
theorem bt_min : bootBuiltins "min" = some (.builtin "min") := by decide +kernel
theorem bt_isinstance : bootBuiltins "isinstance" = some (.builtin "isinstance") := by decide +kernel
theorem bt_bool : bootBuiltins "bool" = some (.type "bool") := by decide +kernel
theorem ite_ne {y : Int} {A B : Prop} (h1 : y ≠ 0 → A) (h2 : y = 0 → B) : if (!decide (y = 0)) = true then A else B := by
  by_cases h : y = 0
  · rw [if_neg (by simp [h])]; exact h2 h
  · rw [if_pos (by simp [h])]; exact h1 h
theorem ite_dec {p : Prop} [Decidable p] {A B : Prop} (h1 : p → A) (h2 : ¬ p → B) : if decide p = true then A else B := by
  by_cases h : p
  · rw [if_pos (by simp [h])]; exact h1 h
  · rw [if_neg (by simp [h])]; exact h2 h
theorem ite_ndec {p : Prop} [Decidable p] {A B : Prop} (h1 : ¬ p → A) (h2 : p → B) : if (!decide p) = true then A else B := by
  by_cases h : p
  · rw [if_neg (by simp [h])]; exact h2 h
  · rw [if_pos (by simp [h])]; exact h1 h
theorem ite_b {c : Bool} {A B : Prop} (h1 : c = true → A) (h2 : c = false → B) : if c = true then A else B := by
  cases c
  · exact iteF (h2 rfl)
  · exact iteT (h1 rfl)
theorem ite_nb {c : Bool} {A B : Prop} (h1 : c = false → A) (h2 : c = true → B) : if (!c) = true then A else B := by
  cases c
  · exact iteT (h1 rfl)
  · exact iteF (h2 rfl)
theorem atI_mem {ds : List D} {i : Int} (h0 : 0 ≤ i) (h1 : i < (ds.length : Int)) : ∃ d, L2.atI ds i = some d ∧ d ∈ ds := by
  obtain ⟨n, rfl⟩ := Int.eq_ofNat_of_zero_le h0
  have hn : n < ds.length := by omega
  exact ⟨ds[n], atI_nat (by simp [hn]), List.getElem_mem hn⟩
theorem loop_all {ok : DH → Prop} {g : DG} {b : DS} {M : DEnds} {P : D → Prop} (Iv : Lo → DH → Prop) (hok : ∀ L S, Iv L S → ok S)
    (hs : ∀ d L S N, P d → Iv L S → (∀ L' S', Iv L' S' → N L' S') → g d L S fun L1 S1 => b { M with nx := N, ct := N, bk := M.nx } L1 S1) (hd : ∀ L S, Iv L S → M.nx L S) : ∀ r, (∀ d ∈ r, P d) → ∀ L S, Iv L S → dLoop ok g b M r L S
  | [], _, L, S, i => ⟨hok L S i, hd L S i⟩
  | d :: r, hp, L, S, i => ⟨hok L S i, hs d L S _ (hp d List.mem_cons_self) i fun L' S' i' => loop_all Iv hok hs hd r (fun e he => hp e (List.mem_cons_of_mem _ he)) L' S' i'⟩
instance {n : Nat} {x : Int} : Decidable (Bt n x) := inferInstanceAs (Decidable (x.natAbs < 2 ^ n))
theorem few {ds : List D} (h : Nat.ble ds.length sizeLine = true := by rfl) : ds.length ≤ sizeLine := Nat.le_of_ble_eq_true h
def SOK (S : DH) (a : Addr) : Prop := ∃ n b, S a = some (.lst [.int n, .bl b]) ∧ (b = false → 0 ≤ n ∧ n < 2147483647)
def Dr (a : Addr) (S S' : DH) : Prop := SOK S' a ∧ ∀ b o, b ≠ a → S b = some o → S' b = some o
theorem Dr.trans {a : Addr} {S S1 S2 : DH} (h1 : Dr a S S1) (h2 : Dr a S1 S2) : Dr a S S2 := ⟨h2.1, fun b o n e => h2.2 b o n (h1.2 b o n e)⟩
theorem SOK.ne {a p : Addr} {S : DH} (h : SOK S a) (hp : S p = none) : p ≠ a := by
  obtain ⟨n, b, e, _⟩ := h
  intro z
  subst z
  rw [e] at hp
  cases hp
theorem SOK.new {a p : Addr} {S : DH} {o : DO} (h : SOK S a) (hp : S p = none) : SOK (put S p o) a := by
  have z := h.ne hp
  obtain ⟨n, b, e, q⟩ := h
  exact ⟨n, b, by rw [put_ne (Ne.symm z)]; exact e, q⟩
theorem Dr.new {a p : Addr} {S : DH} {o : DO} (h : SOK S a) (hp : S p = none) : Dr a S (put S p o) :=
  ⟨h.new hp, fun b u n e => by rw [put_ne (ne_put e hp)]; exact e⟩
theorem bt31 {x : Int} (h1 : 0 ≤ x) (h2 : x < 2147483648) : Bt 31 x := by
  unfold Bt
  omega
def N (u a b : Rat) : D := .tup [fr a, fr (ss b * u)]
structure Fd (u : Rat) : Prop where
  pos : 0 < u
  no : NoSq u
  sz : Sz 2800 u
structure Sm (n : Nat) (a b : Rat) : Prop where
  a : Sz n a
  b : Sz n b
theorem Sm.mono {m n : Nat} {a b : Rat} (h : Sm m a b) (hm : m ≤ n) : Sm n a b := ⟨h.a.mono hm, h.b.mono hm⟩
theorem Sm.sub {m n : Nat} {a b c d : Rat} (h : Sm m a b) (h' : Sm n c d) : Sm (m + n + 1) (a - c) (b - d) := ⟨h.a.sub h'.a, h.b.sub h'.b⟩
theorem Sm.neg {m : Nat} {a b : Rat} (h : Sm m a b) : Sm m (-a) (-b) := ⟨h.a.neg, h.b.neg⟩
theorem Sm.mul {m n : Nat} {a b c d u : Rat} (hu : Fd u) (h : Sm m a b) (h' : Sm n c d) : Sm (2 * (m + n) + 2810) (a * c + b * d * u) (a * d + b * c) :=
  ⟨((h.a.mul h'.a).add ((h.b.mul h'.b).mul hu.sz)).mono (by omega), ((h.a.mul h'.b).add (h.b.mul h'.a)).mono (by omega)⟩
theorem dIs_non {d : D} {S : DH} {k : DK} : dIs d .non S k = k (.bl (isNonD d)) S := by cases d <;> rfl
theorem fr_neg {q : Rat} : D.tup [.int (-q.num), .int (q.den : Int)] = fr (-q) := by
  show _ = D.tup [.int (-q).num, .int ((-q).den : Int)]
  rw [Rat.neg_num, Rat.neg_den]
theorem fr_ab {q : Rat} : D.tup [.int (if q.num < 0 then -q.num else q.num), .int (q.den : Int)] = fr (ab q) := by
  show _ = D.tup [.int (ab q).num, .int ((ab q).den : Int)]
  rw [ab_num, ab_den]
theorem gcd_bt {n : Nat} {t b : Int} (h : b ≠ 0) (hb : Bt n b) : Bt n ((Int.gcd t b : Nat) : Int) := by
  refine hb.le ?_
  have h1 : Int.gcd t b ∣ b.natAbs := by
    have := Int.gcd_dvd_right t b
    exact (by have := Int.natAbs_dvd_natAbs.mpr this; simpa using this)
  have := Nat.le_of_dvd (by omega) h1
  omega
def F_common_divisor : DSp := fun ds S k => match ds with
  | [.int a, .int b] => k (.int ((Int.gcd a b : Nat) : Int)) S
  | _ => False
theorem sc_common_divisor : FnScope ["one", "other", "rest"] ["one", "other"] (defScope s_common_divisor) := ⟨rfl, rfl, rfl, by decide +kernel, rfl, by decide +kernel, by decide +kernel⟩
theorem ok_common_divisor {P : Program} {w : World} {K : Fg} {mg : Str → Option Value} {base : Heap} {f : Addr} {fd : FuncData} (Fn : Fun K "common_divisor" "common_divisor" s_common_divisor f fd) (z_abs : mg "abs" = none) :
    FnOk P w K mg base CX0 1 f fd ["one", "other"] (spU K F_common_divisor) := by
  refine Fn.okJ sc_common_divisor (fun ds S k h => ?_) (fun cdv A outer s H E hr => ⟨_, (ds_consj (dst_whilej PassesOwn.never (dt_cmpj o_ne (d_varj 1) d_intj (nomark _)) (ds_consj (dst_setj (i := 2) sc_common_divisor.nd (d_opj o_mod (d_varj 0) (d_varj 1))) (ds_consj (dst_setj (i := 0) sc_common_divisor.nd (d_varj 1)) (ds_onej (dst_setj (i := 1) sc_common_divisor.nd (d_varj 2)))))) (ds_onej (dst_retj (d_callBj b_abs rfl z_abs bt_abs (da_consj (d_varj 0) da_nilj))))), fun ds S k h => ?_⟩)
  · unfold F_common_divisor at h
    split at h
    · rfl
    · exact h.elim
  · unfold F_common_divisor at h
    split at h
    · rename_i a b
      refine ⟨fun m L S' => S' = S ∧ ∃ x y r, L = [some (.int x), some (.int y), r] ∧ m = y.natAbs ∧ Int.gcd x y = Int.gcd a b, ⟨_, rfl, a, b, _, rfl, rfl, rfl⟩, ?_⟩
      rintro m L S' ⟨rfl, x, y, r, rfl, rfl, e⟩
      refine ite_ne (fun hy => ⟨fun L' S'' => ∃ m', m' < y.natAbs ∧ S'' = S' ∧ ∃ x y r, L' = [some (.int x), some (.int y), r] ∧ m' = y.natAbs ∧ Int.gcd x y = Int.gcd a b, fun _ _ z => z, hy, ?_⟩) (fun hy => ?_)
      · exact ⟨_, fmod_lt x y hy, rfl, y, x.fmod y, _, rfl, rfl, (gcd_fmod x y).trans e⟩
      · subst hy
        have e2 := gcd_zero x
        rw [e] at e2
        show k (.int (if x < 0 then -x else x)) S'
        rw [← e2]
        exact h
    · exact h.elim
def F_ratio : DSp := fun ds S k => match ds with
  | [.int t, .int b] => b ≠ 0 ∧ Bt 60000000 b ∧ k (fr (Rat.divInt t b)) S
  | _ => False
theorem ratio_go {S : DH} {k : DK} {t b : Int} {q : Rat} (e : Rat.divInt t b = q) (h0 : b ≠ 0) (hb : Bt 60000000 b) (h : k (fr q) S) : F_ratio [.int t, .int b] S k := by subst e; exact ⟨h0, hb, h⟩
theorem sc_ratio : FnScope ["top", "bottom", "shared"] ["top", "bottom"] (defScope s_ratio) := ⟨rfl, rfl, rfl, by decide +kernel, rfl, by decide +kernel, by decide +kernel⟩
theorem ok_ratio {P : Program} {w : World} {K : Fg} {mg : Str → Option Value} {base : Heap} {f : Addr} {fd : FuncData} (Fn : Fun K "ratio" "ratio" s_ratio f fd) (c_common_divisor : Own P w K mg base "common_divisor" 1 F_common_divisor) (hBl : BltB mg base) (hTr : P.given.tree = none) :
    FnOk P w K mg base CX0 34 f fd ["top", "bottom"] (spU K F_ratio) := by
  refine Fn.okJ sc_ratio (fun ds S k h => ?_) (fun cdv A outer s H E hr => ⟨_, (ds_consj (dst_ifj (dt_cmpj o_eq (d_varj 1) d_intj (nomark _)) (ds_onej dst_neverj) ds_nilj) (ds_consj (dst_setj (i := 2) sc_ratio.nd (d_callj c_common_divisor (hr.mono (by decide)) rfl (da_consj (d_varj 0) (da_consj (d_varj 1) da_nilj)))) (ds_consj (dst_ifj (dt_cmpj o_lt (d_varj 1) d_intj (nomark _)) (ds_onej (dst_setj (i := 2) sc_ratio.nd (d_unj o_neg (d_varj 2)))) ds_nilj) (ds_onej (dst_retj (d_tupj (da_consj (d_opj (o_divR hr hBl hTr rfl rfl rfl (by decide)) (d_varj 0) (d_varj 2)) (da_consj (d_opj (o_divR hr hBl hTr rfl rfl rfl (by decide)) (d_varj 1) (d_varj 2)) da_nilj)))))))), fun ds S k h => ?_⟩)
  · unfold F_ratio at h
    split at h
    · rfl
    · exact h.elim
  · unfold F_ratio at h
    split at h
    · rename_i t b
      obtain ⟨h0, hb, q⟩ := h
      have hg := gcd_bt (t := t) h0 hb
      have hs := shr_ne (t := t) h0
      have e1 := div_num (t := t) h0
      have e2 := div_den (t := t) h0
      have qq : k (.tup [.int (t.fdiv (shr t b)), .int (b.fdiv (shr t b))]) S := by rw [e1, e2]; exact q
      unfold shr at qq hs
      refine ite_dec (fun z => absurd z h0) (fun _ => ite_dec (fun hl => ?_) (fun hl => ?_))
      · rw [if_pos hl] at qq hs
        exact ⟨hs, hs, few, qq⟩
      · rw [if_neg hl] at qq hs
        exact ⟨hs, hs, few, qq⟩
    · exact h.elim
def F_plus : DSp := fun ds S k => ∃ p q : Rat, ds = [fr p, fr q] ∧ Sz 20000000 p ∧ Sz 20000000 q ∧ k (fr (p + q)) S
theorem sc_plus : FnScope ["one", "other"] ["one", "other"] (defScope s_plus) := ⟨rfl, rfl, rfl, by decide +kernel, rfl, by decide +kernel, by decide +kernel⟩
theorem ok_plus {P : Program} {w : World} {K : Fg} {mg : Str → Option Value} {base : Heap} {f : Addr} {fd : FuncData} (Fn : Fun K "plus" "plus" s_plus f fd) (c_ratio : Own P w K mg base "ratio" 34 F_ratio) :
    FnOk P w K mg base CX0 35 f fd ["one", "other"] (spU K F_plus) := by
  refine Fn.okJ sc_plus (fun ds S k h => ?_) (fun cdv A outer s H E hr => ⟨_, (ds_onej (dst_retj (d_callj c_ratio (hr.mono (by decide)) rfl (da_consj (d_opj o_add (d_opj o_mul (d_ixj x_ixE (d_varj 0) d_intj (fun _ _ => rfl)) (d_ixj x_ixE (d_varj 1) d_intj (fun _ _ => rfl))) (d_opj o_mul (d_ixj x_ixE (d_varj 1) d_intj (fun _ _ => rfl)) (d_ixj x_ixE (d_varj 0) d_intj (fun _ _ => rfl)))) (da_consj (d_opj o_mul (d_ixj x_ixE (d_varj 0) d_intj (fun _ _ => rfl)) (d_ixj x_ixE (d_varj 1) d_intj (fun _ _ => rfl))) da_nilj))))), fun ds S k h => ?_⟩)
  · obtain ⟨_, _, rfl, _⟩ := h
    rfl
  · obtain ⟨p, q, rfl, hp, hq, w⟩ := h
    exact ⟨mok hp.num hq.den, mok hq.num hp.den, mok hp.den hq.den, ratio_go (add_of p q) (den_mul_ne p q) ((hp.den.mul hq.den).mono (by decide)) w⟩
def F_times : DSp := fun ds S k => ∃ p q : Rat, ds = [fr p, fr q] ∧ Sz 20000000 p ∧ Sz 20000000 q ∧ k (fr (p * q)) S
theorem sc_times : FnScope ["one", "other"] ["one", "other"] (defScope s_times) := ⟨rfl, rfl, rfl, by decide +kernel, rfl, by decide +kernel, by decide +kernel⟩
theorem ok_times {P : Program} {w : World} {K : Fg} {mg : Str → Option Value} {base : Heap} {f : Addr} {fd : FuncData} (Fn : Fun K "times" "times" s_times f fd) (c_ratio : Own P w K mg base "ratio" 34 F_ratio) :
    FnOk P w K mg base CX0 35 f fd ["one", "other"] (spU K F_times) := by
  refine Fn.okJ sc_times (fun ds S k h => ?_) (fun cdv A outer s H E hr => ⟨_, (ds_onej (dst_retj (d_callj c_ratio (hr.mono (by decide)) rfl (da_consj (d_opj o_mul (d_ixj x_ixE (d_varj 0) d_intj (fun _ _ => rfl)) (d_ixj x_ixE (d_varj 1) d_intj (fun _ _ => rfl))) (da_consj (d_opj o_mul (d_ixj x_ixE (d_varj 0) d_intj (fun _ _ => rfl)) (d_ixj x_ixE (d_varj 1) d_intj (fun _ _ => rfl))) da_nilj))))), fun ds S k h => ?_⟩)
  · obtain ⟨_, _, rfl, _⟩ := h
    rfl
  · obtain ⟨p, q, rfl, hp, hq, w⟩ := h
    exact ⟨mok hp.num hq.num, mok hp.den hq.den, ratio_go (mul_of p q) (den_mul_ne p q) ((hp.den.mul hq.den).mono (by decide)) w⟩
def F_over : DSp := fun ds S k => ∃ p q : Rat, ds = [fr p, fr q] ∧ q ≠ 0 ∧ Sz 20000000 p ∧ Sz 20000000 q ∧ k (fr (p / q)) S
theorem sc_over : FnScope ["one", "other"] ["one", "other"] (defScope s_over) := ⟨rfl, rfl, rfl, by decide +kernel, rfl, by decide +kernel, by decide +kernel⟩
theorem ok_over {P : Program} {w : World} {K : Fg} {mg : Str → Option Value} {base : Heap} {f : Addr} {fd : FuncData} (Fn : Fun K "over" "over" s_over f fd) (c_ratio : Own P w K mg base "ratio" 34 F_ratio) :
    FnOk P w K mg base CX0 35 f fd ["one", "other"] (spU K F_over) := by
  refine Fn.okJ sc_over (fun ds S k h => ?_) (fun cdv A outer s H E hr => ⟨_, (ds_onej (dst_retj (d_callj c_ratio (hr.mono (by decide)) rfl (da_consj (d_opj o_mul (d_ixj x_ixE (d_varj 0) d_intj (fun _ _ => rfl)) (d_ixj x_ixE (d_varj 1) d_intj (fun _ _ => rfl))) (da_consj (d_opj o_mul (d_ixj x_ixE (d_varj 0) d_intj (fun _ _ => rfl)) (d_ixj x_ixE (d_varj 1) d_intj (fun _ _ => rfl))) da_nilj))))), fun ds S k h => ?_⟩)
  · obtain ⟨_, _, rfl, _⟩ := h
    rfl
  · obtain ⟨p, q, rfl, h0, hp, hq, w⟩ := h
    exact ⟨mok hp.num hq.den, mok hp.den hq.num, ratio_go (div_of p q) (Int.mul_ne_zero (den_ne p) (num_ne h0)) ((hp.den.mul hq.num).mono (by decide)) w⟩
def F_negative : DSp := fun ds S k => ∃ q : Rat, ds = [fr q] ∧ k (fr (-q)) S
theorem sc_negative : FnScope ["one"] ["one"] (defScope s_negative) := ⟨rfl, rfl, rfl, by decide +kernel, rfl, by decide +kernel, by decide +kernel⟩
theorem ok_negative {P : Program} {w : World} {K : Fg} {mg : Str → Option Value} {base : Heap} {f : Addr} {fd : FuncData} (Fn : Fun K "negative" "negative" s_negative f fd)  :
    FnOk P w K mg base CX0 1 f fd ["one"] (spU K F_negative) := by
  refine Fn.okJ sc_negative (fun ds S k h => ?_) (fun cdv A outer s H E hr => ⟨_, (ds_onej (dst_retj (d_tupj (da_consj (d_unj o_neg (d_ixj x_ixE (d_varj 0) d_intj (fun _ _ => rfl))) (da_consj (d_ixj x_ixE (d_varj 0) d_intj (fun _ _ => rfl)) da_nilj))))), fun ds S k h => ?_⟩)
  · obtain ⟨_, rfl, _⟩ := h
    rfl
  · obtain ⟨q, rfl, w⟩ := h
    rw [← fr_neg] at w
    exact ⟨few, w⟩
def F_without_sign : DSp := fun ds S k => ∃ q : Rat, ds = [fr q] ∧ k (fr (ab q)) S
theorem sc_without_sign : FnScope ["one"] ["one"] (defScope s_without_sign) := ⟨rfl, rfl, rfl, by decide +kernel, rfl, by decide +kernel, by decide +kernel⟩
theorem ok_without_sign {P : Program} {w : World} {K : Fg} {mg : Str → Option Value} {base : Heap} {f : Addr} {fd : FuncData} (Fn : Fun K "without_sign" "without_sign" s_without_sign f fd) (z_abs : mg "abs" = none) :
    FnOk P w K mg base CX0 1 f fd ["one"] (spU K F_without_sign) := by
  refine Fn.okJ sc_without_sign (fun ds S k h => ?_) (fun cdv A outer s H E hr => ⟨_, (ds_onej (dst_retj (d_tupj (da_consj (d_callBj b_abs rfl z_abs bt_abs (da_consj (d_ixj x_ixE (d_varj 0) d_intj (fun _ _ => rfl)) da_nilj)) (da_consj (d_ixj x_ixE (d_varj 0) d_intj (fun _ _ => rfl)) da_nilj))))), fun ds S k h => ?_⟩)
  · obtain ⟨_, rfl, _⟩ := h
    rfl
  · obtain ⟨q, rfl, w⟩ := h
    rw [← fr_ab] at w
    exact ⟨few, w⟩
end My
namespace My
open PySem PySem.Spec PyProof.Rows L2 DL HM
set_option maxHeartbeats 4000000
structure Gu (n g : Int) : Prop where
  pos : 0 < g
  ge : isq n ≤ g
theorem Gu.next {n g : Int} (h0 : 1 ≤ n) (h : Gu n g) (hl : (g + n.fdiv g).fdiv 2 < g) : Gu n ((g + n.fdiv g).fdiv 2) := by
  have rt := isq_rt (n := n) (by omega)
  have r1 : 1 ≤ isq n := rt.le_of (by omega)
  rw [fdiv2 _ (by decide), fdiv2 _ h.pos] at hl ⊢
  have h1 := newton_ge h.pos rt.nn rt.le
  exact ⟨by omega, h1⟩
theorem Gu.last {n g : Int} (h0 : 1 ≤ n) (h : Gu n g) (hl : ¬ (g + n.fdiv g).fdiv 2 < g) : g = isq n := by
  have rt := isq_rt (n := n) (by omega)
  rw [fdiv2 _ (by decide), fdiv2 _ h.pos] at hl
  have h1 := h.ge
  rcases Int.lt_or_le (isq n) g with h2 | h2
  · exact absurd (newton_lt (by omega) rt h2) hl
  · omega
theorem Gu.first {n : Int} {b : Nat} (h0 : 1 ≤ n) (hn : n.natAbs < 2 ^ b) : Gu n ((1 : Int) * 2 ^ ((((b : Nat) : Int) + 1).fdiv 2).toNat) := by
  have e : ((((b : Nat) : Int) + 1).fdiv 2).toNat = (b + 1) / 2 := by rw [fdiv2 _ (by decide)]; omega
  rw [e, Int.one_mul]
  have hp : (0 : Int) < 2 ^ ((b + 1) / 2) := Int.pow_pos (by decide)
  have rt := isq_rt (n := n) (by omega)
  refine ⟨hp, ?_⟩
  apply Int.not_lt.mp
  intro hl
  have h1 := sq_mono (Int.le_of_lt hp) (Int.le_of_lt hl)
  have h2 := rt.le
  have h3 : (2 : Int) ^ ((b + 1) / 2) * 2 ^ ((b + 1) / 2) = 2 ^ ((b + 1) / 2 + (b + 1) / 2) := (Int.pow_add _ _ _).symm
  have h4 : 2 ^ b ≤ 2 ^ ((b + 1) / 2 + (b + 1) / 2) := two_pow_le (by omega)
  have h5 : ((2 ^ ((b + 1) / 2 + (b + 1) / 2) : Nat) : Int) = (2 : Int) ^ ((b + 1) / 2 + (b + 1) / 2) := by rw [Int.natCast_pow]; rfl
  have h6 : ((2 ^ b : Nat) : Int) ≤ ((2 ^ ((b + 1) / 2 + (b + 1) / 2) : Nat) : Int) := Int.ofNat_le.mpr h4
  have h7 : (n.natAbs : Int) < ((2 ^ b : Nat) : Int) := Int.ofNat_lt.mpr hn
  rw [h3] at h1
  rw [h5] at h6
  omega
def F_whole_root : DSp := fun ds S k => ∃ n : Int, ds = [.int n] ∧ 0 ≤ n ∧ Bt 1600000 n ∧ k (.int (isq n)) S
theorem sc_whole_root : FnScope ["number", "guess", "better"] ["number"] (defScope s_whole_root) := ⟨rfl, rfl, rfl, by decide +kernel, rfl, by decide +kernel, by decide +kernel⟩
theorem ok_whole_root {P : Program} {w : World} {K : Fg} {mg : Str → Option Value} {base : Heap} {f : Addr} {fd : FuncData} (Fn : Fun K "whole_root" "whole_root" s_whole_root f fd) (hBl : BltB mg base) (hTr : P.given.tree = none) :
    FnOk P w K mg base CX0 34 f fd ["number"] (spU K F_whole_root) := by
  refine Fn.okJ sc_whole_root (fun ds S k h => ?_) (fun cdv A outer s H E hr => ⟨_, (ds_consj (dst_ifj (dt_cmpj o_eq (d_varj 0) d_intj (nomark _)) (ds_onej (dst_retj d_intj)) ds_nilj) (ds_consj (dst_setj (i := 1) sc_whole_root.nd (d_opj o_shl d_intj (d_opj (o_divR hr hBl hTr rfl rfl rfl (by decide)) (d_opj o_add (d_bitsj (d_varj 0)) d_intj) d_intj))) (ds_consj (dst_setj (i := 2) sc_whole_root.nd (d_opj (o_divR hr hBl hTr rfl rfl rfl (by decide)) (d_opj o_add (d_varj 1) (d_opj (o_divR hr hBl hTr rfl rfl rfl (by decide)) (d_varj 0) (d_varj 1))) d_intj)) (ds_consj (dst_whilej PassesOwn.never (dt_cmpj o_lt (d_varj 2) (d_varj 1) (nomark _)) (ds_consj (dst_setj (i := 1) sc_whole_root.nd (d_varj 2)) (ds_onej (dst_setj (i := 2) sc_whole_root.nd (d_opj (o_divR hr hBl hTr rfl rfl rfl (by decide)) (d_opj o_add (d_varj 1) (d_opj (o_divR hr hBl hTr rfl rfl rfl (by decide)) (d_varj 0) (d_varj 1))) d_intj))))) (ds_onej (dst_retj (d_varj 1))))))), fun ds S k h => ?_⟩)
  · obtain ⟨_, rfl, _⟩ := h
    rfl
  · obtain ⟨n, rfl, h0, hb, q⟩ := h
    refine ite_dec (fun e => ?_) (fun e => ?_)
    · subst e
      rw [isq_zero] at q
      exact q
    · have hbits : Builtin.Int.intBits n ≤ 1600000 := intBits_le_iff.mpr hb
      have h1 : 1 ≤ n := by omega
      have hn : n.natAbs < 2 ^ Builtin.Int.intBits n := intBits_le_iff.mp (Nat.le_refl _)
      have G := Gu.first h1 hn
      have hc : CPow 1 ((((Builtin.Int.intBits n : Nat) : Int) + 1).fdiv 2) := by
        have e2 := fdiv2 (((Builtin.Int.intBits n : Nat) : Int) + 1) (b := 2) (by decide)
        exact ⟨by rw [e2]; omega, by rw [e2]; omega, by decide⟩
      have two : (2 : Int) ≠ 0 := by decide
      have dv : ∀ g : Int, Gu n g → g ≠ 0 := fun g G => by have := G.pos; omega
      refine ⟨two, hc, dv _ G, two, fun m L S' => S' = S ∧ ∃ g, L = [some (.int n), some (.int g), some (.int ((g + n.fdiv g).fdiv 2))] ∧ m = g.toNat ∧ Gu n g, ⟨_, rfl, _, rfl, rfl, G⟩, ?_⟩
      rintro m L S' ⟨rfl, g, rfl, rfl, G⟩
      refine ite_dec (fun hl => ⟨fun L' S'' => ∃ m', m' < g.toNat ∧ S'' = S' ∧ ∃ g, L' = [some (.int n), some (.int g), some (.int ((g + n.fdiv g).fdiv 2))] ∧ m' = g.toNat ∧ Gu n g, fun _ _ z => z, dv _ (G.next h1 hl), two, ?_⟩) (fun hl => ?_)
      · have G2 := G.next h1 hl
        exact ⟨_, by have := G2.pos; have := G.pos; omega, rfl, _, rfl, rfl, G2⟩
      · rw [← G.last h1 hl] at q
        exact q
def sqD (n : Int) : D := if isq n * isq n = n then .int (isq n) else .non
def F_square_root_or_none : DSp := fun ds S k => ∃ n : Int, ds = [.int n] ∧ 0 ≤ n ∧ Bt 1600000 n ∧ k (sqD n) S
theorem sc_square_root_or_none : FnScope ["number", "root"] ["number"] (defScope s_square_root_or_none) := ⟨rfl, rfl, rfl, by decide +kernel, rfl, by decide +kernel, by decide +kernel⟩
theorem ok_square_root_or_none {P : Program} {w : World} {K : Fg} {mg : Str → Option Value} {base : Heap} {f : Addr} {fd : FuncData} (Fn : Fun K "square_root_or_none" "square_root_or_none" s_square_root_or_none f fd) (c_whole_root : Own P w K mg base "whole_root" 34 F_whole_root) :
    FnOk P w K mg base CX0 35 f fd ["number"] (spU K F_square_root_or_none) := by
  refine Fn.okJ sc_square_root_or_none (fun ds S k h => ?_) (fun cdv A outer s H E hr => ⟨_, (ds_consj (dst_setj (i := 1) sc_square_root_or_none.nd (d_callj c_whole_root (hr.mono (by decide)) rfl (da_consj (d_varj 0) da_nilj))) (ds_onej (dst_retj (d_ifj (dt_cmpj o_eq (d_opj o_mul (d_varj 1) (d_varj 1)) (d_varj 0) (nomark _)) (d_varj 1) d_nonj)))), fun ds S k h => ?_⟩)
  · obtain ⟨_, rfl, _⟩ := h
    rfl
  · obtain ⟨n, rfl, h0, hb, q⟩ := h
    have b2 := isq_bt h0 hb
    refine ⟨n, rfl, h0, hb, mok b2 b2, ite_dec (fun e => ?_) (fun e => ?_)⟩
    · rw [sqD, if_pos e] at q
      exact q
    · rw [sqD, if_neg e] at q
      exact q
def F_root_in : DSp := fun ds S k => ∃ q : Rat, ds = [fr q] ∧ 0 ≤ q ∧ Sz 1600000 q ∧ (∀ r, 0 ≤ r → r * r = q → k (fr r) S) ∧ (NoSq q → k .non S)
theorem sc_root_in : FnScope ["one", "top", "bottom"] ["one"] (defScope s_root_in) := ⟨rfl, rfl, rfl, by decide +kernel, rfl, by decide +kernel, by decide +kernel⟩
theorem ok_root_in {P : Program} {w : World} {K : Fg} {mg : Str → Option Value} {base : Heap} {f : Addr} {fd : FuncData} (Fn : Fun K "root_in" "root_in" s_root_in f fd) (c_square_root_or_none : Own P w K mg base "square_root_or_none" 35 F_square_root_or_none) :
    FnOk P w K mg base CX0 36 f fd ["one"] (spU K F_root_in) := by
  refine Fn.okJ sc_root_in (fun ds S k h => ?_) (fun cdv A outer s H E hr => ⟨_, (ds_consj (dst_setj (i := 1) sc_root_in.nd (d_callj c_square_root_or_none (hr.mono (by decide)) rfl (da_consj (d_ixj x_ixE (d_varj 0) d_intj (fun _ _ => rfl)) da_nilj))) (ds_consj (dst_ifj (dt_cmpj o_is (d_varj 1) d_nonj (nomark _)) (ds_onej (dst_retj d_nonj)) ds_nilj) (ds_consj (dst_setj (i := 2) sc_root_in.nd (d_callj c_square_root_or_none (hr.mono (by decide)) rfl (da_consj (d_ixj x_ixE (d_varj 0) d_intj (fun _ _ => rfl)) da_nilj))) (ds_consj (dst_ifj (dt_cmpj o_is (d_varj 2) d_nonj (nomark _)) (ds_onej (dst_retj d_nonj)) ds_nilj) (ds_onej (dst_retj (d_tupj (da_consj (d_varj 1) (da_consj (d_varj 2) da_nilj))))))))), fun ds S k h => ?_⟩)
  · obtain ⟨_, rfl, _⟩ := h
    rfl
  · obtain ⟨q, rfl, h0, hs, h1, h2⟩ := h
    have n0 := num_nn h0
    by_cases e : isq q.num * isq q.num = q.num
    · by_cases e2 : isq (q.den : Int) * isq (q.den : Int) = (q.den : Int)
      · obtain ⟨r, r0, rr⟩ := sq_of_root h0 e e2
        obtain ⟨e3, e4⟩ := root_of_sq r0 rr
        have w := h1 r r0 rr
        refine ⟨q.num, rfl, n0, hs.num, ?_⟩
        rw [show sqD q.num = .int (isq q.num) from if_pos e]
        refine ⟨(q.den : Int), rfl, by omega, hs.den, ?_⟩
        rw [show sqD (q.den : Int) = .int (isq (q.den : Int)) from if_pos e2, e3, e4]
        exact ⟨few, w⟩
      · refine ⟨q.num, rfl, n0, hs.num, ?_⟩
        rw [show sqD q.num = .int (isq q.num) from if_pos e]
        refine ⟨(q.den : Int), rfl, by omega, hs.den, ?_⟩
        rw [show sqD (q.den : Int) = .non from if_neg e2]
        refine h2 fun r rr => e2 ?_
        have := congrArg (fun z : Rat => (z.den : Int)) rr
        simp only [sq_den, Int.natCast_mul] at this
        exact isq_sq this
    · refine ⟨q.num, rfl, n0, hs.num, ?_⟩
      rw [show sqD q.num = .non from if_neg e]
      refine h2 fun r rr => e ?_
      have := congrArg Rat.num rr
      rw [sq_num] at this
      exact isq_sq this
def F_is_plain : DSp := fun ds S k => ∃ x q, ds = [.tup [x, fr q]] ∧ k (.bl (decide (q = 0))) S
theorem sc_is_plain : FnScope ["one"] ["one"] (defScope s_is_plain) := ⟨rfl, rfl, rfl, by decide +kernel, rfl, by decide +kernel, by decide +kernel⟩
theorem ok_is_plain {P : Program} {w : World} {K : Fg} {mg : Str → Option Value} {base : Heap} {f : Addr} {fd : FuncData} (Fn : Fun K "is_plain" "is_plain" s_is_plain f fd)  :
    FnOk P w K mg base CX0 1 f fd ["one"] (spU K F_is_plain) := by
  refine Fn.okJ sc_is_plain (fun ds S k h => ?_) (fun cdv A outer s H E hr => ⟨_, (ds_onej (dst_retj (d_cmpj o_eq (d_ixj x_ixE (d_ixj x_ixE (d_varj 0) d_intj (fun _ _ => rfl)) d_intj (fun _ _ => rfl)) d_intj (nomark _)))), fun ds S k h => ?_⟩)
  · obtain ⟨_, _, rfl, _⟩ := h
    rfl
  · obtain ⟨x, q, rfl, w⟩ := h
    have e : decide (q.num = 0) = decide (q = 0) := by
      by_cases h0 : q = 0
      · subst h0; rfl
      · rw [decide_eq_false h0, decide_eq_false (num_ne h0)]
    rw [← e] at w
    exact w
def F_with_sign_of : DSp := fun ds S k => ∃ p q : Rat, ds = [fr p, fr q] ∧ k (fr (sg p q)) S
theorem sc_with_sign_of : FnScope ["one", "other"] ["one", "other"] (defScope s_with_sign_of) := ⟨rfl, rfl, rfl, by decide +kernel, rfl, by decide +kernel, by decide +kernel⟩
theorem ok_with_sign_of {P : Program} {w : World} {K : Fg} {mg : Str → Option Value} {base : Heap} {f : Addr} {fd : FuncData} (Fn : Fun K "with_sign_of" "with_sign_of" s_with_sign_of f fd) (c_negative : Own P w K mg base "negative" 1 F_negative) :
    FnOk P w K mg base CX0 2 f fd ["one", "other"] (spU K F_with_sign_of) := by
  refine Fn.okJ sc_with_sign_of (fun ds S k h => ?_) (fun cdv A outer s H E hr => ⟨_, (ds_onej (dst_retj (d_ifj (dt_cmpj o_lt (d_ixj x_ixE (d_varj 1) d_intj (fun _ _ => rfl)) d_intj (nomark _)) (d_callj c_negative (hr.mono (by decide)) rfl (da_consj (d_varj 0) da_nilj)) (d_varj 0)))), fun ds S k h => ?_⟩)
  · obtain ⟨_, _, rfl, _⟩ := h
    rfl
  · obtain ⟨p, q, rfl, w⟩ := h
    unfold sg at w
    refine ite_dec (fun hn => ?_) (fun hn => ?_)
    · rw [if_pos ((num_neg_iff q).mp hn)] at w
      exact ⟨p, rfl, w⟩
    · rw [if_neg (fun z => hn ((num_neg_iff q).mpr z))] at w
      exact w
end My
namespace My
open PySem PySem.Spec PyProof.Rows L2 DL HM
set_option maxHeartbeats 4000000
theorem nat_le_sq (n : Nat) : n ≤ n * n := by
  rcases Nat.eq_zero_or_pos n with h | h
  · subst h; decide
  · exact Nat.le_mul_of_pos_left n h
theorem _root_.HM.Sz.root {n : Nat} {q r : Rat} (h : Sz n q) (e : r * r = q) : Sz n r := by
  subst e
  refine ⟨h.num.le ?_, h.den.le ?_⟩
  · rw [sq_num, Int.natAbs_mul]
    exact nat_le_sq _
  · rw [sq_den]
    have := nat_le_sq r.den
    omega
theorem sg_nn {p q : Rat} (h : 0 ≤ q) : sg p q = p := by unfold sg; rw [if_neg (by grind)]
theorem ab_of_nn {q : Rat} (h : 0 ≤ q) : ab q = q := by unfold ab; rw [if_neg (by grind)]
open Classical in
noncomputable def mkD (p q : Rat) : D := if h : ∃ r, 0 ≤ r ∧ r * r = ab q then .tup [fr (p + sg h.choose q), fr 0] else .tup [fr p, fr q]
theorem root_uniq {r r' q : Rat} (h0 : 0 ≤ r) (h1 : 0 ≤ r') (e : r * r = q) (e' : r' * r' = q) : r = r' := by
  obtain ⟨a1, a2⟩ := root_of_sq h0 e
  obtain ⟨b1, b2⟩ := root_of_sq h1 e'
  refine Rat.ext (a1.symm.trans b1) ?_
  have := a2.symm.trans b2
  omega
theorem mkD_root {p q r : Rat} (r0 : 0 ≤ r) (rr : r * r = ab q) : mkD p q = .tup [fr (p + sg r q), fr 0] := by
  have h : ∃ r, 0 ≤ r ∧ r * r = ab q := ⟨r, r0, rr⟩
  unfold mkD
  rw [dif_pos h, root_uniq h.choose_spec.1 r0 h.choose_spec.2 rr]
theorem mkD_no {p q : Rat} (no : NoSq (ab q)) : mkD p q = .tup [fr p, fr q] := by
  unfold mkD
  rw [dif_neg fun ⟨r, _, e⟩ => no r e]
theorem mkD_zero {p : Rat} : mkD p 0 = .tup [fr p, fr 0] := by
  rw [mkD_root (r := 0) (by decide) (by unfold ab; grind), show p + sg 0 0 = p by unfold sg; grind]
def F_field_base : DSp := fun ds S k => ∃ u a b c d : Rat, ds = [N u a b, N u c d] ∧ 0 < u ∧ k (fr (pick b d * pick b d * u)) S
theorem sc_field_base : FnScope ["one", "other"] ["one", "other"] (defScope s_field_base) := ⟨rfl, rfl, rfl, by decide +kernel, rfl, by decide +kernel, by decide +kernel⟩
theorem ok_field_base {P : Program} {w : World} {K : Fg} {mg : Str → Option Value} {base : Heap} {f : Addr} {fd : FuncData} (Fn : Fun K "field_base" "field_base" s_field_base f fd) (c_without_sign : Own P w K mg base "without_sign" 1 F_without_sign) (c_is_plain : Own P w K mg base "is_plain" 1 F_is_plain) :
    FnOk P w K mg base CX0 2 f fd ["one", "other"] (spU K F_field_base) := by
  refine Fn.okJ sc_field_base (fun ds S k h => ?_) (fun cdv A outer s H E hr => ⟨_, (ds_onej (dst_retj (d_callj c_without_sign (hr.mono (by decide)) rfl (da_consj (d_ifj (dt_valj (d_callj c_is_plain (hr.mono (by decide)) rfl (da_consj (d_varj 0) da_nilj))) (d_ixj x_ixE (d_varj 1) d_intj (fun _ _ => rfl)) (d_ixj x_ixE (d_varj 0) d_intj (fun _ _ => rfl))) da_nilj)))), fun ds S k h => ?_⟩)
  · obtain ⟨_, _, _, _, _, rfl, _⟩ := h
    rfl
  · obtain ⟨u, a, b, c, d, rfl, u0, w⟩ := h
    refine ⟨fr a, ss b * u, rfl, ite_dec (fun e => ⟨_, rfl, ?_⟩) (fun e => ⟨_, rfl, ?_⟩)⟩
    · have e2 : b = 0 := (ss_zero u0).mp e
      rw [show pick b d = d from if_pos e2] at w
      rw [ab_ss u0]
      exact w
    · have e2 : ¬ b = 0 := fun z => e ((ss_zero u0).mpr z)
      rw [show pick b d = b from if_neg e2] at w
      rw [ab_ss u0]
      exact w
def F_share : DSp := fun ds S k => ∃ u a b e : Rat, ds = [N u a b, fr (e * e * u)] ∧ 0 < u ∧ (b = 0 ∨ e ≠ 0) ∧ Sm 120000 b e ∧ Sz 2800 u ∧ k (fr (b / ab e)) S
theorem sc_share : FnScope ["one", "base", "root"] ["one", "base"] (defScope s_share) := ⟨rfl, rfl, rfl, by decide +kernel, rfl, by decide +kernel, by decide +kernel⟩
theorem ok_share {P : Program} {w : World} {K : Fg} {mg : Str → Option Value} {base : Heap} {f : Addr} {fd : FuncData} (Fn : Fun K "share" "share" s_share f fd) (c_is_plain : Own P w K mg base "is_plain" 1 F_is_plain) (c_root_in : Own P w K mg base "root_in" 36 F_root_in) (c_over : Own P w K mg base "over" 35 F_over) (c_without_sign : Own P w K mg base "without_sign" 1 F_without_sign) (c_with_sign_of : Own P w K mg base "with_sign_of" 2 F_with_sign_of) (g_NOUGHT : GTup K mg "NOUGHT" [0, 1]) :
    FnOk P w K mg base CX0 37 f fd ["one", "base"] (spU K F_share) := by
  refine Fn.okJ sc_share (fun ds S k h => ?_) (fun cdv A outer s H E hr => ⟨_, (ds_consj (dst_ifj (dt_valj (d_callj c_is_plain (hr.mono (by decide)) rfl (da_consj (d_varj 0) da_nilj))) (ds_onej (dst_retj (d_gtup g_NOUGHT rfl))) ds_nilj) (ds_consj (dst_setj (i := 2) sc_share.nd (d_callj c_root_in (hr.mono (by decide)) rfl (da_consj (d_callj c_over (hr.mono (by decide)) rfl (da_consj (d_callj c_without_sign (hr.mono (by decide)) rfl (da_consj (d_ixj x_ixE (d_varj 0) d_intj (fun _ _ => rfl)) da_nilj)) (da_consj (d_varj 1) da_nilj))) da_nilj))) (ds_consj (dst_ifj (dt_cmpj o_is (d_varj 2) d_nonj (nomark _)) (ds_onej dst_neverj) ds_nilj) (ds_onej (dst_retj (d_callj c_with_sign_of (hr.mono (by decide)) rfl (da_consj (d_varj 2) (da_consj (d_ixj x_ixE (d_varj 0) d_intj (fun _ _ => rfl)) da_nilj)))))))), fun ds S k h => ?_⟩)
  · obtain ⟨_, _, _, _, rfl, _⟩ := h
    rfl
  · obtain ⟨u, a, b, e, rfl, u0, hbe, hs, hu, w⟩ := h
    refine ⟨fr a, ss b * u, rfl, ite_dec (fun z => ?_) (fun z => ?_)⟩
    · have e2 : b = 0 := (ss_zero u0).mp z
      subst e2
      rw [show (0 : Rat) / ab e = 0 by grind] at w
      exact w
    · have e2 : ¬ b = 0 := fun q => z ((ss_zero u0).mpr q)
      have e0 : e ≠ 0 := hbe.resolve_left e2
      have ne : e * e * u ≠ 0 := by grind
      have ea : ab (ss b * u) = b * b * u := ab_ss u0
      have s1 : Sz 242800 (ab (ss b * u)) := (hs.a.ss.mul hu).ab
      have s2 : Sz 242800 (e * e * u) := (hs.b.mul hs.b).mul hu
      have nn : 0 ≤ ab (ss b * u) / (e * e * u) := div_nn (ab_nn _) (Rat.mul_nonneg (rat_sq_nonneg e) (Rat.le_of_lt u0))
      refine ⟨_, rfl, ab (ss b * u), e * e * u, rfl, ne, s1.mono (by decide), s2.mono (by decide), _, rfl, nn, (s1.div s2 ne).mono (by decide), fun r r0 rr => ?_, fun no => ?_⟩
      · rw [ea] at rr
        have er := share_root u0 e0 r0 rr
        subst er
        refine ⟨_, ss b * u, rfl, ?_⟩
        rw [share_sg u0]
        exact w
      · rw [ea] at no
        exact absurd (share_sq u0 e0) (no _)
def F_joined : DSp := fun ds S k => ∃ a p c : Rat, ds = [fr a, fr p, fr c] ∧ Sz 760000 p ∧ Sz 400000 c ∧ k (.tup [fr a, fr (ss p * c)]) S
theorem sc_joined : FnScope ["part", "portion", "base", "under"] ["part", "portion", "base"] (defScope s_joined) := ⟨rfl, rfl, rfl, by decide +kernel, rfl, by decide +kernel, by decide +kernel⟩
theorem ok_joined {P : Program} {w : World} {K : Fg} {mg : Str → Option Value} {base : Heap} {f : Addr} {fd : FuncData} (Fn : Fun K "joined" "joined" s_joined f fd) (c_times : Own P w K mg base "times" 35 F_times) (c_with_sign_of : Own P w K mg base "with_sign_of" 2 F_with_sign_of) :
    FnOk P w K mg base CX0 36 f fd ["part", "portion", "base"] (spU K F_joined) := by
  refine Fn.okJ sc_joined (fun ds S k h => ?_) (fun cdv A outer s H E hr => ⟨_, (ds_consj (dst_setj (i := 3) sc_joined.nd (d_callj c_times (hr.mono (by decide)) rfl (da_consj (d_callj c_times (hr.mono (by decide)) rfl (da_consj (d_varj 1) (da_consj (d_varj 1) da_nilj))) (da_consj (d_varj 2) da_nilj)))) (ds_onej (dst_retj (d_tupj (da_consj (d_varj 0) (da_consj (d_callj c_with_sign_of (hr.mono (by decide)) rfl (da_consj (d_varj 3) (da_consj (d_varj 1) da_nilj))) da_nilj)))))), fun ds S k h => ?_⟩)
  · obtain ⟨_, _, _, rfl, _⟩ := h
    rfl
  · obtain ⟨a, p, c, rfl, hp, hc, w⟩ := h
    refine ⟨p, p, rfl, hp.mono (by decide), hp.mono (by decide), p * p, c, rfl, (hp.mul hp).mono (by decide), hc.mono (by decide), p * p * c, p, rfl, few, ?_⟩
    rw [sg_ss]
    exact w
def F_root_negative : DSp := fun ds S k => ∃ u a b : Rat, ds = [N u a b] ∧ k (N u (-a) (-b)) S
theorem sc_root_negative : FnScope ["one"] ["one"] (defScope s_root_negative) := ⟨rfl, rfl, rfl, by decide +kernel, rfl, by decide +kernel, by decide +kernel⟩
theorem ok_root_negative {P : Program} {w : World} {K : Fg} {mg : Str → Option Value} {base : Heap} {f : Addr} {fd : FuncData} (Fn : Fun K "root_negative" "root_negative" s_root_negative f fd) (c_negative : Own P w K mg base "negative" 1 F_negative) :
    FnOk P w K mg base CX0 2 f fd ["one"] (spU K F_root_negative) := by
  refine Fn.okJ sc_root_negative (fun ds S k h => ?_) (fun cdv A outer s H E hr => ⟨_, (ds_onej (dst_retj (d_tupj (da_consj (d_callj c_negative (hr.mono (by decide)) rfl (da_consj (d_ixj x_ixE (d_varj 0) d_intj (fun _ _ => rfl)) da_nilj)) (da_consj (d_callj c_negative (hr.mono (by decide)) rfl (da_consj (d_ixj x_ixE (d_varj 0) d_intj (fun _ _ => rfl)) da_nilj)) da_nilj))))), fun ds S k h => ?_⟩)
  · obtain ⟨_, _, _, rfl, _⟩ := h
    rfl
  · obtain ⟨u, a, b, rfl, w⟩ := h
    refine ⟨a, rfl, ss b * u, rfl, few, ?_⟩
    unfold N at w
    rw [ss_negate, show -ss b * u = -(ss b * u) by grind] at w
    exact w
def bs (u b d : Rat) : Rat := pick b d * pick b d * u
theorem bs_sz {u b d : Rat} (hu : Fd u) (hb : Sz 120000 b) (hd : Sz 120000 d) : Sz 242800 (bs u b d) := ((hb.pick hd).mul (hb.pick hd)).mul hu.sz
theorem sh_sz {b d e : Rat} (hb : Sz 120000 b) (he : Sz 120000 e) : Sz 240400 (b / ab e) := (hb.div' he.ab).mono (by decide)
def F_root_plus : DSp := fun ds S k => ∃ u a b c d : Rat, ds = [N u a b, N u c d] ∧ Fd u ∧ Sm 120000 a b ∧ Sm 120000 c d ∧ k (N u (a + c) (b + d)) S
theorem sc_root_plus : FnScope ["one", "other", "base", "portion"] ["one", "other"] (defScope s_root_plus) := ⟨rfl, rfl, rfl, by decide +kernel, rfl, by decide +kernel, by decide +kernel⟩
theorem ok_root_plus {P : Program} {w : World} {K : Fg} {mg : Str → Option Value} {base : Heap} {f : Addr} {fd : FuncData} (Fn : Fun K "root_plus" "root_plus" s_root_plus f fd) (c_field_base : Own P w K mg base "field_base" 2 F_field_base) (c_plus : Own P w K mg base "plus" 35 F_plus) (c_share : Own P w K mg base "share" 37 F_share) (c_joined : Own P w K mg base "joined" 36 F_joined) :
    FnOk P w K mg base CX0 38 f fd ["one", "other"] (spU K F_root_plus) := by
  refine Fn.okJ sc_root_plus (fun ds S k h => ?_) (fun cdv A outer s H E hr => ⟨_, (ds_consj (dst_setj (i := 2) sc_root_plus.nd (d_callj c_field_base (hr.mono (by decide)) rfl (da_consj (d_varj 0) (da_consj (d_varj 1) da_nilj)))) (ds_consj (dst_setj (i := 3) sc_root_plus.nd (d_callj c_plus (hr.mono (by decide)) rfl (da_consj (d_callj c_share (hr.mono (by decide)) rfl (da_consj (d_varj 0) (da_consj (d_varj 2) da_nilj))) (da_consj (d_callj c_share (hr.mono (by decide)) rfl (da_consj (d_varj 1) (da_consj (d_varj 2) da_nilj))) da_nilj)))) (ds_onej (dst_retj (d_callj c_joined (hr.mono (by decide)) rfl (da_consj (d_callj c_plus (hr.mono (by decide)) rfl (da_consj (d_ixj x_ixE (d_varj 0) d_intj (fun _ _ => rfl)) (da_consj (d_ixj x_ixE (d_varj 1) d_intj (fun _ _ => rfl)) da_nilj))) (da_consj (d_varj 3) (da_consj (d_varj 2) da_nilj)))))))), fun ds S k h => ?_⟩)
  · obtain ⟨_, _, _, _, _, rfl, _⟩ := h
    rfl
  · obtain ⟨u, a, b, c, d, rfl, hu, h1, h2, w⟩ := h
    have hp := h1.b.pick h2.b
    have s1 := sh_sz (d := d) h1.b hp
    have s2 := sh_sz (d := d) h2.b hp
    refine ⟨u, a, b, c, d, rfl, hu.pos, u, a, b, pick b d, rfl, hu.pos, pick_b, ⟨h1.b, hp⟩, hu.sz, u, c, d, pick b d, rfl, hu.pos, pick_d, ⟨h2.b, hp⟩, hu.sz, _, _, rfl, s1.mono (by decide), s2.mono (by decide), ?_⟩
    refine ⟨a, c, rfl, h1.a.mono (by decide), h2.a.mono (by decide), _, _, _, rfl, (s1.add s2).mono (by decide), (bs_sz hu h1.b h2.b).mono (by decide), ?_⟩
    rw [plus_join]
    exact w
def F_root_minus : DSp := fun ds S k => ∃ u a b c d : Rat, ds = [N u a b, N u c d] ∧ Fd u ∧ Sm 120000 a b ∧ Sm 120000 c d ∧ k (N u (a - c) (b - d)) S
theorem sc_root_minus : FnScope ["one", "other"] ["one", "other"] (defScope s_root_minus) := ⟨rfl, rfl, rfl, by decide +kernel, rfl, by decide +kernel, by decide +kernel⟩
theorem ok_root_minus {P : Program} {w : World} {K : Fg} {mg : Str → Option Value} {base : Heap} {f : Addr} {fd : FuncData} (Fn : Fun K "root_minus" "root_minus" s_root_minus f fd) (c_root_plus : Own P w K mg base "root_plus" 38 F_root_plus) (c_root_negative : Own P w K mg base "root_negative" 2 F_root_negative) :
    FnOk P w K mg base CX0 39 f fd ["one", "other"] (spU K F_root_minus) := by
  refine Fn.okJ sc_root_minus (fun ds S k h => ?_) (fun cdv A outer s H E hr => ⟨_, (ds_onej (dst_retj (d_callj c_root_plus (hr.mono (by decide)) rfl (da_consj (d_varj 0) (da_consj (d_callj c_root_negative (hr.mono (by decide)) rfl (da_consj (d_varj 1) da_nilj)) da_nilj))))), fun ds S k h => ?_⟩)
  · obtain ⟨_, _, _, _, _, rfl, _⟩ := h
    rfl
  · obtain ⟨u, a, b, c, d, rfl, hu, h1, h2, w⟩ := h
    refine ⟨u, c, d, rfl, u, a, b, -c, -d, rfl, hu, h1, h2.neg, ?_⟩
    rw [show a - c = a + -c by grind, show b - d = b + -d by grind] at w
    exact w
def F_root_times : DSp := fun ds S k => ∃ u a b c d : Rat, ds = [N u a b, N u c d] ∧ Fd u ∧ Sm 120000 a b ∧ Sm 120000 c d ∧ k (N u (a * c + b * d * u) (a * d + b * c)) S
theorem sc_root_times : FnScope ["one", "other", "base", "mine", "theirs", "part", "portion"] ["one", "other"] (defScope s_root_times) := ⟨rfl, rfl, rfl, by decide +kernel, rfl, by decide +kernel, by decide +kernel⟩
theorem ok_root_times {P : Program} {w : World} {K : Fg} {mg : Str → Option Value} {base : Heap} {f : Addr} {fd : FuncData} (Fn : Fun K "root_times" "root_times" s_root_times f fd) (c_field_base : Own P w K mg base "field_base" 2 F_field_base) (c_share : Own P w K mg base "share" 37 F_share) (c_plus : Own P w K mg base "plus" 35 F_plus) (c_times : Own P w K mg base "times" 35 F_times) (c_joined : Own P w K mg base "joined" 36 F_joined) :
    FnOk P w K mg base CX0 38 f fd ["one", "other"] (spU K F_root_times) := by
  refine Fn.okJ sc_root_times (fun ds S k h => ?_) (fun cdv A outer s H E hr => ⟨_, (ds_consj (dst_setj (i := 2) sc_root_times.nd (d_callj c_field_base (hr.mono (by decide)) rfl (da_consj (d_varj 0) (da_consj (d_varj 1) da_nilj)))) (ds_consj (dst_setj (i := 3) sc_root_times.nd (d_callj c_share (hr.mono (by decide)) rfl (da_consj (d_varj 0) (da_consj (d_varj 2) da_nilj)))) (ds_consj (dst_setj (i := 4) sc_root_times.nd (d_callj c_share (hr.mono (by decide)) rfl (da_consj (d_varj 1) (da_consj (d_varj 2) da_nilj)))) (ds_consj (dst_setj (i := 5) sc_root_times.nd (d_callj c_plus (hr.mono (by decide)) rfl (da_consj (d_callj c_times (hr.mono (by decide)) rfl (da_consj (d_ixj x_ixE (d_varj 0) d_intj (fun _ _ => rfl)) (da_consj (d_ixj x_ixE (d_varj 1) d_intj (fun _ _ => rfl)) da_nilj))) (da_consj (d_callj c_times (hr.mono (by decide)) rfl (da_consj (d_callj c_times (hr.mono (by decide)) rfl (da_consj (d_varj 3) (da_consj (d_varj 4) da_nilj))) (da_consj (d_varj 2) da_nilj))) da_nilj)))) (ds_consj (dst_setj (i := 6) sc_root_times.nd (d_callj c_plus (hr.mono (by decide)) rfl (da_consj (d_callj c_times (hr.mono (by decide)) rfl (da_consj (d_ixj x_ixE (d_varj 0) d_intj (fun _ _ => rfl)) (da_consj (d_varj 4) da_nilj))) (da_consj (d_callj c_times (hr.mono (by decide)) rfl (da_consj (d_ixj x_ixE (d_varj 1) d_intj (fun _ _ => rfl)) (da_consj (d_varj 3) da_nilj))) da_nilj)))) (ds_onej (dst_retj (d_callj c_joined (hr.mono (by decide)) rfl (da_consj (d_varj 5) (da_consj (d_varj 6) (da_consj (d_varj 2) da_nilj))))))))))), fun ds S k h => ?_⟩)
  · obtain ⟨_, _, _, _, _, rfl, _⟩ := h
    rfl
  · obtain ⟨u, a, b, c, d, rfl, hu, h1, h2, w⟩ := h
    have hp := h1.b.pick h2.b
    have s1 := sh_sz (d := d) h1.b hp
    have s2 := sh_sz (d := d) h2.b hp
    have s3 := bs_sz hu h1.b h2.b
    refine ⟨u, a, b, c, d, rfl, hu.pos, u, a, b, pick b d, rfl, hu.pos, pick_b, ⟨h1.b, hp⟩, hu.sz, u, c, d, pick b d, rfl, hu.pos, pick_d, ⟨h2.b, hp⟩, hu.sz, ?_⟩
    refine ⟨a, c, rfl, h1.a.mono (by decide), h2.a.mono (by decide), _, _, rfl, s1.mono (by decide), s2.mono (by decide), _, _, rfl, (s1.mul s2).mono (by decide), s3.mono (by decide), _, _, rfl, (h1.a.mul h2.a).mono (by decide), ((s1.mul s2).mul s3).mono (by decide), ?_⟩
    refine ⟨a, _, rfl, h1.a.mono (by decide), s2.mono (by decide), c, _, rfl, h2.a.mono (by decide), s1.mono (by decide), _, _, rfl, (h1.a.mul s2).mono (by decide), (h2.a.mul s1).mono (by decide), ?_⟩
    refine ⟨_, _, _, rfl, ((h1.a.mul s2).add (h2.a.mul s1)).mono (by decide), s3.mono (by decide), ?_⟩
    rw [times_join, times_part]
    exact w
end My
namespace My
open PySem PySem.Spec PyProof.Rows L2 DL HM
set_option maxHeartbeats 4000000
end My
namespace My
open PySem PySem.Spec PyProof.Rows L2 DL HM
set_option maxHeartbeats 4000000
def Ext (S S' : DH) : Prop := ∀ b o, S b = some o → S' b = some o
theorem Ext.trans {S S1 S2 : DH} (a : Ext S S1) (b : Ext S1 S2) : Ext S S2 := fun c o h => b c o (a c o h)
theorem Ext.new {S : DH} {p : Addr} {o : DO} (h : S p = none) : Ext S (put S p o) := fun b u e => by
  unfold put
  split
  · rename_i z; subst z; rw [h] at e; cases e
  · exact e
theorem Ext.put {S S1 : DH} {p : Addr} {o : DO} (e : Ext S S1) (h : S p = none) : Ext S (put S1 p o) := fun b u z => by
  unfold DL.put
  split
  · rename_i y; subst y; rw [h] at z; cases z
  · exact e b u z
theorem Ext.none {S S1 : DH} {p : Addr} (e : Ext S S1) (h : S1 p = none) : S p = none := by
  cases q : S p with
  | none => rfl
  | some o => rw [e p o q] at h; cases h
theorem plain_as {u r : Rat} : D.tup [fr r, fr 0] = N u r 0 := by
  unfold N
  rw [show ss 0 * u = 0 by unfold ss; grind]
abbrev Q := Rat × Rat
def qa (x y : Q) : Q := (x.1 + y.1, x.2 + y.2)
def qs (x y : Q) : Q := (x.1 - y.1, x.2 - y.2)
def qm (u : Rat) (x y : Q) : Q := (x.1 * y.1 + x.2 * y.2 * u, x.1 * y.2 + x.2 * y.1)
abbrev Sq (n : Nat) (x : Q) : Prop := Sm n x.1 x.2
theorem sqs {m n : Nat} {x y : Q} (h : Sq m x) (h' : Sq n y) : Sq (m + n + 1) (qs x y) := h.sub h'
theorem sqm {m n : Nat} {x y : Q} {u : Rat} (hu : Fd u) (h : Sq m x) (h' : Sq n y) : Sq (2 * (m + n) + 2810) (qm u x y) := h.mul hu h'
def Pq (u : Rat) (x y : Q) : D := .tup [N u x.1 x.2, N u y.1 y.2]
def qo (p : Rat) : Q := (p, 0)
def squareQ (u : Rat) (x y : Q) : Q := qa (qm u x x) (qm u y y)
def likeX (u : Rat) (x y z w p q : Q) : Q := qa x (qs (qm u p (qs z x)) (qm u q (qs w y)))
def likeY (u : Rat) (x y z w p q : Q) : Q := qa y (qa (qm u p (qs w y)) (qm u q (qs z x)))
def sideQ (u : Rat) (x y z w a b : Q) : Q := qs (qm u (qs z x) (qs b y)) (qm u (qs w y) (qs a x))
def F_way_between : DSp := fun ds S k => ∃ (u : Rat) (x y z v : Q), ds = [Pq u x y, Pq u z v] ∧ Fd u ∧ Sq 120000 x ∧ Sq 120000 y ∧ Sq 120000 z ∧ Sq 120000 v ∧ k (Pq u (qs z x) (qs v y)) S
theorem sc_way_between : FnScope ["one", "other"] ["one", "other"] (defScope s_way_between) := ⟨rfl, rfl, rfl, by decide +kernel, rfl, by decide +kernel, by decide +kernel⟩
theorem ok_way_between {P : Program} {w : World} {K : Fg} {mg : Str → Option Value} {base : Heap} {f : Addr} {fd : FuncData} (Fn : Fun K "way_between" "way_between" s_way_between f fd) (c_root_minus : Own P w K mg base "root_minus" 39 F_root_minus) :
    FnOk P w K mg base CX0 40 f fd ["one", "other"] (spU K F_way_between) := by
  refine Fn.okJ sc_way_between (fun ds S k h => ?_) (fun cdv A outer s H E hr => ⟨_, (ds_onej (dst_retj (d_tupj (da_consj (d_callj c_root_minus (hr.mono (by decide)) rfl (da_consj (d_ixj x_ixE (d_varj 1) d_intj (fun _ _ => rfl)) (da_consj (d_ixj x_ixE (d_varj 0) d_intj (fun _ _ => rfl)) da_nilj))) (da_consj (d_callj c_root_minus (hr.mono (by decide)) rfl (da_consj (d_ixj x_ixE (d_varj 1) d_intj (fun _ _ => rfl)) (da_consj (d_ixj x_ixE (d_varj 0) d_intj (fun _ _ => rfl)) da_nilj))) da_nilj))))), fun ds S k h => ?_⟩)
  · obtain ⟨_, _, _, _, _, rfl, _⟩ := h
    rfl
  · obtain ⟨u, x, y, z, v, rfl, hu, hx, hy, hz, hv, w⟩ := h
    exact ⟨u, _, _, _, _, rfl, hu, hz, hx, u, _, _, _, _, rfl, hu, hv, hy, few, w⟩
def F_square_of_way : DSp := fun ds S k => ∃ (u : Rat) (x y : Q), ds = [Pq u x y] ∧ Fd u ∧ Sq 29200 x ∧ Sq 29200 y ∧ k (N u (squareQ u x y).1 (squareQ u x y).2) S
theorem sc_square_of_way : FnScope ["way"] ["way"] (defScope s_square_of_way) := ⟨rfl, rfl, rfl, by decide +kernel, rfl, by decide +kernel, by decide +kernel⟩
theorem ok_square_of_way {P : Program} {w : World} {K : Fg} {mg : Str → Option Value} {base : Heap} {f : Addr} {fd : FuncData} (Fn : Fun K "square_of_way" "square_of_way" s_square_of_way f fd) (c_root_plus : Own P w K mg base "root_plus" 38 F_root_plus) (c_root_times : Own P w K mg base "root_times" 38 F_root_times) :
    FnOk P w K mg base CX0 39 f fd ["way"] (spU K F_square_of_way) := by
  refine Fn.okJ sc_square_of_way (fun ds S k h => ?_) (fun cdv A outer s H E hr => ⟨_, (ds_onej (dst_retj (d_callj c_root_plus (hr.mono (by decide)) rfl (da_consj (d_callj c_root_times (hr.mono (by decide)) rfl (da_consj (d_ixj x_ixE (d_varj 0) d_intj (fun _ _ => rfl)) (da_consj (d_ixj x_ixE (d_varj 0) d_intj (fun _ _ => rfl)) da_nilj))) (da_consj (d_callj c_root_times (hr.mono (by decide)) rfl (da_consj (d_ixj x_ixE (d_varj 0) d_intj (fun _ _ => rfl)) (da_consj (d_ixj x_ixE (d_varj 0) d_intj (fun _ _ => rfl)) da_nilj))) da_nilj))))), fun ds S k h => ?_⟩)
  · obtain ⟨_, _, _, rfl, _⟩ := h
    rfl
  · obtain ⟨u, x, y, rfl, hu, hx, hy, w⟩ := h
    have hx' : Sq 120000 x := hx.mono (by decide)
    have hy' : Sq 120000 y := hy.mono (by decide)
    exact ⟨u, _, _, _, _, rfl, hu, hx', hx', u, _, _, _, _, rfl, hu, hy', hy', u, _, _, _, _, rfl, hu, (sqm hu hx hx).mono (by decide), (sqm hu hy hy).mono (by decide), w⟩
def W (x y : Rat) : D := .tup [fr x, fr y]
def PP (x y : Rat) : D := .tup [.tup [fr x, fr 0], .tup [fr y, fr 0]]
noncomputable def MP (x y a b s : Rat) : D := .tup [mkD x (ss a * s), mkD y (ss b * s)]
noncomputable def bothL (x y a b s : Rat) : List D := if s < 0 then [] else if s = 0 then [PP x y] else [MP x y a b s, MP x y (-a) (-b) s]
def F_plain_point : DSp := fun ds S k => ∃ x y : Rat, ds = [W x y] ∧ k (PP x y) S
theorem sc_plain_point : FnScope ["place"] ["place"] (defScope s_plain_point) := ⟨rfl, rfl, rfl, by decide +kernel, rfl, by decide +kernel, by decide +kernel⟩
theorem ok_plain_point {P : Program} {w : World} {K : Fg} {mg : Str → Option Value} {base : Heap} {f : Addr} {fd : FuncData} (Fn : Fun K "plain_point" "plain_point" s_plain_point f fd) (g_NOUGHT : GTup K mg "NOUGHT" [0, 1]) :
    FnOk P w K mg base CX0 1 f fd ["place"] (spU K F_plain_point) := by
  refine Fn.okJ sc_plain_point (fun ds S k h => ?_) (fun cdv A outer s H E hr => ⟨_, (ds_onej (dst_retj (d_tupj (da_consj (d_tupj (da_consj (d_ixj x_ixE (d_varj 0) d_intj (fun _ _ => rfl)) (da_consj (d_gtup g_NOUGHT rfl) da_nilj))) (da_consj (d_tupj (da_consj (d_ixj x_ixE (d_varj 0) d_intj (fun _ _ => rfl)) (da_consj (d_gtup g_NOUGHT rfl) da_nilj))) da_nilj))))), fun ds S k h => ?_⟩)
  · obtain ⟨_, _, rfl, _⟩ := h
    rfl
  · obtain ⟨x, y, rfl, w⟩ := h
    exact ⟨few, few, few, w⟩
end My
namespace My
open PySem PySem.Spec PyProof.Rows L2 DL HM
set_option maxHeartbeats 4000000
abbrev Gn := Rat × Rat
abbrev gD (n : Gn) : D := .tup [fr n.1, fr n.2]
abbrev gP (p : Gn × Gn) : D := .tup [gD p.1, gD p.2]
def IsSq (q : Rat) : Prop := ∃ r, r * r = q
def OneF (m n : Gn) : Prop := m.2 = 0 ∨ n.2 = 0 ∨ IsSq (ab m.2 / ab n.2)
noncomputable def ofB (m n : Gn) : Bool := @decide (OneF m n) (Classical.propDecidable _)
theorem ofB_t {m n : Gn} (h : OneF m n) : ofB m n = true := @decide_eq_true _ (Classical.propDecidable _) h
theorem ofB_f {m n : Gn} (h : ¬ OneF m n) : ofB m n = false := @decide_eq_false _ (Classical.propDecidable _) h
theorem ofB_o {m n : Gn} (h : ofB m n = true) : OneF m n := by
  apply Classical.byContradiction
  intro z
  rw [ofB_f z] at h
  cases h
def F_one_field : DSp := fun ds S k => ∃ m n : Gn, ds = [gD m, gD n] ∧ Sz 100000 m.2 ∧ Sz 100000 n.2 ∧ k (.bl (ofB m n)) S
theorem sc_one_field : FnScope ["one", "other"] ["one", "other"] (defScope s_one_field) := ⟨rfl, rfl, rfl, by decide +kernel, rfl, by decide +kernel, by decide +kernel⟩
theorem ok_one_field {P : Program} {w : World} {K : Fg} {mg : Str → Option Value} {base : Heap} {f : Addr} {fd : FuncData} (Fn : Fun K "one_field" "one_field" s_one_field f fd) (c_is_plain : Own P w K mg base "is_plain" 1 F_is_plain) (c_root_in : Own P w K mg base "root_in" 36 F_root_in) (c_over : Own P w K mg base "over" 35 F_over) (c_without_sign : Own P w K mg base "without_sign" 1 F_without_sign) :
    FnOk P w K mg base CX0 37 f fd ["one", "other"] (spU K F_one_field) := by
  refine Fn.okJ sc_one_field (fun ds S k h => ?_) (fun cdv A outer s H E hr => ⟨_, (ds_consj (dst_ifj (WJ.pt (dw_orj (dt_valj (d_callj c_is_plain (hr.mono (by decide)) rfl (da_consj (d_varj 0) da_nilj))) (dw_or1j (dt_valj (d_callj c_is_plain (hr.mono (by decide)) rfl (da_consj (d_varj 1) da_nilj)))))) (ds_onej (dst_retj d_blj)) ds_nilj) (ds_onej (dst_retj (d_cmpj o_isNot (d_callj c_root_in (hr.mono (by decide)) rfl (da_consj (d_callj c_over (hr.mono (by decide)) rfl (da_consj (d_callj c_without_sign (hr.mono (by decide)) rfl (da_consj (d_ixj x_ixE (d_varj 0) d_intj (fun _ _ => rfl)) da_nilj)) (da_consj (d_callj c_without_sign (hr.mono (by decide)) rfl (da_consj (d_ixj x_ixE (d_varj 1) d_intj (fun _ _ => rfl)) da_nilj)) da_nilj))) da_nilj)) d_nonj (nomark _))))), fun ds S k h => ?_⟩)
  · obtain ⟨_, _, rfl, _⟩ := h
    rfl
  · obtain ⟨m, n, rfl, hm, hn, w⟩ := h
    have yes : (m.2 = 0 ∨ n.2 = 0 ∨ IsSq (ab m.2 / ab n.2)) → k (.bl true) S := fun c => by
      rw [show ofB m n = true from ofB_t c] at w
      exact w
    refine ⟨fr m.1, m.2, rfl, ite_dec (fun e => yes (.inl e)) (fun e => ⟨fr n.1, n.2, rfl, ite_dec (fun e2 => yes (.inr (.inl e2))) (fun e2 => ?_)⟩)⟩
    have ne : ab n.2 ≠ 0 := ab_ne e2
    refine ⟨_, rfl, _, rfl, _, _, rfl, ne, hm.ab.mono (by decide), hn.ab.mono (by decide), _, rfl, div_nn (ab_nn _) (ab_nn _), (hm.ab.div hn.ab ne).mono (by decide), fun r r0 rr => yes (.inr (.inr ⟨r, rr⟩)), fun no => ?_⟩
    rw [show ofB m n = false from ofB_f (by rintro (z | z | ⟨r, z⟩); exact e z; exact e2 z; exact no r z)] at w
    exact w
def rts (ps : List (Gn × Gn)) : List Gn := ps.flatMap fun p => [p.1, p.2].filter fun n => !decide (n.2 = 0)
def One (ps : List (Gn × Gn)) : Prop := ∀ n ∈ (rts ps).tail, ofB ((rts ps).headD (0, 0)) n = true
theorem rts_len : ∀ ps : List (Gn × Gn), (rts ps).length ≤ 2 * ps.length
  | [] => Nat.le_refl _
  | p :: ps => by
    have ih := rts_len ps
    unfold rts at ih ⊢
    rw [List.flatMap_cons, List.length_append, List.length_cons]
    have : ([p.1, p.2].filter fun n => !decide (n.2 = 0)).length ≤ 2 := List.length_filter_le _ _
    omega
theorem rts_mem {ps : List (Gn × Gn)} {n : Gn} (h : n ∈ rts ps) : n.2 ≠ 0 ∧ ∃ p ∈ ps, n = p.1 ∨ n = p.2 := by
  obtain ⟨p, hp, hn⟩ := List.mem_flatMap.mp h
  obtain ⟨h1, h2⟩ := List.mem_filter.mp hn
  refine ⟨by simpa using h2, p, hp, by simpa using h1⟩
theorem rts_app {ps qs : List (Gn × Gn)} : rts (ps ++ qs) = rts ps ++ rts qs := by unfold rts; rw [List.flatMap_append]
theorem rts_tt {p : Gn × Gn} (h1 : ¬ p.1.2 = 0) (h2 : ¬ p.2.2 = 0) : rts [p] = [p.1, p.2] := by simp [rts, h1, h2]
theorem rts_tf {p : Gn × Gn} (h1 : ¬ p.1.2 = 0) (h2 : p.2.2 = 0) : rts [p] = [p.1] := by simp [rts, h1, h2]
theorem rts_ft {p : Gn × Gn} (h1 : p.1.2 = 0) (h2 : ¬ p.2.2 = 0) : rts [p] = [p.2] := by simp [rts, h1, h2]
theorem rts_ff {p : Gn × Gn} (h1 : p.1.2 = 0) (h2 : p.2.2 = 0) : rts [p] = [] := by simp [rts, h1, h2]
theorem bigG' (n : Nat) (h : n < 300) : n < sizeLine := Nat.lt_of_lt_of_le h (Nat.le_of_ble_eq_true (rfl : Nat.ble 300 sizeLine = true))
theorem cut1G {x : D} {t : List D} : DL.cutD (x :: t) (some 1) none = t := by
  unfold DL.cutD
  have h1 : HT.sIx (x :: t).length 0 (some 1) = 1 := by unfold HT.sIx; simp
  have h2 : HT.sIx (x :: t).length (x :: t).length none = (x :: t).length := rfl
  rw [h1, h2]
  simp
theorem bigG {n : Nat} (h : n ≤ 300) : n ≤ sizeLine := Nat.le_trans h (Nat.le_of_ble_eq_true (rfl : Nat.ble 300 sizeLine = true))
def F_ask_one_field : DSp := fun ds S k => match ds with
  | [.non] => False ∧ k .non S
  | _ => False
theorem sc_ask_one_field : FnScope ["points", "rooted", "point", "number"] ["points"] (defScope s_ask_one_field) := ⟨rfl, rfl, rfl, by decide +kernel, rfl, by decide +kernel, by decide +kernel⟩
theorem ok_ask_one_field {P : Program} {w : World} {K : Fg} {mg : Str → Option Value} {base : Heap} {f : Addr} {fd : FuncData} (Fn : Fun K "ask_one_field" "ask_one_field" s_ask_one_field f fd) (c_is_plain : Own P w K mg base "is_plain" 1 F_is_plain) (c_one_field : Own P w K mg base "one_field" 37 F_one_field) :
    FnOk P w K mg base CX0 38 f fd ["points"] (spU K F_ask_one_field) := by
  refine Fn.okJ sc_ask_one_field (fun ds S k h => ?_) (fun cdv A outer s H E hr => ⟨_, (ds_consj (dst_setj (i := 1) sc_ask_one_field.nd (d_lstj da_nilj)) (ds_consj (dst_forEj PassesOwn.never rfl (d_varj 0) (dg_namej (i := 2) sc_ask_one_field.nd) (ds_onej (dst_exprj (d_extj (d_varj 1) (d_compEIfj rfl (compSc (N := ["number"]) (cap := [none]) rfl rfl rfl rfl trivial rfl rfl trivial) (d_varj 2) (fun _ _ _ _ => (dg_namej (i := 0) (show List.Nodup (["number"] : List Str) from by decide +kernel))) (fun _ _ _ _ => (dt_notj (dt_valj (d_callj c_is_plain (hr.mono (by decide)) rfl (da_consj (d_varj 0) da_nilj))))) (fun _ _ _ _ => (d_varj 0))))))) (ds_onej (dst_forEj PassesOwn.never rfl (d_cutEj (d_varj 1) (do_somej d_intj) do_nonej) (dg_namej (i := 3) sc_ask_one_field.nd) (ds_onej (dst_ifj (dt_notj (dt_valj (d_callj c_one_field (hr.mono (by decide)) rfl (da_consj (d_ixj x_ixE (d_varj 1) d_intj (fun _ _ => rfl)) (da_consj (d_varj 3) da_nilj))))) (ds_onej dst_neverj) ds_nilj)))))), fun ds S k h => ?_⟩)
  · unfold F_ask_one_field at h
    split at h
    · rfl
    · exact h.elim
  · unfold F_ask_one_field at h
    split at h
    · exact h.1.elim
    · exact h.elim
def FX_ask_one_field (cNoField : Addr) : DSpX := fun ds S k x => ∃ ps : List (Gn × Gn), ds = [.tup (ps.map gP)] ∧ (∀ p ∈ ps, Sz 100000 p.1.2 ∧ Sz 100000 p.2.2) ∧ ps.length ≤ 90 ∧ (One ps → ∀ S', Ext S S' → k .non S') ∧ (¬ One ps → ∀ S', Ext S S' → x cNoField S')
theorem okx_ask_one_field {P : Program} {w : World} {K : Fg} {mg : Str → Option Value} {base : Heap} {f : Addr} {fd : FuncData} {cNoField : Addr} (Fn : Fun K "ask_one_field" "ask_one_field" s_ask_one_field f fd) (c_one_field : Own P w K mg base "one_field" 37 F_one_field) (c_is_plain : Own P w K mg base "is_plain" 1 F_is_plain) (m_NoField : mg "NoField" = some (.ref cNoField)) (q_NoField : PySem.W.excIn K cNoField [.type "ValueError", .type "Exception", .type "BaseException", .type "object"] "ValueError.__new__" = true) :
    FnOk P w K mg base (CXE P w) 38 f fd ["points"] (spX K (FX_ask_one_field cNoField)) := by
  refine Fn.okX sc_ask_one_field (fun ds S k x h => ?_) (fun cdv A outer s H E ex hr hE => ⟨_, (ds_consj (dst_setj (i := 1) sc_ask_one_field.nd (d_lstj da_nilj)) (ds_consj (dst_forEj PassesOwn.leaving rfl (d_varj 0) (dg_namej (i := 2) sc_ask_one_field.nd) (ds_onej (dst_exprj (d_extj (d_varj 1) (d_compEIfj rfl (compSc (N := ["number"]) (cap := [none]) rfl rfl rfl rfl trivial rfl rfl trivial) (d_varj 2) (fun _ _ _ _ => (dg_namej (i := 0) (show List.Nodup (["number"] : List Str) from by decide +kernel))) (fun _ _ _ _ => (dt_notj (dt_valj (d_callj c_is_plain (hr.mono (by decide)) rfl (da_consj (d_varj 0) da_nilj))))) (fun _ _ _ _ => (d_varj 0))))))) (ds_onej (dst_forEj PassesOwn.leaving rfl (d_cutEj (d_varj 1) (do_somej d_intj) do_nonej) (dg_namej (i := 3) sc_ask_one_field.nd) (ds_onej (dst_ifj (dt_notj (dt_valj (d_callj c_one_field (hr.mono (by decide)) rfl (da_consj (d_ixj x_ixE (d_varj 1) d_intj (fun _ _ => rfl)) (da_consj (d_varj 3) da_nilj))))) (ds_onej (dst_raisej hE PySem.F.excBase_ValueError q_NoField m_NoField rfl)) ds_nilj)))))), fun ds S k h => ?_⟩)
  · obtain ⟨_, rfl, _⟩ := h
    rfl
  · obtain ⟨ps, rfl, hp, hl, w1, w0⟩ := h
    refine ⟨few, fun q hq => ?_⟩
    refine ⟨(ps.map gP, none), rfl, ?_⟩
    refine loop_ix (fun r' L S1 => ∃ ps1 ps2 l2 l3, L = [some (.tup (ps.map gP)), some (.ref q), l2, l3] ∧ Ext S S1 ∧ S1 q = some (.lst ((rts ps1).map gD)) ∧ ps = ps1 ++ ps2 ∧ r' = ps2.map gP) (fun _ _ _ _ => trivial) ?_ ?_ _ _ _ ⟨[], ps, none, none, rfl, Ext.new hq, put_same, rfl, rfl⟩
    · rintro d r L S1 Nx ⟨ps1, ps2, l2, l3, rfl, e, hS1, eps, er⟩ hN
      cases ps2 with
      | nil => cases er
      | cons p ps2 =>
        cases er
        have nxt : ∀ (es : List D) (S2 : DH) (l2' : Option D), es = (rts [p]).map gD → Ext S S2 → S2 q = some (.lst ((rts ps1).map gD ++ es)) → Nx [some (.tup (ps.map gP)), some (.ref q), l2', l3] S2 := fun es S2 l2' he e2 h2 => hN _ _ ⟨ps1 ++ [p], ps2, l2', l3, rfl, e2, by rw [h2, rts_app, List.map_append, he], by rw [eps, List.append_assoc]; rfl, rfl⟩
        refine ⟨⟨_, hS1⟩, ([gD p.1, gD p.2], none), rfl, fun p1 hp2 => ?_⟩
        have qp : q ≠ p1 := fun z => by subst z; rw [hS1] at hp2; cases hp2
        have sp : S p1 = none := e.none hp2
        have hlen : (rts ps1).length ≤ 180 := by
          have h1 := rts_len ps1
          have h2 : ps.length = ps1.length + (p :: ps2).length := by rw [eps, List.length_append]
          omega
        have fin : ∀ (es : List D) (S2 : DH), Ext S S2 → S2 q = some (.lst ((rts ps1).map gD)) → S2 p1 = some (.lst es) → es.length ≤ 2 → es = (rts [p]).map gD → ∃ ds es', S2 q = some (.lst ds) ∧ S2 p1 = some (.lst es') ∧ ds.length + es'.length ≤ sizeLine ∧ Nx [some (.tup (ps.map gP)), some (.ref q), some (gP p), l3] (put S2 q (.lst (ds ++ es'))) := fun es S2 e2 h1 h2 h3 h4 =>
          ⟨_, es, h1, h2, bigG (by rw [List.length_map]; omega), nxt es _ _ h4 (e2.put hq) put_same⟩
        have e0 : Ext S (put S1 p1 (.lst [])) := e.put sp
        have q0 : put S1 p1 (.lst []) q = some (.lst ((rts ps1).map gD)) := by rw [put_ne qp]; exact hS1
        refine ⟨trivial, _, _, rfl, ite_ndec (fun h1 => ⟨put_same, bigG' 0 (by decide), trivial, _, _, rfl, ite_ndec (fun h2 => ⟨put_same, bigG' 1 (by decide), trivial, ?_⟩) (fun h2 => ⟨trivial, ?_⟩)⟩) (fun h1 => ⟨trivial, _, _, rfl, ite_ndec (fun h2 => ⟨put_same, bigG' 0 (by decide), trivial, ?_⟩) (fun h2 => ⟨trivial, ?_⟩)⟩)⟩
        · exact fin [gD p.1, gD p.2] _ ((e0.put sp).put sp) (by rw [put_ne qp, put_ne qp]; exact q0) put_same (by show 2 ≤ 2; decide) (by rw [rts_tt h1 h2]; rfl)
        · exact fin [gD p.1] _ (e0.put sp) (by rw [put_ne qp]; exact q0) put_same (by show 1 ≤ 2; decide) (by rw [rts_tf h1 h2]; rfl)
        · exact fin [gD p.2] _ (e0.put sp) (by rw [put_ne qp]; exact q0) put_same (by show 1 ≤ 2; decide) (by rw [rts_ft h1 h2]; rfl)
        · exact fin [] _ e0 q0 put_same (by show 0 ≤ 2; decide) (by rw [rts_ff h1 h2]; rfl)
    · rintro L S1 ⟨ps1, ps2, l2, l3, rfl, e, hS1, eps, er⟩
      cases ps2 with
      | cons _ _ => cases er
      | nil =>
        rw [List.append_nil] at eps
        subst eps
        refine ⟨_, hS1, fun p2 hp2 => ⟨(DL.cutD ((rts ps).map gD) (some 1) none, some p2), by simp only [dItems, put_same], ?_⟩⟩
        have qp : q ≠ p2 := fun z => by subst z; rw [hS1] at hp2; cases hp2
        have ecut : DL.cutD ((rts ps).map gD) (some 1) none = (rts ps).tail.map gD := by
          cases rts ps with
          | nil => rfl
          | cons x t => exact cut1G
        refine loop_ix (fun r L S2 => ∃ t' l2 l3, L = [some (.tup (ps.map gP)), some (.ref q), l2, l3] ∧ Ext S S2 ∧ S2 q = some (.lst ((rts ps).map gD)) ∧ S2 p2 = some (.lst (DL.cutD ((rts ps).map gD) (some 1) none)) ∧ r = t'.map gD ∧ (∀ n ∈ t', n ∈ rts ps) ∧ (One ps ↔ ∀ n ∈ t', ofB ((rts ps).headD (0, 0)) n = true)) (fun r L S2 ⟨_, _, _, _, _, _, z, _⟩ => z) ?_ ?_ _ _ _ ⟨(rts ps).tail, l2, l3, rfl, e.put (e.none hp2), (put_ne qp).trans hS1, put_same, ecut, fun n hn => List.mem_of_mem_tail hn, Iff.rfl⟩
        · rintro d r L S2 Nx ⟨t', l2, l3, rfl, e2, h1, h2, er, hm, hO⟩ hN
          cases t' with
          | nil => cases er
          | cons n t' =>
            cases er
            obtain ⟨x0, t, ex⟩ : ∃ x0 t, rts ps = x0 :: t := by
              cases h : rts ps with
              | nil => have := hm n List.mem_cons_self; rw [h] at this; cases this
              | cons x0 t => exact ⟨x0, t, rfl⟩
            have sz : ∀ n ∈ rts ps, Sz 100000 n.2 := fun n hn => by
              obtain ⟨_, p, hp2, hh⟩ := rts_mem hn
              rcases hh with rfl | rfl
              · exact (hp p hp2).1
              · exact (hp p hp2).2
            have eh : (rts ps).headD (0, 0) = x0 := by rw [ex]; rfl
            have h1' := h1
            rw [ex] at h1'
            rw [eh] at hO
            refine ⟨_, _, h1', atI0, x0, n, rfl, sz x0 (by rw [ex]; exact List.mem_cons_self), sz n (hm n List.mem_cons_self), ite_nb (fun z => w0 (fun o => ?_) S2 e2) (fun z => hN _ _ ⟨t', _, _, rfl, e2, h1, h2, rfl, fun y hy => hm y (List.mem_cons_of_mem _ hy), ?_⟩)⟩
            · rw [hO.mp o n List.mem_cons_self] at z
              cases z
            · rw [eh]
              exact ⟨fun o y hy => hO.mp o y (List.mem_cons_of_mem _ hy), fun o => hO.mpr fun y hy => by
                rcases List.mem_cons.mp hy with rfl | hy
                · exact z
                · exact o y hy⟩
        · rintro L S2 ⟨t', l2, l3, rfl, e2, h1, h2, er, hm, hO⟩
          cases t' with
          | cons _ _ => cases er
          | nil => exact w1 (hO.mpr fun _ h => by cases h) S2 e2
end My
namespace My
open PySem PySem.Spec PyProof.Rows L2 DL HM
set_option maxHeartbeats 4000000
def F__law_cell_at : DSp := fun ds S k => ∃ (ns : List Int) (i : Int), ds = [.rl (List.map D.int ns), .int i] ∧ 0 ≤ i ∧ ∀ c : Int, k (.int c) S
theorem sc__law_cell_at : FnScope ["script", "k"] ["script", "k"] (defScope s__law_cell_at) := ⟨rfl, rfl, rfl, by decide +kernel, rfl, by decide +kernel, by decide +kernel⟩
theorem ok__law_cell_at {P : Program} {w : World} {K : Fg} {mg : Str → Option Value} {base : Heap} {f : Addr} {fd : FuncData} (Fn : Fun K "_law_cell_at" "_law_cell_at" s__law_cell_at f fd) (z_len : mg "len" = none) :
    FnOk P w K mg base CX0 1 f fd ["script", "k"] (spU K F__law_cell_at) := by
  refine Fn.okJ sc__law_cell_at (fun ds S k h => ?_) (fun cdv A outer s H E hr => ⟨_, (ds_consj (dst_ifj (dt_cmpj o_lt (d_varj 1) (d_callBj b_lenE rfl z_len bt_len (da_consj (d_varj 0) da_nilj)) (nomark _)) (ds_onej (dst_retj (d_ixj x_ixE (d_varj 0) (d_varj 1) (fun _ _ => rfl)))) ds_nilj) (ds_onej (dst_retj d_intj))), fun ds S k h => ?_⟩)
  · obtain ⟨_, _, rfl, _⟩ := h
    rfl
  · obtain ⟨ns, i, rfl, h0, q⟩ := h
    refine ite_dec (fun hl => ?_) (fun _ => q 0)
    obtain ⟨n, rfl⟩ := Int.eq_ofNat_of_zero_le h0
    have hn : n < ns.length := by rw [List.length_map] at hl; omega
    have e : L2.atI (List.map D.int ns) (n : Int) = some (.int ns[n]) := atI_nat (by rw [List.getElem?_map, List.getElem?_eq_getElem hn] <;> rfl)
    exact ⟨_, e, q _⟩
def F__law_state : DSp := fun ds S k => ∃ ns i, ds = [.rl (List.map D.int ns), .int i] ∧ 0 ≤ i ∧ ∀ (p : Addr) (n : Int) (b : Bool), S p = none → (b = false → 0 ≤ n ∧ n < 2147483647) → k (.ref p) (put S p (.lst [.int n, .bl b]))
theorem sc__law_state : FnScope ["script", "k", "cell"] ["script", "k"] (defScope s__law_state) := ⟨rfl, rfl, rfl, by decide +kernel, rfl, by decide +kernel, by decide +kernel⟩
theorem ok__law_state {P : Program} {w : World} {K : Fg} {mg : Str → Option Value} {base : Heap} {f : Addr} {fd : FuncData} (Fn : Fun K "_law_state" "_law_state" s__law_state f fd) (c__law_cell_at : Own P w K mg base "_law_cell_at" 1 F__law_cell_at) :
    FnOk P w K mg base CX0 2 f fd ["script", "k"] (spU K F__law_state) := by
  refine Fn.okJ sc__law_state (fun ds S k h => ?_) (fun cdv A outer s H E hr => ⟨_, (ds_consj (dst_setj (i := 2) sc__law_state.nd (d_callj c__law_cell_at (hr.mono (by decide)) rfl (da_consj (d_varj 0) (da_consj (d_varj 1) da_nilj)))) (ds_consj (dst_ifj (dt_cmpj o_ge (d_varj 2) (d_opj o_pow d_intj d_intj) (nomark _)) (ds_onej (dst_retj (d_lstj (da_consj (d_opj o_sub (d_varj 2) (d_opj o_pow d_intj d_intj)) (da_consj d_blj da_nilj))))) ds_nilj) (ds_onej (dst_retj (d_lstj (da_consj (d_opj o_mod (d_varj 2) d_intj) (da_consj d_blj da_nilj))))))), fun ds S k h => ?_⟩)
  · obtain ⟨_, _, rfl, _⟩ := h
    rfl
  · obtain ⟨ns, i, rfl, h0, q⟩ := h
    have hp : CPow 10 18 := ⟨by decide, by decide, by decide⟩
    refine ⟨ns, i, rfl, h0, fun c => ⟨hp, ite_dec (fun hl => ⟨hp, few, fun p hn => ?_⟩) (fun hl => ⟨(by show (2147483647 : Int) ≠ 0; decide), few, fun p hn => ?_⟩)⟩⟩
    · exact q p _ _ hn (fun z => by cases z)
    · exact q p _ _ hn (fun _ => ⟨Int.fmod_nonneg_of_pos _ (by decide), Int.fmod_lt_of_pos _ (by decide)⟩)
def F__law_take : DSp := fun ds S k => ∃ a m, ds = [.ref a, .int m] ∧ 0 < m ∧ Bt 200 m ∧ SOK S a ∧ ∀ r S', 0 ≤ r → r < m → Dr a S S' → k (.int r) S'
theorem sc__law_take : FnScope ["state", "many", "mixed", "found"] ["state", "many"] (defScope s__law_take) := ⟨rfl, rfl, rfl, by decide +kernel, rfl, by decide +kernel, by decide +kernel⟩
theorem ok__law_take {P : Program} {w : World} {K : Fg} {mg : Str → Option Value} {base : Heap} {f : Addr} {fd : FuncData} (Fn : Fun K "_law_take" "_law_take" s__law_take f fd)  :
    FnOk P w K mg base CX0 1 f fd ["state", "many"] (spU K F__law_take) := by
  refine Fn.okJ sc__law_take (fun ds S k h => ?_) (fun cdv A outer s H E hr => ⟨_, (ds_consj (dst_ifj (dt_valj (d_ixj x_ixE (d_varj 0) d_intj (fun _ _ => rfl))) (ds_consj (dst_setj (i := 3) sc__law_take.nd (d_opj o_mod (d_ixj x_ixE (d_varj 0) d_intj (fun _ _ => rfl)) (d_varj 1))) (ds_consj (dst_asgj (d_opj o_div (d_ixj x_ixE (d_varj 0) d_intj (fun _ _ => rfl)) (d_varj 1)) (dg_subE (d_varj 0) d_intj)) (ds_onej (dst_retj (d_varj 3))))) ds_nilj) (ds_consj (dst_asgj (d_opj o_mod (d_opj o_add (d_opj o_mul (d_ixj x_ixE (d_varj 0) d_intj (fun _ _ => rfl)) d_intj) d_intj) d_intj) (dg_subE (d_varj 0) d_intj)) (ds_consj (dst_setj (i := 2) sc__law_take.nd (d_opj o_mod (d_opj o_add (d_opj o_add (d_opj o_mul (d_ixj x_ixE (d_varj 0) d_intj (fun _ _ => rfl)) (d_ixj x_ixE (d_varj 0) d_intj (fun _ _ => rfl))) (d_opj o_mul d_intj (d_ixj x_ixE (d_varj 0) d_intj (fun _ _ => rfl)))) d_intj) d_intj)) (ds_consj (dst_setj (i := 2) sc__law_take.nd (d_opj o_mod (d_opj o_add (d_opj o_mul (d_varj 2) (d_varj 2)) (d_opj o_mul d_intj (d_varj 2))) d_intj)) (ds_onej (dst_retj (d_opj o_mod (d_opj o_div (d_varj 2) d_intj) (d_varj 1)))))))), fun ds S k h => ?_⟩)
  · obtain ⟨_, _, rfl, _⟩ := h
    rfl
  · obtain ⟨a, m, rfl, hm, hb, ⟨n, b, hS, hn⟩, q⟩ := h
    have put_dr : ∀ (n' : Int) (b' : Bool), (b' = false → 0 ≤ n' ∧ n' < 2147483647) → Dr a S (put S a (.lst [.int n', .bl b'])) := fun n' b' h' =>
      ⟨⟨n', b', put_same, h'⟩, fun c o z e => by rw [put_ne z]; exact e⟩
    refine ⟨_, _, hS, atI1, ?_⟩
    cases b with
    | true =>
      refine ⟨_, _, hS, atI0, (show m ≠ 0 by omega), _, _, hS, atI0, dok (by omega) hb, _, _, hS, ixN0, ?_⟩
      exact q _ _ (Int.fmod_nonneg_of_pos _ hm) (Int.fmod_lt_of_pos _ hm) (put_dr _ _ fun z => by cases z)
    | false =>
      obtain ⟨n0, n1⟩ := hn rfl
      have b31 := bt31 n0 (by omega)
      refine ⟨_, _, hS, atI0, mok (n := 31) b31 (bt31 (by decide) (by decide)), (show (2147483647 : Int) ≠ 0 by decide), _, _, hS, ixN0, ?_⟩
      have c0 : 0 ≤ (n * 48271 + 29).fmod 2147483647 := Int.fmod_nonneg_of_pos _ (by decide)
      have c1 : (n * 48271 + 29).fmod 2147483647 < 2147483647 := Int.fmod_lt_of_pos _ (by decide)
      have bx := bt31 c0 (by omega)
      refine ⟨_, _, put_same, atI0, _, _, put_same, atI0, mok bx bx, _, _, put_same, atI0, mok (m := 31) (bt31 (by decide) (by decide)) bx, (show (2147483629 : Int) ≠ 0 by decide), ?_⟩
      have d0 : 0 ≤ ((n * 48271 + 29).fmod 2147483647 * (n * 48271 + 29).fmod 2147483647 + 39373 * (n * 48271 + 29).fmod 2147483647 + 7).fmod 2147483629 := Int.fmod_nonneg_of_pos _ (by decide)
      have d1 : ((n * 48271 + 29).fmod 2147483647 * (n * 48271 + 29).fmod 2147483647 + 39373 * (n * 48271 + 29).fmod 2147483647 + 7).fmod 2147483629 < 2147483629 := Int.fmod_lt_of_pos _ (by decide)
      have by' := bt31 d0 (by omega)
      refine ⟨mok by' by', mok (m := 31) (bt31 (by decide) (by decide)) by', (show (2147483587 : Int) ≠ 0 by decide), ⟨by decide, by decide +kernel⟩, (show m ≠ 0 by omega), ?_⟩
      exact q _ _ (Int.fmod_nonneg_of_pos _ hm) (Int.fmod_lt_of_pos _ hm) (put_dr _ _ fun _ => ⟨c0, c1⟩)
theorem gcd_abs (a b : Int) : Int.gcd (absI a) (absI b) = Int.gcd a b := by
  have e : ∀ x : Int, (absI x).natAbs = x.natAbs := fun x => by unfold absI; split <;> omega
  unfold Int.gcd
  rw [e, e]
def F__law_divisor : DSp := fun ds S k => ∃ a b, ds = [.int a, .int b] ∧ k (.int ((Int.gcd a b : Nat) : Int)) S
theorem sc__law_divisor : FnScope ["one", "other"] ["one", "other"] (defScope s__law_divisor) := ⟨rfl, rfl, rfl, by decide +kernel, rfl, by decide +kernel, by decide +kernel⟩
theorem ok__law_divisor {P : Program} {w : World} {K : Fg} {mg : Str → Option Value} {base : Heap} {f : Addr} {fd : FuncData} (Fn : Fun K "_law_divisor" "_law_divisor" s__law_divisor f fd) (z_abs : mg "abs" = none) :
    FnOk P w K mg base CX0 1 f fd ["one", "other"] (spU K F__law_divisor) := by
  refine Fn.okJ sc__law_divisor (fun ds S k h => ?_) (fun cdv A outer s H E hr => ⟨_, (ds_consj (dst_setj (i := 0) sc__law_divisor.nd (d_callBj b_abs rfl z_abs bt_abs (da_consj (d_varj 0) da_nilj))) (ds_consj (dst_setj (i := 1) sc__law_divisor.nd (d_callBj b_abs rfl z_abs bt_abs (da_consj (d_varj 1) da_nilj))) (ds_consj (dst_whilej PassesOwn.never (dt_cmpj o_gt (d_varj 1) d_intj (nomark _)) (ds_onej (dst_parj (i := 0) (j := 1) rfl sc__law_divisor.nd (by decide) (da_consj (d_varj 1) (da_consj (d_opj o_mod (d_varj 0) (d_varj 1)) da_nilj))))) (ds_onej (dst_retj (d_varj 0)))))), fun ds S k h => ?_⟩)
  · obtain ⟨_, _, rfl, _⟩ := h
    rfl
  · obtain ⟨a, b, rfl, q⟩ := h
    refine ⟨fun m L S' => S' = S ∧ ∃ x y, L = [some (.int x), some (.int y)] ∧ m = y.natAbs ∧ 0 ≤ x ∧ 0 ≤ y ∧ Int.gcd x y = Int.gcd a b, ⟨_, rfl, absI a, absI b, rfl, rfl, absI_nn a, absI_nn b, gcd_abs a b⟩, ?_⟩
    rintro m L S' ⟨rfl, x, y, rfl, rfl, hx, hy, e⟩
    refine ite_dec (fun hl => ⟨fun L' S'' => ∃ m', m' < y.natAbs ∧ S'' = S' ∧ ∃ x y, L' = [some (.int x), some (.int y)] ∧ m' = y.natAbs ∧ 0 ≤ x ∧ 0 ≤ y ∧ Int.gcd x y = Int.gcd a b, fun _ _ z => z, by omega, ?_⟩) (fun hl => ?_)
    · exact ⟨_, fmod_lt x y (by omega), rfl, y, x.fmod y, rfl, rfl, hy, Int.fmod_nonneg_of_pos _ hl, (gcd_fmod x y).trans e⟩
    · have z : y = 0 := by omega
      subst z
      have e2 := gcd_zero x
      rw [e, if_neg (by omega)] at e2
      rw [e2] at q
      exact q
def F__law_ratio : DSp := fun ds S k => ∃ t b, ds = [.int t, .int b] ∧ b ≠ 0 ∧ Bt 800000 b ∧ k (fr (Rat.divInt t b)) S
theorem sc__law_ratio : FnScope ["top", "bottom", "by"] ["top", "bottom"] (defScope s__law_ratio) := ⟨rfl, rfl, rfl, by decide +kernel, rfl, by decide +kernel, by decide +kernel⟩
theorem ok__law_ratio {P : Program} {w : World} {K : Fg} {mg : Str → Option Value} {base : Heap} {f : Addr} {fd : FuncData} (Fn : Fun K "_law_ratio" "_law_ratio" s__law_ratio f fd) (c__law_divisor : Own P w K mg base "_law_divisor" 1 F__law_divisor) (hBl : BltB mg base) (hTr : P.given.tree = none) :
    FnOk P w K mg base CX0 34 f fd ["top", "bottom"] (spU K F__law_ratio) := by
  refine Fn.okJ sc__law_ratio (fun ds S k h => ?_) (fun cdv A outer s H E hr => ⟨_, (ds_consj (dst_setj (i := 2) sc__law_ratio.nd (d_callj c__law_divisor (hr.mono (by decide)) rfl (da_consj (d_varj 0) (da_consj (d_varj 1) da_nilj)))) (ds_consj (dst_ifj (dt_cmpj o_lt (d_varj 1) d_intj (nomark _)) (ds_onej (dst_setj (i := 2) sc__law_ratio.nd (d_opj o_sub d_intj (d_varj 2)))) ds_nilj) (ds_onej (dst_retj (d_tupj (da_consj (d_opj (o_divR hr hBl hTr rfl rfl rfl (by decide)) (d_varj 0) (d_varj 2)) (da_consj (d_opj (o_divR hr hBl hTr rfl rfl rfl (by decide)) (d_varj 1) (d_varj 2)) da_nilj))))))), fun ds S k h => ?_⟩)
  · obtain ⟨_, _, rfl, _⟩ := h
    rfl
  · obtain ⟨t, b, rfl, h0, hb, q⟩ := h
    have hg := gcd_bt (t := t) h0 hb
    have hs := shr_ne (t := t) h0
    have e1 := div_num (t := t) h0
    have e2 := div_den (t := t) h0
    have qq : k (.tup [.int (t.fdiv (shr t b)), .int (b.fdiv (shr t b))]) S := by rw [e1, e2]; exact q
    unfold shr at qq hs
    refine ⟨t, b, rfl, ite_dec (fun hl => ?_) (fun hl => ?_)⟩
    · rw [if_pos hl] at qq hs
      rw [← Int.zero_sub] at qq hs
      exact ⟨hs, hs, few, qq⟩
    · rw [if_neg hl] at qq hs
      exact ⟨hs, hs, few, qq⟩
def F__law_times : DSp := fun ds S k => ∃ (a b c d : Int) (q : Rat), ds = [pr a b, pr c d] ∧ b * d ≠ 0 ∧ Bt 400000 a ∧ Bt 400000 b ∧ Bt 400000 c ∧ Bt 400000 d ∧ Rat.divInt (a * c) (b * d) = q ∧ k (fr q) S
theorem sc__law_times : FnScope ["one", "other"] ["one", "other"] (defScope s__law_times) := ⟨rfl, rfl, rfl, by decide +kernel, rfl, by decide +kernel, by decide +kernel⟩
theorem ok__law_times {P : Program} {w : World} {K : Fg} {mg : Str → Option Value} {base : Heap} {f : Addr} {fd : FuncData} (Fn : Fun K "_law_times" "_law_times" s__law_times f fd) (c__law_ratio : Own P w K mg base "_law_ratio" 34 F__law_ratio) :
    FnOk P w K mg base CX0 35 f fd ["one", "other"] (spU K F__law_times) := by
  refine Fn.okJ sc__law_times (fun ds S k h => ?_) (fun cdv A outer s H E hr => ⟨_, (ds_onej (dst_retj (d_callj c__law_ratio (hr.mono (by decide)) rfl (da_consj (d_opj o_mul (d_ixj x_ixE (d_varj 0) d_intj (fun _ _ => rfl)) (d_ixj x_ixE (d_varj 1) d_intj (fun _ _ => rfl))) (da_consj (d_opj o_mul (d_ixj x_ixE (d_varj 0) d_intj (fun _ _ => rfl)) (d_ixj x_ixE (d_varj 1) d_intj (fun _ _ => rfl))) da_nilj))))), fun ds S k h => ?_⟩)
  · obtain ⟨_, _, _, _, _, rfl, _⟩ := h
    rfl
  · obtain ⟨a, b, c, d, _, rfl, h0, h1, h2, h3, h4, rfl, q⟩ := h
    exact ⟨mok h1 h3, mok h2 h4, _, _, rfl, h0, (h2.mul h4).mono (by decide), q⟩
def B (x : Q) : D := .tup [fr x.1, fr x.2]
def BP (x y : Q) : D := .tup [B x, B y]
theorem lratio_go {S : DH} {k : DK} {t b : Int} {q : Rat} (e : Rat.divInt t b = q) (h0 : b ≠ 0) (hb : Bt 800000 b) (h : k (fr q) S) : F__law_ratio [.int t, .int b] S k := by subst e; exact ⟨_, _, rfl, h0, hb, h⟩
theorem int_sz {n : Nat} {u : Int} (h : Bt n u) (hn : 1 ≤ n) : Sz n (u : Rat) := by
  refine ⟨by rw [Rat.num_intCast]; exact h, ?_⟩
  rw [Rat.den_intCast]
  exact (show Bt 1 1 by decide).mono hn
theorem SOK.set {a q : Addr} {S : DH} {o : DO} (h : SOK S a) (z : q ≠ a) : SOK (put S q o) a := by
  obtain ⟨n, b, e, w⟩ := h
  exact ⟨n, b, by rw [put_ne (Ne.symm z)]; exact e, w⟩
end My
namespace My
open PySem PySem.Spec PyProof.Rows L2 DL HM
set_option maxHeartbeats 4000000
def F__law_plus : DSp := fun ds S k => ∃ (a b c d : Int) (q : Rat), ds = [pr a b, pr c d] ∧ b * d ≠ 0 ∧ Bt 400000 a ∧ Bt 400000 b ∧ Bt 400000 c ∧ Bt 400000 d ∧ Rat.divInt (a * d + c * b) (b * d) = q ∧ k (fr q) S
theorem sc__law_plus : FnScope ["one", "other"] ["one", "other"] (defScope s__law_plus) := ⟨rfl, rfl, rfl, by decide +kernel, rfl, by decide +kernel, by decide +kernel⟩
theorem ok__law_plus {P : Program} {w : World} {K : Fg} {mg : Str → Option Value} {base : Heap} {f : Addr} {fd : FuncData} (Fn : Fun K "_law_plus" "_law_plus" s__law_plus f fd) (c__law_ratio : Own P w K mg base "_law_ratio" 34 F__law_ratio) :
    FnOk P w K mg base CX0 35 f fd ["one", "other"] (spU K F__law_plus) := by
  refine Fn.okJ sc__law_plus (fun ds S k h => ?_) (fun cdv A outer s H E hr => ⟨_, (ds_onej (dst_retj (d_callj c__law_ratio (hr.mono (by decide)) rfl (da_consj (d_opj o_add (d_opj o_mul (d_ixj x_ixE (d_varj 0) d_intj (fun _ _ => rfl)) (d_ixj x_ixE (d_varj 1) d_intj (fun _ _ => rfl))) (d_opj o_mul (d_ixj x_ixE (d_varj 1) d_intj (fun _ _ => rfl)) (d_ixj x_ixE (d_varj 0) d_intj (fun _ _ => rfl)))) (da_consj (d_opj o_mul (d_ixj x_ixE (d_varj 0) d_intj (fun _ _ => rfl)) (d_ixj x_ixE (d_varj 1) d_intj (fun _ _ => rfl))) da_nilj))))), fun ds S k h => ?_⟩)
  · obtain ⟨_, _, _, _, _, rfl, _⟩ := h
    rfl
  · obtain ⟨a, b, c, d, q, rfl, h0, h1, h2, h3, h4, e, w⟩ := h
    exact ⟨mok h1 h4, mok h3 h2, mok h2 h4, lratio_go e h0 ((h2.mul h4).mono (by decide)) w⟩
def F__law_minus : DSp := fun ds S k => ∃ p q : Rat, ds = [fr p, fr q] ∧ Sz 400000 p ∧ Sz 400000 q ∧ k (fr (p - q)) S
theorem sc__law_minus : FnScope ["one", "other"] ["one", "other"] (defScope s__law_minus) := ⟨rfl, rfl, rfl, by decide +kernel, rfl, by decide +kernel, by decide +kernel⟩
theorem ok__law_minus {P : Program} {w : World} {K : Fg} {mg : Str → Option Value} {base : Heap} {f : Addr} {fd : FuncData} (Fn : Fun K "_law_minus" "_law_minus" s__law_minus f fd) (c__law_ratio : Own P w K mg base "_law_ratio" 34 F__law_ratio) :
    FnOk P w K mg base CX0 35 f fd ["one", "other"] (spU K F__law_minus) := by
  refine Fn.okJ sc__law_minus (fun ds S k h => ?_) (fun cdv A outer s H E hr => ⟨_, (ds_onej (dst_retj (d_callj c__law_ratio (hr.mono (by decide)) rfl (da_consj (d_opj o_sub (d_opj o_mul (d_ixj x_ixE (d_varj 0) d_intj (fun _ _ => rfl)) (d_ixj x_ixE (d_varj 1) d_intj (fun _ _ => rfl))) (d_opj o_mul (d_ixj x_ixE (d_varj 1) d_intj (fun _ _ => rfl)) (d_ixj x_ixE (d_varj 0) d_intj (fun _ _ => rfl)))) (da_consj (d_opj o_mul (d_ixj x_ixE (d_varj 0) d_intj (fun _ _ => rfl)) (d_ixj x_ixE (d_varj 1) d_intj (fun _ _ => rfl))) da_nilj))))), fun ds S k h => ?_⟩)
  · obtain ⟨_, _, rfl, _⟩ := h
    rfl
  · obtain ⟨p, q, rfl, hp, hq, w⟩ := h
    exact ⟨mok hp.num hq.den, mok hq.num hp.den, mok hp.den hq.den, lratio_go (sub_of p q) (den_mul_ne p q) ((hp.den.mul hq.den).mono (by decide)) w⟩
def F__law_over : DSp := fun ds S k => ∃ p q : Rat, ds = [fr p, fr q] ∧ q ≠ 0 ∧ Sz 400000 p ∧ Sz 400000 q ∧ k (fr (p / q)) S
theorem sc__law_over : FnScope ["one", "other"] ["one", "other"] (defScope s__law_over) := ⟨rfl, rfl, rfl, by decide +kernel, rfl, by decide +kernel, by decide +kernel⟩
theorem ok__law_over {P : Program} {w : World} {K : Fg} {mg : Str → Option Value} {base : Heap} {f : Addr} {fd : FuncData} (Fn : Fun K "_law_over" "_law_over" s__law_over f fd) (c__law_ratio : Own P w K mg base "_law_ratio" 34 F__law_ratio) :
    FnOk P w K mg base CX0 35 f fd ["one", "other"] (spU K F__law_over) := by
  refine Fn.okJ sc__law_over (fun ds S k h => ?_) (fun cdv A outer s H E hr => ⟨_, (ds_onej (dst_retj (d_callj c__law_ratio (hr.mono (by decide)) rfl (da_consj (d_opj o_mul (d_ixj x_ixE (d_varj 0) d_intj (fun _ _ => rfl)) (d_ixj x_ixE (d_varj 1) d_intj (fun _ _ => rfl))) (da_consj (d_opj o_mul (d_ixj x_ixE (d_varj 0) d_intj (fun _ _ => rfl)) (d_ixj x_ixE (d_varj 1) d_intj (fun _ _ => rfl))) da_nilj))))), fun ds S k h => ?_⟩)
  · obtain ⟨_, _, rfl, _⟩ := h
    rfl
  · obtain ⟨p, q, rfl, h0, hp, hq, w⟩ := h
    exact ⟨mok hp.num hq.den, mok hp.den hq.num, lratio_go (div_of p q) (Int.mul_ne_zero (den_ne p) (num_ne h0)) ((hp.den.mul hq.num).mono (by decide)) w⟩
end My
namespace My
open PySem PySem.Spec PyProof.Rows L2 DL HM
set_option maxHeartbeats 4000000
theorem big1 {n : Nat} (h : n < 300) : n < sizeLine := Nat.lt_of_lt_of_le h (Nat.le_of_ble_eq_true (rfl : Nat.ble 300 sizeLine = true))
theorem seq_if {c : DT} {t e b2 : DS} {M : DEnds} {L : Lo} {S : DH} (P : Lo → DH → Prop) (h2 : ∀ L S, P L S → b2 M L S) (h1 : (∀ L S, P L S → b2 M L S) → dIfS c t e { M with nx := b2 M } L S) : dSeq (dIfS c t e) b2 M L S := h1 h2
theorem map_loop {α : Type} {f g : α → D} {all : List α} {S : DH} {p : Addr} {ok : DH → Prop} {bd : DB} {k : DK} {L1 : Lo} (hp : S p = none) (hok : ∀ S', Ext S S' → ok S')
    (hbd : ∀ (x : α) (S' : DH) (k' : Option D → DH → Prop), x ∈ all → Ext S S' → k' (some (g x)) S' → bd (some (f x) :: L1) S' k') :
    ∀ (r : List α) (acc : List D) (l0 : Option D), (∀ x ∈ r, x ∈ all) → acc.length + r.length ≤ 100 → (∀ S', Ext S S' → S' p = some (.lst (acc ++ r.map g)) → k (.ref p) S') → dCLoop ok p (dgName 0) bd k (r.map f) acc (l0 :: L1) (put S p (.lst acc))
  | [], acc, l0, _, _, w => ⟨hok _ (Ext.new hp), w _ (Ext.new hp) (by rw [put_same]; simp)⟩
  | x :: r, acc, l0, hr, hl, w => by
    have hl : acc.length + (r.length + 1) ≤ 100 := hl
    refine ⟨hok _ (Ext.new hp), hbd x _ _ (hr x List.mem_cons_self) (Ext.new hp) ⟨put_same, big1 (by omega), ?_⟩⟩
    rw [put_put]
    exact map_loop hp hok hbd r _ _ (fun y hy => hr y (List.mem_cons_of_mem _ hy)) (by rw [List.length_append]; show acc.length + 1 + r.length ≤ 100; omega) fun S' e h => w S' e (by rw [h, List.append_assoc]; rfl)
abbrev RD (a b c g : Rat) : D := .tup [fr a, fr b, fr c, fr g]
def drD : Option Rat → D
  | none => .non
  | some t => fr t
def dirX : Option Rat → Rat
  | none => -1
  | some t => (1 - t * t) / (1 + t * t)
def dirY : Option Rat → Rat
  | none => 0
  | some t => (t + t) / (1 + t * t)
def DrOk (o : Option Rat) : Prop := ∀ t, o = some t → Sz 4 t
theorem one_sq_ne (t : Rat) : 1 + t * t ≠ 0 := by
  have : 0 ≤ t * t := by
    rcases tri t with h | h | h
    · exact Rat.le_of_lt (Rat.mul_pos h h)
    · have := Rat.mul_pos (show 0 < -t by grind) (show 0 < -t by grind); grind
    · subst h; rw [Rat.mul_zero]; decide
  grind
theorem sz_one : Sz 1 1 := ⟨by decide, by decide⟩
theorem sz_neg_one : Sz 1 (-1) := ⟨by decide, by decide⟩
theorem dirX_sz {o : Option Rat} (h : DrOk o) : Sz 20 (dirX o) := by
  cases o with
  | none => exact sz_neg_one.mono (by decide)
  | some t =>
    have s := h t rfl
    exact ((sz_one.sub (s.mul s)).div (sz_one.add (s.mul s)) (one_sq_ne t)).mono (by decide)
theorem dirY_sz {o : Option Rat} (h : DrOk o) : Sz 20 (dirY o) := by
  cases o with
  | none => exact Sz.zero.mono (by decide)
  | some t =>
    have s := h t rfl
    exact ((s.add s).div (sz_one.add (s.mul s)) (one_sq_ne t)).mono (by decide)
structure R4 (a b c g : Rat) : Prop where
  a : Sz 14 a
  b : Sz 14 b
  c : Sz 14 c
  g : Sz 14 g
end My
namespace My
open PySem PySem.Spec PyProof.Rows L2 DL HM
set_option maxHeartbeats 4000000
theorem Dr.put {a q : Addr} {S S1 : DH} {o : DO} (h : Dr a S S1) (hq : S q = none) (z : q ≠ a) : Dr a S (put S1 q o) := ⟨h.1.set z, fun b u n e => by rw [put_ne (ne_put e hq)]; exact h.2 b u n e⟩
theorem Dr.none {a p : Addr} {S S' : DH} (h : Dr a S S') (n : p ≠ a) (e : S' p = none) : S p = none := by
  cases q : S p with
  | none => rfl
  | some o => rw [h.2 p o n q] at e; cases e
theorem dpos {a b : Int} (h : 0 < a) (h' : 0 < b) : 0 < Rat.divInt a b := by
  rw [Rat.divInt_eq_div, Rat.div_def]
  exact Rat.mul_pos (by exact_mod_cast h) (Rat.inv_pos.mpr (by exact_mod_cast h'))
def F__law_fraction : DSp := fun ds S k => ∃ (a : Addr) (m : Int), ds = [.ref a, .int m] ∧ 0 < m ∧ m ≤ 9 ∧ SOK S a ∧ ∀ q S', Sz 4 q → Dr a S S' → k (fr q) S'
theorem sc__law_fraction : FnScope ["state", "most"] ["state", "most"] (defScope s__law_fraction) := ⟨rfl, rfl, rfl, by decide +kernel, rfl, by decide +kernel, by decide +kernel⟩
theorem ok__law_fraction {P : Program} {w : World} {K : Fg} {mg : Str → Option Value} {base : Heap} {f : Addr} {fd : FuncData} (Fn : Fun K "_law_fraction" "_law_fraction" s__law_fraction f fd) (c__law_ratio : Own P w K mg base "_law_ratio" 34 F__law_ratio) (c__law_take : Own P w K mg base "_law_take" 1 F__law_take) :
    FnOk P w K mg base CX0 35 f fd ["state", "most"] (spU K F__law_fraction) := by
  refine Fn.okJ sc__law_fraction (fun ds S k h => ?_) (fun cdv A outer s H E hr => ⟨_, (ds_onej (dst_retj (d_callj c__law_ratio (hr.mono (by decide)) rfl (da_consj (d_opj o_sub (d_callj c__law_take (hr.mono (by decide)) rfl (da_consj (d_varj 0) (da_consj (d_opj o_add (d_opj o_mul d_intj (d_varj 1)) d_intj) da_nilj))) (d_varj 1)) (da_consj (d_opj o_add d_intj (d_callj c__law_take (hr.mono (by decide)) rfl (da_consj (d_varj 0) (da_consj (d_ixj x_ixE (d_lstj (da_consj d_intj (da_consj d_intj (da_consj d_intj (da_consj d_intj da_nilj))))) (d_callj c__law_take (hr.mono (by decide)) rfl (da_consj (d_varj 0) (da_consj d_intj da_nilj))) (fun _ _ => rfl)) da_nilj)))) da_nilj))))), fun ds S k h => ?_⟩)
  · obtain ⟨_, _, rfl, _⟩ := h
    rfl
  · obtain ⟨a, m, rfl, m0, m9, hS, w⟩ := h
    have bm : Bt 8 m := by unfold Bt; omega
    have b2 : Bt 8 2 := by decide
    have b200 : Bt 200 (2 * m + 1) := Bt.mono (m := 8) (by unfold Bt; omega) (by decide)
    refine ⟨mok b2 bm, a, 2 * m + 1, rfl, by omega, b200, hS, fun r1 S1 h1 h1' d1 => ⟨few, fun p hp => ⟨a, 4, rfl, by decide, by decide, d1.1.new hp, fun r2 S2 h2 h2' d2 => ?_⟩⟩⟩
    have hp2 := d2.2 p _ (d1.1.ne hp) put_same
    obtain ⟨c, hc, hm⟩ := atI_mem (ds := [.int 1, .int 1, .int 1, .int 4]) h2 h2'
    have hc2 : ∃ s : Int, c = .int s ∧ 0 < s ∧ s ≤ 4 := by
      simp only [List.mem_cons, List.not_mem_nil, or_false] at hm
      rcases hm with rfl | rfl | rfl | rfl
      · exact ⟨1, rfl, by decide, by decide⟩
      · exact ⟨1, rfl, by decide, by decide⟩
      · exact ⟨1, rfl, by decide, by decide⟩
      · exact ⟨4, rfl, by decide, by decide⟩
    obtain ⟨s, rfl, s0, s1⟩ := hc2
    refine ⟨_, _, hp2, hc, a, s, rfl, s0, Bt.mono (m := 8) (by unfold Bt; omega) (by decide), d2.1, fun r3 S3 h3 h3' d3 => ?_⟩
    have b1 : Bt 4 (r1 - m) := by unfold Bt; omega
    have b2 : Bt 4 (1 + r3) := by unfold Bt; omega
    exact ⟨_, _, rfl, by omega, b2.mono (by decide), w _ _ (Sz.divInt b1 b2 (by omega)) (d1.trans ((Dr.new d1.1 hp).trans (d2.trans d3)))⟩
def F__law_drive : DSp := fun ds S k => ∃ a : Addr, ds = [.ref a] ∧ SOK S a ∧ ∀ o S', DrOk o → Dr a S S' → k (drD o) S'
theorem sc__law_drive : FnScope ["state"] ["state"] (defScope s__law_drive) := ⟨rfl, rfl, rfl, by decide +kernel, rfl, by decide +kernel, by decide +kernel⟩
theorem ok__law_drive {P : Program} {w : World} {K : Fg} {mg : Str → Option Value} {base : Heap} {f : Addr} {fd : FuncData} (Fn : Fun K "_law_drive" "_law_drive" s__law_drive f fd) (c__law_take : Own P w K mg base "_law_take" 1 F__law_take) (c__law_fraction : Own P w K mg base "_law_fraction" 35 F__law_fraction) :
    FnOk P w K mg base CX0 36 f fd ["state"] (spU K F__law_drive) := by
  refine Fn.okJ sc__law_drive (fun ds S k h => ?_) (fun cdv A outer s H E hr => ⟨_, (ds_consj (dst_ifj (dt_cmpj o_eq (d_callj c__law_take (hr.mono (by decide)) rfl (da_consj (d_varj 0) (da_consj d_intj da_nilj))) d_intj (nomark _)) (ds_onej (dst_retj d_nonj)) ds_nilj) (ds_onej (dst_retj (d_callj c__law_fraction (hr.mono (by decide)) rfl (da_consj (d_varj 0) (da_consj (d_ixj x_ixE (d_lstj (da_consj d_intj (da_consj d_intj (da_consj d_intj da_nilj)))) (d_callj c__law_take (hr.mono (by decide)) rfl (da_consj (d_varj 0) (da_consj d_intj da_nilj))) (fun _ _ => rfl)) da_nilj)))))), fun ds S k h => ?_⟩)
  · obtain ⟨_, rfl, _⟩ := h
    rfl
  · obtain ⟨a, rfl, hS, w⟩ := h
    refine ⟨a, 9, rfl, by decide, by decide, hS, fun r1 S1 h1 h1' d1 => ite_dec (fun _ => w none S1 (fun t z => by cases z) d1) (fun _ => ?_)⟩
    refine ⟨few, fun p hp => ⟨a, 3, rfl, by decide, by decide, d1.1.new hp, fun r2 S2 h2 h2' d2 => ?_⟩⟩
    have hp2 := d2.2 p _ (d1.1.ne hp) put_same
    obtain ⟨c, hc, hm⟩ := atI_mem (ds := [.int 1, .int 3, .int 9]) h2 h2'
    have hc2 : ∃ s : Int, c = .int s ∧ 0 < s ∧ s ≤ 9 := by
      simp only [List.mem_cons, List.not_mem_nil, or_false] at hm
      rcases hm with rfl | rfl | rfl
      · exact ⟨1, rfl, by decide, by decide⟩
      · exact ⟨3, rfl, by decide, by decide⟩
      · exact ⟨9, rfl, by decide, by decide⟩
    obtain ⟨s, rfl, s0, s1⟩ := hc2
    exact ⟨_, _, hp2, hc, a, s, rfl, s0, s1, d2.1, fun q S3 hq d3 => w (some q) S3 (fun t z => by cases z; exact hq) (d1.trans ((Dr.new d1.1 hp).trans (d2.trans d3)))⟩
theorem draw_loop {γ : Type} {g : γ → D} {R : γ → Prop} {S : DH} {a p : Addr} {ok : DH → Prop} {bd : DB} {k : DK} {L1 : Lo} (hp : S p = none) (hne : p ≠ a) (hok : ∀ S', ok S')
    (hbd : ∀ (x : D) (S' : DH) (k' : Option D → DH → Prop), SOK S' a → (∀ y S2, R y → Dr a S' S2 → k' (some (g y)) S2) → bd (some x :: L1) S' k') :
    ∀ (r : List D) (zs : List γ) (S1 : DH) (l0 : Option D), Dr a S S1 → S1 p = some (.lst (zs.map g)) → (∀ z ∈ zs, R z) → zs.length + r.length ≤ 100 → (∀ (zs' : List γ) S', Dr a S S' → S' p = some (.lst (zs'.map g)) → (∀ z ∈ zs', R z) → zs'.length = zs.length + r.length → k (.ref p) S') → dCLoop ok p (dgName 0) bd k r (zs.map g) (l0 :: L1) S1
  | [], zs, S1, l0, d1, h1, hz, _, w => ⟨hok _, w zs S1 d1 h1 hz rfl⟩
  | x :: r, zs, S1, l0, d1, h1, hz, hl, w => by
    have hl : zs.length + (r.length + 1) ≤ 100 := hl
    refine ⟨hok _, hbd x S1 _ d1.1 fun y S2 hR d2 => ⟨d2.2 p _ hne h1, by rw [List.length_map]; exact big1 (by omega), ?_⟩⟩
    have ea : zs.map g ++ [g y] = (zs ++ [y]).map g := by rw [List.map_append]; rfl
    rw [ea]
    refine draw_loop hp hne hok hbd r (zs ++ [y]) _ _ ((d1.trans d2).put hp hne) put_same (fun z hz' => ?_) (by rw [List.length_append]; show zs.length + 1 + r.length ≤ 100; omega) fun zs' S' d' h' hR' he => w zs' S' d' h' hR' (by rw [he, List.length_append]; show zs.length + 1 + r.length = zs.length + (r.length + 1); omega)
    rcases List.mem_append.mp hz' with h | h
    · exact hz z h
    · simp only [List.mem_cons, List.not_mem_nil, or_false] at h
      subst h
      exact hR
def Tn (n : Nat) (q : Rat) : Prop := if n ≤ 4 then q.num.natAbs ≤ 9 ∧ q.den ≤ 2 else q.num.natAbs ≤ 108 ∧ q.den ≤ 8
theorem Tn.four {q : Rat} : Tn 4 q ↔ (q.num.natAbs ≤ 9 ∧ q.den ≤ 2) := by unfold Tn; rw [if_pos (by decide)]
theorem Tn.fourteen {q : Rat} : Tn 14 q ↔ (q.num.natAbs ≤ 108 ∧ q.den ≤ 8) := by unfold Tn; rw [if_neg (by decide)]
theorem Tn.up {q : Rat} (h : Tn 4 q) : Tn 14 q := by
  obtain ⟨h1, h2⟩ := Tn.four.mp h
  exact Tn.fourteen.mpr ⟨by omega, by omega⟩
theorem div_few {t b : Int} (hb : b ≠ 0) : (Rat.divInt t b).num.natAbs ≤ t.natAbs ∧ (Rat.divInt t b).den ≤ b.natAbs := by
  have e1 := div_num (t := t) hb
  have e2 := div_den (t := t) hb
  refine ⟨by rw [← e1]; exact HM.natAbs_fdiv_le _ _, ?_⟩
  have h := HM.natAbs_fdiv_le b (shr t b)
  rw [e2] at h
  exact h
theorem add_few {p q : Rat} {a b c d : Nat} (h1 : p.num.natAbs ≤ a) (h2 : p.den ≤ b) (h3 : q.num.natAbs ≤ c) (h4 : q.den ≤ d) : (p + q).num.natAbs ≤ a * d + c * b ∧ (p + q).den ≤ b * d := by
  obtain ⟨e1, e2⟩ := div_few (t := p.num * (q.den : Int) + q.num * (p.den : Int)) (den_mul_ne p q)
  rw [add_of] at e1 e2
  have m1 : (p.num * (q.den : Int)).natAbs ≤ a * d := by rw [Int.natAbs_mul]; exact Nat.mul_le_mul h1 (by simpa using h4)
  have m2 : (q.num * (p.den : Int)).natAbs ≤ c * b := by rw [Int.natAbs_mul]; exact Nat.mul_le_mul h3 (by simpa using h2)
  have m3 : ((p.den : Int) * (q.den : Int)).natAbs ≤ b * d := by rw [Int.natAbs_mul]; exact Nat.mul_le_mul (by simpa using h2) (by simpa using h4)
  exact ⟨by omega, by omega⟩
structure G4 (n : Nat) (x1 x2 x3 x4 : Rat) : Prop where
  a : Sz n x1 ∧ 0 < x1
  b : Sz n x2 ∧ 0 < x2
  c : Sz n x3 ∧ 0 < x3
  g : Sz n x4 ∧ 0 < x4
  ta : Tn n x1
  tb : Tn n x2
  tc : Tn n x3
  tg : Tn n x4
theorem G4.r4 {a b c g : Rat} (h : G4 14 a b c g) : R4 a b c g := ⟨h.a.1, h.b.1, h.c.1, h.g.1⟩
theorem G4.up {a b c g : Rat} (h : G4 4 a b c g) : G4 14 a b c g := ⟨⟨h.a.1.mono (by decide), h.a.2⟩, ⟨h.b.1.mono (by decide), h.b.2⟩, ⟨h.c.1.mono (by decide), h.c.2⟩, ⟨h.g.1.mono (by decide), h.g.2⟩, h.ta.up, h.tb.up, h.tc.up, h.tg.up⟩
def RodSt (Q : Rat → Rat → Rat → Rat → Prop) (a : Addr) (S : DH) (way : Int) (L : Lo) (S' : DH) : Prop := ∃ p' x y z v, L = [some (.ref a), some (.ref p'), some (.int way), none] ∧ p' ≠ a ∧ S p' = none ∧ Dr a S S' ∧ S' p' = some (.lst [fr x, fr y, fr z, fr v]) ∧ Q x y z v
theorem len4 {zs : List Rat} (h : zs.length = 4) : ∃ x y z v, zs = [x, y, z, v] := by
  match zs, h with
  | [x, y, z, v], _ => exact ⟨x, y, z, v, rfl⟩
def F__law_rods : DSp := fun ds S k => ∃ a : Addr, ds = [.ref a] ∧ SOK S a ∧ ∀ x y z v S', G4 14 x y z v → Dr a S S' → k (RD x y z v) S'
theorem sc__law_rods : FnScope ["state", "some", "way", "turn"] ["state"] (defScope s__law_rods) := ⟨rfl, rfl, rfl, by decide +kernel, rfl, by decide +kernel, by decide +kernel⟩
theorem ok__law_rods {P : Program} {w : World} {K : Fg} {mg : Str → Option Value} {base : Heap} {f : Addr} {fd : FuncData} (Fn : Fun K "_law_rods" "_law_rods" s__law_rods f fd) (c__law_ratio : Own P w K mg base "_law_ratio" 34 F__law_ratio) (c__law_take : Own P w K mg base "_law_take" 1 F__law_take) (c__law_plus : Own P w K mg base "_law_plus" 35 F__law_plus) (c__law_minus : Own P w K mg base "_law_minus" 35 F__law_minus) (z_range : mg "range" = none) (z_tuple : mg "tuple" = none) :
    FnOk P w K mg base CX0 36 f fd ["state"] (spU K F__law_rods) := by
  refine Fn.okJ sc__law_rods (fun ds S k h => ?_) (fun cdv A outer s H E hr => ⟨_, (ds_consj (dst_compRjS (iv := 1) sc__law_rods.nd rfl (compSc (N := ["k", "state"]) (cap := [none, some 0]) rfl rfl rfl rfl ⟨rfl, trivial⟩ rfl rfl ⟨⟨rfl, .inl rfl, .inl rfl⟩, trivial⟩) rfl z_range (da_consj d_intj da_nilj) (fun _ _ _ _ => (dg_namej (i := 0) (show List.Nodup (["k", "state"] : List Str) from by decide +kernel))) (fun _ _ _ _ => (d_callj c__law_ratio (hr.mono (by decide)) rfl (da_consj (d_opj o_add d_intj (d_callj c__law_take (hr.mono (by decide)) rfl (da_consj (d_varj 1) (da_consj d_intj da_nilj)))) (da_consj (d_opj o_add d_intj (d_callj c__law_take (hr.mono (by decide)) rfl (da_consj (d_varj 1) (da_consj (d_ixj x_ixE (d_lstj (da_consj d_intj (da_consj d_intj (da_consj d_intj da_nilj)))) (d_callj c__law_take (hr.mono (by decide)) rfl (da_consj (d_varj 1) (da_consj d_intj da_nilj))) (fun _ _ => rfl)) da_nilj)))) da_nilj))))) (ds_consj (dst_setj (i := 2) sc__law_rods.nd (d_callj c__law_take (hr.mono (by decide)) rfl (da_consj (d_varj 0) (da_consj d_intj da_nilj)))) (ds_consj (dst_ifj (dt_cmpj o_eq (d_varj 2) d_intj (nomark _)) (ds_onej (dst_setj (i := 1) sc__law_rods.nd (d_lstj (da_consj (d_ixj x_ixE (d_varj 1) d_intj (fun _ _ => rfl)) (da_consj (d_ixj x_ixE (d_varj 1) d_intj (fun _ _ => rfl)) (da_consj (d_ixj x_ixE (d_varj 1) d_intj (fun _ _ => rfl)) (da_consj (d_ixj x_ixE (d_varj 1) d_intj (fun _ _ => rfl)) da_nilj))))))) ds_nilj) (ds_consj (dst_ifj (dt_cmpj o_eq (d_varj 2) d_intj (nomark _)) (ds_onej (dst_setj (i := 1) sc__law_rods.nd (d_lstj (da_consj (d_ixj x_ixE (d_varj 1) d_intj (fun _ _ => rfl)) (da_consj (d_ixj x_ixE (d_varj 1) d_intj (fun _ _ => rfl)) (da_consj (d_ixj x_ixE (d_varj 1) d_intj (fun _ _ => rfl)) (da_consj (d_ixj x_ixE (d_varj 1) d_intj (fun _ _ => rfl)) da_nilj))))))) ds_nilj) (ds_consj (dst_ifj (dt_cmpj o_eq (d_varj 2) d_intj (nomark _)) (ds_onej (dst_asgj (d_callj c__law_plus (hr.mono (by decide)) rfl (da_consj (d_callj c__law_plus (hr.mono (by decide)) rfl (da_consj (d_ixj x_ixE (d_varj 1) d_intj (fun _ _ => rfl)) (da_consj (d_ixj x_ixE (d_varj 1) d_intj (fun _ _ => rfl)) da_nilj))) (da_consj (d_ixj x_ixE (d_varj 1) d_intj (fun _ _ => rfl)) da_nilj))) (dg_subE (d_varj 1) d_intj))) ds_nilj) (ds_consj (dst_ifj (dt_cmpj o_eq (d_varj 2) d_intj (nomark _)) (ds_consj (dst_asgj (d_callj c__law_plus (hr.mono (by decide)) rfl (da_consj (d_callj c__law_minus (hr.mono (by decide)) rfl (da_consj (d_callj c__law_plus (hr.mono (by decide)) rfl (da_consj (d_ixj x_ixE (d_varj 1) d_intj (fun _ _ => rfl)) (da_consj (d_ixj x_ixE (d_varj 1) d_intj (fun _ _ => rfl)) da_nilj))) (da_consj (d_ixj x_ixE (d_varj 1) d_intj (fun _ _ => rfl)) da_nilj))) (da_consj (d_tupj (da_consj d_intj (da_consj d_intj da_nilj))) da_nilj))) (dg_subE (d_varj 1) d_intj)) (ds_onej (dst_ifj (dt_cmpj o_lt (d_ixj x_ixE (d_ixj x_ixE (d_varj 1) d_intj (fun _ _ => rfl)) d_intj (fun _ _ => rfl)) d_intj (nomark _)) (ds_onej (dst_asgj (d_ixj x_ixE (d_varj 1) d_intj (fun _ _ => rfl)) (dg_subE (d_varj 1) d_intj))) ds_nilj))) ds_nilj) (ds_consj (dst_ifj (dt_cmpj o_eq (d_varj 2) d_intj (nomark _)) (ds_onej (dst_setj (i := 1) sc__law_rods.nd (d_opj o_mulF (d_lstj (da_consj (d_ixj x_ixE (d_varj 1) d_intj (fun _ _ => rfl)) da_nilj)) d_intj))) ds_nilj) (ds_consj (dst_setj (i := 3) sc__law_rods.nd (d_callj c__law_take (hr.mono (by decide)) rfl (da_consj (d_varj 0) (da_consj d_intj da_nilj)))) (ds_onej (dst_retj (d_callTj b_tuple rfl z_tuple bt_tuple (da_consj (d_opj o_add (d_cutEj (d_varj 1) (do_somej (d_varj 3)) do_nonej) (d_cutEj (d_varj 1) do_nonej (do_somej (d_varj 3)))) da_nilj)))))))))))), fun ds S k h => ?_⟩)
  · obtain ⟨_, rfl, _⟩ := h
    rfl
  · obtain ⟨a, rfl, hS, w⟩ := h
    refine ⟨⟨by decide, by decide⟩, fun p hp => ?_⟩
    have hne := hS.ne hp
    refine draw_loop (γ := Rat) (g := fr) (R := fun q => (Sz 4 q ∧ 0 < q) ∧ Tn 4 q) hp hne (fun _ => trivial) ?_ _ [] _ none (Dr.new hS hp) put_same (fun _ z => by cases z) (by decide) ?_
    · intro x S' k' hS' h
      refine ⟨a, 9, rfl, by decide, by decide, hS', fun r1 S1 h1 h1' d1 => ⟨few, fun p2 hp2 => ⟨a, 3, rfl, by decide, by decide, d1.1.new hp2, fun r2 S2 h2 h2' d2 => ?_⟩⟩⟩
      have hq2 := d2.2 p2 _ (d1.1.ne hp2) put_same
      obtain ⟨c, hc, hm⟩ := atI_mem (ds := [.int 1, .int 1, .int 2]) h2 h2'
      have hc2 : ∃ s : Int, c = .int s ∧ 0 < s ∧ s ≤ 2 := by
        simp only [List.mem_cons, List.not_mem_nil, or_false] at hm
        rcases hm with rfl | rfl | rfl
        · exact ⟨1, rfl, by decide, by decide⟩
        · exact ⟨1, rfl, by decide, by decide⟩
        · exact ⟨2, rfl, by decide, by decide⟩
      obtain ⟨s, rfl, s0, s1⟩ := hc2
      refine ⟨_, _, hq2, hc, a, s, rfl, s0, Bt.mono (m := 8) (by unfold Bt; omega) (by decide), d2.1, fun r3 S3 h3 h3' d3 => ?_⟩
      have b1 : Bt 4 (1 + r1) := by unfold Bt; omega
      have b2 : Bt 4 (1 + r3) := by unfold Bt; omega
      exact ⟨_, _, rfl, by omega, b2.mono (by decide), h _ _ ⟨⟨Sz.divInt b1 b2 (by omega), dpos (by omega) (by omega)⟩, Tn.four.mpr (by obtain ⟨z1, z2⟩ := div_few (t := 1 + r1) (b := 1 + r3) (by omega); exact ⟨by omega, by omega⟩)⟩ (d1.trans ((Dr.new d1.1 hp2).trans (d2.trans d3)))⟩
    · intro zs S1 d1 h1 hz hl
      obtain ⟨x, y, z, v, rfl⟩ := len4 hl
      have g4 : G4 4 x y z v := ⟨(hz x (by simp)).1, (hz y (by simp)).1, (hz z (by simp)).1, (hz v (by simp)).1, (hz x (by simp)).2, (hz y (by simp)).2, (hz z (by simp)).2, (hz v (by simp)).2⟩
      refine ⟨a, 8, rfl, by decide, by decide, d1.1, fun way S2 w0 w8 d2 => ?_⟩
      have st0 : RodSt (G4 4) a S way [some (.ref a), some (.ref p), some (.int way), none] S2 := ⟨p, x, y, z, v, rfl, hne, hp, d1.trans d2, d2.2 p _ hne h1, g4⟩
      try dsimp only
      refine seq_if (RodSt (G4 4) a S way) ?_ ?_
      rotate_left
      · intro rest
        refine ite_dec (fun _ => ?_) (fun _ => rest _ _ st0)
        have h2 := d2.2 p _ hne h1
        refine ⟨_, _, h2, atI0, _, _, h2, atI1, _, _, h2, atI0, _, _, h2, atI1, few, fun p2 hp2 => rest _ _ ⟨p2, x, y, x, y, rfl, d2.1.ne hp2, (d1.trans d2).none (d2.1.ne hp2) hp2, (d1.trans d2).trans (Dr.new d2.1 hp2), put_same, g4.a, g4.b, g4.a, g4.b, g4.ta, g4.tb, g4.ta, g4.tb⟩⟩
      clear st0 g4 h1 hz hl
      rintro _ S3 ⟨p3, x, y, z, v, rfl, hne3, n3, d3, h3, g4⟩
      try dsimp only
      refine seq_if (RodSt (G4 4) a S way) ?_ ?_
      rotate_left
      · intro rest
        refine ite_dec (fun _ => ?_) (fun _ => rest _ _ ⟨p3, x, y, z, v, rfl, hne3, n3, d3, h3, g4⟩)
        refine ⟨_, _, h3, atI0, _, _, h3, atI1, _, _, h3, atI1, _, _, h3, atI0, few, fun p2 hp2 => rest _ _ ⟨p2, x, y, y, x, rfl, d3.1.ne hp2, d3.none (d3.1.ne hp2) hp2, d3.trans (Dr.new d3.1 hp2), put_same, g4.a, g4.b, g4.b, g4.a, g4.ta, g4.tb, g4.tb, g4.ta⟩⟩
      clear h3 d3 n3 hne3 g4 x y z v p3
      clear S3
      rintro _ S3 ⟨p3, x, y, z, v, rfl, hne3, n3, d3, h3, g4⟩
      try dsimp only
      refine seq_if (RodSt (fun x y z v => G4 14 x y z v ∧ (way = 2 ∨ G4 4 x y z v)) a S way) ?_ ?_
      rotate_left
      · intro rest
        refine ite_dec (fun e2 => ?_) (fun _ => rest _ _ ⟨p3, x, y, z, v, rfl, hne3, n3, d3, h3, g4.up, .inr g4⟩)
        have sxy := g4.a.1.add g4.b.1
        refine ⟨_, _, h3, atI0, _, _, h3, atI1, _, _, _, _, _, rfl, den_mul_ne x y, g4.a.1.num.mono (by decide), g4.a.1.den.mono (by decide), g4.b.1.num.mono (by decide), g4.b.1.den.mono (by decide), add_of x y, _, _, h3, atI2, _, _, _, _, _, rfl, den_mul_ne (x + y) z, sxy.num.mono (by decide), sxy.den.mono (by decide), g4.c.1.num.mono (by decide), g4.c.1.den.mono (by decide), add_of (x + y) z, ?_⟩
        have tsum : Tn 14 (x + y + z) := by
          obtain ⟨a1, a2⟩ := Tn.four.mp g4.ta
          obtain ⟨b1, b2⟩ := Tn.four.mp g4.tb
          obtain ⟨c1, c2⟩ := Tn.four.mp g4.tc
          obtain ⟨z1, z2⟩ := add_few a1 a2 b1 b2
          exact Tn.fourteen.mpr (add_few z1 z2 c1 c2)
        refine ⟨_, _, h3, rfl, rest _ _ ⟨p3, x, y, z, x + y + z, rfl, hne3, n3, d3.put n3 hne3, put_same, ⟨⟨g4.a.1.mono (by decide), g4.a.2⟩, ⟨g4.b.1.mono (by decide), g4.b.2⟩, ⟨g4.c.1.mono (by decide), g4.c.2⟩, ⟨(sxy.add g4.c.1).mono (by decide), ?_⟩, g4.ta.up, g4.tb.up, g4.tc.up, tsum⟩, .inl e2⟩⟩
        have h1 := g4.a.2
        have h2 := g4.b.2
        have h3 := g4.c.2
        grind
      clear h3 d3 n3 hne3 g4 x y z v p3
      clear S3
      rintro _ S3 ⟨p3, x, y, z, v, rfl, hne3, n3, d3, h3, g14, g24⟩
      refine seq_if (RodSt (G4 14) a S way) ?_ ?_
      rotate_left
      · intro rest
        refine ite_dec (fun e3 => ?_) (fun _ => rest _ _ ⟨p3, x, y, z, v, rfl, hne3, n3, d3, h3, g14⟩)
        have g4 : G4 4 x y z v := g24.resolve_left (by omega)
        have sxy := g4.a.1.add g4.b.1
        have sm := sxy.sub g4.g.1
        have e0 : x + y - v + 0 = x + y - v := Rat.add_zero _
        have tdif : Tn 14 (x + y - v) := by
          obtain ⟨a1, a2⟩ := Tn.four.mp g4.ta
          obtain ⟨b1, b2⟩ := Tn.four.mp g4.tb
          obtain ⟨c1, c2⟩ := Tn.four.mp g4.tg
          obtain ⟨z1, z2⟩ := add_few a1 a2 b1 b2
          rw [show x + y - v = x + y + -v by grind]
          exact Tn.fourteen.mpr (add_few z1 z2 (q := -v) (c := 9) (d := 2) (by rw [Rat.neg_num, Int.natAbs_neg]; exact c1) (by rw [Rat.neg_den]; exact c2))
        refine ⟨_, _, h3, atI0, _, _, h3, atI1, _, _, _, _, _, rfl, den_mul_ne x y, g4.a.1.num.mono (by decide), g4.a.1.den.mono (by decide), g4.b.1.num.mono (by decide), g4.b.1.den.mono (by decide), add_of x y, _, _, h3, atI3, x + y, v, rfl, sxy.mono (by decide), g4.g.1.mono (by decide), few, _, _, _, _, _, rfl, den_mul_ne (x + y - v) 0, sm.num.mono (by decide), sm.den.mono (by decide), Bt.mono (m := 4) (by decide) (by decide), Bt.mono (m := 4) (by decide) (by decide), (add_of (x + y - v) 0).trans e0, ?_⟩
        refine ⟨_, _, h3, rfl, _, _, put_same, atI2, ite_dec (fun _ => ?_) (fun hl => ?_)⟩
        · exact ⟨_, _, put_same, atI0, _, _, put_same, rfl, rest _ _ ⟨p3, x, y, x, v, rfl, hne3, n3, (d3.put n3 hne3).put n3 hne3, put_same, g14.a, g14.b, g14.a, g14.g, g14.ta, g14.tb, g14.ta, g14.tg⟩⟩
        · exact rest _ _ ⟨p3, x, y, x + y - v, v, rfl, hne3, n3, d3.put n3 hne3, put_same, g14.a, g14.b, ⟨sm.mono (by decide), (num_pos_iff _).mp (by omega)⟩, g14.g, g14.ta, g14.tb, tdif, g14.tg⟩
      clear h3 d3 n3 hne3 g14 g24 x y z v p3
      clear S3
      rintro _ S3 ⟨p3, x, y, z, v, rfl, hne3, n3, d3, h3, g4⟩
      refine seq_if (RodSt (G4 14) a S way) ?_ ?_
      rotate_left
      · intro rest
        refine ite_dec (fun _ => ?_) (fun _ => rest _ _ ⟨p3, x, y, z, v, rfl, hne3, n3, d3, h3, g4⟩)
        refine ⟨_, _, h3, atI0, few, fun p2 hp2 => ⟨_, put_same, by decide, by decide, Nat.le_of_ble_eq_true rfl, fun p5 hp5 => ?_⟩⟩
        have dd := d3.trans (Dr.new (o := .lst [fr x]) d3.1 hp2)
        exact rest _ _ ⟨p5, x, x, x, x, rfl, dd.1.ne hp5, dd.none (dd.1.ne hp5) hp5, dd.trans (Dr.new dd.1 hp5), put_same, g4.a, g4.a, g4.a, g4.a, g4.ta, g4.ta, g4.ta, g4.ta⟩
      clear h3 d3 n3 hne3 g4 x y z v p3
      clear S3
      rintro _ S3 ⟨p3, x, y, z, v, rfl, hne3, n3, d3, h3, g4⟩
      refine ⟨a, 4, rfl, by decide, by decide, d3.1, fun turn S4 t0 t4 d4 => ⟨_, d4.2 _ _ hne3 h3, fun p5 hp5 => ⟨_, Ext.new hp5 _ _ (d4.2 _ _ hne3 h3), fun p6 hp6 => ⟨_, _, Ext.new hp6 _ _ put_same, put_same, ?_, fun p7 hp7 => ⟨_, put_same, ?_⟩⟩⟩⟩⟩
      · have tt : turn = 0 ∨ turn = 1 ∨ turn = 2 ∨ turn = 3 := by omega
        rcases tt with rfl | rfl | rfl | rfl <;> exact Nat.le_of_ble_eq_true rfl
      · have dd := fun o : DO => ((d3.trans d4).trans (Dr.new d4.1 hp5)).trans ((Dr.new (d4.1.new hp5) hp6).trans (Dr.new (o := o) ((d4.1.new hp5).new hp6) hp7))
        have tt : turn = 0 ∨ turn = 1 ∨ turn = 2 ∨ turn = 3 := by omega
        rcases tt with rfl | rfl | rfl | rfl
        · exact w x y z v _ g4 (dd _)
        · exact w y z v x _ ⟨g4.b, g4.c, g4.g, g4.a, g4.tb, g4.tc, g4.tg, g4.ta⟩ (dd _)
        · exact w z v x y _ ⟨g4.c, g4.g, g4.a, g4.b, g4.tc, g4.tg, g4.ta, g4.tb⟩ (dd _)
        · exact w v x y z _ ⟨g4.g, g4.a, g4.b, g4.c, g4.tg, g4.ta, g4.tb, g4.tc⟩ (dd _)
end My
namespace My
open PySem PySem.Spec PyProof.Rows L2 DL HM
set_option maxHeartbeats 4000000
theorem canon_sg {q r : Rat} (r0 : 0 ≤ r) (e : r * r = ab q) : Rat.divInt (sI q.num * r.num) (r.den : Int) = sg r q := by
  rw [Int.mul_comm]
  rcases tri q with h | h | h
  · have : sI q.num = 1 := by
      have := (num_pos_iff q).mpr h
      unfold sI
      simp only [decide_eq_true_eq]
      rw [if_pos this, if_neg (by omega)]; rfl
    rw [this, Int.mul_one, Rat.num_divInt_den, sg_nn (by grind)]
  · have : sI q.num = -1 := by
      have := (num_neg_iff q).mpr h
      unfold sI
      simp only [decide_eq_true_eq]
      rw [if_neg (by omega), if_pos this]; rfl
    rw [this]
    unfold sg
    rw [if_pos h, show r.num * -1 = -r.num by omega, ← Rat.neg_divInt, Rat.num_divInt_den]
  · subst h
    have : r = 0 := by
      have e : r * r = 0 := e
      rcases tri r with z | z | z
      · have := Rat.mul_pos z z; grind
      · grind
      · exact z
    subst this
    rfl
theorem known_last {n low high : Int} (h0 : 0 ≤ low) (h1 : low * low ≤ n) (h2 : n < high * high) (h3 : low < high) (h4 : ¬ 1 < high - low) : low = isq n := by
  have e : high = low + 1 := by omega
  subst e
  have nn : 0 ≤ n := by
    have := Int.mul_nonneg h0 h0
    omega
  have rt := isq_rt nn
  rcases Int.lt_trichotomy low (isq n) with z | z | z
  · have := sq_mono (a := low + 1) (b := isq n) (by omega) (by omega)
    have := rt.le
    omega
  · exact z
  · have := sq_mono (a := isq n + 1) (b := low) (by have := rt.nn; omega) (by omega)
    have := rt.lt
    omega
def F__law_root : DSp := fun ds S k => ∃ n : Int, ds = [.int n] ∧ 0 ≤ n ∧ Bt 4000 n ∧ k (.int (isq n)) S
theorem sc__law_root : FnScope ["number", "low", "high", "middle"] ["number"] (defScope s__law_root) := ⟨rfl, rfl, rfl, by decide +kernel, rfl, by decide +kernel, by decide +kernel⟩
theorem ok__law_root {P : Program} {w : World} {K : Fg} {mg : Str → Option Value} {base : Heap} {f : Addr} {fd : FuncData} (Fn : Fun K "_law_root" "_law_root" s__law_root f fd)  :
    FnOk P w K mg base CX0 1 f fd ["number"] (spU K F__law_root) := by
  refine Fn.okJ sc__law_root (fun ds S k h => ?_) (fun cdv A outer s H E hr => ⟨_, (ds_consj (dst_setj (i := 1) sc__law_root.nd d_intj) (ds_consj (dst_setj (i := 2) sc__law_root.nd (d_opj o_add (d_varj 0) d_intj)) (ds_consj (dst_whilej PassesOwn.never (dt_cmpj o_gt (d_opj o_sub (d_varj 2) (d_varj 1)) d_intj (nomark _)) (ds_consj (dst_setj (i := 3) sc__law_root.nd (d_opj o_div (d_opj o_add (d_varj 1) (d_varj 2)) d_intj)) (ds_onej (dst_ifj (dt_cmpj o_le (d_opj o_mul (d_varj 3) (d_varj 3)) (d_varj 0) (nomark _)) (ds_onej (dst_setj (i := 1) sc__law_root.nd (d_varj 3))) (ds_onej (dst_setj (i := 2) sc__law_root.nd (d_varj 3))))))) (ds_onej (dst_retj (d_varj 1)))))), fun ds S k h => ?_⟩)
  · obtain ⟨_, rfl, _⟩ := h
    rfl
  · obtain ⟨n, rfl, h0, hb, q⟩ := h
    have bs : ∀ x : Int, 0 ≤ x → x ≤ n + 1 → Bt 4001 x := fun x h1 h2 => by
      unfold Bt at *
      have : (2 : Nat) ^ 4001 = 2 * 2 ^ 4000 := by rw [Nat.pow_succ]; omega
      omega
    refine ⟨fun m L S' => S' = S ∧ ∃ low high r, L = [some (.int n), some (.int low), some (.int high), r] ∧ m = (high - low).toNat ∧ 0 ≤ low ∧ low < high ∧ low * low ≤ n ∧ n < high * high ∧ high ≤ n + 1, ⟨_, rfl, 0, n + 1, _, rfl, rfl, by decide, by omega, (by show (0 : Int) * 0 ≤ n; omega), ?_, by omega⟩, ?_⟩
    · have := Int.mul_le_mul_of_nonneg_left (show (1 : Int) ≤ n + 1 by omega) (show 0 ≤ n + 1 by omega)
      omega
    · rintro m L S' ⟨rfl, low, high, r, rfl, rfl, l0, lh, s1, s2, hn⟩
      refine ite_dec (fun hl => ⟨fun L' S'' => ∃ m', m' < (high - low).toNat ∧ S'' = S' ∧ ∃ low high r, L' = [some (.int n), some (.int low), some (.int high), r] ∧ m' = (high - low).toNat ∧ 0 ≤ low ∧ low < high ∧ low * low ≤ n ∧ n < high * high ∧ high ≤ n + 1, fun _ _ z => z, ⟨by decide, by decide +kernel⟩, ?_⟩) (fun hl => ?_)
      · have e2 : (low + high).fdiv 2 = (low + high) / 2 := fdiv2 _ (by decide)
        have m1 : low < (low + high).fdiv 2 := by rw [e2]; omega
        have m2 : (low + high).fdiv 2 < high := by rw [e2]; omega
        have bm := bs ((low + high).fdiv 2) (by omega) (by omega)
        refine ⟨mok bm bm, ite_dec (fun hm => ?_) (fun hm => ?_)⟩
        · exact ⟨_, by omega, rfl, _, _, _, rfl, rfl, by omega, m2, hm, s2, hn⟩
        · exact ⟨_, by omega, rfl, _, _, _, rfl, rfl, l0, m1, s1, by omega, by omega⟩
      · rw [← known_last l0 s1 s2 lh hl] at q
        exact q
def F__law_made : DSp := fun ds S k => ∃ p q : Rat, ds = [fr p, fr q] ∧ Sz 3900 p ∧ Sz 3900 q ∧ ∀ S', Ext S S' → k (mkD p q) S'
theorem sc__law_made : FnScope ["part", "under", "roots", "sign"] ["part", "under"] (defScope s__law_made) := ⟨rfl, rfl, rfl, by decide +kernel, rfl, by decide +kernel, by decide +kernel⟩
theorem ok__law_made {P : Program} {w : World} {K : Fg} {mg : Str → Option Value} {base : Heap} {f : Addr} {fd : FuncData} (Fn : Fun K "_law_made" "_law_made" s__law_made f fd) (c__law_root : Own P w K mg base "_law_root" 1 F__law_root) (c__law_plus : Own P w K mg base "_law_plus" 35 F__law_plus) (c__law_ratio : Own P w K mg base "_law_ratio" 34 F__law_ratio) (z_abs : mg "abs" = none) (z_int : mg "int" = none) :
    FnOk P w K mg base CX0 36 f fd ["part", "under"] (spU K F__law_made) := by
  refine Fn.okJ sc__law_made (fun ds S k h => ?_) (fun cdv A outer s H E hr => ⟨_, (ds_consj (dst_setj (i := 2) sc__law_made.nd (d_lstj (da_consj (d_callj c__law_root (hr.mono (by decide)) rfl (da_consj (d_callBj b_abs rfl z_abs bt_abs (da_consj (d_ixj x_ixE (d_varj 1) d_intj (fun _ _ => rfl)) da_nilj)) da_nilj)) (da_consj (d_callj c__law_root (hr.mono (by decide)) rfl (da_consj (d_ixj x_ixE (d_varj 1) d_intj (fun _ _ => rfl)) da_nilj)) da_nilj)))) (ds_consj (dst_ifj (WJ.pt (dw_orj (dt_cmpj o_ne (d_opj o_mul (d_ixj x_ixE (d_varj 2) d_intj (fun _ _ => rfl)) (d_ixj x_ixE (d_varj 2) d_intj (fun _ _ => rfl))) (d_callBj b_abs rfl z_abs bt_abs (da_consj (d_ixj x_ixE (d_varj 1) d_intj (fun _ _ => rfl)) da_nilj)) (nomark _)) (dw_or1j (dt_cmpj o_ne (d_opj o_mul (d_ixj x_ixE (d_varj 2) d_intj (fun _ _ => rfl)) (d_ixj x_ixE (d_varj 2) d_intj (fun _ _ => rfl))) (d_ixj x_ixE (d_varj 1) d_intj (fun _ _ => rfl)) (nomark _))))) (ds_onej (dst_retj (d_tupj (da_consj (d_varj 0) (da_consj (d_varj 1) da_nilj))))) ds_nilj) (ds_consj (dst_setj (i := 3) sc__law_made.nd (d_opj o_sub (d_callTj b_int rfl z_int bt_int (da_consj (d_cmpj o_gt (d_ixj x_ixE (d_varj 1) d_intj (fun _ _ => rfl)) d_intj (nomark _)) da_nilj)) (d_callTj b_int rfl z_int bt_int (da_consj (d_cmpj o_lt (d_ixj x_ixE (d_varj 1) d_intj (fun _ _ => rfl)) d_intj (nomark _)) da_nilj)))) (ds_onej (dst_retj (d_tupj (da_consj (d_callj c__law_plus (hr.mono (by decide)) rfl (da_consj (d_varj 0) (da_consj (d_callj c__law_ratio (hr.mono (by decide)) rfl (da_consj (d_opj o_mul (d_varj 3) (d_ixj x_ixE (d_varj 2) d_intj (fun _ _ => rfl))) (da_consj (d_ixj x_ixE (d_varj 2) d_intj (fun _ _ => rfl)) da_nilj))) da_nilj))) (da_consj (d_tupj (da_consj d_intj (da_consj d_intj da_nilj))) da_nilj)))))))), fun ds S k h => ?_⟩)
  · obtain ⟨_, _, rfl, _⟩ := h
    rfl
  · obtain ⟨p, q, rfl, hp, hq, w0⟩ := h
    have h1 : NoSq (ab q) → ∀ S', Ext S S' → k (.tup [fr p, fr q]) S' := fun no S' e => by have := w0 S' e; rw [mkD_no no] at this; exact this
    have h2 : ∀ r, 0 ≤ r → r * r = ab q → ∀ S', Ext S S' → k (.tup [fr (p + sg r q), fr 0]) S' := fun r r0 rr S' e => by have := w0 S' e; rw [mkD_root r0 rr] at this; exact this
    have a0 := ab_nn q
    have ba : Bt 3900 (absI q.num) := absI_bt hq.num
    have n0 : 0 ≤ absI q.num := absI_nn _
    have d0 : (0 : Int) ≤ (q.den : Int) := by omega
    have bi := isq_bt n0 ba
    have bj := isq_bt d0 hq.den
    refine ⟨_, rfl, n0, ba.mono (by decide), _, rfl, d0, hq.den.mono (by decide), few, fun pl hpl => ?_⟩
    have eP : Ext S (put S pl (.lst [.int (isq (absI q.num)), .int (isq (q.den : Int))])) := Ext.new hpl
    have yP : put S pl (.lst [.int (isq (absI q.num)), .int (isq (q.den : Int))]) pl = some (.lst [.int (isq (absI q.num)), .int (isq (q.den : Int))]) := put_same
    refine ⟨_, _, yP, atI0, _, _, yP, atI0, mok bi bi, ite_ndec (fun n1 => ?_) (fun e1 => ⟨_, _, yP, atI1, _, _, yP, atI1, mok bj bj, ite_ndec (fun n2 => ?_) (fun e2 => ?_)⟩)⟩
    · refine ⟨few, h1 (fun r e => n1 ?_) _ eP⟩
      have := congrArg Rat.num e
      rw [sq_num, ab_num] at this
      exact isq_sq this
    · refine ⟨few, h1 (fun r e => n2 ?_) _ eP⟩
      have := congrArg (fun z : Rat => (z.den : Int)) e
      simp only [sq_den, ab_den, Int.natCast_mul] at this
      exact isq_sq this
    · obtain ⟨r, r0, rr⟩ := sq_of_root (q := ab q) a0 (by rw [ab_num]; exact e1) (by rw [ab_den]; exact e2)
      obtain ⟨e3, e4⟩ := root_of_sq r0 rr
      rw [ab_num] at e3
      rw [ab_den] at e4
      have sr := hq.ab.root rr
      have w := h2 r r0 rr _ eP
      have bs : Bt 1 (sI q.num) := by
        unfold sI Bt
        split <;> split <;> decide
      have e3' : isq (absI q.num) = r.num := e3
      rw [e3', e4] at yP w
      have e5 : Rat.divInt (sI q.num * r.num) (r.den : Int) = sg r q := canon_sg r0 rr
      have se : Sz 3900 (Rat.divInt (sI q.num * r.num) (r.den : Int)) := by rw [e5]; exact sr.sg
      rw [← e5] at w
      have fin : ∀ T : DH, T pl = some (.lst [.int r.num, .int (r.den : Int)]) → k (.tup [fr (p + Rat.divInt (sI q.num * r.num) (r.den : Int)), fr 0]) T → dSeq (dSet 3 (dOp dSub (dCall bInt (dCons (dOp dGt (dOp dIxE (dVar 1) (dC (D.int 0))) (dC (D.int 0))) dNil)) (dCall bInt (dCons (dOp dLt (dOp dIxE (dVar 1) (dC (D.int 0))) (dC (D.int 0))) dNil)))) (dRet (dTup (dCons (dCall F__law_plus (dCons (dVar 0) (dCons (dCall F__law_ratio (dCons (dOp dMul (dVar 3) (dOp dIxE (dVar 2) (dC (D.int 0)))) (dCons (dOp dIxE (dVar 2) (dC (D.int 1))) dNil))) dNil))) (dCons (dTup (dCons (dC (D.int 0)) (dCons (dC (D.int 1)) dNil))) dNil)))) { nx := fun x S' => k D.non S', rt := k } [some (fr p), some (fr q), some (.ref pl), none] T := fun T yT wT =>
        ⟨_, _, yT, atI0, mok bs sr.num, _, _, yT, atI1, _, _, rfl, den_ne r, sr.den.mono (by decide), _, _, _, _, _, rfl, den_mul_ne _ _, hp.num.mono (by decide), hp.den.mono (by decide), se.num.mono (by decide), se.den.mono (by decide), add_of _ _, few, few, wT⟩
      have z := fin _ yP w
      rw [← e3', ← e4] at z
      exact z
theorem imul_of (i : Int) (q : Rat) : Rat.divInt (i * q.num) (1 * (q.den : Int)) = (i : Rat) * q := by
  have := mul_of (i : Rat) q
  rw [Rat.num_intCast, Rat.den_intCast] at this
  exact this
def F__law_signed : DSp := fun ds S k => ∃ n s : Rat, ds = [fr n, fr s] ∧ Sz 200 n ∧ Sz 3000 s ∧ k (fr (ss n * s)) S
theorem sc__law_signed : FnScope ["number", "square"] ["number", "square"] (defScope s__law_signed) := ⟨rfl, rfl, rfl, by decide +kernel, rfl, by decide +kernel, by decide +kernel⟩
theorem ok__law_signed {P : Program} {w : World} {K : Fg} {mg : Str → Option Value} {base : Heap} {f : Addr} {fd : FuncData} (Fn : Fun K "_law_signed" "_law_signed" s__law_signed f fd) (c__law_times : Own P w K mg base "_law_times" 35 F__law_times) (z_abs : mg "abs" = none) :
    FnOk P w K mg base CX0 36 f fd ["number", "square"] (spU K F__law_signed) := by
  refine Fn.okJ sc__law_signed (fun ds S k h => ?_) (fun cdv A outer s H E hr => ⟨_, (ds_onej (dst_retj (d_callj c__law_times (hr.mono (by decide)) rfl (da_consj (d_callj c__law_times (hr.mono (by decide)) rfl (da_consj (d_varj 0) (da_consj (d_tupj (da_consj (d_callBj b_abs rfl z_abs bt_abs (da_consj (d_ixj x_ixE (d_varj 0) d_intj (fun _ _ => rfl)) da_nilj)) (da_consj (d_ixj x_ixE (d_varj 0) d_intj (fun _ _ => rfl)) da_nilj))) da_nilj))) (da_consj (d_varj 1) da_nilj))))), fun ds S k h => ?_⟩)
  · obtain ⟨_, _, rfl, _⟩ := h
    rfl
  · obtain ⟨n, s', rfl, hn, hs, w⟩ := h
    have e : Rat.divInt (n.num * (if n.num < 0 then -n.num else n.num)) ((n.den : Int) * (n.den : Int)) = n * ab n := by
      have := mul_of n (ab n)
      rw [ab_num, ab_den] at this
      exact this
    have ba : Bt 200 (if n.num < 0 then -n.num else n.num) := absI_bt hn.num
    have sn := hn.mul hn.ab
    exact ⟨few, _, _, _, _, _, rfl, den_mul_ne n n, hn.num.mono (by decide), hn.den.mono (by decide), ba.mono (by decide), hn.den.mono (by decide), e, _, _, _, _, _, rfl, den_mul_ne _ _, sn.num.mono (by decide), sn.den.mono (by decide), hs.num.mono (by decide), hs.den.mono (by decide), mul_of _ _, w⟩
end My
namespace My
open PySem PySem.Spec PyProof.Rows L2 DL HM
set_option maxHeartbeats 4000000
theorem notsq {m n : Nat} (h1 : m * m < n) (h2 : n < (m + 1) * (m + 1)) (k : Nat) : k * k ≠ n := fun e => by
  subst e
  rcases Nat.lt_or_ge m k with h | h
  · have := Nat.mul_le_mul (show m + 1 ≤ k from h) (show m + 1 ≤ k from h)
    omega
  · have := Nat.mul_le_mul h h
    omega
theorem no_num {q : Rat} {m n : Nat} (h : q.num = (n : Int)) (h1 : m * m < n) (h2 : n < (m + 1) * (m + 1)) : NoSq q := fun r e => by
  have e1 := congrArg Rat.num e
  rw [sq_num, h] at e1
  have := congrArg Int.natAbs e1
  rw [Int.natAbs_mul] at this
  exact notsq h1 h2 _ this
theorem two_fd : Fd 2 := ⟨by decide, no_num (q := 2) (m := 1) (n := 2) rfl (by decide) (by decide), (show Sz 2 2 from ⟨by decide, by decide⟩).mono (by decide)⟩
theorem pp_as {u x y : Rat} : PP x y = Pq u (qo x) (qo y) := by
  unfold PP Pq qo
  rw [plain_as (u := u), plain_as (u := u)]
theorem no_mul {a s : Rat} (no : NoSq s) (ha : a ≠ 0) : NoSq (a * a * s) := fun r e => no (r / a) (by
  have h : r / a * a = r := Rat.div_mul_cancel ha
  generalize r / a = t at h
  subst h
  have : a * a * (t * t - s) = 0 := by grind
  have h2 : a * a ≠ 0 := by grind
  grind)
theorem mk_no {p a s : Rat} (s0 : 0 < s) (no : NoSq s) : mkD p (ss a * s) = N s p a := by
  by_cases ha : a = 0
  · subst ha
    rw [show ss 0 * s = 0 by unfold ss; grind, mkD_zero]
    exact plain_as
  · rw [mkD_no (by rw [ab_ss s0]; exact no_mul no ha)]
    rfl
theorem mk_sq {p a ρ : Rat} (r0 : 0 < ρ) : mkD p (ss a * (ρ * ρ)) = .tup [fr (p + a * ρ), fr 0] := by
  have s0 : 0 < ρ * ρ := Rat.mul_pos r0 r0
  have n1 : 0 ≤ ab a * ρ := Rat.mul_nonneg (ab_nn a) (Rat.le_of_lt r0)
  have n2 : ab a * ρ * (ab a * ρ) = ab (ss a * (ρ * ρ)) := by
    rw [ab_ss s0]
    unfold ab
    split <;> grind
  rw [mkD_root n1 n2]
  have e : sg (ab a * ρ) (ss a * (ρ * ρ)) = a * ρ := by
    have h := sgR_ss (b := a) s0
    unfold sg ab
    rcases tri a with z | z | z
    · have : ¬ ss a * (ρ * ρ) < 0 := fun q => by rw [sgR_neg q, sgR_pos z] at h; exact absurd h (by decide)
      rw [if_neg this, if_neg (by grind)]
    · have : ss a * (ρ * ρ) < 0 := by
        have : sgR (ss a * (ρ * ρ)) = -1 := by rw [h, sgR_neg z]
        unfold sgR at this
        split at this
        · exact absurd this (by decide)
        · split at this
          · assumption
          · exact absurd this (by decide)
      rw [if_pos this, if_pos z]; grind
    · subst z
      split <;> grind
  rw [e]
theorem sq_or {s : Rat} (s0 : 0 < s) : NoSq s ∨ ∃ ρ, 0 < ρ ∧ ρ * ρ = s := by
  by_cases h : ∃ r, r * r = s
  · obtain ⟨r, e⟩ := h
    right
    rcases tri r with z | z | z
    · exact ⟨r, z, e⟩
    · exact ⟨-r, by grind, by grind⟩
    · subst z; grind
  · exact .inl fun r e => h ⟨r, e⟩
theorem MP_no {x y a b s : Rat} (s0 : 0 < s) (no : NoSq s) : MP x y a b s = Pq s (x, a) (y, b) := by
  unfold MP
  rw [mk_no s0 no, mk_no s0 no]
  rfl
theorem MP_sq {x y a b ρ : Rat} (r0 : 0 < ρ) : MP x y a b (ρ * ρ) = PP (x + a * ρ) (y + b * ρ) := by
  unfold MP
  rw [mk_sq r0, mk_sq r0]
  rfl
theorem half_lt {n m : Nat} (h : n * n < 2 ^ (2 * m)) : n < 2 ^ m := by
  rcases Nat.lt_or_ge n (2 ^ m) with z | z
  · exact z
  · have h2 := Nat.mul_le_mul z z
    rw [← Nat.pow_add, show m + m = 2 * m by omega] at h2
    omega
theorem root_half {m : Nat} {q r : Rat} (h : Sz (2 * m) q) (e : r * r = q) : Sz m r := by
  subst e
  have h1 : (r * r).num.natAbs < 2 ^ (2 * m) := h.num
  have h2 : ((r * r).den : Int).natAbs < 2 ^ (2 * m) := h.den
  rw [sq_num, Int.natAbs_mul] at h1
  rw [sq_den, Int.natAbs_natCast] at h2
  exact ⟨half_lt h1, by show ((r.den : Nat) : Int).natAbs < 2 ^ m; rw [Int.natAbs_natCast]; exact half_lt h2⟩
structure Pt (κ : Bool) (u : Rat) (X Y : Q) (d : D) : Prop where
  fd : Fd u
  eq : d = Pq u X Y
  x : Sq 1600 X
  y : Sq 1600 Y
  ux : Sz 1500 (ss X.2 * u)
  uy : Sz 1500 (ss Y.2 * u)
structure CPf (x y s z v r : Rat) (σ : Int) (κ : Bool) (u : Rat) (X Y : Q) (d : D) : Prop where
  pt : Pt κ u X Y d
  one : squareQ u (qs X (qo x)) (qs Y (qo y)) = (s, 0)
  two : squareQ u (qs X (qo z)) (qs Y (qo v)) = (r, 0)
  side : sq2 (sideQ u (qo x) (qo y) (qo z) (qo v) X Y).1 (sideQ u (qo x) (qo y) (qo z) (qo v) X Y).2 u = σ
  s1 : Sz 1900 (sideQ u (qo x) (qo y) (qo z) (qo v) X Y).1
  s2 : Sz 900 (sideQ u (qo x) (qo y) (qo z) (qo v) X Y).2
def CP (x y s z v r : Rat) (σ : Int) (d : D) : Prop := ∃ κ u X Y, CPf x y s z v r σ κ u X Y d
theorem sq_pos {b : Rat} (h : b ≠ 0) : 0 < b * b := by
  rcases tri b with z | z | z
  · exact Rat.mul_pos z z
  · have := Rat.mul_pos (show 0 < -b by grind) (show 0 < -b by grind); grind
  · exact absurd z h
theorem sq2_b {b u : Rat} (u0 : 0 < u) (h : b ≠ 0) : sq2 0 b u = sgR b := sq2_n (by
  have := Rat.mul_pos (sq_pos h) u0
  grind)
theorem sq2_a {a u : Rat} : sq2 a 0 u = sgR a := by
  unfold sq2
  split
  · rfl
  · rename_i h
    have : a = 0 := by
      rcases tri a with z | z | z
      · have := Rat.mul_pos z z; grind
      · have := Rat.mul_pos (show 0 < -a by grind) (show 0 < -a by grind); grind
      · exact z
    rw [this]
theorem circ_no {x y s z v r t A e σ : Rat} (hσ : σ * σ = 1) (hA : A = (z - x) * (z - x) + (v - y) * (v - y)) (ht : t * (A + A) = s - r + A) (he : e * A = s - t * t * A) :
    squareQ e (qs (x + (z - x) * t, σ * -(v - y)) (qo x)) (qs (y + (v - y) * t, σ * (z - x)) (qo y)) = (s, 0) ∧ squareQ e (qs (x + (z - x) * t, σ * -(v - y)) (qo z)) (qs (y + (v - y) * t, σ * (z - x)) (qo v)) = (r, 0) ∧
    sideQ e (qo x) (qo y) (qo z) (qo v) (x + (z - x) * t, σ * -(v - y)) (y + (v - y) * t, σ * (z - x)) = (0, σ * A) := by
  simp only [squareQ, sideQ, qa, qm, qs, qo]
  refine ⟨Prod.ext ?_ ?_, Prod.ext ?_ ?_, Prod.ext ?_ ?_⟩ <;> dsimp only <;> grind
theorem circ_sq {u x y s z v r t A ρ σ : Rat} (hσ : σ * σ = 1) (hA : A = (z - x) * (z - x) + (v - y) * (v - y)) (ht : t * (A + A) = s - r + A) (he : ρ * ρ * A = s - t * t * A) :
    squareQ u (qs (qo (x + (z - x) * t + σ * -(v - y) * ρ)) (qo x)) (qs (qo (y + (v - y) * t + σ * (z - x) * ρ)) (qo y)) = (s, 0) ∧ squareQ u (qs (qo (x + (z - x) * t + σ * -(v - y) * ρ)) (qo z)) (qs (qo (y + (v - y) * t + σ * (z - x) * ρ)) (qo v)) = (r, 0) ∧
    sideQ u (qo x) (qo y) (qo z) (qo v) (qo (x + (z - x) * t + σ * -(v - y) * ρ)) (qo (y + (v - y) * t + σ * (z - x) * ρ)) = (σ * A * ρ, 0) := by
  simp only [squareQ, sideQ, qa, qm, qs, qo]
  refine ⟨Prod.ext ?_ ?_, Prod.ext ?_ ?_, Prod.ext ?_ ?_⟩ <;> dsimp only <;> grind
theorem A_pos {a b : Rat} (h : a * a + b * b ≠ 0) : 0 < a * a + b * b := by
  have := rat_sq_nonneg a
  have := rat_sq_nonneg b
  grind
structure Sgn (σ : Rat) : Prop where
  sq : σ * σ = 1
  sz : Sz 1 σ
theorem sgn1 : Sgn 1 := ⟨by decide +kernel, ⟨by decide, by decide⟩⟩
theorem sgn2 : Sgn (-1) := ⟨by decide +kernel, ⟨by decide, by decide⟩⟩
theorem Sgn.ne {σ : Rat} (h : Sgn σ) : σ ≠ 0 := fun z => by have := h.sq; rw [z] at this; exact absurd this (by decide +kernel)
def cT (x y s z v r : Rat) : Rat := ((s - r) + ((z - x) * (z - x) + (v - y) * (v - y))) / (((z - x) * (z - x) + (v - y) * (v - y)) + ((z - x) * (z - x) + (v - y) * (v - y)))
def cE (x y s z v r : Rat) : Rat := s / ((z - x) * (z - x) + (v - y) * (v - y)) - cT x y s z v r * cT x y s z v r
noncomputable def cL (x y s z v r : Rat) : List D := bothL (x + (z - x) * cT x y s z v r) (y + (v - y) * cT x y s z v r) (-(v - y)) (z - x) (cE x y s z v r)
theorem two_ne {A : Rat} (h : A ≠ 0) : A + A ≠ 0 := by grind
section
variable {x y s z v r : Rat}
theorem cT_eq (h0 : (z - x) * (z - x) + (v - y) * (v - y) ≠ 0) : cT x y s z v r * (((z - x) * (z - x) + (v - y) * (v - y)) + ((z - x) * (z - x) + (v - y) * (v - y))) = s - r + ((z - x) * (z - x) + (v - y) * (v - y)) := Rat.div_mul_cancel (two_ne h0)
theorem cE_eq (h0 : (z - x) * (z - x) + (v - y) * (v - y) ≠ 0) : cE x y s z v r * ((z - x) * (z - x) + (v - y) * (v - y)) = s - cT x y s z v r * cT x y s z v r * ((z - x) * (z - x) + (v - y) * (v - y)) := by
  have h : s / ((z - x) * (z - x) + (v - y) * (v - y)) * ((z - x) * (z - x) + (v - y) * (v - y)) = s := Rat.div_mul_cancel h0
  unfold cE
  generalize s / ((z - x) * (z - x) + (v - y) * (v - y)) = q at h ⊢
  grind
theorem CP_no {σ : Rat} {i : Int} (hσ : Sgn σ) (hi : sgR σ = i) (hx : Sz 34 x) (hy : Sz 34 y) (hs : Sz 28 s) (hz : Sz 14 z) (hv : Sz 1 v) (hr : Sz 28 r) (h0 : (z - x) * (z - x) + (v - y) * (v - y) ≠ 0) (e0 : 0 < cE x y s z v r) (no : NoSq (cE x y s z v r)) :
    CP x y s z v r i (Pq (cE x y s z v r) (x + (z - x) * cT x y s z v r, σ * -(v - y)) (y + (v - y) * cT x y s z v r, σ * (z - x))) := by
  have sa := hz.sub hx
  have sb := hv.sub hy
  have sA := (sa.mul sa).add (sb.mul sb)
  have st := ((hs.sub hr).add sA).div (sA.add sA) (two_ne h0)
  have se' : Sz (2 * 672) (cE x y s z v r) := (hs.div sA h0).sub (st.mul st)
  have se : Sz 2800 (cE x y s z v r) := ((hs.div sA h0).sub (st.mul st)).mono (by decide)
  obtain ⟨f1, f2, f3⟩ := circ_no (e := cE x y s z v r) hσ.sq rfl (cT_eq (s := s) (r := r) h0) (cE_eq (s := s) (r := r) h0)
  refine ⟨false, _, _, _, ⟨⟨e0, no, se⟩, rfl, ⟨(hx.add (sa.mul st)).mono (by decide), (hσ.sz.mul sb.neg).mono (by decide)⟩, ⟨(hy.add (sb.mul st)).mono (by decide), (hσ.sz.mul sa).mono (by decide)⟩, ((hσ.sz.mul sb.neg).ss.mul se').mono (by decide), ((hσ.sz.mul sa).ss.mul se').mono (by decide)⟩, f1, f2, ?_, ?_, ?_⟩
  · rw [f3]
    have hA := A_pos h0
    show sq2 0 _ _ = _
    rw [sq2_b e0 (by have := hσ.ne; grind), sgR_mul, sgR_pos hA, hi, Int.mul_one]
  · rw [f3]; exact Sz.zero.mono (by decide)
  · rw [f3]; exact (hσ.sz.mul sA).mono (by decide)
theorem CP_sq {σ ρ : Rat} {i : Int} (hσ : Sgn σ) (hi : sgR (σ * ρ) = i) (hx : Sz 34 x) (hy : Sz 34 y) (hs : Sz 28 s) (hz : Sz 14 z) (hv : Sz 1 v) (hr : Sz 28 r) (h0 : (z - x) * (z - x) + (v - y) * (v - y) ≠ 0) (eρ : ρ * ρ = cE x y s z v r) :
    CP x y s z v r i (PP (x + (z - x) * cT x y s z v r + σ * -(v - y) * ρ) (y + (v - y) * cT x y s z v r + σ * (z - x) * ρ)) := by
  have sa := hz.sub hx
  have sb := hv.sub hy
  have sA := (sa.mul sa).add (sb.mul sb)
  have st := ((hs.sub hr).add sA).div (sA.add sA) (two_ne h0)
  have se : Sz (2 * 672) (cE x y s z v r) := (hs.div sA h0).sub (st.mul st)
  have sρ : Sz 672 ρ := root_half se eρ
  have z2 : Sz 1500 (ss 0 * 2) := by rw [ss_of_zero, Rat.zero_mul]; exact Sz.zero.mono (by decide)
  have he : ρ * ρ * ((z - x) * (z - x) + (v - y) * (v - y)) = s - cT x y s z v r * cT x y s z v r * ((z - x) * (z - x) + (v - y) * (v - y)) := by rw [eρ]; exact cE_eq h0
  obtain ⟨f1, f2, f3⟩ := circ_sq (u := 2) hσ.sq rfl (cT_eq (s := s) (r := r) h0) he
  refine ⟨true, 2, qo _, qo _, ⟨⟨two_fd, pp_as, ⟨((hx.add (sa.mul st)).add ((hσ.sz.mul sb.neg).mul sρ)).mono (by decide), Sz.zero.mono (by decide)⟩, ⟨((hy.add (sb.mul st)).add ((hσ.sz.mul sa).mul sρ)).mono (by decide), Sz.zero.mono (by decide)⟩, z2, z2⟩, f1, f2, ?_, ?_, ?_⟩⟩
  · rw [f3]
    show sq2 _ 0 _ = _
    rw [sq2_a, show σ * ((z - x) * (z - x) + (v - y) * (v - y)) * ρ = (σ * ρ) * ((z - x) * (z - x) + (v - y) * (v - y)) by grind, sgR_mul, sgR_pos (A_pos h0), hi, Int.mul_one]
  · rw [f3]; exact ((hσ.sz.mul sA).mul sρ).mono (by decide)
  · rw [f3]; exact Sz.zero.mono (by decide)
theorem cL_cases (hx : Sz 34 x) (hy : Sz 34 y) (hs : Sz 28 s) (hz : Sz 14 z) (hv : Sz 1 v) (hr : Sz 28 r) (h0 : (z - x) * (z - x) + (v - y) * (v - y) ≠ 0) :
    cL x y s z v r = [] ∨ (∃ d, cL x y s z v r = [d] ∧ CP x y s z v r 0 d) ∨ ∃ d e, cL x y s z v r = [d, e] ∧ CP x y s z v r 1 d ∧ CP x y s z v r (-1) e := by
  rcases tri (cE x y s z v r) with e0 | e0 | e0
  · have nn : ¬ cE x y s z v r < 0 := by grind
    have nz : cE x y s z v r ≠ 0 := by grind
    have eL : cL x y s z v r = [MP (x + (z - x) * cT x y s z v r) (y + (v - y) * cT x y s z v r) (-(v - y)) (z - x) (cE x y s z v r), MP (x + (z - x) * cT x y s z v r) (y + (v - y) * cT x y s z v r) (- -(v - y)) (-(z - x)) (cE x y s z v r)] := by
      unfold cL bothL; rw [if_neg nn, if_neg nz]
    refine .inr (.inr ⟨_, _, eL, ?_⟩)
    rcases sq_or e0 with no | ⟨ρ, r0, eρ⟩
    · rw [MP_no e0 no, MP_no e0 no]
      have c1 := CP_no (i := 1) sgn1 (by decide +kernel) hx hy hs hz hv hr h0 e0 no
      have c2 := CP_no (i := -1) sgn2 (by decide +kernel) hx hy hs hz hv hr h0 e0 no
      rw [show (1 : Rat) * -(v - y) = -(v - y) by grind, show (1 : Rat) * (z - x) = z - x by grind] at c1
      rw [show (-1 : Rat) * -(v - y) = - -(v - y) by grind, show (-1 : Rat) * (z - x) = -(z - x) by grind] at c2
      exact ⟨c1, c2⟩
    · have m1 := MP_sq (x := x + (z - x) * cT x y s z v r) (y := y + (v - y) * cT x y s z v r) (a := -(v - y)) (b := z - x) r0
      have m2 := MP_sq (x := x + (z - x) * cT x y s z v r) (y := y + (v - y) * cT x y s z v r) (a := - -(v - y)) (b := -(z - x)) r0
      rw [eρ] at m1 m2
      rw [m1, m2]
      have c1 := CP_sq (σ := 1) (i := 1) sgn1 (by rw [show (1 : Rat) * ρ = ρ by grind]; exact sgR_pos r0) hx hy hs hz hv hr h0 eρ
      have c2 := CP_sq (σ := -1) (i := -1) sgn2 (by rw [show (-1 : Rat) * ρ = -ρ by grind]; exact sgR_neg (by grind)) hx hy hs hz hv hr h0 eρ
      rw [show (1 : Rat) * -(v - y) = -(v - y) by grind, show (1 : Rat) * (z - x) = z - x by grind] at c1
      rw [show (-1 : Rat) * -(v - y) = - -(v - y) by grind, show (-1 : Rat) * (z - x) = -(z - x) by grind] at c2
      exact ⟨c1, c2⟩
  · exact .inl (if_pos e0)
  · refine .inr (.inl ⟨PP (x + (z - x) * cT x y s z v r) (y + (v - y) * cT x y s z v r), ?_, ?_⟩)
    · unfold cL bothL; rw [if_neg (by rw [e0]; decide), if_pos e0]
    · have c := CP_sq (σ := 1) (ρ := 0) (i := 0) sgn1 (by decide +kernel) hx hy hs hz hv hr h0 (by rw [e0]; decide +kernel)
      rw [show x + (z - x) * cT x y s z v r + 1 * -(v - y) * 0 = x + (z - x) * cT x y s z v r by grind, show y + (v - y) * cT x y s z v r + 1 * (z - x) * 0 = y + (v - y) * cT x y s z v r by grind] at c
      exact c
end
noncomputable def sL (a b c g : Rat) (o : Option Rat) : List D := (cL (dirX o * a) (dirY o * a) (b * b) g 0 (c * c)).map fun p => .tup [PP (dirX o * a) (dirY o * a), p]
def apA (a g : Rat) (o : Option Rat) : Rat := (g - dirX o * a) * (g - dirX o * a) + (0 - dirY o * a) * (0 - dirY o * a)
end My
namespace My
open PySem PySem.Spec PyProof.Rows L2 DL HM
set_option maxHeartbeats 4000000
def F__law_end : DSp := fun ds S k => ∃ (a b c g : Rat) (o : Option Rat), ds = [RD a b c g, drD o] ∧ Sz 14 a ∧ DrOk o ∧ ∀ S' p, Ext S S' → S' p = some (.lst [fr (dirX o * a), fr (dirY o * a)]) → k (.ref p) S'
theorem sc__law_end : FnScope ["rods", "drive", "square", "by"] ["rods", "drive"] (defScope s__law_end) := ⟨rfl, rfl, rfl, by decide +kernel, rfl, by decide +kernel, by decide +kernel⟩
theorem ok__law_end {P : Program} {w : World} {K : Fg} {mg : Str → Option Value} {base : Heap} {f : Addr} {fd : FuncData} (Fn : Fun K "_law_end" "_law_end" s__law_end f fd) (c__law_times : Own P w K mg base "_law_times" 35 F__law_times) (c__law_over : Own P w K mg base "_law_over" 35 F__law_over) (c__law_plus : Own P w K mg base "_law_plus" 35 F__law_plus) (c__law_minus : Own P w K mg base "_law_minus" 35 F__law_minus) :
    FnOk P w K mg base CX0 36 f fd ["rods", "drive"] (spU K F__law_end) := by
  refine Fn.okJ sc__law_end (fun ds S k h => ?_) (fun cdv A outer s H E hr => ⟨_, (ds_consj (dst_ifj (dt_cmpj o_is (d_varj 1) d_nonj (nomark _)) (ds_onej (dst_retj (d_lstj (da_consj (d_tupj (da_consj (d_opj o_sub d_intj (d_ixj x_ixE (d_ixj x_ixE (d_varj 0) d_intj (fun _ _ => rfl)) d_intj (fun _ _ => rfl))) (da_consj (d_ixj x_ixE (d_ixj x_ixE (d_varj 0) d_intj (fun _ _ => rfl)) d_intj (fun _ _ => rfl)) da_nilj))) (da_consj (d_tupj (da_consj d_intj (da_consj d_intj da_nilj))) da_nilj))))) ds_nilj) (ds_consj (dst_setj (i := 2) sc__law_end.nd (d_callj c__law_times (hr.mono (by decide)) rfl (da_consj (d_varj 1) (da_consj (d_varj 1) da_nilj)))) (ds_consj (dst_setj (i := 3) sc__law_end.nd (d_callj c__law_over (hr.mono (by decide)) rfl (da_consj (d_ixj x_ixE (d_varj 0) d_intj (fun _ _ => rfl)) (da_consj (d_callj c__law_plus (hr.mono (by decide)) rfl (da_consj (d_tupj (da_consj d_intj (da_consj d_intj da_nilj))) (da_consj (d_varj 2) da_nilj))) da_nilj)))) (ds_onej (dst_retj (d_lstj (da_consj (d_callj c__law_times (hr.mono (by decide)) rfl (da_consj (d_varj 3) (da_consj (d_callj c__law_minus (hr.mono (by decide)) rfl (da_consj (d_tupj (da_consj d_intj (da_consj d_intj da_nilj))) (da_consj (d_varj 2) da_nilj))) da_nilj))) (da_consj (d_callj c__law_times (hr.mono (by decide)) rfl (da_consj (d_varj 3) (da_consj (d_callj c__law_times (hr.mono (by decide)) rfl (da_consj (d_tupj (da_consj d_intj (da_consj d_intj da_nilj))) (da_consj (d_varj 1) da_nilj))) da_nilj))) da_nilj)))))))), fun ds S k h => ?_⟩)
  · obtain ⟨_, _, _, _, _, rfl, _⟩ := h
    rfl
  · obtain ⟨a, b, c, g, o, rfl, ha, ho, w⟩ := h
    cases o with
    | none =>
      refine ⟨few, few, few, fun p hp => w _ p (Ext.new hp) ?_⟩
      rw [put_same, show dirX none * a = -a by show (-1 : Rat) * a = -a; grind, show dirY none * a = 0 from Rat.zero_mul a, ← fr_neg, ← Int.zero_sub]
      rfl
    | some t =>
      have s := ho t rfl
      have st := s.mul s
      have h1 := one_sq_ne t
      have s1 := sz_one.add st
      have s2 := sz_one.sub st
      have sb := ha.div s1 h1
      have b2 : Sz 4 2 := ⟨by decide, by decide⟩
      have e1 : a / (1 + t * t) * (1 - t * t) = dirX (some t) * a := by
        show _ = (1 - t * t) / (1 + t * t) * a
        rw [Rat.div_def, Rat.div_def]
        grind
      have e2 : a / (1 + t * t) * (2 * t) = dirY (some t) * a := by
        show _ = (t + t) / (1 + t * t) * a
        rw [Rat.div_def, Rat.div_def]
        grind
      refine ⟨_, _, _, _, _, rfl, den_mul_ne t t, s.num.mono (by decide), s.den.mono (by decide), s.num.mono (by decide), s.den.mono (by decide), mul_of t t, few, _, _, _, _, _, rfl, den_mul_ne 1 (t * t), Bt.mono (m := 4) (by decide) (by decide), Bt.mono (m := 4) (by decide) (by decide), st.num.mono (by decide), st.den.mono (by decide), add_of 1 (t * t), a, _, rfl, h1, ha.mono (by decide), s1.mono (by decide), few, 1, _, rfl, sz_one.mono (by decide), st.mono (by decide), ?_⟩
      refine ⟨_, _, _, _, _, rfl, den_mul_ne _ _, sb.num.mono (by decide), sb.den.mono (by decide), s2.num.mono (by decide), s2.den.mono (by decide), (mul_of _ _).trans e1, few, _, _, _, _, _, rfl, den_mul_ne 2 t, Bt.mono (m := 4) (by decide) (by decide), Bt.mono (m := 4) (by decide) (by decide), s.num.mono (by decide), s.den.mono (by decide), mul_of 2 t, ?_⟩
      refine ⟨_, _, _, _, _, rfl, den_mul_ne _ _, sb.num.mono (by decide), sb.den.mono (by decide), (b2.mul s).num.mono (by decide), (b2.mul s).den.mono (by decide), (mul_of _ _).trans e2, few, fun p hp => w _ p (Ext.new hp) put_same⟩
end My
namespace My
open PySem PySem.Spec PyProof.Rows L2 DL HM
set_option maxHeartbeats 4000000
theorem both_zero {x y a b : Rat} : MP x y a b 0 = PP x y := by
  unfold MP PP
  rw [Rat.mul_zero, Rat.mul_zero, mkD_zero, mkD_zero]
noncomputable def elD (X Y bx by' W0 W1 s : Rat) (i : Int) : D := .tup [PP X Y, MP bx by' (((0 - i : Int) : Rat) * W1) ((i : Rat) * W0) s]
noncomputable def foL (X Y bx by' W0 W1 s : Rat) (is : List Int) : List D := if s < 0 then [] else is.map (elD X Y bx by' W0 W1 s)
def sgL (s : Rat) : List Int := if s = 0 then [1] else [1, -1]
theorem fo_both {X Y bx by' W0 W1 s : Rat} : foL X Y bx by' W0 W1 s (sgL s) = (bothL bx by' (-W1) W0 s).map fun p => .tup [PP X Y, p] := by
  unfold foL bothL sgL
  by_cases h : s < 0
  · rw [if_pos h, if_pos h]; rfl
  · rw [if_neg h, if_neg h]
    have e1 : ((0 - 1 : Int) : Rat) * W1 = -W1 := by show (-1 : Rat) * W1 = -W1; grind
    have e2 : ((1 : Int) : Rat) * W0 = W0 := by show (1 : Rat) * W0 = W0; grind
    have e3 : ((0 - -1 : Int) : Rat) * W1 = - -W1 := by show (1 : Rat) * W1 = _; grind
    have e4 : ((-1 : Int) : Rat) * W0 = -W0 := by show (-1 : Rat) * W0 = _; grind
    by_cases h0 : s = 0
    · rw [if_pos h0, if_pos h0]
      subst h0
      show [elD X Y bx by' W0 W1 0 1] = [D.tup [PP X Y, PP bx by']]
      unfold elD
      rw [both_zero]
    · rw [if_neg h0, if_neg h0]
      show [elD X Y bx by' W0 W1 s 1, elD X Y bx by' W0 W1 s (-1)] = [D.tup [PP X Y, MP bx by' (-W1) W0 s], D.tup [PP X Y, MP bx by' (- -W1) (-W0) s]]
      unfold elD
      rw [e1, e2, e3, e4]
theorem two_of' (A : Rat) : Rat.divInt (2 * A.num) (1 * (A.den : Int)) = A + A := by
  have h := mul_of (2 : Rat) A
  have e : (2 : Rat) * A = A + A := by grind
  rw [e] at h
  exact h
def F__law_stands : DSp := fun ds S k => ∃ (a b c g : Rat) (o : Option Rat), ds = [RD a b c g, drD o] ∧ R4 a b c g ∧ DrOk o ∧ (apA a g o = 0 → ∀ S', Ext S S' → k .non S') ∧ (apA a g o ≠ 0 → ∀ S' p, Ext S S' → S' p = some (.lst (sL a b c g o)) → k (.ref p) S')
theorem sc__law_stands : FnScope ["rods", "drive", "end", "way", "apart", "radius", "share_v", "aside", "base", "near", "found", "sign", "left", "far"] ["rods", "drive"] (defScope s__law_stands) := ⟨rfl, rfl, rfl, by decide +kernel, rfl, by decide +kernel, by decide +kernel⟩
theorem ok__law_stands {P : Program} {w : World} {K : Fg} {mg : Str → Option Value} {base : Heap} {f : Addr} {fd : FuncData} (Fn : Fun K "_law_stands" "_law_stands" s__law_stands f fd) (c__law_end : Own P w K mg base "_law_end" 36 F__law_end) (c__law_minus : Own P w K mg base "_law_minus" 35 F__law_minus) (c__law_plus : Own P w K mg base "_law_plus" 35 F__law_plus) (c__law_times : Own P w K mg base "_law_times" 35 F__law_times) (c__law_over : Own P w K mg base "_law_over" 35 F__law_over) (c__law_made : Own P w K mg base "_law_made" 36 F__law_made) (c__law_signed : Own P w K mg base "_law_signed" 36 F__law_signed) (z_range : mg "range" = none) (z_int : mg "int" = none) (z_tuple : mg "tuple" = none) :
    FnOk P w K mg base CX0 37 f fd ["rods", "drive"] (spU K F__law_stands) := by
  refine Fn.okJ sc__law_stands (fun ds S k h => ?_) (fun cdv A outer s H E hr => ⟨_, (ds_consj (dst_setj (i := 2) sc__law_stands.nd (d_callj c__law_end (hr.mono (by decide)) rfl (da_consj (d_varj 0) (da_consj (d_varj 1) da_nilj)))) (ds_consj (dst_setj (i := 3) sc__law_stands.nd (d_lstj (da_consj (d_callj c__law_minus (hr.mono (by decide)) rfl (da_consj (d_ixj x_ixE (d_varj 0) d_intj (fun _ _ => rfl)) (da_consj (d_ixj x_ixE (d_varj 2) d_intj (fun _ _ => rfl)) da_nilj))) (da_consj (d_callj c__law_minus (hr.mono (by decide)) rfl (da_consj (d_tupj (da_consj d_intj (da_consj d_intj da_nilj))) (da_consj (d_ixj x_ixE (d_varj 2) d_intj (fun _ _ => rfl)) da_nilj))) da_nilj)))) (ds_consj (dst_setj (i := 4) sc__law_stands.nd (d_callj c__law_plus (hr.mono (by decide)) rfl (da_consj (d_callj c__law_times (hr.mono (by decide)) rfl (da_consj (d_ixj x_ixE (d_varj 3) d_intj (fun _ _ => rfl)) (da_consj (d_ixj x_ixE (d_varj 3) d_intj (fun _ _ => rfl)) da_nilj))) (da_consj (d_callj c__law_times (hr.mono (by decide)) rfl (da_consj (d_ixj x_ixE (d_varj 3) d_intj (fun _ _ => rfl)) (da_consj (d_ixj x_ixE (d_varj 3) d_intj (fun _ _ => rfl)) da_nilj))) da_nilj)))) (ds_consj (dst_ifj (dt_cmpj o_eq (d_ixj x_ixE (d_varj 4) d_intj (fun _ _ => rfl)) d_intj (nomark _)) (ds_onej (dst_retj d_nonj)) ds_nilj) (ds_consj (dst_setj (i := 5) sc__law_stands.nd (d_callj c__law_times (hr.mono (by decide)) rfl (da_consj (d_ixj x_ixE (d_varj 0) d_intj (fun _ _ => rfl)) (da_consj (d_ixj x_ixE (d_varj 0) d_intj (fun _ _ => rfl)) da_nilj)))) (ds_consj (dst_setj (i := 6) sc__law_stands.nd (d_callj c__law_plus (hr.mono (by decide)) rfl (da_consj (d_callj c__law_minus (hr.mono (by decide)) rfl (da_consj (d_varj 5) (da_consj (d_callj c__law_times (hr.mono (by decide)) rfl (da_consj (d_ixj x_ixE (d_varj 0) d_intj (fun _ _ => rfl)) (da_consj (d_ixj x_ixE (d_varj 0) d_intj (fun _ _ => rfl)) da_nilj))) da_nilj))) (da_consj (d_varj 4) da_nilj)))) (ds_consj (dst_setj (i := 6) sc__law_stands.nd (d_callj c__law_over (hr.mono (by decide)) rfl (da_consj (d_varj 6) (da_consj (d_callj c__law_times (hr.mono (by decide)) rfl (da_consj (d_tupj (da_consj d_intj (da_consj d_intj da_nilj))) (da_consj (d_varj 4) da_nilj))) da_nilj)))) (ds_consj (dst_setj (i := 7) sc__law_stands.nd (d_callj c__law_minus (hr.mono (by decide)) rfl (da_consj (d_callj c__law_over (hr.mono (by decide)) rfl (da_consj (d_varj 5) (da_consj (d_varj 4) da_nilj))) (da_consj (d_callj c__law_times (hr.mono (by decide)) rfl (da_consj (d_varj 6) (da_consj (d_varj 6) da_nilj))) da_nilj)))) (ds_consj (dst_setj (i := 8) sc__law_stands.nd (d_compRj rfl (compSc (N := ["k", "end", "share_v", "way"]) (cap := [none, some 2, some 6, some 3]) rfl rfl rfl rfl ⟨rfl, rfl, rfl, trivial⟩ rfl rfl ⟨⟨rfl, .inl rfl, .inl rfl⟩, ⟨rfl, .inl rfl, .inl rfl⟩, ⟨rfl, .inl rfl, .inl rfl⟩, trivial⟩) rfl z_range (da_consj d_intj da_nilj) (fun _ _ _ _ => (dg_namej (i := 0) (show List.Nodup (["k", "end", "share_v", "way"] : List Str) from by decide +kernel))) (fun _ _ _ _ => (d_callj c__law_plus (hr.mono (by decide)) rfl (da_consj (d_ixj x_ixE (d_varj 1) (d_varj 0) (fun _ _ => rfl)) (da_consj (d_callj c__law_times (hr.mono (by decide)) rfl (da_consj (d_varj 2) (da_consj (d_ixj x_ixE (d_varj 3) (d_varj 0) (fun _ _ => rfl)) da_nilj))) da_nilj)))))) (ds_consj (dst_setj (i := 9) sc__law_stands.nd (d_tupj (da_consj (d_tupj (da_consj (d_ixj x_ixE (d_varj 2) d_intj (fun _ _ => rfl)) (da_consj (d_tupj (da_consj d_intj (da_consj d_intj da_nilj))) da_nilj))) (da_consj (d_tupj (da_consj (d_ixj x_ixE (d_varj 2) d_intj (fun _ _ => rfl)) (da_consj (d_tupj (da_consj d_intj (da_consj d_intj da_nilj))) da_nilj))) da_nilj)))) (ds_consj (dst_setj (i := 10) sc__law_stands.nd (d_lstj da_nilj)) (ds_consj (dst_forEj PassesOwn.never rfl (d_cutEj (d_lstj (da_consj d_intj (da_consj (d_unj o_neg d_intj) da_nilj))) do_nonej (do_somej (d_opj o_add d_intj (d_callTj b_int rfl z_int bt_int (da_consj (d_cmpj o_ne (d_ixj x_ixE (d_varj 7) d_intj (fun _ _ => rfl)) d_intj (nomark _)) da_nilj))))) (dg_namej (i := 11) sc__law_stands.nd) (ds_consj (dst_setj (i := 12) sc__law_stands.nd (d_lstj (da_consj (d_callj c__law_times (hr.mono (by decide)) rfl (da_consj (d_tupj (da_consj (d_opj o_sub d_intj (d_varj 11)) (da_consj d_intj da_nilj))) (da_consj (d_ixj x_ixE (d_varj 3) d_intj (fun _ _ => rfl)) da_nilj))) (da_consj (d_callj c__law_times (hr.mono (by decide)) rfl (da_consj (d_tupj (da_consj (d_varj 11) (da_consj d_intj da_nilj))) (da_consj (d_ixj x_ixE (d_varj 3) d_intj (fun _ _ => rfl)) da_nilj))) da_nilj)))) (ds_onej (dst_ifj (dt_cmpj o_ge (d_ixj x_ixE (d_varj 7) d_intj (fun _ _ => rfl)) d_intj (nomark _)) (ds_consj (dst_compRjS (iv := 13) sc__law_stands.nd rfl (compSc (N := ["k", "base", "aside", "left"]) (cap := [none, some 8, some 7, some 12]) rfl rfl rfl rfl ⟨rfl, rfl, rfl, trivial⟩ rfl rfl ⟨⟨rfl, .inl rfl, .inl rfl⟩, ⟨rfl, .inl rfl, .inl rfl⟩, ⟨rfl, .inl rfl, .inl rfl⟩, trivial⟩) rfl z_range (da_consj d_intj da_nilj) (fun _ _ _ _ => (dg_namej (i := 0) (show List.Nodup (["k", "base", "aside", "left"] : List Str) from by decide +kernel))) (fun _ _ _ _ => (d_callj c__law_made (hr.mono (by decide)) rfl (da_consj (d_ixj x_ixE (d_varj 1) (d_varj 0) (fun _ _ => rfl)) (da_consj (d_callj c__law_signed (hr.mono (by decide)) rfl (da_consj (d_ixj x_ixE (d_varj 3) (d_varj 0) (fun _ _ => rfl)) (da_consj (d_varj 2) da_nilj))) da_nilj))))) (ds_onej (dst_exprj (d_appj (d_varj 10) (d_tupj (da_consj (d_varj 9) (da_consj (d_callTj b_tuple rfl z_tuple bt_tuple (da_consj (d_varj 13) da_nilj)) da_nilj))))))) ds_nilj)))) (ds_onej (dst_retj (d_varj 10))))))))))))))), fun ds S k h => ?_⟩)
  · obtain ⟨_, _, _, _, _, rfl, _⟩ := h
    rfl
  · obtain ⟨a, b, c, g, o, rfl, h4, ho, w0, w1⟩ := h
    have hx := ((dirX_sz ho).mul h4.a).mono (n := 36) (by decide)
    have hy := ((dirY_sz ho).mul h4.a).mono (n := 36) (by decide)
    refine ⟨a, b, c, g, o, rfl, h4.a, ho, fun S1 pe j1 y1 => ?_⟩
    have eA : apA a g o = (g - dirX o * a) * (g - dirX o * a) + (0 - dirY o * a) * (0 - dirY o * a) := rfl
    have eL : sL a b c g o = (cL (dirX o * a) (dirY o * a) (b * b) g 0 (c * c)).map fun p => .tup [PP (dirX o * a) (dirY o * a), p] := rfl
    rw [eA] at w0 w1
    rw [eL] at w1
    generalize dirX o * a = X at *
    generalize dirY o * a = Y at *
    have hg := h4.g
    have hb := h4.b
    have hc := h4.c
    have z0 : Sz 1 0 := Sz.zero.mono (by decide)
    have sa := hg.sub hx
    have sb := z0.sub hy
    have sA := (sa.mul sa).add (sb.mul sb)
    refine ⟨_, _, y1, atI0, g, X, rfl, hg.mono (by decide), hx.mono (by decide), few, _, _, y1, atI1, 0, Y, rfl, Sz.zero.mono (by decide), hy.mono (by decide), few, fun pw hpw => ?_⟩
    have j2 := j1.trans (Ext.new (o := .lst [fr (g - X), fr (0 - Y)]) hpw)
    have y2 := Ext.new (o := .lst [fr (g - X), fr (0 - Y)]) hpw _ _ y1
    have u2 : put S1 pw (.lst [fr (g - X), fr (0 - Y)]) pw = some (.lst [fr (g - X), fr (0 - Y)]) := put_same
    generalize put S1 pw (.lst [fr (g - X), fr (0 - Y)]) = T at j2 y2 u2 ⊢
    refine ⟨_, _, u2, atI0, _, _, u2, atI0, _, _, _, _, _, rfl, den_mul_ne _ _, sa.num.mono (by decide), sa.den.mono (by decide), sa.num.mono (by decide), sa.den.mono (by decide), mul_of _ _, ?_⟩
    refine ⟨_, _, u2, atI1, _, _, u2, atI1, _, _, _, _, _, rfl, den_mul_ne _ _, sb.num.mono (by decide), sb.den.mono (by decide), sb.num.mono (by decide), sb.den.mono (by decide), mul_of _ _, ?_⟩
    refine ⟨_, _, _, _, _, rfl, den_mul_ne _ _, (sa.mul sa).num.mono (by decide), (sa.mul sa).den.mono (by decide), (sb.mul sb).num.mono (by decide), (sb.mul sb).den.mono (by decide), add_of _ _, ?_⟩
    refine ite_dec (fun e0 => w0 (Rat.num_eq_zero.mp e0) _ j2) (fun e0 => ?_)
    have h0 : (g - X) * (g - X) + (0 - Y) * (0 - Y) ≠ 0 := fun q => e0 (by rw [q]; rfl)
    have sbb := hb.mul hb
    have scc := hc.mul hc
    have sp := (sbb.sub scc).add sA
    have sB := sA.add sA
    have h2 := two_ne h0
    have st := sp.div sB h2
    have sq := sbb.div sA h0
    have sE := sq.sub (st.mul st)
    have sX := hx.add (st.mul sa)
    have sY := hy.add (st.mul sb)
    refine ⟨_, _, _, _, _, rfl, den_mul_ne b b, hb.num.mono (by decide), hb.den.mono (by decide), hb.num.mono (by decide), hb.den.mono (by decide), mul_of b b, ?_⟩
    refine ⟨_, _, _, _, _, rfl, den_mul_ne c c, hc.num.mono (by decide), hc.den.mono (by decide), hc.num.mono (by decide), hc.den.mono (by decide), mul_of c c, _, _, rfl, sbb.mono (by decide), scc.mono (by decide), ?_⟩
    refine ⟨_, _, _, _, _, rfl, den_mul_ne _ _, (sbb.sub scc).num.mono (by decide), (sbb.sub scc).den.mono (by decide), sA.num.mono (by decide), sA.den.mono (by decide), add_of _ _, ?_⟩
    refine ⟨few, _, _, _, _, _, rfl, Int.mul_ne_zero (by decide) (den_ne _), Bt.mono (m := 4) (by decide) (by decide), Bt.mono (m := 4) (by decide) (by decide), sA.num.mono (by decide), sA.den.mono (by decide), two_of' _, _, _, rfl, h2, sp.mono (by decide), sB.mono (by decide), ?_⟩
    refine ⟨_, _, rfl, h0, sbb.mono (by decide), sA.mono (by decide), _, _, _, _, _, rfl, den_mul_ne _ _, st.num.mono (by decide), st.den.mono (by decide), st.num.mono (by decide), st.den.mono (by decide), mul_of _ _, _, _, rfl, sq.mono (by decide), (st.mul st).mono (by decide), ?_⟩
    have eT : ((b * b - c * c) + ((g - X) * (g - X) + (0 - Y) * (0 - Y))) / (((g - X) * (g - X) + (0 - Y) * (0 - Y)) + ((g - X) * (g - X) + (0 - Y) * (0 - Y))) = cT X Y (b * b) g 0 (c * c) := rfl
    rw [eT] at st sE sX sY ⊢
    have sE' := sE.mono (n := 2900) (by decide)
    have w1 := w1 h0
    have eB : cL X Y (b * b) g 0 (c * c) = bothL (X + cT X Y (b * b) g 0 (c * c) * (g - X)) (Y + cT X Y (b * b) g 0 (c * c) * (0 - Y)) (-(0 - Y)) (g - X) (b * b / ((g - X) * (g - X) + (0 - Y) * (0 - Y)) - cT X Y (b * b) g 0 (c * c) * cT X Y (b * b) g 0 (c * c)) := by
      unfold cL cE
      rw [Rat.mul_comm (g - X) (cT X Y (b * b) g 0 (c * c)), Rat.mul_comm (0 - Y) (cT X Y (b * b) g 0 (c * c))]
    rw [eB, ← fo_both] at w1
    clear eB eT sE sp sB sq w0 eA eL h0 h2 e0
    have st' := st.mono (n := 800) (by decide)
    have sX' := sX.mono (n := 1900) (by decide)
    have sY' := sY.mono (n := 1900) (by decide)
    have sa' := sa.mono (n := 60) (by decide)
    have sb' := sb.mono (n := 60) (by decide)
    clear sX sY st sa sb
    generalize b * b / ((g - X) * (g - X) + (0 - Y) * (0 - Y)) - cT X Y (b * b) g 0 (c * c) * cT X Y (b * b) g 0 (c * c) = E' at *
    generalize cT X Y (b * b) g 0 (c * c) = τ at *
    generalize (g - X) * (g - X) + (0 - Y) * (0 - Y) = AA at *
    generalize b * b = bb at *
    generalize g - X = W0 at *
    generalize 0 - Y = W1 at *
    refine ⟨⟨by decide, by decide⟩, fun pb hpb => ?_⟩
    have k1 : ∀ o, Ext T (put T pb o) := fun o => Ext.new hpb
    have k2 : ∀ o o', Ext T (put (put T pb o) pb o') := fun o o' => (Ext.new hpb).put hpb
    have k3 : ∀ o o' o'', Ext T (put (put (put T pb o) pb o') pb o'') := fun o o' o'' => ((Ext.new hpb).put hpb).put hpb
    refine ⟨trivial, _, _, k1 _ _ _ y2, atI0, _, _, k1 _ _ _ u2, atI0, _, _, _, _, _, rfl, den_mul_ne τ W0, st'.num.mono (by decide), st'.den.mono (by decide), sa'.num.mono (by decide), sa'.den.mono (by decide), mul_of τ W0, _, _, _, _, _, rfl, den_mul_ne X (τ * W0), hx.num.mono (by decide), hx.den.mono (by decide), (st'.mul sa').num.mono (by decide), (st'.mul sa').den.mono (by decide), add_of X (τ * W0), put_same, big1 (by decide), ?_⟩
    refine ⟨trivial, _, _, k2 _ _ _ _ y2, atI1, _, _, k2 _ _ _ _ u2, atI1, _, _, _, _, _, rfl, den_mul_ne τ W1, st'.num.mono (by decide), st'.den.mono (by decide), sb'.num.mono (by decide), sb'.den.mono (by decide), mul_of τ W1, _, _, _, _, _, rfl, den_mul_ne Y (τ * W1), hy.num.mono (by decide), hy.den.mono (by decide), (st'.mul sb').num.mono (by decide), (st'.mul sb').den.mono (by decide), add_of Y (τ * W1), put_same, big1 (show 1 < 300 by decide), ?_⟩
    have j3 := j2.trans (k3 (.lst []) (.lst ([] ++ [fr (X + τ * W0)])) (.lst (([] ++ [fr (X + τ * W0)]) ++ [fr (Y + τ * W1)])))
    have y3 := k3 (.lst []) (.lst ([] ++ [fr (X + τ * W0)])) (.lst (([] ++ [fr (X + τ * W0)]) ++ [fr (Y + τ * W1)])) _ _ y2
    have u3 := k3 (.lst []) (.lst ([] ++ [fr (X + τ * W0)])) (.lst (([] ++ [fr (X + τ * W0)]) ++ [fr (Y + τ * W1)])) _ _ u2
    have v3 : put (put (put T pb (.lst [])) pb (.lst ([] ++ [fr (X + τ * W0)]))) pb (.lst (([] ++ [fr (X + τ * W0)]) ++ [fr (Y + τ * W1)])) pb = some (.lst [fr (X + τ * W0), fr (Y + τ * W1)]) := put_same
    generalize put (put (put T pb (.lst [])) pb (.lst ([] ++ [fr (X + τ * W0)]))) pb (.lst (([] ++ [fr (X + τ * W0)]) ++ [fr (Y + τ * W1)])) = T3 at j3 y3 u3 v3 ⊢
    have eC : DL.cutD [D.int 1, D.int (-1)] none (some (1 + if (!decide (E'.num = 0)) = true then 1 else 0)) = (sgL E').map D.int := by
      unfold sgL
      by_cases h : E' = 0
      · subst h; rfl
      · have hn : ¬ E'.num = 0 := fun z => h (Rat.num_eq_zero.mp z)
        rw [if_neg h, if_pos (by simp [hn])]
        rfl
    refine ⟨trivial, _, _, y3, atI0, few, few, _, _, y3, atI1, few, few, few, few, fun pf hpf => ⟨few, fun pl hpl => ⟨_, put_same, fun pc hpc => ⟨((sgL E').map D.int, some pc), by simp only [dItems, put_same]; rw [eC], ?_⟩⟩⟩⟩
    have j4 : Ext T3 (put (put (put T3 pf (.lst [])) pl (.lst [.int 1, .int (-1)])) pc (.lst (DL.cutD [D.int 1, D.int (-1)] none (some (1 + if (!decide (E'.num = 0)) = true then 1 else 0))))) := ((Ext.new hpf).trans (Ext.new hpl)).trans (Ext.new hpc)
    have c4 : put (put (put T3 pf (.lst [])) pl (.lst [.int 1, .int (-1)])) pc (.lst (DL.cutD [D.int 1, D.int (-1)] none (some (1 + if (!decide (E'.num = 0)) = true then 1 else 0)))) pc = some (.lst ((sgL E').map D.int)) := by rw [put_same, eC]
    have f4 : put (put (put T3 pf (.lst [])) pl (.lst [.int 1, .int (-1)])) pc (.lst (DL.cutD [D.int 1, D.int (-1)] none (some (1 + if (!decide (E'.num = 0)) = true then 1 else 0)))) pf = some (.lst []) := Ext.new hpc _ _ (Ext.new hpl _ _ put_same)
    have sf : S pf = none := j3.none hpf
    have nf : ∀ q o, T3 q = some o → q ≠ pf := fun q o h z => by rw [z, hpf] at h; cases h
    have ncf : pc ≠ pf := fun z => by
      have := hpc
      rw [z, Ext.new hpl _ _ (put_same (S := T3) (a := pf) (o := .lst []))] at this
      cases this
    generalize put (put (put T3 pf (.lst [])) pl (.lst [.int 1, .int (-1)])) pc (.lst (DL.cutD [D.int 1, D.int (-1)] none (some (1 + if (!decide (E'.num = 0)) = true then 1 else 0)))) = T4 at j4 c4 f4 ⊢
    have fo0 : foL X Y (X + τ * W0) (Y + τ * W1) W0 W1 E' [] = [] := by unfold foL; split <;> rfl
    refine loop_ix (fun r L S' => ∃ (dn rs : List Int) (l1 l2 l3 : Option D), r = rs.map D.int ∧ sgL E' = dn ++ rs ∧ L = [some (RD a b c g), some (drD o), some (.ref pe), some (.ref pw), some (fr AA), some (fr bb), some (fr τ), some (fr E'), some (.ref pb), some (PP X Y), some (.ref pf), l1, l2, l3] ∧ Ext S S' ∧ S' pw = some (.lst [fr W0, fr W1]) ∧ S' pb = some (.lst [fr (X + τ * W0), fr (Y + τ * W1)]) ∧ S' pc = some (.lst ((sgL E').map D.int)) ∧ S' pf = some (.lst (foL X Y (X + τ * W0) (Y + τ * W1) W0 W1 E' dn))) ?_ ?_ ?_ _ _ _ ⟨[], sgL E', none, none, none, rfl, rfl, rfl, j3.trans j4, j4 _ _ u3, j4 _ _ v3, c4, by rw [fo0]; exact f4⟩
    · rintro r L S' ⟨dn, rs, l1, l2, l3, _, _, _, _, _, _, hc', _⟩
      exact hc'
    · rintro d r L S5 Nx ⟨dn, rs, l1, l2, l3, hr, hsg, rfl, e5, u5, v5, c5, f5⟩ hN
      cases rs with
      | nil => cases hr
      | cons i rs =>
        cases hr
        have hi : i = 1 ∨ i = -1 := by
          have hm : i ∈ sgL E' := by rw [hsg]; simp
          unfold sgL at hm
          split at hm
          · simp only [List.mem_cons, List.not_mem_nil, or_false] at hm
            exact .inl hm
          · simp only [List.mem_cons, List.not_mem_nil, or_false] at hm
            exact hm
        have hdl : dn.length ≤ 2 := by
          have h := congrArg List.length hsg
          rw [List.length_append] at h
          unfold sgL at h
          split at h
          · have h : 1 = dn.length + (rs.length + 1) := h; omega
          · have h : 2 = dn.length + (rs.length + 1) := h; omega
        have bi : Bt 4 i := by rcases hi with rfl | rfl <;> decide
        have bi' : Bt 4 (0 - i) := by rcases hi with rfl | rfl <;> decide
        have si : Sz 4 (i : Rat) := int_sz bi (by decide)
        have si' : Sz 4 ((0 - i : Int) : Rat) := int_sz bi' (by decide)
        have one_ne : ∀ q : Rat, (1 : Int) * (q.den : Int) ≠ 0 := fun q => Int.mul_ne_zero (by decide) (den_ne q)
        refine ⟨few, _, _, u5, atI1, _, _, _, _, _, rfl, one_ne W1, bi'.mono (by decide), Bt.mono (m := 4) (by decide) (by decide), sb'.num.mono (by decide), sb'.den.mono (by decide), imul_of (0 - i) W1, few, _, _, u5, atI0, _, _, _, _, _, rfl, one_ne W0, bi.mono (by decide), Bt.mono (m := 4) (by decide) (by decide), sa'.num.mono (by decide), sa'.den.mono (by decide), imul_of i W0, few, fun pL hpL => ?_⟩
        have j6 : Ext S5 (put S5 pL (.lst [fr (((0 - i : Int) : Rat) * W1), fr ((i : Rat) * W0)])) := Ext.new hpL
        have l6 : put S5 pL (.lst [fr (((0 - i : Int) : Rat) * W1), fr ((i : Rat) * W0)]) pL = some (.lst [fr (((0 - i : Int) : Rat) * W1), fr ((i : Rat) * W0)]) := put_same
        generalize put S5 pL (.lst [fr (((0 - i : Int) : Rat) * W1), fr ((i : Rat) * W0)]) = T6 at j6 l6 ⊢
        have sl1 := si'.mul sb'
        have sl0 := si.mul sa'
        refine ite_dec (fun hge => ?_) (fun hlt => ?_)
        · refine ⟨⟨by decide, by decide⟩, fun pF hpF => ?_⟩
          refine ⟨trivial, _, _, (Ext.new hpF) _ _ (j6 _ _ v5), atI0, _, _, (Ext.new hpF) _ _ l6, atI0, _, _, rfl, sl1.mono (by decide), sE'.mono (by decide), _, _, rfl, sX'.mono (by decide), ((sl1.mul sl1.ab).mul sE').mono (by decide), fun S7 e7 => ⟨e7 _ _ put_same, big1 (by decide), ?_⟩⟩
          have e8 : Ext T6 (put S7 pF (.lst ([] ++ [mkD (X + τ * W0) (ss (((0 - i : Int) : Rat) * W1) * E')]))) := ((Ext.new hpF).trans e7).put hpF
          refine ⟨trivial, _, _, e8 _ _ (j6 _ _ v5), atI1, _, _, e8 _ _ l6, atI1, _, _, rfl, sl0.mono (by decide), sE'.mono (by decide), _, _, rfl, sY'.mono (by decide), ((sl0.mul sl0.ab).mul sE').mono (by decide), fun S9 e9 => ⟨e9 _ _ put_same, big1 (show 1 < 300 by decide), ?_⟩⟩
          have e10 : Ext T6 (put S9 pF (.lst (([] ++ [mkD (X + τ * W0) (ss (((0 - i : Int) : Rat) * W1) * E')]) ++ [mkD (Y + τ * W1) (ss ((i : Rat) * W0) * E')]))) := (e8.trans e9).put hpF
          have f10 := e10 _ _ (j6 _ _ f5)
          have hfl : (foL X Y (X + τ * W0) (Y + τ * W1) W0 W1 E' dn).length < 300 := by
            unfold foL
            split
            · decide
            · rw [List.length_map]; omega
          refine ⟨trivial, ⟨_, f10⟩, _, put_same, few, _, f10, big1 hfl, hN _ _ ⟨dn ++ [i], rs, _, _, _, rfl, by rw [hsg, List.append_assoc]; rfl, rfl, ((e5.trans j6).trans e10).put sf, (put_ne (nf _ _ u3)).trans (e10 _ _ (j6 _ _ u5)), (put_ne (nf _ _ v3)).trans (e10 _ _ (j6 _ _ v5)), (put_ne ncf).trans (e10 _ _ (j6 _ _ c5)), ?_⟩⟩
          have hnn : ¬ E' < 0 := fun z => by have := (num_neg_iff E').mpr z; omega
          rw [put_same]
          unfold foL
          rw [if_neg hnn, if_neg hnn, List.map_append]
          rfl
        · refine hN _ _ ⟨dn ++ [i], rs, _, _, _, rfl, by rw [hsg, List.append_assoc]; rfl, rfl, e5.trans j6, j6 _ _ u5, j6 _ _ v5, j6 _ _ c5, ?_⟩
          have hneg : E' < 0 := (num_neg_iff E').mp (by omega)
          have h := j6 _ _ f5
          unfold foL at h ⊢
          rw [if_pos hneg] at h ⊢
          exact h
    · rintro L S' ⟨dn, rs, l1, l2, l3, hr, hsg, rfl, e5, u5, v5, c5, f5⟩
      cases rs with
      | cons i rs => cases hr
      | nil =>
        rw [List.append_nil] at hsg
        rw [← hsg] at f5
        exact w1 _ _ e5 f5
end My
namespace My
open PySem PySem.Spec PyProof.Rows L2 DL HM
set_option maxHeartbeats 4000000
structure Whl (B : Int) (a b c g : Rat) (ia ib ic ig : Int) : Prop where
  pos : 0 < B
  a : (ia : Rat) = a * (B : Rat)
  b : (ib : Rat) = b * (B : Rat)
  c : (ic : Rat) = c * (B : Rat)
  g : (ig : Rat) = g * (B : Rat)
  ba : Bt 100 ia
  bb : Bt 100 ib
  bc : Bt 100 ic
  bg : Bt 100 ig
  la : ia.natAbs ≤ 442368
  lb : ib.natAbs ≤ 442368
  lc : ic.natAbs ≤ 442368
  lg : ig.natAbs ≤ 442368
theorem whl_few {q : Rat} {B : Int} (hq : q.num.natAbs ≤ 108) (hB : B.natAbs ≤ 4096) : (q.num * B.fdiv (q.den : Int)).natAbs ≤ 442368 := by
  have h := HM.natAbs_fdiv_le B (q.den : Int)
  rw [Int.natAbs_mul]
  have := Nat.mul_le_mul hq (Nat.le_trans h hB)
  omega
theorem wh_eq {q : Rat} {B : Int} (h : (q.den : Int) ∣ B) : ((q.num * B.fdiv (q.den : Int) : Int) : Rat) = q * (B : Rat) := by
  obtain ⟨m, rfl⟩ := h
  have d0 : (q.den : Int) ≠ 0 := den_ne q
  rw [Int.mul_fdiv_cancel_left _ d0, Rat.intCast_mul, Rat.intCast_mul]
  have e : q * ((q.den : Int) : Rat) = (q.num : Rat) := by
    have h : Rat.divInt q.num (q.den : Int) * ((q.den : Int) : Rat) = (q.num : Rat) := by
      rw [Rat.divInt_eq_div]
      exact Rat.div_mul_cancel (by exact_mod_cast d0)
    rw [Rat.num_divInt_den] at h
    exact h
  rw [← Rat.mul_assoc, e]
def F_in_wholes : DSp := fun ds S k => ∃ a b c g : Rat, ds = [RD a b c g] ∧ G4 14 a b c g ∧ ∀ S' p (B ia ib ic ig : Int), Whl B a b c g ia ib ic ig → Ext S S' → S p = none → S' p = some (.lst [.int ia, .int ib, .int ic, .int ig]) → k (.ref p) S'
theorem sc_in_wholes : FnScope ["rods", "bottom", "rod"] ["rods"] (defScope s_in_wholes) := ⟨rfl, rfl, rfl, by decide +kernel, rfl, by decide +kernel, by decide +kernel⟩
theorem ok_in_wholes {P : Program} {w : World} {K : Fg} {mg : Str → Option Value} {base : Heap} {f : Addr} {fd : FuncData} (Fn : Fun K "in_wholes" "in_wholes" s_in_wholes f fd)  :
    FnOk P w K mg base CX0 1 f fd ["rods"] (spU K F_in_wholes) := by
  refine Fn.okJ sc_in_wholes (fun ds S k h => ?_) (fun cdv A outer s H E hr => ⟨_, (ds_consj (dst_setj (i := 1) sc_in_wholes.nd d_intj) (ds_consj (dst_forEj PassesOwn.never rfl (d_varj 0) (dg_namej (i := 2) sc_in_wholes.nd) (ds_onej (dst_setj (i := 1) sc_in_wholes.nd (d_opj o_mul (d_varj 1) (d_ixj x_ixE (d_varj 2) d_intj (fun _ _ => rfl)))))) (ds_onej (dst_retj (d_compEj rfl (compSc (N := ["rod", "bottom"]) (cap := [none, some 1]) rfl rfl rfl rfl ⟨rfl, trivial⟩ rfl rfl ⟨⟨rfl, .inl rfl, .inl rfl⟩, trivial⟩) (d_varj 0) (fun _ _ _ _ => (dg_namej (i := 0) (show List.Nodup (["rod", "bottom"] : List Str) from by decide +kernel))) (fun _ _ _ _ => (d_opj o_mul (d_ixj x_ixE (d_varj 0) d_intj (fun _ _ => rfl)) (d_opj o_div (d_varj 1) (d_ixj x_ixE (d_varj 0) d_intj (fun _ _ => rfl)))))))))), fun ds S k h => ?_⟩)
  · obtain ⟨_, _, _, _, rfl, _⟩ := h
    rfl
  · obtain ⟨a, b, c, g, rfl, g4, w⟩ := h
    have h4 := g4.r4
    have pa : 0 < (a.den : Int) := by have := a.den_pos; omega
    have pb : 0 < (b.den : Int) := by have := b.den_pos; omega
    have pc : 0 < (c.den : Int) := by have := c.den_pos; omega
    have pg : 0 < (g.den : Int) := by have := g.den_pos; omega
    have b1 : Bt 1 1 := by decide
    have bA := b1.mul h4.a.den
    have bB := bA.mul h4.b.den
    have bC := bB.mul h4.c.den
    have bG := bC.mul h4.g.den
    obtain ⟨na, ea⟩ := Tn.fourteen.mp g4.ta
    obtain ⟨nb, eb⟩ := Tn.fourteen.mp g4.tb
    obtain ⟨nc, ec⟩ := Tn.fourteen.mp g4.tc
    obtain ⟨ng, eg⟩ := Tn.fourteen.mp g4.tg
    have hB4 : (1 * (a.den : Int) * (b.den : Int) * (c.den : Int) * (g.den : Int)).natAbs ≤ 4096 := by
      rw [Int.natAbs_mul, Int.natAbs_mul, Int.natAbs_mul, Int.natAbs_mul]
      simp only [Int.natAbs_natCast]
      exact Nat.mul_le_mul (Nat.mul_le_mul (Nat.mul_le_mul (Nat.mul_le_mul (Nat.le_refl 1) ea) eb) ec) eg
    have pB : 0 < 1 * (a.den : Int) * (b.den : Int) * (c.den : Int) * (g.den : Int) := Int.mul_pos (Int.mul_pos (Int.mul_pos (Int.mul_pos (by decide) pa) pb) pc) pg
    have da : (a.den : Int) ∣ 1 * (a.den : Int) * (b.den : Int) * (c.den : Int) * (g.den : Int) := ⟨(b.den : Int) * (c.den : Int) * (g.den : Int), by grind⟩
    have db : (b.den : Int) ∣ 1 * (a.den : Int) * (b.den : Int) * (c.den : Int) * (g.den : Int) := ⟨(a.den : Int) * (c.den : Int) * (g.den : Int), by grind⟩
    have dc : (c.den : Int) ∣ 1 * (a.den : Int) * (b.den : Int) * (c.den : Int) * (g.den : Int) := ⟨(a.den : Int) * (b.den : Int) * (g.den : Int), by grind⟩
    have dg : (g.den : Int) ∣ 1 * (a.den : Int) * (b.den : Int) * (c.den : Int) * (g.den : Int) := ⟨(a.den : Int) * (b.den : Int) * (c.den : Int), by grind⟩
    refine ⟨([fr a, fr b, fr c, fr g], none), rfl, trivial, mok b1 h4.a.den, trivial, mok bA h4.b.den, trivial, mok bB h4.c.den, trivial, mok bC h4.g.den, trivial, ([fr a, fr b, fr c, fr g], none), rfl, fun p hp => ?_⟩
    have fb : ∀ q : Rat, Bt 57 (Int.fdiv (1 * (a.den : Int) * (b.den : Int) * (c.den : Int) * (g.den : Int)) (q.den : Int)) := fun q => (bG.mono (n := 57) (by decide)).le (HM.natAbs_fdiv_le _ _)
    have ok : ∀ {q : Rat}, Sz 14 q → CDivB (1 * (a.den : Int) * (b.den : Int) * (c.den : Int) * (g.den : Int)) (q.den : Int) := fun h => dok (den_ne _) h.den
    refine ⟨trivial, ok h4.a, mok h4.a.num (fb a), put_same, big1 (show 0 < 300 by decide), trivial, ok h4.b, mok h4.b.num (fb b), put_same, big1 (show 1 < 300 by decide), trivial, ok h4.c, mok h4.c.num (fb c), put_same, big1 (show 2 < 300 by decide), trivial, ok h4.g, mok h4.g.num (fb g), put_same, big1 (show 3 < 300 by decide), trivial, ?_⟩
    exact w _ p (1 * (a.den : Int) * (b.den : Int) * (c.den : Int) * (g.den : Int)) _ _ _ _ ⟨pB, wh_eq da, wh_eq db, wh_eq dc, wh_eq dg, (h4.a.num.mul (fb a)).mono (by decide), (h4.b.num.mul (fb b)).mono (by decide), (h4.c.num.mul (fb c)).mono (by decide), (h4.g.num.mul (fb g)).mono (by decide), whl_few na hB4, whl_few nb hB4, whl_few nc hB4, whl_few ng hB4⟩ ((((Ext.new hp).put hp).put hp).put hp |>.put hp) hp put_same
theorem whl_le {B : Int} {x y : Rat} {i j : Int} (hB : 0 < B) (hx : (i : Rat) = x * (B : Rat)) (hy : (j : Rat) = y * (B : Rat)) : i ≤ j ↔ x ≤ y := by
  have hB' : (0 : Rat) < (B : Rat) := Rat.intCast_pos.mpr hB
  rw [← Rat.intCast_le_intCast, hx, hy]
  exact ⟨fun h => Rat.le_of_mul_le_mul_right h hB', fun h => Rat.mul_le_mul_of_nonneg_right h (Rat.le_of_lt hB')⟩
theorem whl_add {B : Int} {x y : Rat} {i j : Int} (hx : (i : Rat) = x * (B : Rat)) (hy : (j : Rat) = y * (B : Rat)) : ((i + j : Int) : Rat) = (x + y) * (B : Rat) := by rw [Rat.intCast_add, hx, hy]; grind
end My
namespace My
open PySem PySem.Spec PyProof.Rows L2 DL HM
set_option maxHeartbeats 4000000
def F_ground_end : DSp := fun ds S k => ∃ a b c g : Rat, ds = [RD a b c g] ∧ k (PP g 0) S
theorem sc_ground_end : FnScope ["rods"] ["rods"] (defScope s_ground_end) := ⟨rfl, rfl, rfl, by decide +kernel, rfl, by decide +kernel, by decide +kernel⟩
theorem ok_ground_end {P : Program} {w : World} {K : Fg} {mg : Str → Option Value} {base : Heap} {f : Addr} {fd : FuncData} (Fn : Fun K "ground_end" "ground_end" s_ground_end f fd) (c_plain_point : Own P w K mg base "plain_point" 1 F_plain_point) (g_NOUGHT : GTup K mg "NOUGHT" [0, 1]) :
    FnOk P w K mg base CX0 2 f fd ["rods"] (spU K F_ground_end) := by
  refine Fn.okJ sc_ground_end (fun ds S k h => ?_) (fun cdv A outer s H E hr => ⟨_, (ds_onej (dst_retj (d_callj c_plain_point (hr.mono (by decide)) rfl (da_consj (d_tupj (da_consj (d_ixj x_ixE (d_varj 0) d_intj (fun _ _ => rfl)) (da_consj (d_gtup g_NOUGHT rfl) da_nilj))) da_nilj)))), fun ds S k h => ?_⟩)
  · obtain ⟨_, _, _, _, rfl, _⟩ := h
    rfl
  · obtain ⟨a, b, c, g, rfl, w⟩ := h
    exact ⟨few, g, 0, rfl, w⟩
def fits (a b c g : Rat) : Prop := a ≤ b + c + g ∧ b ≤ a + c + g ∧ c ≤ a + b + g ∧ g ≤ a + b + c
instance {a b c g : Rat} : Decidable (fits a b c g) := inferInstanceAs (Decidable (_ ∧ _ ∧ _ ∧ _))
theorem whl_fits {B : Int} {a b c g : Rat} {ia ib ic ig m : Int} (W : Whl B a b c g ia ib ic ig) (hm : m ∈ [ia, ib, ic, ig]) (hx : ∀ x ∈ [ia, ib, ic, ig], x ≤ m) : 2 * m ≤ 0 + ia + ib + ic + ig ↔ fits a b c g := by
  have h1 := whl_le W.pos W.a (whl_add (whl_add W.b W.c) W.g)
  have h2 := whl_le W.pos W.b (whl_add (whl_add W.a W.c) W.g)
  have h3 := whl_le W.pos W.c (whl_add (whl_add W.a W.b) W.g)
  have h4 := whl_le W.pos W.g (whl_add (whl_add W.a W.b) W.c)
  unfold fits
  rw [← h1, ← h2, ← h3, ← h4]
  have x1 := hx ia (by simp)
  have x2 := hx ib (by simp)
  have x3 := hx ic (by simp)
  have x4 := hx ig (by simp)
  constructor
  · intro h
    refine ⟨?_, ?_, ?_, ?_⟩ <;> omega
  · rintro ⟨y1, y2, y3, y4⟩
    simp only [List.mem_cons, List.not_mem_nil, or_false] at hm
    rcases hm with rfl | rfl | rfl | rfl <;> omega
def F_can_stand : DSp := fun ds S k => ∃ a b c g : Rat, ds = [RD a b c g] ∧ G4 14 a b c g ∧ ∀ S', Ext S S' → k (.bl (decide (fits a b c g))) S'
theorem sc_can_stand : FnScope ["rods", "lengths"] ["rods"] (defScope s_can_stand) := ⟨rfl, rfl, rfl, by decide +kernel, rfl, by decide +kernel, by decide +kernel⟩
theorem ok_can_stand {P : Program} {w : World} {K : Fg} {mg : Str → Option Value} {base : Heap} {f : Addr} {fd : FuncData} (Fn : Fun K "can_stand" "can_stand" s_can_stand f fd) (c_in_wholes : Own P w K mg base "in_wholes" 1 F_in_wholes) (z_max : mg "max" = none) (z_sum : mg "sum" = none) :
    FnOk P w K mg base CX0 2 f fd ["rods"] (spU K F_can_stand) := by
  refine Fn.okJ sc_can_stand (fun ds S k h => ?_) (fun cdv A outer s H E hr => ⟨_, (ds_consj (dst_setj (i := 1) sc_can_stand.nd (d_callj c_in_wholes (hr.mono (by decide)) rfl (da_consj (d_varj 0) da_nilj))) (ds_onej (dst_retj (d_cmpj o_le (d_opj o_mul d_intj (d_callBj b_maxX rfl z_max bt_max (da_consj (d_varj 1) da_nilj))) (d_callBj b_sumX rfl z_sum bt_sum (da_consj (d_varj 1) da_nilj)) (nomark _))))), fun ds S k h => ?_⟩)
  · obtain ⟨_, _, _, _, rfl, _⟩ := h
    rfl
  · obtain ⟨a, b, c, g, rfl, g4, w⟩ := h
    refine ⟨a, b, c, g, rfl, g4, fun S1 p B ia ib ic ig W e1 n1 h1 => ⟨[ia, ib, ic, ig], h1, by simp, fun m hm hx => ?_⟩⟩
    have bm : Bt 100 m := by
      simp only [List.mem_cons, List.not_mem_nil, or_false] at hm
      rcases hm with rfl | rfl | rfl | rfl
      · exact W.ba
      · exact W.bb
      · exact W.bc
      · exact W.bg
    have l1 := W.la
    have l2 := W.lb
    have l3 := W.lc
    have l4 := W.lg
    refine ⟨mok (show Bt 4 2 by decide) bm, [ia, ib, ic, ig], h1, fun j hj => ?_, ?_⟩
    · have hj : j < 4 := hj
      have : j = 0 ∨ j = 1 ∨ j = 2 ∨ j = 3 := by omega
      rcases this with rfl | rfl | rfl | rfl
      · exact ⟨⟨by show -(2 ^ 63) ≤ ia; omega, by show ia < 2 ^ 63; omega⟩, ⟨by show -(2 ^ 63) ≤ 0 + ia; omega, by show 0 + ia < 2 ^ 63; omega⟩⟩
      · exact ⟨⟨by show -(2 ^ 63) ≤ ib; omega, by show ib < 2 ^ 63; omega⟩, ⟨by show -(2 ^ 63) ≤ 0 + ia + ib; omega, by show 0 + ia + ib < 2 ^ 63; omega⟩⟩
      · exact ⟨⟨by show -(2 ^ 63) ≤ ic; omega, by show ic < 2 ^ 63; omega⟩, ⟨by show -(2 ^ 63) ≤ 0 + ia + ib + ic; omega, by show 0 + ia + ib + ic < 2 ^ 63; omega⟩⟩
      · exact ⟨⟨by show -(2 ^ 63) ≤ ig; omega, by show ig < 2 ^ 63; omega⟩, ⟨by show -(2 ^ 63) ≤ 0 + ia + ib + ic + ig; omega, by show 0 + ia + ib + ic + ig < 2 ^ 63; omega⟩⟩
    · have w := w S1 e1
      rw [← decide_eq_decide.mpr (whl_fits W hm hx)] at w
      exact w
def Least (m a b c g : Rat) : Prop := (m = a ∨ m = b ∨ m = c ∨ m = g) ∧ m ≤ a ∧ m ≤ b ∧ m ≤ c ∧ m ≤ g
def Most (m a b c g : Rat) : Prop := (m = a ∨ m = b ∨ m = c ∨ m = g) ∧ a ≤ m ∧ b ≤ m ∧ c ≤ m ∧ g ≤ m
def two (a b c g : Rat) : Prop := ∃ l m, Least l a b c g ∧ Most m a b c g ∧ (l + m) + (l + m) < a + b + c + g
open Classical in
noncomputable def pcs (a b c g : Rat) : Int := if fits a b c g then (if two a b c g then 2 else 1) else 0
theorem two_iff {a b c g l m : Rat} (hl : Least l a b c g) (hm : Most m a b c g) : two a b c g ↔ (l + m) + (l + m) < a + b + c + g := by
  constructor
  · rintro ⟨l', m', hl', hm', h⟩
    have e1 : l' = l := by
      have h1 := hl'.1
      have h2 := hl.1
      have := hl'.2
      have := hl.2
      grind
    have e2 : m' = m := by
      have h1 := hm'.1
      have h2 := hm.1
      have := hm'.2
      have := hm.2
      grind
    rw [← e1, ← e2]
    exact h
  · intro h
    exact ⟨l, m, hl, hm, h⟩
def F__law_most : DSp := fun ds S k => ∃ p q : Rat, ds = [fr p, fr q] ∧ Sz 4000 p ∧ Sz 4000 q ∧ k (.bl (decide (p ≤ q))) S
theorem sc__law_most : FnScope ["one", "other"] ["one", "other"] (defScope s__law_most) := ⟨rfl, rfl, rfl, by decide +kernel, rfl, by decide +kernel, by decide +kernel⟩
theorem ok__law_most {P : Program} {w : World} {K : Fg} {mg : Str → Option Value} {base : Heap} {f : Addr} {fd : FuncData} (Fn : Fun K "_law_most" "_law_most" s__law_most f fd) (c__law_minus : Own P w K mg base "_law_minus" 35 F__law_minus) :
    FnOk P w K mg base CX0 36 f fd ["one", "other"] (spU K F__law_most) := by
  refine Fn.okJ sc__law_most (fun ds S k h => ?_) (fun cdv A outer s H E hr => ⟨_, (ds_onej (dst_retj (d_cmpj o_ge (d_ixj x_ixE (d_callj c__law_minus (hr.mono (by decide)) rfl (da_consj (d_varj 1) (da_consj (d_varj 0) da_nilj))) d_intj (fun _ _ => rfl)) d_intj (nomark _)))), fun ds S k h => ?_⟩)
  · obtain ⟨_, _, rfl, _⟩ := h
    rfl
  · obtain ⟨p, q, rfl, hp, hq, w⟩ := h
    have e : decide (p ≤ q) = decide (0 ≤ (q - p).num) := decide_eq_decide.mpr ⟨fun h => Rat.num_nonneg.mpr (by grind), fun h => by have := Rat.num_nonneg.mp h; grind⟩
    rw [e] at w
    exact ⟨q, p, rfl, hq.mono (by decide), hp.mono (by decide), w⟩
def Ord (l : List Rat) : Prop := l.Pairwise (· ≤ ·)
theorem ins_ord {x : Rat} : ∀ {l : List Rat}, Ord l → Ord (l.take (l.filter fun y => decide (y ≤ x)).length ++ x :: l.drop (l.filter fun y => decide (y ≤ x)).length)
  | [], _ => List.pairwise_singleton _ _
  | y :: l, h => by
    obtain ⟨h1, h2⟩ := List.pairwise_cons.mp h
    by_cases hy : y ≤ x
    · rw [List.filter_cons_of_pos (by simp [hy])]
      show Ord (y :: (l.take (l.filter fun y => decide (y ≤ x)).length ++ x :: l.drop (l.filter fun y => decide (y ≤ x)).length))
      refine List.pairwise_cons.mpr ⟨fun z hz => ?_, ins_ord h2⟩
      rcases List.mem_append.mp hz with hz | hz
      · exact h1 z (List.mem_of_mem_take hz)
      · rcases List.mem_cons.mp hz with rfl | hz
        · exact hy
        · exact h1 z (List.mem_of_mem_drop hz)
    · have e : (y :: l).filter (fun y => decide (y ≤ x)) = [] := by
        rw [List.filter_eq_nil_iff]
        intro z hz
        rcases List.mem_cons.mp hz with rfl | hz
        · simpa using hy
        · have := h1 z hz
          simp only [decide_eq_true_eq]
          intro q
          grind
      rw [e]
      refine List.pairwise_cons.mpr ⟨fun z hz => ?_, h⟩
      rcases List.mem_cons.mp hz with rfl | hz
      · grind
      · have := h1 z hz
        grind
theorem ins_perm {x : Rat} {n : Nat} {l : List Rat} : (l.take n ++ x :: l.drop n).Perm (x :: l) := by
  refine List.perm_middle.trans ?_
  rw [List.take_append_drop]
theorem filter_loop {α : Type} {f g : α → D} {q : α → Bool} {all : List α} {S : DH} {p : Addr} {ok : DH → Prop} {bd : DB} {k : DK} {L1 : Lo} (hp : S p = none) (hok : ∀ S', Ext S S' → ok S')
    (hbd : ∀ (x : α) (S' : DH) (k' : Option D → DH → Prop), x ∈ all → Ext S S' → k' (if q x then some (g x) else none) S' → bd (some (f x) :: L1) S' k') :
    ∀ (r : List α) (acc : List D) (l0 : Option D), (∀ x ∈ r, x ∈ all) → acc.length + r.length ≤ 100 → (∀ S', Ext S S' → S' p = some (.lst (acc ++ (r.filter q).map g)) → k (.ref p) S') → dCLoop ok p (dgName 0) bd k (r.map f) acc (l0 :: L1) (put S p (.lst acc))
  | [], acc, l0, _, _, w => ⟨hok _ (Ext.new hp), w _ (Ext.new hp) (by rw [put_same]; simp)⟩
  | x :: r, acc, l0, hr, hl, w => by
    have hl : acc.length + (r.length + 1) ≤ 100 := hl
    refine ⟨hok _ (Ext.new hp), hbd x _ _ (hr x List.mem_cons_self) (Ext.new hp) ?_⟩
    cases hq : q x with
    | true =>
      refine ⟨put_same, big1 (by omega), ?_⟩
      rw [put_put]
      exact filter_loop hp hok hbd r _ _ (fun y hy => hr y (List.mem_cons_of_mem _ hy)) (by rw [List.length_append]; show acc.length + 1 + r.length ≤ 100; omega) fun S' e h => w S' e (by rw [h, List.append_assoc, List.filter_cons_of_pos (by rw [hq])]; rfl)
    | false =>
      exact filter_loop hp hok hbd r _ _ (fun y hy => hr y (List.mem_cons_of_mem _ hy)) (by omega) fun S' e h => w S' e (by rw [h, List.filter_cons_of_neg (by rw [hq]; decide)])
def F__law_sorted : DSp := fun ds S k => ∃ a b c g : Rat, ds = [RD a b c g] ∧ R4 a b c g ∧ ∀ S' p (l : List Rat), Ord l → l.Perm [a, b, c, g] → Ext S S' → S' p = some (.lst (l.map fr)) → k (.ref p) S'
theorem sc__law_sorted : FnScope ["rods", "found", "one"] ["rods"] (defScope s__law_sorted) := ⟨rfl, rfl, rfl, by decide +kernel, rfl, by decide +kernel, by decide +kernel⟩
theorem ok__law_sorted {P : Program} {w : World} {K : Fg} {mg : Str → Option Value} {base : Heap} {f : Addr} {fd : FuncData} (Fn : Fun K "_law_sorted" "_law_sorted" s__law_sorted f fd) (c__law_most : Own P w K mg base "_law_most" 36 F__law_most) (z_len : mg "len" = none) :
    FnOk P w K mg base CX0 37 f fd ["rods"] (spU K F__law_sorted) := by
  refine Fn.okJ sc__law_sorted (fun ds S k h => ?_) (fun cdv A outer s H E hr => ⟨_, (ds_consj (dst_setj (i := 1) sc__law_sorted.nd (d_lstj da_nilj)) (ds_consj (dst_forEj PassesOwn.never rfl (d_varj 0) (dg_namej (i := 2) sc__law_sorted.nd) (ds_onej (dst_exprj (d_insj (d_varj 1) (d_callBj b_lenE rfl z_len bt_len (da_consj (d_compEIfj rfl (compSc (N := ["other", "one"]) (cap := [none, some 2]) rfl rfl rfl rfl ⟨rfl, trivial⟩ rfl rfl ⟨⟨rfl, .inl rfl, .inl rfl⟩, trivial⟩) (d_varj 1) (fun _ _ _ _ => (dg_namej (i := 0) (show List.Nodup (["other", "one"] : List Str) from by decide +kernel))) (fun _ _ _ _ => (dt_valj (d_callj c__law_most (hr.mono (by decide)) rfl (da_consj (d_varj 0) (da_consj (d_varj 1) da_nilj))))) (fun _ _ _ _ => (d_varj 0))) da_nilj)) (d_varj 2))))) (ds_onej (dst_retj (d_varj 1))))), fun ds S k h => ?_⟩)
  · obtain ⟨_, _, _, _, rfl, _⟩ := h
    rfl
  · obtain ⟨a, b, c, g, rfl, h4, w⟩ := h
    refine ⟨few, fun p hp => ⟨([fr a, fr b, fr c, fr g], none), rfl, ?_⟩⟩
    have hmem : ∀ x ∈ [a, b, c, g], Sz 14 x := fun x hx => by
      simp only [List.mem_cons, List.not_mem_nil, or_false] at hx
      rcases hx with rfl | rfl | rfl | rfl
      · exact h4.a
      · exact h4.b
      · exact h4.c
      · exact h4.g
    refine loop_ix (fun r L S' => ∃ (dn rs l : List Rat) (l2 : Option D), r = rs.map fr ∧ [a, b, c, g] = dn ++ rs ∧ Ord l ∧ l.Perm dn ∧ L = [some (RD a b c g), some (.ref p), l2] ∧ Ext S S' ∧ S' p = some (.lst (l.map fr))) (fun _ _ _ _ => trivial) ?_ ?_ _ _ _ ⟨[], [a, b, c, g], [], none, rfl, rfl, .nil, .nil, rfl, Ext.new hp, put_same⟩
    · rintro d r L S1 Nx ⟨dn, rs, l, l2, hr, he, ho, hl, rfl, e1, h1⟩ hN
      cases rs with
      | nil => cases hr
      | cons x rs =>
        cases hr
        have sx : Sz 14 x := hmem x (by rw [he]; simp)
        have ll : l.length ≤ 3 := by
          have h := congrArg List.length he
          rw [List.length_append] at h
          have h : 4 = dn.length + (rs.length + 1) := h
          rw [hl.length_eq]; omega
        refine ⟨⟨_, h1⟩, (l.map fr, some p), by simp only [dItems, h1], fun p2 hp2 => ?_⟩
        refine filter_loop (f := fr) (g := fr) (q := fun y => decide (y ≤ x)) (all := l) (ok := okFor (l.map fr, some p)) (L1 := [some (fr x)]) hp2 (fun S' e => e _ _ h1) (fun y S' k' hy e h => ?_) l [] none (fun _ h => h) (by show 0 + l.length ≤ 100; omega) (fun S2 e2 h2 => ?_)
        · have sy : Sz 14 y := hmem y (by rw [he]; exact List.mem_append_left _ (hl.mem_iff.mp hy))
          refine ⟨y, x, rfl, sy.mono (by decide), sx.mono (by decide), ite_dec (fun hle => ?_) (fun hle => ?_)⟩
          · rw [decide_eq_true hle] at h
            exact h
          · rw [decide_eq_false hle] at h
            exact h
        · refine ⟨_, h2, (l.filter fun y => decide (y ≤ x)).length, l.map fr, by rw [List.nil_append, List.length_map], e2 _ _ h1, by rw [List.length_map]; exact List.length_filter_le _ _, by rw [List.length_map]; omega, hN _ _ ⟨dn ++ [x], rs, _, _, rfl, by rw [he, List.append_assoc]; rfl, ins_ord (x := x) ho, ?_, rfl, (e1.trans e2).put hp, ?_⟩⟩
          · exact ins_perm.trans ((hl.cons x).trans (List.perm_append_singleton x dn).symm)
          · rw [put_same, List.map_append, List.map_cons, List.map_take, List.map_drop]
    · rintro L S1 ⟨dn, rs, l, l2, hr, he, ho, hl, rfl, e1, h1⟩
      cases rs with
      | cons x rs => cases hr
      | nil =>
        rw [List.append_nil] at he
        rw [← he] at hl
        exact w S1 p l ho hl e1 h1
theorem perm_sumR {l m : List Rat} (h : l.Perm m) : l.foldr (· + ·) 0 = m.foldr (· + ·) 0 := by
  induction h with
  | nil => rfl
  | cons x _ ih => show x + _ = x + _; rw [ih]
  | swap x y l => show y + (x + _) = x + (y + _); grind
  | trans _ _ h1 h2 => exact h1.trans h2
theorem ord_pcs {a b c g l0 l1 l2 l3 : Rat} (ho : Ord [l0, l1, l2, l3]) (hp : [l0, l1, l2, l3].Perm [a, b, c, g]) : (l3 ≤ l0 + l1 + l2 ↔ fits a b c g) ∧ (two a b c g ↔ ¬ l1 + l2 ≤ l0 + l3) := by
  have hsum : l0 + (l1 + (l2 + (l3 + 0))) = a + (b + (c + (g + 0))) := perm_sumR hp
  unfold Ord at ho
  simp only [List.pairwise_cons, List.mem_cons, List.not_mem_nil, or_false, forall_eq_or_imp, forall_eq] at ho
  obtain ⟨⟨o1, o2, o3⟩, ⟨o4, o5⟩, o6, _⟩ := ho
  have up : ∀ x ∈ [a, b, c, g], l0 ≤ x ∧ x ≤ l3 := fun x hx => by
    have := hp.mem_iff.mpr hx
    simp only [List.mem_cons, List.not_mem_nil, or_false] at this
    grind
  have ma := up a (by simp)
  have mb := up b (by simp)
  have mc := up c (by simp)
  have mg := up g (by simp)
  have m3 := hp.mem_iff.mp (show l3 ∈ [l0, l1, l2, l3] by simp)
  have m0 := hp.mem_iff.mp (show l0 ∈ [l0, l1, l2, l3] by simp)
  simp only [List.mem_cons, List.not_mem_nil, or_false] at m3 m0
  constructor
  · unfold fits
    constructor
    · intro h
      refine ⟨?_, ?_, ?_, ?_⟩ <;> grind
    · rintro ⟨h1, h2, h3, h4⟩
      grind
  · rw [two_iff (l := l0) (m := l3) ⟨m0, ma.1, mb.1, mc.1, mg.1⟩ ⟨m3, ma.2, mb.2, mc.2, mg.2⟩]
    grind
end My
namespace My
open PySem PySem.Spec PyProof.Rows L2 DL HM
set_option maxHeartbeats 4000000
theorem ss_inj {a b : Rat} (h : ss a = ss b) : a = b := by
  have key : ∀ {x y : Rat}, 0 ≤ x → 0 ≤ y → x * x = y * y → x = y := fun hx hy e => root_uniq hx hy e rfl
  unfold ss ab at h
  split at h <;> split at h
  · have := key (x := -a) (y := -b) (by grind) (by grind) (by grind)
    grind
  · rename_i h1 h2
    have := rat_sq_nonneg b
    have := sq_pos (b := a) (by grind)
    grind
  · rename_i h1 h2
    have := rat_sq_nonneg a
    have := sq_pos (b := b) (by grind)
    grind
  · exact key (by grind) (by grind) h
def HasR (u x : Rat) : Prop := ∃ b, ss b * u = x
noncomputable def bq (u x : Rat) : Rat := @dite _ (HasR u x) (Classical.propDecidable _) (fun h => Classical.choose h) (fun _ => 0)
theorem bq_ok {u x : Rat} (h : HasR u x) : ss (bq u x) * u = x := by
  unfold bq
  rw [dif_pos h]
  exact Classical.choose_spec h
theorem bq_eq {u x b : Rat} (u0 : 0 < u) (e : ss b * u = x) : bq u x = b := by
  have h := bq_ok ⟨b, e⟩
  apply ss_inj
  generalize ss (bq u x) = s at h ⊢
  generalize ss b = t at e ⊢
  have h2 : (s - t) * u = 0 := by grind
  have : u ≠ 0 := by grind
  grind
theorem has_zero {u : Rat} : HasR u 0 := ⟨0, by rw [ss_of_zero, Rat.zero_mul]⟩
theorem bq_zero {u : Rat} (u0 : 0 < u) : bq u 0 = 0 := bq_eq u0 (by rw [ss_of_zero, Rat.zero_mul])
noncomputable def rq (u : Rat) (n : Gn) : Q := (n.1, bq u n.2)
noncomputable def rp (u : Rat) (p : Gn × Gn) : Q × Q := (rq u p.1, rq u p.2)
def HR (u : Rat) (ps : List (Gn × Gn)) : Prop := ∀ p ∈ ps, HasR u p.1.2 ∧ HasR u p.2.2
def ptD (u : Rat) (p : Q × Q) : D := Pq u p.1 p.2
theorem gP_eq {u : Rat} {p : Gn × Gn} (h : HasR u p.1.2 ∧ HasR u p.2.2) : gP p = ptD u (rp u p) := by
  show D.tup [.tup [fr p.1.1, fr p.1.2], .tup [fr p.2.1, fr p.2.2]] = D.tup [.tup [fr p.1.1, fr (ss (bq u p.1.2) * u)], .tup [fr p.2.1, fr (ss (bq u p.2.2) * u)]]
  rw [bq_ok h.1, bq_ok h.2]
structure NOk (n : Gn) : Prop where
  a : Sz 1700 n.1
  u : Sz 1500 n.2
  no : n.2 = 0 ∨ NoSq (ab n.2)
def POk (p : Gn × Gn) : Prop := NOk p.1 ∧ NOk p.2
theorem rep_of {x y r : Rat} (hx : x ≠ 0) (hy : y ≠ 0) (e : r * r = ab x / ab y) (sx : Sz 1500 x) (sy : Sz 1500 y) : ∃ b, ss b * ab x = y ∧ Sz 3003 b := by
  have ye := ab_ne hy
  have e1 : ab r * ab r = ab x / ab y := (ab_sq r).trans e
  have e2 : ab r * ab r * ab y = ab x := by rw [e1]; exact Rat.div_mul_cancel ye
  have st : Sz 3001 (ab r) := ((sx.ab.div' sy.ab).mono (by decide)).root e1
  have r0 : 0 ≤ ab r := ab_nn r
  generalize ab r = t at *
  have t0 : t ≠ 0 := fun z => by
    rw [z] at e2
    exact ab_ne hx (by rw [← e2]; grind)
  have si : Sz 3003 (1 / t) := (Sz.div' sz_one st).mono (by decide)
  have ei : 1 / t * t = 1 := Rat.div_mul_cancel t0
  have i0 : 0 ≤ 1 / t := div_nn (by decide) r0
  generalize 1 / t = i at *
  have es : ss i * ab x = ab y := by
    rw [ss_nonneg i0, ← e2]
    generalize ab y = y' at *
    have : i * i * (t * t * y') = (i * t) * (i * t) * y' := by grind
    rw [this, ei]
    grind
  by_cases n : y < 0
  · refine ⟨-i, ?_, si.neg⟩
    rw [ss_negate]
    have : ab y = -y := by unfold ab; rw [if_pos n]
    rw [this] at es
    generalize ss i = s at *
    generalize ab x = x' at *
    grind
  · exact ⟨i, by rw [es]; unfold ab; rw [if_neg n], si⟩
theorem mem_rts {ps : List (Gn × Gn)} {p : Gn × Gn} (hp : p ∈ ps) {n : Gn} (hn : n = p.1 ∨ n = p.2) (h0 : n.2 ≠ 0) : n ∈ rts ps :=
  List.mem_flatMap.mpr ⟨p, hp, List.mem_filter.mpr ⟨by rcases hn with rfl | rfl <;> simp, by simpa using h0⟩⟩
theorem one_rep {ps : List (Gn × Gn)} (ok : ∀ p ∈ ps, POk p) (h : One ps) : ∃ u, Fd u ∧ HR u ps ∧ ∀ p ∈ ps, Sq 3003 (rq u p.1) ∧ Sq 3003 (rq u p.2) := by
  have fin : ∀ u, Fd u → (∀ p ∈ ps, ∀ n : Gn, (n = p.1 ∨ n = p.2) → ∃ b, ss b * u = n.2 ∧ Sz 3003 b) → ∃ u, Fd u ∧ HR u ps ∧ ∀ p ∈ ps, Sq 3003 (rq u p.1) ∧ Sq 3003 (rq u p.2) := fun u hu w => by
    have sq : ∀ p ∈ ps, ∀ n : Gn, (n = p.1 ∨ n = p.2) → NOk n → Sq 3003 (rq u n) := fun p hp n hn ok => by
      obtain ⟨b, e, s⟩ := w p hp n hn
      refine ⟨ok.a.mono (by decide), ?_⟩
      show Sz 3003 (bq u n.2)
      rw [bq_eq hu.pos e]
      exact s
    refine ⟨u, hu, fun p hp => ⟨?_, ?_⟩, fun p hp => ⟨sq p hp _ (.inl rfl) (ok p hp).1, sq p hp _ (.inr rfl) (ok p hp).2⟩⟩
    · obtain ⟨b, e, _⟩ := w p hp _ (.inl rfl); exact ⟨b, e⟩
    · obtain ⟨b, e, _⟩ := w p hp _ (.inr rfl); exact ⟨b, e⟩
  have nok : ∀ n ∈ rts ps, n.2 ≠ 0 ∧ NOk n := fun n hn => by
    obtain ⟨h0, p, hp, hh⟩ := rts_mem hn
    rcases hh with rfl | rfl
    · exact ⟨h0, (ok p hp).1⟩
    · exact ⟨h0, (ok p hp).2⟩
  have zero : ∀ {u : Rat} {n : Gn}, n.2 = 0 → ∃ b, ss b * u = n.2 ∧ Sz 3003 b := fun h0 => ⟨0, by rw [h0, ss_of_zero, Rat.zero_mul], Sz.zero.mono (by decide)⟩
  cases e : rts ps with
  | nil =>
    refine fin 2 two_fd fun p hp n hn => zero ?_
    apply Classical.byContradiction
    intro h0
    have := mem_rts hp hn h0
    rw [e] at this
    cases this
  | cons x0 t =>
    have m0 : x0 ∈ rts ps := by rw [e]; exact List.mem_cons_self
    obtain ⟨n0, ok0⟩ := nok x0 m0
    refine fin (ab x0.2) ⟨ab_pos n0, ok0.no.resolve_left n0, ok0.u.ab.mono (by decide)⟩ fun p hp n hn => ?_
    by_cases h0 : n.2 = 0
    · exact zero h0
    · have mn := mem_rts hp hn h0
      obtain ⟨_, okn⟩ := nok n mn
      have sq : IsSq (ab x0.2 / ab n.2) := by
        rw [e] at mn
        rcases List.mem_cons.mp mn with rfl | mn
        · refine ⟨1, ?_⟩
          rw [Rat.div_def, Rat.mul_inv_cancel _ (ab_ne h0), Rat.mul_one]
        · have := ofB_o (h n (by rw [e]; exact mn))
          rw [show (rts ps).headD (0, 0) = x0 by rw [e]; rfl] at this
          rcases this with z | z | z
          · exact absurd z n0
          · exact absurd z h0
          · exact z
      obtain ⟨r, er⟩ := sq
      exact rep_of n0 h0 er ok0.u okn.u
theorem one_of {u : Rat} {ps : List (Gn × Gn)} (u0 : 0 < u) (h : HR u ps) : One ps := fun n hn => by
  have has : ∀ n ∈ rts ps, n.2 ≠ 0 ∧ HasR u n.2 := fun n hn => by
    obtain ⟨h0, p, hp, hh⟩ := rts_mem hn
    rcases hh with rfl | rfl
    · exact ⟨h0, (h p hp).1⟩
    · exact ⟨h0, (h p hp).2⟩
  cases e : rts ps with
  | nil => rw [e] at hn; cases hn
  | cons x0 t =>
    obtain ⟨m0, b, eb⟩ := has x0 (by rw [e]; exact List.mem_cons_self)
    obtain ⟨n0, d, ed⟩ := has n (List.mem_of_mem_tail hn)
    refine ofB_t (.inr (.inr ⟨b / d, ?_⟩))
    show b / d * (b / d) = ab x0.2 / ab n.2
    rw [← eb, ← ed, ss_ab u0, ss_ab u0]
    have d0 : d ≠ 0 := fun z => n0 (by rw [← ed, z, ss_of_zero, Rat.zero_mul])
    have hb : b / d * d = b := Rat.div_mul_cancel d0
    have une : u ≠ 0 := by grind
    have dd : d * d * u ≠ 0 := by
      have := sq_pos d0
      have := Rat.mul_pos this u0
      grind
    have h2 : b * b * u / (d * d * u) * (d * d * u) = b * b * u := Rat.div_mul_cancel dd
    generalize b * b * u / (d * d * u) = y at *
    generalize b / d = x at *
    have : (x * x - y) * (d * d * u) = 0 := by subst hb; grind
    grind
end My
namespace My
open PySem PySem.Spec PyProof.Rows L2 DL HM
set_option maxHeartbeats 4000000
structure Rod where
  i : Nat
  j : Nat
  q : Rat
def Rod.d (r : Rod) : D := .tup [.int (r.i : Nat), .int (r.j : Nat), fr r.q]
abbrev Pts := List (Q × Q)
def sqOf (u : Rat) (ps : Pts) (r : Rod) : Q := match ps[r.i]?, ps[r.j]? with
  | some a, some b => squareQ u (qs b.1 a.1) (qs b.2 a.2)
  | _, _ => (0, 0)
def badFrom (u : Rat) (ps : Pts) : Nat → List Rod → D
  | _, [] => .non
  | k, r :: rs => if sqOf u ps r = (r.q, 0) then badFrom u ps (k + 1) rs else .int (k : Nat)
theorem eq_int {n : Nat} {i j : Int} : eqT n (.int i) (.int j) = some (i == j) := by cases n <;> rfl
theorem eq_fr {n : Nat} {p q : Rat} : eqT (n + 1) (fr p) (fr q) = some (decide (p = q)) := by
  show eqTs (eqT n) [.int p.num, .int (p.den : Int)] [.int q.num, .int (q.den : Int)] = _
  show (match eqT n (.int p.num) (.int q.num), (match eqT n (.int (p.den : Int)) (.int (q.den : Int)), some true with | some a, some b => some (a && b) | _, _ => none) with | some a, some b => some (a && b) | _, _ => none) = _
  rw [eq_int, eq_int]
  show some ((p.num == q.num) && (((p.den : Int) == (q.den : Int)) && true)) = _
  congr 1
  rw [Bool.and_true, Bool.eq_iff_iff]
  simp only [Bool.and_eq_true, beq_iff_eq, decide_eq_true_eq]
  exact ⟨fun ⟨a, b⟩ => Rat.ext a (by exact_mod_cast b), fun h => by subst h; exact ⟨rfl, rfl⟩⟩
theorem eq_two {n : Nat} {a b c d : D} {p q : Bool} (h1 : eqT n a c = some p) (h2 : eqT n b d = some q) : eqT (n + 1) (.tup [a, b]) (.tup [c, d]) = some (p && q) := by
  show (match eqT n a c, (match eqT n b d, some true with | some a, some b => some (a && b) | _, _ => none) with | some a, some b => some (a && b) | _, _ => none) = _
  rw [h1, h2]
  show some (p && (q && true)) = _
  rw [Bool.and_true]
theorem eq_sq {u q : Rat} {s : Q} (u0 : 0 < u) : eqT 8 (N u s.1 s.2) (.tup [fr q, fr 0]) = some (decide (s = (q, 0))) := by
  have h := eq_two (n := 7) (eq_fr (n := 6) (p := s.1) (q := q)) (eq_fr (n := 6) (p := ss s.2 * u) (q := 0))
  rw [show decide (s = (q, 0)) = (decide (s.1 = q) && decide (ss s.2 * u = 0)) from ?_]
  · exact h
  · rw [Bool.eq_iff_iff]
    simp only [Bool.and_eq_true, decide_eq_true_eq]
    rw [ss_zero u0]
    exact ⟨fun e => by rw [e]; exact ⟨rfl, rfl⟩, fun ⟨a, b⟩ => Prod.ext a b⟩
def Rgt (u : Rat) (ps : Pts) (rs : List Rod) : Prop := ∀ r ∈ rs, sqOf u ps r = (r.q, 0)
theorem bad_iff {u : Rat} {ps : Pts} : ∀ {k : Nat} {rs : List Rod}, isNonD (badFrom u ps k rs) = true ↔ Rgt u ps rs
  | k, [] => ⟨fun _ _ h => (by cases h), fun _ => rfl⟩
  | k, r :: rs => by
    have ih := bad_iff (u := u) (ps := ps) (k := k + 1) (rs := rs)
    unfold badFrom
    by_cases h : sqOf u ps r = (r.q, 0)
    · rw [if_pos h, ih]
      exact ⟨fun w y hy => by
        rcases List.mem_cons.mp hy with rfl | hy
        · exact h
        · exact w y hy, fun w y hy => w y (List.mem_cons_of_mem _ hy)⟩
    · rw [if_neg h]
      exact ⟨fun z => (by cases z), fun w => absurd (w r List.mem_cons_self) h⟩
theorem base_go {u v : Rat} {ps : List (Gn × Gn)} (u0 : 0 < u) (v0 : 0 < v) (hu : HR u ps) (hv : HR v ps) : ∃ ρ : Rat, ρ ≠ 0 ∧ (u = ρ * ρ * v ∨ ∀ p ∈ ps, bq u p.1.2 = 0 ∧ bq u p.2.2 = 0) ∧ ∀ p ∈ ps, bq v p.1.2 = ρ * bq u p.1.2 ∧ bq v p.2.2 = ρ * bq u p.2.2 := by
  cases e : rts ps with
  | nil =>
    have z : ∀ p ∈ ps, p.1.2 = 0 ∧ p.2.2 = 0 := fun p hp => by
      have y : ∀ n : Gn, n = p.1 ∨ n = p.2 → n.2 = 0 := fun n hn => by
        apply Classical.byContradiction
        intro h0
        have := mem_rts hp hn h0
        rw [e] at this
        cases this
      exact ⟨y _ (.inl rfl), y _ (.inr rfl)⟩
    refine ⟨1, by decide, .inr fun p hp => ?_, fun p hp => ?_⟩
    · rw [(z p hp).1, (z p hp).2, bq_zero u0]
      exact ⟨rfl, rfl⟩
    · rw [(z p hp).1, (z p hp).2, bq_zero u0, bq_zero v0]
      exact ⟨by grind, by grind⟩
  | cons x0 t =>
    have m0 : x0 ∈ rts ps := by rw [e]; exact List.mem_cons_self
    obtain ⟨n0, p, hp, hh⟩ := rts_mem m0
    have hx : HasR u x0.2 ∧ HasR v x0.2 := by
      rcases hh with rfl | rfl
      · exact ⟨(hu p hp).1, (hv p hp).1⟩
      · exact ⟨(hu p hp).2, (hv p hp).2⟩
    obtain ⟨⟨b, eb⟩, ⟨d, ed⟩⟩ := hx
    have b0 : b ≠ 0 := fun z => n0 (by rw [← eb, z, ss_of_zero, Rat.zero_mul])
    have hb : d / b * b = d := Rat.div_mul_cancel b0
    have pos : 0 ≤ d / b := by
      have h1 := ss_neg (b := b) u0
      have h2 := ss_neg (b := d) v0
      rw [eb] at h1
      rw [ed] at h2
      have h3 := h1.symm.trans h2
      rcases tri b with z | z | z
      · exact div_nn (by grind) (by grind)
      · have := div_nn (x := -d) (y := -b) (by grind) (by grind)
        have y : -d / -b * -b = -d := Rat.div_mul_cancel (by grind)
        have : -d / -b = d / b := by
          have : (-d / -b - d / b) * b = 0 := by grind
          grind
        grind
      · exact absurd z b0
    have sρ := ss_nonneg pos
    generalize d / b = ρ at *
    have ρ0 : ρ ≠ 0 := fun z => by
      rw [z] at hb
      exact n0 (by rw [← ed, ← hb, Rat.zero_mul, ss_of_zero, Rat.zero_mul])
    have euv : u = ρ * ρ * v := by
      have h : ss ρ * ss b * v = ss b * u := by rw [← ss_mul, hb, ed, eb]
      rw [sρ] at h
      have sb : ss b ≠ 0 := fun z => n0 (by rw [← eb, z, Rat.zero_mul])
      generalize ss b = s at *
      have : s * (ρ * ρ * v - u) = 0 := by grind
      grind
    have sc : ∀ x : Rat, HasR u x → bq v x = ρ * bq u x := fun x h => bq_eq v0 (by
      rw [ss_mul, sρ]
      have h1 := bq_ok h
      rw [euv] at h1 ⊢
      generalize ss (bq (ρ * ρ * v) x) = s at *
      grind)
    exact ⟨ρ, ρ0, .inl euv, fun p hp => ⟨sc _ (hu p hp).1, sc _ (hu p hp).2⟩⟩
theorem rgt_free {u v : Rat} {ps : List (Gn × Gn)} {rs : List Rod} (u0 : 0 < u) (v0 : 0 < v) (hu : HR u ps) (hv : HR v ps) (hi : ∀ r ∈ rs, r.i < ps.length ∧ r.j < ps.length) (h : Rgt u (ps.map (rp u)) rs) : Rgt v (ps.map (rp v)) rs := fun r hr => by
  have h := h r hr
  obtain ⟨ii, jj⟩ := hi r hr
  have gi : ∀ w, (ps.map (rp w))[r.i]? = some (rp w ps[r.i]) := fun w => by simp [ii]
  have gj : ∀ w, (ps.map (rp w))[r.j]? = some (rp w ps[r.j]) := fun w => by simp [jj]
  unfold sqOf at h ⊢
  rw [gi, gj] at h ⊢
  obtain ⟨ρ, ρ0, euv, sc⟩ := base_go u0 v0 hu hv
  have mi := sc _ (List.getElem_mem ii)
  have mj := sc _ (List.getElem_mem jj)
  have za : ∀ (z : ∀ p ∈ ps, bq u p.1.2 = 0 ∧ bq u p.2.2 = 0), (bq u ps[r.i].1.2 = 0 ∧ bq u ps[r.i].2.2 = 0) ∧ bq u ps[r.j].1.2 = 0 ∧ bq u ps[r.j].2.2 = 0 := fun z => ⟨z _ (List.getElem_mem ii), z _ (List.getElem_mem jj)⟩
  have e1 := congrArg Prod.fst h
  have e2 := congrArg Prod.snd h
  simp only [squareQ, qa, qm, qs, rp, rq] at e1 e2
  show squareQ v (qs (rp v ps[r.j]).1 (rp v ps[r.i]).1) (qs (rp v ps[r.j]).2 (rp v ps[r.i]).2) = (r.q, 0)
  simp only [squareQ, qa, qm, qs, rp, rq]
  rw [mi.1, mi.2, mj.1, mj.2]
  have key : (u = ρ * ρ * v ∨ (bq u ps[r.i].1.2 = 0 ∧ bq u ps[r.i].2.2 = 0) ∧ bq u ps[r.j].1.2 = 0 ∧ bq u ps[r.j].2.2 = 0) := euv.imp id za
  clear euv sc mi mj za h gi gj hu hv
  generalize bq u ps[r.i].1.2 = b1 at *
  generalize bq u ps[r.i].2.2 = b2 at *
  generalize bq u ps[r.j].1.2 = b3 at *
  generalize bq u ps[r.j].2.2 = b4 at *
  generalize ps[r.i].1.1 = a1 at *
  generalize ps[r.i].2.1 = a2 at *
  generalize ps[r.j].1.1 = a3 at *
  generalize ps[r.j].2.1 = a4 at *
  refine Prod.ext ?_ ?_
  · dsimp only
    rcases key with rfl | ⟨⟨rfl, rfl⟩, rfl, rfl⟩
    · rw [← e1]
      grind
    · rw [← e1]
      grind
  · dsimp only
    have : (a3 - a1) * (ρ * b3 - ρ * b1) + (ρ * b3 - ρ * b1) * (a3 - a1) + ((a4 - a2) * (ρ * b4 - ρ * b2) + (ρ * b4 - ρ * b2) * (a4 - a2)) = ρ * ((a3 - a1) * (b3 - b1) + (b3 - b1) * (a3 - a1) + ((a4 - a2) * (b4 - b2) + (b4 - b2) * (a4 - a2))) := by grind
    rw [this, e2]
    grind
def Stand (rs : List Rod) (ps : List (Gn × Gn)) : Prop := ∃ u, 0 < u ∧ HR u ps ∧ Rgt u (ps.map (rp u)) rs
noncomputable def stB (rs : List Rod) (ps : List (Gn × Gn)) : Bool := @decide (Stand rs ps) (Classical.propDecidable _)
theorem stB_t {rs : List Rod} {ps : List (Gn × Gn)} (h : Stand rs ps) : stB rs ps = true := @decide_eq_true _ (Classical.propDecidable _) h
theorem stB_f {rs : List Rod} {ps : List (Gn × Gn)} (h : ¬ Stand rs ps) : stB rs ps = false := @decide_eq_false _ (Classical.propDecidable _) h
theorem stB_of {u : Rat} {rs : List Rod} {ps : List (Gn × Gn)} (u0 : 0 < u) (hu : HR u ps) (hi : ∀ r ∈ rs, r.i < ps.length ∧ r.j < ps.length) : isNonD (badFrom u (ps.map (rp u)) 0 rs) = stB rs ps := by
  by_cases h : Rgt u (ps.map (rp u)) rs
  · rw [bad_iff.mpr h, stB_t ⟨u, u0, hu, h⟩]
  · rw [stB_f fun ⟨v, v0, hv, w⟩ => h (rgt_free v0 u0 hv hu hi w)]
    cases e : isNonD (badFrom u (ps.map (rp u)) 0 rs) with
    | false => rfl
    | true => exact absurd (bad_iff.mp e) h
theorem stB_no {rs : List Rod} {ps : List (Gn × Gn)} (h : ¬ One ps) : stB rs ps = false := stB_f fun ⟨_, u0, hu, _⟩ => h (one_of u0 hu)
def F_first_wrong : DSp := fun ds S k => match ds with
  | [.non, .non] => False ∧ k .non S
  | _ => False
theorem sc_first_wrong : FnScope ["linkage", "place", "number", "rod"] ["linkage", "place"] (defScope s_first_wrong) := ⟨rfl, rfl, rfl, by decide +kernel, rfl, by decide +kernel, by decide +kernel⟩
theorem ok_first_wrong {P : Program} {w : World} {K : Fg} {mg : Str → Option Value} {base : Heap} {f : Addr} {fd : FuncData} (Fn : Fun K "first_wrong" "first_wrong" s_first_wrong f fd) (c_ask_one_field : Own P w K mg base "ask_one_field" 38 F_ask_one_field) (c_square_of_way : Own P w K mg base "square_of_way" 39 F_square_of_way) (c_way_between : Own P w K mg base "way_between" 40 F_way_between) (z_enumerate : mg "enumerate" = none) (g_NOUGHT : GTup K mg "NOUGHT" [0, 1]) :
    FnOk P w K mg base CX0 41 f fd ["linkage", "place"] (spU K F_first_wrong) := by
  refine Fn.okJ sc_first_wrong (fun ds S k h => ?_) (fun cdv A outer s H E hr => ⟨_, (ds_consj (dst_exprj (d_callj c_ask_one_field (hr.mono (by decide)) rfl (da_consj (d_varj 1) da_nilj))) (ds_consj (dst_forEnj PassesOwn.never rfl rfl z_enumerate (da_consj (d_ixj x_ixE (d_varj 0) d_intj (fun _ _ => rfl)) da_nilj) (dg_seqE (n := 2) rfl (dgs_consj (dg_namej (i := 2) sc_first_wrong.nd) (dgs_consj (dg_namej (i := 3) sc_first_wrong.nd) dgs_nilj))) (ds_onej (dst_ifj (dt_cmpj o_ne (d_callj c_square_of_way (hr.mono (by decide)) rfl (da_consj (d_callj c_way_between (hr.mono (by decide)) rfl (da_consj (d_ixj x_ixE (d_varj 1) (d_ixj x_ixE (d_varj 3) d_intj (fun _ _ => rfl)) (fun _ _ => rfl)) (da_consj (d_ixj x_ixE (d_varj 1) (d_ixj x_ixE (d_varj 3) d_intj (fun _ _ => rfl)) (fun _ _ => rfl)) da_nilj))) da_nilj)) (d_tupj (da_consj (d_ixj x_ixE (d_varj 3) d_intj (fun _ _ => rfl)) (da_consj (d_gtup g_NOUGHT rfl) da_nilj))) (nomark _)) (ds_onej (dst_retj (d_varj 2))) ds_nilj))) (ds_onej (dst_retj d_nonj)))), fun ds S k h => ?_⟩)
  · unfold F_first_wrong at h
    split at h
    · rfl
    · exact h.elim
  · unfold F_first_wrong at h
    split at h
    · exact h.1.elim
    · exact h.elim
def FX_first_wrong (cNoField : Addr) : DSpX := fun ds S k x => ∃ (n f : D) (ps : List (Gn × Gn)) (rs : List Rod), ds = [.tup [n, f, .tup (rs.map Rod.d)], .tup (ps.map gP)] ∧ (∀ p ∈ ps, POk p) ∧ ps.length ≤ 90 ∧ (∀ r ∈ rs, r.i < ps.length ∧ r.j < ps.length) ∧ (∀ u, 0 < u → HR u ps → ∀ S', Ext S S' → k (badFrom u (ps.map (rp u)) 0 rs) S') ∧ (¬ One ps → ∀ S', Ext S S' → x cNoField S')
theorem okx_first_wrong {P : Program} {w : World} {K : Fg} {mg : Str → Option Value} {base : Heap} {f : Addr} {fd : FuncData} {cNoField : Addr} (Fn : Fun K "first_wrong" "first_wrong" s_first_wrong f fd) (c_square_of_way : Own P w K mg base "square_of_way" 39 F_square_of_way) (c_way_between : Own P w K mg base "way_between" 40 F_way_between) (cx_ask_one_field : OwnX P w K mg base "ask_one_field" 38 (FX_ask_one_field cNoField)) (z_enumerate : mg "enumerate" = none) (g_NOUGHT : GTup K mg "NOUGHT" [0, 1]) :
    FnOk P w K mg base (CXE P w) 41 f fd ["linkage", "place"] (spX K (FX_first_wrong cNoField)) := by
  refine Fn.okX sc_first_wrong (fun ds S k x h => ?_) (fun cdv A outer s H E ex hr hE => ⟨_, (ds_consj (dst_exprj (d_callXj hE cx_ask_one_field (hr.mono (by decide)) rfl (da_consj (d_varj 1) da_nilj))) (ds_consj (dst_forEnj PassesOwn.leaving rfl rfl z_enumerate (da_consj (d_ixj x_ixF (d_varj 0) d_intj (fun _ _ => rfl)) da_nilj) (dg_seqE (n := 2) rfl (dgs_consj (dg_namej (i := 2) sc_first_wrong.nd) (dgs_consj (dg_namej (i := 3) sc_first_wrong.nd) dgs_nilj))) (ds_onej (dst_ifj (dt_cmpj (o_neX hr) (d_callj c_square_of_way (hr.mono (by decide)) rfl (da_consj (d_callj c_way_between (hr.mono (by decide)) rfl (da_consj (d_ixj x_ixF (d_varj 1) (d_ixj x_ixF (d_varj 3) d_intj (fun _ _ => rfl)) (fun _ _ => rfl)) (da_consj (d_ixj x_ixF (d_varj 1) (d_ixj x_ixF (d_varj 3) d_intj (fun _ _ => rfl)) (fun _ _ => rfl)) da_nilj))) da_nilj)) (d_tupj (da_consj (d_ixj x_ixF (d_varj 3) d_intj (fun _ _ => rfl)) (da_consj (d_gtup g_NOUGHT rfl) da_nilj))) (nomark _)) (ds_onej (dst_retj (d_varj 2))) ds_nilj))) (ds_onej (dst_retj d_nonj)))), fun ds S k h => ?_⟩)
  · obtain ⟨_, _, _, _, rfl, _⟩ := h
    rfl
  · obtain ⟨n, f, ps, rs, rfl, hp, hl, hrs, w, w0⟩ := h
    refine ⟨ps, rfl, fun p hp2 => ⟨(hp p hp2).1.u.mono (by decide), (hp p hp2).2.u.mono (by decide)⟩, hl, fun one S1 e1 => ?_, w0⟩
    obtain ⟨u, hu, hR, hs⟩ := one_rep hp one
    have w := w u hu.pos hR
    have eg : ps.map gP = (ps.map (rp u)).map (ptD u) := by
      rw [List.map_map]
      exact List.map_congr_left fun p hp2 => gP_eq (hR p hp2)
    rw [eg]
    have hP : ∀ p ∈ ps.map (rp u), Sq 3003 p.1 ∧ Sq 3003 p.2 := fun p hp2 => by
      obtain ⟨p, hp3, rfl⟩ := List.mem_map.mp hp2
      exact hs p hp3
    have eL : ps.length = (ps.map (rp u)).length := (List.length_map _).symm
    rw [eL] at hrs
    generalize ps.map (rp u) = P at w hP hrs ⊢
    clear hR hs eg eL w0 one hp hl
    refine ⟨_, atI2, (rs.map Rod.d, none), rfl, ?_⟩
    refine loop_ix (fun r L S' => ∃ l2 l3 j rs', L = [some (.tup [n, f, .tup (rs.map Rod.d)]), some (.tup (P.map (ptD u))), l2, l3] ∧ Ext S S' ∧ r = enumD j (rs'.map Rod.d) ∧ (∀ r ∈ rs', r.i < P.length ∧ r.j < P.length) ∧ badFrom u P 0 rs = badFrom u P j rs') (fun _ _ _ _ => trivial) ?_ ?_ _ _ _ ⟨_, _, 0, rs, rfl, e1, rfl, hrs, rfl⟩
    · rintro d r L S2 N1 ⟨l2, l3, j, rs', rfl, e2, er, hr, hb⟩ hN
      cases rs' with
      | nil => cases er
      | cons ro rs' =>
        cases er
        have ⟨hi, hj⟩ := hr ro List.mem_cons_self
        have gi : P[ro.i]? = some P[ro.i] := by simp [hi]
        have gj : P[ro.j]? = some P[ro.j] := by simp [hj]
        have oi := hP _ (List.getElem_mem hi)
        have oj := hP _ (List.getElem_mem hj)
        have fi : L2.atI (P.map (ptD u)) ((ro.i : Nat) : Int) = some (ptD u P[ro.i]) := L2.atI_nat (by simp [hi])
        have fj : L2.atI (P.map (ptD u)) ((ro.j : Nat) : Int) = some (ptD u P[ro.j]) := L2.atI_nat (by simp [hj])
        refine ⟨([.int (j : Nat), ro.d], none), rfl, rfl, rfl, ⟨_, atI0, _, fi, _, atI1, _, fj, ?_⟩⟩
        refine ⟨u, _, _, _, _, rfl, hu, oi.1.mono (by decide), oi.2.mono (by decide), oj.1.mono (by decide), oj.2.mono (by decide), u, _, _, rfl, hu, (sqs oj.1 oi.1).mono (by decide), (sqs oj.2 oi.2).mono (by decide), _, atI2, few, _, eq_sq hu.pos, ite_nb (fun ne => ?_) (fun yes => ?_)⟩
        · have ne := of_decide_eq_false ne
          have hb2 : badFrom u P 0 rs = .int (j : Nat) := by
            rw [hb]
            show (if sqOf u P ro = (ro.q, 0) then _ else _) = _
            unfold sqOf
            rw [gi, gj, if_neg ne]
          rw [hb2] at w
          exact w S2 e2
        · have yes := of_decide_eq_true yes
          refine hN _ _ ⟨_, _, j + 1, rs', rfl, e2, rfl, fun r hr2 => hr r (List.mem_cons_of_mem _ hr2), ?_⟩
          rw [hb]
          show (if sqOf u P ro = (ro.q, 0) then _ else _) = _
          unfold sqOf
          rw [gi, gj, if_pos yes]
    · rintro L S2 ⟨l2, l3, j, rs', rfl, e2, er, hr, hb⟩
      cases rs' with
      | nil => rw [hb] at w; exact w S2 e2
      | cons ro rs' => cases er
def F_square_of : DSp := fun ds S k => ∃ q : Rat, ds = [fr q] ∧ Sz 400000 q ∧ k (fr (q * q)) S
theorem sc_square_of : FnScope ["length"] ["length"] (defScope s_square_of) := ⟨rfl, rfl, rfl, by decide +kernel, rfl, by decide +kernel, by decide +kernel⟩
theorem ok_square_of {P : Program} {w : World} {K : Fg} {mg : Str → Option Value} {base : Heap} {f : Addr} {fd : FuncData} (Fn : Fun K "square_of" "square_of" s_square_of f fd) (c_times : Own P w K mg base "times" 35 F_times) :
    FnOk P w K mg base CX0 36 f fd ["length"] (spU K F_square_of) := by
  refine Fn.okJ sc_square_of (fun ds S k h => ?_) (fun cdv A outer s H E hr => ⟨_, (ds_onej (dst_retj (d_callj c_times (hr.mono (by decide)) rfl (da_consj (d_varj 0) (da_consj (d_varj 0) da_nilj))))), fun ds S k h => ?_⟩)
  · obtain ⟨_, rfl, _⟩ := h
    rfl
  · obtain ⟨q, rfl, hq, w⟩ := h
    exact ⟨q, q, rfl, hq.mono (by decide), hq.mono (by decide), w⟩
def rods3 (a b c : Rat) : List Rod := [⟨0, 1, a * a⟩, ⟨1, 2, b * b⟩, ⟨2, 3, c * c⟩]
def place4 (g : Rat) (p q : Gn × Gn) : List (Gn × Gn) := [((0, 0), (0, 0)), p, q, ((g, 0), (0, 0))]
theorem rods3_ix {a b c g : Rat} {p q : Gn × Gn} {r : Rod} (hr : r ∈ rods3 a b c) : r.i < (place4 g p q).length ∧ r.j < (place4 g p q).length := by
  unfold rods3 at hr
  simp only [List.mem_cons, List.not_mem_nil, or_false] at hr
  rcases hr with rfl | rfl | rfl
  · exact ⟨by show 0 < 4; decide, by show 1 < 4; decide⟩
  · exact ⟨by show 1 < 4; decide, by show 2 < 4; decide⟩
  · exact ⟨by show 2 < 4; decide, by show 3 < 4; decide⟩
def F_is_stand : DSp := fun ds S k => ∃ (a b c g : Rat) (p q : Gn × Gn), ds = [RD a b c g, .tup [gP p, gP q]] ∧ Sz 14 a ∧ Sz 14 b ∧ Sz 14 c ∧ Sz 14 g ∧ POk p ∧ POk q ∧ ∀ S', Ext S S' → k (.bl (stB (rods3 a b c) (place4 g p q))) S'
theorem sc_is_stand : FnScope ["rods", "stand", "squares", "linkage"] ["rods", "stand"] (defScope s_is_stand) := ⟨rfl, rfl, rfl, by decide +kernel, rfl, by decide +kernel, by decide +kernel⟩
theorem ok_is_stand {P : Program} {w : World} {K : Fg} {mg : Str → Option Value} {base : Heap} {f : Addr} {fd : FuncData} {cNoField : Addr} (Fn : Fun K "is_stand" "is_stand" s_is_stand f fd) (c_square_of : Own P w K mg base "square_of" 36 F_square_of) (c_ground_end : Own P w K mg base "ground_end" 2 F_ground_end) (cx_first_wrong : OwnX P w K mg base "first_wrong" 41 (FX_first_wrong cNoField)) (g_START : GTup3 K mg "START" [[[0, 1], [0, 1]], [[0, 1], [0, 1]]]) (m_NoField : mg "NoField" = some (.ref cNoField)) (xm_NoField : PySem.W.exmOne K (.ref cNoField) (.ref cNoField) = some true) :
    FnOk P w K mg base CX0 42 f fd ["rods", "stand"] (spU K F_is_stand) := by
  refine Fn.okJ sc_is_stand (fun ds S k h => ?_) (fun cdv A outer s H E hr => ⟨_, (ds_consj (dst_compEjS (iv := 2) sc_is_stand.nd rfl (compSc (N := ["rod"]) (cap := [none]) rfl rfl rfl rfl trivial rfl rfl trivial) (d_cutEj (d_varj 0) do_nonej (do_somej d_intj)) (fun _ _ _ _ => (dg_namej (i := 0) (show List.Nodup (["rod"] : List Str) from by decide +kernel))) (fun _ _ _ _ => (d_callj c_square_of (hr.mono (by decide)) rfl (da_consj (d_varj 0) da_nilj)))) (ds_consj (dst_setj (i := 3) sc_is_stand.nd (d_tupj (da_consj d_intj (da_consj (d_tupj (da_consj d_intj (da_consj d_intj da_nilj))) (da_consj (d_tupj (da_consj (d_tupj (da_consj d_intj (da_consj d_intj (da_consj (d_ixj x_ixE (d_varj 2) d_intj (fun _ _ => rfl)) da_nilj)))) (da_consj (d_tupj (da_consj d_intj (da_consj d_intj (da_consj (d_ixj x_ixE (d_varj 2) d_intj (fun _ _ => rfl)) da_nilj)))) (da_consj (d_tupj (da_consj d_intj (da_consj d_intj (da_consj (d_ixj x_ixE (d_varj 2) d_intj (fun _ _ => rfl)) da_nilj)))) da_nilj)))) da_nilj))))) (ds_onej (dst_tryRj (fun ex => (dx_cmpj o_is (dx_callj cx_first_wrong (hr.mono (by decide)) rfl (da_consj (d_varj 3) (da_consj (d_tupj (da_consj (d_gtup3 g_START rfl) (da_consj (d_ixj x_ixE (d_varj 1) d_intj (fun _ _ => rfl)) (da_consj (d_ixj x_ixE (d_varj 1) d_intj (fun _ _ => rfl)) (da_consj (d_callj c_ground_end (hr.mono (by decide)) rfl (da_consj (d_varj 0) da_nilj)) da_nilj))))) da_nilj))) d_nonj (nomark _))) (fun _ => hr.hd) rfl rfl rfl rfl m_NoField (fun v => (ds_onej (dst_retj d_blj))))))), fun ds S k h => ?_⟩)
  · obtain ⟨_, _, _, _, _, _, rfl, _⟩ := h
    rfl
  · obtain ⟨a, b, c, g, p, q, rfl, sa, sb, sc, sg, op, oq, w⟩ := h
    refine ⟨by show ¬ (HT.sIx 4 0 none = 0 ∧ HT.sIx 4 4 (some 3) = 4); decide, ([fr a, fr b, fr c], none), rfl, fun pq hq => ?_⟩
    have hx : ∀ x ∈ [a, b, c], Sz 14 x := fun x hx => by
      simp only [List.mem_cons, List.not_mem_nil, or_false] at hx
      rcases hx with rfl | rfl | rfl
      · exact sa
      · exact sb
      · exact sc
    refine map_loop (f := fr) (g := fun q => fr (q * q)) (all := [a, b, c]) hq (fun _ _ => trivial) (fun x S' k' hx2 e z => ⟨x, rfl, (hx x hx2).mono (by decide), z⟩) [a, b, c] [] none (fun _ z => z) (by show 0 + 3 ≤ 100; decide) fun S1 e1 h1 => ?_
    have h1 : S1 pq = some (.lst [fr (a * a), fr (b * b), fr (c * c)]) := h1
    refine ⟨few, _, _, h1, atI0, few, _, _, h1, atI1, few, _, _, h1, atI2, few, few, few, a, b, c, g, rfl, few, ?_⟩
    have z0 : NOk (0, 0) := ⟨Sz.zero.mono (by decide), Sz.zero.mono (by decide), .inl rfl⟩
    refine ⟨_, _, place4 g p q, rods3 a b c, rfl, fun y hy => ?_, by show 4 ≤ 90; decide, fun r hr => ?_, fun u u0 hR S2 e2 => ?_, fun no S2 e2 => ?_⟩
    · unfold place4 at hy
      simp only [List.mem_cons, List.not_mem_nil, or_false] at hy
      rcases hy with rfl | rfl | rfl | rfl
      · exact ⟨z0, z0⟩
      · exact op
      · exact oq
      · exact ⟨⟨sg.mono (by decide), Sz.zero.mono (by decide), .inl rfl⟩, z0⟩
    · exact rods3_ix hr
    · show dIs (badFrom u ((place4 g p q).map (rp u)) 0 (rods3 a b c)) .non S2 k
      rw [dIs_non, stB_of u0 hR fun r hr => rods3_ix hr]
      exact w S2 (e1.trans e2)
    · refine ⟨xm_NoField, ?_⟩
      rw [stB_no no] at w
      exact w S2 (e1.trans e2)
end My
namespace My
open PySem PySem.Spec PyProof.Rows L2 DL HM
set_option maxHeartbeats 4000000
abbrev B2 (x : Q) : D := .tup [fr x.1, fr x.2]
def F__law_add : DSp := fun ds S k => ∃ x y : Q, ds = [B2 x, B2 y] ∧ Sq 400000 x ∧ Sq 400000 y ∧ k (B2 (qa x y)) S
theorem sc__law_add : FnScope ["one", "other"] ["one", "other"] (defScope s__law_add) := ⟨rfl, rfl, rfl, by decide +kernel, rfl, by decide +kernel, by decide +kernel⟩
theorem ok__law_add {P : Program} {w : World} {K : Fg} {mg : Str → Option Value} {base : Heap} {f : Addr} {fd : FuncData} (Fn : Fun K "_law_add" "_law_add" s__law_add f fd) (c__law_plus : Own P w K mg base "_law_plus" 35 F__law_plus) :
    FnOk P w K mg base CX0 36 f fd ["one", "other"] (spU K F__law_add) := by
  refine Fn.okJ sc__law_add (fun ds S k h => ?_) (fun cdv A outer s H E hr => ⟨_, (ds_onej (dst_retj (d_tupj (da_consj (d_callj c__law_plus (hr.mono (by decide)) rfl (da_consj (d_ixj x_ixE (d_varj 0) d_intj (fun _ _ => rfl)) (da_consj (d_ixj x_ixE (d_varj 1) d_intj (fun _ _ => rfl)) da_nilj))) (da_consj (d_callj c__law_plus (hr.mono (by decide)) rfl (da_consj (d_ixj x_ixE (d_varj 0) d_intj (fun _ _ => rfl)) (da_consj (d_ixj x_ixE (d_varj 1) d_intj (fun _ _ => rfl)) da_nilj))) da_nilj))))), fun ds S k h => ?_⟩)
  · obtain ⟨_, _, rfl, _⟩ := h
    rfl
  · obtain ⟨x, y, rfl, hx, hy, w⟩ := h
    exact ⟨_, _, _, _, _, rfl, den_mul_ne _ _, hx.a.num, hx.a.den, hy.a.num, hy.a.den, add_of _ _, _, _, _, _, _, rfl, den_mul_ne _ _, hx.b.num, hx.b.den, hy.b.num, hy.b.den, add_of _ _, few, w⟩
def F__law_less : DSp := fun ds S k => ∃ x y : Q, ds = [B2 x, B2 y] ∧ Sq 400000 x ∧ Sq 400000 y ∧ k (B2 (qs x y)) S
theorem sc__law_less : FnScope ["one", "other"] ["one", "other"] (defScope s__law_less) := ⟨rfl, rfl, rfl, by decide +kernel, rfl, by decide +kernel, by decide +kernel⟩
theorem ok__law_less {P : Program} {w : World} {K : Fg} {mg : Str → Option Value} {base : Heap} {f : Addr} {fd : FuncData} (Fn : Fun K "_law_less" "_law_less" s__law_less f fd) (c__law_minus : Own P w K mg base "_law_minus" 35 F__law_minus) :
    FnOk P w K mg base CX0 36 f fd ["one", "other"] (spU K F__law_less) := by
  refine Fn.okJ sc__law_less (fun ds S k h => ?_) (fun cdv A outer s H E hr => ⟨_, (ds_onej (dst_retj (d_tupj (da_consj (d_callj c__law_minus (hr.mono (by decide)) rfl (da_consj (d_ixj x_ixE (d_varj 0) d_intj (fun _ _ => rfl)) (da_consj (d_ixj x_ixE (d_varj 1) d_intj (fun _ _ => rfl)) da_nilj))) (da_consj (d_callj c__law_minus (hr.mono (by decide)) rfl (da_consj (d_ixj x_ixE (d_varj 0) d_intj (fun _ _ => rfl)) (da_consj (d_ixj x_ixE (d_varj 1) d_intj (fun _ _ => rfl)) da_nilj))) da_nilj))))), fun ds S k h => ?_⟩)
  · obtain ⟨_, _, rfl, _⟩ := h
    rfl
  · obtain ⟨x, y, rfl, hx, hy, w⟩ := h
    exact ⟨_, _, rfl, hx.a, hy.a, _, _, rfl, hx.b, hy.b, few, w⟩
def F__law_multiply : DSp := fun ds S k => ∃ (x y : Q) (u : Rat), ds = [B2 x, B2 y, fr u] ∧ Sz 50000 u ∧ Sq 50000 x ∧ Sq 50000 y ∧ k (B2 (qm u x y)) S
theorem sc__law_multiply : FnScope ["one", "other", "base", "part"] ["one", "other", "base"] (defScope s__law_multiply) := ⟨rfl, rfl, rfl, by decide +kernel, rfl, by decide +kernel, by decide +kernel⟩
theorem ok__law_multiply {P : Program} {w : World} {K : Fg} {mg : Str → Option Value} {base : Heap} {f : Addr} {fd : FuncData} (Fn : Fun K "_law_multiply" "_law_multiply" s__law_multiply f fd) (c__law_plus : Own P w K mg base "_law_plus" 35 F__law_plus) (c__law_times : Own P w K mg base "_law_times" 35 F__law_times) :
    FnOk P w K mg base CX0 36 f fd ["one", "other", "base"] (spU K F__law_multiply) := by
  refine Fn.okJ sc__law_multiply (fun ds S k h => ?_) (fun cdv A outer s H E hr => ⟨_, (ds_consj (dst_setj (i := 3) sc__law_multiply.nd (d_callj c__law_plus (hr.mono (by decide)) rfl (da_consj (d_callj c__law_times (hr.mono (by decide)) rfl (da_consj (d_ixj x_ixE (d_varj 0) d_intj (fun _ _ => rfl)) (da_consj (d_ixj x_ixE (d_varj 1) d_intj (fun _ _ => rfl)) da_nilj))) (da_consj (d_callj c__law_times (hr.mono (by decide)) rfl (da_consj (d_varj 2) (da_consj (d_callj c__law_times (hr.mono (by decide)) rfl (da_consj (d_ixj x_ixE (d_varj 0) d_intj (fun _ _ => rfl)) (da_consj (d_ixj x_ixE (d_varj 1) d_intj (fun _ _ => rfl)) da_nilj))) da_nilj))) da_nilj)))) (ds_onej (dst_retj (d_tupj (da_consj (d_varj 3) (da_consj (d_callj c__law_plus (hr.mono (by decide)) rfl (da_consj (d_callj c__law_times (hr.mono (by decide)) rfl (da_consj (d_ixj x_ixE (d_varj 0) d_intj (fun _ _ => rfl)) (da_consj (d_ixj x_ixE (d_varj 1) d_intj (fun _ _ => rfl)) da_nilj))) (da_consj (d_callj c__law_times (hr.mono (by decide)) rfl (da_consj (d_ixj x_ixE (d_varj 0) d_intj (fun _ _ => rfl)) (da_consj (d_ixj x_ixE (d_varj 1) d_intj (fun _ _ => rfl)) da_nilj))) da_nilj))) da_nilj)))))), fun ds S k h => ?_⟩)
  · obtain ⟨_, _, _, rfl, _⟩ := h
    rfl
  · obtain ⟨x, y, u, rfl, su, hx, hy, w⟩ := h
    have m1 := hx.a.mul hy.a
    have m2 := hx.b.mul hy.b
    have m3 := hx.a.mul hy.b
    have m4 := hx.b.mul hy.a
    have m5 := su.mul m2
    have e : x.1 * y.1 + u * (x.2 * y.2) = (qm u x y).1 := by
      show _ = x.1 * y.1 + x.2 * y.2 * u
      grind
    refine ⟨_, _, _, _, _, rfl, den_mul_ne _ _, hx.a.num.mono (by decide), hx.a.den.mono (by decide), hy.a.num.mono (by decide), hy.a.den.mono (by decide), mul_of _ _, ?_⟩
    refine ⟨_, _, _, _, _, rfl, den_mul_ne _ _, hx.b.num.mono (by decide), hx.b.den.mono (by decide), hy.b.num.mono (by decide), hy.b.den.mono (by decide), mul_of _ _, ?_⟩
    refine ⟨_, _, _, _, _, rfl, den_mul_ne _ _, su.num.mono (by decide), su.den.mono (by decide), m2.num.mono (by decide), m2.den.mono (by decide), mul_of _ _, ?_⟩
    refine ⟨_, _, _, _, _, rfl, den_mul_ne _ _, m1.num.mono (by decide), m1.den.mono (by decide), m5.num.mono (by decide), m5.den.mono (by decide), (add_of _ _).trans e, ?_⟩
    refine ⟨_, _, _, _, _, rfl, den_mul_ne _ _, hx.a.num.mono (by decide), hx.a.den.mono (by decide), hy.b.num.mono (by decide), hy.b.den.mono (by decide), mul_of _ _, ?_⟩
    exact ⟨_, _, _, _, _, rfl, den_mul_ne _ _, hx.b.num.mono (by decide), hx.b.den.mono (by decide), hy.a.num.mono (by decide), hy.a.den.mono (by decide), mul_of _ _, _, _, _, _, _, rfl, den_mul_ne _ _, m3.num.mono (by decide), m3.den.mono (by decide), m4.num.mono (by decide), m4.den.mono (by decide), add_of _ _, few, w⟩
def mirG (n : Gn) : Gn := (-n.1, -n.2)
def F__law_turned : DSp := fun ds S k => ∃ p : Gn × Gn, ds = [gP p] ∧ k (gP (p.1, mirG p.2)) S
theorem sc__law_turned : FnScope ["point", "part", "under"] ["point"] (defScope s__law_turned) := ⟨rfl, rfl, rfl, by decide +kernel, rfl, by decide +kernel, by decide +kernel⟩
theorem ok__law_turned {P : Program} {w : World} {K : Fg} {mg : Str → Option Value} {base : Heap} {f : Addr} {fd : FuncData} (Fn : Fun K "_law_turned" "_law_turned" s__law_turned f fd)  :
    FnOk P w K mg base CX0 1 f fd ["point"] (spU K F__law_turned) := by
  refine Fn.okJ sc__law_turned (fun ds S k h => ?_) (fun cdv A outer s H E hr => ⟨_, (ds_consj (dst_asgj (d_ixj x_ixE (d_varj 0) d_intj (fun _ _ => rfl)) (dg_seqE (n := 2) rfl (dgs_consj (dg_namej (i := 1) sc__law_turned.nd) (dgs_consj (dg_namej (i := 2) sc__law_turned.nd) dgs_nilj)))) (ds_onej (dst_retj (d_tupj (da_consj (d_ixj x_ixE (d_varj 0) d_intj (fun _ _ => rfl)) (da_consj (d_tupj (da_consj (d_tupj (da_consj (d_opj o_sub d_intj (d_ixj x_ixE (d_varj 1) d_intj (fun _ _ => rfl))) (da_consj (d_ixj x_ixE (d_varj 1) d_intj (fun _ _ => rfl)) da_nilj))) (da_consj (d_tupj (da_consj (d_opj o_sub d_intj (d_ixj x_ixE (d_varj 2) d_intj (fun _ _ => rfl))) (da_consj (d_ixj x_ixE (d_varj 2) d_intj (fun _ _ => rfl)) da_nilj))) da_nilj))) da_nilj)))))), fun ds S k h => ?_⟩)
  · obtain ⟨_, rfl, _⟩ := h
    rfl
  · obtain ⟨p, rfl, w⟩ := h
    have w2 : k (.tup [gD p.1, .tup [.tup [.int (0 - p.2.1.num), .int (p.2.1.den : Int)], .tup [.int (0 - p.2.2.num), .int (p.2.2.den : Int)]]]) S := by
      rw [Int.zero_sub, Int.zero_sub, fr_neg, fr_neg]
      exact w
    exact ⟨([fr p.2.1, fr p.2.2], none), rfl, rfl, rfl, few, few, few, few, w2⟩
def nxt (u x : Rat) : Rat := if x = 0 then u else ab x
def lawU (p q : Gn × Gn) : Rat := nxt (nxt (nxt (nxt 2 p.1.2) p.2.2) q.1.2) q.2.2
theorem nxt_ok {u : Rat} {n : Gn} (h : 0 < u ∧ Sz 1500 u) (ok : NOk n) : 0 < nxt u n.2 ∧ Sz 1500 (nxt u n.2) := by
  unfold nxt
  by_cases z : n.2 = 0
  · rw [if_pos z]; exact h
  · rw [if_neg z]; exact ⟨ab_pos z, ok.u.ab⟩
theorem lawU_ok {p q : Gn × Gn} (op : POk p) (oq : POk q) : 0 < lawU p q ∧ Sz 1500 (lawU p q) := nxt_ok (nxt_ok (nxt_ok (nxt_ok ⟨by decide, (show Sz 2 2 from ⟨by decide, by decide⟩).mono (by decide)⟩ op.1) op.2) oq.1) oq.2
def Good (u v : Rat) : Prop := ∃ b, b ≠ 0 ∧ v = b * b * u
theorem nxt_good {u v x : Rat} {Z : Prop} (u0 : 0 < u) (hx : HasR u x) (h : Good u v ∨ Z) : Good u (nxt v x) ∨ (Z ∧ x = 0) := by
  unfold nxt
  by_cases z : x = 0
  · rw [if_pos z]
    exact h.imp id fun y => ⟨y, z⟩
  · rw [if_neg z]
    obtain ⟨b, e⟩ := hx
    refine .inl ⟨b, fun y => z (by rw [← e, y, ss_of_zero, Rat.zero_mul]), ?_⟩
    rw [← e, ss_ab u0]
theorem good_has {u v x : Rat} (u0 : 0 < u) (g : Good u v) (h : HasR u x) : HasR v x := by
  obtain ⟨b, b0, rfl⟩ := g
  obtain ⟨d, rfl⟩ := h
  refine ⟨d / ab b, ?_⟩
  rw [ss_div (ab_pos b0), ab_sq]
  have h : ss d / (b * b) * (b * b) = ss d := Rat.div_mul_cancel (by have := sq_pos b0; grind)
  generalize ss d / (b * b) = t at h ⊢
  rw [← h]
  grind
theorem lawU_has {u : Rat} {p q : Gn × Gn} (u0 : 0 < u) (hp : HasR u p.1.2 ∧ HasR u p.2.2) (hq : HasR u q.1.2 ∧ HasR u q.2.2) : HR (lawU p q) [p, q] := by
  have h := nxt_good u0 hq.2 (nxt_good u0 hq.1 (nxt_good u0 hp.2 (nxt_good (v := 2) (Z := True) u0 hp.1 (.inr trivial))))
  intro y hy
  simp only [List.mem_cons, List.not_mem_nil, or_false] at hy
  rcases h with h | ⟨⟨⟨⟨_, h1⟩, h2⟩, h3⟩, h4⟩
  · rcases hy with rfl | rfl
    · exact ⟨good_has u0 h hp.1, good_has u0 h hp.2⟩
    · exact ⟨good_has u0 h hq.1, good_has u0 h hq.2⟩
  · rcases hy with rfl | rfl
    · exact ⟨by rw [h1]; exact has_zero, by rw [h2]; exact has_zero⟩
    · exact ⟨by rw [h3]; exact has_zero, by rw [h4]; exact has_zero⟩
theorem made_cases {U x : Rat} (u0 : 0 < U) : (HasR U x ∧ mkD 0 (x / U) = .tup [fr (bq U x), fr 0]) ∨ (¬ HasR U x ∧ ∃ q : Rat, q ≠ 0 ∧ mkD 0 (x / U) = .tup [fr 0, fr q]) := by
  have une : U ≠ 0 := by grind
  have hd : x / U * U = x := Rat.div_mul_cancel une
  generalize x / U = y at *
  by_cases h : ∃ r, r * r = ab y
  · obtain ⟨r, e⟩ := h
    have e : ab r * ab r = ab y := (ab_sq r).trans e
    have r0 := ab_nn r
    generalize ab r = t at *
    have es : ss (sg t y) = y := by
      unfold sg
      by_cases n : y < 0
      · rw [if_pos n, ss_negate, ss_nonneg r0, e]
        unfold ab
        rw [if_pos n]
        grind
      · rw [if_neg n, ss_nonneg r0, e]
        unfold ab
        rw [if_neg n]
    have hx : ss (sg t y) * U = x := by rw [es, hd]
    refine .inl ⟨⟨_, hx⟩, ?_⟩
    rw [mkD_root r0 e, bq_eq u0 hx, Rat.zero_add]
  · have no : NoSq (ab y) := fun r e => h ⟨r, e⟩
    refine .inr ⟨fun ⟨b, e⟩ => no b ?_, y, fun z => no 0 ?_, mkD_no no⟩
    · have : ss b = y := by
        have : (ss b - y) * U = 0 := by grind
        grind
      rw [← this]
      have h := ss_ab (b := b) (u := 1) (by decide)
      rw [Rat.mul_one, Rat.mul_one] at h
      exact h.symm
    · rw [z, ab_zero, Rat.zero_mul]
theorem bq_sz {U x : Rat} (u0 : 0 < U) (su : Sz 1500 U) (sx : Sz 1500 x) (h : HasR U x) : Sz 3003 (bq U x) := by
  obtain ⟨b, e⟩ := h
  rw [bq_eq u0 e]
  have une : U ≠ 0 := by grind
  have e2 : b * b = ab x / U := by
    rw [← e, ss_ab u0]
    have hd : b * b * U / U * U = b * b * U := Rat.div_mul_cancel une
    generalize b * b * U / U = y at *
    have : (b * b - y) * U = 0 := by grind
    grind
  exact (((sx.ab.div' su).mono (n := 3003) (by decide))).root e2
theorem rq_sz {U : Rat} {n : Gn} (u0 : 0 < U) (su : Sz 1500 U) (ok : NOk n) (h : HasR U n.2) : Sq 3003 (rq U n) := ⟨ok.a.mono (by decide), bq_sz u0 su ok.u h⟩
def Kb (r0 : Addr) (S S' : DH) : Prop := ∀ b o, b ≠ r0 → S b = some o → S' b = some o
theorem row_go {M : DEnds} {S : DH} {U : Rat} {pt : Gn × Gn} {pose l4 l5 l6 l7 : Option D} {r0 : Addr} {xs : List D} (u0 : 0 < U) (su : Sz 1500 U) (ok : POk pt) (h0 : S r0 = some (.lst xs)) (hl : xs.length < 10)
    (no : ¬ (HasR U pt.1.2 ∧ HasR U pt.2.2) → ∀ S', Kb r0 S S' → M.rt .non S')
    (yes : HasR U pt.1.2 ∧ HasR U pt.2.2 → ∀ S' a l5 l6 l7, S a = none → Kb r0 S S' → S' a = some (.lst [B2 (rq U pt.1), B2 (rq U pt.2)]) → S' r0 = some (.lst (xs ++ [.ref a])) → M.nx [pose, some (fr U), some (gP pt), some (.ref r0), some (.ref a), l5, l6, l7] S') :
    dSeq (dSet 4 (dLst dNil)) (dSeq (dForE (dVar 2) (dgSeqE 2 (dgCons (dgName 5) (dgCons (dgName 6) dgNil))) (dSeq (dSet 7 (dCall F__law_made (dCons (dTup (dCons (dC (D.int 0)) (dCons (dC (D.int 1)) dNil))) (dCons (dCall F__law_over (dCons (dVar 6) (dCons (dVar 1) dNil))) dNil)))) (dSeq (dIfS (dTest (dOp dNe (dOp dIxE (dOp dIxE (dVar 7) (dC (D.int 1))) (dC (D.int 0))) (dC (D.int 0)))) (dRet (dC D.non)) dNext) (dDrop (dApp (dVar 4) (dTup (dCons (dVar 5) (dCons (dOp dIxE (dVar 7) (dC (D.int 0))) dNil)))))))) (dDrop (dApp (dVar 3) (dVar 4))))
      M [pose, some (fr U), some (gP pt), some (.ref r0), l4, l5, l6, l7] S := by
  refine ⟨few, fun a ha => ⟨([gD pt.1, gD pt.2], none), rfl, ?_⟩⟩
  have une : U ≠ 0 := by grind
  have ra : r0 ≠ a := fun z => by subst z; rw [h0] at ha; cases ha
  refine loop_ix (fun r L S' => ∃ ns1 ns2 l5 l6 l7, L = [pose, some (fr U), some (gP pt), some (.ref r0), some (.ref a), l5, l6, l7] ∧ [pt.1, pt.2] = ns1 ++ ns2 ∧ r = ns2.map gD ∧ (∀ b o, b ≠ a → S b = some o → S' b = some o) ∧ S' a = some (.lst (ns1.map fun n => B2 (rq U n))) ∧ ∀ n ∈ ns1, HasR U n.2) (fun _ _ _ _ => trivial) ?_ ?_ _ _ _ ⟨[], [pt.1, pt.2], l5, l6, l7, rfl, rfl, rfl, fun b o nb hb => by rw [put_ne nb]; exact hb, put_same, fun _ z => by cases z⟩
  · rintro d r L S1 Nx ⟨ns1, ns2, l5, l6, l7, rfl, es, er, hk, hA, hh⟩ hN
    cases ns2 with
    | nil => cases er
    | cons n ns2 =>
      cases er
      have mn : n ∈ [pt.1, pt.2] := by rw [es]; simp
      have okn : NOk n := by
        simp only [List.mem_cons, List.not_mem_nil, or_false] at mn
        rcases mn with rfl | rfl
        · exact ok.1
        · exact ok.2
      have hlen : ns1.length ≤ 2 := by
        have := congrArg List.length es
        rw [List.length_append] at this
        have : 2 = ns1.length + (n :: ns2).length := this
        omega
      refine ⟨([fr n.1, fr n.2], none), rfl, rfl, rfl, few, n.2, U, rfl, une, okn.u.mono (by decide), su.mono (by decide), 0, n.2 / U, rfl, Sz.zero.mono (by decide), (okn.u.div' su).mono (by decide), fun S2 e2 => ?_⟩
      rcases made_cases (U := U) (x := n.2) u0 with ⟨hn, em⟩ | ⟨hn, q, q0, em⟩
      · rw [em]
        refine ite_ne (A := M.rt .non S2) (fun z => absurd (show (0 : Rat).num = 0 from rfl) z) fun _ => ⟨⟨_, e2 _ _ hA⟩, few, _, e2 _ _ hA, by rw [List.length_map]; exact bigG' _ (by omega), hN _ _ ⟨ns1 ++ [n], ns2, _, _, _, rfl, by rw [es, List.append_assoc]; rfl, rfl, fun b o nb hb => by rw [put_ne nb]; exact e2 _ _ (hk b o nb hb), by rw [put_same, List.map_append]; rfl, fun y hy => ?_⟩⟩
        rcases List.mem_append.mp hy with hy | hy
        · exact hh y hy
        · simp only [List.mem_cons, List.not_mem_nil, or_false] at hy
          subst hy
          exact hn
      · rw [em]
        refine ite_ne (fun _ => ?_) fun z => absurd (Rat.num_eq_zero.mp z) q0
        refine no (fun ⟨y1, y2⟩ => hn ?_) S2 fun b o nb hb => e2 _ _ (hk b o (fun z => by subst z; rw [ha] at hb; cases hb) hb)
        simp only [List.mem_cons, List.not_mem_nil, or_false] at mn
        rcases mn with rfl | rfl
        · exact y1
        · exact y2
  · rintro L S1 ⟨ns1, ns2, l5, l6, l7, rfl, es, er, hk, hA, hh⟩
    cases ns2 with
    | cons _ _ => cases er
    | nil =>
      rw [List.append_nil] at es
      subst es
      have hr := hk r0 _ ra h0
      refine ⟨⟨_, hr⟩, _, hr, bigG' _ (by omega), yes ⟨hh _ List.mem_cons_self, hh _ (List.mem_cons_of_mem _ List.mem_cons_self)⟩ _ a _ _ _ ha (fun b o nb hb => ?_) (by rw [put_ne (Ne.symm ra)]; exact hA) put_same⟩
      rw [put_ne nb]
      exact hk b o (fun z => by subst z; rw [ha] at hb; cases hb) hb
def F__law_pairs : DSp := fun ds S k => ∃ p q : Gn × Gn, ds = [.tup [gP p, gP q]] ∧ POk p ∧ POk q ∧ (¬ HR (lawU p q) [p, q] → ∀ S', Ext S S' → k .non S') ∧ (HR (lawU p q) [p, q] → ∀ S' r r1 r2, Ext S S' → S' r = some (.lst [.ref r1, .ref r2]) → S' r1 = some (.lst [B2 (rq (lawU p q) p.1), B2 (rq (lawU p q) p.2)]) → S' r2 = some (.lst [B2 (rq (lawU p q) q.1), B2 (rq (lawU p q) q.2)]) → k (.tup [fr (lawU p q), .ref r]) S')
theorem sc__law_pairs : FnScope ["pose", "base", "point", "rows", "row", "part", "under", "by"] ["pose"] (defScope s__law_pairs) := ⟨rfl, rfl, rfl, by decide +kernel, rfl, by decide +kernel, by decide +kernel⟩
theorem ok__law_pairs {P : Program} {w : World} {K : Fg} {mg : Str → Option Value} {base : Heap} {f : Addr} {fd : FuncData} (Fn : Fun K "_law_pairs" "_law_pairs" s__law_pairs f fd) (c__law_made : Own P w K mg base "_law_made" 36 F__law_made) (c__law_over : Own P w K mg base "_law_over" 35 F__law_over) (z_abs : mg "abs" = none) :
    FnOk P w K mg base CX0 37 f fd ["pose"] (spU K F__law_pairs) := by
  refine Fn.okJ sc__law_pairs (fun ds S k h => ?_) (fun cdv A outer s H E hr => ⟨_, (ds_consj (dst_setj (i := 1) sc__law_pairs.nd (d_tupj (da_consj d_intj (da_consj d_intj da_nilj)))) (ds_consj (dst_forEj PassesOwn.never rfl (d_varj 0) (dg_namej (i := 2) sc__law_pairs.nd) (ds_onej (dst_forEj PassesOwn.never rfl (d_varj 2) (dg_seqE (n := 2) rfl (dgs_consj (dg_namej (i := 5) sc__law_pairs.nd) (dgs_consj (dg_namej (i := 6) sc__law_pairs.nd) dgs_nilj))) (ds_onej (dst_ifj (dt_cmpj o_ne (d_ixj x_ixE (d_varj 6) d_intj (fun _ _ => rfl)) d_intj (nomark _)) (ds_onej (dst_setj (i := 1) sc__law_pairs.nd (d_tupj (da_consj (d_callBj b_abs rfl z_abs bt_abs (da_consj (d_ixj x_ixE (d_varj 6) d_intj (fun _ _ => rfl)) da_nilj)) (da_consj (d_ixj x_ixE (d_varj 6) d_intj (fun _ _ => rfl)) da_nilj))))) ds_nilj))))) (ds_consj (dst_setj (i := 3) sc__law_pairs.nd (d_lstj da_nilj)) (ds_consj (dst_forEj PassesOwn.never rfl (d_varj 0) (dg_namej (i := 2) sc__law_pairs.nd) (ds_consj (dst_setj (i := 4) sc__law_pairs.nd (d_lstj da_nilj)) (ds_consj (dst_forEj PassesOwn.never rfl (d_varj 2) (dg_seqE (n := 2) rfl (dgs_consj (dg_namej (i := 5) sc__law_pairs.nd) (dgs_consj (dg_namej (i := 6) sc__law_pairs.nd) dgs_nilj))) (ds_consj (dst_setj (i := 7) sc__law_pairs.nd (d_callj c__law_made (hr.mono (by decide)) rfl (da_consj (d_tupj (da_consj d_intj (da_consj d_intj da_nilj))) (da_consj (d_callj c__law_over (hr.mono (by decide)) rfl (da_consj (d_varj 6) (da_consj (d_varj 1) da_nilj))) da_nilj)))) (ds_consj (dst_ifj (dt_cmpj o_ne (d_ixj x_ixE (d_ixj x_ixE (d_varj 7) d_intj (fun _ _ => rfl)) d_intj (fun _ _ => rfl)) d_intj (nomark _)) (ds_onej (dst_retj d_nonj)) ds_nilj) (ds_onej (dst_exprj (d_appj (d_varj 4) (d_tupj (da_consj (d_varj 5) (da_consj (d_ixj x_ixE (d_varj 7) d_intj (fun _ _ => rfl)) da_nilj))))))))) (ds_onej (dst_exprj (d_appj (d_varj 3) (d_varj 4))))))) (ds_onej (dst_retj (d_tupj (da_consj (d_varj 1) (da_consj (d_varj 3) da_nilj))))))))), fun ds S k h => ?_⟩)
  · obtain ⟨_, _, rfl, _⟩ := h
    rfl
  · obtain ⟨p, q, rfl, op, oq, w0, w1⟩ := h
    refine ⟨few, ([gP p, gP q], none), rfl, ?_⟩
    refine loop_ix (fun r L S' => S' = S ∧ ∃ B l2 l5 l6 pts, L = [some (.tup [gP p, gP q]), some (fr B), l2, none, none, l5, l6, none] ∧ r = pts.map gP ∧ pts.foldl (fun u (x : Gn × Gn) => nxt (nxt u x.1.2) x.2.2) B = lawU p q) (fun _ _ _ _ => trivial) ?_ ?_ _ _ _ ⟨rfl, 2, none, none, none, [p, q], rfl, rfl, rfl⟩
    · rintro d r L S1 Nx ⟨rfl, B, l2, l5, l6, pts, rfl, er, ef⟩ hN
      cases pts with
      | nil => cases er
      | cons pt pts =>
        cases er
        refine ⟨([gD pt.1, gD pt.2], none), rfl, ?_⟩
        refine loop_ix (fun r L S' => S' = S1 ∧ ∃ B' l5 l6 ns, L = [some (.tup [gP p, gP q]), some (fr B'), some (gP pt), none, none, l5, l6, none] ∧ r = ns.map gD ∧ ns.foldl (fun u (n : Gn) => nxt u n.2) B' = nxt (nxt B pt.1.2) pt.2.2) (fun _ _ _ _ => trivial) ?_ ?_ _ _ _ ⟨rfl, B, l5, l6, [pt.1, pt.2], rfl, rfl, rfl⟩
        · rintro d r L S2 Nx2 ⟨rfl, B', l5, l6, ns, rfl, er, ef2⟩ hN2
          cases ns with
          | nil => cases er
          | cons n ns =>
            cases er
            refine ⟨([fr n.1, fr n.2], none), rfl, rfl, rfl, ite_ne (fun z => ⟨few, ?_⟩) fun z => hN2 _ _ ⟨rfl, B', _, _, ns, rfl, rfl, ?_⟩⟩
            · show Nx2 _ _
              refine hN2 _ _ ⟨rfl, ab n.2, some (fr n.1), some (fr n.2), ns, ?_, rfl, ?_⟩
              · rw [← fr_ab]; rfl
              · rw [← ef2]
                show _ = ns.foldl _ (nxt B' n.2)
                unfold nxt
                rw [if_neg (fun y => z (by rw [y]; rfl))]
            · rw [← ef2]
              show _ = ns.foldl _ (nxt B' n.2)
              unfold nxt
              rw [if_pos (Rat.num_eq_zero.mp z)]
        · rintro L S2 ⟨rfl, B', l5, l6, ns, rfl, er, ef2⟩
          cases ns with
          | cons _ _ => cases er
          | nil => exact hN _ _ ⟨rfl, B', _, _, _, pts, rfl, rfl, by rw [← ef]; show _ = pts.foldl _ (nxt (nxt B pt.1.2) pt.2.2); rw [← ef2]; rfl⟩
    · rintro L S1 ⟨rfl, B, l2, l5, l6, pts, rfl, er, ef⟩
      cases pts with
      | cons _ _ => cases er
      | nil =>
        have ef : B = lawU p q := ef
        subst ef
        obtain ⟨u0, su⟩ := lawU_ok op oq
        refine ⟨few, fun r0 hr => ⟨([gP p, gP q], none), rfl, trivial, ?_⟩⟩
        have k0 : Ext S1 (put S1 r0 (.lst [])) := Ext.new hr
        have ke : ∀ {S2 : DH}, Kb r0 (put S1 r0 (.lst [])) S2 → Ext S1 S2 := fun {S2} h b o hb => h b o (fun z => by subst z; rw [hr] at hb; cases hb) (k0 b o hb)
        refine row_go (xs := []) u0 su op put_same (by decide) (fun n S2 h2 => w0 (fun y => n (y p List.mem_cons_self)) S2 (ke h2)) fun y1 S2 a1 l5 l6 l7 n1 h2 g1 g2 => ⟨trivial, ?_⟩
        refine row_go (xs := [.ref a1]) u0 su oq g2 (by show 1 < 10; decide) (fun n S3 h3 => w0 (fun y => n (y q (List.mem_cons_of_mem _ List.mem_cons_self))) S3 (ke fun b o nb hb => h3 b o nb (h2 b o nb hb))) fun y2 S3 a2 l5 l6 l7 n2 h3 g3 g4 => ⟨trivial, few, ?_⟩
        have a1r : a1 ≠ r0 := fun z => by subst z; rw [put_same] at n1; cases n1
        refine w1 (fun y hy => ?_) S3 r0 a1 a2 (ke fun b o nb hb => h3 b o nb (h2 b o nb hb)) g4 (h3 a1 _ a1r g1) g3
        simp only [List.mem_cons, List.not_mem_nil, or_false] at hy
        rcases hy with rfl | rfl
        · exact y1
        · exact y2
end My
namespace My
open PySem PySem.Spec PyProof.Rows L2 DL HM
set_option maxHeartbeats 4000000
theorem eq_b2 {q : Rat} {s : Q} : eqT 8 (B2 s) (.tup [fr q, fr 0]) = some (decide (s = (q, 0))) := by
  have h := eq_two (n := 7) (eq_fr (n := 6) (p := s.1) (q := q)) (eq_fr (n := 6) (p := s.2) (q := 0))
  rw [show decide (s = (q, 0)) = (decide (s.1 = q) && decide (s.2 = 0)) from ?_]
  · exact h
  · rw [Bool.eq_iff_iff]
    simp only [Bool.and_eq_true, decide_eq_true_eq]
    exact ⟨fun e => by rw [e]; exact ⟨rfl, rfl⟩, fun ⟨a, b⟩ => Prod.ext a b⟩
theorem qa_zero {x : Q} : qa (0, 0) x = x := Prod.ext (Rat.zero_add _) (Rat.zero_add _)
theorem due_it {M : DEnds} {S : DH} {i : Int} {U a b c g l : Rat} {po fo rw' l7 l8 l9 : Option D} {m z0 z1 : Addr} {ms : List D} {x y : Q × Q} (su : Sz 1500 U) (sl : Sz 14 l) (hx : Sq 3003 x.1 ∧ Sq 3003 x.2) (hy : Sq 3003 y.1 ∧ Sq 3003 y.2)
    (hm : S m = some (.lst ms)) (e1 : L2.atI ms (i + 1) = some (.ref z1)) (e0 : L2.atI ms i = some (.ref z0)) (h1 : S z1 = some (.lst [B2 y.1, B2 y.2])) (h0 : S z0 = some (.lst [B2 x.1, B2 x.2])) (el : L2.atI [fr a, fr b, fr c, fr g] i = some (fr l))
    (no : squareQ U (qs y.1 x.1) (qs y.2 x.2) ≠ (l * l, 0) → M.rt (.bl false) S)
    (yes : squareQ U (qs y.1 x.1) (qs y.2 x.2) = (l * l, 0) → ∀ l7 l8 l9, M.nx [some (RD a b c g), po, fo, some (.ref m), some (.int i), some (fr U), rw', l7, l8, l9] S) :
    dSeq (dSet 7 (dTup (dCons (dTup (dCons (dC (D.int 0)) (dCons (dC (D.int 1)) dNil))) (dCons (dTup (dCons (dC (D.int 0)) (dCons (dC (D.int 1)) dNil))) dNil))))
      (dSeq (dForR (dCons (dC (D.int 2)) dNil) (dgName 8)
          (dSeq (dSet 9 (dCall F__law_less (dCons (dOp dIxF (dOp dIxF (dVar 3) (dOp dAdd (dVar 4) (dC (D.int 1)))) (dVar 8)) (dCons (dOp dIxF (dOp dIxF (dVar 3) (dVar 4)) (dVar 8)) dNil))))
            (dSet 7 (dCall F__law_add (dCons (dVar 7) (dCons (dCall F__law_multiply (dCons (dVar 9) (dCons (dVar 9) (dCons (dVar 5) dNil)))) dNil))))))
        (dIfS (dTest (dOp dNeX (dVar 7) (dTup (dCons (dCall F__law_times (dCons (dOp dIxF (dVar 0) (dVar 4)) (dCons (dOp dIxF (dVar 0) (dVar 4)) dNil))) (dCons (dTup (dCons (dC (D.int 0)) (dCons (dC (D.int 1)) dNil))) dNil)))))
          (dRet (dC (D.bl false))) dNext))
      M [some (RD a b c g), po, fo, some (.ref m), some (.int i), some (fr U), rw', l7, l8, l9] S := by
  have sA := sqs hy.1 hx.1
  have sB := sqs hy.2 hx.2
  have qmz : ∀ {v : Q}, Sq 6007 v → Sq 30000 (qm U v v) := fun {v} h => ⟨((h.a.mul h.a).add ((h.b.mul h.b).mul su)).mono (by decide), ((h.a.mul h.b).add (h.b.mul h.a)).mono (by decide)⟩
  have s1 := qmz sA
  have s2 := qmz sB
  have z00 : Sq 400000 (0, 0) := ⟨Sz.zero.mono (by decide), Sz.zero.mono (by decide)⟩
  refine ⟨few, few, few, ⟨by decide, by decide⟩, trivial, ?_⟩
  refine ⟨_, _, hm, e1, _, _, h1, atI0, _, _, hm, e0, _, _, h0, atI0, y.1, x.1, rfl, hy.1.mono (by decide), hx.1.mono (by decide), ?_⟩
  refine ⟨_, _, U, rfl, su.mono (by decide), sA.mono (by decide), sA.mono (by decide), (0, 0), _, rfl, z00, s1.mono (by decide), trivial, ?_⟩
  rw [qa_zero]
  refine ⟨_, _, hm, e1, _, _, h1, atI1, _, _, hm, e0, _, _, h0, atI1, y.2, x.2, rfl, hy.2.mono (by decide), hx.2.mono (by decide), ?_⟩
  refine ⟨_, _, U, rfl, su.mono (by decide), sB.mono (by decide), sB.mono (by decide), _, _, rfl, s1.mono (by decide), s2.mono (by decide), trivial, ?_⟩
  refine ⟨_, el, _, el, _, _, _, _, _, rfl, den_mul_ne l l, sl.num.mono (by decide), sl.den.mono (by decide), sl.num.mono (by decide), sl.den.mono (by decide), mul_of l l, few, few, _, eq_b2, ite_nb (fun z => no (of_decide_eq_false z)) (fun z => yes (of_decide_eq_true z) _ _ _)⟩
theorem st_no {u : Rat} {rs : List Rod} {ps : List (Gn × Gn)} (u0 : 0 < u) (hu : HR u ps) (hi : ∀ r ∈ rs, r.i < ps.length ∧ r.j < ps.length) (h : ¬ Rgt u (ps.map (rp u)) rs) : stB rs ps = false := stB_f fun ⟨v, v0, hv, w⟩ => h (rgt_free v0 u0 hv hu hi w)
def F__law_due : DSp := fun ds S k => ∃ (a b c g : Rat) (p q : Gn × Gn), ds = [RD a b c g, .tup [gP p, gP q]] ∧ Sz 14 a ∧ Sz 14 b ∧ Sz 14 c ∧ Sz 14 g ∧ POk p ∧ POk q ∧ ∀ S', Ext S S' → k (.bl (stB (rods3 a b c) (place4 g p q))) S'
theorem sc__law_due : FnScope ["rods", "pose", "found", "some", "k", "base", "rows", "square", "j", "less"] ["rods", "pose"] (defScope s__law_due) := ⟨rfl, rfl, rfl, by decide +kernel, rfl, by decide +kernel, by decide +kernel⟩
theorem ok__law_due {P : Program} {w : World} {K : Fg} {mg : Str → Option Value} {base : Heap} {f : Addr} {fd : FuncData} (Fn : Fun K "_law_due" "_law_due" s__law_due f fd) (c__law_pairs : Own P w K mg base "_law_pairs" 37 F__law_pairs) (c__law_less : Own P w K mg base "_law_less" 36 F__law_less) (c__law_add : Own P w K mg base "_law_add" 36 F__law_add) (c__law_multiply : Own P w K mg base "_law_multiply" 36 F__law_multiply) (c__law_times : Own P w K mg base "_law_times" 35 F__law_times) (z_range : mg "range" = none) :
    FnOk P w K mg base CX0 38 f fd ["rods", "pose"] (spU K F__law_due) := by
  refine Fn.okJ sc__law_due (fun ds S k h => ?_) (fun cdv A outer s H E hr => ⟨_, (ds_consj (dst_setj (i := 2) sc__law_due.nd (d_callj c__law_pairs (hr.mono (by decide)) rfl (da_consj (d_varj 1) da_nilj))) (ds_consj (dst_ifj (dt_cmpj o_is (d_varj 2) d_nonj (nomark _)) (ds_onej (dst_retj d_blj)) ds_nilj) (ds_consj (dst_asgj (d_varj 2) (dg_seqE (n := 2) rfl (dgs_consj (dg_namej (i := 5) sc__law_due.nd) (dgs_consj (dg_namej (i := 6) sc__law_due.nd) dgs_nilj)))) (ds_consj (dst_setj (i := 3) sc__law_due.nd (d_opj o_add (d_opj o_add (d_lstj (da_consj (d_opj o_mulF (d_lstj (da_consj (d_tupj (da_consj (d_tupj (da_consj d_intj (da_consj d_intj da_nilj))) (da_consj (d_tupj (da_consj d_intj (da_consj d_intj da_nilj))) da_nilj))) da_nilj)) d_intj) da_nilj)) (d_varj 6)) (d_lstj (da_consj (d_lstj (da_consj (d_tupj (da_consj (d_ixj x_ixF (d_varj 0) d_intj (fun _ _ => rfl)) (da_consj (d_tupj (da_consj d_intj (da_consj d_intj da_nilj))) da_nilj))) (da_consj (d_tupj (da_consj (d_tupj (da_consj d_intj (da_consj d_intj da_nilj))) (da_consj (d_tupj (da_consj d_intj (da_consj d_intj da_nilj))) da_nilj))) da_nilj))) da_nilj)))) (ds_consj (dst_forRj PassesOwn.never rfl rfl z_range (da_consj d_intj da_nilj) (dg_namej (i := 4) sc__law_due.nd) (ds_consj (dst_setj (i := 7) sc__law_due.nd (d_tupj (da_consj (d_tupj (da_consj d_intj (da_consj d_intj da_nilj))) (da_consj (d_tupj (da_consj d_intj (da_consj d_intj da_nilj))) da_nilj)))) (ds_consj (dst_forRj PassesOwn.never rfl rfl z_range (da_consj d_intj da_nilj) (dg_namej (i := 8) sc__law_due.nd) (ds_consj (dst_setj (i := 9) sc__law_due.nd (d_callj c__law_less (hr.mono (by decide)) rfl (da_consj (d_ixj x_ixF (d_ixj x_ixF (d_varj 3) (d_opj o_add (d_varj 4) d_intj) (fun _ _ => rfl)) (d_varj 8) (fun _ _ => rfl)) (da_consj (d_ixj x_ixF (d_ixj x_ixF (d_varj 3) (d_varj 4) (fun _ _ => rfl)) (d_varj 8) (fun _ _ => rfl)) da_nilj)))) (ds_onej (dst_setj (i := 7) sc__law_due.nd (d_callj c__law_add (hr.mono (by decide)) rfl (da_consj (d_varj 7) (da_consj (d_callj c__law_multiply (hr.mono (by decide)) rfl (da_consj (d_varj 9) (da_consj (d_varj 9) (da_consj (d_varj 5) da_nilj)))) da_nilj))))))) (ds_onej (dst_ifj (dt_cmpj (o_neX hr) (d_varj 7) (d_tupj (da_consj (d_callj c__law_times (hr.mono (by decide)) rfl (da_consj (d_ixj x_ixF (d_varj 0) (d_varj 4) (fun _ _ => rfl)) (da_consj (d_ixj x_ixF (d_varj 0) (d_varj 4) (fun _ _ => rfl)) da_nilj))) (da_consj (d_tupj (da_consj d_intj (da_consj d_intj da_nilj))) da_nilj))) (nomark _)) (ds_onej (dst_retj d_blj)) ds_nilj))))) (ds_onej (dst_retj d_blj))))))), fun ds S k h => ?_⟩)
  · obtain ⟨_, _, _, _, _, _, rfl, _⟩ := h
    rfl
  · obtain ⟨a, b, c, g, p, q, rfl, sa, sb, sc, sg, op, oq, w⟩ := h
    have z0 : NOk (0, 0) := ⟨Sz.zero.mono (by decide), Sz.zero.mono (by decide), .inl rfl⟩
    obtain ⟨u0, su⟩ := lawU_ok op oq
    refine ⟨p, q, rfl, op, oq, fun no S1 e1 => ?_, fun yes S1 r r1 r2 e1 hr h1 h2 => ?_⟩
    · have f : stB (rods3 a b c) (place4 g p q) = false := stB_f fun ⟨v, v0, hv, _⟩ => no (lawU_has v0 (hv p (by unfold place4; simp)) (hv q (by unfold place4; simp)))
      rw [f] at w
      exact w S1 e1
    · have hR : HR (lawU p q) (place4 g p q) := fun y hy => by
        unfold place4 at hy
        simp only [List.mem_cons, List.not_mem_nil, or_false] at hy
        rcases hy with rfl | rfl | rfl | rfl
        · exact ⟨has_zero, has_zero⟩
        · exact yes _ List.mem_cons_self
        · exact yes _ (List.mem_cons_of_mem _ List.mem_cons_self)
        · exact ⟨has_zero, has_zero⟩
      have hz : ∀ x : Rat, rq (lawU p q) (x, 0) = (x, 0) := fun x => by
        unfold rq
        rw [bq_zero u0]
      have sp := And.intro (rq_sz u0 su op.1 (yes _ List.mem_cons_self).1) (rq_sz u0 su op.2 (yes _ List.mem_cons_self).2)
      have sq := And.intro (rq_sz u0 su oq.1 (yes _ (List.mem_cons_of_mem _ List.mem_cons_self)).1) (rq_sz u0 su oq.2 (yes _ (List.mem_cons_of_mem _ List.mem_cons_self)).2)
      have sz : Sq 3003 (0, 0) := ⟨Sz.zero.mono (by decide), Sz.zero.mono (by decide)⟩
      have sg' : Sq 3003 (g, 0) := ⟨sg.mono (by decide), Sz.zero.mono (by decide)⟩
      have stN := st_no (rs := rods3 a b c) u0 hR fun r hr => rods3_ix hr
      have stY := fun h : Rgt (lawU p q) ((place4 g p q).map (rp (lawU p q))) (rods3 a b c) => stB_t ⟨_, u0, hR, h⟩
      have ep : (place4 g p q).map (rp (lawU p q)) = [((0, 0), (0, 0)), rp (lawU p q) p, rp (lawU p q) q, ((g, 0), (0, 0))] := by
        show [(rq (lawU p q) (0, 0), rq (lawU p q) (0, 0)), rp (lawU p q) p, rp (lawU p q) q, (rq (lawU p q) (g, 0), rq (lawU p q) (0, 0))] = _
        rw [hz 0, hz g]
      rw [ep] at stN stY
      generalize lawU p q = U at *
      refine iteF (A := k (.bl false) S1) ⟨([fr U, .ref r], none), rfl, rfl, rfl, ?_⟩
      refine ⟨few, few, few, few, fun p1 hp1 => ⟨_, put_same, by decide, by decide, bigG (by show 1 * 2 ≤ 300; decide), fun p2 hp2 => ⟨few, fun p3 hp3 => ?_⟩⟩⟩
      have j1 := Ext.new (o := .lst [.tup [.tup [.int 0, .int 1], .tup [.int 0, .int 1]]]) hp1
      have j2 := Ext.new (o := .lst (List.replicate (2 : Int).toNat [D.tup [.tup [.int 0, .int 1], .tup [.int 0, .int 1]]]).flatten) hp2
      have j3 := Ext.new (o := .lst [.ref p2]) hp3
      refine ⟨[.ref p2], [.ref r1, .ref r2], put_same, j3 _ _ (j2 _ _ (j1 _ _ hr)), bigG (by show 1 + 2 ≤ 300; decide), fun p4 hp4 => ?_⟩
      have j4 := Ext.new (o := .lst ([D.ref p2] ++ [.ref r1, .ref r2])) hp4
      refine ⟨_, atI3, few, few, few, few, few, few, fun p5 hp5 => ⟨few, fun p6 hp6 => ?_⟩⟩
      have j5 := Ext.new (o := .lst [.tup [fr g, .tup [.int 0, .int 1]], .tup [.tup [.int 0, .int 1], .tup [.int 0, .int 1]]]) hp5
      have j6 := Ext.new (o := .lst [.ref p5]) hp6
      refine ⟨[.ref p2, .ref r1, .ref r2], [.ref p5], j6 _ _ (j5 _ _ put_same), put_same, bigG (by show 3 + 1 ≤ 300; decide), fun m hm => ?_⟩
      have j7 := Ext.new (o := .lst ([D.ref p2, .ref r1, .ref r2] ++ [.ref p5])) hm
      have f2 : put S1 p1 (.lst [.tup [.tup [.int 0, .int 1], .tup [.int 0, .int 1]]]) p2 = none := hp2
      have g2 := j7 _ _ (j6 _ _ (j5 _ _ (j4 _ _ (j3 _ _ (put_same (S := put S1 p1 (.lst [.tup [.tup [.int 0, .int 1], .tup [.int 0, .int 1]]])) (a := p2) (o := .lst (List.replicate (2 : Int).toNat [D.tup [.tup [.int 0, .int 1], .tup [.int 0, .int 1]]]).flatten))))))
      have g5 := j7 _ _ (j6 _ _ (put_same (a := p5) (o := .lst [.tup [fr g, .tup [.int 0, .int 1]], .tup [.tup [.int 0, .int 1], .tup [.int 0, .int 1]]])))
      have k1 := j7 _ _ (j6 _ _ (j5 _ _ (j4 _ _ (j3 _ _ (j2 _ _ (j1 _ _ h1))))))
      have k2 := j7 _ _ (j6 _ _ (j5 _ _ (j4 _ _ (j3 _ _ (j2 _ _ (j1 _ _ h2))))))
      have eE := e1.trans (j1.trans (j2.trans (j3.trans (j4.trans (j5.trans (j6.trans j7))))))
      have gm := put_same (a := m) (o := .lst ([D.ref p2, .ref r1, .ref r2] ++ [.ref p5])) (S := put (put (put (put (put (put S1 p1 (.lst [.tup [.tup [.int 0, .int 1], .tup [.int 0, .int 1]]])) p2 (.lst (List.replicate (2 : Int).toNat [D.tup [.tup [.int 0, .int 1], .tup [.int 0, .int 1]]]).flatten)) p3 (.lst [.ref p2])) p4 (.lst ([D.ref p2] ++ [.ref r1, .ref r2]))) p5 (.lst [.tup [fr g, .tup [.int 0, .int 1]], .tup [.tup [.int 0, .int 1], .tup [.int 0, .int 1]]])) p6 (.lst [.ref p5]))
      have w := w _ eE
      generalize put (put (put (put (put (put (put S1 p1 (.lst [.tup [.tup [.int 0, .int 1], .tup [.int 0, .int 1]]])) p2 (.lst (List.replicate (2 : Int).toNat [D.tup [.tup [.int 0, .int 1], .tup [.int 0, .int 1]]]).flatten)) p3 (.lst [.ref p2])) p4 (.lst ([D.ref p2] ++ [.ref r1, .ref r2]))) p5 (.lst [.tup [fr g, .tup [.int 0, .int 1]], .tup [.tup [.int 0, .int 1], .tup [.int 0, .int 1]]])) p6 (.lst [.ref p5])) m (.lst ([D.ref p2, .ref r1, .ref r2] ++ [.ref p5])) = T at *
      refine ⟨⟨by decide, by decide⟩, trivial, ?_⟩
      refine due_it (i := 0) (x := ((0, 0), (0, 0))) (y := rp U p) (l := a) su sa ⟨sz, sz⟩ sp gm rfl rfl k1 g2 rfl (fun ne => ?_) (fun r1 _ _ _ => ⟨trivial, ?_⟩)
      · rw [stN fun z => ne (z ⟨0, 1, a * a⟩ List.mem_cons_self)] at w
        exact w
      refine due_it (i := 1) (x := rp U p) (y := rp U q) (l := b) su sb sp sq gm rfl rfl k2 k1 rfl (fun ne => ?_) (fun r2 _ _ _ => ⟨trivial, ?_⟩)
      · rw [stN fun z => ne (z ⟨1, 2, b * b⟩ (List.mem_cons_of_mem _ List.mem_cons_self))] at w
        exact w
      refine due_it (i := 2) (x := rp U q) (y := ((g, 0), (0, 0))) (l := c) su sc sq ⟨sg', sz⟩ gm rfl rfl g5 k2 rfl (fun ne => ?_) (fun r3 _ _ _ => ⟨trivial, ?_⟩)
      · rw [stN fun z => ne (z ⟨2, 3, c * c⟩ (List.mem_cons_of_mem _ (List.mem_cons_of_mem _ List.mem_cons_self)))] at w
        exact w
      rw [stY fun y hy => by
        unfold rods3 at hy
        simp only [List.mem_cons, List.not_mem_nil, or_false] at hy
        rcases hy with rfl | rfl | rfl
        · exact r1
        · exact r2
        · exact r3] at w
      exact w
end My
namespace My
open PySem PySem.Spec PyProof.Rows L2 DL HM
set_option maxHeartbeats 4000000
theorem drGone {a p : Addr} {S S1 : DH} (d : Dr a S S1) (hp : S1 p = none) : S p = none := by
  cases h : S p with
  | none => rfl
  | some u =>
    by_cases z : p = a
    · subst z
      obtain ⟨_, _, e, _⟩ := d.1
      rw [hp] at e
      cases e
    · rw [d.2 p u z h] at hp
      cases hp
theorem drPut {a p : Addr} {S S1 : DH} {o : DO} (d : Dr a S S1) (hs : SOK S a) (hp : S p = none) : Dr a S (put S1 p o) :=
  ⟨d.1.set (hs.ne hp), fun b u nb hb => by
    rw [put_ne (fun z => by subst z; rw [hp] at hb; cases hb)]
    exact d.2 b u nb hb⟩
theorem ab_negate (q : Rat) : ab (-q) = ab q := by unfold ab; split <;> split <;> grind
theorem NOk.flip {n : Gn} (h : NOk n) : NOk (n.1, -n.2) := ⟨h.a, h.u.neg, h.no.imp (fun z => by show -n.2 = 0; rw [z]; rfl) fun z => by show NoSq (ab (-n.2)); rw [ab_negate]; exact z⟩
theorem NOk.neg {n : Gn} (h : NOk n) : NOk (-n.1, n.2) := ⟨h.a.neg, h.u, h.no⟩
theorem NOk.mir {n : Gn} (h : NOk n) : NOk (mirG n) := h.flip.neg
theorem NOk.two {a : Rat} (h : Sz 1700 a) : NOk (a, 2) := ⟨h, (show Sz 2 2 from ⟨by decide, by decide⟩).mono (by decide), .inr (by show NoSq (ab 2); rw [ab_of_nn (by decide)]; exact two_fd.no)⟩
theorem NOk.three {a : Rat} (h : Sz 1700 a) : NOk (a, 3) := ⟨h, (show Sz 2 3 from ⟨by decide, by decide⟩).mono (by decide), .inr (by show NoSq (ab 3); rw [ab_of_nn (by decide)]; exact no_num (q := 3) (m := 1) (n := 3) rfl (by decide) (by decide))⟩
theorem NOk.plain {a : Rat} (h : Sz 1700 a) : NOk (a, 0) := ⟨h, Sz.zero.mono (by decide), .inl rfl⟩
theorem dNext_go {M : DEnds} {L : Lo} {S : DH} (h : M.nx L S) : dNext M L S := h
theorem bent_tail {M : DEnds} {L : Lo} {S T : DH} {s pb : Addr} {p q : Gn × Gn} {b1 b2 : Gn} {po l2 l3 l5 l6 l9 l10 : Option D} (hL : L = [some (.ref s), po, l2, l3, some (.ref pb), l5, l6, some (gP p), some (gP q), l9, l10]) (hs : SOK S s) (d : Dr s S T) (hb : T pb = some (.lst [gD b1, gD b2])) (op : POk p) (oq : POk q) (ob : POk (b1, b2))
    (w : ∀ S' p' q', Dr s S S' → POk p' → POk q' → M.rt (.tup [gP p', gP q']) S') :
    dSeq (dSet 6 (dLst (dCons (dTup (dCons (dVar 8) (dCons (dVar 7) dNil))) (dCons (dTup (dCons (dVar 7) (dCons (dCall bTuple (dCons (dVar 4) dNil)) dNil))) (dCons (dTup (dCons (dCall bTuple (dCons (dVar 4) dNil)) (dCons (dVar 8) dNil))) (dCons (dTup (dCons (dVar 7) (dCons (dVar 7) dNil))) (dCons (dTup (dCons (dCall F__law_turned (dCons (dVar 7) dNil)) (dCons (dVar 8) dNil))) dNil)))))))
      (dRet (dOp dIxE (dVar 6) (dCall F__law_take (dCons (dVar 0) (dCons (dC (D.int 5)) dNil)))))
      M L T := by
  subst hL
  refine ⟨few, _, hb, few, _, hb, few, few, p, rfl, few, few, fun pm hpm => ⟨s, 5, rfl, by decide, by decide, d.1.new hpm, fun r S5 g0 g5 d5 => ?_⟩⟩
  have h5 := d5.2 pm _ (d.1.ne hpm) put_same
  obtain ⟨c, hc, mc⟩ := atI_mem (ds := [.tup [gP q, gP p], .tup [gP p, gP (b1, b2)], .tup [gP (b1, b2), gP q], .tup [gP p, gP p], .tup [gP (p.1, mirG p.2), gP q]]) g0 g5
  have dd := (d.trans (Dr.new (o := .lst [.tup [gP q, gP p], .tup [gP p, gP (b1, b2)], .tup [gP (b1, b2), gP q], .tup [gP p, gP p], .tup [gP (p.1, mirG p.2), gP q]]) d.1 hpm)).trans d5
  refine ⟨_, _, h5, hc, ?_⟩
  simp only [List.mem_cons, List.not_mem_nil, or_false] at mc
  rcases mc with rfl | rfl | rfl | rfl | rfl
  · exact w _ _ _ dd oq op
  · exact w _ _ _ dd op ob
  · exact w _ _ _ dd ob oq
  · exact w _ _ _ dd op op
  · exact w _ _ (p' := (p.1, mirG p.2)) dd ⟨op.1, op.2.mir⟩ oq
theorem fresh_ok (n : Gn) (c : D) (on : NOk n) (sn : Sz 1650 n.1) (hc : c ∈ [gD (n.1 + 1, n.2), gD (n.1, -n.2), gD (n.1, 2), gD (n.1, 3), gD (-n.1, n.2)]) : ∃ n', NOk n' ∧ c = gD n' := by
  have s7 : Sz 1700 n.1 := sn.mono (by decide)
  simp only [List.mem_cons, List.not_mem_nil, or_false] at hc
  rcases hc with rfl | rfl | rfl | rfl | rfl
  · exact ⟨(n.1 + 1, n.2), ⟨(sn.add sz_one).mono (by decide), on.u, on.no⟩, rfl⟩
  · exact ⟨_, on.flip, rfl⟩
  · exact ⟨_, NOk.two s7, rfl⟩
  · exact ⟨_, NOk.three s7, rfl⟩
  · exact ⟨_, on.neg, rfl⟩
def f4 (n : Gn) : List D := [gD (n.1 + 1, n.2), gD (n.1, -n.2), gD (n.1, 2), gD (n.1, 3)]
theorem f4_eq (n : Gn) : [D.tup [fr (n.1 + 1), fr n.2], .tup [fr n.1, .tup [.int (0 - n.2.num), .int (n.2.den : Int)]], .tup [fr n.1, .tup [.int 2, .int 1]], .tup [fr n.1, .tup [.int 3, .int 1]]] = f4 n := by
  rw [Int.zero_sub, fr_neg]
  rfl
theorem bent_mid0 {M : DEnds} {S S2 : DH} {s pf : Addr} {p q : Gn × Gn} {po : Option D} (hs : SOK S s) (d1 : Dr s S S2) (hf : S2 pf = some (.lst (f4 q.1))) (op : POk p) (oq : POk q) (sn : Sz 1650 q.1.1)
    (w : ∀ S' p' q', Dr s S S' → POk p' → POk q' → M.rt (.tup [gP p', gP q']) S') :
    dSeq (dSet 3 (dOp dAdd (dVar 3) (dLst (dCons (dTup (dCons (dTup (dCons (dOp dSub (dC (D.int 0)) (dOp dIxE (dVar 9) (dC (D.int 0)))) (dCons (dOp dIxE (dVar 9) (dC (D.int 1))) dNil))) (dCons (dVar 10) dNil))) dNil))))
      (dSeq (dSet 4 (dLst (dCons (dOp dIxE (dVar 8) (dC (D.int 0))) (dCons (dOp dIxE (dVar 8) (dC (D.int 1))) dNil))))
      (dSeq (dSet 5 (dCall F__law_take (dCons (dVar 0) (dCons (dC (D.int 5)) dNil))))
      (dSeq (dAsg (dOp dIxE (dVar 3) (dVar 5)) (dgSubE (dVar 4) (dVar 2)))
      (dSeq (dIfS (dTest (dOp (dInE false) (dVar 5) (dTup (dCons (dC (D.int 2)) (dCons (dC (D.int 3)) dNil)))))
          (dAsg (dTup (dCons (dOp dIxE (dOp dIxE (dVar 8) (dOp dSub (dC (D.int 1)) (dVar 2))) (dC (D.int 0))) (dCons (dTup (dCons (dC (D.int 0)) (dCons (dC (D.int 1)) dNil))) dNil))) (dgSubE (dVar 4) (dOp dSub (dC (D.int 1)) (dVar 2))))
          dNext)
      (dSeq (dSet 6 (dLst (dCons (dTup (dCons (dVar 8) (dCons (dVar 7) dNil))) (dCons (dTup (dCons (dVar 7) (dCons (dCall bTuple (dCons (dVar 4) dNil)) dNil))) (dCons (dTup (dCons (dCall bTuple (dCons (dVar 4) dNil)) (dCons (dVar 8) dNil))) (dCons (dTup (dCons (dVar 7) (dCons (dVar 7) dNil))) (dCons (dTup (dCons (dCall F__law_turned (dCons (dVar 7) dNil)) (dCons (dVar 8) dNil))) dNil)))))))
      (dRet (dOp dIxE (dVar 6) (dCall F__law_take (dCons (dVar 0) (dCons (dC (D.int 5)) dNil))))))))))
      M [some (.ref s), po, some (.int 0), some (.ref pf), none, none, none, some (gP p), some (gP q), some (fr q.1.1), some (fr q.1.2)] S2 := by
  refine ⟨few, few, few, fun pg hpg => ⟨f4 q.1, [.tup [.tup [.int (0 - q.1.1.num), .int (q.1.1.den : Int)], fr q.1.2]], Ext.new hpg _ _ hf, put_same, bigG (by show 4 + 1 ≤ 300; decide), fun ph hph => ⟨few, fun pb hpb => ?_⟩⟩⟩
  refine ⟨s, 5, rfl, by decide, by decide, ((d1.1.new hpg).new hph).new hpb, fun r5 S5 g5 g6 d5 => ?_⟩
  have dd : Dr s S S5 := Dr.trans (Dr.trans d1 (Dr.trans (Dr.new d1.1 hpg) (Dr.trans (Dr.new (d1.1.new hpg) hph) (Dr.new ((d1.1.new hpg).new hph) hpb)))) d5
  have pbn : S pb = none := drGone (Dr.trans d1 (Dr.trans (Dr.new d1.1 hpg) (Dr.new (d1.1.new hpg) hph))) hpb
  have h5 := d5.2 ph _ ((d1.1.new hpg).ne hph) (Ext.new hpb _ _ put_same)
  rw [show f4 q.1 ++ [D.tup [.tup [.int (0 - q.1.1.num), .int (q.1.1.den : Int)], fr q.1.2]] = [gD (q.1.1 + 1, q.1.2), gD (q.1.1, -q.1.2), gD (q.1.1, 2), gD (q.1.1, 3), gD (-q.1.1, q.1.2)] by rw [Int.zero_sub, fr_neg]; rfl] at h5
  have hb5 : S5 pb = some (.lst [gD q.1, gD q.2]) := d5.2 pb _ (((d1.1.new hpg).new hph).ne hpb) put_same
  clear d5
  obtain ⟨c, hc, mc⟩ := atI_mem (ds := [gD (q.1.1 + 1, q.1.2), gD (q.1.1, -q.1.2), gD (q.1.1, 2), gD (q.1.1, 3), gD (-q.1.1, q.1.2)]) g5 g6
  obtain ⟨n', on', rfl⟩ := fresh_ok q.1 c oq.1 sn mc
  refine ⟨_, _, h5, hc, _, 0, hb5, rfl, ?_⟩
  refine ⟨few, ([.int 2, .int 3], none), rfl, rfl, rfl, ite_b (fun _ => ⟨few, few, _, 1, put_same, rfl, ?_⟩) (fun _ => dNext_go ?_)⟩
  · exact bent_tail (p := p) (q := q) (pb := pb) (b1 := n') (b2 := (q.2.1, 0)) rfl hs (drPut (drPut dd hs pbn) hs pbn) put_same op oq ⟨on', NOk.plain oq.2.a⟩ w
  · exact bent_tail (p := p) (q := q) (pb := pb) (b1 := n') (b2 := q.2) rfl hs (drPut dd hs pbn) put_same op oq ⟨on', oq.2⟩ w
theorem bent_mid1 {M : DEnds} {S S2 : DH} {s pf : Addr} {p q : Gn × Gn} {po : Option D} (hs : SOK S s) (d1 : Dr s S S2) (hf : S2 pf = some (.lst (f4 q.2))) (op : POk p) (oq : POk q) (sn : Sz 1650 q.2.1)
    (w : ∀ S' p' q', Dr s S S' → POk p' → POk q' → M.rt (.tup [gP p', gP q']) S') :
    dSeq (dSet 3 (dOp dAdd (dVar 3) (dLst (dCons (dTup (dCons (dTup (dCons (dOp dSub (dC (D.int 0)) (dOp dIxE (dVar 9) (dC (D.int 0)))) (dCons (dOp dIxE (dVar 9) (dC (D.int 1))) dNil))) (dCons (dVar 10) dNil))) dNil))))
      (dSeq (dSet 4 (dLst (dCons (dOp dIxE (dVar 8) (dC (D.int 0))) (dCons (dOp dIxE (dVar 8) (dC (D.int 1))) dNil))))
      (dSeq (dSet 5 (dCall F__law_take (dCons (dVar 0) (dCons (dC (D.int 5)) dNil))))
      (dSeq (dAsg (dOp dIxE (dVar 3) (dVar 5)) (dgSubE (dVar 4) (dVar 2)))
      (dSeq (dIfS (dTest (dOp (dInE false) (dVar 5) (dTup (dCons (dC (D.int 2)) (dCons (dC (D.int 3)) dNil)))))
          (dAsg (dTup (dCons (dOp dIxE (dOp dIxE (dVar 8) (dOp dSub (dC (D.int 1)) (dVar 2))) (dC (D.int 0))) (dCons (dTup (dCons (dC (D.int 0)) (dCons (dC (D.int 1)) dNil))) dNil))) (dgSubE (dVar 4) (dOp dSub (dC (D.int 1)) (dVar 2))))
          dNext)
      (dSeq (dSet 6 (dLst (dCons (dTup (dCons (dVar 8) (dCons (dVar 7) dNil))) (dCons (dTup (dCons (dVar 7) (dCons (dCall bTuple (dCons (dVar 4) dNil)) dNil))) (dCons (dTup (dCons (dCall bTuple (dCons (dVar 4) dNil)) (dCons (dVar 8) dNil))) (dCons (dTup (dCons (dVar 7) (dCons (dVar 7) dNil))) (dCons (dTup (dCons (dCall F__law_turned (dCons (dVar 7) dNil)) (dCons (dVar 8) dNil))) dNil)))))))
      (dRet (dOp dIxE (dVar 6) (dCall F__law_take (dCons (dVar 0) (dCons (dC (D.int 5)) dNil))))))))))
      M [some (.ref s), po, some (.int 1), some (.ref pf), none, none, none, some (gP p), some (gP q), some (fr q.2.1), some (fr q.2.2)] S2 := by
  refine ⟨few, few, few, fun pg hpg => ⟨f4 q.2, [.tup [.tup [.int (0 - q.2.1.num), .int (q.2.1.den : Int)], fr q.2.2]], Ext.new hpg _ _ hf, put_same, bigG (by show 4 + 1 ≤ 300; decide), fun ph hph => ⟨few, fun pb hpb => ?_⟩⟩⟩
  refine ⟨s, 5, rfl, by decide, by decide, ((d1.1.new hpg).new hph).new hpb, fun r5 S5 g5 g6 d5 => ?_⟩
  have dd : Dr s S S5 := Dr.trans (Dr.trans d1 (Dr.trans (Dr.new d1.1 hpg) (Dr.trans (Dr.new (d1.1.new hpg) hph) (Dr.new ((d1.1.new hpg).new hph) hpb)))) d5
  have pbn : S pb = none := drGone (Dr.trans d1 (Dr.trans (Dr.new d1.1 hpg) (Dr.new (d1.1.new hpg) hph))) hpb
  have h5 := d5.2 ph _ ((d1.1.new hpg).ne hph) (Ext.new hpb _ _ put_same)
  rw [show f4 q.2 ++ [D.tup [.tup [.int (0 - q.2.1.num), .int (q.2.1.den : Int)], fr q.2.2]] = [gD (q.2.1 + 1, q.2.2), gD (q.2.1, -q.2.2), gD (q.2.1, 2), gD (q.2.1, 3), gD (-q.2.1, q.2.2)] by rw [Int.zero_sub, fr_neg]; rfl] at h5
  have hb5 : S5 pb = some (.lst [gD q.1, gD q.2]) := d5.2 pb _ (((d1.1.new hpg).new hph).ne hpb) put_same
  clear d5
  obtain ⟨c, hc, mc⟩ := atI_mem (ds := [gD (q.2.1 + 1, q.2.2), gD (q.2.1, -q.2.2), gD (q.2.1, 2), gD (q.2.1, 3), gD (-q.2.1, q.2.2)]) g5 g6
  obtain ⟨n', on', rfl⟩ := fresh_ok q.2 c oq.2 sn mc
  refine ⟨_, _, h5, hc, _, 1, hb5, rfl, ?_⟩
  refine ⟨few, ([.int 2, .int 3], none), rfl, rfl, rfl, ite_b (fun _ => ⟨few, few, _, 0, put_same, rfl, ?_⟩) (fun _ => dNext_go ?_)⟩
  · exact bent_tail (p := p) (q := q) (pb := pb) (b1 := (q.1.1, 0)) (b2 := n') rfl hs (drPut (drPut dd hs pbn) hs pbn) put_same op oq ⟨NOk.plain oq.1.a, on'⟩ w
  · exact bent_tail (p := p) (q := q) (pb := pb) (b1 := q.1) (b2 := n') rfl hs (drPut dd hs pbn) put_same op oq ⟨oq.1, on'⟩ w
def F__law_bent : DSp := fun ds S k => ∃ (s : Addr) (p q : Gn × Gn), ds = [.ref s, .tup [gP p, gP q]] ∧ SOK S s ∧ POk p ∧ POk q ∧ Sz 1650 q.1.1 ∧ Sz 1650 q.2.1 ∧ ∀ S' p' q', Dr s S S' → POk p' → POk q' → k (.tup [gP p', gP q']) S'
theorem sc__law_bent : FnScope ["state", "pose", "k", "fresh", "bent", "way", "some", "one", "other", "part", "under"] ["state", "pose"] (defScope s__law_bent) := ⟨rfl, rfl, rfl, by decide +kernel, rfl, by decide +kernel, by decide +kernel⟩
theorem ok__law_bent {P : Program} {w : World} {K : Fg} {mg : Str → Option Value} {base : Heap} {f : Addr} {fd : FuncData} (Fn : Fun K "_law_bent" "_law_bent" s__law_bent f fd) (c__law_take : Own P w K mg base "_law_take" 1 F__law_take) (c__law_plus : Own P w K mg base "_law_plus" 35 F__law_plus) (c__law_turned : Own P w K mg base "_law_turned" 1 F__law_turned) (z_tuple : mg "tuple" = none) :
    FnOk P w K mg base CX0 36 f fd ["state", "pose"] (spU K F__law_bent) := by
  refine Fn.okJ sc__law_bent (fun ds S k h => ?_) (fun cdv A outer s H E hr => ⟨_, (ds_consj (dst_asgj (d_varj 1) (dg_seqE (n := 2) rfl (dgs_consj (dg_namej (i := 7) sc__law_bent.nd) (dgs_consj (dg_namej (i := 8) sc__law_bent.nd) dgs_nilj)))) (ds_consj (dst_setj (i := 2) sc__law_bent.nd (d_callj c__law_take (hr.mono (by decide)) rfl (da_consj (d_varj 0) (da_consj d_intj da_nilj)))) (ds_consj (dst_asgj (d_ixj x_ixE (d_varj 8) (d_varj 2) (fun _ _ => rfl)) (dg_seqE (n := 2) rfl (dgs_consj (dg_namej (i := 9) sc__law_bent.nd) (dgs_consj (dg_namej (i := 10) sc__law_bent.nd) dgs_nilj)))) (ds_consj (dst_setj (i := 3) sc__law_bent.nd (d_lstj (da_consj (d_tupj (da_consj (d_callj c__law_plus (hr.mono (by decide)) rfl (da_consj (d_varj 9) (da_consj (d_tupj (da_consj d_intj (da_consj d_intj da_nilj))) da_nilj))) (da_consj (d_varj 10) da_nilj))) (da_consj (d_tupj (da_consj (d_varj 9) (da_consj (d_tupj (da_consj (d_opj o_sub d_intj (d_ixj x_ixE (d_varj 10) d_intj (fun _ _ => rfl))) (da_consj (d_ixj x_ixE (d_varj 10) d_intj (fun _ _ => rfl)) da_nilj))) da_nilj))) (da_consj (d_tupj (da_consj (d_varj 9) (da_consj (d_tupj (da_consj d_intj (da_consj d_intj da_nilj))) da_nilj))) (da_consj (d_tupj (da_consj (d_varj 9) (da_consj (d_tupj (da_consj d_intj (da_consj d_intj da_nilj))) da_nilj))) da_nilj)))))) (ds_consj (dst_setj (i := 3) sc__law_bent.nd (d_opj o_add (d_varj 3) (d_lstj (da_consj (d_tupj (da_consj (d_tupj (da_consj (d_opj o_sub d_intj (d_ixj x_ixE (d_varj 9) d_intj (fun _ _ => rfl))) (da_consj (d_ixj x_ixE (d_varj 9) d_intj (fun _ _ => rfl)) da_nilj))) (da_consj (d_varj 10) da_nilj))) da_nilj)))) (ds_consj (dst_setj (i := 4) sc__law_bent.nd (d_lstj (da_consj (d_ixj x_ixE (d_varj 8) d_intj (fun _ _ => rfl)) (da_consj (d_ixj x_ixE (d_varj 8) d_intj (fun _ _ => rfl)) da_nilj)))) (ds_consj (dst_setj (i := 5) sc__law_bent.nd (d_callj c__law_take (hr.mono (by decide)) rfl (da_consj (d_varj 0) (da_consj d_intj da_nilj)))) (ds_consj (dst_asgj (d_ixj x_ixE (d_varj 3) (d_varj 5) (fun _ _ => rfl)) (dg_subE (d_varj 4) (d_varj 2))) (ds_consj (dst_ifj (dt_cmpj o_inE (d_varj 5) (d_tupj (da_consj d_intj (da_consj d_intj da_nilj))) (by with_unfolding_all rfl)) (ds_onej (dst_asgj (d_tupj (da_consj (d_ixj x_ixE (d_ixj x_ixE (d_varj 8) (d_opj o_sub d_intj (d_varj 2)) (fun _ _ => rfl)) d_intj (fun _ _ => rfl)) (da_consj (d_tupj (da_consj d_intj (da_consj d_intj da_nilj))) da_nilj))) (dg_subE (d_varj 4) (d_opj o_sub d_intj (d_varj 2))))) ds_nilj) (ds_consj (dst_setj (i := 6) sc__law_bent.nd (d_lstj (da_consj (d_tupj (da_consj (d_varj 8) (da_consj (d_varj 7) da_nilj))) (da_consj (d_tupj (da_consj (d_varj 7) (da_consj (d_callTj b_tuple rfl z_tuple bt_tuple (da_consj (d_varj 4) da_nilj)) da_nilj))) (da_consj (d_tupj (da_consj (d_callTj b_tuple rfl z_tuple bt_tuple (da_consj (d_varj 4) da_nilj)) (da_consj (d_varj 8) da_nilj))) (da_consj (d_tupj (da_consj (d_varj 7) (da_consj (d_varj 7) da_nilj))) (da_consj (d_tupj (da_consj (d_callj c__law_turned (hr.mono (by decide)) rfl (da_consj (d_varj 7) da_nilj)) (da_consj (d_varj 8) da_nilj))) da_nilj))))))) (ds_onej (dst_retj (d_ixj x_ixE (d_varj 6) (d_callj c__law_take (hr.mono (by decide)) rfl (da_consj (d_varj 0) (da_consj d_intj da_nilj))) (fun _ _ => rfl)))))))))))))), fun ds S k h => ?_⟩)
  · obtain ⟨_, _, _, rfl, _⟩ := h
    rfl
  · obtain ⟨s, p, q, rfl, hs, op, oq, sq1, sq2, w⟩ := h
    refine ⟨([gP p, gP q], none), rfl, rfl, rfl, s, 2, rfl, by decide, by decide, hs, fun r1 S1 g0 g1 d1 => ?_⟩
    have one4 : Bt 400000 1 := Bt.mono (m := 4) (by decide) (by decide)
    have hr : r1 = 0 ∨ r1 = 1 := by omega
    rcases hr with rfl | rfl
    · refine ⟨([fr q.1.1, fr q.1.2], none), rfl, rfl, rfl, few, _, _, _, _, _, rfl, den_mul_ne q.1.1 1, sq1.num.mono (by decide), sq1.den.mono (by decide), one4, one4, add_of q.1.1 1, few, few, few, few, few, few, few, few, fun pf hpf => ?_⟩
      exact bent_mid0 (p := p) (q := q) (pf := pf) hs (d1.trans (Dr.new d1.1 hpf)) (put_same.trans (congrArg (fun l => some (DO.lst l)) (f4_eq q.1))) op oq sq1 w
    · refine ⟨([fr q.2.1, fr q.2.2], none), rfl, rfl, rfl, few, _, _, _, _, _, rfl, den_mul_ne q.2.1 1, sq2.num.mono (by decide), sq2.den.mono (by decide), one4, one4, add_of q.2.1 1, few, few, few, few, few, few, few, few, fun pf hpf => ?_⟩
      exact bent_mid1 (p := p) (q := q) (pf := pf) hs (d1.trans (Dr.new d1.1 hpf)) (put_same.trans (congrArg (fun l => some (DO.lst l)) (f4_eq q.2))) op oq sq2 w
end My
namespace My
open PySem PySem.Spec PyProof.Rows L2 DL HM
set_option maxHeartbeats 4000000
theorem dir_one (o : Option Rat) : dirX o * dirX o + dirY o * dirY o = 1 := by
  cases o with
  | none => show (-1 : Rat) * -1 + 0 * 0 = 1; decide +kernel
  | some t =>
    have h := one_sq_ne t
    have e1 : dirX (some t) * (1 + t * t) = 1 - t * t := Rat.div_mul_cancel h
    have e2 : dirY (some t) * (1 + t * t) = t + t := Rat.div_mul_cancel h
    generalize dirX (some t) = x at *
    generalize dirY (some t) = y at *
    have : (x * x + y * y - 1) * ((1 + t * t) * (1 + t * t)) = 0 := by grind
    rcases Rat.mul_eq_zero.mp this with z | z
    · grind
    · exact absurd (Rat.mul_eq_zero.mp z) (by grind)
theorem stand_of {a b c g X Y u : Rat} {A B : Q} (u0 : 0 < u) (h0 : X * X + Y * Y = a * a) (h1 : squareQ u (qs A (qo X)) (qs B (qo Y)) = (b * b, 0)) (h2 : squareQ u (qs A (qo g)) (qs B (qo 0)) = (c * c, 0)) : Stand (rods3 a b c) (place4 g ((X, 0), (Y, 0)) ((A.1, ss A.2 * u), (B.1, ss B.2 * u))) := by
  refine ⟨u, u0, fun y hy => ?_, fun r hr => ?_⟩
  · unfold place4 at hy
    simp only [List.mem_cons, List.not_mem_nil, or_false] at hy
    rcases hy with rfl | rfl | rfl | rfl
    · exact ⟨has_zero, has_zero⟩
    · exact ⟨has_zero, has_zero⟩
    · exact ⟨⟨_, rfl⟩, ⟨_, rfl⟩⟩
    · exact ⟨has_zero, has_zero⟩
  · have ep : (place4 g ((X, 0), (Y, 0)) ((A.1, ss A.2 * u), (B.1, ss B.2 * u))).map (rp u) = [((0, 0), (0, 0)), (qo X, qo Y), (A, B), (qo g, qo 0)] := by
      show [(((0 : Rat), bq u 0), ((0 : Rat), bq u 0)), ((X, bq u 0), (Y, bq u 0)), ((A.1, bq u (ss A.2 * u)), (B.1, bq u (ss B.2 * u))), ((g, bq u 0), ((0 : Rat), bq u 0))] = _
      rw [bq_zero u0, bq_eq (b := A.2) u0 rfl, bq_eq (b := B.2) u0 rfl]
      rfl
    rw [ep]
    unfold rods3 at hr
    simp only [List.mem_cons, List.not_mem_nil, or_false] at hr
    rcases hr with rfl | rfl | rfl
    · show squareQ u (qs (qo X) (0, 0)) (qs (qo Y) (0, 0)) = (a * a, 0)
      simp only [squareQ, qa, qm, qs, qo]
      refine Prod.ext ?_ ?_ <;> dsimp only <;> grind
    · exact h1
    · show squareQ u (qs (qo g) A) (qs (qo 0) B) = (c * c, 0)
      rw [← h2]
      simp only [squareQ, qa, qm, qs, qo]
      refine Prod.ext ?_ ?_ <;> dsimp only <;> grind
theorem sq_mir {u : Rat} {x y z : Q} : squareQ u x (qs (-y.1, -y.2) (-z.1, -z.2)) = squareQ u x (qs y z) := by
  simp only [squareQ, qa, qm, qs]
  refine Prod.ext ?_ ?_ <;> dsimp only <;> grind
theorem told_ok {a b c g : Rat} {o : Option Rat} (g4 : G4 14 a b c g) (ho : DrOk o) (h0 : apA a g o ≠ 0) {d : D} (hd : d ∈ sL a b c g o) : ∃ p q : Gn × Gn, d = .tup [gP p, gP q] ∧ POk p ∧ POk q ∧ Sz 1650 q.1.1 ∧ Sz 1650 q.2.1 ∧ Stand (rods3 a b c) (place4 g p q) ∧ Stand (rods3 a b c) (place4 g (p.1, mirG p.2) (q.1, mirG q.2)) := by
  have h4 := g4.r4
  have hx : Sz 34 (dirX o * a) := (dirX_sz ho).mul h4.a
  have hy : Sz 34 (dirY o * a) := (dirY_sz ho).mul h4.a
  have e0 : (dirX o * a) * (dirX o * a) + (dirY o * a) * (dirY o * a) = a * a := by
    have := dir_one o
    generalize dirX o = x at *
    generalize dirY o = y at *
    have e : x * a * (x * a) + y * a * (y * a) = (x * x + y * y) * (a * a) := by grind
    rw [e, this, Rat.one_mul]
  unfold sL at hd
  obtain ⟨e, he, rfl⟩ := List.mem_map.mp hd
  have cp : ∃ i, CP (dirX o * a) (dirY o * a) (b * b) g 0 (c * c) i e := by
    rcases cL_cases hx hy (h4.b.mul h4.b) h4.g Sz.zero (h4.c.mul h4.c) h0 with z | ⟨d, z, c1⟩ | ⟨d, f, z, c1, c2⟩
    · rw [z] at he; cases he
    · rw [z] at he
      simp only [List.mem_cons, List.not_mem_nil, or_false] at he
      subst he
      exact ⟨_, c1⟩
    · rw [z] at he
      simp only [List.mem_cons, List.not_mem_nil, or_false] at he
      rcases he with rfl | rfl
      · exact ⟨_, c1⟩
      · exact ⟨_, c2⟩
  obtain ⟨i, κ, u, A, B, F⟩ := cp
  have u0 := F.pt.fd.pos
  have nok : ∀ C : Q, Sq 1600 C → Sz 1500 (ss C.2 * u) → NOk (C.1, ss C.2 * u) := fun C s1 s2 => ⟨s1.a.mono (by decide), s2, by
    by_cases z : C.2 = 0
    · left
      show ss C.2 * u = 0
      rw [z, ss_of_zero, Rat.zero_mul]
    · right
      show NoSq (ab (ss C.2 * u))
      rw [ab_ss u0]
      exact no_mul F.pt.fd.no z⟩
  refine ⟨((dirX o * a, 0), (dirY o * a, 0)), ((A.1, ss A.2 * u), (B.1, ss B.2 * u)), by rw [F.pt.eq]; rfl, ⟨NOk.plain (hx.mono (by decide)), NOk.plain (hy.mono (by decide))⟩, ⟨nok A F.pt.x F.pt.ux, nok B F.pt.y F.pt.uy⟩, F.pt.x.a.mono (by decide), F.pt.y.a.mono (by decide), stand_of u0 e0 F.one F.two, ?_⟩
  have h := stand_of (a := a) (b := b) (c := c) (g := g) (X := dirX o * a) (Y := -(dirY o * a)) (A := A) (B := (-B.1, -B.2)) u0 (by grind) (by
    have := sq_mir (u := u) (x := qs A (qo (dirX o * a))) (y := B) (z := qo (dirY o * a))
    rw [F.one] at this
    rw [← this]
    show _ = squareQ u (qs A (qo (dirX o * a))) (qs (-B.1, -B.2) (-(dirY o * a), -0))
    rw [Rat.neg_zero]
    rfl) (by
    have := sq_mir (u := u) (x := qs A (qo g)) (y := B) (z := qo 0)
    rw [F.two] at this
    rw [← this]
    show _ = squareQ u (qs A (qo g)) (qs (-B.1, -B.2) (-0, -0))
    rw [Rat.neg_zero]
    rfl)
  have e1 : ss (-B.2) * u = -(ss B.2 * u) := by rw [ss_negate, Rat.neg_mul]
  have h : Stand (rods3 a b c) (place4 g ((dirX o * a, 0), (-(dirY o * a), 0)) ((A.1, ss A.2 * u), (-B.1, ss (-B.2) * u))) := h
  rw [e1] at h
  show Stand (rods3 a b c) (place4 g ((dirX o * a, 0), (-(dirY o * a), -0)) ((A.1, ss A.2 * u), (-B.1, -(ss B.2 * u))))
  rw [Rat.neg_zero]
  exact h
end My
namespace My
open PySem PySem.Spec PyProof.Rows L2 DL HM
set_option maxHeartbeats 4000000
def F_law : DSp := fun ds S k => ∃ ns : List Int, ds = [.rl (List.map D.int ns)] ∧ ns.length ≤ 63 ∧ ∀ S', k (.bl true) S'
theorem sc_law : FnScope ["script", "k", "state", "rods", "most", "rest", "found", "pose", "flipped", "other"] ["script"] (defScope s_law) := ⟨rfl, rfl, rfl, by decide +kernel, rfl, by decide +kernel, by decide +kernel⟩
theorem ok_law {P : Program} {w : World} {K : Fg} {mg : Str → Option Value} {base : Heap} {f : Addr} {fd : FuncData} (Fn : Fun K "law" "law" s_law f fd) (c__law_state : Own P w K mg base "_law_state" 2 F__law_state) (c__law_rods : Own P w K mg base "_law_rods" 36 F__law_rods) (c__law_sorted : Own P w K mg base "_law_sorted" 37 F__law_sorted) (c__law_plus : Own P w K mg base "_law_plus" 35 F__law_plus) (c_can_stand : Own P w K mg base "can_stand" 2 F_can_stand) (c__law_most : Own P w K mg base "_law_most" 36 F__law_most) (c__law_stands : Own P w K mg base "_law_stands" 37 F__law_stands) (c__law_drive : Own P w K mg base "_law_drive" 36 F__law_drive) (c__law_turned : Own P w K mg base "_law_turned" 1 F__law_turned) (c_is_stand : Own P w K mg base "is_stand" 42 F_is_stand) (c__law_bent : Own P w K mg base "_law_bent" 36 F__law_bent) (c__law_due : Own P w K mg base "_law_due" 38 F__law_due) (z_range : mg "range" = none) (z_max : mg "max" = none) (z_min : mg "min" = none) (z_len : mg "len" = none) (z_isinstance : mg "isinstance" = none) (z_bool : mg "bool" = none) (z_tuple : mg "tuple" = none) :
    FnOk P w K mg base CX0 43 f fd ["script"] (spU K F_law) := by
  refine Fn.okJ sc_law (fun ds S k h => ?_) (fun cdv A outer s H E hr => ⟨_, (ds_consj (dst_forRj PassesOwn.never rfl rfl z_range (da_consj (d_callBj b_max rfl z_max bt_max (da_consj d_intj (da_consj (d_callBj b_min rfl z_min bt_min (da_consj (d_callBj b_lenE rfl z_len bt_len (da_consj (d_varj 0) da_nilj)) (da_consj d_intj da_nilj))) da_nilj))) da_nilj) (dg_namej (i := 1) sc_law.nd) (ds_consj (dst_setj (i := 2) sc_law.nd (d_callj c__law_state (hr.mono (by decide)) rfl (da_consj (d_varj 0) (da_consj (d_varj 1) da_nilj)))) (ds_consj (dst_setj (i := 3) sc_law.nd (d_callj c__law_rods (hr.mono (by decide)) rfl (da_consj (d_varj 2) da_nilj))) (ds_consj (dst_setj (i := 4) sc_law.nd (d_callj c__law_sorted (hr.mono (by decide)) rfl (da_consj (d_varj 3) da_nilj))) (ds_consj (dst_setj (i := 5) sc_law.nd (d_callj c__law_plus (hr.mono (by decide)) rfl (da_consj (d_callj c__law_plus (hr.mono (by decide)) rfl (da_consj (d_ixj x_ixE (d_varj 4) d_intj (fun _ _ => rfl)) (da_consj (d_ixj x_ixE (d_varj 4) d_intj (fun _ _ => rfl)) da_nilj))) (da_consj (d_ixj x_ixE (d_varj 4) d_intj (fun _ _ => rfl)) da_nilj)))) (ds_consj (dst_setj (i := 6) sc_law.nd (d_callj c_can_stand (hr.mono (by decide)) rfl (da_consj (d_varj 3) da_nilj))) (ds_consj (dst_ifj (WJ.pt (dw_orj (dt_notj (dt_valj (d_callBj b_isiX rfl z_isinstance bt_isinstance (da_consj (d_varj 6) (da_consj (d_tyj (n := .bool) rfl z_bool bt_bool) da_nilj))))) (dw_or1j (dt_cmpj (o_neX hr) (d_varj 6) (d_callj c__law_most (hr.mono (by decide)) rfl (da_consj (d_ixj x_ixE (d_varj 4) d_intj (fun _ _ => rfl)) (da_consj (d_varj 5) da_nilj))) (nomark _))))) (ds_onej (dst_retj d_blj)) ds_nilj) (ds_onej (dst_forEj PassesOwn.never rfl (d_orXj (d_callj c__law_stands (hr.mono (by decide)) rfl (da_consj (d_varj 3) (da_consj (d_callj c__law_drive (hr.mono (by decide)) rfl (da_consj (d_varj 2) da_nilj)) da_nilj))) (d_onej (d_lstj da_nilj))) (dg_namej (i := 7) sc_law.nd) (ds_consj (dst_setj (i := 8) sc_law.nd (d_callTj b_tuple rfl z_tuple bt_tuple (da_consj (d_compEj rfl (compSc (N := ["point"]) (cap := [none]) rfl rfl rfl rfl trivial rfl rfl trivial) (d_varj 7) (fun _ _ _ _ => (dg_namej (i := 0) (show List.Nodup (["point"] : List Str) from by decide +kernel))) (fun _ _ _ _ => (d_callj c__law_turned (hr.mono (by decide)) rfl (da_consj (d_varj 0) da_nilj)))) da_nilj))) (ds_consj (dst_ifj (WJ.pt (dw_orj (dt_cmpj o_isNot (d_callj c_is_stand (hr.mono (by decide)) rfl (da_consj (d_varj 3) (da_consj (d_varj 7) da_nilj))) d_blj (nomark _)) (dw_or1j (dt_cmpj o_isNot (d_callj c_is_stand (hr.mono (by decide)) rfl (da_consj (d_varj 3) (da_consj (d_varj 8) da_nilj))) d_blj (nomark _))))) (ds_onej (dst_retj d_blj)) ds_nilj) (ds_consj (dst_setj (i := 9) sc_law.nd (d_callj c__law_bent (hr.mono (by decide)) rfl (da_consj (d_varj 2) (da_consj (d_varj 7) da_nilj)))) (ds_consj (dst_setj (i := 6) sc_law.nd (d_callj c_is_stand (hr.mono (by decide)) rfl (da_consj (d_varj 3) (da_consj (d_varj 9) da_nilj)))) (ds_onej (dst_ifj (WJ.pt (dw_orj (dt_notj (dt_valj (d_callBj b_isiX rfl z_isinstance bt_isinstance (da_consj (d_varj 6) (da_consj (d_tyj (n := .bool) rfl z_bool bt_bool) da_nilj))))) (dw_or1j (dt_cmpj (o_neX hr) (d_varj 6) (d_callj c__law_due (hr.mono (by decide)) rfl (da_consj (d_varj 3) (da_consj (d_varj 9) da_nilj))) (nomark _))))) (ds_onej (dst_retj d_blj)) ds_nilj))))))))))))))) (ds_onej (dst_retj d_blj))), fun ds S k h => ?_⟩)
  · obtain ⟨_, rfl, _⟩ := h
    rfl
  · obtain ⟨ns, rfl, hl, w⟩ := h
    have hb : ∀ z : Int, 0 ≤ z → z ≤ 63 → -(2 ^ 62) ≤ z ∧ z < 2 ^ 62 := fun z _ _ => by omega
    refine ⟨hb _ (by split <;> (try split) <;> omega) (by rw [List.length_map]; split <;> (try split) <;> omega), ?_⟩
    refine loop_all (P := fun d => ∃ i : Int, d = .int i ∧ 0 ≤ i) (fun L S' => ∃ r1 r2 r3 r4 r5 r6 r7 r8 r9, L = [some (.rl (List.map D.int ns)), r1, r2, r3, r4, r5, r6, r7, r8, r9]) (fun _ _ _ => trivial) ?_ (fun L S' _ => w S') _ ?_ _ _ ⟨_, _, _, _, _, _, _, _, _, rfl⟩
    · rintro d L S1 Nx ⟨i, rfl, hi⟩ ⟨r1, r2, r3, r4, r5, r6, r7, r8, r9, rfl⟩ hN
      refine ⟨ns, i, rfl, hi, fun p n0 b hp hnb => ?_⟩
      have hS : SOK (put S1 p (.lst [.int n0, .bl b])) p := ⟨n0, b, put_same, hnb⟩
      generalize put S1 p (.lst [.int n0, .bl b]) = T1 at hS ⊢
      refine ⟨p, rfl, hS, fun a b c g T2 g4 d2 => ⟨a, b, c, g, rfl, g4.r4, fun T3 pl l ho hpm e3 h3 => ?_⟩⟩
      obtain ⟨l0, l1, l2, l3, rfl⟩ := len4 hpm.length_eq
      have h3 : T3 pl = some (.lst [fr l0, fr l1, fr l2, fr l3]) := h3
      have hmem : ∀ x ∈ [l0, l1, l2, l3], Sz 14 x := fun x hx => by
        have hx := hpm.mem_iff.mp hx
        simp only [List.mem_cons, List.not_mem_nil, or_false] at hx
        rcases hx with rfl | rfl | rfl | rfl
        · exact g4.r4.a
        · exact g4.r4.b
        · exact g4.r4.c
        · exact g4.r4.g
      have s0 := hmem l0 (by simp)
      have s1 := hmem l1 (by simp)
      have s2 := hmem l2 (by simp)
      have s3 := hmem l3 (by simp)
      obtain ⟨k1, _⟩ := ord_pcs ho hpm
      refine ⟨_, _, h3, atI0, _, _, h3, atI1, _, _, _, _, _, rfl, den_mul_ne l0 l1, s0.num.mono (by decide), s0.den.mono (by decide), s1.num.mono (by decide), s1.den.mono (by decide), add_of l0 l1, _, _, h3, atI2, _, _, _, _, _, rfl, den_mul_ne (l0 + l1) l2, (s0.add s1).num.mono (by decide), (s0.add s1).den.mono (by decide), s2.num.mono (by decide), s2.den.mono (by decide), add_of (l0 + l1) l2, a, b, c, g, rfl, g4, fun T4 e4 => ?_⟩
      rw [show decide (fits a b c g) = decide (l3 ≤ l0 + l1 + l2) from decide_eq_decide.mpr k1.symm]
      have h4 := e4 _ _ h3
      have hS4 : SOK T4 p := by
        obtain ⟨m, c', e, z⟩ := d2.1
        exact ⟨m, c', e4 _ _ (e3 _ _ e), z⟩
      refine ⟨.bool, rfl, _, _, h4, atI3, l3, l0 + l1 + l2, rfl, s3.mono (by decide), ((s0.add s1).add s2).mono (by decide), ?_⟩
      generalize decide (l3 ≤ l0 + l1 + l2) = v
      refine ⟨true, by cases v <;> rfl, ite_nb (fun z => by cases z) (fun _ => dNext_go ?_)⟩
      refine ⟨p, rfl, hS4, fun o T5 ho5 d5 => ⟨a, b, c, g, o, rfl, g4.r4, ho5, fun _ T6 e6 => ?_, fun nz T6 pt e6 h6 => ?_⟩⟩
      · exact ⟨few, fun pe hpe => ⟨([], some pe), by simp only [dItems, put_same], put_same, hN _ _ ⟨_, _, _, _, _, _, _, _, _, rfl⟩⟩⟩
      · have hS6 : SOK T6 p := by
          obtain ⟨m, c', e, z⟩ := d5.1
          exact ⟨m, c', e6 _ _ e, z⟩
        have hne : pt ≠ p := fun z => by
          subst z
          obtain ⟨m, c', e, _⟩ := hS6
          rw [h6] at e
          have e : sL a b c g o = [.int m, .bl c'] := by injection e with e; injection e
          obtain ⟨P, Q', hd, _⟩ := told_ok g4 ho5 nz (d := .int m) (by rw [e]; exact List.mem_cons_self)
          cases hd
        refine ⟨_, h6, fun _ => ⟨(sL a b c g o, some pt), by simp only [dItems, h6], ?_⟩, fun _ => ⟨few, fun pe hpe => ⟨([], some pe), by simp only [dItems, put_same], put_same, hN _ _ ⟨_, _, _, _, _, _, _, _, _, rfl⟩⟩⟩⟩
        refine loop_ix (fun r L S' => (∃ l1 l4 l5 l6 l7 l8 l9, L = [some (.rl (List.map D.int ns)), l1, some (.ref p), some (RD a b c g), l4, l5, l6, l7, l8, l9]) ∧ SOK S' p ∧ S' pt = some (.lst (sL a b c g o)) ∧ ∀ d ∈ r, d ∈ sL a b c g o) (fun r L S' ⟨_, _, z, _⟩ => z) ?_ (fun L S' ⟨⟨l1, l4, l5, l6, l7, l8, l9, hL⟩, _⟩ => by subst hL; exact hN _ _ ⟨_, _, _, _, _, _, _, _, _, rfl⟩) _ _ _ ⟨⟨_, _, _, _, _, _, _, rfl⟩, hS6, h6, fun _ z => z⟩
        rintro d r L S' N1 ⟨⟨l1, l4, l5, l6, l7, l8, l9, rfl⟩, hS', hpt, hr⟩ hN1
        obtain ⟨P, Q', rfl, op, oq, sq1, sq2, st1, st2⟩ := told_ok g4 ho5 nz (hr _ List.mem_cons_self)
        have omP : POk (P.1, mirG P.2) := ⟨op.1, op.2.mir⟩
        have omQ : POk (Q'.1, mirG Q'.2) := ⟨oq.1, oq.2.mir⟩
        refine ⟨([gP P, gP Q'], none), rfl, fun pc hpc => ?_⟩
        refine map_loop (f := gP) (g := fun x : Gn × Gn => gP (x.1, mirG x.2)) (all := [P, Q']) hpc (fun _ _ => trivial) (fun x S'' k' _ e z => ⟨x, rfl, z⟩) [P, Q'] [] none (fun _ z => z) (by show 0 + 2 ≤ 100; decide) fun T7 e7 h7 => ⟨_, h7, ?_⟩
        refine ⟨a, b, c, g, P, Q', rfl, g4.a.1, g4.b.1, g4.c.1, g4.g.1, op, oq, fun T8 e8 => ?_⟩
        rw [stB_t st1]
        refine ⟨a, b, c, g, (P.1, mirG P.2), (Q'.1, mirG Q'.2), rfl, g4.a.1, g4.b.1, g4.c.1, g4.g.1, omP, omQ, fun T9 e9 => ?_⟩
        rw [stB_t st2]
        have e79 := e7.trans (e8.trans e9)
        have hS9 : SOK T9 p := by
          obtain ⟨m, c', e, z⟩ := hS'
          exact ⟨m, c', e79 _ _ e, z⟩
        refine ⟨p, P, Q', rfl, hS9, op, oq, sq1, sq2, fun T10 P2 Q2 d10 op2 oq2 => ?_⟩
        refine ⟨a, b, c, g, P2, Q2, rfl, g4.a.1, g4.b.1, g4.c.1, g4.g.1, op2, oq2, fun T11 e11 => ⟨.bool, rfl, a, b, c, g, P2, Q2, rfl, g4.a.1, g4.b.1, g4.c.1, g4.g.1, op2, oq2, fun T12 e12 => ?_⟩⟩
        generalize stB (rods3 a b c) (place4 g P2 Q2) = v2
        refine ⟨true, by cases v2 <;> rfl, ite_nb (fun z => by cases z) (fun _ => dNext_go (hN1 _ _ ⟨⟨_, _, _, _, _, _, _, rfl⟩, ?_, ?_, fun d hd => hr d (List.mem_cons_of_mem _ hd)⟩))⟩
        · obtain ⟨m, c', e, z⟩ := d10.1
          exact ⟨m, c', e12 _ _ (e11 _ _ e), z⟩
        · exact e12 _ _ (e11 _ _ (d10.2 pt _ hne (e79 _ _ hpt)))
    · intro d hd
      obtain ⟨z, _, rfl⟩ := List.mem_map.mp hd
      exact ⟨_, rfl, by omega⟩
theorem law_ask (ns : List Int) (h : ns.length ≤ 63) : F_law [.rl (List.map D.int ns)] (fun _ => none) (fun d _ => d = .bl true) := ⟨ns, rfl, h, fun _ => rfl⟩
end My
def PySem.W.Fast.tw9514425172963275007 : Unit := ()
def PySem.W.Fast.tw13859849299503698367 : Unit := ()
def PySem.W.Fast.tw1434532605497052820 : Unit := ()
def PySem.W.Fast.tw13386835200302031341 : Unit := ()
def PySem.W.Fast.tw15225322119769274141 : Unit := ()
def PySem.W.Fast.tw12492671675521208601 : Unit := ()
def PySem.W.Fast.tw12169838185615079495 : Unit := ()
def PySem.W.Fast.tw688451767336027496 : Unit := ()
def PySem.W.Fast.tw15766829364199577294 : Unit := ()
def PySem.W.Fast.tw7092181870623082976 : Unit := ()
def PySem.W.Fast.tw8512416883155709216 : Unit := ()
def PySem.W.Fast.tw2320254176736184915 : Unit := ()
def PySem.W.Fast.tw11163751777119372781 : Unit := ()
def PySem.W.Fast.tw12247563553385497800 : Unit := ()
def PySem.W.Fast.tw3400545379198089269 : Unit := ()
def PySem.W.Fast.tw14524224236198065790 : Unit := ()
def PySem.W.Fast.tw9538341567356786015 : Unit := ()
def PySem.W.Fast.tw2759152998094406247 : Unit := ()
def PySem.W.Fast.tw15370111218280196317 : Unit := ()
def PySem.W.Fast.tw4522191565063455029 : Unit := ()
def PySem.W.Fast.tw14578389924930779709 : Unit := ()
def PySem.W.Fast.tw6455324116798186068 : Unit := ()
def PySem.W.Fast.tw1264895263037370622 : Unit := ()
def PySem.W.Fast.tw7922466517093057545 : Unit := ()
namespace My
open PySem PySem.Spec PyProof.Rows L2 DL HM
set_option maxHeartbeats 4000000
theorem all_mk {l : PySem.W.OpenLaw} {w : World} {K : Fg} {h : Heap} {mg : Str → Option Value} {fa : Addr} (X : K.In h) (G : h.Ns mainGlobals mg) (hfa : mg "law" = some (.ref fa))
    {f1 : Addr} {od1 an1 : Option Addr} {sl1 : Array (Option Value)} {oc1 kV1 dc1 pm1 cd1 ct1 : Value}
    {f2 : Addr} {od2 an2 : Option Addr} {sl2 : Array (Option Value)} {oc2 kV2 dc2 pm2 cd2 ct2 : Value}
    {f3 : Addr} {od3 an3 : Option Addr} {sl3 : Array (Option Value)} {oc3 kV3 dc3 pm3 cd3 ct3 : Value}
    {f4 : Addr} {od4 an4 : Option Addr} {sl4 : Array (Option Value)} {oc4 kV4 dc4 pm4 cd4 ct4 : Value}
    {f5 : Addr} {od5 an5 : Option Addr} {sl5 : Array (Option Value)} {oc5 kV5 dc5 pm5 cd5 ct5 : Value}
    {f6 : Addr} {od6 an6 : Option Addr} {sl6 : Array (Option Value)} {oc6 kV6 dc6 pm6 cd6 ct6 : Value}
    {f7 : Addr} {od7 an7 : Option Addr} {sl7 : Array (Option Value)} {oc7 kV7 dc7 pm7 cd7 ct7 : Value}
    {f8 : Addr} {od8 an8 : Option Addr} {sl8 : Array (Option Value)} {oc8 kV8 dc8 pm8 cd8 ct8 : Value}
    {f9 : Addr} {od9 an9 : Option Addr} {sl9 : Array (Option Value)} {oc9 kV9 dc9 pm9 cd9 ct9 : Value}
    {f10 : Addr} {od10 an10 : Option Addr} {sl10 : Array (Option Value)} {oc10 kV10 dc10 pm10 cd10 ct10 : Value}
    {f11 : Addr} {od11 an11 : Option Addr} {sl11 : Array (Option Value)} {oc11 kV11 dc11 pm11 cd11 ct11 : Value}
    {f12 : Addr} {od12 an12 : Option Addr} {sl12 : Array (Option Value)} {oc12 kV12 dc12 pm12 cd12 ct12 : Value}
    {f13 : Addr} {od13 an13 : Option Addr} {sl13 : Array (Option Value)} {oc13 kV13 dc13 pm13 cd13 ct13 : Value}
    {f14 : Addr} {od14 an14 : Option Addr} {sl14 : Array (Option Value)} {oc14 kV14 dc14 pm14 cd14 ct14 : Value}
    {f15 : Addr} {od15 an15 : Option Addr} {sl15 : Array (Option Value)} {oc15 kV15 dc15 pm15 cd15 ct15 : Value}
    {f16 : Addr} {od16 an16 : Option Addr} {sl16 : Array (Option Value)} {oc16 kV16 dc16 pm16 cd16 ct16 : Value}
    {f17 : Addr} {od17 an17 : Option Addr} {sl17 : Array (Option Value)} {oc17 kV17 dc17 pm17 cd17 ct17 : Value}
    {f18 : Addr} {od18 an18 : Option Addr} {sl18 : Array (Option Value)} {oc18 kV18 dc18 pm18 cd18 ct18 : Value}
    {f19 : Addr} {od19 an19 : Option Addr} {sl19 : Array (Option Value)} {oc19 kV19 dc19 pm19 cd19 ct19 : Value}
    {f20 : Addr} {od20 an20 : Option Addr} {sl20 : Array (Option Value)} {oc20 kV20 dc20 pm20 cd20 ct20 : Value}
    {f21 : Addr} {od21 an21 : Option Addr} {sl21 : Array (Option Value)} {oc21 kV21 dc21 pm21 cd21 ct21 : Value}
    {f22 : Addr} {od22 an22 : Option Addr} {sl22 : Array (Option Value)} {oc22 kV22 dc22 pm22 cd22 ct22 : Value}
    {f23 : Addr} {od23 an23 : Option Addr} {sl23 : Array (Option Value)} {oc23 kV23 dc23 pm23 cd23 ct23 : Value}
    {f24 : Addr} {od24 an24 : Option Addr} {sl24 : Array (Option Value)} {oc24 kV24 dc24 pm24 cd24 ct24 : Value}
    {f25 : Addr} {od25 an25 : Option Addr} {sl25 : Array (Option Value)} {oc25 kV25 dc25 pm25 cd25 ct25 : Value}
    {f26 : Addr} {od26 an26 : Option Addr} {sl26 : Array (Option Value)} {oc26 kV26 dc26 pm26 cd26 ct26 : Value}
    {f27 : Addr} {od27 an27 : Option Addr} {sl27 : Array (Option Value)} {oc27 kV27 dc27 pm27 cd27 ct27 : Value}
    {f28 : Addr} {od28 an28 : Option Addr} {sl28 : Array (Option Value)} {oc28 kV28 dc28 pm28 cd28 ct28 : Value}
    {f29 : Addr} {od29 an29 : Option Addr} {sl29 : Array (Option Value)} {oc29 kV29 dc29 pm29 cd29 ct29 : Value}
    {f30 : Addr} {od30 an30 : Option Addr} {sl30 : Array (Option Value)} {oc30 kV30 dc30 pm30 cd30 ct30 : Value}
    {f31 : Addr} {od31 an31 : Option Addr} {sl31 : Array (Option Value)} {oc31 kV31 dc31 pm31 cd31 ct31 : Value}
    {f32 : Addr} {od32 an32 : Option Addr} {sl32 : Array (Option Value)} {oc32 kV32 dc32 pm32 cd32 ct32 : Value}
    {f33 : Addr} {od33 an33 : Option Addr} {sl33 : Array (Option Value)} {oc33 kV33 dc33 pm33 cd33 ct33 : Value}
    {f34 : Addr} {od34 an34 : Option Addr} {sl34 : Array (Option Value)} {oc34 kV34 dc34 pm34 cd34 ct34 : Value}
    {f35 : Addr} {od35 an35 : Option Addr} {sl35 : Array (Option Value)} {oc35 kV35 dc35 pm35 cd35 ct35 : Value}
    {f36 : Addr} {od36 an36 : Option Addr} {sl36 : Array (Option Value)} {oc36 kV36 dc36 pm36 cd36 ct36 : Value}
    {f37 : Addr} {od37 an37 : Option Addr} {sl37 : Array (Option Value)} {oc37 kV37 dc37 pm37 cd37 ct37 : Value}
    {f38 : Addr} {od38 an38 : Option Addr} {sl38 : Array (Option Value)} {oc38 kV38 dc38 pm38 cd38 ct38 : Value}
    {f39 : Addr} {od39 an39 : Option Addr} {sl39 : Array (Option Value)} {oc39 kV39 dc39 pm39 cd39 ct39 : Value}
    {f40 : Addr} {od40 an40 : Option Addr} {sl40 : Array (Option Value)} {oc40 kV40 dc40 pm40 cd40 ct40 : Value}
    {f41 : Addr} {od41 an41 : Option Addr} {sl41 : Array (Option Value)} {oc41 kV41 dc41 pm41 cd41 ct41 : Value}
    {f42 : Addr} {od42 an42 : Option Addr} {sl42 : Array (Option Value)} {oc42 kV42 dc42 pm42 cd42 ct42 : Value}
    {f43 : Addr} {od43 an43 : Option Addr} {sl43 : Array (Option Value)} {oc43 kV43 dc43 pm43 cd43 ct43 : Value}
    {f44 : Addr} {od44 an44 : Option Addr} {sl44 : Array (Option Value)} {oc44 kV44 dc44 pm44 cd44 ct44 : Value}
    {f45 : Addr} {od45 an45 : Option Addr} {sl45 : Array (Option Value)} {oc45 kV45 dc45 pm45 cd45 ct45 : Value}
    {f46 : Addr} {od46 an46 : Option Addr} {sl46 : Array (Option Value)} {oc46 kV46 dc46 pm46 cd46 ct46 : Value}
    {f47 : Addr} {od47 an47 : Option Addr} {sl47 : Array (Option Value)} {oc47 kV47 dc47 pm47 cd47 ct47 : Value}
    {f48 : Addr} {od48 an48 : Option Addr} {sl48 : Array (Option Value)} {oc48 kV48 dc48 pm48 cd48 ct48 : Value}
    {f49 : Addr} {od49 an49 : Option Addr} {sl49 : Array (Option Value)} {oc49 kV49 dc49 pm49 cd49 ct49 : Value}
    {f50 : Addr} {od50 an50 : Option Addr} {sl50 : Array (Option Value)} {oc50 kV50 dc50 pm50 cd50 ct50 : Value}
    {f51 : Addr} {od51 an51 : Option Addr} {sl51 : Array (Option Value)} {oc51 kV51 dc51 pm51 cd51 ct51 : Value}
    {f52 : Addr} {od52 an52 : Option Addr} {sl52 : Array (Option Value)} {oc52 kV52 dc52 pm52 cd52 ct52 : Value}
    {f53 : Addr} {od53 an53 : Option Addr} {sl53 : Array (Option Value)} {oc53 kV53 dc53 pm53 cd53 ct53 : Value}
    {f54 : Addr} {od54 an54 : Option Addr} {sl54 : Array (Option Value)} {oc54 kV54 dc54 pm54 cd54 ct54 : Value}
    {f55 : Addr} {od55 an55 : Option Addr} {sl55 : Array (Option Value)} {oc55 kV55 dc55 pm55 cd55 ct55 : Value}
    {f56 : Addr} {od56 an56 : Option Addr} {sl56 : Array (Option Value)} {oc56 kV56 dc56 pm56 cd56 ct56 : Value}
    {f57 : Addr} {od57 an57 : Option Addr} {sl57 : Array (Option Value)} {oc57 kV57 dc57 pm57 cd57 ct57 : Value}
     {p_START : Addr} {od_START : Option Addr} {sl_START : Array (Option Value)} {n_START : Nat} {p0_START : Addr} {od0_START : Option Addr} {sl0_START : Array (Option Value)} {n0_START : Nat} {p0_0_START : Addr} {od0_0_START : Option Addr} {sl0_0_START : Array (Option Value)} {n0_0_START : Nat} {t0_0_0_START t1_0_0_START : Tok} {p1_0_START : Addr} {od1_0_START : Option Addr} {sl1_0_START : Array (Option Value)} {n1_0_START : Nat} {t0_1_0_START t1_1_0_START : Tok} {p1_START : Addr} {od1_START : Option Addr} {sl1_START : Array (Option Value)} {n1_START : Nat} {p0_1_START : Addr} {od0_1_START : Option Addr} {sl0_1_START : Array (Option Value)} {n0_1_START : Nat} {t0_0_1_START t1_0_1_START : Tok} {p1_1_START : Addr} {od1_1_START : Option Addr} {sl1_1_START : Array (Option Value)} {n1_1_START : Nat} {t0_1_1_START t1_1_1_START : Tok}
    {p_NOUGHT : Addr} {od_NOUGHT : Option Addr} {sl_NOUGHT : Array (Option Value)} {n_NOUGHT : Nat} {t0_NOUGHT t1_NOUGHT : Tok}
    {cNoField : Addr}
    (a1 : PySem.W.nsIn K mainGlobals "common_divisor" = some (some (.ref f1))) (l1 : K.lookup f1 = some ⟨oc1, od1, .func (PySem.W.fnOf "common_divisor" "common_divisor" (defArgs s_common_divisor) (defBody s_common_divisor) (defScope s_common_divisor) .none kV1 dc1 pm1 an1 cd1 ct1), sl1⟩) (e1 : PySem.W.codeIn K cd1 "common_divisor" = true) (k1 : PySem.W.keepIn K (.ref f1) = true)
    (a2 : PySem.W.nsIn K mainGlobals "ratio" = some (some (.ref f2))) (l2 : K.lookup f2 = some ⟨oc2, od2, .func (PySem.W.fnOf "ratio" "ratio" (defArgs s_ratio) (defBody s_ratio) (defScope s_ratio) .none kV2 dc2 pm2 an2 cd2 ct2), sl2⟩) (e2 : PySem.W.codeIn K cd2 "ratio" = true) (k2 : PySem.W.keepIn K (.ref f2) = true)
    (a3 : PySem.W.nsIn K mainGlobals "plus" = some (some (.ref f3))) (l3 : K.lookup f3 = some ⟨oc3, od3, .func (PySem.W.fnOf "plus" "plus" (defArgs s_plus) (defBody s_plus) (defScope s_plus) .none kV3 dc3 pm3 an3 cd3 ct3), sl3⟩) (e3 : PySem.W.codeIn K cd3 "plus" = true) (k3 : PySem.W.keepIn K (.ref f3) = true)
    (a4 : PySem.W.nsIn K mainGlobals "times" = some (some (.ref f4))) (l4 : K.lookup f4 = some ⟨oc4, od4, .func (PySem.W.fnOf "times" "times" (defArgs s_times) (defBody s_times) (defScope s_times) .none kV4 dc4 pm4 an4 cd4 ct4), sl4⟩) (e4 : PySem.W.codeIn K cd4 "times" = true) (k4 : PySem.W.keepIn K (.ref f4) = true)
    (a5 : PySem.W.nsIn K mainGlobals "over" = some (some (.ref f5))) (l5 : K.lookup f5 = some ⟨oc5, od5, .func (PySem.W.fnOf "over" "over" (defArgs s_over) (defBody s_over) (defScope s_over) .none kV5 dc5 pm5 an5 cd5 ct5), sl5⟩) (e5 : PySem.W.codeIn K cd5 "over" = true) (k5 : PySem.W.keepIn K (.ref f5) = true)
    (a6 : PySem.W.nsIn K mainGlobals "negative" = some (some (.ref f6))) (l6 : K.lookup f6 = some ⟨oc6, od6, .func (PySem.W.fnOf "negative" "negative" (defArgs s_negative) (defBody s_negative) (defScope s_negative) .none kV6 dc6 pm6 an6 cd6 ct6), sl6⟩) (e6 : PySem.W.codeIn K cd6 "negative" = true) (k6 : PySem.W.keepIn K (.ref f6) = true)
    (a7 : PySem.W.nsIn K mainGlobals "without_sign" = some (some (.ref f7))) (l7 : K.lookup f7 = some ⟨oc7, od7, .func (PySem.W.fnOf "without_sign" "without_sign" (defArgs s_without_sign) (defBody s_without_sign) (defScope s_without_sign) .none kV7 dc7 pm7 an7 cd7 ct7), sl7⟩) (e7 : PySem.W.codeIn K cd7 "without_sign" = true) (k7 : PySem.W.keepIn K (.ref f7) = true)
    (a8 : PySem.W.nsIn K mainGlobals "whole_root" = some (some (.ref f8))) (l8 : K.lookup f8 = some ⟨oc8, od8, .func (PySem.W.fnOf "whole_root" "whole_root" (defArgs s_whole_root) (defBody s_whole_root) (defScope s_whole_root) .none kV8 dc8 pm8 an8 cd8 ct8), sl8⟩) (e8 : PySem.W.codeIn K cd8 "whole_root" = true) (k8 : PySem.W.keepIn K (.ref f8) = true)
    (a9 : PySem.W.nsIn K mainGlobals "square_root_or_none" = some (some (.ref f9))) (l9 : K.lookup f9 = some ⟨oc9, od9, .func (PySem.W.fnOf "square_root_or_none" "square_root_or_none" (defArgs s_square_root_or_none) (defBody s_square_root_or_none) (defScope s_square_root_or_none) .none kV9 dc9 pm9 an9 cd9 ct9), sl9⟩) (e9 : PySem.W.codeIn K cd9 "square_root_or_none" = true) (k9 : PySem.W.keepIn K (.ref f9) = true)
    (a10 : PySem.W.nsIn K mainGlobals "root_in" = some (some (.ref f10))) (l10 : K.lookup f10 = some ⟨oc10, od10, .func (PySem.W.fnOf "root_in" "root_in" (defArgs s_root_in) (defBody s_root_in) (defScope s_root_in) .none kV10 dc10 pm10 an10 cd10 ct10), sl10⟩) (e10 : PySem.W.codeIn K cd10 "root_in" = true) (k10 : PySem.W.keepIn K (.ref f10) = true)
    (a11 : PySem.W.nsIn K mainGlobals "is_plain" = some (some (.ref f11))) (l11 : K.lookup f11 = some ⟨oc11, od11, .func (PySem.W.fnOf "is_plain" "is_plain" (defArgs s_is_plain) (defBody s_is_plain) (defScope s_is_plain) .none kV11 dc11 pm11 an11 cd11 ct11), sl11⟩) (e11 : PySem.W.codeIn K cd11 "is_plain" = true) (k11 : PySem.W.keepIn K (.ref f11) = true)
    (a12 : PySem.W.nsIn K mainGlobals "with_sign_of" = some (some (.ref f12))) (l12 : K.lookup f12 = some ⟨oc12, od12, .func (PySem.W.fnOf "with_sign_of" "with_sign_of" (defArgs s_with_sign_of) (defBody s_with_sign_of) (defScope s_with_sign_of) .none kV12 dc12 pm12 an12 cd12 ct12), sl12⟩) (e12 : PySem.W.codeIn K cd12 "with_sign_of" = true) (k12 : PySem.W.keepIn K (.ref f12) = true)
    (a13 : PySem.W.nsIn K mainGlobals "field_base" = some (some (.ref f13))) (l13 : K.lookup f13 = some ⟨oc13, od13, .func (PySem.W.fnOf "field_base" "field_base" (defArgs s_field_base) (defBody s_field_base) (defScope s_field_base) .none kV13 dc13 pm13 an13 cd13 ct13), sl13⟩) (e13 : PySem.W.codeIn K cd13 "field_base" = true) (k13 : PySem.W.keepIn K (.ref f13) = true)
    (a14 : PySem.W.nsIn K mainGlobals "share" = some (some (.ref f14))) (l14 : K.lookup f14 = some ⟨oc14, od14, .func (PySem.W.fnOf "share" "share" (defArgs s_share) (defBody s_share) (defScope s_share) .none kV14 dc14 pm14 an14 cd14 ct14), sl14⟩) (e14 : PySem.W.codeIn K cd14 "share" = true) (k14 : PySem.W.keepIn K (.ref f14) = true)
    (a15 : PySem.W.nsIn K mainGlobals "joined" = some (some (.ref f15))) (l15 : K.lookup f15 = some ⟨oc15, od15, .func (PySem.W.fnOf "joined" "joined" (defArgs s_joined) (defBody s_joined) (defScope s_joined) .none kV15 dc15 pm15 an15 cd15 ct15), sl15⟩) (e15 : PySem.W.codeIn K cd15 "joined" = true) (k15 : PySem.W.keepIn K (.ref f15) = true)
    (a16 : PySem.W.nsIn K mainGlobals "root_negative" = some (some (.ref f16))) (l16 : K.lookup f16 = some ⟨oc16, od16, .func (PySem.W.fnOf "root_negative" "root_negative" (defArgs s_root_negative) (defBody s_root_negative) (defScope s_root_negative) .none kV16 dc16 pm16 an16 cd16 ct16), sl16⟩) (e16 : PySem.W.codeIn K cd16 "root_negative" = true) (k16 : PySem.W.keepIn K (.ref f16) = true)
    (a17 : PySem.W.nsIn K mainGlobals "root_plus" = some (some (.ref f17))) (l17 : K.lookup f17 = some ⟨oc17, od17, .func (PySem.W.fnOf "root_plus" "root_plus" (defArgs s_root_plus) (defBody s_root_plus) (defScope s_root_plus) .none kV17 dc17 pm17 an17 cd17 ct17), sl17⟩) (e17 : PySem.W.codeIn K cd17 "root_plus" = true) (k17 : PySem.W.keepIn K (.ref f17) = true)
    (a18 : PySem.W.nsIn K mainGlobals "root_minus" = some (some (.ref f18))) (l18 : K.lookup f18 = some ⟨oc18, od18, .func (PySem.W.fnOf "root_minus" "root_minus" (defArgs s_root_minus) (defBody s_root_minus) (defScope s_root_minus) .none kV18 dc18 pm18 an18 cd18 ct18), sl18⟩) (e18 : PySem.W.codeIn K cd18 "root_minus" = true) (k18 : PySem.W.keepIn K (.ref f18) = true)
    (a19 : PySem.W.nsIn K mainGlobals "root_times" = some (some (.ref f19))) (l19 : K.lookup f19 = some ⟨oc19, od19, .func (PySem.W.fnOf "root_times" "root_times" (defArgs s_root_times) (defBody s_root_times) (defScope s_root_times) .none kV19 dc19 pm19 an19 cd19 ct19), sl19⟩) (e19 : PySem.W.codeIn K cd19 "root_times" = true) (k19 : PySem.W.keepIn K (.ref f19) = true)
    (a20 : PySem.W.nsIn K mainGlobals "way_between" = some (some (.ref f20))) (l20 : K.lookup f20 = some ⟨oc20, od20, .func (PySem.W.fnOf "way_between" "way_between" (defArgs s_way_between) (defBody s_way_between) (defScope s_way_between) .none kV20 dc20 pm20 an20 cd20 ct20), sl20⟩) (e20 : PySem.W.codeIn K cd20 "way_between" = true) (k20 : PySem.W.keepIn K (.ref f20) = true)
    (a21 : PySem.W.nsIn K mainGlobals "square_of_way" = some (some (.ref f21))) (l21 : K.lookup f21 = some ⟨oc21, od21, .func (PySem.W.fnOf "square_of_way" "square_of_way" (defArgs s_square_of_way) (defBody s_square_of_way) (defScope s_square_of_way) .none kV21 dc21 pm21 an21 cd21 ct21), sl21⟩) (e21 : PySem.W.codeIn K cd21 "square_of_way" = true) (k21 : PySem.W.keepIn K (.ref f21) = true)
    (a22 : PySem.W.nsIn K mainGlobals "plain_point" = some (some (.ref f22))) (l22 : K.lookup f22 = some ⟨oc22, od22, .func (PySem.W.fnOf "plain_point" "plain_point" (defArgs s_plain_point) (defBody s_plain_point) (defScope s_plain_point) .none kV22 dc22 pm22 an22 cd22 ct22), sl22⟩) (e22 : PySem.W.codeIn K cd22 "plain_point" = true) (k22 : PySem.W.keepIn K (.ref f22) = true)
    (a23 : PySem.W.nsIn K mainGlobals "one_field" = some (some (.ref f23))) (l23 : K.lookup f23 = some ⟨oc23, od23, .func (PySem.W.fnOf "one_field" "one_field" (defArgs s_one_field) (defBody s_one_field) (defScope s_one_field) .none kV23 dc23 pm23 an23 cd23 ct23), sl23⟩) (e23 : PySem.W.codeIn K cd23 "one_field" = true) (k23 : PySem.W.keepIn K (.ref f23) = true)
    (a24 : PySem.W.nsIn K mainGlobals "ask_one_field" = some (some (.ref f24))) (l24 : K.lookup f24 = some ⟨oc24, od24, .func (PySem.W.fnOf "ask_one_field" "ask_one_field" (defArgs s_ask_one_field) (defBody s_ask_one_field) (defScope s_ask_one_field) .none kV24 dc24 pm24 an24 cd24 ct24), sl24⟩) (e24 : PySem.W.codeIn K cd24 "ask_one_field" = true) (k24 : PySem.W.keepIn K (.ref f24) = true)
    (a25 : PySem.W.nsIn K mainGlobals "_law_cell_at" = some (some (.ref f25))) (l25 : K.lookup f25 = some ⟨oc25, od25, .func (PySem.W.fnOf "_law_cell_at" "_law_cell_at" (defArgs s__law_cell_at) (defBody s__law_cell_at) (defScope s__law_cell_at) .none kV25 dc25 pm25 an25 cd25 ct25), sl25⟩) (e25 : PySem.W.codeIn K cd25 "_law_cell_at" = true) (k25 : PySem.W.keepIn K (.ref f25) = true)
    (a26 : PySem.W.nsIn K mainGlobals "_law_state" = some (some (.ref f26))) (l26 : K.lookup f26 = some ⟨oc26, od26, .func (PySem.W.fnOf "_law_state" "_law_state" (defArgs s__law_state) (defBody s__law_state) (defScope s__law_state) .none kV26 dc26 pm26 an26 cd26 ct26), sl26⟩) (e26 : PySem.W.codeIn K cd26 "_law_state" = true) (k26 : PySem.W.keepIn K (.ref f26) = true)
    (a27 : PySem.W.nsIn K mainGlobals "_law_take" = some (some (.ref f27))) (l27 : K.lookup f27 = some ⟨oc27, od27, .func (PySem.W.fnOf "_law_take" "_law_take" (defArgs s__law_take) (defBody s__law_take) (defScope s__law_take) .none kV27 dc27 pm27 an27 cd27 ct27), sl27⟩) (e27 : PySem.W.codeIn K cd27 "_law_take" = true) (k27 : PySem.W.keepIn K (.ref f27) = true)
    (a28 : PySem.W.nsIn K mainGlobals "_law_divisor" = some (some (.ref f28))) (l28 : K.lookup f28 = some ⟨oc28, od28, .func (PySem.W.fnOf "_law_divisor" "_law_divisor" (defArgs s__law_divisor) (defBody s__law_divisor) (defScope s__law_divisor) .none kV28 dc28 pm28 an28 cd28 ct28), sl28⟩) (e28 : PySem.W.codeIn K cd28 "_law_divisor" = true) (k28 : PySem.W.keepIn K (.ref f28) = true)
    (a29 : PySem.W.nsIn K mainGlobals "_law_ratio" = some (some (.ref f29))) (l29 : K.lookup f29 = some ⟨oc29, od29, .func (PySem.W.fnOf "_law_ratio" "_law_ratio" (defArgs s__law_ratio) (defBody s__law_ratio) (defScope s__law_ratio) .none kV29 dc29 pm29 an29 cd29 ct29), sl29⟩) (e29 : PySem.W.codeIn K cd29 "_law_ratio" = true) (k29 : PySem.W.keepIn K (.ref f29) = true)
    (a30 : PySem.W.nsIn K mainGlobals "_law_times" = some (some (.ref f30))) (l30 : K.lookup f30 = some ⟨oc30, od30, .func (PySem.W.fnOf "_law_times" "_law_times" (defArgs s__law_times) (defBody s__law_times) (defScope s__law_times) .none kV30 dc30 pm30 an30 cd30 ct30), sl30⟩) (e30 : PySem.W.codeIn K cd30 "_law_times" = true) (k30 : PySem.W.keepIn K (.ref f30) = true)
    (a31 : PySem.W.nsIn K mainGlobals "_law_plus" = some (some (.ref f31))) (l31 : K.lookup f31 = some ⟨oc31, od31, .func (PySem.W.fnOf "_law_plus" "_law_plus" (defArgs s__law_plus) (defBody s__law_plus) (defScope s__law_plus) .none kV31 dc31 pm31 an31 cd31 ct31), sl31⟩) (e31 : PySem.W.codeIn K cd31 "_law_plus" = true) (k31 : PySem.W.keepIn K (.ref f31) = true)
    (a32 : PySem.W.nsIn K mainGlobals "_law_minus" = some (some (.ref f32))) (l32 : K.lookup f32 = some ⟨oc32, od32, .func (PySem.W.fnOf "_law_minus" "_law_minus" (defArgs s__law_minus) (defBody s__law_minus) (defScope s__law_minus) .none kV32 dc32 pm32 an32 cd32 ct32), sl32⟩) (e32 : PySem.W.codeIn K cd32 "_law_minus" = true) (k32 : PySem.W.keepIn K (.ref f32) = true)
    (a33 : PySem.W.nsIn K mainGlobals "_law_over" = some (some (.ref f33))) (l33 : K.lookup f33 = some ⟨oc33, od33, .func (PySem.W.fnOf "_law_over" "_law_over" (defArgs s__law_over) (defBody s__law_over) (defScope s__law_over) .none kV33 dc33 pm33 an33 cd33 ct33), sl33⟩) (e33 : PySem.W.codeIn K cd33 "_law_over" = true) (k33 : PySem.W.keepIn K (.ref f33) = true)
    (a34 : PySem.W.nsIn K mainGlobals "_law_fraction" = some (some (.ref f34))) (l34 : K.lookup f34 = some ⟨oc34, od34, .func (PySem.W.fnOf "_law_fraction" "_law_fraction" (defArgs s__law_fraction) (defBody s__law_fraction) (defScope s__law_fraction) .none kV34 dc34 pm34 an34 cd34 ct34), sl34⟩) (e34 : PySem.W.codeIn K cd34 "_law_fraction" = true) (k34 : PySem.W.keepIn K (.ref f34) = true)
    (a35 : PySem.W.nsIn K mainGlobals "_law_drive" = some (some (.ref f35))) (l35 : K.lookup f35 = some ⟨oc35, od35, .func (PySem.W.fnOf "_law_drive" "_law_drive" (defArgs s__law_drive) (defBody s__law_drive) (defScope s__law_drive) .none kV35 dc35 pm35 an35 cd35 ct35), sl35⟩) (e35 : PySem.W.codeIn K cd35 "_law_drive" = true) (k35 : PySem.W.keepIn K (.ref f35) = true)
    (a36 : PySem.W.nsIn K mainGlobals "_law_rods" = some (some (.ref f36))) (l36 : K.lookup f36 = some ⟨oc36, od36, .func (PySem.W.fnOf "_law_rods" "_law_rods" (defArgs s__law_rods) (defBody s__law_rods) (defScope s__law_rods) .none kV36 dc36 pm36 an36 cd36 ct36), sl36⟩) (e36 : PySem.W.codeIn K cd36 "_law_rods" = true) (k36 : PySem.W.keepIn K (.ref f36) = true)
    (a37 : PySem.W.nsIn K mainGlobals "_law_root" = some (some (.ref f37))) (l37 : K.lookup f37 = some ⟨oc37, od37, .func (PySem.W.fnOf "_law_root" "_law_root" (defArgs s__law_root) (defBody s__law_root) (defScope s__law_root) .none kV37 dc37 pm37 an37 cd37 ct37), sl37⟩) (e37 : PySem.W.codeIn K cd37 "_law_root" = true) (k37 : PySem.W.keepIn K (.ref f37) = true)
    (a38 : PySem.W.nsIn K mainGlobals "_law_made" = some (some (.ref f38))) (l38 : K.lookup f38 = some ⟨oc38, od38, .func (PySem.W.fnOf "_law_made" "_law_made" (defArgs s__law_made) (defBody s__law_made) (defScope s__law_made) .none kV38 dc38 pm38 an38 cd38 ct38), sl38⟩) (e38 : PySem.W.codeIn K cd38 "_law_made" = true) (k38 : PySem.W.keepIn K (.ref f38) = true)
    (a39 : PySem.W.nsIn K mainGlobals "_law_signed" = some (some (.ref f39))) (l39 : K.lookup f39 = some ⟨oc39, od39, .func (PySem.W.fnOf "_law_signed" "_law_signed" (defArgs s__law_signed) (defBody s__law_signed) (defScope s__law_signed) .none kV39 dc39 pm39 an39 cd39 ct39), sl39⟩) (e39 : PySem.W.codeIn K cd39 "_law_signed" = true) (k39 : PySem.W.keepIn K (.ref f39) = true)
    (a40 : PySem.W.nsIn K mainGlobals "_law_end" = some (some (.ref f40))) (l40 : K.lookup f40 = some ⟨oc40, od40, .func (PySem.W.fnOf "_law_end" "_law_end" (defArgs s__law_end) (defBody s__law_end) (defScope s__law_end) .none kV40 dc40 pm40 an40 cd40 ct40), sl40⟩) (e40 : PySem.W.codeIn K cd40 "_law_end" = true) (k40 : PySem.W.keepIn K (.ref f40) = true)
    (a41 : PySem.W.nsIn K mainGlobals "_law_stands" = some (some (.ref f41))) (l41 : K.lookup f41 = some ⟨oc41, od41, .func (PySem.W.fnOf "_law_stands" "_law_stands" (defArgs s__law_stands) (defBody s__law_stands) (defScope s__law_stands) .none kV41 dc41 pm41 an41 cd41 ct41), sl41⟩) (e41 : PySem.W.codeIn K cd41 "_law_stands" = true) (k41 : PySem.W.keepIn K (.ref f41) = true)
    (a42 : PySem.W.nsIn K mainGlobals "in_wholes" = some (some (.ref f42))) (l42 : K.lookup f42 = some ⟨oc42, od42, .func (PySem.W.fnOf "in_wholes" "in_wholes" (defArgs s_in_wholes) (defBody s_in_wholes) (defScope s_in_wholes) .none kV42 dc42 pm42 an42 cd42 ct42), sl42⟩) (e42 : PySem.W.codeIn K cd42 "in_wholes" = true) (k42 : PySem.W.keepIn K (.ref f42) = true)
    (a43 : PySem.W.nsIn K mainGlobals "ground_end" = some (some (.ref f43))) (l43 : K.lookup f43 = some ⟨oc43, od43, .func (PySem.W.fnOf "ground_end" "ground_end" (defArgs s_ground_end) (defBody s_ground_end) (defScope s_ground_end) .none kV43 dc43 pm43 an43 cd43 ct43), sl43⟩) (e43 : PySem.W.codeIn K cd43 "ground_end" = true) (k43 : PySem.W.keepIn K (.ref f43) = true)
    (a44 : PySem.W.nsIn K mainGlobals "can_stand" = some (some (.ref f44))) (l44 : K.lookup f44 = some ⟨oc44, od44, .func (PySem.W.fnOf "can_stand" "can_stand" (defArgs s_can_stand) (defBody s_can_stand) (defScope s_can_stand) .none kV44 dc44 pm44 an44 cd44 ct44), sl44⟩) (e44 : PySem.W.codeIn K cd44 "can_stand" = true) (k44 : PySem.W.keepIn K (.ref f44) = true)
    (a45 : PySem.W.nsIn K mainGlobals "_law_most" = some (some (.ref f45))) (l45 : K.lookup f45 = some ⟨oc45, od45, .func (PySem.W.fnOf "_law_most" "_law_most" (defArgs s__law_most) (defBody s__law_most) (defScope s__law_most) .none kV45 dc45 pm45 an45 cd45 ct45), sl45⟩) (e45 : PySem.W.codeIn K cd45 "_law_most" = true) (k45 : PySem.W.keepIn K (.ref f45) = true)
    (a46 : PySem.W.nsIn K mainGlobals "_law_sorted" = some (some (.ref f46))) (l46 : K.lookup f46 = some ⟨oc46, od46, .func (PySem.W.fnOf "_law_sorted" "_law_sorted" (defArgs s__law_sorted) (defBody s__law_sorted) (defScope s__law_sorted) .none kV46 dc46 pm46 an46 cd46 ct46), sl46⟩) (e46 : PySem.W.codeIn K cd46 "_law_sorted" = true) (k46 : PySem.W.keepIn K (.ref f46) = true)
    (a47 : PySem.W.nsIn K mainGlobals "first_wrong" = some (some (.ref f47))) (l47 : K.lookup f47 = some ⟨oc47, od47, .func (PySem.W.fnOf "first_wrong" "first_wrong" (defArgs s_first_wrong) (defBody s_first_wrong) (defScope s_first_wrong) .none kV47 dc47 pm47 an47 cd47 ct47), sl47⟩) (e47 : PySem.W.codeIn K cd47 "first_wrong" = true) (k47 : PySem.W.keepIn K (.ref f47) = true)
    (a48 : PySem.W.nsIn K mainGlobals "square_of" = some (some (.ref f48))) (l48 : K.lookup f48 = some ⟨oc48, od48, .func (PySem.W.fnOf "square_of" "square_of" (defArgs s_square_of) (defBody s_square_of) (defScope s_square_of) .none kV48 dc48 pm48 an48 cd48 ct48), sl48⟩) (e48 : PySem.W.codeIn K cd48 "square_of" = true) (k48 : PySem.W.keepIn K (.ref f48) = true)
    (a49 : PySem.W.nsIn K mainGlobals "is_stand" = some (some (.ref f49))) (l49 : K.lookup f49 = some ⟨oc49, od49, .func (PySem.W.fnOf "is_stand" "is_stand" (defArgs s_is_stand) (defBody s_is_stand) (defScope s_is_stand) .none kV49 dc49 pm49 an49 cd49 ct49), sl49⟩) (e49 : PySem.W.codeIn K cd49 "is_stand" = true) (k49 : PySem.W.keepIn K (.ref f49) = true)
    (a50 : PySem.W.nsIn K mainGlobals "_law_add" = some (some (.ref f50))) (l50 : K.lookup f50 = some ⟨oc50, od50, .func (PySem.W.fnOf "_law_add" "_law_add" (defArgs s__law_add) (defBody s__law_add) (defScope s__law_add) .none kV50 dc50 pm50 an50 cd50 ct50), sl50⟩) (e50 : PySem.W.codeIn K cd50 "_law_add" = true) (k50 : PySem.W.keepIn K (.ref f50) = true)
    (a51 : PySem.W.nsIn K mainGlobals "_law_less" = some (some (.ref f51))) (l51 : K.lookup f51 = some ⟨oc51, od51, .func (PySem.W.fnOf "_law_less" "_law_less" (defArgs s__law_less) (defBody s__law_less) (defScope s__law_less) .none kV51 dc51 pm51 an51 cd51 ct51), sl51⟩) (e51 : PySem.W.codeIn K cd51 "_law_less" = true) (k51 : PySem.W.keepIn K (.ref f51) = true)
    (a52 : PySem.W.nsIn K mainGlobals "_law_multiply" = some (some (.ref f52))) (l52 : K.lookup f52 = some ⟨oc52, od52, .func (PySem.W.fnOf "_law_multiply" "_law_multiply" (defArgs s__law_multiply) (defBody s__law_multiply) (defScope s__law_multiply) .none kV52 dc52 pm52 an52 cd52 ct52), sl52⟩) (e52 : PySem.W.codeIn K cd52 "_law_multiply" = true) (k52 : PySem.W.keepIn K (.ref f52) = true)
    (a53 : PySem.W.nsIn K mainGlobals "_law_turned" = some (some (.ref f53))) (l53 : K.lookup f53 = some ⟨oc53, od53, .func (PySem.W.fnOf "_law_turned" "_law_turned" (defArgs s__law_turned) (defBody s__law_turned) (defScope s__law_turned) .none kV53 dc53 pm53 an53 cd53 ct53), sl53⟩) (e53 : PySem.W.codeIn K cd53 "_law_turned" = true) (k53 : PySem.W.keepIn K (.ref f53) = true)
    (a54 : PySem.W.nsIn K mainGlobals "_law_pairs" = some (some (.ref f54))) (l54 : K.lookup f54 = some ⟨oc54, od54, .func (PySem.W.fnOf "_law_pairs" "_law_pairs" (defArgs s__law_pairs) (defBody s__law_pairs) (defScope s__law_pairs) .none kV54 dc54 pm54 an54 cd54 ct54), sl54⟩) (e54 : PySem.W.codeIn K cd54 "_law_pairs" = true) (k54 : PySem.W.keepIn K (.ref f54) = true)
    (a55 : PySem.W.nsIn K mainGlobals "_law_due" = some (some (.ref f55))) (l55 : K.lookup f55 = some ⟨oc55, od55, .func (PySem.W.fnOf "_law_due" "_law_due" (defArgs s__law_due) (defBody s__law_due) (defScope s__law_due) .none kV55 dc55 pm55 an55 cd55 ct55), sl55⟩) (e55 : PySem.W.codeIn K cd55 "_law_due" = true) (k55 : PySem.W.keepIn K (.ref f55) = true)
    (a56 : PySem.W.nsIn K mainGlobals "_law_bent" = some (some (.ref f56))) (l56 : K.lookup f56 = some ⟨oc56, od56, .func (PySem.W.fnOf "_law_bent" "_law_bent" (defArgs s__law_bent) (defBody s__law_bent) (defScope s__law_bent) .none kV56 dc56 pm56 an56 cd56 ct56), sl56⟩) (e56 : PySem.W.codeIn K cd56 "_law_bent" = true) (k56 : PySem.W.keepIn K (.ref f56) = true)
    (a57 : PySem.W.nsIn K mainGlobals "law" = some (some (.ref f57))) (l57 : K.lookup f57 = some ⟨oc57, od57, .func (PySem.W.fnOf "law" "law" (defArgs s_law) (defBody s_law) (defScope s_law) .none kV57 dc57 pm57 an57 cd57 ct57), sl57⟩) (e57 : PySem.W.codeIn K cd57 "law" = true) (k57 : PySem.W.keepIn K (.ref f57) = true)
    (ag_START : PySem.W.nsIn K mainGlobals "START" = some (some (.ref p_START))) (lg_START : K.lookup p_START = some ⟨.type "tuple", od_START, .seq #[.ref p0_START, .ref p1_START] n_START, sl_START⟩) (lg0_START : K.lookup p0_START = some ⟨.type "tuple", od0_START, .seq #[.ref p0_0_START, .ref p1_0_START] n0_START, sl0_START⟩) (lg0_0_START : K.lookup p0_0_START = some ⟨.type "tuple", od0_0_START, .seq #[.int 0 t0_0_0_START, .int 1 t1_0_0_START] n0_0_START, sl0_0_START⟩) (lg1_0_START : K.lookup p1_0_START = some ⟨.type "tuple", od1_0_START, .seq #[.int 0 t0_1_0_START, .int 1 t1_1_0_START] n1_0_START, sl1_0_START⟩) (lg1_START : K.lookup p1_START = some ⟨.type "tuple", od1_START, .seq #[.ref p0_1_START, .ref p1_1_START] n1_START, sl1_START⟩) (lg0_1_START : K.lookup p0_1_START = some ⟨.type "tuple", od0_1_START, .seq #[.int 0 t0_0_1_START, .int 1 t1_0_1_START] n0_1_START, sl0_1_START⟩) (lg1_1_START : K.lookup p1_1_START = some ⟨.type "tuple", od1_1_START, .seq #[.int 0 t0_1_1_START, .int 1 t1_1_1_START] n1_1_START, sl1_1_START⟩)
    (ag_NOUGHT : PySem.W.nsIn K mainGlobals "NOUGHT" = some (some (.ref p_NOUGHT))) (lg_NOUGHT : K.lookup p_NOUGHT = some ⟨.type "tuple", od_NOUGHT, .seq #[.int 0 t0_NOUGHT, .int 1 t1_NOUGHT] n_NOUGHT, sl_NOUGHT⟩)
    (ac_NoField : PySem.W.nsIn K mainGlobals "NoField" = some (some (.ref cNoField)))
    (eq_NoField : PySem.W.excIn K cNoField [.type "ValueError", .type "Exception", .type "BaseException", .type "object"] "ValueError.__new__" = true)
    (xm_NoField : PySem.W.exmOne K (.ref cNoField) (.ref cNoField) = some true)
    (hTr : l.prog.given.tree = none)
    (y_abs : PySem.W.nsIn K mainGlobals "abs" = some none) (y_len : PySem.W.nsIn K mainGlobals "len" = some none) (y_range : PySem.W.nsIn K mainGlobals "range" = some none) (y_tuple : PySem.W.nsIn K mainGlobals "tuple" = some none) (y_int : PySem.W.nsIn K mainGlobals "int" = some none) (y_max : PySem.W.nsIn K mainGlobals "max" = some none) (y_sum : PySem.W.nsIn K mainGlobals "sum" = some none) (y_enumerate : PySem.W.nsIn K mainGlobals "enumerate" = some none) (y_min : PySem.W.nsIn K mainGlobals "min" = some none) (y_isinstance : PySem.W.nsIn K mainGlobals "isinstance" = some none) (y_bool : PySem.W.nsIn K mainGlobals "bool" = some none) :
    ∃ fd : FuncData, (∀ (s : Shared) (v : Value), BindsTo s fd ⟨[v], []⟩ [("script", v)]) ∧ ∀ base : Heap, K.In base → base.Ns mainGlobals mg → BltB mg base → PySem.W.CodeAll [] base → FnOk l.prog w K mg base CX0 43 fa fd ["script"] (spU K F_law) := by
  have e := hfa.symm.trans (PySem.W.mg_of X G a57)
  cases e
  have z_abs := PySem.W.mg_none_of X G y_abs
  have z_len := PySem.W.mg_none_of X G y_len
  have z_range := PySem.W.mg_none_of X G y_range
  have z_tuple := PySem.W.mg_none_of X G y_tuple
  have z_int := PySem.W.mg_none_of X G y_int
  have z_max := PySem.W.mg_none_of X G y_max
  have z_sum := PySem.W.mg_none_of X G y_sum
  have z_enumerate := PySem.W.mg_none_of X G y_enumerate
  have z_min := PySem.W.mg_none_of X G y_min
  have z_isinstance := PySem.W.mg_none_of X G y_isinstance
  have z_bool := PySem.W.mg_none_of X G y_bool
  have m_NoField := PySem.W.mg_of X G ac_NoField
  have g_START : GTup3 K mg "START" [[[0, 1], [0, 1]], [[0, 1], [0, 1]]] := ⟨p_START, _, _, _, PySem.W.mg_of X G ag_START, lg_START, rfl, rfl, Nat.le_of_ble_eq_true rfl, .cons lg0_START rfl rfl (Nat.le_of_ble_eq_true rfl) (.cons lg0_0_START rfl rfl (Nat.le_of_ble_eq_true rfl) (.cons ⟨_, rfl⟩ (.cons ⟨_, rfl⟩ (.nil))) (.cons lg1_0_START rfl rfl (Nat.le_of_ble_eq_true rfl) (.cons ⟨_, rfl⟩ (.cons ⟨_, rfl⟩ (.nil))) (.nil))) (.cons lg1_START rfl rfl (Nat.le_of_ble_eq_true rfl) (.cons lg0_1_START rfl rfl (Nat.le_of_ble_eq_true rfl) (.cons ⟨_, rfl⟩ (.cons ⟨_, rfl⟩ (.nil))) (.cons lg1_1_START rfl rfl (Nat.le_of_ble_eq_true rfl) (.cons ⟨_, rfl⟩ (.cons ⟨_, rfl⟩ (.nil))) (.nil))) (.nil))⟩
  have g_NOUGHT : GTup K mg "NOUGHT" [0, 1] := ⟨p_NOUGHT, _, _, _, PySem.W.mg_of X G ag_NOUGHT, lg_NOUGHT, rfl, rfl, Nat.le_of_ble_eq_true rfl, .cons ⟨_, rfl⟩ (.cons ⟨_, rfl⟩ (.nil))⟩
  have F1 := fun_mk (st := s_common_divisor) l1 e1 k1
  have b1 := F1.binds (ps := ["one", "other"]) fun _ _ _ _ _ _ us hl => match us, hl with | [_, _], _ => rfl
  have F2 := fun_mk (st := s_ratio) l2 e2 k2
  have b2 := F2.binds (ps := ["top", "bottom"]) fun _ _ _ _ _ _ us hl => match us, hl with | [_, _], _ => rfl
  have F3 := fun_mk (st := s_plus) l3 e3 k3
  have b3 := F3.binds (ps := ["one", "other"]) fun _ _ _ _ _ _ us hl => match us, hl with | [_, _], _ => rfl
  have F4 := fun_mk (st := s_times) l4 e4 k4
  have b4 := F4.binds (ps := ["one", "other"]) fun _ _ _ _ _ _ us hl => match us, hl with | [_, _], _ => rfl
  have F5 := fun_mk (st := s_over) l5 e5 k5
  have b5 := F5.binds (ps := ["one", "other"]) fun _ _ _ _ _ _ us hl => match us, hl with | [_, _], _ => rfl
  have F6 := fun_mk (st := s_negative) l6 e6 k6
  have b6 := F6.binds (ps := ["one"]) fun _ _ _ _ _ _ us hl => match us, hl with | [_], _ => rfl
  have F7 := fun_mk (st := s_without_sign) l7 e7 k7
  have b7 := F7.binds (ps := ["one"]) fun _ _ _ _ _ _ us hl => match us, hl with | [_], _ => rfl
  have F8 := fun_mk (st := s_whole_root) l8 e8 k8
  have b8 := F8.binds (ps := ["number"]) fun _ _ _ _ _ _ us hl => match us, hl with | [_], _ => rfl
  have F9 := fun_mk (st := s_square_root_or_none) l9 e9 k9
  have b9 := F9.binds (ps := ["number"]) fun _ _ _ _ _ _ us hl => match us, hl with | [_], _ => rfl
  have F10 := fun_mk (st := s_root_in) l10 e10 k10
  have b10 := F10.binds (ps := ["one"]) fun _ _ _ _ _ _ us hl => match us, hl with | [_], _ => rfl
  have F11 := fun_mk (st := s_is_plain) l11 e11 k11
  have b11 := F11.binds (ps := ["one"]) fun _ _ _ _ _ _ us hl => match us, hl with | [_], _ => rfl
  have F12 := fun_mk (st := s_with_sign_of) l12 e12 k12
  have b12 := F12.binds (ps := ["one", "other"]) fun _ _ _ _ _ _ us hl => match us, hl with | [_, _], _ => rfl
  have F13 := fun_mk (st := s_field_base) l13 e13 k13
  have b13 := F13.binds (ps := ["one", "other"]) fun _ _ _ _ _ _ us hl => match us, hl with | [_, _], _ => rfl
  have F14 := fun_mk (st := s_share) l14 e14 k14
  have b14 := F14.binds (ps := ["one", "base"]) fun _ _ _ _ _ _ us hl => match us, hl with | [_, _], _ => rfl
  have F15 := fun_mk (st := s_joined) l15 e15 k15
  have b15 := F15.binds (ps := ["part", "portion", "base"]) fun _ _ _ _ _ _ us hl => match us, hl with | [_, _, _], _ => rfl
  have F16 := fun_mk (st := s_root_negative) l16 e16 k16
  have b16 := F16.binds (ps := ["one"]) fun _ _ _ _ _ _ us hl => match us, hl with | [_], _ => rfl
  have F17 := fun_mk (st := s_root_plus) l17 e17 k17
  have b17 := F17.binds (ps := ["one", "other"]) fun _ _ _ _ _ _ us hl => match us, hl with | [_, _], _ => rfl
  have F18 := fun_mk (st := s_root_minus) l18 e18 k18
  have b18 := F18.binds (ps := ["one", "other"]) fun _ _ _ _ _ _ us hl => match us, hl with | [_, _], _ => rfl
  have F19 := fun_mk (st := s_root_times) l19 e19 k19
  have b19 := F19.binds (ps := ["one", "other"]) fun _ _ _ _ _ _ us hl => match us, hl with | [_, _], _ => rfl
  have F20 := fun_mk (st := s_way_between) l20 e20 k20
  have b20 := F20.binds (ps := ["one", "other"]) fun _ _ _ _ _ _ us hl => match us, hl with | [_, _], _ => rfl
  have F21 := fun_mk (st := s_square_of_way) l21 e21 k21
  have b21 := F21.binds (ps := ["way"]) fun _ _ _ _ _ _ us hl => match us, hl with | [_], _ => rfl
  have F22 := fun_mk (st := s_plain_point) l22 e22 k22
  have b22 := F22.binds (ps := ["place"]) fun _ _ _ _ _ _ us hl => match us, hl with | [_], _ => rfl
  have F23 := fun_mk (st := s_one_field) l23 e23 k23
  have b23 := F23.binds (ps := ["one", "other"]) fun _ _ _ _ _ _ us hl => match us, hl with | [_, _], _ => rfl
  have F24 := fun_mk (st := s_ask_one_field) l24 e24 k24
  have b24 := F24.binds (ps := ["points"]) fun _ _ _ _ _ _ us hl => match us, hl with | [_], _ => rfl
  have F25 := fun_mk (st := s__law_cell_at) l25 e25 k25
  have b25 := F25.binds (ps := ["script", "k"]) fun _ _ _ _ _ _ us hl => match us, hl with | [_, _], _ => rfl
  have F26 := fun_mk (st := s__law_state) l26 e26 k26
  have b26 := F26.binds (ps := ["script", "k"]) fun _ _ _ _ _ _ us hl => match us, hl with | [_, _], _ => rfl
  have F27 := fun_mk (st := s__law_take) l27 e27 k27
  have b27 := F27.binds (ps := ["state", "many"]) fun _ _ _ _ _ _ us hl => match us, hl with | [_, _], _ => rfl
  have F28 := fun_mk (st := s__law_divisor) l28 e28 k28
  have b28 := F28.binds (ps := ["one", "other"]) fun _ _ _ _ _ _ us hl => match us, hl with | [_, _], _ => rfl
  have F29 := fun_mk (st := s__law_ratio) l29 e29 k29
  have b29 := F29.binds (ps := ["top", "bottom"]) fun _ _ _ _ _ _ us hl => match us, hl with | [_, _], _ => rfl
  have F30 := fun_mk (st := s__law_times) l30 e30 k30
  have b30 := F30.binds (ps := ["one", "other"]) fun _ _ _ _ _ _ us hl => match us, hl with | [_, _], _ => rfl
  have F31 := fun_mk (st := s__law_plus) l31 e31 k31
  have b31 := F31.binds (ps := ["one", "other"]) fun _ _ _ _ _ _ us hl => match us, hl with | [_, _], _ => rfl
  have F32 := fun_mk (st := s__law_minus) l32 e32 k32
  have b32 := F32.binds (ps := ["one", "other"]) fun _ _ _ _ _ _ us hl => match us, hl with | [_, _], _ => rfl
  have F33 := fun_mk (st := s__law_over) l33 e33 k33
  have b33 := F33.binds (ps := ["one", "other"]) fun _ _ _ _ _ _ us hl => match us, hl with | [_, _], _ => rfl
  have F34 := fun_mk (st := s__law_fraction) l34 e34 k34
  have b34 := F34.binds (ps := ["state", "most"]) fun _ _ _ _ _ _ us hl => match us, hl with | [_, _], _ => rfl
  have F35 := fun_mk (st := s__law_drive) l35 e35 k35
  have b35 := F35.binds (ps := ["state"]) fun _ _ _ _ _ _ us hl => match us, hl with | [_], _ => rfl
  have F36 := fun_mk (st := s__law_rods) l36 e36 k36
  have b36 := F36.binds (ps := ["state"]) fun _ _ _ _ _ _ us hl => match us, hl with | [_], _ => rfl
  have F37 := fun_mk (st := s__law_root) l37 e37 k37
  have b37 := F37.binds (ps := ["number"]) fun _ _ _ _ _ _ us hl => match us, hl with | [_], _ => rfl
  have F38 := fun_mk (st := s__law_made) l38 e38 k38
  have b38 := F38.binds (ps := ["part", "under"]) fun _ _ _ _ _ _ us hl => match us, hl with | [_, _], _ => rfl
  have F39 := fun_mk (st := s__law_signed) l39 e39 k39
  have b39 := F39.binds (ps := ["number", "square"]) fun _ _ _ _ _ _ us hl => match us, hl with | [_, _], _ => rfl
  have F40 := fun_mk (st := s__law_end) l40 e40 k40
  have b40 := F40.binds (ps := ["rods", "drive"]) fun _ _ _ _ _ _ us hl => match us, hl with | [_, _], _ => rfl
  have F41 := fun_mk (st := s__law_stands) l41 e41 k41
  have b41 := F41.binds (ps := ["rods", "drive"]) fun _ _ _ _ _ _ us hl => match us, hl with | [_, _], _ => rfl
  have F42 := fun_mk (st := s_in_wholes) l42 e42 k42
  have b42 := F42.binds (ps := ["rods"]) fun _ _ _ _ _ _ us hl => match us, hl with | [_], _ => rfl
  have F43 := fun_mk (st := s_ground_end) l43 e43 k43
  have b43 := F43.binds (ps := ["rods"]) fun _ _ _ _ _ _ us hl => match us, hl with | [_], _ => rfl
  have F44 := fun_mk (st := s_can_stand) l44 e44 k44
  have b44 := F44.binds (ps := ["rods"]) fun _ _ _ _ _ _ us hl => match us, hl with | [_], _ => rfl
  have F45 := fun_mk (st := s__law_most) l45 e45 k45
  have b45 := F45.binds (ps := ["one", "other"]) fun _ _ _ _ _ _ us hl => match us, hl with | [_, _], _ => rfl
  have F46 := fun_mk (st := s__law_sorted) l46 e46 k46
  have b46 := F46.binds (ps := ["rods"]) fun _ _ _ _ _ _ us hl => match us, hl with | [_], _ => rfl
  have F47 := fun_mk (st := s_first_wrong) l47 e47 k47
  have b47 := F47.binds (ps := ["linkage", "place"]) fun _ _ _ _ _ _ us hl => match us, hl with | [_, _], _ => rfl
  have F48 := fun_mk (st := s_square_of) l48 e48 k48
  have b48 := F48.binds (ps := ["length"]) fun _ _ _ _ _ _ us hl => match us, hl with | [_], _ => rfl
  have F49 := fun_mk (st := s_is_stand) l49 e49 k49
  have b49 := F49.binds (ps := ["rods", "stand"]) fun _ _ _ _ _ _ us hl => match us, hl with | [_, _], _ => rfl
  have F50 := fun_mk (st := s__law_add) l50 e50 k50
  have b50 := F50.binds (ps := ["one", "other"]) fun _ _ _ _ _ _ us hl => match us, hl with | [_, _], _ => rfl
  have F51 := fun_mk (st := s__law_less) l51 e51 k51
  have b51 := F51.binds (ps := ["one", "other"]) fun _ _ _ _ _ _ us hl => match us, hl with | [_, _], _ => rfl
  have F52 := fun_mk (st := s__law_multiply) l52 e52 k52
  have b52 := F52.binds (ps := ["one", "other", "base"]) fun _ _ _ _ _ _ us hl => match us, hl with | [_, _, _], _ => rfl
  have F53 := fun_mk (st := s__law_turned) l53 e53 k53
  have b53 := F53.binds (ps := ["point"]) fun _ _ _ _ _ _ us hl => match us, hl with | [_], _ => rfl
  have F54 := fun_mk (st := s__law_pairs) l54 e54 k54
  have b54 := F54.binds (ps := ["pose"]) fun _ _ _ _ _ _ us hl => match us, hl with | [_], _ => rfl
  have F55 := fun_mk (st := s__law_due) l55 e55 k55
  have b55 := F55.binds (ps := ["rods", "pose"]) fun _ _ _ _ _ _ us hl => match us, hl with | [_, _], _ => rfl
  have F56 := fun_mk (st := s__law_bent) l56 e56 k56
  have b56 := F56.binds (ps := ["state", "pose"]) fun _ _ _ _ _ _ us hl => match us, hl with | [_, _], _ => rfl
  have F57 := fun_mk (st := s_law) l57 e57 k57
  have b57 := F57.binds (ps := ["script"]) fun _ _ _ _ _ _ us hl => match us, hl with | [_], _ => rfl
  refine ⟨PySem.W.fnOf "law" "law" (defArgs s_law) (defBody s_law) (defScope s_law) .none kV57 dc57 pm57 an57 cd57 ct57, fun s v => .of_eq rfl, fun base _ _ hBl hCA => ?_⟩
  have c_common_divisor : Own l.prog w K mg base "common_divisor" 1 F_common_divisor := Own.mk' F1 (ok_common_divisor F1 z_abs) (PySem.W.mg_of X G a1) b1
  have c_ratio : Own l.prog w K mg base "ratio" 34 F_ratio := Own.mk' F2 (ok_ratio F2 c_common_divisor hBl hTr) (PySem.W.mg_of X G a2) b2
  have c_plus : Own l.prog w K mg base "plus" 35 F_plus := Own.mk' F3 (ok_plus F3 c_ratio) (PySem.W.mg_of X G a3) b3
  have c_times : Own l.prog w K mg base "times" 35 F_times := Own.mk' F4 (ok_times F4 c_ratio) (PySem.W.mg_of X G a4) b4
  have c_over : Own l.prog w K mg base "over" 35 F_over := Own.mk' F5 (ok_over F5 c_ratio) (PySem.W.mg_of X G a5) b5
  have c_negative : Own l.prog w K mg base "negative" 1 F_negative := Own.mk' F6 (ok_negative F6 ) (PySem.W.mg_of X G a6) b6
  have c_without_sign : Own l.prog w K mg base "without_sign" 1 F_without_sign := Own.mk' F7 (ok_without_sign F7 z_abs) (PySem.W.mg_of X G a7) b7
  have c_whole_root : Own l.prog w K mg base "whole_root" 34 F_whole_root := Own.mk' F8 (ok_whole_root F8 hBl hTr) (PySem.W.mg_of X G a8) b8
  have c_square_root_or_none : Own l.prog w K mg base "square_root_or_none" 35 F_square_root_or_none := Own.mk' F9 (ok_square_root_or_none F9 c_whole_root) (PySem.W.mg_of X G a9) b9
  have c_root_in : Own l.prog w K mg base "root_in" 36 F_root_in := Own.mk' F10 (ok_root_in F10 c_square_root_or_none) (PySem.W.mg_of X G a10) b10
  have c_is_plain : Own l.prog w K mg base "is_plain" 1 F_is_plain := Own.mk' F11 (ok_is_plain F11 ) (PySem.W.mg_of X G a11) b11
  have c_with_sign_of : Own l.prog w K mg base "with_sign_of" 2 F_with_sign_of := Own.mk' F12 (ok_with_sign_of F12 c_negative) (PySem.W.mg_of X G a12) b12
  have c_field_base : Own l.prog w K mg base "field_base" 2 F_field_base := Own.mk' F13 (ok_field_base F13 c_without_sign c_is_plain) (PySem.W.mg_of X G a13) b13
  have c_share : Own l.prog w K mg base "share" 37 F_share := Own.mk' F14 (ok_share F14 c_is_plain c_root_in c_over c_without_sign c_with_sign_of g_NOUGHT) (PySem.W.mg_of X G a14) b14
  have c_joined : Own l.prog w K mg base "joined" 36 F_joined := Own.mk' F15 (ok_joined F15 c_times c_with_sign_of) (PySem.W.mg_of X G a15) b15
  have c_root_negative : Own l.prog w K mg base "root_negative" 2 F_root_negative := Own.mk' F16 (ok_root_negative F16 c_negative) (PySem.W.mg_of X G a16) b16
  have c_root_plus : Own l.prog w K mg base "root_plus" 38 F_root_plus := Own.mk' F17 (ok_root_plus F17 c_field_base c_plus c_share c_joined) (PySem.W.mg_of X G a17) b17
  have c_root_minus : Own l.prog w K mg base "root_minus" 39 F_root_minus := Own.mk' F18 (ok_root_minus F18 c_root_plus c_root_negative) (PySem.W.mg_of X G a18) b18
  have c_root_times : Own l.prog w K mg base "root_times" 38 F_root_times := Own.mk' F19 (ok_root_times F19 c_field_base c_share c_plus c_times c_joined) (PySem.W.mg_of X G a19) b19
  have c_way_between : Own l.prog w K mg base "way_between" 40 F_way_between := Own.mk' F20 (ok_way_between F20 c_root_minus) (PySem.W.mg_of X G a20) b20
  have c_square_of_way : Own l.prog w K mg base "square_of_way" 39 F_square_of_way := Own.mk' F21 (ok_square_of_way F21 c_root_plus c_root_times) (PySem.W.mg_of X G a21) b21
  have c_plain_point : Own l.prog w K mg base "plain_point" 1 F_plain_point := Own.mk' F22 (ok_plain_point F22 g_NOUGHT) (PySem.W.mg_of X G a22) b22
  have c_one_field : Own l.prog w K mg base "one_field" 37 F_one_field := Own.mk' F23 (ok_one_field F23 c_is_plain c_root_in c_over c_without_sign) (PySem.W.mg_of X G a23) b23
  have c_ask_one_field : Own l.prog w K mg base "ask_one_field" 38 F_ask_one_field := Own.mk' F24 (ok_ask_one_field F24 c_is_plain c_one_field) (PySem.W.mg_of X G a24) b24
  have cx_ask_one_field : OwnX l.prog w K mg base "ask_one_field" 38 (FX_ask_one_field cNoField) := OwnX.mk' F24 (okx_ask_one_field F24 c_one_field c_is_plain m_NoField eq_NoField) (PySem.W.mg_of X G a24) b24
  have c__law_cell_at : Own l.prog w K mg base "_law_cell_at" 1 F__law_cell_at := Own.mk' F25 (ok__law_cell_at F25 z_len) (PySem.W.mg_of X G a25) b25
  have c__law_state : Own l.prog w K mg base "_law_state" 2 F__law_state := Own.mk' F26 (ok__law_state F26 c__law_cell_at) (PySem.W.mg_of X G a26) b26
  have c__law_take : Own l.prog w K mg base "_law_take" 1 F__law_take := Own.mk' F27 (ok__law_take F27 ) (PySem.W.mg_of X G a27) b27
  have c__law_divisor : Own l.prog w K mg base "_law_divisor" 1 F__law_divisor := Own.mk' F28 (ok__law_divisor F28 z_abs) (PySem.W.mg_of X G a28) b28
  have c__law_ratio : Own l.prog w K mg base "_law_ratio" 34 F__law_ratio := Own.mk' F29 (ok__law_ratio F29 c__law_divisor hBl hTr) (PySem.W.mg_of X G a29) b29
  have c__law_times : Own l.prog w K mg base "_law_times" 35 F__law_times := Own.mk' F30 (ok__law_times F30 c__law_ratio) (PySem.W.mg_of X G a30) b30
  have c__law_plus : Own l.prog w K mg base "_law_plus" 35 F__law_plus := Own.mk' F31 (ok__law_plus F31 c__law_ratio) (PySem.W.mg_of X G a31) b31
  have c__law_minus : Own l.prog w K mg base "_law_minus" 35 F__law_minus := Own.mk' F32 (ok__law_minus F32 c__law_ratio) (PySem.W.mg_of X G a32) b32
  have c__law_over : Own l.prog w K mg base "_law_over" 35 F__law_over := Own.mk' F33 (ok__law_over F33 c__law_ratio) (PySem.W.mg_of X G a33) b33
  have c__law_fraction : Own l.prog w K mg base "_law_fraction" 35 F__law_fraction := Own.mk' F34 (ok__law_fraction F34 c__law_ratio c__law_take) (PySem.W.mg_of X G a34) b34
  have c__law_drive : Own l.prog w K mg base "_law_drive" 36 F__law_drive := Own.mk' F35 (ok__law_drive F35 c__law_take c__law_fraction) (PySem.W.mg_of X G a35) b35
  have c__law_rods : Own l.prog w K mg base "_law_rods" 36 F__law_rods := Own.mk' F36 (ok__law_rods F36 c__law_ratio c__law_take c__law_plus c__law_minus z_range z_tuple) (PySem.W.mg_of X G a36) b36
  have c__law_root : Own l.prog w K mg base "_law_root" 1 F__law_root := Own.mk' F37 (ok__law_root F37 ) (PySem.W.mg_of X G a37) b37
  have c__law_made : Own l.prog w K mg base "_law_made" 36 F__law_made := Own.mk' F38 (ok__law_made F38 c__law_root c__law_plus c__law_ratio z_abs z_int) (PySem.W.mg_of X G a38) b38
  have c__law_signed : Own l.prog w K mg base "_law_signed" 36 F__law_signed := Own.mk' F39 (ok__law_signed F39 c__law_times z_abs) (PySem.W.mg_of X G a39) b39
  have c__law_end : Own l.prog w K mg base "_law_end" 36 F__law_end := Own.mk' F40 (ok__law_end F40 c__law_times c__law_over c__law_plus c__law_minus) (PySem.W.mg_of X G a40) b40
  have c__law_stands : Own l.prog w K mg base "_law_stands" 37 F__law_stands := Own.mk' F41 (ok__law_stands F41 c__law_end c__law_minus c__law_plus c__law_times c__law_over c__law_made c__law_signed z_range z_int z_tuple) (PySem.W.mg_of X G a41) b41
  have c_in_wholes : Own l.prog w K mg base "in_wholes" 1 F_in_wholes := Own.mk' F42 (ok_in_wholes F42 ) (PySem.W.mg_of X G a42) b42
  have c_ground_end : Own l.prog w K mg base "ground_end" 2 F_ground_end := Own.mk' F43 (ok_ground_end F43 c_plain_point g_NOUGHT) (PySem.W.mg_of X G a43) b43
  have c_can_stand : Own l.prog w K mg base "can_stand" 2 F_can_stand := Own.mk' F44 (ok_can_stand F44 c_in_wholes z_max z_sum) (PySem.W.mg_of X G a44) b44
  have c__law_most : Own l.prog w K mg base "_law_most" 36 F__law_most := Own.mk' F45 (ok__law_most F45 c__law_minus) (PySem.W.mg_of X G a45) b45
  have c__law_sorted : Own l.prog w K mg base "_law_sorted" 37 F__law_sorted := Own.mk' F46 (ok__law_sorted F46 c__law_most z_len) (PySem.W.mg_of X G a46) b46
  have c_first_wrong : Own l.prog w K mg base "first_wrong" 41 F_first_wrong := Own.mk' F47 (ok_first_wrong F47 c_ask_one_field c_square_of_way c_way_between z_enumerate g_NOUGHT) (PySem.W.mg_of X G a47) b47
  have cx_first_wrong : OwnX l.prog w K mg base "first_wrong" 41 (FX_first_wrong cNoField) := OwnX.mk' F47 (okx_first_wrong F47 c_square_of_way c_way_between cx_ask_one_field z_enumerate g_NOUGHT) (PySem.W.mg_of X G a47) b47
  have c_square_of : Own l.prog w K mg base "square_of" 36 F_square_of := Own.mk' F48 (ok_square_of F48 c_times) (PySem.W.mg_of X G a48) b48
  have c_is_stand : Own l.prog w K mg base "is_stand" 42 F_is_stand := Own.mk' F49 (ok_is_stand F49 c_square_of c_ground_end cx_first_wrong g_START m_NoField xm_NoField) (PySem.W.mg_of X G a49) b49
  have c__law_add : Own l.prog w K mg base "_law_add" 36 F__law_add := Own.mk' F50 (ok__law_add F50 c__law_plus) (PySem.W.mg_of X G a50) b50
  have c__law_less : Own l.prog w K mg base "_law_less" 36 F__law_less := Own.mk' F51 (ok__law_less F51 c__law_minus) (PySem.W.mg_of X G a51) b51
  have c__law_multiply : Own l.prog w K mg base "_law_multiply" 36 F__law_multiply := Own.mk' F52 (ok__law_multiply F52 c__law_plus c__law_times) (PySem.W.mg_of X G a52) b52
  have c__law_turned : Own l.prog w K mg base "_law_turned" 1 F__law_turned := Own.mk' F53 (ok__law_turned F53 ) (PySem.W.mg_of X G a53) b53
  have c__law_pairs : Own l.prog w K mg base "_law_pairs" 37 F__law_pairs := Own.mk' F54 (ok__law_pairs F54 c__law_made c__law_over z_abs) (PySem.W.mg_of X G a54) b54
  have c__law_due : Own l.prog w K mg base "_law_due" 38 F__law_due := Own.mk' F55 (ok__law_due F55 c__law_pairs c__law_less c__law_add c__law_multiply c__law_times z_range) (PySem.W.mg_of X G a55) b55
  have c__law_bent : Own l.prog w K mg base "_law_bent" 36 F__law_bent := Own.mk' F56 (ok__law_bent F56 c__law_take c__law_plus c__law_turned z_tuple) (PySem.W.mg_of X G a56) b56
  exact ok_law F57 c__law_state c__law_rods c__law_sorted c__law_plus c_can_stand c__law_most c__law_stands c__law_drive c__law_turned c_is_stand c__law_bent c__law_due z_range z_max z_min z_len z_isinstance z_bool z_tuple
theorem walk {l : PySem.W.OpenLaw} {q : Program} {loose : List Str} {XP : (Str → Option Value) → Heap → Prop} {YP : World → Heap → Prop} {d : DefRec} {K : Params → Fg} (himp : importsNone q = true) (hn : l.most = some 63) (hdf : d.params.defaults = [])
    (hY : ∀ (w : World) (h : Heap), YP w h → (K w.params).In h)
    (hnK : ∀ w : World, PySem.W.noTabs (K w.params) = true) (hT : ∀ (w : World) (h : Heap), YP w h → PySem.W.TabsAt [] h)
    (F : ∀ (w : World) (mg : Str → Option Value) (fa : Addr) (h : Heap), (K w.params).In h → h.Ns mainGlobals mg → mg d.name = some (.ref fa) →
      ∃ fd : FuncData, (∀ (s : Shared) (u : Value), BindsTo s fd ⟨[u], []⟩ [("script", u)]) ∧ ∀ base : Heap, (K w.params).In base → base.Ns mainGlobals mg → BltB mg base → PySem.W.CodeAll [] base → FnOk l.prog w (K w.params) mg base CX0 43 fa fd ["script"] (spU (K w.params) F_law)) :
    PySem.W.WalkO q loose XP YP l.row.toRowW d [] (fun f vs => PySem.call f vs) :=
  L2.walk_ofT (n := 63) (k := 43) (x := "script") (CX := fun _ => CX0) (sp := fun w => spU (K w.params) F_law) himp hn (by decide) hdf ⟨rfl, by decide, by decide⟩ hY hnK hT F
    (fun w H a ns hl ho hS => DL.law_upT (tq := []) ho hS (by simp) (law_ask  ns hl)) fun _ _ _ _ _ z => z
end My
open PySem PySem.W PyProof.Rows
set_option maxRecDepth 100000 in
set_option maxHeartbeats 0 in
theorem PySem.Challenge.cw_hingedraw_k51_four_rods_and_stands_holds : PySem.Challenge.rw_hingedraw_k51_four_rods_and_stands.Holds := by
  w_on; o_law; k_head; (case hw => w_witness2)
  k_fill
  refine My.walk (l := PySem.Challenge.rw_hingedraw_k51_four_rods_and_stands) ?imp rfl rfl (fun w h Y => PySem.W.kIn_of Y) ?nK ?xs ?F
  case imp => kernel_rfl
  case nK => intro w; kernel_rfl
  case xs => intro w h Y; exact fun _ h => nomatch h
  case F =>
    intro w mg fa h KX G hmg
    refine' My.all_mk KX G hmg ?a1 ?l1 ?e1 ?k1 ?a2 ?l2 ?e2 ?k2 ?a3 ?l3 ?e3 ?k3 ?a4 ?l4 ?e4 ?k4 ?a5 ?l5 ?e5 ?k5 ?a6 ?l6 ?e6 ?k6 ?a7 ?l7 ?e7 ?k7 ?a8 ?l8 ?e8 ?k8 ?a9 ?l9 ?e9 ?k9 ?a10 ?l10 ?e10 ?k10 ?a11 ?l11 ?e11 ?k11 ?a12 ?l12 ?e12 ?k12 ?a13 ?l13 ?e13 ?k13 ?a14 ?l14 ?e14 ?k14 ?a15 ?l15 ?e15 ?k15 ?a16 ?l16 ?e16 ?k16 ?a17 ?l17 ?e17 ?k17 ?a18 ?l18 ?e18 ?k18 ?a19 ?l19 ?e19 ?k19 ?a20 ?l20 ?e20 ?k20 ?a21 ?l21 ?e21 ?k21 ?a22 ?l22 ?e22 ?k22 ?a23 ?l23 ?e23 ?k23 ?a24 ?l24 ?e24 ?k24 ?a25 ?l25 ?e25 ?k25 ?a26 ?l26 ?e26 ?k26 ?a27 ?l27 ?e27 ?k27 ?a28 ?l28 ?e28 ?k28 ?a29 ?l29 ?e29 ?k29 ?a30 ?l30 ?e30 ?k30 ?a31 ?l31 ?e31 ?k31 ?a32 ?l32 ?e32 ?k32 ?a33 ?l33 ?e33 ?k33 ?a34 ?l34 ?e34 ?k34 ?a35 ?l35 ?e35 ?k35 ?a36 ?l36 ?e36 ?k36 ?a37 ?l37 ?e37 ?k37 ?a38 ?l38 ?e38 ?k38 ?a39 ?l39 ?e39 ?k39 ?a40 ?l40 ?e40 ?k40 ?a41 ?l41 ?e41 ?k41 ?a42 ?l42 ?e42 ?k42 ?a43 ?l43 ?e43 ?k43 ?a44 ?l44 ?e44 ?k44 ?a45 ?l45 ?e45 ?k45 ?a46 ?l46 ?e46 ?k46 ?a47 ?l47 ?e47 ?k47 ?a48 ?l48 ?e48 ?k48 ?a49 ?l49 ?e49 ?k49 ?a50 ?l50 ?e50 ?k50 ?a51 ?l51 ?e51 ?k51 ?a52 ?l52 ?e52 ?k52 ?a53 ?l53 ?e53 ?k53 ?a54 ?l54 ?e54 ?k54 ?a55 ?l55 ?e55 ?k55 ?a56 ?l56 ?e56 ?k56 ?a57 ?l57 ?e57 ?k57 ?ag_START ?lg_START ?lg0_START ?lg0_0_START ?lg1_0_START ?lg1_START ?lg0_1_START ?lg1_1_START ?ag_NOUGHT ?lg_NOUGHT ?ac_NoField ?eq_NoField ?xm_NoField ?hTr ?y_abs ?y_len ?y_range ?y_tuple ?y_int ?y_max ?y_sum ?y_enumerate ?y_min ?y_isinstance ?y_bool
    (case a1 => k_is)
    (case l1 => k_is)
    (case e1 => k_is)
    (case k1 => k_is)
    (case a2 => k_is)
    (case l2 => k_is)
    (case e2 => k_is)
    (case k2 => k_is)
    (case a3 => k_is)
    (case l3 => k_is)
    (case e3 => k_is)
    (case k3 => k_is)
    (case a4 => k_is)
    (case l4 => k_is)
    (case e4 => k_is)
    (case k4 => k_is)
    (case a5 => k_is)
    (case l5 => k_is)
    (case e5 => k_is)
    (case k5 => k_is)
    (case a6 => k_is)
    (case l6 => k_is)
    (case e6 => k_is)
    (case k6 => k_is)
    (case a7 => k_is)
    (case l7 => k_is)
    (case e7 => k_is)
    (case k7 => k_is)
    (case a8 => k_is)
    (case l8 => k_is)
    (case e8 => k_is)
    (case k8 => k_is)
    (case a9 => k_is)
    (case l9 => k_is)
    (case e9 => k_is)
    (case k9 => k_is)
    (case a10 => k_is)
    (case l10 => k_is)
    (case e10 => k_is)
    (case k10 => k_is)
    (case a11 => k_is)
    (case l11 => k_is)
    (case e11 => k_is)
    (case k11 => k_is)
    (case a12 => k_is)
    (case l12 => k_is)
    (case e12 => k_is)
    (case k12 => k_is)
    (case a13 => k_is)
    (case l13 => k_is)
    (case e13 => k_is)
    (case k13 => k_is)
    (case a14 => k_is)
    (case l14 => k_is)
    (case e14 => k_is)
    (case k14 => k_is)
    (case a15 => k_is)
    (case l15 => k_is)
    (case e15 => k_is)
    (case k15 => k_is)
    (case a16 => k_is)
    (case l16 => k_is)
    (case e16 => k_is)
    (case k16 => k_is)
    (case a17 => k_is)
    (case l17 => k_is)
    (case e17 => k_is)
    (case k17 => k_is)
    (case a18 => k_is)
    (case l18 => k_is)
    (case e18 => k_is)
    (case k18 => k_is)
    (case a19 => k_is)
    (case l19 => k_is)
    (case e19 => k_is)
    (case k19 => k_is)
    (case a20 => k_is)
    (case l20 => k_is)
    (case e20 => k_is)
    (case k20 => k_is)
    (case a21 => k_is)
    (case l21 => k_is)
    (case e21 => k_is)
    (case k21 => k_is)
    (case a22 => k_is)
    (case l22 => k_is)
    (case e22 => k_is)
    (case k22 => k_is)
    (case a23 => k_is)
    (case l23 => k_is)
    (case e23 => k_is)
    (case k23 => k_is)
    (case a24 => k_is)
    (case l24 => k_is)
    (case e24 => k_is)
    (case k24 => k_is)
    (case a25 => k_is)
    (case l25 => k_is)
    (case e25 => k_is)
    (case k25 => k_is)
    (case a26 => k_is)
    (case l26 => k_is)
    (case e26 => k_is)
    (case k26 => k_is)
    (case a27 => k_is)
    (case l27 => k_is)
    (case e27 => k_is)
    (case k27 => k_is)
    (case a28 => k_is)
    (case l28 => k_is)
    (case e28 => k_is)
    (case k28 => k_is)
    (case a29 => k_is)
    (case l29 => k_is)
    (case e29 => k_is)
    (case k29 => k_is)
    (case a30 => k_is)
    (case l30 => k_is)
    (case e30 => k_is)
    (case k30 => k_is)
    (case a31 => k_is)
    (case l31 => k_is)
    (case e31 => k_is)
    (case k31 => k_is)
    (case a32 => k_is)
    (case l32 => k_is)
    (case e32 => k_is)
    (case k32 => k_is)
    (case a33 => k_is)
    (case l33 => k_is)
    (case e33 => k_is)
    (case k33 => k_is)
    (case a34 => k_is)
    (case l34 => k_is)
    (case e34 => k_is)
    (case k34 => k_is)
    (case a35 => k_is)
    (case l35 => k_is)
    (case e35 => k_is)
    (case k35 => k_is)
    (case a36 => k_is)
    (case l36 => k_is)
    (case e36 => k_is)
    (case k36 => k_is)
    (case a37 => k_is)
    (case l37 => k_is)
    (case e37 => k_is)
    (case k37 => k_is)
    (case a38 => k_is)
    (case l38 => k_is)
    (case e38 => k_is)
    (case k38 => k_is)
    (case a39 => k_is)
    (case l39 => k_is)
    (case e39 => k_is)
    (case k39 => k_is)
    (case a40 => k_is)
    (case l40 => k_is)
    (case e40 => k_is)
    (case k40 => k_is)
    (case a41 => k_is)
    (case l41 => k_is)
    (case e41 => k_is)
    (case k41 => k_is)
    (case a42 => k_is)
    (case l42 => k_is)
    (case e42 => k_is)
    (case k42 => k_is)
    (case a43 => k_is)
    (case l43 => k_is)
    (case e43 => k_is)
    (case k43 => k_is)
    (case a44 => k_is)
    (case l44 => k_is)
    (case e44 => k_is)
    (case k44 => k_is)
    (case a45 => k_is)
    (case l45 => k_is)
    (case e45 => k_is)
    (case k45 => k_is)
    (case a46 => k_is)
    (case l46 => k_is)
    (case e46 => k_is)
    (case k46 => k_is)
    (case a47 => k_is)
    (case l47 => k_is)
    (case e47 => k_is)
    (case k47 => k_is)
    (case a48 => k_is)
    (case l48 => k_is)
    (case e48 => k_is)
    (case k48 => k_is)
    (case a49 => k_is)
    (case l49 => k_is)
    (case e49 => k_is)
    (case k49 => k_is)
    (case a50 => k_is)
    (case l50 => k_is)
    (case e50 => k_is)
    (case k50 => k_is)
    (case a51 => k_is)
    (case l51 => k_is)
    (case e51 => k_is)
    (case k51 => k_is)
    (case a52 => k_is)
    (case l52 => k_is)
    (case e52 => k_is)
    (case k52 => k_is)
    (case a53 => k_is)
    (case l53 => k_is)
    (case e53 => k_is)
    (case k53 => k_is)
    (case a54 => k_is)
    (case l54 => k_is)
    (case e54 => k_is)
    (case k54 => k_is)
    (case a55 => k_is)
    (case l55 => k_is)
    (case e55 => k_is)
    (case k55 => k_is)
    (case a56 => k_is)
    (case l56 => k_is)
    (case e56 => k_is)
    (case k56 => k_is)
    (case a57 => k_is)
    (case l57 => k_is)
    (case e57 => k_is)
    (case k57 => k_is)
    (case ag_START => k_is)
    (case lg_START => k_is)
    (case lg0_START => k_is)
    (case lg0_0_START => k_is)
    (case lg1_0_START => k_is)
    (case lg1_START => k_is)
    (case lg0_1_START => k_is)
    (case lg1_1_START => k_is)
    (case ag_NOUGHT => k_is)
    (case lg_NOUGHT => k_is)
    (case ac_NoField => k_is)
    (case eq_NoField => kernel_rfl)
    (case xm_NoField => kernel_rfl)
    (case hTr => exact rfl)
    (case y_abs => k_is)
    (case y_len => k_is)
    (case y_range => k_is)
    (case y_tuple => k_is)
    (case y_int => k_is)
    (case y_max => k_is)
    (case y_sum => k_is)
    (case y_enumerate => k_is)
    (case y_min => k_is)
    (case y_isinstance => k_is)
    (case y_bool => k_is)
