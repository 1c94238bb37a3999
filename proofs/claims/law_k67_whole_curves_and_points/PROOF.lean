import PyProof.Rows.All
import Wide.All
import OpenK.AllK
import Wide.FinOn
import Lean
import PyProof.EqAt
import PyProof.EqKinds
import PyProof.TupleCall
import PySem.Challenge.RW_hingedraw_k67_whole_curves_and_points
set_option Elab.async false
set_option linter.all false
set_option maxRecDepth 100000
set_option Elab.async false
set_option linter.all false
set_option maxRecDepth 100000
namespace L2
open PySem PySem.Spec PyProof.Rows
abbrev Key:=Sum Int Str
def keyIs:Key->Value->Bool
 | .inl k,v=>Value.isInt k v
 | .inr x,v=>Value.isStrOf x v
def keyH (w:World):Key->Int
 | .inl k=>hashInt k
 | .inr x=>hashStr w x
theorem keyIs_shape:∀ {k:Key} {v:Value},keyIs k v=true->(∃ i t,k=Sum.inl i/\v=Value.int i t)\/(∃ x t,k=Sum.inr x/\v=Value.str x t)
 | .inl i,v,h=>by
  obtain⟨t,e⟩:=Value.isInt_shape (k:=i) (v:=v) h
  exact .inl ⟨i,t,rfl,e⟩
 | .inr x,v,h=>by
  obtain⟨t,e⟩:=Value.isStrOf_shape (x:=x) (v:=v) h
  exact .inr ⟨x,t,rfl,e⟩
theorem keyIs_int (i:Int) (t:Tok):keyIs (.inl i) (.int i t)=true:=by simp [keyIs,Value.isInt]
theorem keyIs_str (x:Str) (t:Tok):keyIs (.inr x) (.str x t)=true:=by simp [keyIs,Value.isStrOf]
theorem key_ll (a b:Int):decide ((Sum.inl a:Key)=Sum.inl b)=(a == b):=by
 by_cases e:a=b
 ·subst e; simp
 ·have h:¬ (Sum.inl a:Key)=Sum.inl b:=fun q=>e (Sum.inl.inj q)
  rw [decide_eq_false h]
  exact(beq_eq_false_iff_ne.mpr e).symm
theorem key_rr (a b:Str):decide ((Sum.inr a:Key)=Sum.inr b)=decide (a=b):=by
 by_cases e:a=b
 ·subst e; simp
 ·have h:¬ (Sum.inr a:Key)=Sum.inr b:=fun q=>e (Sum.inr.inj q)
  rw [decide_eq_false h,decide_eq_false e]
theorem key_lr (a:Int) (b:Str):decide ((Sum.inl a:Key)=Sum.inr b)=false:=decide_eq_false (fun q=>nomatch q)
theorem key_rl (a:Str) (b:Int):decide ((Sum.inr a:Key)=Sum.inl b)=false:=decide_eq_false (fun q=>nomatch q)
def mixKind (prog:Program) (w:World):PySem.KeyKind prog w Key where
 is:=keyIs
 hash:=keyH w
 inj:=fun v a b ha hb=>by
  rcases keyIs_shape ha with ⟨i,t,rfl,rfl⟩ | ⟨x,t,rfl,rfl⟩
  ·rcases keyIs_shape hb with ⟨j,u,rfl,e⟩ | ⟨y,u,rfl,e⟩
   ·injection e with e1 _; rw [e1]
   ·exact nomatch e
  ·rcases keyIs_shape hb with ⟨j,u,rfl,e⟩ | ⟨y,u,rfl,e⟩
   ·exact nomatch e
   ·injection e with e1 _; rw [e1]
 byValue:=fun k v h=>by
  rcases keyIs_shape h with ⟨i,t,rfl,rfl⟩ | ⟨x,t,rfl,rfl⟩ <;> rfl
 pyHash:=fun hv h=>by
  rcases keyIs_shape hv with ⟨i,t,rfl,rfl⟩ | ⟨x,t,rfl,rfl⟩
  ·exact wpAny_pyHash_int h
  ·exact wpAny_pyHash_str h
 eqBool:=fun hu hv h=>by
  rcases keyIs_shape hu with ⟨i,t,rfl,rfl⟩ | ⟨x,t,rfl,rfl⟩
  ·rcases keyIs_shape hv with ⟨j,u,rfl,rfl⟩ | ⟨y,u,rfl,rfl⟩
   ·rw [key_ll] at h; exact wpAny_eqBool_int h
   ·rw [key_lr] at h; exact SeqAt.EqAt.int_str i t y u _ _ _ _ h
  ·rcases keyIs_shape hv with ⟨j,u,rfl,rfl⟩ | ⟨y,u,rfl,rfl⟩
   ·rw [key_rl] at h; exact SeqAt.EqAt.str_int x t j u _ _ _ _ h
   ·rw [key_rr] at h; exact wpAny_eqBool_str h
 «strs»:=fun k x t v h=>by
  rcases keyIs_shape h with ⟨i,u,rfl,e⟩ | ⟨y,u,rfl,e⟩
  ·exact nomatch e
  ·injection e with e1 _
   subst e1
   cases v <;> rfl
theorem mixKind_int (prog:Program) (w:World) (i:Int) (t:Tok):(mixKind prog w).is (.inl i) (.int i t)=true:=keyIs_int i t
theorem mixKind_str (prog:Program) (w:World) (x:Str) (t:Tok):(mixKind prog w).is (.inr x) (.str x t)=true:=keyIs_str x t
inductive V where
 | non | bl (b:Bool) | int (i:Int) | str (x:Str) | byt (b:Array UInt8) | flt (b:UInt64) | ref (a:Addr) | ty (n:String)
 deriving DecidableEq
def RelV:V->Value->Prop
 | .non,u=>u=Value.none
 | .bl b,u=>u=Value.bool b
 | .int i,u=>∃ t,u=Value.int i t
 | .str x,u=>∃ t,u=Value.str x t
 | .byt b,u=>∃ t,u=Value.bytes b t
 | .flt b,u=>∃ t,u=Value.float b t
 | .ref a,u=>u=Value.ref a
 | .ty n,u=>u=Value.type n
abbrev Vals:List V->List Value->Prop:=Paired RelV
theorem Vals.length {xs:List V} {us:List Value} (r:Vals xs us):xs.length=us.length:=Paired.length r
theorem Vals.get:∀ {xs:List V} {us:List Value} {i:Nat} {x:V},Vals xs us->xs[i]?=some x->∃ u,us[i]?=some u/\RelV x u
 | _,_,_,_,.nil,e=>by simp at e
 | _,_,0,_,.cons r _,e=>by simp at e; subst e; exact⟨_,rfl,r⟩
 | _,_,i+1,x,.cons _ t,e=>by
  obtain⟨u,h1,h2⟩:=Vals.get (i:=i) (x:=x) t (by simpa using e)
  exact⟨u,by simpa using h1,h2⟩
theorem Vals.set {x:V} {u:Value} (r:RelV x u):∀ {xs:List V} {us:List Value} (i:Nat),Vals xs us->Vals (xs.set i x) (us.set i u)
 | _,_,_,.nil=>.nil
 | _,_,0,.cons _ t=>.cons r t
 | _,_,i+1,.cons q t=>.cons q (Vals.set r i t)
theorem Vals.append:∀ {xs ys:List V} {us ws:List Value},Vals xs us->Vals ys ws->Vals (xs++ys) (us++ws)
 | _,_,_,_,.nil,s=>s
 | _,_,_,_,.cons r t,s=>.cons r (Vals.append t s)
def RelO:Option V->Option Value->Prop
 | some v,some u=>RelV v u
 | none,none=>True
 | _,_=>False
def KV {κ:Type}:List (κ×V)->List (κ×Value)->Prop:=Paired fun(p:κ×V) (q:κ×Value)=>p.1=q.1/\RelV p.2 q.2
def kV:Key->V
 | .inl i=>.int i
 | .inr x=>.str x
inductive HO where
 | lst (xs:List V)
 | tup (xs:List V)
 | dK (kvs:List (Key×V)) | dT (kvs:List (List Key×V))
 | set (S:Int->Bool) (n:Nat)
 | ins (C dx:Addr) (fs:List (Str×V))
 | own (x:Addr)
 | xd (fs:List (Str×V))
 | met (f x:Addr)
 | rng (lo hi:Int)
 | frz (o:Obj) (u:HO)
 | tbl (ps:Array Value)
 | ext (φ:Heap->Prop)
abbrev Hp:=Addr->Option HO
def upd (H:Hp) (a:Addr) (o:HO):Hp:=fun b=>if b=a then some o else H b
theorem upd_same {H:Hp} {a:Addr} {o:HO}:upd H a o a=some o:=by unfold upd; rw [if_pos rfl]
theorem upd_ne {H:Hp} {a b:Addr} {o:HO} (h:b≠a):upd H a o b=H b:=by unfold upd; rw [if_neg h]
theorem ne_of {H:Hp} {a b:Addr} {o u:HO} (h:H a=some o) (h':H b=some u) (d:o≠u):a≠b:=by
 intro e; subst e; rw [h] at h'; exact d (Option.some.inj h')
theorem ne_of_none {H:Hp} {a b:Addr} {o:HO} (h:H a=some o) (h':H b=none):a≠b:=by
 intro e; subst e; rw [h] at h'; cases h'
section
variable (P:Program) (w:World)
def ObjOk (H:Hp) (h:Heap) (a:Addr):HO->Prop
 | .lst xs=>xs.length<=sizeLine/\∃ (its:List Value) (n:Nat),Vals xs its/\h.get? a=some {cls:=.type "list",data:=.seq its.toArray n}
 | .tup xs=>xs.length<=sizeLine/\∃ its:List Value,Vals xs its/\IsTup h a its.toArray
 | .dK kvs=>kvs.length<=sizeLine/\(a == sysModules)=false/\∃ vs,KV kvs vs/\h.DictOf (mixKind P w) a vs
 | .dT kvs=>kvs.length<=sizeLine/\(a == sysModules)=false/\∃ xs:List (List Key×Addr×Value),
   Paired (fun (p:List Key×V) (q:List Key×Addr×Value)=>p.1=q.1/\H q.2.1=some (.tup (p.1.map kV))/\RelV p.2 q.2.2) kvs xs/\
   ∃ o es ep,h.get? a=some o/\o.ExactDict/\o.data=.dict es ep/\es.toList=xs.map (entryOfKey (tupleKind (mixKind P w)))/\(xs.map (·.1)).Nodup
 | .set S n=>h.SetOf (intKind P w) a S n
 | .ins C dx fs=>H dx=some (.own a)/\fs.length<=1000/\dx≠a/\h.get? a=some (PySem.W.instObj C dx)/\
   ∃ mA,h.Ns1 dx mA/\(∀ f,RelO (fs.lookup f) (mA f))/\PySem.Within mA (fs.map (·.1))
 | .own _=>∃ o,h.get? a=some o
 | .xd fs=>∃ mA,h.Ns1 a mA/\∀ f,RelO (fs.lookup f) (mA f)
 | .rng lo hi=>∃ t u v,h.get? a=some {cls:=.type "range",data:=.fields #[.int lo t,.int hi u,.int 1 v]}
 | .frz o u=>h.get? a=some o/\ObjOk H h a u
 | .tbl ps=>h.get? a=some {cls:=.none,data:=.fields ps}
 | .met f x=>h.get? a=some (PySem.W.methodObj (.ref f) (.ref x))
 | .ext φ=>φ h/\(∃ o,h.get? a=some o)/\∀ h1 h2:Heap,φ h1->(∀ o,h1.get? a=some o->h2.get? a=some o)->φ h2
def HOk (H:Hp) (h:Heap):Prop:=∀ a o,H a=some o->ObjOk P w H h a o
end
section
variable {P:Program} {w:World} {H H':Hp} {h h':Heap} {a:Addr} {o:HO}
theorem ObjOk.lt (x:ObjOk P w H h a o):a < h.objs.size:=by
 cases o with
 | lst xs=>obtain⟨_,_,_,_,e⟩:=x; exact Heap.lt_size e
 | tup xs=>obtain⟨_,_,_,p⟩:=x; exact p.lt
 | dK kvs=>obtain⟨_,_,_,_,o,_,_,e,_⟩:=x; exact Heap.lt_size e
 | dT kvs=>obtain⟨_,_,_,_,o,_,_,e,_⟩:=x; exact Heap.lt_size e
 | set S n=>obtain⟨o,_,_,_,e,_⟩:=x; exact Heap.lt_size e
 | ins C dx fs=>obtain⟨_,_,_,e,_⟩:=x; exact Heap.lt_size e
 | own y=>obtain⟨_,e⟩:=x; exact Heap.lt_size e
 | xd fs=>obtain⟨_,⟨_,_,_,e,_⟩,_⟩:=x; exact Heap.lt_size e
 | rng lo hi=>obtain⟨_,_,_,e⟩:=x; exact Heap.lt_size e
 | frz ob u=>obtain⟨e,_⟩:=x; exact Heap.lt_size e
 | tbl ps=>exact Heap.lt_size (show h.get? a=some _ from x)
 | met f y=>exact Heap.lt_size (show h.get? a=some _ from x)
 | ext φ=>obtain⟨_,⟨_,e⟩,_⟩:=x; exact Heap.lt_size e
theorem Paired.mapP {α β:Type} {F G:α->β->Prop}:∀ {l₁:List α} {l₂:List β},Paired F l₁ l₂->(∀ a b,F a b->G a b)->Paired G l₁ l₂
 | _,_,.nil,_=>.nil
 | _,_,.cons r t,f=>.cons (f _ _ r) (Paired.mapP t f)
theorem ObjOk.stay (x:ObjOk P w H h a o) (k:∀ b u,(b=a\/H b=some (.own a))->h.get? b=some u->h'.get? b=some u)
  (ho:∀ b,H b=some (.own a)->H' b=some (.own a)) (ht:∀ b xs,H b=some (.tup xs)->H' b=some (.tup xs)):ObjOk P w H' h' a o:=by
 induction o with
 | lst xs=>obtain⟨z,its,n,r,e⟩:=x; exact⟨z,its,n,r,k _ _ (.inl rfl) e⟩
 | tup xs=>obtain⟨z,its,r,ob,e,c⟩:=x; exact⟨z,its,r,ob,k _ _ (.inl rfl) e,c⟩
 | dK kvs=>obtain⟨z,y,vs,r,ob,es,ep,e,c⟩:=x; exact⟨z,y,vs,r,ob,es,ep,k _ _ (.inl rfl) e,c⟩
 | dT kvs=>
  obtain⟨z,y,xs,r,ob,es,ep,e,c⟩:=x
  exact⟨z,y,xs,Paired.mapP r fun p q z=>⟨z.1,ht _ _ z.2.1,z.2.2⟩,ob,es,ep,k _ _ (.inl rfl) e,c⟩
 | set S n=>obtain⟨ob,es,ep,t,e,c⟩:=x; exact⟨ob,es,ep,t,k _ _ (.inl rfl) e,c⟩
 | ins C dx fs=>
  obtain⟨d,z,ne,e,mA,⟨od,es,ep,e2,c⟩,r⟩:=x
  exact⟨ho _ d,z,ne,k _ _ (.inl rfl) e,mA,⟨od,es,ep,k _ _ (.inr d) e2,c⟩,r⟩
 | own y=>obtain⟨ob,e⟩:=x; exact⟨ob,k _ _ (.inl rfl) e⟩
 | xd fs=>obtain⟨mA,⟨od,es,ep,e,c⟩,r⟩:=x; exact⟨mA,⟨od,es,ep,k _ _ (.inl rfl) e,c⟩,r⟩
 | rng lo hi=>obtain⟨t,u,v,e⟩:=x; exact⟨t,u,v,k _ _ (.inl rfl) e⟩
 | frz ob u ih=>obtain⟨e,q⟩:=x; exact⟨k _ _ (.inl rfl) e,ih q⟩
 | tbl ps=>
  have e:h.get? a=some {cls:=.none,data:=.fields ps}:=x
  show h'.get? a=some {cls:=.none,data:=.fields ps}
  exact k a _ (.inl rfl) e
 | met f y=>
  have e:h.get? a=some (PySem.W.methodObj (.ref f) (.ref y)):=x
  show h'.get? a=some (PySem.W.methodObj (.ref f) (.ref y))
  exact k a _ (.inl rfl) e
 | ext φ=>obtain⟨p,⟨o,e⟩,st⟩:=x; exact⟨st _ _ p fun o q=>k _ _ (.inl rfl) q,⟨o,k _ _ (.inl rfl) e⟩,st⟩
theorem HOk.lt (x:HOk P w H h) (e:H a=some o):a < h.objs.size:=(x a o e).lt
theorem HOk.fresh (x:HOk P w H h) (e:h.objs.size<=a):H a=none:=by
 cases q:H a with
 | none=>rfl
 | some u=>exact absurd (Nat.lt_of_lt_of_le (x.lt q) e) (Nat.lt_irrefl _)
theorem HOk.kept (x:HOk P w H h) (k:∀ b u,h.get? b=some u->h'.get? b=some u):HOk P w H h':=fun a o e=>
 (x a o e).stay (fun b u _ q=>k b u q) (fun _ q=>q) fun _ _ q=>q
theorem HOk.laid (x:HOk P w H h) (k:∀ b u,h.get? b=some u->h'.get? b=some u) (hp:h.objs.size<=a) (new:ObjOk P w (upd H a o) h' a o):HOk P w (upd H a o) h':=fun b u e=>by
 have hn:=x.fresh hp
 by_cases hb:b=a
 ·subst hb; rw [upd_same] at e; cases e; exact new
 ·rw [upd_ne hb] at e
  exact(x b u e).stay (fun c v _ q=>k c v q) (fun c q=>by rw [upd_ne (ne_of_none q hn)]; exact q) fun c xs q=>by rw [upd_ne (ne_of_none q hn)]; exact q
end
def Rd (H:Hp) (a:Addr) (u:HO):Prop:=H a=some u\/∃ o,H a=some (.frz o u)
theorem Rd.ok {P:Program} {w:World} {H:Hp} {h:Heap} {a:Addr} {u:HO} (r:Rd H a u) (x:HOk P w H h):ObjOk P w H h a u:=by
 rcases r with r | ⟨o,r⟩
 ·exact x a u r
 ·obtain⟨_,q⟩:=x a _ r
  exact q
def Mut:Option HO->Prop
 | some (.lst _)=>True
 | some (.dK _)=>True
 | some (.dT _)=>True
 | some (.set _ _)=>True
 | some (.ins _ _ _)=>True
 | some (.ext _)=>True
 | _=>False
section
variable {P:Program} {w:World} {H:Hp} {h h':Heap} {x e:Addr} {o':HO}
theorem HOk.write (ok:HOk P w H h) (mu:Mut (H x)) (he:e=x\/H e=some (.own x)) (k:∀ b u,b≠e->h.get? b=some u->h'.get? b=some u) (heo:∃ u,h'.get? e=some u)
  (new:ObjOk P w (upd H x o') h' x o'):HOk P w (upd H x o') h':=fun b u q=>by
 have nown:∀ c y,H c=some (.own y)->c≠x:=fun c y r z=>by subst z; rw [r] at mu; exact mu
 have ntup:∀ c xs,H c=some (.tup xs)->c≠x:=fun c xs r z=>by subst z; rw [r] at mu; exact mu
 by_cases hb:b=x
 ·subst hb; rw [upd_same] at q; cases q; exact new
 ·rw [upd_ne hb] at q
  by_cases hbe:b=e
  ·have q':H b=some (.own x):=by
    rcases he with z | z
    ·exact absurd (hbe.trans z) hb
    ·rw [hbe]; exact z
   rw [q] at q'; cases q'
   obtain⟨v,hv⟩:=heo
   exact⟨v,by rw [hbe]; exact hv⟩
  ·refine(ok b u q).stay (fun c v hc r=>k c v ?_ r) (fun c r=>by rw [upd_ne (nown c b r)]; exact r) fun c xs r=>by rw [upd_ne (ntup c xs r)]; exact r
   rcases hc with rfl | hc
   ·exact hbe
   ·rintro rfl
    rcases he with z | z
    ·exact nown c b hc z
    ·rw [hc] at z; cases z; exact hb rfl
end
structure Un (fs ex:List Addr) (H H':Hp) (h h':Heap):Prop where
 keep:∀ b o,h.get? b=some o->H b=none->b∉fs->b∉ex->h'.get? b=some o
 slot:∀ b o,h.get? b=some o->H b=none->b∈fs->b∉ex->∃ sl,h'.get? b=some {o with slots:=sl}
 free:∀ b o,h.get? b=some o->H b=none->b∉ex->H' b=none
 there:∀ b o,h.get? b=some o->b∉ex->∃ o',h'.get? b=some o'
 tups:∀ b xs,H b=some (.tup xs)->H' b=some (.tup xs)
 frzs:∀ b o u,H b=some (.frz o u)->H' b=some (.frz o u)
 tbls:∀ b ps,H b=some (.tbl ps)->∃ more,H' b=some (.tbl (ps++more))
section
variable {fs fs' ex ex':List Addr} {H H1 H2:Hp} {h h1 h2 h':Heap} {a x e:Addr} {o:HO}
theorem Un.any (u:Un fs ex H H1 h h1) {b:Addr} {ob:Obj} (q:h.get? b=some ob) (n:H b=none) (hx:b∉ex):∃ sl,h1.get? b=some {ob with slots:=sl}:=by
 by_cases hb:b∈fs
 ·exact u.slot b ob q n hb hx
 ·exact⟨ob.slots,u.keep b ob q n hb hx⟩
theorem Un.trans (a:Un fs ex H H1 h h1) (b:Un fs ex H1 H2 h1 h2):Un fs ex H H2 h h2 where
 keep:=fun c ob q n hc hx=>b.keep c ob (a.keep c ob q n hc hx) (a.free c ob q n hx) hc hx
 slot:=fun c ob q n hc hx=>by
  obtain⟨sl,e1⟩:=a.slot c ob q n hc hx
  obtain⟨sl',e2⟩:=b.slot c _ e1 (a.free c ob q n hx) hc hx
  exact⟨sl',e2⟩
 free:=fun c ob q n hx=>by
  obtain⟨o',e1⟩:=a.there c ob q hx
  exact b.free c o' e1 (a.free c ob q n hx) hx
 there:=fun c ob q hx=>by
  obtain⟨o',e1⟩:=a.there c ob q hx
  exact b.there c o' e1 hx
 tups:=fun c xs q=>b.tups c xs (a.tups c xs q)
 frzs:=fun c ob xs q=>b.frzs c ob xs (a.frzs c ob xs q)
 tbls:=fun c ps q=>by
  obtain⟨m1,e1⟩:=a.tbls c ps q
  obtain⟨m2,e2⟩:=b.tbls c _ e1
  exact⟨m1++m2,by rw [e2,Array.append_assoc]⟩
theorem Un.kept (k:∀ b u,h.get? b=some u->h'.get? b=some u):Un fs ex H H h h':=
 ⟨fun b ob q _ _ _=>k b ob q,fun b ob q _ _ _=>⟨ob.slots,k b ob q⟩,fun _ _ _ n _=>n,fun b ob q _=>⟨ob,k b ob q⟩,fun _ _ q=>q,fun _ _ _ q=>q,fun _ ps q=>⟨#[],by rw [q]; simp⟩⟩
theorem Un.refl:Un fs ex H H h h:=Un.kept fun _ _ q=>q
theorem Un.laid (k:∀ b u,h.get? b=some u->h'.get? b=some u) (hp:h.objs.size<=a) (hn:H a=none):Un fs ex H (upd H a o) h h' where
 keep:=fun b u q _ _ _=>k b u q
 slot:=fun b u q _ _ _=>⟨u.slots,k b u q⟩
 free:=fun b u q n _=>by rw [upd_ne (Nat.ne_of_lt (Nat.lt_of_lt_of_le (Heap.lt_size q) hp))]; exact n
 there:=fun b u q _=>⟨u,k b u q⟩
 tups:=fun b xs q=>by rw [upd_ne (ne_of_none q hn)]; exact q
 frzs:=fun b u xs q=>by rw [upd_ne (ne_of_none q hn)]; exact q
 tbls:=fun b ps q=>⟨#[],by rw [upd_ne (ne_of_none q hn),q]; simp⟩
theorem Un.write (mu:Mut (H x)) (he:e=x\/H e=some (.own x)) (k:∀ b u,b≠e->h.get? b=some u->h'.get? b=some u) (heo:∃ u,h'.get? e=some u):Un fs ex H (upd H x o) h h':=by
 have hx:∀ b,H b=none->b≠x:=fun b n z=>by subst z; rw [n] at mu; exact mu
 have hb:∀ b,H b=none->b≠e:=fun b n z=>by
  subst z
  rcases he with r | r
  ·exact hx b n r
  ·rw [n] at r; cases r
 have hm:∀ b u,H b=some u->¬ Mut (some u)->b≠x:=fun b u q nm z=>by subst z; rw [q] at mu; exact nm mu
 refine⟨fun b u q n _ _=>k b u (hb b n) q,fun b u q n _ _=>⟨u.slots,k b u (hb b n) q⟩,fun b u q n _=>by rw [upd_ne (hx b n)]; exact n,fun b u q _=>?_,
  fun b xs q=>by rw [upd_ne (hm b _ q fun z=>z)]; exact q,fun b u xs q=>by rw [upd_ne (hm b _ q fun z=>z)]; exact q,fun b ps q=>⟨#[],by rw [upd_ne (hm b _ q fun z=>z),q]; simp⟩⟩
 by_cases hbe:b=e
 ·subst hbe; exact heo
 ·exact⟨u,k b u hbe q⟩
end
def trk (h:Heap) (H:Hp):List Addr:=(List.range h.objs.size).filter fun a=>(H a).isSome
def hidT (h:Heap) (H:Hp):Heap:=PySem.W.hideAll h (trk h H)
theorem hidT_size (h:Heap) (H:Hp):(hidT h H).objs.size=h.objs.size:=PySem.W.hideAll_size _ _
theorem hidT_get {h:Heap} {H:Hp} {b:Addr} {o:Obj} (e:h.get? b=some o) (n:H b=none):(hidT h H).get? b=some o:=
 PySem.W.hideAll_get _ e fun hm=>by
  have q:(H b).isSome=true:=(List.mem_filter.mp hm).2
  rw [n] at q; simp at q
theorem of_hidT {h:Heap} {H:Hp} {b:Addr} {o:Obj} (e:(hidT h H).get? b=some o):h.get? b=some o/\H b=none:=by
 have e':h.get? b=some o:=PySem.W.of_hideAll (trk h H) e
 refine⟨e',?_⟩
 cases q:H b with
 | none=>rfl
 | some x=>
  have hm:b∈trk h H:=List.mem_filter.mpr ⟨List.mem_range.mpr (Heap.lt_size e'),by simp [q]⟩
  have z:(hidT h H).get? b=none:=PySem.W.hideAll_none (trk h H) hm
  rw [z] at e; cases e
def allNews (g h:Heap) (L:Addr):List (Addr×Obj):=(List.range h.objs.size).filterMap fun a=>if a=L\/(g.get? a).isSome=true then none else(h.get? a).map fun o=>(a,o)
def rest (g h:Heap) (L d:Addr):List (Addr×Obj):=(allNews g h L).filter fun p=>decide (p.1≠d)
structure Mod (K:PySem.W.Frag) (mg:Str->Option Value) (base:Heap):Prop where
 kin:K.In base
 glob:base.Ns mainGlobals mg
 blt:∃ mb,base.Ns builtinsNs mb/\∀ x:Str,x≠"__name__"->mb x=bootBuiltins x
 nolimit:base.NoLimit
structure Cx where
 prog:Program
 w:World
 K:PySem.W.Frag
 mg:Str->Option Value
 base:Heap
 A:Around
 N:List Str
 s₀:Shared
 H₀:Hp
 env:Env
 outer:List Env
 stack:List Env
 ex:List Addr
 fn:Str->Bool
 calm:Bool
 pn:List (Addr×Obj)
 xe:Value->Shared->Prop
def frs (l:List Env):List Addr:=l.filterMap (·.frame)
abbrev Cx.fs (X:Cx):List Addr:=frs X.outer
def Vis (sc:Scope) (x:Str):Prop:=sc.names.lookup x=some .local\/sc.names.lookup x=some .cell\/sc.names.lookup x=some .free
def Loc (sc:Scope) (x:Str):Prop:=sc.names.lookup x=some .local\/sc.names.lookup x=some .cell
def Look (env:Env) (h:Heap) (m:Str->Option Value) (x:Str) (u:Value):Prop:=
 (env.kindOf x=some .local/\m x=some u)\/((env.kindOf x=some .cell\/env.kindOf x=some .free)/\∃ c,env.cells.lookup x=some c/\h.IsCell c (some u))
structure Cx.Ok (X:Cx):Prop where
 mod:Mod X.K X.mg X.base
 kind:X.env.scope.kind=.function
 glob:X.env.globals=mainGlobals
 blt:X.env.builtins=builtinsNs
 above:X.s₀.heap.objs.size<=X.env.locals
 inj:∀ x y c,X.env.cells.lookup x=some c->X.env.cells.lookup y=some c->x=y
 has:∀ x,(X.env.kindOf x=some .cell\/X.env.kindOf x=some .free)->∃ c,X.env.cells.lookup x=some c
 cab:∀ x c,X.fn x=true->X.env.cells.lookup x=some c->X.s₀.heap.objs.size<=c
 hd:X.calm=true->X.A.handled=none
 frames:X.A.frames=some X.stack
 stk:X.stack=X.outer\/(X.stack=X.env::X.outer/\X.env.frame=some X.env.locals)
 exf:∀ b∈X.ex,b≠X.env.locals/\∀ x c,X.env.cells.lookup x=some c->c≠b
 bs:∀ b o,X.base.get? b=some o->X.s₀.heap.get? b=some o/\X.H₀ b=none
 bsz:X.base.objs.size<=X.s₀.heap.objs.size
 noex:∀ b o,X.base.get? b=some o->b∉X.ex
 exfs:∀ b∈X.ex,b∉X.fs
 funs:X.s₀.heap.FunFrames X.base X.outer
 frf:∀ b∈X.fs,X.H₀ b=none
structure Inv (X:Cx) (pins:List (Addr×Obj)) (σ:List (Option V)) (H:Hp) (s:Shared):Prop where
 ok:X.Ok
 os:s.os=X.s₀.os
 bare:AllBare s.gens
 base:Un X.fs X.ex X.H₀ H X.s₀.heap s.heap
 loc:∃ m,s.heap.Ns X.env.locals m/\∀ (i:Nat) (x:Str) (v:V),X.N[i]?=some x->σ[i]?=some (some v)->Vis X.env.scope x->∃ u,RelV v u/\Look X.env s.heap m x u
 cell:∀ x c,X.env.cells.lookup x=some c->∃ v,s.heap.IsCell c v
 free:H X.env.locals=none
 freeC:∀ x c,X.env.cells.lookup x=some c->H c=none
 pin:∀ p∈X.pn++pins,s.heap.get? p.1=some p.2/\H p.1=none/\p.1≠X.env.locals/\p.1∉X.fs/\∀ v,p.2.data≠.cell v
 hok:HOk X.prog X.w H s.heap
 len:σ.length=X.N.length
section
variable {X:Cx} {pins:List (Addr×Obj)} {σ:List (Option V)} {H H':Hp} {s:Shared} {h':Heap}
theorem Cx.Ok.nofr (ok:X.Ok) {b:Addr} {o:Obj} (e:X.base.get? b=some o):b∉X.fs:=fun hb=>by
 have:=(ok.funs.mem hb).1
 rw [e] at this; cases this
theorem Inv.bs (I:Inv X pins σ H s):∀ b o,X.base.get? b=some o->s.heap.get? b=some o/\H b=none:=fun b o e=>
 ⟨I.base.keep b o (I.ok.bs b o e).1 (I.ok.bs b o e).2 (I.ok.nofr e) (I.ok.noex b o e),I.base.free b o (I.ok.bs b o e).1 (I.ok.bs b o e).2 (I.ok.noex b o e)⟩
theorem Inv.bk (I:Inv X pins σ H s):∀ b o,X.base.get? b=some o->s.heap.get? b=some o:=fun b o e=>(I.bs b o e).1
theorem Inv.mod (I:Inv X pins σ H s):Mod X.K X.mg X.base:=I.ok.mod
theorem Inv.kIn (I:Inv X pins σ H s):X.K.In s.heap:=I.ok.mod.kin.keeps I.bk
theorem Inv.lt (I:Inv X pins σ H s):X.env.locals < s.heap.objs.size:=let ⟨_,hn,_⟩:=I.loc; hn.lt
theorem Inv.sz (I:Inv X pins σ H s):X.s₀.heap.objs.size<=s.heap.objs.size:=Nat.le_trans I.ok.above (Nat.le_of_lt I.lt)
theorem Inv.nofs (I:Inv X pins σ H s) {a:Addr} (h:s.heap.objs.size<=a):a∉X.fs:=fun hb=>by
 obtain⟨_,o,ho,_⟩:=I.ok.funs.mem hb
 exact absurd (Nat.lt_of_lt_of_le (Heap.lt_size ho) (Nat.le_trans I.sz h)) (Nat.lt_irrefl _)
theorem Inv.cne (I:Inv X pins σ H s):∀ x c,X.env.cells.lookup x=some c->c≠X.env.locals:=fun x c e z=>by
 obtain⟨v,o,ho,hd⟩:=I.cell x c e
 obtain⟨m,⟨o',es,ep,ho',hd',_⟩,_⟩:=I.loc
 rw [z,ho'] at ho; cases ho; rw [hd'] at hd; cases hd
theorem Inv.funs (I:Inv X pins σ H s):s.heap.FunFrames X.base X.outer:=by
 have all:∀ (l:List Env),(∀ b∈frs l,b∈X.fs)->X.s₀.heap.FunFrames X.base l->s.heap.FunFrames X.base l:=by
  intro l
  induction l with
  | nil=>intro _ _; trivial
  | cons env r ih=>
   intro hs hl
   obtain⟨hk,⟨L,o,hf,hn,ho,hd⟩,hr⟩:=hl
   have hL:L∈X.fs:=hs L (by unfold frs; rw [List.filterMap_cons,hf]; exact List.mem_cons_self)
   obtain⟨sl,e⟩:=I.base.slot L o ho (I.ok.frf L hL) hL fun z=>I.ok.exfs L z hL
   exact⟨hk,⟨L,_,hf,hn,e,hd⟩,ih (fun b hb=>hs b (by unfold frs; rw [List.filterMap_cons,hf]; exact List.mem_cons_of_mem _ hb)) hr⟩
 exact all X.outer (fun _ hb=>hb) I.ok.funs
theorem Inv.stack (I:Inv X pins σ H s):s.heap.FunFrames X.base X.stack:=by
 rcases I.ok.stk with e | ⟨e,hf⟩
 ·rw [e]; exact I.funs
 ·rw [e]
  obtain⟨m,hn,_⟩:=I.loc
  refine .cons (by rw [I.ok.kind]; decide) hf hn ?_ I.funs
  exact Heap.get?_none_of_le (Nat.le_trans I.ok.bsz I.ok.above)
theorem Inv.stkSub (I:Inv X pins σ H s):∀ b∈frs X.stack,b∈X.env.locals::X.fs:=fun b hb=>by
 rcases I.ok.stk with e | ⟨e,hf⟩
 ·rw [e] at hb; exact List.mem_cons_of_mem _ hb
 ·rw [e] at hb
  unfold frs at hb
  rw [List.filterMap_cons,hf] at hb
  exact hb
theorem Inv.stkFree (I:Inv X pins σ H s):∀ b∈frs X.stack,H b=none:=fun b hb=>by
 rcases List.mem_cons.mp (I.stkSub b hb) with e | hb
 ·rw [e]; exact I.free
 ·obtain⟨_,o,ho,_⟩:=I.ok.funs.mem hb
  exact I.base.free b o ho (I.ok.frf b hb) fun z=>I.ok.exfs b z hb
theorem Inv.step {g':Array GenState} {t':Nat} {d':Drawn} {ch:List Addr} (I:Inv X pins σ H s)
  (hch:∀ b∈ch,(b∈X.ex\/X.s₀.heap.objs.size<=b)/\b≠X.env.locals/\(∀ x c,X.env.cells.lookup x=some c->c≠b)/\∀ p∈X.pn++pins,p.1≠b)
  (keep:∀ b o,b≠X.env.locals->b∉X.fs->b∉ch->s.heap.get? b=some o->H b=none->h'.get? b=some o)
  (slot:∀ b o,b≠X.env.locals->b∈X.fs->b∉ch->s.heap.get? b=some o->H b=none->∃ sl,h'.get? b=some {o with slots:=sl}) (free:∀ b o,b∉ch->s.heap.get? b=some o->H b=none->H' b=none)
  (there:∀ b o,b∉ch->s.heap.get? b=some o->∃ o',h'.get? b=some o')
  (tups:∀ b xs,H b=some (.tup xs)->H' b=some (.tup xs)) (frzs:∀ b o u,H b=some (.frz o u)->H' b=some (.frz o u)) (tbls:∀ b ps,H b=some (.tbl ps)->∃ more,H' b=some (.tbl (ps++more)))
  (ns:∀ m,s.heap.Ns X.env.locals m->h'.Ns X.env.locals m) (hok:HOk X.prog X.w H' h') (hg:AllBare g'):
  Inv X pins σ H' {s with heap:=h',gens:=g',drawn:=d',toks:=t'}:=by
 have neL:∀ b o,X.s₀.heap.get? b=some o->b≠X.env.locals:=fun b o e=>Nat.ne_of_lt (Nat.lt_of_lt_of_le (Heap.lt_size e) I.ok.above)
 have neC:∀ b o,X.s₀.heap.get? b=some o->b∉X.ex->b∉ch:=fun b o e hx hb=>by
  rcases(hch b hb).1 with z | z
  ·exact hx z
  ·exact absurd (Nat.lt_of_lt_of_le (Heap.lt_size e) z) (Nat.lt_irrefl _)
 have cellK:∀ x c,X.env.cells.lookup x=some c->∀ v,s.heap.IsCell c v->h'.IsCell c v:=fun x c e v ⟨o,ho,hd⟩=>by
  have nch:c∉ch:=fun z=>(hch c z).2.2.1 x c e rfl
  by_cases hc:c∈X.fs
  ·obtain⟨sl,q⟩:=slot c o (I.cne x c e) hc nch ho (I.freeC x c e)
   exact⟨_,q,hd⟩
  ·exact⟨o,keep c o (I.cne x c e) hc nch ho (I.freeC x c e),hd⟩
 refine⟨I.ok,I.os,hg,⟨fun b o e n hb hx=>?_,fun b o e n hb hx=>?_,fun b o e n hx=>?_,fun b o e hx=>?_,fun b xs e=>tups b xs (I.base.tups b xs e),fun b o xs e=>frzs b o xs (I.base.frzs b o xs e),fun b ps e=>?_⟩,?_,fun x c e=>?_,?_,fun x c e=>?_,fun p hp=>?_,hok,I.len⟩
 ·exact keep b o (neL b o e) hb (neC b o e hx) (I.base.keep b o e n hb hx) (I.base.free b o e n hx)
 ·obtain⟨sl,e1⟩:=I.base.slot b o e n hb hx
  obtain⟨sl',e2⟩:=slot b _ (neL b o e) hb (neC b o e hx) e1 (I.base.free b o e n hx)
  exact⟨sl',e2⟩
 ·obtain⟨o',e1⟩:=I.base.there b o e hx
  exact free b o' (neC b o e hx) e1 (I.base.free b o e n hx)
 ·obtain⟨o',e1⟩:=I.base.there b o e hx
  exact there b o' (neC b o e hx) e1
 ·obtain⟨m1,e1⟩:=I.base.tbls b ps e
  obtain⟨m2,e2⟩:=tbls b _ e1
  exact⟨m1++m2,by rw [e2,Array.append_assoc]⟩
 ·obtain⟨m,hn,hl⟩:=I.loc
  refine⟨m,ns m hn,fun i x v e1 e2 e3=>?_⟩
  obtain⟨u,r,l⟩:=hl i x v e1 e2 e3
  refine⟨u,r,?_⟩
  rcases l with l | ⟨k,c,e,z⟩
  ·exact .inl l
  ·exact .inr ⟨k,c,e,cellK x c e _ z⟩
 ·obtain⟨v,z⟩:=I.cell x c e
  exact⟨v,cellK x c e v z⟩
 ·obtain⟨m,⟨o,_,_,ho,_⟩,_⟩:=I.loc
  exact free _ o (fun z=>(hch _ z).2.1 rfl) ho I.free
 ·obtain⟨v,o,ho,hd⟩:=I.cell x c e
  exact free c o (fun z=>(hch c z).2.2.1 x c e rfl) ho (I.freeC x c e)
 ·obtain⟨e,n,ne,nf,d⟩:=I.pin p hp
  have nch:p.1∉ch:=fun z=>(hch p.1 z).2.2.2 p hp rfl
  exact⟨keep p.1 p.2 ne nf nch e n,free p.1 p.2 nch e n,ne,nf,d⟩
theorem Inv.un {t':Nat} (I:Inv X pins σ H s) (u:Un X.fs [] H H' s.heap h') (hok:HOk X.prog X.w H' h'):Inv X pins σ H' {s with heap:=h',toks:=t'}:=by
 obtain⟨m,⟨o,es,ep,ho,r⟩,_⟩:=id I.loc
 obtain⟨sl,hL⟩:=u.any ho I.free (by simp)
 exact I.step (g':=s.gens) (d':=s.drawn) (ch:=[]) (fun _ z=>nomatch z) (fun b o _ hb _ e n=>u.keep b o e n hb (by simp)) (fun b o _ hb _ e n=>u.slot b o e n hb (by simp)) (fun b o _ e n=>u.free b o e n (by simp)) (fun b o _ e=>u.there b o e (by simp)) u.tups u.frzs u.tbls (fun m' hm=>by
  obtain⟨o',es',ep',ho',r'⟩:=hm
  rw [ho] at ho'; cases ho'
  exact⟨_,es',ep',hL,r'⟩) hok I.bare
theorem Inv.call {g':Array GenState} {t':Nat} {d':Drawn} {ch:List Addr} (I:Inv X pins σ H s) (u:Un (frs X.stack) ch H H' s.heap h') (hok:HOk X.prog X.w H' h') (hg:AllBare g')
  (hch:∀ b∈ch,(b∈X.ex\/X.s₀.heap.objs.size<=b)/\b≠X.env.locals/\(∀ x c,X.env.cells.lookup x=some c->c≠b)/\∀ p∈X.pn++pins,p.1≠b):
  Inv X pins σ H' {s with heap:=h',gens:=g',drawn:=d',toks:=t'}:=by
 obtain⟨m,⟨o,es,ep,ho,r⟩,_⟩:=id I.loc
 obtain⟨sl,hL⟩:=u.any ho I.free fun z=>(hch _ z).2.1 rfl
 exact I.step (ch:=ch) hch (fun b o hL hb hc e n=>u.keep b o e n (fun z=>(List.mem_cons.mp (I.stkSub b z)).elim hL hb) hc) (fun b o _ _ hc e n=>u.any e n hc) (fun b o hc e n=>u.free b o e n hc) (fun b o hc e=>u.there b o e hc) u.tups u.frzs u.tbls (fun m' hm=>by
  obtain⟨o',es',ep',ho',r'⟩:=hm
  rw [ho] at ho'; cases ho'
  exact⟨_,es',ep',hL,r'⟩) hok hg
theorem Inv.turned {t':Nat} {it:Addr} (I:Inv X pins σ H s) (k:∀ b o,b≠it->s.heap.get? b=some o->h'.get? b=some o) (hn:H it=none) (hL:it≠X.env.locals)
  (h1:it∈X.ex\/X.s₀.heap.objs.size<=it) (h2:∀ x c,X.env.cells.lookup x=some c->c≠it) (h3:∀ p∈X.pn++pins,p.1≠it):Inv X pins σ H {s with heap:=h',toks:=t'}:=by
 have nit:∀ b u,H b=some u->b≠it:=fun b u e z=>by rw [z,hn] at e; cases e
 refine I.step (g':=s.gens) (d':=s.drawn) (ch:=[it]) (fun b hb=>?_) (fun b o _ _ hc e _=>k b o (fun z=>hc (by simp [z])) e) (fun b o _ _ hc e _=>⟨o.slots,k b o (fun z=>hc (by simp [z])) e⟩) (fun _ _ _ _ n=>n)
  (fun b o hc e=>⟨o,k b o (fun z=>hc (by simp [z])) e⟩) (fun _ _ e=>e) (fun _ _ _ e=>e) (fun b ps e=>⟨#[],by rw [e]; simp⟩) (fun m hm=>?_) (fun b u e=>?_) I.bare
 ·have e:b=it:=by simpa using hb
  subst e
  exact⟨h1,hL,h2,h3⟩
 ·obtain⟨o,es,ep,ho,r⟩:=hm
  exact⟨o,es,ep,k _ o (Ne.symm hL) ho,r⟩
 ·refine(I.hok b u e).stay (fun c v hc q=>k c v ?_ q) (fun _ q=>q) fun _ _ q=>q
  rcases hc with z | z
  ·rw [z]; exact nit b u e
  ·exact nit c _ z
theorem Inv.tok (I:Inv X pins σ H s) (t:Nat):Inv X pins σ H {s with toks:=t}:=I.un (h':=s.heap) (t':=t) Un.refl I.hok
theorem Inv.kept {t':Nat} (I:Inv X pins σ H s) (k:∀ b u,s.heap.get? b=some u->h'.get? b=some u):Inv X pins σ H {s with heap:=h',toks:=t'}:=I.un (Un.kept k) (I.hok.kept k)
theorem Inv.laid {a:Addr} {o:HO} {t':Nat} (I:Inv X pins σ H s) (k:∀ b u,s.heap.get? b=some u->h'.get? b=some u) (hp:s.heap.objs.size<=a) (new:ObjOk X.prog X.w (upd H a o) h' a o):
  Inv X pins σ (upd H a o) {s with heap:=h',toks:=t'}:=I.un (Un.laid k hp (I.hok.fresh hp)) (I.hok.laid k hp new)
theorem Inv.write {x e:Addr} {o:HO} {t':Nat} (I:Inv X pins σ H s) (mu:Mut (H x)) (he:e=x\/H e=some (.own x)) (k:∀ b u,b≠e->s.heap.get? b=some u->h'.get? b=some u) (heo:∃ u,h'.get? e=some u)
  (new:ObjOk X.prog X.w (upd H x o) h' x o):Inv X pins σ (upd H x o) {s with heap:=h',toks:=t'}:=I.un (Un.write mu he k heo) (I.hok.write mu he k heo new)
theorem Inv.pins_of {pins':List (Addr×Obj)} (I:Inv X pins σ H s) (h:∀ p∈pins',s.heap.get? p.1=some p.2/\H p.1=none/\p.1≠X.env.locals/\p.1∉X.fs/\∀ v,p.2.data≠.cell v):Inv X pins' σ H s:=
 ⟨I.ok,I.os,I.bare,I.base,I.loc,I.cell,I.free,I.freeC,fun p hp=>(List.mem_append.mp hp).elim (fun z=>I.pin p (List.mem_append_left _ z)) (h p),I.hok,I.len⟩
theorem nodup_ix {N:List Str} (hN:N.Nodup) {i j:Nat} {x:Str} (a:N[i]?=some x) (b:N[j]?=some x):i=j:=by
 obtain⟨h1,e1⟩:=List.getElem?_eq_some_iff.mp a
 obtain⟨h2,e2⟩:=List.getElem?_eq_some_iff.mp b
 exact(List.getElem_inj hN).mp (e1.trans e2.symm)
theorem store_ok2 {M:Model} {A:Around} {E:Value->Shared->Prop} {i:Nat} {x:Str} {v:V} {u:Value} {Q:Unit->Shared->Prop} (I:Inv X pins σ H s) (hN:X.N.Nodup) (hi:X.N[i]?=some x) (hx:Loc X.env.scope x) (r:RelV v u)
  (h:∀ s',Inv X pins (σ.set i (some v)) H s'->(∃ a,Heap.SameBut a s.heap s'.heap/\(a=X.env.locals\/X.env.cells.lookup x=some a))->Q () s') (hf:X.fn x=true\/X.env.scope.names.lookup x=some .local:=by first | exact .inl rfl | exact .inr rfl | assumption):wpAny M A (storeName X.env x u) Q E s:=by
 obtain⟨m,hn,hl⟩:=id I.loc
 have hcls:(X.env.scope.kind == .class || (X.env.scope.kind == .module && X.env.locals != X.env.globals))=false:=by rw [I.ok.kind]; rfl
 have hiσ:i < σ.length:=by rw [I.len]; exact(List.getElem?_eq_some_iff.mp hi).1
 have cne:=I.cne
 have tracked:∀ {a:Addr} {h':Heap},(∃ o,s.heap.get? a=some o/\H a=none)->Heap.SameBut a s.heap h'->HOk X.prog X.w H h':=fun {a h'} ha hs b ob e=>by
  obtain⟨_,_,hfree⟩:=ha
  refine(I.hok b ob e).stay (fun c w' hc q=>(hs.2 c ?_).trans q) (fun _ q=>q) fun _ _ q=>q
  rintro rfl
  rcases hc with rfl | hc
  ·rw [hfree] at e; cases e
  ·rw [hfree] at hc; cases hc
 rcases hx with hk | hk
 ·refine wpAny_storeName_local hk hn (fun h' hn' hs=>?_) hcls
  obtain⟨oL,_,_,hoL,_⟩:=id hn
  refine h _ ⟨I.ok,I.os,I.bare,⟨fun b o e n hb hx=>?_,fun b o e n hb hx=>?_,I.base.free,fun b o e hx=>?_,I.base.tups,I.base.frzs,I.base.tbls⟩,⟨_,hn',fun j y v' e1 e2 e3=>?_⟩,fun y c e=>?_,I.free,I.freeC,fun p hp=>?_,tracked ⟨oL,hoL,I.free⟩ hs,by simpa using I.len⟩ ⟨_,hs,.inl rfl⟩
  ·exact(hs.2 b (Nat.ne_of_lt (Nat.lt_of_lt_of_le (Heap.lt_size e) I.ok.above))).trans (I.base.keep b o e n hb hx)
  ·obtain⟨sl,e1⟩:=I.base.slot b o e n hb hx
   exact⟨sl,(hs.2 b (Nat.ne_of_lt (Nat.lt_of_lt_of_le (Heap.lt_size e) I.ok.above))).trans e1⟩
  ·obtain⟨o',e1⟩:=I.base.there b o e hx
   exact⟨o',(hs.2 b (Nat.ne_of_lt (Nat.lt_of_lt_of_le (Heap.lt_size e) I.ok.above))).trans e1⟩
  ·by_cases hj:j=i
   ·subst hj
    rw [hi] at e1; cases e1
    rw [List.getElem?_set_self hiσ] at e2
    cases e2
    exact⟨u,r,.inl ⟨hk,by simp⟩⟩
   ·rw [List.getElem?_set_ne (Ne.symm hj)] at e2
    obtain⟨u',r',q⟩:=hl j y v' e1 e2 e3
    refine⟨u',r',?_⟩
    rcases q with ⟨k,e⟩ | ⟨k,c,e,z⟩
    ·refine .inl ⟨k,?_⟩
     have:y≠x:=fun e=>hj (nodup_ix hN e1 (e▸hi))
     simp [this,e]
    ·exact .inr ⟨k,c,e,z.sameBut hs (cne y c e)⟩
  ·obtain⟨w',z⟩:=I.cell y c e
   exact⟨w',z.sameBut hs (cne y c e)⟩
  ·obtain⟨e,n,ne,nf,d⟩:=I.pin p hp
   exact⟨(hs.2 p.1 ne).trans e,n,ne,nf,d⟩
 ·have hfn:X.fn x=true:=by
   rcases hf with z | z
   ·exact z
   ·rw [z] at hk; cases hk
  obtain⟨c,hc⟩:=I.ok.has x (.inl hk)
  obtain⟨w',z⟩:=I.cell x c hc
  refine wpAny_storeName_cell I.ok.kind hk hc z (fun h' hc' hs=>?_)
  obtain⟨oc,hoc,hocd⟩:=id z
  refine h {s with heap:=h'} ⟨I.ok,I.os,I.bare,⟨fun b o e n hb hx=>?_,fun b o e n hb hx=>?_,I.base.free,fun b o e hx=>?_,I.base.tups,I.base.frzs,I.base.tbls⟩,⟨m,hn.sameBut hs (Ne.symm (cne x c hc)),fun j y v' e1 e2 e3=>?_⟩,fun y c' e=>?_,I.free,I.freeC,fun p hp=>?_,tracked ⟨oc,hoc,I.freeC x c hc⟩ hs,by simpa using I.len⟩ ⟨c,hs,.inr hc⟩
  ·exact(hs.2 b (Nat.ne_of_lt (Nat.lt_of_lt_of_le (Heap.lt_size e) (I.ok.cab x c hfn hc)))).trans (I.base.keep b o e n hb hx)
  ·obtain⟨sl,e1⟩:=I.base.slot b o e n hb hx
   exact⟨sl,(hs.2 b (Nat.ne_of_lt (Nat.lt_of_lt_of_le (Heap.lt_size e) (I.ok.cab x c hfn hc)))).trans e1⟩
  ·obtain⟨o',e1⟩:=I.base.there b o e hx
   exact⟨o',(hs.2 b (Nat.ne_of_lt (Nat.lt_of_lt_of_le (Heap.lt_size e) (I.ok.cab x c hfn hc)))).trans e1⟩
  ·by_cases hj:j=i
   ·subst hj
    rw [hi] at e1; cases e1
    rw [List.getElem?_set_self hiσ] at e2
    cases e2
    exact⟨u,r,.inr ⟨.inl hk,c,hc,hc'⟩⟩
   ·rw [List.getElem?_set_ne (Ne.symm hj)] at e2
    obtain⟨u',r',q⟩:=hl j y v' e1 e2 e3
    refine⟨u',r',?_⟩
    rcases q with q | ⟨k,c',e,z'⟩
    ·exact .inl q
    ·refine .inr ⟨k,c',e,z'.sameBut hs ?_⟩
     rintro rfl
     exact hj (nodup_ix hN e1 (I.ok.inj _ _ _ e hc▸hi))
  ·by_cases hcc:c'=c
   ·subst hcc; exact⟨_,hc'⟩
   ·obtain⟨w2,z2⟩:=I.cell y c' e
    exact⟨w2,z2.sameBut hs hcc⟩
  ·obtain⟨e,n,ne,nf,d⟩:=I.pin p hp
   refine⟨(hs.2 p.1 ?_).trans e,n,ne,nf,d⟩
   intro q
   rw [q,hoc] at e
   have q':oc=p.2:=Option.some.inj e
   exact d w' (by rw [<- q']; exact hocd)
theorem store_ok {M:Model} {A:Around} {E:Value->Shared->Prop} {i:Nat} {x:Str} {v:V} {u:Value} {Q:Unit->Shared->Prop} (I:Inv X pins σ H s) (hN:X.N.Nodup) (hi:X.N[i]?=some x) (hx:Loc X.env.scope x) (r:RelV v u)
  (h:∀ s',Inv X pins (σ.set i (some v)) H s'->Q () s') (hf:X.fn x=true\/X.env.scope.names.lookup x=some .local:=by first | exact .inl rfl | exact .inr rfl | assumption):wpAny M A (storeName X.env x u) Q E s:=
 store_ok2 I hN hi hx r (fun s' I' _=>h s' I') hf
theorem Inv.call' {s':Shared} {ch:List Addr} (I:Inv X pins σ H s) (ho:s'.os=s.os) (u:Un (frs X.stack) ch H H' s.heap s'.heap) (hok:HOk X.prog X.w H' s'.heap) (hg:AllBare s'.gens)
  (hch:∀ b∈ch,(b∈X.ex\/X.s₀.heap.objs.size<=b)/\b≠X.env.locals/\(∀ x c,X.env.cells.lookup x=some c->c≠b)/\∀ p∈X.pn++pins,p.1≠b):Inv X pins σ H' s':=by
 obtain⟨h',g',d',t',o'⟩:=s'
 have e:o'=s.os:=ho
 subst e
 exact I.call (g':=g') (t':=t') (d':=d') u hok hg hch
end
abbrev XK:=Value->Option Addr->Hp->Prop
abbrev St:=List (Option V)
abbrev VK:=V->Hp->Prop
abbrev TE:=St->Hp->VK->Prop
abbrev TT:=St->Hp->(Bool->Hp->Prop)->Prop
abbrev TA:=St->Hp->(List V->Hp->Prop)->Prop
structure Ends where
 nx:St->Hp->Prop
 rt:VK
 bk:St->Hp->Prop:=fun _ _=>False
 ct:St->Hp->Prop:=fun _ _=>False
abbrev TS:=Ends->St->Hp->Prop
def EP (X:Cx) (pins:List (Addr×Obj)) (σ:St) (Q:VK) (u:Value) (s':Shared):Prop:=∃ v H',Inv X pins σ H' s'/\RelV v u/\Q v H'
def TP (X:Cx) (pins:List (Addr×Obj)) (σ:St) (Q:Bool->Hp->Prop) (b:Bool) (s':Shared):Prop:=∃ H',Inv X pins σ H' s'/\Q b H'
def AP (X:Cx) (pins:List (Addr×Obj)) (σ:St) (Q:List V->Hp->Prop) (us:List Value) (s':Shared):Prop:=∃ vs H',Inv X pins σ H' s'/\Vals vs us/\Q vs H'
def SP (X:Cx) (pins:List (Addr×Obj)) (D:Ends) (f:Flow) (s':Shared):Prop:=
 match f with
 | .next=>∃ σ' H',Inv X pins σ' H' s'/\D.nx σ' H'
 | .brk=>∃ σ' H',Inv X pins σ' H' s'/\D.bk σ' H'
 | .cont=>∃ σ' H',Inv X pins σ' H' s'/\D.ct σ' H'
 | .ret u=>∃ v σ' H',Inv X pins σ' H' s'/\RelV v u/\D.rt v H'
def PE (X:Cx) (e:Expr) (t:TE):Prop:=
 ∀ (pins:List (Addr×Obj)) (s:Shared) (σ:St) (H:Hp) (Q:VK),Inv X pins σ H s->t σ H Q->wpAny (model X.prog X.w) X.A (eval e X.env) (EP X pins σ Q) X.xe s
def PT (X:Cx) (e:Expr) (t:TT):Prop:=
 ∀ (pins:List (Addr×Obj)) (s:Shared) (σ:St) (H:Hp) (Q:Bool->Hp->Prop),Inv X pins σ H s->t σ H Q->wpAny (model X.prog X.w) X.A (isTrue e X.env (eval e X.env)) (TP X pins σ Q) X.xe s
def PW (X:Cx) (e:Expr) (t:TT):Prop:=
 ∀ (whole:Sem Value) (pins:List (Addr×Obj)) (s:Shared) (σ:St) (H:Hp) (Q:Bool->Hp->Prop),Inv X pins σ H s->t σ H Q->wpAny (model X.prog X.w) X.A (isTrue e X.env whole) (TP X pins σ Q) X.xe s
theorem PW.pt {X:Cx} {e:Expr} {t:TT} (h:PW X e t):PT X e t:=h _
def PA (X:Cx) (es:List Expr) (t:TA):Prop:=
 ∀ (pos:Pos) (pins:List (Addr×Obj)) (s:Shared) (σ:St) (H:Hp) (Q:List V->Hp->Prop),Inv X pins σ H s->t σ H Q->wpAny (model X.prog X.w) X.A (spliced (backTo pos (starEach es X.env))) (AP X pins σ Q) X.xe s
def PS (X:Cx) (st:Stmt) (t:TS):Prop:=
 ∀ (pins:List (Addr×Obj)) (s:Shared) (σ:St) (H:Hp) (D:Ends),Inv X pins σ H s->t D σ H->wpAny (model X.prog X.w) X.A (exec st X.env) (SP X pins D) X.xe s
def PSs (X:Cx) (st:List Stmt) (t:TS):Prop:=
 ∀ (pins:List (Addr×Obj)) (s:Shared) (σ:St) (H:Hp) (D:Ends),Inv X pins σ H s->t D σ H->wpAny (model X.prog X.w) X.A (execs st X.env) (SP X pins D) X.xe s
theorem thn {α:Type} {t:Sem α} {Q Q':α->Shared->Prop} {M:Model} {A:Around} {E:Value->Shared->Prop} {s:Shared} (h:wpAny M A t Q E s) (hQ:∀ a s,Q a s->Q' a s):wpAny M A t Q' E s:=wpAny_mono h hQ fun _ _ x=>x
section
variable {X:Cx}
def tVar (i:Nat):TE:=fun σ H Q=>∃ v,σ[i]?=some (some v)/\Q v H
def tC (v:V):TE:=fun _ H Q=>Q v H
theorem pe_var {i:Nat} {x:Str} {pos:Pos} (hN:X.N[i]?=some x) (hv:Vis X.env.scope x) (hd:(x == ("__debug__":Str))=false:=by decide) (hcd:(x == ("__classdict__":Str))=false:=by decide):PE X (.Name x pos) (tVar i):=by
 intro pins s σ H Q I h
 obtain⟨v,e,h⟩:=h
 obtain⟨m,hn,hl⟩:=I.loc
 obtain⟨u,r,l⟩:=hl i x v hN e hv
 have fin:EP X pins σ Q u s:=⟨v,H,I,r,h⟩
 rcases l with ⟨hk,hm⟩ | ⟨hk,c,hc,hcell⟩
 ·exact wpAny_Name (wpAny_loadName_local I.ok.kind hk hn hm fin) hd
 ·rcases hk with hk | hk
  ·exact wpAny_Name (wpAny_loadName_cell I.ok.kind hk hc hcell fin) hd
  ·exact wpAny_Name (wpAny_loadName_free I.ok.kind hk hc hcell fin hcd) hd
theorem pe_int {i j pos}:PE X (.Constant (.int i) j pos) (tC (.int i)):=fun _ _ _ H _ I h=>wpAny_Constant_int ⟨.int i,H,I.tok _,⟨_,rfl⟩,h⟩
theorem pe_bl {b j pos}:PE X (.Constant (.bool b) j pos) (tC (.bl b)):=fun _ _ _ H _ I h=>Constant_bool ⟨.bl b,H,I,rfl,h⟩
theorem pe_non {j pos}:PE X (.Constant .none j pos) (tC .non):=fun _ _ _ H _ I h=>Constant_none ⟨.non,H,I,rfl,h⟩
def Gl (X:Cx) (x:Str):Prop:=X.env.kindOf x=some .globalImplicit
theorem ld_glob {E:Value->Shared->Prop} {pins:List (Addr×Obj)} {s:Shared} {σ:St} {H:Hp} {x:Str} {u:Value} {pos:Pos} {Q:Value->Shared->Prop} (I:Inv X pins σ H s) (hg:Gl X x) (hm:X.mg x=some u) (h:Q u s)
  (hd:(x == ("__debug__":Str))=false:=by decide):wpAny (model X.prog X.w) X.A (eval (.Name x pos) X.env) Q E s:=
 Calls.Name_function_global I.ok.kind hg (Calls.loadGlobal_global (by rw [I.ok.glob]; exact I.mod.glob.keeps I.bk) hm h) hd
theorem ld_blt {E:Value->Shared->Prop} {pins:List (Addr×Obj)} {s:Shared} {σ:St} {H:Hp} {x:Str} {u:Value} {pos:Pos} {Q:Value->Shared->Prop} (I:Inv X pins σ H s) (hg:Gl X x) (hm:X.mg x=none) (hv:bootBuiltins x=some u) (h:Q u s)
  (hn:x≠"__name__":=by decide) (hd:(x == ("__debug__":Str))=false:=by decide):wpAny (model X.prog X.w) X.A (eval (.Name x pos) X.env) Q E s:=by
 obtain⟨mb,h1,h2⟩:=I.mod.blt
 exact Calls.Name_function_global I.ok.kind hg (Calls.loadGlobal_builtin (by rw [I.ok.glob]; exact I.mod.glob.keeps I.bk) hm (by rw [I.ok.blt]; exact h1.keeps I.bk) ((h2 x hn).trans hv) h) hd
theorem pe_glob {x:Str} {v:V} {u:Value} {pos:Pos} (hg:Gl X x) (hm:X.mg x=some u) (r:RelV v u) (hd:(x == ("__debug__":Str))=false:=by decide):PE X (.Name x pos) (tC v):=
 fun _ _ _ H _ I h=>ld_glob I hg hm ⟨v,H,I,r,h⟩ hd
variable {a b:Expr} {ta tb:TE} {pos:Pos}
def tB (t:TE):TT:=fun σ H Q=>t σ H fun x H1=>∃ c,x=.bl c/\Q c H1
theorem pt_val {e:Expr} {t:TE} (h:PE X e t) (he:∀ whole,isTrue e X.env whole=(do let v <- whole; standAt e.pos; holding [v] (truthy v)):=by intro _; rfl):PT X e (tB t):=by
 intro pins s σ H Q I hw
 refine isTrue_plain (thn (h pins s σ H _ I hw) fun v s1 ⟨x,H1,I1,r1,q1⟩=>?_) (he _)
 obtain⟨d,rfl,q⟩:=q1
 cases r1
 exact wpAny_truthy_bool ⟨H1,I1,q⟩
variable {tA tB':TT} {rest:List Expr}
def tOr (t u:TT):TT:=fun σ H Q=>t σ H fun c H1=>if c=true then Q true H1 else u σ H1 Q
def tNot (t:TT):TT:=fun σ H Q=>t σ H fun c H1=>Q (!c) H1
theorem pw_or1 (ha:PT X a tA):PW X (.BoolOp .Or [a] pos) tA:=by
 intro wh pins s σ H Q I h
 refine isTrue_or (thn (ha pins s σ H Q I h) fun c s1 e=>?_)
 cases c with
 | false=>exact isTrue_or_nil e
 | true=>exact e
theorem pw_or (ha:PT X a tA) (hb:PW X (.BoolOp .Or (b::rest) pos) tB'):PW X (.BoolOp .Or (a::b::rest) pos) (tOr tA tB'):=by
 intro wh pins s σ H Q I h
 refine isTrue_or (thn (ha pins s σ H _ I h) fun c s1 ⟨H1,I1,q1⟩=>?_)
 cases c with
 | true=>exact⟨H1,I1,q1⟩
 | false=>exact hb wh pins s1 σ H1 Q I1 q1
theorem pt_not (ha:PT X a tA):PT X (.UnaryOp .Not a pos) (tNot tA):=by
 intro pins s σ H Q I h
 exact isTrue_not (ha pins s σ H (fun c H1=>Q (!c) H1) I h)
def tOrV (ta tb:TE):TE:=fun σ H Q=>ta σ H fun x H1=>∃ c,x=.bl c/\if c=true then Q (.bl true) H1 else tb σ H1 Q
theorem pe_one {op} {t:TE} (h:PE X a t):PE X (.BoolOp op [a] pos) t:=fun pins s σ H Q I hw=>BoolOp_one (h pins s σ H Q I hw)
theorem pe_or (ha:PE X a ta) (hb:PE X (.BoolOp .Or (b::rest) pos) tb):PE X (.BoolOp .Or (a::b::rest) pos) (tOrV ta tb):=by
 intro pins s σ H Q I h
 refine BoolOp_or (thn (ha pins s σ H _ I h) fun v s1 ⟨x,H1,I1,r1,q1⟩=>?_)
 obtain⟨c,rfl,q1⟩:=q1
 cases r1
 refine wpAny_truthy_bool ?_
 cases c with
 | false=>exact hb pins s1 σ H1 Q I1 q1
 | true=>exact⟨.bl true,H1,I1,rfl,q1⟩
def tIf (t:TT) (ta tb:TE):TE:=fun σ H Q=>t σ H fun c H1=>if c=true then ta σ H1 Q else tb σ H1 Q
theorem pe_ifExp {c:Expr} (hc:PT X c tA) (ha:PE X a ta) (hb:PE X b tb):PE X (.IfExp c a b pos) (tIf tA ta tb):=by
 intro pins s σ H Q I h
 refine wpAny_IfExp (thn (hc pins s σ H _ I h) fun d s1 ⟨H1,I1,q1⟩=>?_)
 cases d with
 | true=>exact ha pins s1 σ H1 Q I1 q1
 | false=>exact hb pins s1 σ H1 Q I1 q1
end
def SqL (K:PySem.W.Frag) (H:Hp) (a:Addr) (xs:List V):Prop:=
 Rd H a (.lst xs)\/
  ∃ (o:Obj) (its:Array Value) (n:Nat),K.lookup a=some o/\o.cls=.type "list"/\o.dict=none/\o.data=.seq its n/\its.size<=sizeLine/\Vals xs its.toList
def SqT (K:PySem.W.Frag) (H:Hp) (a:Addr) (xs:List V):Prop:=
 Rd H a (.tup xs)\/
  ∃ (o:Obj) (its:Array Value) (n:Nat),K.lookup a=some o/\o.cls=.type "tuple"/\o.data=.seq its n/\its.size<=sizeLine/\Vals xs its.toList
def absV:Value->Option V
 | .none=>some .non
 | .bool b=>some (.bl b)
 | .int i _=>some (.int i)
 | .str x _=>some (.str x)
 | .bytes b _=>some (.byt b)
 | .float b _=>some (.flt b)
 | .ref a=>some (.ref a)
 | .type n=>some (.ty n)
 | _=>none
theorem RelV.abs {x:V} {u:Value} (r:RelV x u):absV u=some x:=by
 cases x with
 | non=>cases r; rfl
 | bl _=>cases r; rfl
 | int _=>obtain⟨t,rfl⟩:=r; rfl
 | str _=>obtain⟨t,rfl⟩:=r; rfl
 | byt _=>obtain⟨t,rfl⟩:=r; rfl
 | flt _=>obtain⟨t,rfl⟩:=r; rfl
 | ref _=>cases r; rfl
 | ty _=>cases r; rfl
theorem RelV.inj {x y:V} {u:Value} (r:RelV x u) (q:RelV y u):x=y:=Option.some.inj (r.abs.symm.trans q.abs)
theorem Vals.inj:∀ {xs ys:List V} {us:List Value},Vals xs us->Vals ys us->xs=ys
 | _,_,_,.nil,.nil=>rfl
 | _,_,_,.cons r t,.cons r' t'=>by rw [r.inj r',Vals.inj t t']
section
variable {X:Cx} {pins:List (Addr×Obj)} {σ:St} {H:Hp} {s:Shared} {a:Addr} {xs ys:List V}
theorem SqL.of {K:PySem.W.Frag} (h:H a=some (.lst xs)):SqL K H a xs:=.inl (.inl h)
theorem SqT.of {K:PySem.W.Frag} (h:H a=some (.tup xs)):SqT K H a xs:=.inl (.inl h)
theorem Inv.list (I:Inv X pins σ H s) (h:SqL X.K H a xs):∃ its:List Value,Vals xs its/\PlainL s.heap a its.toArray/\xs.length<=sizeLine:=by
 rcases h with h | ⟨o,its,n,hk,hc,hd,hs,hz,r⟩
 ·obtain⟨z,its,n,r,e⟩:=h.ok I.hok
  exact⟨its,r,⟨_,n,e,rfl,rfl,rfl⟩,z⟩
 ·refine⟨its.toList,r,⟨o,n,I.kIn a o hk,hc,hd,by simpa using hs⟩,?_⟩
  have e:=r.length
  simp only [Array.length_toList] at e
  omega
theorem Inv.tuple (I:Inv X pins σ H s) (h:SqT X.K H a xs):∃ its:List Value,Vals xs its/\IsTup s.heap a its.toArray/\xs.length<=sizeLine:=by
 rcases h with h | ⟨o,its,n,hk,hc,hs,hz,r⟩
 ·obtain⟨z,its,r,p⟩:=h.ok I.hok
  exact⟨its,r,p,z⟩
 ·refine⟨its.toList,r,⟨o,I.kIn a o hk,hc,n,by simpa using hs⟩,?_⟩
  have e:=r.length
  simp only [Array.length_toList] at e
  omega
theorem Inv.list_inj (I:Inv X pins σ H s) (h:SqL X.K H a xs) (h':SqL X.K H a ys):xs=ys:=by
 obtain⟨its,r,⟨o,n,e,_,_,d⟩,_⟩:=I.list h
 obtain⟨its',r',⟨o',n',e',_,_,d'⟩,_⟩:=I.list h'
 rw [e] at e'; cases e'
 rw [d] at d'
 injection d' with d1 _
 have:its=its':=by simpa using congrArg Array.toList d1
 subst this
 exact r.inj r'
theorem Inv.tuple_inj (I:Inv X pins σ H s) (h:SqT X.K H a xs) (h':SqT X.K H a ys):xs=ys:=by
 obtain⟨its,r,⟨o,e,_,n,d⟩,_⟩:=I.tuple h
 obtain⟨its',r',⟨o',e',_,n',d'⟩,_⟩:=I.tuple h'
 rw [e] at e'; cases e'
 rw [d] at d'
 injection d' with d1 _
 have:its=its':=by simpa using congrArg Array.toList d1
 subst this
 exact r.inj r'
end
abbrev Cx.wish (X:Cx) (E:Value->Shared->Prop):Cx:={X with xe:=E}
abbrev Cx.nox (X:Cx):Cx:=X.wish fun _ _=>False
theorem Cx.Ok.wish {X:Cx} (ok:X.Ok) (E:Value->Shared->Prop):(X.wish E).Ok:=
 ⟨ok.mod,ok.kind,ok.glob,ok.blt,ok.above,ok.inj,ok.has,ok.cab,ok.hd,ok.frames,ok.stk,ok.exf,ok.bs,ok.bsz,ok.noex,ok.exfs,ok.funs,ok.frf⟩
theorem Cx.Ok.unwish {X:Cx} {E:Value->Shared->Prop} (ok:(X.wish E).Ok):X.Ok:=
 ⟨ok.mod,ok.kind,ok.glob,ok.blt,ok.above,ok.inj,ok.has,ok.cab,ok.hd,ok.frames,ok.stk,ok.exf,ok.bs,ok.bsz,ok.noex,ok.exfs,ok.funs,ok.frf⟩
section
variable {X:Cx} {pins:List (Addr×Obj)} {σ:St} {H:Hp} {s:Shared} {E:Value->Shared->Prop}
theorem Inv.wish (I:Inv X pins σ H s) (E:Value->Shared->Prop):Inv (X.wish E) pins σ H s:=⟨I.ok.wish E,I.os,I.bare,I.base,I.loc,I.cell,I.free,I.freeC,I.pin,I.hok,I.len⟩
theorem Inv.unwish (I:Inv (X.wish E) pins σ H s):Inv X pins σ H s:=⟨I.ok.unwish,I.os,I.bare,I.base,I.loc,I.cell,I.free,I.freeC,I.pin,I.hok,I.len⟩
theorem SP.unwish {D:Ends} {f:Flow} {s':Shared} (h:SP (X.wish E) pins D f s'):SP X pins D f s':=by
 cases f with
 | next=>obtain⟨σ',H',I,q⟩:=h; exact⟨σ',H',I.unwish,q⟩
 | brk=>obtain⟨σ',H',I,q⟩:=h; exact⟨σ',H',I.unwish,q⟩
 | cont=>obtain⟨σ',H',I,q⟩:=h; exact⟨σ',H',I.unwish,q⟩
 | ret u=>obtain⟨v,σ',H',I,r,q⟩:=h; exact⟨v,σ',H',I.unwish,r,q⟩
theorem PSs.nox {st:List Stmt} {t:TS} (h:PSs X.nox st t):PSs X st t:=fun pins s σ H D I hw=>
 wpAny_mono (h pins s σ H D (I.wish _) hw) (fun _ _ q=>q.unwish) fun _ _ z=>False.elim z
end
section
variable {X:Cx} {st:Stmt} {rest:List Stmt} {t u:TS} {e:Expr} {te:TE} {pos:Pos}
def tNext:TS:=fun D σ H=>D.nx σ H
def tSeq (t u:TS):TS:=fun D σ H=>t {D with nx:=u D} σ H
theorem pss_nil:PSs X [] tNext:=fun _ _ σ H _ I h=>wpAny_execs_nil ⟨σ,H,I,h⟩
theorem pss_cons (h1:PS X st t) (h2:PSs X rest u):PSs X (st::rest) (tSeq t u):=by
 intro pins s σ H D I h
 refine wpAny_execs_cons (thn (h1 pins s σ H {D with nx:=u D} I h) fun f s1 q=>?_)
 cases f with
 | next=>
  obtain⟨σ',H',I',q⟩:=q
  exact h2 pins s1 σ' H' D I' q
 | ret v=>exact q
 | brk=>exact q
 | cont=>exact q
theorem pss_one (h1:PS X st t):PSs X [st] t:=by
 intro pins s σ H D I h
 refine wpAny_execs_cons (thn (h1 pins s σ H D I h) fun f s1 q=>?_)
 cases f with
 | next=>exact wpAny_execs_nil q
 | ret v=>exact q
 | brk=>exact q
 | cont=>exact q
theorem Inv.quiet {pins:List (Addr×Obj)} {σ:St} {H:Hp} {s:Shared} (I:Inv X pins σ H s):interactive X.env=false:=by simp [interactive,I.ok.kind]
def tDrop (te:TE):TS:=fun D σ H=>te σ H fun _ H1=>D.nx σ H1
theorem ps_expr (he:PE X e te) (hs:swapsWith e none pos.line X.env=pure false:=by rfl):PS X (.Expr e pos) (tDrop te):=by
 intro pins s σ H D I h
 exact wpAny_Expr_any (thn (he pins s σ H _ I h) fun v s1 ⟨x,H1,I1,r1,q1⟩=>⟨σ,H1,I1,q1⟩) I.quiet hs
def tRet (te:TE):TS:=fun D σ H=>te σ H D.rt
theorem ps_ret (he:PE X e te):PS X (.Return (some e) pos) (tRet te):=by
 intro pins s σ H D I h
 exact wpAny_Return_some (thn (he pins s σ H _ I h) fun v s1 ⟨x,H1,I1,r1,q1⟩=>⟨x,σ,H1,I1,r1,q1⟩)
def tIfS (c:TT) (t u:TS):TS:=fun D σ H=>c σ H fun b H1=>if b=true then t D σ H1 else u D σ H1
theorem ps_if {c:Expr} {a b:List Stmt} {tc:TT} (hc:PT X c tc) (ha:PSs X a t) (hb:PSs X b u):PS X (.If c a b pos) (tIfS tc t u):=by
 intro pins s σ H D I h
 refine wpAny_If (thn (hc pins s σ H _ I h) fun d s1 ⟨H1,I1,q1⟩=>?_)
 cases d with
 | true=>exact ha pins s1 σ H1 D I1 q1
 | false=>exact hb pins s1 σ H1 D I1 q1
def tNever:TS:=fun _ _ _=>False
theorem ps_never:PS X st tNever:=fun _ _ _ _ _ _ h=>h.elim
theorem pss_never {sts:List Stmt}:PSs X sts tNever:=fun _ _ _ _ _ _ h=>h.elim
end
abbrev TG:=V->St->Hp->(St->Hp->Prop)->Prop
abbrev TGs:=List V->St->Hp->(St->Hp->Prop)->Prop
def PG (X:Cx) (target:Expr) (t:TG):Prop:=
 ∀ (pins:List (Addr×Obj)) (s:Shared) (σ:St) (H:Hp) (v:V) (u:Value) (Q:St->Hp->Prop),Inv X pins σ H s->RelV v u->t v σ H Q->
  wpAny (model X.prog X.w) X.A (assign target X.env u) (fun _ s'=>∃ σ' H',Inv X pins σ' H' s'/\Q σ' H') X.xe s
def PGs (X:Cx) (ts:List Expr) (t:TGs):Prop:=
 ∀ (pins:List (Addr×Obj)) (s:Shared) (σ:St) (H:Hp) (vs:List V) (us:List Value) (Q:St->Hp->Prop),Inv X pins σ H s->Vals vs us->t vs σ H Q->
  wpAny (model X.prog X.w) X.A (assignInOrder ((assignEach ts X.env).map (·.2)) us) (fun _ s'=>∃ σ' H',Inv X pins σ' H' s'/\Q σ' H') X.xe s
abbrev TSet:=V->V->V->Hp->(Hp->Prop)->Prop
def PSet (X:Cx) (t:TSet):Prop:=
 ∀ (pins:List (Addr×Obj)) (s:Shared) (σ:St) (H:Hp) (o i v:V) (ov iv u:Value) (Q:Hp->Prop),Inv X pins σ H s->RelV o ov->RelV i iv->RelV v u->t o i v H Q->
  wpAny (model X.prog X.w) X.A (setItem ov iv u) (fun _ s'=>∃ H',Inv X pins σ H' s'/\Q H') X.xe s
section
variable {X:Cx} {pos:Pos}
def gName (i:Nat):TG:=fun v σ H Q=>Q (σ.set i (some v)) H
theorem pg_name {i:Nat} {x:Str} (hN:X.N.Nodup) (hi:X.N[i]?=some x) (hx:Loc X.env.scope x) (hf:X.fn x=true\/X.env.scope.names.lookup x=some .local:=by first | exact .inl rfl | exact .inr rfl | assumption):PG X (.Name x pos) (gName i):=by
 intro pins s σ H v u Q I r h
 exact wpAny_assign_Name (store_ok I hN hi hx r (fun s' I'=>⟨_,H,I',h⟩) hf)
def gNil:TGs:=fun vs σ H Q=>vs=[]/\Q σ H
def gCons (t:TG) (u:TGs):TGs:=fun vs σ H Q=>∃ v r,vs=v::r/\t v σ H fun σ' H'=>u r σ' H' Q
theorem pgs_nil:PGs X [] gNil:=by
 intro pins s σ H vs us Q I r h
 obtain⟨e,h⟩:=h
 subst e
 cases r
 exact assignInOrder_nil ⟨σ,H,I,h⟩
theorem pgs_cons {e:Expr} {es:List Expr} {t:TG} {u:TGs} (h1:PG X e t) (h2:PGs X es u)
  (hs:(assignEach (e::es) X.env).map (·.2)=assign e X.env::(assignEach es X.env).map (·.2):=by rfl):PGs X (e::es) (gCons t u):=by
 intro pins s σ H vs us Q I r h
 obtain⟨v,vr,e1,h⟩:=h
 subst e1
 cases r with
 | cons r rr=>
  rw [hs]
  refine assignInOrder_cons (thn (h1 pins s σ H _ _ _ I r h) fun _ s1 ⟨σ1,H1,I1,q1⟩=>?_)
  exact h2 pins s1 σ1 H1 _ _ Q I1 rr q1
def gTup (K:PySem.W.Frag) (n:Nat) (t:TGs):TG:=fun v σ H Q=>∃ a xs,v=.ref a/\SqT K H a xs/\xs.length=n/\t xs σ H Q
theorem pg_tup {es:List Expr} {k:Nat} {t:TGs} {n:Nat} (hc:X.calm=true) (h:PGs X es t)
  (hn:(assignEach es X.env).length=n:=by rfl) (hst:(assignEach es X.env).findIdx? (·.1)=none:=by rfl):PG X (.Tuple es k pos) (gTup X.K n t):=by
 intro pins s σ H v u Q I r hw
 obtain⟨a,xs,e1,hq,hl,hw⟩:=hw
 subst e1
 cases r
 obtain⟨its,rv,ht,hz⟩:=I.tuple hq
 refine assign_Tuple_tuple (I.ok.hd hc) ht (by simp [hn,<- hl,rv.length]) hst fun h' hx=>?_
 have I1:Inv X pins σ H {s with heap:=h'}:=I.kept (t':=s.toks) fun b o e=>hx b o (Nat.ne_of_lt (Heap.lt_size e)) e
 exact h pins _ σ H xs _ Q I1 (by simpa using rv) hw
def gSub (to ti:TE) (t:TSet):TG:=fun v σ H Q=>to σ H fun o H1=>ti σ H1 fun i H2=>t o i v H2 fun H3=>Q σ H3
theorem pg_sub {o i:Expr} {to ti:TE} {t:TSet} (ho:PE X o to) (hi:PE X i ti) (hs:PSet X t)
  (ha:∀ v,assign (.Subscript o i pos) X.env v=(do
   let ov <- holding [v] (eval o X.env)
   let iv <- holding [v,ov] (eval i X.env)
   standAt pos
   holding [v,ov,iv] (setItem ov iv v)
   release [v,ov,iv] []):=by intro _; rfl):PG X (.Subscript o i pos) (gSub to ti t):=by
 intro pins s σ H v u Q I r h
 rw [ha]
 refine wpAny_bind (wpAny_holding (thn (ho pins s σ H _ I h) fun ov s1 ⟨x,H1,I1,r1,q1⟩=>?_))
 refine wpAny_bind (wpAny_holding (thn (hi pins s1 σ H1 _ I1 q1) fun iv s2 ⟨y,H2,I2,r2,q2⟩=>?_))
 refine wpAny_bind (wpAny_standAt (wpAny_bind (wpAny_holding (thn (hs pins s2 σ H2 x y v ov iv u _ I2 r1 r2 r q2) fun _ s3 ⟨H3,I3,q3⟩=>?_))))
 exact wpAny_release ⟨σ,H3,I3,q3⟩
def tAsg (te:TE) (g:TG):TS:=fun D σ H=>te σ H fun x H1=>g x σ H1 D.nx
theorem ps_asg {tg e:Expr} {te:TE} {g:TG} (he:PE X e te) (hg:PG X tg g) (hs:swapsWithSole [tg] e pos.line X.env=pure false:=by rfl) (hw:swappedStores [tg] e X.env=pure none:=by rfl)
  (h1:(assignEach [tg] X.env).map (·.2)=[assign tg X.env]:=by rfl):PS X (.Assign [tg] e pos) (tAsg te g):=by
 intro pins s σ H D I h
 refine wpAny_Assign_stores (thn (he pins s σ H _ I h) fun v s1 ⟨x,H1,I1,r1,q1⟩=>?_) hs hw
 rw [h1]
 exact thn (hg pins s1 σ H1 x v _ I1 r1 q1) fun _ s2 q=>q
theorem ps_set {i:Nat} {x:Str} {e:Expr} {te:TE} {pos':Pos} (hN:X.N.Nodup) (hi:X.N[i]?=some x) (hx:Loc X.env.scope x) (he:PE X e te) (hs:swapsWith e (some (.Name x pos')) pos.line X.env=pure false:=by rfl) (hf:X.fn x=true\/X.env.scope.names.lookup x=some .local:=by first | exact .inl rfl | exact .inr rfl | assumption):
  PS X (.Assign [.Name x pos'] e pos) (tAsg te (gName i)):=by
 intro pins s σ H D I h
 refine wpAny_Assign_Name (thn (he pins s σ H _ I h) fun v s1 ⟨y,H1,I1,r1,q1⟩=>?_) hs
 exact store_ok I1 hN hi hx r1 (fun s2 I2=>⟨_,H1,I2,q1⟩) hf
def tPar (i j:Nat) (ta:TA):TS:=fun D σ H=>ta σ H fun vs H1=>∃ v w,vs=[v,w]/\D.nx ((σ.set i (some v)).set j (some w)) H1
theorem ps_par {i j:Nat} {x y:Str} {a b:Expr} {ta:TA} {px py pt:Pos} {kt k2 pt2} (hc:X.calm=true) (hN:X.N.Nodup) (hi:X.N[i]?=some x) (hj:X.N[j]?=some y) (hij:i≠j)
  (hx:X.env.scope.names.lookup x=some .local) (hy:X.env.scope.names.lookup y=some .local) (ha:PA X [a,b] ta)
  (hw:swappedStores [.Tuple [.Name x px,.Name y py] kt pt] (.Tuple [a,b] k2 pt2) X.env=pure (some [x,y]))
  (hs:swapsWithSole [.Tuple [.Name x px,.Name y py] kt pt] (.Tuple [a,b] k2 pt2) pos.line X.env=pure false:=by rfl):
  PS X (.Assign [.Tuple [.Name x px,.Name y py] kt pt] (.Tuple [a,b] k2 pt2) pos) (tPar i j ta):=by
 intro pins s σ H D I h
 rw [exec_Assign_arm]
 refine wpAny_bind (wpAny_standAt ?_)
 rw [hs]
 refine wpAny_bind (wpAny_pure ?_)
 rw [if_neg (by decide)]
 refine wpAny_bind (Tuple_ (thn (ha _ pins s σ H _ I h) fun us s1 ⟨vs,H1,I1,r1,q1⟩=>?_))
 obtain⟨v,w,e1,q1⟩:=q1
 subst e1
 obtain⟨u1,u2,rfl,rv,rw'⟩:∃ u1 u2,us=[u1,u2]/\RelV v u1/\RelV w u2:=by
  cases r1 with
  | cons p q=>
   cases q with
   | cons p' q'=>
    cases q'
    exact⟨_,_,rfl,p,p'⟩
 refine wpAny_newObj_type ?_ (by show 2<=sizeLine; decide)
 have I2:Inv X pins σ H1 {s1 with heap:=s1.heap.push {cls:=.type "tuple",data:=.seq [u1,u2].toArray}}:=I1.kept (t':=s1.toks) fun b o e=>Heap.get?_push_of_some _ e
 rw [hw]
 refine wpAny_bind (wpAny_pure ?_)
 show wpAny (model X.prog X.w) X.A (do rule "assign.swapped-stores"; let items <- unpackItems (.ref s1.heap.objs.size) 2 none; assignInOrder [fun v=>bindName X.env y v,fun v=>bindName X.env x v] items.reverse; pure Flow.next) _ _ _
 refine wpAny_bind (wpAny_rule (wpAny_bind (unpackItems_tuple (items:=#[u1,u2]) (I.ok.hd hc) (IsTup.new s1.heap _) fun h' hx'=>?_)))
 have I3:=I2.kept (h':=h') (t':=s1.toks) fun b o e=>hx' b o (Nat.ne_of_lt (Heap.lt_size e)) e
 show wpAny _ _ (assignInOrder [fun v=>bindName X.env y v,fun v=>bindName X.env x v] [u2,u1] >>= fun _=>pure Flow.next) _ _ _
 refine wpAny_bind (assignInOrder_cons (wpAny_bindName (store_ok I3 hN hj (.inl hy) rw' (fun s2 I4=>?_) (.inr hy))))
 refine assignInOrder_cons (wpAny_bindName (store_ok I4 hN hi (.inl hx) rv (fun s3 I5=>assignInOrder_nil (wpAny_pure ?_)) (.inr hx)))
 rw [List.set_comm _ _ (Ne.symm hij)] at I5
 exact⟨_,H1,I5,q1⟩
end
section
variable {X:Cx} {pos:Pos}
def tWhile (c:TT) (tb:TS):TS:=fun D σ H=>∃ W:Nat->St->Hp->Prop,(∃ m,W m σ H)/\∀ m σ H,W m σ H->
 c σ H fun b H1=>if b=true then ∃ N:St->Hp->Prop,(∀ σ' H',N σ' H'->∃ m',m' < m/\W m' σ' H')/\tb {D with nx:=N,ct:=N,bk:=D.nx} σ H1 else D.nx σ H1
theorem ps_while {c:Expr} {body:List Stmt} {tc:TT} {tb:TS} (hp:PassesOwn (model X.prog X.w) X.A X.env X.xe) (hc:PT X c tc) (hb:PSs X body tb):PS X (.While c body [] pos) (tWhile tc tb):=by
 intro pins s σ H D I h
 obtain⟨W,⟨m0,w0⟩,turn⟩:=h
 refine wpAny_While (codeAny_whileLoop (fun n s'=>∃ σ' H',Inv X pins σ' H' s'/\W n σ' H') ?_ m0 ⟨σ,H,I,w0⟩)
 rintro n s1 ⟨σ1,H1,I1,w1⟩
 refine wpAny_passesOwn hp (thn (hc pins s1 σ1 H1 _ I1 (turn n σ1 H1 w1)) fun b s2 ⟨H2,I2,q2⟩=>?_)
 cases b with
 | true=>
  obtain⟨N,hN,q2⟩:=q2
  rw [if_pos rfl]
  refine wpAny_passesOwn hp (thn (hb pins s2 σ1 H2 _ I2 q2) fun f s3 q3=>?_)
  cases f with
  | next=>
   obtain⟨σ3,H3,I3,n3⟩:=q3
   obtain⟨m',hm,w3⟩:=hN σ3 H3 n3
   exact⟨m',hm,σ3,H3,I3,w3⟩
  | cont=>
   obtain⟨σ3,H3,I3,n3⟩:=q3
   obtain⟨m',hm,w3⟩:=hN σ3 H3 n3
   exact⟨m',hm,σ3,H3,I3,w3⟩
  | brk=>exact q3
  | ret v=>exact q3
 | false=>
  rw [if_neg Bool.false_ne_true]
  exact wpAny_execs_nil ⟨σ1,H2,I2,q2⟩
end
structure It where
 go:Nat->Hp->Prop
 yld:Nat->Hp->V->Hp->Prop
 stop:Nat->Hp->Prop
def FpOk (X:Cx) (pins:List (Addr×Obj)) (H:Hp) (b:Addr):Prop:=
 H b=none/\b≠X.env.locals/\b∉X.fs/\(b∈X.ex\/X.s₀.heap.objs.size<=b)/\(∀ x c,X.env.cells.lookup x=some c->c≠b)/\∀ p∈X.pn++pins,p.1≠b
theorem Inv.fpOk {X:Cx} {pins:List (Addr×Obj)} {σ:St} {H H':Hp} {s:Shared} {b:Addr} (I:Inv X pins σ H s) (hb:s.heap.objs.size<=b) (hn:H' b=none):FpOk X pins H' b:=by
 refine⟨hn,Nat.ne_of_gt (Nat.lt_of_lt_of_le I.lt hb),I.nofs hb,.inr (Nat.le_trans I.sz hb),fun x c e z=>?_,fun p hp z=>?_⟩
 ·obtain⟨v,q⟩:=I.cell x c e
  exact absurd (Nat.lt_of_lt_of_le q.lt (by rw [z]; exact hb)) (Nat.lt_irrefl _)
 ·exact absurd (Nat.lt_of_lt_of_le (Heap.lt_size (I.pin p hp).1) (by rw [z]; exact hb)) (Nat.lt_irrefl _)
structure Turn (P:Program) (w:World) (K:PySem.W.Frag) (tg:Expr) (J:It) (fp:List Addr) (it:Addr) (tn:Nat->Heap->Prop):Prop where
 mem:it∈fp
 obj:∀ i h,tn i h->∀ b∈fp,∃ o,h.get? b=some o/\∀ v,o.data≠.cell v
 keep:∀ i h h',tn i h->(∀ b∈fp,∀ o,h.get? b=some o->h'.get? b=some o)->tn i h'
 item:∀ (X:Cx),X.prog=P->X.w=w->X.K=K->X.calm=true->∀ (i:Nat) (pins:List (Addr×Obj)) (s:Shared) (σ:St) (H:Hp) (E:Value->Shared->Prop),Inv X pins σ H s->(∀ b∈fp,FpOk X pins H b)->tn i s.heap->J.go i H->
  wpAny (model P w) X.A (pyNext (.ref it)) (fun r s1=>∃ u,r=some u/\
   wpAny (model P w) X.A (letOwnedTupleGo tg (.ref it) u) (fun _ s2=>∃ x H',Inv X pins σ H' s2/\RelV x u/\J.yld i H x H'/\tn (i+1) s2.heap/\∀ b∈fp,H' b=none) E s1) E s
 done:∀ (X:Cx),X.prog=P->X.w=w->X.K=K->X.calm=true->∀ (i:Nat) (pins:List (Addr×Obj)) (s:Shared) (σ:St) (H:Hp) (E:Value->Shared->Prop),Inv X pins σ H s->(∀ b∈fp,FpOk X pins H b)->tn i s.heap->J.stop i H->
  wpAny (model P w) X.A (pyNext (.ref it)) (fun r s1=>r=none/\Inv X pins σ H s1) E s
 self:∀ (A:Around) (i:Nat) (s:Shared) (Q:Value->Shared->Prop) (E:Value->Shared->Prop),tn i s.heap->Q (.ref it) s->wpAny (model P w) A (pyIter (.ref it)) Q E s
abbrev TI:=St->Hp->(It->Hp->Prop)->Prop
def PIE (X:Cx) (pins:List (Addr×Obj)) (σ:St) (tg:Expr) (R:It->Hp->Prop) (itv:Value) (s2:Shared):Prop:=
 ∃ (it:Addr) (fp:List Addr) (tn:Nat->Heap->Prop) (J:It) (H':Hp),itv=.ref it/\Inv X pins σ H' s2/\Turn X.prog X.w X.K tg J fp it tn/\tn 0 s2.heap/\(∀ b∈fp,FpOk X pins H' b)/\R J H'
def PI (X:Cx) (tg iter:Expr) (wi:TI):Prop:=
 ∀ (pins:List (Addr×Obj)) (s:Shared) (σ:St) (H:Hp) (R:It->Hp->Prop),Inv X pins σ H s->wi σ H R->
  wpAny (model X.prog X.w) X.A (eval iter X.env) (fun v s1=>wpAny (model X.prog X.w) X.A (pyIter v) (PIE X pins σ tg R) X.xe s1) X.xe s
theorem go_of {M:Model} {A:Around} {E:Value->Shared->Prop} {s:Shared} {tg:Expr} {it:Addr} {u:Value} {o:Obj} {n:String} {vs:Array Value} {Q:Unit->Shared->Prop} (ho:s.heap.get? it=some o) (hc:o.cls=.type n) (hd:o.data=.fields vs)
  (hn:["enumerate","zip","dict_itemiterator","dict_reverseitemiterator","odict_iterator","itertools.zip_longest","itertools.pairwise"].contains n=false) (hQ:Q () s):wpAny M A (letOwnedTupleGo tg (.ref it) u) Q E s:=by
 unfold letOwnedTupleGo
 cases tg <;> first
  | exact wpAny_pure hQ
  | (cases u <;> first
    | exact wpAny_pure hQ
    | (refine wpAny_bind (wpAny_load ho ?_)
       rw [hc,hd]
       show wpAny M A (if (["enumerate","zip","dict_itemiterator","dict_reverseitemiterator","odict_iterator","itertools.zip_longest","itertools.pairwise"].contains n && vs[0]? == some (rawInt _))=true then _ else _) Q E s
       rw [if_neg (by intro h; rw [hn,Bool.false_and] at h; cases h)]
       exact wpAny_pure hQ))
def Itl (K:PySem.W.Frag) (a:Addr):It:=
 ⟨fun i H=>∃ xs x,SqL K H a xs/\xs[i]?=some x,fun i H x H'=>H'=H/\∀ xs,SqL K H a xs->xs[i]?=some x,fun i H=>∃ xs,SqL K H a xs/\xs.length<=i⟩
def Itt (K:PySem.W.Frag) (a:Addr):It:=
 ⟨fun i H=>∃ xs x,SqT K H a xs/\xs[i]?=some x,fun i H x H'=>H'=H/\∀ xs,SqT K H a xs->xs[i]?=some x,fun i H=>∃ xs,SqT K H a xs/\xs.length<=i⟩
def Itr (lo:Int) (n:Nat):It:=⟨fun i _=>i < n,fun i H x H'=>H'=H/\x=.int (lo+i),fun i _=>n<=i⟩
theorem turn_list {P:Program} {w:World} {K:PySem.W.Frag} {tg:Expr} (a it:Addr):Turn P w K tg (Itl K a) [it] it (fun i h=>h.IsListIter it a i) where
 mem:=by simp
 obj:=fun i h st b hb=>by
  have e:b=it:=by simpa using hb
  subst e
  obtain⟨o,e,c,d⟩:=st
  exact⟨o,e,fun v z=>by rw [d] at z; cases z⟩
 keep:=fun i h h' st k=>st.at fun o e=>k it (by simp) o e
 item:=by
  intro X hP hw hK hc i pins s σ H E I hf st hg
  subst hP hw hK
  obtain⟨xs,x,hq,hx⟩:=hg
  obtain⟨its,rv,p,hz⟩:=I.list hq
  obtain⟨u,hu,ru⟩:=rv.get hx
  obtain⟨f0,f1,f2,f3,f4,f5⟩:=hf it (by simp)
  refine wpAny_pyNext_list_item st p.isList (x:=u) (by simpa using hu) fun h' st' sb=>?_
  have I1:Inv X pins σ H {s with heap:=h'}:=I.turned (t':=s.toks) (fun b o hb e=>(sb.2 b hb).trans e) f0 f1 f3 f4 f5
  obtain⟨o,e,c,d⟩:=id st'
  exact⟨u,rfl,go_of (s:={s with heap:=h'}) e c d (by decide) ⟨x,H,I1,ru,⟨rfl,fun ys hy=>by rw [I.list_inj hy hq]; exact hx⟩,st',fun b hb=>(hf b hb).1⟩⟩
 done:=by
  intro X hP hw hK hc i pins s σ H E I hf st hg
  subst hP hw hK
  obtain⟨xs,hq,hx⟩:=hg
  obtain⟨its,rv,p,hz⟩:=I.list hq
  obtain⟨f0,f1,f2,f3,f4,f5⟩:=hf it (by simp)
  have hl:=rv.length
  exact wpAny_pyNext_list_end (I.ok.hd hc) st p.isList (by simp; omega) fun h' eb=>⟨rfl,I.turned (t':=s.toks) (fun b o hb e=>eb b o hb e) f0 f1 f3 f4 f5⟩
 self:=fun _ _ _ _ _ st h=>wpAny_pyIter_listiter st h
theorem turn_tuple {P:Program} {w:World} {K:PySem.W.Frag} {tg:Expr} (a it:Addr):Turn P w K tg (Itt K a) [it] it (fun i h=>h.IsTupleIter it a i) where
 mem:=by simp
 obj:=fun i h st b hb=>by
  have e:b=it:=by simpa using hb
  subst e
  obtain⟨o,e,c,d⟩:=st
  exact⟨o,e,fun v z=>by rw [d] at z; cases z⟩
 keep:=fun i h h' st k=>st.at fun o e=>k it (by simp) o e
 item:=by
  intro X hP hw hK hc i pins s σ H E I hf st hg
  subst hP hw hK
  obtain⟨xs,x,hq,hx⟩:=hg
  obtain⟨its,rv,p,hz⟩:=I.tuple hq
  obtain⟨u,hu,ru⟩:=rv.get hx
  obtain⟨f0,f1,f2,f3,f4,f5⟩:=hf it (by simp)
  refine wpAny_pyNext_tuple_item st (show s.heap.IsTuple a its.toArray from p) (x:=u) (by simpa using hu) fun h' st' sb=>?_
  have I1:Inv X pins σ H {s with heap:=h'}:=I.turned (t':=s.toks) (fun b o hb e=>(sb.2 b hb).trans e) f0 f1 f3 f4 f5
  obtain⟨o,e,c,d⟩:=id st'
  exact⟨u,rfl,go_of (s:={s with heap:=h'}) e c d (by decide) ⟨x,H,I1,ru,⟨rfl,fun ys hy=>by rw [I.tuple_inj hy hq]; exact hx⟩,st',fun b hb=>(hf b hb).1⟩⟩
 done:=by
  intro X hP hw hK hc i pins s σ H E I hf st hg
  subst hP hw hK
  obtain⟨xs,hq,hx⟩:=hg
  obtain⟨its,rv,p,hz⟩:=I.tuple hq
  obtain⟨f0,f1,f2,f3,f4,f5⟩:=hf it (by simp)
  have hl:=rv.length
  exact wpAny_pyNext_tuple_end (I.ok.hd hc) st (show s.heap.IsTuple a its.toArray from p) (by simp; omega) fun h' eb=>⟨rfl,I.turned (t':=s.toks) (fun b o hb e=>eb b o hb e) f0 f1 f3 f4 f5⟩
 self:=fun _ _ _ _ _ st h=>wpAny_pyIter_tupleiter st h
theorem turn_range {P:Program} {w:World} {K:PySem.W.Frag} {tg:Expr} (it:Addr) (lo:Int) (n:Nat):Turn P w K tg (Itr lo n) [it] it (fun i h=>IsRangeIter h it (lo+(i:Nat)*1) ((n:Int) - (i:Nat)) 1) where
 mem:=by simp
 obj:=fun i h st b hb=>by
  have e:b=it:=by simpa using hb
  subst e
  exact⟨_,st,fun v z=>by
   have z':Data.fields _=Data.cell v:=z
   cases z'⟩
 keep:=fun i h h' st k=>k it (by simp) _ st
 item:=by
  intro X hP hw hK hc i pins s σ H E I hf st hg
  subst hP hw hK
  obtain⟨f0,f1,f2,f3,f4,f5⟩:=hf it (by simp)
  have W:=Walks.range (prog:=X.prog) (w:=X.w) (I.ok.hd hc) it lo 1 n
  refine W.item i s _ _ hg st fun v h' tk hv st' kk=>?_
  obtain⟨t,rfl⟩:=hv
  have I1:Inv X pins σ H {s with heap:=h',toks:=tk}:=I.turned (fun b o hb e=>kk b o (by simpa using hb) e) f0 f1 f3 f4 f5
  refine⟨_,rfl,go_of (s:={s with heap:=h',toks:=tk}) (n:="range_iterator") st' rfl rfl (by decide) ⟨.int (lo+i),H,I1,⟨t,?_⟩,⟨rfl,rfl⟩,st',fun b hb=>(hf b hb).1⟩⟩
  rw [Int.mul_one]
 done:=by
  intro X hP hw hK hc i pins s σ H E I hf st hg
  subst hP hw hK
  obtain⟨f0,f1,f2,f3,f4,f5⟩:=hf it (by simp)
  exact wpAny_pyNext_range_end (I.ok.hd hc) st (by have:n<=i:=hg; omega) fun h' eb=>⟨rfl,I.turned (t':=s.toks) (fun b o hb e=>eb b o hb e) f0 f1 f3 f4 f5⟩
 self:=fun _ _ _ _ _ st h=>wpAny_pyIter_rangeiter st h
section
variable {X:Cx} {tg:Expr}
theorem range_it {pins:List (Addr×Obj)} {σ:St} {H:Hp} {s:Shared} {R:It->Hp->Prop} {E:Value->Shared->Prop} {lo hi:Int} {t u v:Tok} {tk:Nat} (I:Inv X pins σ H s) (h1:-(2 ^ 62)<=lo) (h2:lo < 2 ^ 62) (h3:-(2 ^ 62)<=hi) (h4:hi < 2 ^ 62)
  (q:R (Itr lo (hi - lo).toNat) H):wpAny (model X.prog X.w) X.A (pyIter (.ref s.heap.objs.size)) (PIE X pins σ tg R) E {s with heap:=s.heap.push {cls:=.type "range",data:=.fields #[.int lo t,.int hi u,.int 1 v]},toks:=tk}:=by
 refine wpAny_pyIter_range (IsRange.new ..) (small_one h1 h2 h3 h4) ?_
 have I1:Inv X pins σ H {s with heap:=s.heap.push {cls:=.type "range",data:=.fields #[.int lo t,.int hi u,.int 1 v]},toks:=tk}:=I.kept fun b o e=>Heap.get?_push_of_some _ e
 refine⟨(s.heap.push {cls:=.type "range",data:=.fields #[.int lo t,.int hi u,.int 1 v]}).objs.size,[(s.heap.push {cls:=.type "range",data:=.fields #[.int lo t,.int hi u,.int 1 v]}).objs.size],_,_,H,rfl,
  I1.kept (t':=tk) fun b o e=>Heap.get?_push_of_some _ e,turn_range _ lo (hi - lo).toNat,?_,fun b hb=>?_,q⟩
 ·have e1:lo+((0:Nat):Int)*1=lo:=by simp
  have e2:(((hi - lo).toNat:Nat):Int) - ((0:Nat):Int)=Builtin.Range.rangeSize lo hi 1:=by rw [rangeSize_one]; split <;> omega
  show IsRangeIter _ _ (lo+((0:Nat):Int)*1) ((((hi - lo).toNat:Nat):Int) - ((0:Nat):Int)) 1
  rw [e1,e2]
  exact Heap.get?_push_size _ rfl
 ·have e:b=(s.heap.push {cls:=.type "range",data:=.fields #[.int lo t,.int hi u,.int 1 v]}).objs.size:=by simpa using hb
  subst e
  exact I1.fpOk (Nat.le_refl _) (I1.hok.fresh (Nat.le_refl _))
def iRng1 (ta:TA):TI:=fun σ H R=>ta σ H fun vs H1=>∃ j:Int,vs=[.int j]/\-(2 ^ 62)<=j/\j < 2 ^ 62/\R (Itr 0 j.toNat) H1
theorem pi_range1 {a:Expr} {ta:TA} {p pos:Pos} (hg:Gl X "range") (hm:X.mg "range"=none) (ha:PA X [a] ta) (hs:starEach [a] X.env=[(false,eval a X.env)]:=by rfl):PI X tg (.Call (.Name "range" p) [a] [] pos) (iRng1 ta):=by
 intro pins s σ H R I h
 refine Call_ (ld_blt I hg hm boot_range (PyProof.Rows.callWith_type1 (thn (ha pos pins s σ H _ I h) fun us s1 ⟨vs,H1,I1,r1,q1⟩=>?_) hs rfl))
 obtain⟨j,e,q1,q2,q⟩:=q1
 subst e
 cases r1 with
 | cons r rr=>
  cases rr
  obtain⟨t,rfl⟩:=r
  exact call_range_1 (range_it I1 (by omega) (by omega) q1 q2 (by simpa using q))
def tFor (wi:TI) (g:TG) (tb:TS):TS:=fun D σ H=>wi σ H fun J H1=>∃ W:Nat->Nat->St->Hp->Prop,(∃ m,W 0 m σ H1)/\∀ i m σ H,W i m σ H->
 (J.stop i H/\D.nx σ H)\/(J.go i H/\∃ N:St->Hp->Prop,(∀ σ' H',N σ' H'->∃ m',m' < m/\W (i+1) m' σ' H')/\∀ x H',J.yld i H x H'->g x σ H' fun σ2 H2=>tb {D with nx:=N,ct:=N,bk:=D.nx} σ2 H2)
def pinsAt (fp:List Addr) (h:Heap):List (Addr×Obj):=fp.filterMap fun b=>(h.get? b).map fun o=>(b,o)
theorem mem_pinsAt {fp:List Addr} {h:Heap} {b:Addr} {o:Obj} (hb:b∈fp) (e:h.get? b=some o):(b,o)∈pinsAt fp h:=List.mem_filterMap.mpr ⟨b,hb,by rw [e]; rfl⟩
theorem of_pinsAt {fp:List Addr} {h:Heap} {p:Addr×Obj} (hp:p∈pinsAt fp h):p.1∈fp/\h.get? p.1=some p.2:=by
 obtain⟨b,hb,e⟩:=List.mem_filterMap.mp hp
 cases q:h.get? b with
 | none=>rw [q] at e; cases e
 | some o=>
  rw [q] at e
  have e':(b,o)=p:=Option.some.inj e
  subst e'
  exact⟨hb,q⟩
theorem Inv.pinned {pins:List (Addr×Obj)} {σ:St} {H:Hp} {s:Shared} {fp:List Addr} (I:Inv X pins σ H s) (hf:∀ b∈fp,FpOk X pins H b) (ho:∀ b∈fp,∃ o,s.heap.get? b=some o/\∀ v,o.data≠.cell v):Inv X (pins++pinsAt fp s.heap) σ H s:=
 I.pins_of fun p hp=>(List.mem_append.mp hp).elim (fun z=>I.pin p (List.mem_append_right _ z)) fun z=>by
  obtain⟨hb,e⟩:=of_pinsAt z
  obtain⟨f0,f1,f2,_⟩:=hf p.1 hb
  obtain⟨o,e',d⟩:=ho p.1 hb
  rw [e] at e'; cases e'
  exact⟨e,f0,f1,f2,d⟩
theorem Inv.unpinned {pins pl:List (Addr×Obj)} {σ:St} {H:Hp} {s:Shared} (I:Inv X (pins++pl) σ H s):Inv X pins σ H s:=I.pins_of fun p hp=>I.pin p (List.mem_append_right _ (List.mem_append_left _ hp))
theorem ps_for {iter:Expr} {body:List Stmt} {wi:TI} {g:TG} {tb:TS} {pos:Pos} (hp:PassesOwn (model X.prog X.w) X.A X.env X.xe) (hc:X.calm=true) (hi:PI X tg iter wi) (hg:PG X tg g) (hb:PSs X body tb)
  (hs:∀ x,foldedSetIterable iter X.env x=pure x:=by intro _; rfl):PS X (.For tg iter body [] pos) (tFor wi g tb):=by
 intro pins s σ H D I h
 refine wpAny_For (thn (hi pins s σ H _ I h) fun v s1 h1=>thn h1 fun itv s2 h2=>?_) hs
 obtain⟨it,fp,tn,J,H2,e,I2,T,st2,f2,W,⟨m0,w0⟩,turn⟩:=h2
 subst e
 have stat:∀ {H':Hp},(∀ b∈fp,H' b=none)->∀ b∈fp,FpOk X pins H' b:=fun hn b hb=>⟨hn b hb,(f2 b hb).2⟩
 refine codeAny_forLoop_any (fun n s'=>∃ i σ' H',Inv X pins σ' H' s'/\tn i s'.heap/\(∀ b∈fp,H' b=none)/\W i n σ' H') ?_ m0 ⟨0,σ,H2,I2,st2,fun b hb=>(f2 b hb).1,w0⟩
 rintro n s3 ⟨i,σ3,H3,I3,st3,fr3,w3⟩
 rcases turn i n σ3 H3 w3 with ⟨stop,qn⟩ | ⟨go,N,hN,step⟩
 ·refine wpAny_passesOwn hp (thn (T.done X rfl rfl rfl hc i pins s3 σ3 H3 X.xe I3 (stat fr3) st3 stop) fun r s4 ⟨hr,I4⟩=>?_)
  subst hr
  exact wpAny_execs_nil ⟨σ3,H3,I4,qn⟩
 ·refine wpAny_passesOwn hp (thn (T.item X rfl rfl rfl hc i pins s3 σ3 H3 X.xe I3 (stat fr3) st3 go) fun r s4 ⟨u,hr,h4⟩=>?_)
  subst hr
  refine wpAny_passesOwn hp (thn h4 fun _ s5 ⟨x,H5,I5,r5,y5,st5,fr5⟩=>?_)
  have I5':=I5.pinned (stat fr5) (T.obj _ _ st5)
  refine wpAny_passesOwn hp (thn (hg _ s5 σ3 H5 x u _ I5' r5 (step x H5 y5)) fun _ s6 ⟨σ6,H6,I6,q6⟩=>?_)
  refine wpAny_passesOwn hp (thn (hb _ s6 σ6 H6 _ I6 q6) fun f s7 q7=>?_)
  have again:∀ {σ7:St} {H7:Hp},Inv X (pins++pinsAt fp s5.heap) σ7 H7 s7->N σ7 H7->∃ m,m < n/\∃ i σ' H',Inv X pins σ' H' s7/\tn i s7.heap/\(∀ b∈fp,H' b=none)/\W i m σ' H':=fun {σ7 H7} I7 n7=>by
   obtain⟨m',hm,w7⟩:=hN σ7 H7 n7
   refine⟨m',hm,i+1,σ7,H7,I7.unpinned,T.keep _ _ _ st5 fun b hb o e=>(I7.pin (b,o) (List.mem_append_right _ (List.mem_append_right _ (mem_pinsAt hb e)))).1,fun b hb=>?_,w7⟩
   obtain⟨o,e,d⟩:=T.obj _ _ st5 b hb
   exact(I7.pin (b,o) (List.mem_append_right _ (List.mem_append_right _ (mem_pinsAt hb e)))).2.1
  cases f with
  | next=>obtain⟨σ7,H7,I7,n7⟩:=q7; exact again I7 n7
  | cont=>obtain⟨σ7,H7,I7,n7⟩:=q7; exact again I7 n7
  | brk=>obtain⟨σ7,H7,I7,q7⟩:=q7; exact⟨σ7,H7,I7.unpinned,q7⟩
  | ret v=>obtain⟨x7,σ7,H7,I7,r7,q7⟩:=q7; exact⟨x7,σ7,H7,I7.unpinned,r7,q7⟩
end
abbrev R2:=V->V->Hp->VK->Prop
def OpR (X:Cx) (f:Value->Value->Sem Value) (r:R2):Prop:=
 ∀ (pins:List (Addr×Obj)) (s:Shared) (σ:St) (H:Hp) (x y:V) (v u:Value) (Q:VK),Inv X pins σ H s->RelV x v->RelV y u->r x y H Q->
  wpAny (model X.prog X.w) X.A (f v u) (EP X pins σ Q) X.xe s
def UnR (X:Cx) (f:Value->Sem Value) (r:V->Hp->VK->Prop):Prop:=
 ∀ (pins:List (Addr×Obj)) (s:Shared) (σ:St) (H:Hp) (x:V) (v:Value) (Q:VK),Inv X pins σ H s->RelV x v->r x H Q->
  wpAny (model X.prog X.w) X.A (f v) (EP X pins σ Q) X.xe s
def CallR (X:Cx) (f:Value) (r:List V->Hp->VK->Prop):Prop:=
 ∀ (pins:List (Addr×Obj)) (s:Shared) (σ:St) (H:Hp) (xs:List V) (us:List Value) (Q:VK),Inv X pins σ H s->Vals xs us->r xs H Q->
  wpAny (model X.prog X.w) X.A (call f us) (EP X pins σ Q) X.xe s
def tOp (r:R2) (ta tb:TE):TE:=fun σ H Q=>ta σ H fun x H1=>tb σ H1 fun y H2=>r x y H2 Q
def tUn (r:V->Hp->VK->Prop) (ta:TE):TE:=fun σ H Q=>ta σ H fun x H1=>r x H1 Q
def rI (C:Int->Int->Prop) (g:Int->Int->V):R2:=fun x y H Q=>∃ i j,x=.int i/\y=.int j/\C i j/\Q (g i j) H
def rI0 (g:Int->Int->V):R2:=fun x y H Q=>∃ i j,x=.int i/\y=.int j/\Q (g i j) H
def rU (g:Int->V):V->Hp->VK->Prop:=fun x H Q=>∃ i,x=.int i/\Q (g i) H
section
variable {X:Cx} {a b c:Expr} {ta tb tc:TE} {pos:Pos}
theorem binT (ha:PE X a ta) (hb:PE X b tb) {pins:List (Addr×Obj)} {s:Shared} {σ:St} {H:Hp} {R:V->V->Hp->Prop} (I:Inv X pins σ H s)
  (h:ta σ H fun x H1=>tb σ H1 fun y H2=>R x y H2) {Q:Value->Shared->Prop} {f:Value->Value->Sem Value}
  (hf:∀ v u s2 x y H2,Inv X pins σ H2 s2->RelV x v->RelV y u->R x y H2->wpAny (model X.prog X.w) X.A (f v u) Q X.xe s2):
  wpAny (model X.prog X.w) X.A (eval a X.env) (fun v s₁=>wpAny (model X.prog X.w) X.A (eval b X.env) (fun u s₂=>wpAny (model X.prog X.w) X.A (f v u) Q X.xe s₂) X.xe s₁) X.xe s:=by
 refine thn (ha pins s σ H _ I h) fun v s1 ⟨x,H1,I1,r1,q1⟩=>?_
 refine thn (hb pins s1 σ H1 _ I1 q1) fun u s2 ⟨y,H2,I2,r2,q2⟩=>?_
 exact hf v u s2 x y H2 I2 r1 r2 q2
theorem pe_op {op:Operator} {r:R2} (ho:OpR X (binaryOp op) r) (ha:PE X a ta) (hb:PE X b tb):PE X (.BinOp a op b pos) (tOp r ta tb):=by
 intro pins s σ H Q I h
 exact wpAny_BinOp (binT ha hb I h fun v u s2 x y H2 I2 rx ry q=>ho pins s2 σ H2 x y v u Q I2 rx ry q)
theorem pe_un {op:UnaryOp} {r:V->Hp->VK->Prop} (ho:UnR X (unaryOp op) r) (ha:PE X a ta):PE X (.UnaryOp op a pos) (tUn r ta):=by
 intro pins s σ H Q I h
 exact UnaryOp_ (thn (ha pins s σ H _ I h) fun v s1 ⟨x,H1,I1,r1,q1⟩=>ho pins s1 σ H1 x v Q I1 r1 q1)
theorem opI {f:Value->Value->Sem Value} {C:Int->Int->Prop} {g:Int->Int->Int}
  (rule:∀ (i j:Int) (t u:Tok) (s:Shared) (Q:Value->Shared->Prop) (E:Value->Shared->Prop),C i j->Q (.int (g i j) s.toks) {s with toks:=s.toks+1}->wpAny (model X.prog X.w) X.A (f (.int i t) (.int j u)) Q E s):
  OpR X f (rI C fun i j=>.int (g i j)):=by
 intro pins s σ H x y v u Q I rx ry h
 obtain⟨i,j,rfl,rfl,hc,q⟩:=h
 obtain⟨t,rfl⟩:=rx
 obtain⟨t',rfl⟩:=ry
 exact rule i j t t' s _ _ hc ⟨.int (g i j),H,I.tok _,⟨_,rfl⟩,q⟩
theorem opI0 {f:Value->Value->Sem Value} {g:Int->Int->Int}
  (rule:∀ (i j:Int) (t u:Tok) (s:Shared) (Q:Value->Shared->Prop) (E:Value->Shared->Prop),Q (.int (g i j) s.toks) {s with toks:=s.toks+1}->wpAny (model X.prog X.w) X.A (f (.int i t) (.int j u)) Q E s):
  OpR X f (rI0 fun i j=>.int (g i j)):=by
 intro pins s σ H x y v u Q I rx ry h
 obtain⟨i,j,rfl,rfl,q⟩:=h
 obtain⟨t,rfl⟩:=rx
 obtain⟨t',rfl⟩:=ry
 exact rule i j t t' s _ _ ⟨.int (g i j),H,I.tok _,⟨_,rfl⟩,q⟩
theorem opB0 {f:Value->Value->Sem Value} {g:Int->Int->Bool}
  (rule:∀ (i j:Int) (t u:Tok) (s:Shared) (Q:Value->Shared->Prop) (E:Value->Shared->Prop),Q (.bool (g i j)) s->wpAny (model X.prog X.w) X.A (f (.int i t) (.int j u)) Q E s):
  OpR X f (rI0 fun i j=>.bl (g i j)):=by
 intro pins s σ H x y v u Q I rx ry h
 obtain⟨i,j,rfl,rfl,q⟩:=h
 obtain⟨t,rfl⟩:=rx
 obtain⟨t',rfl⟩:=ry
 exact rule i j t t' s _ _ ⟨.bl (g i j),H,I,rfl,q⟩
def CPow (i j:Int):Prop:=0<=j/\j<=1000000/\i.natAbs < 2 ^ 64
theorem op_add:OpR X (binaryOp .Add) (rI0 fun i j=>.int (i+j)):=opI0 fun _ _ _ _ _ _ _ q=>add_int q
theorem op_sub:OpR X (binaryOp .Sub) (rI0 fun i j=>.int (i - j)):=opI0 fun _ _ _ _ _ _ _ q=>sub_int q
theorem op_modN:OpR X (binaryOp .Mod) (rI (fun _ j=>j≠0) fun i j=>.int (i.fmod j)):=opI fun _ _ _ _ _ _ _ hc q=>mod_int' hc q
theorem op_pow:OpR X (binaryOp .Pow) (rI CPow fun i j=>.int (i ^ j.toNat)):=opI fun _ _ _ _ _ _ _ hc q=>pow_int_small hc.1 hc.2.1 hc.2.2 q
theorem op_shl:OpR X (binaryOp .LShift) (rI CPow fun i j=>.int (i*2 ^ j.toNat)):=opI fun _ _ _ _ _ _ _ hc q=>lshift_int_small hc.1 hc.2.1 hc.2.2 q
theorem unI {f:Value->Sem Value} {g:Int->Int}
  (rule:∀ (i:Int) (t:Tok) (s:Shared) (Q:Value->Shared->Prop) (E:Value->Shared->Prop),Q (.int (g i) s.toks) {s with toks:=s.toks+1}->wpAny (model X.prog X.w) X.A (f (.int i t)) Q E s):
  UnR X f (rU fun i=>.int (g i)):=by
 intro pins s σ H x v Q I rx h
 obtain⟨i,rfl,q⟩:=h
 obtain⟨t,rfl⟩:=rx
 exact rule i t s _ _ ⟨.int (g i),H,I.tok _,⟨_,rfl⟩,q⟩
theorem un_neg:UnR X (unaryOp .USub) (rU fun i=>.int (-i)):=unI fun _ _ _ _ _ q=>neg_int q
end
def scal:V->V->Bool
 | .non,.non=>true | .non,.int _=>true | .int _,.non=>true | .non,.bl _=>true | .bl _,.non=>true | .non,.str _=>true | .str _,.non=>true
 | .int _,.int _=>true | .bl _,.bl _=>true | .str _,.str _=>true | .byt _,.byt _=>true
 | .int _,.str _=>true | .str _,.int _=>true | .bl _,.str _=>true | .str _,.bl _=>true
 | _,_=>false
def rEq:R2:=fun x y H Q=>scal x y=true/\Q (.bl (decide (x=y))) H
def rNe:R2:=fun x y H Q=>scal x y=true/\Q (.bl (!decide (x=y))) H
theorem dec_int {i j:Int}:decide (V.int i=V.int j)=(i == j):=by
 rw [Bool.eq_iff_iff]
 simp
theorem dec_bl {i j:Bool}:decide (V.bl i=V.bl j)=(i == j):=by
 rw [Bool.eq_iff_iff]
 simp
theorem dec_str {i j:Str}:decide (V.str i=V.str j)=(i == j):=by
 rw [Bool.eq_iff_iff]
 simp
theorem dec_byt {i j:Array UInt8}:decide (V.byt i=V.byt j)=(i.toList == j.toList):=by
 rw [Bool.eq_iff_iff]
 cases i
 cases j
 simp
section
variable {X:Cx} {a b c:Expr} {ta tb tc:TE} {pos:Pos}
theorem fin_bl {pins:List (Addr×Obj)} {σ:St} {H:Hp} {s:Shared} {Q:VK} {k k':Bool} (I:Inv X pins σ H s) (q:Q (.bl k) H) (e:k=k'):EP X pins σ Q (.bool k') s:=by
 subst e
 exact⟨.bl k,H,I,rfl,q⟩
theorem op_eq:OpR X (compareOp .Eq) rEq:=by
 intro pins s σ H x y v u Q I rx ry h
 obtain⟨hs,q⟩:=h
 cases x with
 | non=>
  cases rx
  cases y with
  | non=>cases ry; exact PySem.EqNone.eq_none_none (fin_bl I q (by simp))
  | bl j=>cases ry; exact PySem.EqNone.eq_none_bool (fin_bl I q (by simp))
  | int j=>obtain⟨t',rfl⟩:=ry; exact PySem.EqNone.eq_none_int (fin_bl I q (by simp))
  | str j=>obtain⟨t',rfl⟩:=ry; exact PySem.EqNone.eq_none_str (fin_bl I q (by simp))
  | _=>exact absurd (show false=true from hs) Bool.false_ne_true
 | bl i=>
  cases rx
  cases y with
  | non=>cases ry; exact PySem.EqNone.eq_bool_none (fin_bl I q (by simp))
  | bl j=>cases ry; exact eq_bool (fin_bl I q dec_bl)
  | str j=>obtain⟨t',rfl⟩:=ry; exact PySem.EqMixed.eq_bool_str (fin_bl I q (by simp))
  | _=>exact absurd (show false=true from hs) Bool.false_ne_true
 | int i=>
  obtain⟨t,rfl⟩:=rx
  cases y with
  | non=>cases ry; exact PySem.EqNone.eq_int_none (fin_bl I q (by simp))
  | int j=>obtain⟨t',rfl⟩:=ry; exact eq_int (fin_bl I q dec_int)
  | str j=>obtain⟨t',rfl⟩:=ry; exact PySem.EqMixed.eq_int_str (fin_bl I q (by simp))
  | _=>exact absurd (show false=true from hs) Bool.false_ne_true
 | str i=>
  obtain⟨t,rfl⟩:=rx
  cases y with
  | non=>cases ry; exact PySem.EqNone.eq_str_none (fin_bl I q (by simp))
  | bl j=>cases ry; exact PySem.EqMixed.eq_str_bool (fin_bl I q (by simp))
  | int j=>obtain⟨t',rfl⟩:=ry; exact PySem.EqMixed.eq_str_int (fin_bl I q (by simp))
  | str j=>obtain⟨t',rfl⟩:=ry; exact eq_str (fin_bl I q dec_str)
  | _=>exact absurd (show false=true from hs) Bool.false_ne_true
 | byt i=>
  obtain⟨t,rfl⟩:=rx
  cases y with
  | byt j=>obtain⟨t',rfl⟩:=ry; exact PySem.W.eq_bytes (fin_bl I q dec_byt)
  | _=>exact absurd (show false=true from hs) Bool.false_ne_true
 | _=>cases y <;> exact absurd (show false=true from hs) Bool.false_ne_true
theorem op_ne:OpR X (compareOp .NotEq) rNe:=by
 intro pins s σ H x y v u Q I rx ry h
 obtain⟨hs,q⟩:=h
 cases x with
 | non=>
  cases rx
  cases y with
  | non=>cases ry; exact PySem.EqNone.ne_none_none (fin_bl I q (by simp))
  | bl j=>cases ry; exact PySem.EqNone.ne_none_bool (fin_bl I q (by simp))
  | int j=>obtain⟨t',rfl⟩:=ry; exact PySem.EqNone.ne_none_int (fin_bl I q (by simp))
  | str j=>obtain⟨t',rfl⟩:=ry; exact PySem.EqNone.ne_none_str (fin_bl I q (by simp))
  | _=>exact absurd (show false=true from hs) Bool.false_ne_true
 | bl i=>
  cases rx
  cases y with
  | non=>cases ry; exact PySem.EqNone.ne_bool_none (fin_bl I q (by simp))
  | bl j=>cases ry; exact ne_bool (fin_bl I q (congrArg not dec_bl))
  | str j=>obtain⟨t',rfl⟩:=ry; exact PySem.EqMixed.ne_bool_str (fin_bl I q (by simp))
  | _=>exact absurd (show false=true from hs) Bool.false_ne_true
 | int i=>
  obtain⟨t,rfl⟩:=rx
  cases y with
  | non=>cases ry; exact PySem.EqNone.ne_int_none (fin_bl I q (by simp))
  | int j=>obtain⟨t',rfl⟩:=ry; exact ne_int (fin_bl I q (congrArg not dec_int))
  | str j=>obtain⟨t',rfl⟩:=ry; exact PySem.EqMixed.ne_int_str (fin_bl I q (by simp))
  | _=>exact absurd (show false=true from hs) Bool.false_ne_true
 | str i=>
  obtain⟨t,rfl⟩:=rx
  cases y with
  | non=>cases ry; exact PySem.EqNone.ne_str_none (fin_bl I q (by simp))
  | bl j=>cases ry; exact PySem.EqMixed.ne_str_bool (fin_bl I q (by simp))
  | int j=>obtain⟨t',rfl⟩:=ry; exact PySem.EqMixed.ne_str_int (fin_bl I q (by simp))
  | str j=>obtain⟨t',rfl⟩:=ry; exact ne_str (fin_bl I q (congrArg not dec_str))
  | _=>exact absurd (show false=true from hs) Bool.false_ne_true
 | byt i=>
  obtain⟨t,rfl⟩:=rx
  cases y with
  | byt j=>obtain⟨t',rfl⟩:=ry; exact PySem.W.ne_bytes (fin_bl I q (congrArg not dec_byt))
  | _=>exact absurd (show false=true from hs) Bool.false_ne_true
 | _=>cases y <;> exact absurd (show false=true from hs) Bool.false_ne_true
theorem op_lt:OpR X (compareOp .Lt) (rI0 fun i j=>.bl (decide (i < j))):=opB0 fun _ _ _ _ _ _ _ q=>lt_int q
theorem op_gt:OpR X (compareOp .Gt) (rI0 fun i j=>.bl (decide (j < i))):=opB0 fun _ _ _ _ _ _ _ q=>gt_int q
theorem op_ge:OpR X (compareOp .GtE) (rI0 fun i j=>.bl (decide (j<=i))):=opB0 fun _ _ _ _ _ _ _ q=>ge_int q
theorem op_isN:OpR X (compareOp .Is) (fun x y H Q=>y=.non/\Q (.bl (decide (x=.non))) H):=by
 intro pins s σ H x y v u Q I rx ry h
 obtain⟨rfl,q⟩:=h
 cases ry
 refine is_none_gen (fin_bl I q ?_)
 cases x <;> first
  | (cases rx; rfl)
  | (obtain ⟨t,rfl⟩:=rx; rfl)
theorem nomark (b:Expr) {op:CmpOp} (h:op≠.In:=by decide) (h2:op≠.NotIn:=by decide):behindInMarks op b=false:=by
 have e1:(op == CmpOp.In)=false:=by cases op <;> first | rfl | exact absurd rfl h
 have e2:(op == CmpOp.NotIn)=false:=by cases op <;> first | rfl | exact absurd rfl h2
 cases b <;> simp [behindInMarks,e1,e2]
theorem pe_cmpR {op:CmpOp} {r:R2} (ho:OpR X (compareOp op) r) (ha:PE X a ta) (hb:PE X b tb) (hm:behindInMarks op b=false):PE X (.Compare a [op] [b] pos) (tOp r ta tb):=by
 intro pins s σ H Q I h
 exact wpAny_Compare1 (binT ha hb I h fun v u s2 x y H2 I2 rx ry q=>ho pins s2 σ H2 x y v u Q I2 rx ry q) hm
def tTest (t:TE):TT:=fun σ H Q=>t σ H fun x H'=>∃ k,x=.bl k/\Q k H'
theorem pt_cmpR {op:CmpOp} {r:R2} (ho:OpR X (compareOp op) r) (ha:PE X a ta) (hb:PE X b tb) (hm:behindInMarks op b=false):PT X (.Compare a [op] [b] pos) (tTest (tOp r ta tb)):=by
 intro pins s σ H Q I h
 refine wpAny_isTrue_Compare1 (thn (ha pins s σ H _ I h) fun v s1 ⟨x,H1,I1,r1,q1⟩=>thn (hb pins s1 σ H1 _ I1 q1) fun u s2 ⟨y,H2,I2,r2,q2⟩=>
  thn (ho pins s2 σ H2 x y v u _ I2 r1 r2 q2) fun c s3 ⟨z,H3,I3,r3,k,e,q3⟩=>?_) hm
 subst e
 cases r3
 exact wpAny_truthy_bool ⟨H3,I3,q3⟩
theorem line63:(sizeLine:Nat) < 2 ^ 63:=by rw [sizeLine_eq]; decide
theorem op_add_str:OpR X (binaryOp .Add) (fun x y H Q=>∃ i j,x=.str i/\y=.str j/\i.length+j.length<=sizeLine/\Q (.str (i++j)) H):=by
 intro pins s σ H x y v u Q I rx ry h
 obtain⟨i,j,rfl,rfl,hz,q⟩:=h
 obtain⟨t,rfl⟩:=rx
 obtain⟨t',rfl⟩:=ry
 exact add_str (fun t' tk=>⟨.str (i++j),H,I.tok _,⟨_,rfl⟩,q⟩) hz
theorem vals1 {x:V} {us:List Value} (r:Vals [x] us):∃ u,us=[u]/\RelV x u:=by
 cases r with
 | cons r1 r2=>cases r2; exact⟨_,rfl,r1⟩
theorem vals2 {x y:V} {us:List Value} (r:Vals [x,y] us):∃ u w',us=[u,w']/\RelV x u/\RelV y w':=by
 cases r with
 | cons r1 r2=>
  cases r2 with
  | cons r3 r4=>cases r4; exact⟨_,_,rfl,r1,r3⟩
theorem call_abs:CallR X (.builtin "abs") (fun xs H Q=>∃ i,xs=[.int i]/\Q (.int (if i < 0 then -i else i)) H):=by
 intro pins s σ H xs us Q I r h
 obtain⟨i,rfl,q⟩:=h
 obtain⟨u,rfl,t,rfl⟩:=vals1 r
 exact call_abs_int fun u tk=>⟨.int (if i < 0 then -i else i),H,I.tok _,⟨_,rfl⟩,q⟩
theorem call_max2 (hc:X.calm=true):CallR X (.builtin "max") (fun xs H Q=>∃ i j,xs=[.int i,.int j]/\Q (.int (if j > i then j else i)) H):=by
 intro pins s σ H xs us Q I r h
 obtain⟨i,j,rfl,q⟩:=h
 obtain⟨u,w',rfl,⟨t,rfl⟩,⟨t',rfl⟩⟩:=vals2 r
 refine max_two_ints (I.ok.hd hc) fun h' tk k=>⟨_,H,I.kept k,?_,q⟩
 by_cases hj:j > i
 ·rw [if_pos hj,if_pos hj]; exact⟨_,rfl⟩
 ·rw [if_neg hj,if_neg hj]; exact⟨_,rfl⟩
theorem call_min2 (hc:X.calm=true):CallR X (.builtin "min") (fun xs H Q=>∃ i j,xs=[.int i,.int j]/\Q (.int (if j < i then j else i)) H):=by
 intro pins s σ H xs us Q I r h
 obtain⟨i,j,rfl,q⟩:=h
 obtain⟨u,w',rfl,⟨t,rfl⟩,⟨t',rfl⟩⟩:=vals2 r
 refine min_two_ints (I.ok.hd hc) fun h' tk k=>⟨_,H,I.kept k,?_,q⟩
 by_cases hj:j < i
 ·rw [if_pos hj,if_pos hj]; exact⟨_,rfl⟩
 ·rw [if_neg hj,if_neg hj]; exact⟨_,rfl⟩
end
theorem RelO.some_of {v:V} {o:Option Value} (r:RelO (some v) o):∃ u,o=some u/\RelV v u:=by
 cases o with
 | none=>exact(show False from r).elim
 | some u=>exact⟨u,rfl,r⟩
structure Room (k:Nat) (A:Around):Prop where
 hd:A.handled=none
 dp:A.depth+3*k+5 < recursionLimit
 un:A.units+16*k+200 < cLine
theorem Room.mono {j k:Nat} {A:Around} (r:Room k A) (h:j<=k):Room j A:=⟨r.hd,by have:=r.dp; omega,by have:=r.un; omega⟩
theorem Room.deeper {k:Nat} {A:Around} (r:Room (k+1) A) (env:Env):Room k (A.deeper env):=
 ⟨r.hd,by have:=r.dp; show A.depth+1+3*k+5 < _; omega,by have:=r.un; show A.units+3+16*k+200 < _; omega⟩
theorem Room.depth {k:Nat} {A:Around} (r:Room k A):A.depth < recursionLimit:=by have:=r.dp; omega
theorem Room.units {k:Nat} {A:Around} (r:Room k A):A.units+64 < cLine:=by have:=r.un; omega
def tNil:TA:=fun _ H Q=>Q [] H
def tCons (ta:TE) (tr:TA):TA:=fun σ H Q=>ta σ H fun x H1=>tr σ H1 fun xs H2=>Q (x::xs) H2
section
variable {X:Cx} {e:Expr} {es:List Expr} {te:TE} {t:TA} {pos:Pos}
theorem pa_nil:PA X [] tNil:=fun _ _ _ _ H Q I h=>Calls.spliced_nil ⟨[],H,I,.nil,h⟩
theorem pa_cons (ha:PE X e te) (hr:PA X es t) (hs:starEach (e::es) X.env=(false,eval e X.env)::starEach es X.env:=by rfl):PA X (e::es) (tCons te t):=by
 intro pos pins s σ H Q I h
 rw [hs]
 show wpAny _ _ (spliced ((false,eval e X.env)::backTo pos (starEach es X.env))) _ _ s
 refine Calls.spliced_cons (thn (ha pins s σ H _ I h) fun u s1 ⟨x,H1,I1,r1,q1⟩=>?_)
 exact thn (hr pos pins s1 σ H1 _ I1 q1) fun us s2 ⟨xs,H2,I2,r2,q2⟩=>⟨x::xs,H2,I2,.cons r1 r2,q2⟩
def tTup (t:TA):TE:=fun σ H Q=>t σ H fun xs H1=>xs.length<=sizeLine/\∀ p,H1 p=none->Q (.ref p) (upd H1 p (.tup xs))
def tLst (t:TA):TE:=fun σ H Q=>t σ H fun xs H1=>xs.length<=sizeLine/\∀ p,H1 p=none->Q (.ref p) (upd H1 p (.lst xs))
theorem pe_tup {x1} (h:PA X es t):PE X (.Tuple es x1 pos) (tTup t):=by
 intro pins s σ H Q I hq
 refine wpAny_Tuple_spliced (thn (h pos pins s σ H _ I hq) fun us s1 ⟨xs,H1,I1,r,z,q⟩=>⟨by rw [<- r.length]; exact z,?_⟩)
 have hf:H1 s1.heap.objs.size=none:=I1.hok.fresh (Nat.le_refl _)
 refine⟨.ref s1.heap.objs.size,upd H1 s1.heap.objs.size (.tup xs),I1.laid (t':=s1.toks) (fun b u e=>Heap.get?_push_of_some _ e) (Nat.le_refl _) ?_,rfl,q _ hf⟩
 exact⟨z,us,r,⟨_,Heap.get?_push_size _ rfl,rfl,_,rfl⟩⟩
theorem pe_lst (h:PA X es t):PE X (.List es pos) (tLst t):=by
 intro pins s σ H Q I hq
 refine wpAny_List_spliced (thn (h pos pins s σ H _ I hq) fun us s1 ⟨xs,H1,I1,r,z,q⟩=>⟨by rw [<- r.length]; exact z,?_⟩)
 have hf:H1 s1.heap.objs.size=none:=I1.hok.fresh (Nat.le_refl _)
 refine⟨.ref s1.heap.objs.size,upd H1 s1.heap.objs.size (.lst xs),I1.laid (t':=s1.toks) (fun b u e=>Heap.get?_push_of_some _ e) (Nat.le_refl _) ?_,rfl,q _ hf⟩
 exact⟨z,us,0,r,Heap.get?_push_size _ rfl⟩
end
abbrev Sp:=List V->Hp->VK->XK->Prop
abbrev CXT:=List Env->Hp->Shared->XK->Value->Shared->Prop
structure Env0 (P:Program) (w:World) (K:PySem.W.Frag) (mg:Str->Option Value) (base:Heap) (A:Around) (outer:List Env) (s:Shared) (H:Hp):Prop where
 frames:A.frames=some outer
 mod:Mod K mg base
 bs:∀ b o,base.get? b=some o->s.heap.get? b=some o/\H b=none
 bsz:base.objs.size<=s.heap.objs.size
 funs:s.heap.FunFrames base outer
 frf:∀ b∈frs outer,H b=none
 hok:HOk P w H s.heap
 bare:AllBare s.gens
def CE (outer:List Env) (P:Program) (w:World) (H:Hp) (s:Shared) (Q:VK) (u:Value) (s':Shared):Prop:=
 ∃ v H',s'.os=s.os/\AllBare s'.gens/\Un (frs outer) [] H H' s.heap s'.heap/\HOk P w H' s'.heap/\RelV v u/\Q v H'
def CR (CX:CXT) (outer:List Env) (P:Program) (w:World) (H:Hp) (s:Shared) (Q:VK) (E:XK) (r:Result) (s':Shared):Prop:=
 match r with
 | .ok (.ret u)=>CE outer P w H s Q u s'
 | .ok _=>False
 | .error e=>CX outer H s E e s'
structure FnOk (P:Program) (w:World) (K:PySem.W.Frag) (mg:Str->Option Value) (base:Heap) (CX:CXT) (k:Nat) (f:Addr) (fd:FuncData) (ps:List Str) (sp:Sp):Prop where
 len:∀ vs H Q E,sp vs H Q E->vs.length=ps.length
 run:∀ (A:Around) (outer:List Env) (s:Shared) (H:Hp) (args:Args) (us:List Value) (vs:List V) (Q:VK) (E:XK),Room k A->Env0 P w K mg base A outer s H->BindsTo s fd args (ps.zip us)->Vals vs us->sp vs H Q E->
  codeAny (model P w) A (.call (.ref f) args) (CR CX outer P w H s Q E) s
section
variable {X:Cx} {pins:List (Addr×Obj)} {σ:St} {H:Hp} {s s':Shared}
theorem Inv.env0 (I:Inv X pins σ H s):Env0 X.prog X.w X.K X.mg X.base X.A X.stack s H:=
 ⟨I.ok.frames,I.ok.mod,I.bs,Nat.le_trans I.ok.bsz I.sz,I.stack,I.stkFree,I.hok,I.bare⟩
theorem Inv.after {Q:VK} {u:Value} (I:Inv X pins σ H s) (h:CE X.stack X.prog X.w H s Q u s'):EP X pins σ Q u s':=by
 obtain⟨v,H',os,bare,un,hok,r,q⟩:=h
 obtain⟨hh,g,d,t,os'⟩:=s'
 obtain rfl:os'=s.os:=os
 exact⟨v,H',I.call (h':=hh) (g':=g) (d':=d) (t':=t) (ch:=[]) un hok bare (fun b z=>absurd z (by simp)),r,q⟩
end
def tCall (sp:Sp) (dvs:List V) (E:XK) (t:TA):TE:=fun σ H Q=>t σ H fun vs H1=>sp (vs++dvs) H1 Q E
def Binds (K:PySem.W.Frag) (fd:FuncData) (ps:List Str) (ds:List Value):Prop:=
 ∀ (s:Shared) (us:List Value),K.In s.heap->(us++ds).length=ps.length->BindsTo s fd ⟨us,[]⟩ (ps.zip (us++ds))
theorem Binds.all {K:PySem.W.Frag} {fd:FuncData} {ps:List Str} (h:∀ us:List Value,us.length=ps.length->bindArgs fd ⟨us,[]⟩=pure (ps.zip us)):Binds K fd ps []:=fun s us _ hl=>by
 rw [List.append_nil] at hl ⊢
 exact .of_eq (h us hl)
def Passes (CX:CXT) (X:Cx) (E:XK):Prop:=∀ (pins:List (Addr×Obj)) (σ:St) (H:Hp) (s:Shared) (e:Value) (s':Shared),Inv X pins σ H s->CX X.stack H s E e s'->X.xe e s'
section
variable {X:Cx} {CX:CXT} {k:Nat} {f C:Addr} {fd:FuncData} {ps:List Str} {sp:Sp} {dvs:List V} {ds:List Value} {E:XK} {x m:Str} {p pos apos:Pos} {e o:Expr} {es:List Expr} {ta:TE} {t:TA}
theorem run_fn {pins:List (Addr×Obj)} {σ:St} {H:Hp} {s:Shared} {Q:VK} {us:List Value} {vs:List V} (F:FnOk X.prog X.w X.K X.mg X.base CX k f fd ps sp) (hr:Room k X.A) (hb:Binds X.K fd ps ds) (hd:Vals dvs ds) (hx:Passes CX X E)
  (I:Inv X pins σ H s) (r:Vals vs us) (h:sp (vs++dvs) H Q E):wpAny (model X.prog X.w) X.A (call (.ref f) us) (EP X pins σ Q) X.xe s:=by
 have r2:Vals (vs++dvs) (us++ds):=r.append hd
 have hl:(us++ds).length=ps.length:=by rw [<- r2.length]; exact F.len _ _ _ _ h
 refine wpAny_call (codeAny_mono (F.run X.A X.stack s H ⟨us,[]⟩ (us++ds) (vs++dvs) Q E hr I.env0 (hb s us I.kIn hl) r2 h) fun r s' hq=>?_)
 cases r with
 | error e=>exact hx pins σ H s e s' I hq
 | ok fl=>
  cases fl with
  | ret u=>exact I.after hq
  | next=>exact False.elim hq
  | brk=>exact False.elim hq
  | cont=>exact False.elim hq
theorem pe_call (F:FnOk X.prog X.w X.K X.mg X.base CX k f fd ps sp) (hr:Room k X.A) (hg:Gl X x) (hm:X.mg x=some (.ref f)) (hk:PySem.W.keepIn X.K (.ref f)=true) (hb:Binds X.K fd ps ds) (hd:Vals dvs ds) (hx:Passes CX X E)
  (ha:PA X (e::es) t) (hdb:(x == ("__debug__":Str))=false:=by decide) (he:starEach (e::es) X.env=(false,eval e X.env)::starEach es X.env:=by rfl) (hpl:(backTo pos (starEach es X.env)).any (·.1)=false:=by rfl):
  PE X (.Call (.Name x p) (e::es) [] pos) (tCall sp dvs E t):=by
 intro pins s σ H Q I h
 refine wpAny_Call_Name_kw (ld_glob I hg hm ?_ hdb)
 refine PySem.W.callWith_K (h₀:=X.base) I.ok.mod.kin hk (thn (ha pos pins s σ H _ I h) fun us s1 ⟨vs,H1,I1,r,q⟩=>⟨I1.kIn,?_⟩) he hpl
 exact run_fn F hr hb hd hx I1 r q
end
structure FnScope (N P:List Str) (sc:Scope):Prop where
 kind:sc.kind=.function
 co:sc.isCoroutine=false
 gen:sc.isGenerator=false
 nd:N.Nodup
 pre:N.take P.length=P
 par:∀ x∈P,sc.names.lookup x=some .local\/sc.names.lookup x=some .cell
 nofree:∀ y∈sc.names,y.2≠.free
theorem scm {N P:List Str} {sc:Scope} (a:sc.kind=.function:=by rfl) (b:sc.isCoroutine=false:=by rfl) (c:sc.isGenerator=false:=by rfl) (d:N.Nodup:=by decide +kernel) (e:N.take P.length=P:=by rfl) (f:∀ x∈P,sc.names.lookup x=some .local\/sc.names.lookup x=some .cell:=by decide +kernel) (g:∀ y∈sc.names,y.2≠.free:=by decide +kernel):FnScope N P sc:=⟨a,b,c,d,e,f,g⟩
theorem bindL_out {kindOf:Str->Option NameKind} {x:Str}:∀ {binds:List (Str×Value)} {m:Str->Option Value},(∀ v,(x,v)∉binds)->bindL kindOf binds m x=m x
 | [],_,_=>rfl
 | (n,v)::r,m,h=>by
  unfold bindL
  rw [bindL_out fun w hw=>h w (List.mem_cons_of_mem _ hw)]
  split
  ·have:x≠n:=by rintro rfl; exact h v List.mem_cons_self
   simp [this]
  ·rfl
theorem bindC_out {kindOf:Str->Option NameKind} {x:Str}:∀ {binds:List (Str×Value)} {m:Str->Option Value},(∀ v,(x,v)∉binds)->bindC kindOf binds m x=m x
 | [],_,_=>rfl
 | (n,v)::r,m,h=>by
  unfold bindC
  rw [bindC_out fun w hw=>h w (List.mem_cons_of_mem _ hw)]
  split
  ·rfl
  ·have:x≠n:=by rintro rfl; exact h v List.mem_cons_self
   simp [this]
theorem bindL_get {kindOf:Str->Option NameKind} {x:Str} {v:Value}:∀ {P:List Str} {vs:List Value} {i:Nat} {m:Str->Option Value},P.Nodup->P[i]?=some x->vs[i]?=some v->kindOf x=some .local->
  bindL kindOf (P.zip vs) m x=some v
 | [],_,_,_,_,h,_,_=>by simp at h
 | _::_,[],_,_,_,_,h,_=>by simp at h
 | p::P,w::vs,0,m,nd,h1,h2,hk=>by
  simp at h1 h2; subst h1; subst h2
  show bindL kindOf ((p,w)::P.zip vs) m p=_
  unfold bindL
  rw [bindL_out fun v hv=>(List.nodup_cons.mp nd).1 (List.of_mem_zip hv).1,if_pos hk]
  simp
 | p::P,w::vs,i+1,m,nd,h1,h2,hk=>by
  show bindL kindOf ((p,w)::P.zip vs) m x=_
  unfold bindL
  exact bindL_get (i:=i) (List.nodup_cons.mp nd).2 (by simpa using h1) (by simpa using h2) hk
theorem bindC_get {kindOf:Str->Option NameKind} {x:Str} {v:Value}:∀ {P:List Str} {vs:List Value} {i:Nat} {m:Str->Option Value},P.Nodup->P[i]?=some x->vs[i]?=some v->kindOf x≠some .local->
  bindC kindOf (P.zip vs) m x=some v
 | [],_,_,_,_,h,_,_=>by simp at h
 | _::_,[],_,_,_,_,h,_=>by simp at h
 | p::P,w::vs,0,m,nd,h1,h2,hk=>by
  simp at h1 h2; subst h1; subst h2
  show bindC kindOf ((p,w)::P.zip vs) m p=_
  unfold bindC
  rw [bindC_out fun v hv=>(List.nodup_cons.mp nd).1 (List.of_mem_zip hv).1,if_neg hk]
  simp
 | p::P,w::vs,i+1,m,nd,h1,h2,hk=>by
  show bindC kindOf ((p,w)::P.zip vs) m x=_
  unfold bindC
  exact bindC_get (i:=i) (List.nodup_cons.mp nd).2 (by simpa using h1) (by simpa using h2) hk
def start (N:List Str) (vs:List V):St:=vs.map some++List.replicate (N.length - vs.length) none
def cxOf (CX:CXT) (P:Program) (w:World) (K:PySem.W.Frag) (mg:Str->Option Value) (base:Heap) (N:List Str) (qual:Str) (scope:Scope) (f:Addr) (cd:Value) (A:Around) (outer:List Env) (s:Shared) (H:Hp) (E:XK):Cx where
 prog:=P
 w:=w
 K:=K
 mg:=mg
 base:=base
 A:=A.deeper (envOfC qual scope s.heap.objs.size f cd)
 N:=N
 s₀:=s
 H₀:=H
 env:=envOfC qual scope s.heap.objs.size f cd
 outer:=outer
 stack:=envOfC qual scope s.heap.objs.size f cd::outer
 ex:=[]
 calm:=true
 fn:=fun _=>true
 pn:=[]
 xe:=fun e s'=>wpAny (model P w) (A.deeper (envOfC qual scope s.heap.objs.size f cd)) (leaving (envOfC qual scope s.heap.objs.size f cd) e) (fun _ s''=>CX outer H s E e s'') (fun e' s''=>CX outer H s E e' s'') s'
theorem cell_has {sc:Scope} {n:Nat} {x:Str} (h:sc.names.lookup x=some .cell):∃ c,(cellsFrom n sc.names []).lookup x=some c:=by
 have q:=PySem.W.cellsFrom_some sc.names n [] (.inl h)
 exact Option.isSome_iff_exists.mp q
theorem inv_start {CX:CXT} {P:Program} {w:World} {K:PySem.W.Frag} {mg:Str->Option Value} {base:Heap} {N ps:List Str} {qual:Str} {scope:Scope} {f:Addr} {cd:Value} {A:Around} {outer:List Env} {s s1:Shared} {H:Hp} {E:XK} {us:List Value} {vs:List V}
  (S:FnScope N ps scope) (hd:A.handled=none) (e0:Env0 P w K mg base A outer s H) (hl:vs.length=ps.length) (r:Vals vs us)
  (x:InCallC s s.heap.objs.size (bindL (envOfC qual scope s.heap.objs.size f cd).kindOf (ps.zip us) fun _=>none) (cellsFrom (s.heap.objs.size+1) scope.names []) (bindC (envOfC qual scope s.heap.objs.size f cd).kindOf (ps.zip us) fun _=>none) s1):
  Inv (cxOf CX P w K mg base N qual scope f cd A outer s H E) [] (start N vs) H s1:=by
 have hpl:ps.length<=N.length:=by have:=congrArg List.length S.pre; rw [List.length_take] at this; omega
 obtain⟨h1,tk,rfl,hk⟩:=x.done
 have noA:∀ b:Addr,b∉(cxOf CX P w K mg base N qual scope f cd A outer s H E).ex:=fun b z=>absurd (show b∈([]:List Addr) from z) (by simp)
 refine⟨⟨e0.mod,S.kind,rfl,rfl,Nat.le_refl _,fun y z c h1 h2=>?_,fun y hy=>?_,fun y c _ h=>?_,fun _=>hd,Around.frames_deeper e0.frames,.inr ⟨rfl,rfl⟩,fun b z=>absurd z (noA b),e0.bs,e0.bsz,fun b _ _=>noA b,fun b z=>absurd z (noA b),e0.funs,e0.frf⟩,
  rfl,e0.bare,Un.kept hk,⟨_,x.toInCall.ns,fun i y v h1 h2 h3=>?_⟩,fun y c h=>⟨_,x.cell y c h⟩,e0.hok.fresh (Nat.le_refl _),fun y c h=>?_,fun p hp=>absurd (show p∈([]:List (Addr×Obj)) from hp) (by simp),e0.hok.kept hk,?_⟩
 ·exact name_of_addr x.apart (PySem.mem_of_lookup h1) (PySem.mem_of_lookup h2)
 ·have hy:scope.names.lookup y=some .cell\/scope.names.lookup y=some .free:=hy
  rcases hy with hy | hy
  ·exact cell_has hy
  ·exact absurd rfl (S.nofree _ (PySem.mem_of_lookup hy))
 ·exact Nat.le_of_lt (x.above y c (PySem.mem_of_lookup h))
 ·have hi:i < vs.length:=by
   unfold start at h2
   by_cases hi:i < vs.length
   ·exact hi
   ·rw [List.getElem?_append_right (by simpa using hi)] at h2
    rw [List.getElem?_replicate] at h2
    split at h2 <;> cases h2
  have ha:vs[i]?=some v:=by
   unfold start at h2
   rw [List.getElem?_append_left (by simpa using hi),List.getElem?_map] at h2
   cases e:vs[i]? with
   | none=>rw [e] at h2; cases h2
   | some a=>rw [e] at h2; cases h2; rfl
  obtain⟨u,hu,rv⟩:=r.get ha
  have hp:ps[i]?=some y:=by
   rw [<- S.pre,List.getElem?_take_of_lt (by omega)]; exact h1
  have ndP:ps.Nodup:=by rw [<- S.pre]; exact S.nd.sublist (List.take_sublist _ _)
  refine⟨u,rv,?_⟩
  rcases S.par y (List.mem_of_getElem? hp) with k | k
  ·exact .inl ⟨k,bindL_get ndP hp hu k⟩
  ·obtain⟨c,e⟩:=cell_has (n:=s.heap.objs.size+1) k
   refine .inr ⟨.inl k,c,e,?_⟩
   have q:=x.cell y c e
   rw [bindC_get ndP hp hu (by show scope.names.lookup y≠_; rw [k]; decide)] at q
   exact q
 ·exact e0.hok.fresh (Nat.le_of_lt (x.above y c (PySem.mem_of_lookup h)))
 ·unfold start
  show _=N.length
  rw [List.length_append,List.length_map,List.length_replicate]
  omega
theorem fn_of {CX:CXT} {P:Program} {w:World} {K:PySem.W.Frag} {mg:Str->Option Value} {base:Heap} {k:Nat} {f:Addr} {name qual:Str} {params:Arguments} {body:List Stmt} {scope:Scope} {dV kV doc pm cdv ct oc:Value} {an od:Option Addr}
  {osl:Array (Option Value)} {N ps:List Str} {sp:Sp} (lk:K.lookup f=some ⟨oc,od,.func (PySem.W.fnOf name qual params body scope dV kV doc pm an cdv ct),osl⟩) (hcd:PySem.W.codeIn K cdv qual=true) (S:FnScope N ps scope)
  (len:∀ vs H Q E,sp vs H Q E->vs.length=ps.length)
  (hbody:∀ (A:Around) (outer:List Env) (s:Shared) (H:Hp) (vs:List V) (Q:VK) (E:XK),Room k (A.deeper (envOfC qual scope s.heap.objs.size f cdv))->sp vs H Q E->
   ∃ t,PSs (cxOf CX P w K mg base N qual scope f cdv A outer s H E) body t/\t {nx:=fun _ H'=>Q .non H',rt:=Q} (start N vs) H):
  FnOk P w K mg base CX (k+1) f (PySem.W.fnOf name qual params body scope dV kV doc pm an cdv ct) ps sp:=by
 refine⟨len,fun A outer s H args us vs Q E hr e0 hb r hsp=>?_⟩
 have hl:=len _ _ _ _ hsp
 have KX:K.In s.heap:=e0.mod.kin.keeps fun b o e=>(e0.bs b o e).1
 have lim:s.heap.NoLimit:=e0.mod.nolimit.keeps fun b o e=>(e0.bs b o e).1
 have hkind:∀ y∈ps.zip us,scope.names.lookup y.1=some .local\/(scope.names.lookup y.1=some .cell/\((cellsFrom (s.heap.objs.size+1) scope.names []).lookup y.1).isSome=true):=fun⟨n,v⟩ hy=>by
  rcases S.par n (List.of_mem_zip hy).1 with q | q
  ·exact .inl q
  ·exact .inr ⟨q,PySem.W.cellsFrom_some _ _ _ (.inl q)⟩
 refine codeAny_call_function hr.depth (KX _ _ lk) rfl S.co S.gen rfl (PySem.W.codeRec_of KX hcd) (hb _ _ _ _ ?_)
 refine wpAny_newFunctionEnv_cells S.kind hkind fun env he s1 x=>?_
 subst he
 refine⟨lim.keeps x.toInCall.keep,codeAny_func ?_⟩
 obtain⟨t,ht,hq⟩:=hbody A outer s H vs Q E (hr.deeper _) hsp
 have I:Inv (cxOf CX P w K mg base N qual scope f cdv A outer s H E) [] (start N vs) H s1:=inv_start S hr.hd e0 hl r x
 refine wpAny_mono (ht [] s1 (start N vs) H _ I hq) (fun fl s' hs=>?_) fun e s' hs=>hs
 have fin:∀ {σ':St} {H':Hp} {v:V} {u:Value},Inv (cxOf CX P w K mg base N qual scope f cdv A outer s H E) [] σ' H' s'->RelV v u->Q v H'->CE outer P w H s Q u s':=
  fun {σ' H' v u} J rv q=>⟨v,H',J.os,J.bare,J.base,J.hok,rv,q⟩
 cases fl with
 | ret u=>
  obtain⟨v,σ',H',J,rv,q⟩:=hs
  exact fin J rv q
 | next=>
  obtain⟨σ',H',J,q⟩:=hs
  exact fin (v:=V.non) (u:=Value.none) J rfl q
 | brk=>
  obtain⟨_,_,_,q⟩:=hs
  exact False.elim q
 | cont=>
  obtain⟨_,_,_,q⟩:=hs
  exact False.elim q
section
variable {X:Cx} {x:Str} {p pos:Pos} {e:Expr} {es:List Expr} {t:TA} {id T:String} {r:List V->Hp->VK->Prop}
def tCB (r:List V->Hp->VK->Prop) (t:TA):TE:=fun σ H Q=>t σ H fun vs H1=>r vs H1 Q
theorem pe_callB (hc:CallR X (.builtin id) r) (hg:Gl X x) (hm:X.mg x=none) (hv:bootBuiltins x=some (.builtin id)) (ha:PA X (e::es) t) (hn:x≠"__name__":=by decide) (hdb:(x == ("__debug__":Str))=false:=by decide)
  (he:starEach (e::es) X.env=(false,eval e X.env)::starEach es X.env:=by rfl) (hpl:(backTo pos (starEach es X.env)).any (·.1)=false:=by rfl):PE X (.Call (.Name x p) (e::es) [] pos) (tCB r t):=by
 intro pins s σ H Q I h
 refine wpAny_Call_Name_kw (ld_blt I hg hm hv ?_ hn hdb)
 exact PyProof.Rows.callWith_builtin1 (thn (ha pos pins s σ H _ I h) fun us s1 ⟨vs,H1,I1,r1,q1⟩=>hc pins s1 σ H1 vs us Q I1 r1 q1) he hpl
theorem pe_callTy (hc:CallR X (.type T) r) (hg:Gl X x) (hm:X.mg x=none) (hv:bootBuiltins x=some (.type T)) (ha:PA X (e::es) t) (hn:x≠"__name__":=by decide) (hdb:(x == ("__debug__":Str))=false:=by decide)
  (he:starEach (e::es) X.env=(false,eval e X.env)::starEach es X.env:=by rfl) (hpl:(backTo pos (starEach es X.env)).any (·.1)=false:=by rfl):PE X (.Call (.Name x p) (e::es) [] pos) (tCB r t):=by
 intro pins s σ H Q I h
 refine wpAny_Call_Name_kw (ld_blt I hg hm hv ?_ hn hdb)
 exact PyProof.Rows.callWith_type1 (thn (ha pos pins s σ H _ I h) fun us s1 ⟨vs,H1,I1,r1,q1⟩=>hc pins s1 σ H1 vs us Q I1 r1 q1) he hpl
end
end L2
namespace HT
open PySem PyProof.Rows
section
variable {prog:Program} {w:World} {A:Around} {E:Value->Shared->Prop} {s:Shared}
theorem cat_tup {t b:Addr} {vs ws:List Value} {Q:Value->Shared->Prop} (ht:IsTup s.heap t vs.toArray) (hb:IsTup s.heap b ws.toArray) (hv:vs≠[])
  (h1:ws=[]->Q (.ref t) s) (h2:ws≠[]->Q (.ref s.heap.objs.size) {s with heap:=s.heap.push {cls:=.type "tuple",data:=.seq (vs++ws).toArray}})
  (hsz:vs.length+ws.length<=sizeLine):wpAny (model prog w) A (binaryOp .Add (.ref t) (.ref b)) Q E s:=by
 obtain⟨⟨cls,dd,data,sl⟩,ho,hc,n,hd⟩:=id ht
 obtain⟨⟨cls2,dd2,data2,sl2⟩,ho2,hc2,n2,hd2⟩:=id hb
 simp only at hc hd hc2 hd2
 subst hc hd hc2 hd2
 have e:vs.toArray++ws.toArray=(vs++ws).toArray:=by simp
 by_cases hw:ws=[]
 ·exact concat_meets ⟨_,ho,rfl⟩ ⟨_,ho2,rfl⟩ noFill_tuple_add seq_tuple_add PySem.F.slot_tuple_add PySem.F.entry_tuple_add (PySem.F.args_tuple_add_2 _ _)
   (tuple_addW1 t b vs.toArray ws.toArray n n2 dd dd2 sl sl2 (by simpa using hv) (by simp [hw])) ⟨ho,ho2,h1 hw⟩
 ·refine concat_meets ⟨_,ho,rfl⟩ ⟨_,ho2,rfl⟩ noFill_tuple_add seq_tuple_add PySem.F.slot_tuple_add PySem.F.entry_tuple_add (PySem.F.args_tuple_add_2 _ _)
   (tuple_addW2 t b vs.toArray ws.toArray n n2 dd dd2 sl sl2 (by simpa using hv) (by simpa using hw) (by rw [List.size_toArray,List.size_toArray]; exact hsz)) ⟨ho,ho2,?_⟩
  rw [e]
  exact h2 hw
end
end HT
namespace L2
open PySem PySem.Spec PyProof.Rows
abbrev TO:=St->Hp->(Option Int->Hp->Prop)->Prop
theorem intsAre_of {ns:List Int}:∀ {us:List Value},Vals (ns.map V.int) us->IntsAre us ns:=by
 induction ns with
 | nil=>intro us r; rw [List.map_nil] at r; cases r; exact .nil
 | cons n ns ih=>
  intro us r
  rw [List.map_cons] at r
  cases r with
  | cons r1 r2=>
   obtain⟨t,e⟩:=r1
   subst e
   exact .cons n t (ih r2)
section
variable {X:Cx} {e:Expr} {te:TE} {lo hi:Option Expr} {tl th:TO} {pos p2:Pos}
def rCatT (K:PySem.W.Frag):R2:=fun x y H Q=>∃ a b xs ys,x=.ref a/\y=.ref b/\SqT K H a xs/\SqT K H b ys/\xs≠[]/\xs.length+ys.length<=sizeLine/\
 (ys=[]->Q (.ref a) H)/\(ys≠[]->∀ p,H p=none->Q (.ref p) (upd H p (.tup (xs++ys))))
theorem Vals.nil_iff {xs:List V} {us:List Value} (r:Vals xs us):us=[]↔xs=[]:=by
 cases r with
 | nil=>simp
 | cons _ _=>simp
theorem op_catT:OpR X (binaryOp .Add) (rCatT X.K):=by
 intro pins s σ H x y v u Q I rx ry h
 obtain⟨a,b,xs,ys,rfl,rfl,ha,hb,hx,hz,q1,q2⟩:=h
 cases rx
 cases ry
 obtain⟨its,r1,p1,_⟩:=I.tuple ha
 obtain⟨its2,r2,p2,_⟩:=I.tuple hb
 refine HT.cat_tup p1 p2 (fun z=>hx (r1.nil_iff.mp z)) (fun z=>⟨.ref a,H,I,rfl,q1 (r2.nil_iff.mp z)⟩) (fun z=>?_) (by rw [<- r1.length,<- r2.length]; exact hz)
 refine⟨.ref s.heap.objs.size,_,I.laid (t':=s.toks) (o:=.tup (xs++ys)) (fun b ob q=>Heap.get?_push_of_some _ q) (Nat.le_refl _) ?_,rfl,q2 (fun w=>z (r2.nil_iff.mpr w)) _ (I.hok.fresh (Nat.le_refl _))⟩
 exact⟨by rw [List.length_append]; exact hz,_,r1.append r2,IsTup.new _ _⟩
end
def ixN (n:Nat) (i:Int):Option Nat:=if 0<=i then(if i < n then some i.toNat else none) else if -(n:Int)<=i then some (i+n).toNat else none
def atI {α:Type} (xs:List α) (i:Int):Option α:=(ixN xs.length i).bind fun j=>xs[j]?
theorem ixN_seq {n:Nat} {i:Int} {j:Nat} (h:ixN n i=some j):seqIndex? i n=some j/\j < n/\-(n:Int)<=i/\i < n:=by
 unfold ixN at h
 by_cases h0:0<=i
 ·rw [if_pos h0] at h
  by_cases h1:i < n
  ·rw [if_pos h1] at h
   have e:i.toNat=j:=Option.some.inj h
   exact⟨by rw [seqIndex_of h0 h1,e],by omega,by omega,h1⟩
  ·rw [if_neg h1] at h; cases h
 ·rw [if_neg h0] at h
  by_cases h1:-(n:Int)<=i
  ·rw [if_pos h1] at h
   have e:(i+n).toNat=j:=Option.some.inj h
   exact⟨by rw [seqIndex_neg (by omega) h1,e],by omega,h1,by omega⟩
  ·rw [if_neg h1] at h; cases h
theorem atI_get {α:Type} {xs:List α} {i:Int} {v:α} (h:atI xs i=some v):∃ j,seqIndex? i xs.length=some j/\xs[j]?=some v/\j < xs.length/\-(xs.length:Int)<=i/\i < xs.length:=by
 unfold atI at h
 cases e:ixN xs.length i with
 | none=>rw [e] at h; cases h
 | some j=>
  rw [e] at h
  obtain⟨h1,h2,h3,h4⟩:=ixN_seq e
  exact⟨j,h1,h,h2,h3,h4⟩
theorem atI_nat {α:Type} {xs:List α} {j:Nat} {v:α} (h:xs[j]?=some v):atI xs (j:Int)=some v:=by
 have hj:j < xs.length:=(List.getElem?_eq_some_iff.mp h).1
 have e:ixN xs.length (j:Int)=some j:=by
  unfold ixN
  rw [if_pos (by omega),if_pos (by omega)]; simp
 unfold atI; rw [e]; exact h
def PlainIx (b:Expr):Prop:=∀ o i,subscripted b false o i=operate [o,i] (getItem o i)
def IxR (X:Cx) (r:R2):Prop:=
 ∀ (value slice:Expr) (pins:List (Addr×Obj)) (s:Shared) (σ:St) (H:Hp) (x y:V) (v u:Value) (Q:VK),Inv X pins σ H s->RelV x v->RelV y u->r x y H Q->
  subscripted slice false v u=operate [v,u] (getItem v u)->wpAny (model X.prog X.w) X.A (subscriptTail value slice v u) (EP X pins σ Q) X.xe s
def MtR (X:Cx) (id:String) (r:V->List V->Hp->VK->Prop):Prop:=
 ∀ (pins:List (Addr×Obj)) (s:Shared) (σ:St) (H:Hp) (x:V) (xs:List V) (v:Value) (us:List Value) (Q:VK),Inv X pins σ H s->RelV x v->Vals xs us->r x xs H Q->
  wpAny (model X.prog X.w) X.A (call (.builtin id) (v::us)) (EP X pins σ Q) X.xe s
section
variable {X:Cx} {a b:Expr} {ta tb:TE} {pos:Pos}
theorem pe_ix {r:R2} (hr:IxR X r) (ha:PE X a ta) (hb:PE X b tb) (hs:PlainIx b):PE X (.Subscript a b pos) (tOp r ta tb):=by
 intro pins s σ H Q I h
 exact Subscript_ (binT ha hb I h fun v u s2 x y H2 I2 rx ry q=>hr a b pins s2 σ H2 x y v u Q I2 rx ry q (hs _ _))
def rIxL (K:PySem.W.Frag):R2:=fun x y H Q=>∃ p xs i v,x=.ref p/\y=.int i/\SqL K H p xs/\atI xs i=some v/\Q v H
def rIxT (K:PySem.W.Frag):R2:=fun x y H Q=>∃ p xs i v,x=.ref p/\y=.int i/\SqT K H p xs/\atI xs i=some v/\Q v H
theorem ix_list:IxR X (rIxL X.K):=by
 intro value slice pins s σ H x y v u Q I rx ry h hs
 obtain⟨p,xs,i,z,rfl,rfl,hq,he,q⟩:=h
 cases rx
 obtain⟨t,rfl⟩:=ry
 obtain⟨its,r,pl,hz⟩:=I.list hq
 obtain⟨j,h1,h2,h3,h4,h5⟩:=atI_get he
 obtain⟨w,ew,rw'⟩:=r.get h2
 have hl:=r.length
 have hn:=line63
 have fin:EP X pins σ Q w s:=⟨z,H,I,rw',q⟩
 by_cases h0:0<=i
 ·have hj:i.toNat=j:=by
   rw [seqIndex_of h0 h5] at h1
   exact Option.some.inj h1
  exact item_listR pl.isList h0 (by omega) (by rw [hj]; simpa using ew) fin hs
 ·have hj:(i+(its.toArray.size:Int)).toNat=j:=by
   rw [seqIndex_neg (by omega) h4] at h1
   rw [List.size_toArray,<- hl]
   exact Option.some.inj h1
  exact subscriptTail_builtinR (x:=w) pl.isList.typeIs slot_list_getitem.lookup
   (wpAny_getItem_list_neg (Q:=fun r s'=>r=w/\EP X pins σ Q r s') pl.isList (by omega) (by rw [List.size_toArray] <;> omega) (by omega) (by rw [hj]; simpa using ew) ⟨rfl,fin⟩) hs
theorem ix_tup:IxR X (rIxT X.K):=by
 intro value slice pins s σ H x y v u Q I rx ry h hs
 obtain⟨p,xs,i,z,rfl,rfl,hq,he,q⟩:=h
 cases rx
 obtain⟨t,rfl⟩:=ry
 obtain⟨its,r,pl,hz⟩:=I.tuple hq
 obtain⟨j,h1,h2,h3,h4,h5⟩:=atI_get he
 obtain⟨w,ew,rw'⟩:=r.get h2
 have hl:=r.length
 have hn:=line63
 have fin:EP X pins σ Q w s:=⟨z,H,I,rw',q⟩
 exact subscriptTail_builtinR (x:=w) pl.typeIs slot_tuple_getitem.lookup
  (getItem_tuple (j:=j) (Q:=fun r s'=>r=w/\EP X pins σ Q r s') pl (by omega) (by omega) (by rw [List.size_toArray,<- hl]; exact h1) (by simpa using ew) ⟨rfl,fin⟩) hs
theorem mapSeq_set (its:List Value) (n j:Nat) (u:Value):Obj.mapSeq (·.setIfInBounds j u) {cls:=.type "list",data:=.seq its.toArray n}={cls:=.type "list",data:=.seq (its.set j u).toArray n}:=by
 simp [Obj.mapSeq]
theorem Inv.lst {pins:List (Addr×Obj)} {σ:St} {H:Hp} {s:Shared} {p:Addr} {xs:List V} (I:Inv X pins σ H s) (h:H p=some (.lst xs)):
  ∃ (its:List Value) (n:Nat),Vals xs its/\s.heap.get? p=some {cls:=.type "list",data:=.seq its.toArray n}/\xs.length<=sizeLine:=by
 obtain⟨z,its,n,r,e⟩:=I.hok p _ h
 exact⟨its,n,r,e,z⟩
theorem Inv.lstUpd {pins:List (Addr×Obj)} {σ:St} {H:Hp} {s:Shared} {p:Addr} {xs ys:List V} {its its':List Value} {n n':Nat} {f:Obj->Obj} (I:Inv X pins σ H s) (h:H p=some (.lst xs))
  (ho:s.heap.get? p=some {cls:=.type "list",data:=.seq its.toArray n}) (hf:f {cls:=.type "list",data:=.seq its.toArray n}={cls:=.type "list",data:=.seq its'.toArray n'}) (r:Vals ys its') (hz:ys.length<=sizeLine) (t:Nat):
  Inv X pins σ (upd H p (.lst ys)) {s with heap:=s.heap.update p f,toks:=t}:=by
 have e:(s.heap.update p f).get? p=some {cls:=.type "list",data:=.seq its'.toArray n'}:=by
  rw [Heap.get?_update_self f ho (by rw [hf] <;> rfl),hf]
 refine I.write (x:=p) (e:=p) (by rw [h]; trivial) (.inl rfl) (fun b u hb q=>(Heap.get?_update_other _ _ (Ne.symm hb)).trans q) ⟨_,e⟩ ?_
 exact⟨hz,its',n',r,e⟩
def rSetL:V->V->V->Hp->(Hp->Prop)->Prop:=fun o i v H Q=>∃ p xs k j,o=.ref p/\i=.int k/\H p=some (.lst xs)/\ixN xs.length k=some j/\Q (upd H p (.lst (xs.set j v)))
theorem set_list:PSet X rSetL:=by
 intro pins s σ H o i v ov iv u Q I ro ri rv h
 obtain⟨p,xs,k,j,rfl,rfl,hp,hj,q⟩:=h
 cases ro
 obtain⟨t,rfl⟩:=ri
 obtain⟨its,n,r,ho,hz⟩:=I.lst hp
 obtain⟨h1,h2,h3,h4⟩:=ixN_seq hj
 have hl:=r.length
 have hn:=line63
 have I':Inv X pins σ (upd H p (.lst (xs.set j v))) {s with heap:=s.heap.update p (Obj.mapSeq (·.setIfInBounds j u))}:=
  I.lstUpd hp ho (mapSeq_set its n j u) (r.set rv j) (by rw [List.length_set]; exact hz) s.toks
 by_cases h0:0<=k
 ·have hk:k.toNat=j:=by
   rw [seqIndex_of h0 h4] at h1
   exact Option.some.inj h1
  exact PySem.W.ki_setAt ho h0 (by omega) (by rw [List.size_toArray,<- hl]; exact h4) (by rw [hk]; exact⟨_,I',q⟩)
 ·have hk:(k+(its.toArray.size:Int)).toNat=j:=by
   rw [seqIndex_neg (by omega) h3] at h1
   rw [List.size_toArray,<- hl]
   exact Option.some.inj h1
  exact PySem.W.ki_setBack ho (by omega) (by rw [List.size_toArray,<- hl]; exact h3) (by omega) (by rw [hk]; exact⟨_,I',q⟩)
theorem call_len_seq:CallR X (.builtin "len") (fun xs H Q=>∃ p ys,xs=[.ref p]/\(SqL X.K H p ys\/SqT X.K H p ys)/\Q (.int ys.length) H):=by
 intro pins s σ H xs us Q I r h
 obtain⟨p,ys,rfl,hq,q⟩:=h
 obtain⟨u,rfl,rx⟩:=vals1 r
 cases rx
 have hn:=line63
 rcases hq with hq | hq
 ·obtain⟨its,r',pl,hz⟩:=I.list hq
  have hlen:=r'.length
  exact Calls.call_len_list pl.isList (by simp only [List.size_toArray] <;> omega) ⟨.int ys.length,H,I.tok _,⟨s.toks+1,by rw [List.size_toArray,hlen]⟩,q⟩
 ·obtain⟨its,r',pl,hz⟩:=I.tuple hq
  have hlen:=r'.length
  exact len_tuple pl (by simp only [List.size_toArray] <;> omega) ⟨.int ys.length,H,I.tok _,⟨s.toks+1,by rw [List.size_toArray,hlen]⟩,q⟩
def tyV (K:PySem.W.Frag) (T:String) (x:V) (H:Hp):Prop:=match x with
 | .str _=>T="str"
 | .int _=>T="int"
 | .ref p=>(T="list"/\∃ xs,SqL K H p xs)\/(T="tuple"/\∃ o,K.lookup p=some o/\o.cls=.type "tuple"/\o.dict=none)\/
   (T="dict"/\((∃ kvs,H p=some (.dK kvs))\/∃ kvs,H p=some (.dT kvs)))\/(T="set"/\∃ S n,H p=some (.set S n))
 | _=>False
theorem tyV_is {pins:List (Addr×Obj)} {σ:St} {H:Hp} {s:Shared} {T:String} {x:V} {v:Value} (I:Inv X pins σ H s) (r:RelV x v) (ty:tyV X.K T x H):
  s.TypeIs v T/\∀ a,v=.ref a->∃ ob,s.heap.get? a=some ob/\ob.dict=none:=by
 cases x with
 | str z=>
  obtain⟨t,rfl⟩:=r
  cases (show T="str" from ty)
  exact⟨typeIs_str s z t,fun _ e=>nomatch e⟩
 | int i=>
  obtain⟨t,rfl⟩:=r
  cases (show T="int" from ty)
  exact⟨typeIs_int s i t,fun _ e=>nomatch e⟩
 | ref p=>
  cases r
  rcases ty with ⟨rfl,xs,hq⟩ | ⟨rfl,o,hk,hc,hd⟩ | ⟨rfl,hk⟩ | ⟨rfl,S,n,hk⟩
  ·obtain⟨its,_,pl,_⟩:=I.list hq
   refine⟨pl.isList.typeIs,fun a e=>?_⟩
   cases e
   obtain⟨o,n,e,c,hd,_⟩:=pl
   exact⟨o,e,hd⟩
  ·refine⟨⟨o,I.kIn p o hk,hc⟩,fun a e=>?_⟩
   cases e
   exact⟨o,I.kIn _ o hk,hd⟩
  ·have z:∃ o,s.heap.get? p=some o/\o.ExactDict:=by
    rcases hk with ⟨kvs,hk⟩ | ⟨kvs,hk⟩
    ·obtain⟨_,_,_,_,o,_,_,e,ex,_⟩:=I.hok p _ hk
     exact⟨o,e,ex⟩
    ·obtain⟨_,_,_,_,o,_,_,e,ex,_⟩:=I.hok p _ hk
     exact⟨o,e,ex⟩
   obtain⟨o,e,ex⟩:=z
   refine⟨⟨o,e,ex.1⟩,fun a e2=>?_⟩
   cases e2
   exact⟨o,e,ex.2.1⟩
  ·obtain⟨o,_,_,_,e,ex,_⟩:=I.hok p _ hk
   refine⟨⟨o,e,ex.1⟩,fun a e2=>?_⟩
   cases e2
   exact⟨o,e,ex.2.1⟩
 | _=>exact False.elim ty
def tBM0 (K:PySem.W.Frag) (T:String) (r:V->List V->Hp->VK->Prop) (to:TE):TE:=fun σ H Q=>to σ H fun x H1=>tyV K T x H1/\r x [] H1 Q
def tBM (K:PySem.W.Frag) (T:String) (r:V->List V->Hp->VK->Prop) (to:TE) (t:TA):TE:=fun σ H Q=>to σ H fun x H1=>tyV K T x H1/\t σ H1 fun xs H2=>r x xs H2 Q
variable {o e:Expr} {es:List Expr} {to:TE} {t:TA} {name:Str} {apos cpos:Pos} {T id:String} {r:V->List V->Hp->VK->Prop}
theorem pe_bm0 (pa:PlainAttrs T) (slot:Slot T name id) (hty:typeOf (.builtin id)=pure (.type "method_descriptor")) (hm:MtR X id r) (ho:PE X o to)
  (hbase:attributeBase o name X.env (eval o X.env)=eval o X.env:=by rfl) (hline:(apos.endLine == cpos.line)=true:=by rfl):PE X (.Call (.Attribute o name apos) [] [] cpos) (tBM0 X.K T r to):=by
 intro pins s σ H Q I h
 refine wpAny_Call_method0_late hbase hline (thn (ho pins s σ H _ I h) fun v s1 ⟨x,H1,I1,r1,ty,q1⟩=>?_)
 obtain⟨h1,h2⟩:=tyV_is I1 r1 ty
 exact⟨T,id,pa,slot,hty,h1,h2,Calls.callWith_builtin rfl (PySem.evalArgs_none (hm pins s1 σ H1 x [] v [] Q I1 r1 .nil q1))⟩
theorem pe_bm (pa:PlainAttrs T) (slot:Slot T name id) (hty:typeOf (.builtin id)=pure (.type "method_descriptor")) (hm:MtR X id r) (ho:PE X o to) (ha:PA X (e::es) t)
  (hbase:attributeBase o name X.env (eval o X.env)=eval o X.env:=by rfl)
  (hfew:((backTo cpos (starEach (e::es) X.env)).all (fun x=>!x.1) && (backToKw cpos (keywordEach [] X.env)).all (fun x=>x.1.isSome)
   && decide ((e::es).length+([]:List Keyword).length+(if ([]:List Keyword).isEmpty then 0 else 1) < 30))=true:=by rfl)
  (hline:(apos.endLine == cpos.line)=true:=by rfl) (hs:starEach (e::es) X.env=(false,eval e X.env)::starEach es X.env:=by rfl) (hplain:(backTo cpos (starEach es X.env)).any (·.1)=false:=by rfl):
  PE X (.Call (.Attribute o name apos) (e::es) [] cpos) (tBM X.K T r to t):=by
 intro pins s σ H Q I h
 refine wpAny_Call_method_late hbase hfew hline rfl (thn (ho pins s σ H _ I h) fun v s1 ⟨x,H1,I1,r1,ty,q1⟩=>?_)
 obtain⟨h1,h2⟩:=tyV_is I1 r1 ty
 refine⟨T,id,pa,slot,hty,h1,h2,?_⟩
 have hA:=ha cpos pins s1 σ H1 _ I1 q1
 rw [hs] at hA ⊢
 refine Calls.callWith_builtin (by show(false || (backTo cpos (starEach es X.env)).any (·.1))=false; rw [hplain] <;> rfl) (Calls.evalArgs_plain ?_)
 exact thn hA fun us s2 ⟨vs,H2,I2,r2,q2⟩=>hm pins s2 σ H2 x vs v us Q I2 r1 r2 q2
end
def MtM (X:Cx) (id:String) (r:V->List V->Hp->VK->Prop):Prop:=
 ∀ (pins:List (Addr×Obj)) (s:Shared) (σ:St) (H:Hp) (x:V) (xs:List V) (v:Value) (us:List Value) (Q:VK),Inv X pins σ H s->RelV x v->Vals xs us->r x xs H Q->
  wpAny (model X.prog X.w) X.A (call (.builtin id) (v::us)) (EP X pins σ Q) X.xe s
theorem Vals.one:∀ {x:V} {us:List Value},Vals [x] us->∃ u,us=[u]/\RelV x u
 | _,_,.cons r .nil=>⟨_,rfl,r⟩
section
variable {X:Cx} {pins:List (Addr×Obj)} {σ:St} {H:Hp} {s:Shared} {l b:Addr} {xs ys zs:List V}
theorem Inv.lset {its its':List Value} {n:Nat} {f:Array Value->Array Value} {t':Nat} (I:Inv X pins σ H s) (hH:H l=some (.lst xs))
  (e:s.heap.get? l=some {cls:=.type "list",data:=.seq its.toArray n}) (hf:f its.toArray=its'.toArray) (hv:Vals ys its') (hz:ys.length<=sizeLine):
  Inv X pins σ (upd H l (.lst ys)) {s with heap:=s.heap.update l (Obj.mapSeq f),toks:=t'}:=by
 have q:=PySem.IsL.update e f
 rw [hf] at q
 refine I.write (x:=l) (e:=l) (by rw [hH]; exact trivial) (.inl rfl) (fun b' u hb hu=>(Heap.get?_update_other s.heap (Obj.mapSeq f) (Ne.symm hb)).trans hu) ⟨_,q⟩ ?_
 exact⟨hz,its',_,hv,q⟩
theorem Inv.lnew {its:List Value} {t':Nat} (I:Inv X pins σ H s) (hv:Vals ys its) (hz:ys.length<=sizeLine):
  Inv X pins σ (upd H s.heap.objs.size (.lst ys)) {s with heap:=s.heap.push {cls:=.type "list",data:=.seq its.toArray},toks:=t'}:=
 I.laid (fun _ _ q=>Heap.get?_push_of_some _ q) (Nat.le_refl _) ⟨hz,its,0,hv,Heap.get?_push_size _ rfl⟩
theorem Inv.fresh (I:Inv X pins σ H s):H s.heap.objs.size=none:=I.hok.fresh (Nat.le_refl _)
theorem Inv.lstM (I:Inv X pins σ H s) (hH:H l=some (.lst xs)):xs.length<=sizeLine/\∃ (its:List Value) (n:Nat),Vals xs its/\xs.length=its.length/\s.heap.get? l=some {cls:=.type "list",data:=.seq its.toArray n}:=by
 obtain⟨z,its,n,r,e⟩:=I.hok l _ hH
 exact⟨z,its,n,r,r.length,e⟩
end
section
variable {X:Cx}
def rAppend:V->List V->Hp->VK->Prop:=fun x vs H Q=>∃ l xs y,x=.ref l/\vs=[y]/\H l=some (.lst xs)/\xs.length < sizeLine/\Q .non (upd H l (.lst (xs++[y])))
theorem mt_append:MtM X "list.append" rAppend:=by
 intro pins s σ H x vs v us Q I rx rv h
 obtain⟨l,xs,y,rfl,rfl,hH,hz,q⟩:=h
 cases rx
 obtain⟨u,rfl,ru⟩:=rv.one
 obtain⟨z,its,n,r,hl,e⟩:=I.lstM hH
 refine call_meets F.slot_list_append ⟨_,e,rfl⟩ F.entry_list_append (F.args_list_append_2 _ _) (PySem.list_append l its.toArray n u (by rw [List.size_toArray]; omega)) ⟨e,?_⟩
 refine⟨.non,_,I.lset (its':=its++[u]) hH e (by simp) (r.append (.cons ru .nil)) ?_,rfl,q⟩
 rw [List.length_append,List.length_singleton]
 omega
def rCat:R2:=fun x y H Q=>∃ l b xs zs,x=.ref l/\y=.ref b/\H l=some (.lst xs)/\H b=some (.lst zs)/\xs.length+zs.length<=sizeLine/\∀ p,H p=none->Q (.ref p) (upd H p (.lst (xs++zs)))
theorem op_cat:OpR X (binaryOp .Add) rCat:=by
 intro pins s σ H x y v u Q I rx ry h
 obtain⟨l,b,xs,zs,rfl,rfl,hH,hB,hz,q⟩:=h
 cases rx
 cases ry
 obtain⟨z,its,n,r,hl,e⟩:=I.lstM hH
 obtain⟨z2,its2,n2,r2,hl2,e2⟩:=I.lstM hB
 refine PySem.P.add_list e e2 ?_ (by rw [List.size_toArray,List.size_toArray]; omega)
 have ea:its.toArray++its2.toArray=(its++its2).toArray:=by simp
 rw [ea]
 exact⟨.ref _,_,I.lnew (t':=s.toks) (r.append r2) (by rw [List.length_append]; omega),rfl,q _ I.fresh⟩
end
section
variable {κ:Type} [DecidableEq κ]
def valV (kvs:List (κ×V)) (k:κ):Option V:=(kvs.find? fun kv=>decide (kv.1=k)).map (·.2)
def putK (kvs:List (κ×V)) (k:κ) (v:V):List (κ×V):=
 if (kvs.any fun kv=>decide (kv.1=k))=true then kvs.map (fun kv=>if kv.1=k then(kv.1,v) else kv) else kvs++[(k,v)]
theorem valV_pos {p:κ×V} {r:List (κ×V)} {k:κ} (e:p.1=k):valV (p::r) k=some p.2:=by simp [valV,List.find?_cons,e]
theorem valV_neg {p:κ×V} {r:List (κ×V)} {k:κ} (e:¬ p.1=k):valV (p::r) k=valV r k:=by simp [valV,List.find?_cons,e]
theorem valV_any (k:κ):∀ kvs:List (κ×V),(kvs.any fun kv=>decide (kv.1=k))=(valV kvs k).isSome
 | []=>rfl
 | p::r=>by
  rw [List.any_cons]
  by_cases e:p.1=k
  ·simp only [valV_pos e,decide_eq_true e,Bool.true_or,Option.isSome_some]
  ·rw [valV_neg e,decide_eq_false e,Bool.false_or]; exact valV_any k r
theorem length_putK (kvs:List (κ×V)) (k:κ) (v:V):(putK kvs k v).length<=kvs.length+1:=by
 unfold putK
 split
 ·rw [List.length_map]; omega
 ·rw [List.length_append,List.length_cons,List.length_nil]; omega
theorem RelO.isSome_eq {o:Option V} {u:Option Value} (r:RelO o u):o.isSome=u.isSome:=by
 cases o with
 | none=>cases u with
  | none=>rfl
  | some _=>exact(show False from r).elim
 | some _=>cases u with
  | none=>exact(show False from r).elim
  | some _=>rfl
theorem KV.val {kvs:List (κ×V)} {vs:List (κ×Value)} (r:KV kvs vs) (k:κ):RelO (valV kvs k) (valueAt vs k):=by
 unfold KV at r
 induction r with
 | nil=>exact True.intro
 | @cons p q ps qs h t ih=>
  obtain⟨h1,h2⟩:=h
  by_cases e:p.1=k
  ·have e':q.1=k:=h1.symm.trans e
   have b:valueAt (q::qs) k=some q.2:=by simp [valueAt,List.find?_cons,e']
   rw [valV_pos e,b]; exact h2
  ·have e':¬ q.1=k:=fun z=>e (h1.trans z)
   have b:valueAt (q::qs) k=valueAt qs k:=by simp [valueAt,List.find?_cons,e']
   rw [valV_neg e,b]; exact ih
theorem KV.any {kvs:List (κ×V)} {vs:List (κ×Value)} (r:KV kvs vs) (k:κ):(kvs.any fun kv=>decide (kv.1=k))=vs.any fun kv=>decide (kv.1=k):=by
 unfold KV at r
 induction r with
 | nil=>rfl
 | cons h t ih=>rw [List.any_cons,List.any_cons,ih,h.1]
theorem KV.repl {kvs:List (κ×V)} {vs:List (κ×Value)} (r:KV kvs vs) (k:κ) {y:V} {u:Value} (ry:RelV y u):
  KV (kvs.map fun kv=>if kv.1=k then(kv.1,y) else kv) (vs.map fun kv=>if kv.1=k then(kv.1,u) else kv):=by
 unfold KV at r ⊢
 induction r with
 | nil=>exact .nil
 | @cons p q ps qs h t ih=>
  rw [List.map_cons,List.map_cons]
  refine .cons ?_ ih
  obtain⟨h1,h2⟩:=h
  by_cases e:p.1=k
  ·rw [if_pos e,if_pos (h1.symm.trans e)]; exact⟨h1,ry⟩
  ·rw [if_neg e,if_neg (fun z=>e (h1.trans z))]; exact⟨h1,h2⟩
theorem KV.put {kvs:List (κ×V)} {vs:List (κ×Value)} (r:KV kvs vs) (k:κ) {y:V} {u:Value} (ry:RelV y u):KV (putK kvs k y) (stored vs k u):=by
 unfold putK stored
 rw [r.any k]
 by_cases e:(vs.any fun kv=>decide (kv.1=k))=true
 ·rw [if_pos e,if_pos e]; exact r.repl k ry
 ·rw [if_neg e,if_neg e]; exact Paired.snoc r ⟨rfl,ry⟩
theorem KV.length {kvs:List (κ×V)} {vs:List (κ×Value)} (r:KV kvs vs):kvs.length=vs.length:=Paired.length r
end
theorem kV_is {P:Program} {w:World} {k:Key} {u:Value} (r:RelV (kV k) u):(mixKind P w).is k u=true:=by
 cases k with
 | inl i=>obtain⟨t,e⟩:=(show ∃ t,u=Value.int i t from r); subst e; exact mixKind_int P w i t
 | inr x=>obtain⟨t,e⟩:=(show ∃ t,u=Value.str x t from r); subst e; exact mixKind_str P w x t
theorem items_are {P:Program} {w:World}:∀ {ks:List Key} {us:List Value},Vals (ks.map kV) us->ItemsAre (mixKind P w) ks us
 | [],_,r=>by rw [List.map_nil] at r; cases r; exact .nil
 | k::ks,_,r=>by
  rw [List.map_cons] at r
  cases r with
  | cons h t=>exact .cons (kV_is h) (items_are t)
abbrev KT (H:Hp):List (List Key×V)->List (List Key×Addr×Value)->Prop:=Paired fun p q=>p.1=q.1/\H q.2.1=some (.tup (p.1.map kV))/\RelV p.2 q.2.2
theorem KT.val {H:Hp} {kvs:List (List Key×V)} {xs:List (List Key×Addr×Value)} (r:KT H kvs xs) (k:List Key):RelO (valV kvs k) ((atKey xs k).map (·.2)):=by
 induction r with
 | nil=>exact True.intro
 | @cons p q ps qs h t ih=>
  obtain⟨h1,_,h2⟩:=h
  by_cases e:p.1=k
  ·have e':q.1=k:=h1.symm.trans e
   have b:atKey (q::qs) k=some q.2:=by simp [atKey,List.find?_cons,e']
   rw [valV_pos e,b]; exact h2
  ·have e':¬ q.1=k:=fun z=>e (h1.trans z)
   have b:atKey (q::qs) k=atKey qs k:=by simp [atKey,List.find?_cons,e']
   rw [valV_neg e,b]; exact ih
theorem KT.repl {H:Hp} {kvs:List (List Key×V)} {xs:List (List Key×Addr×Value)} (r:KT H kvs xs) (k:List Key) {y:V} {u:Value} (ry:RelV y u):
  KT H (kvs.map fun kv=>if kv.1=k then(kv.1,y) else kv) (xs.map (putAt k u)):=by
 induction r with
 | nil=>exact .nil
 | @cons p q ps qs h t ih=>
  rw [List.map_cons,List.map_cons]
  refine .cons ?_ ih
  obtain⟨h1,h2,h3⟩:=h
  unfold putAt
  by_cases e:p.1=k
  ·rw [if_pos e,if_pos (h1.symm.trans e)]; exact⟨h1,h2,ry⟩
  ·rw [if_neg e,if_neg (fun z=>e (h1.trans z))]; exact⟨h1,h2,h3⟩
theorem KT.put {H:Hp} {kvs:List (List Key×V)} {xs:List (List Key×Addr×Value)} (r:KT H kvs xs) (k:List Key) {b:Addr} {y:V} {u:Value} (hb:H b=some (.tup (k.map kV))) (ry:RelV y u):
  KT H (putK kvs k y) (storedH xs k b u):=by
 have e:(kvs.any fun kv=>decide (kv.1=k))=(atKey xs k).isSome:=by
  rw [valV_any,(r.val k).isSome_eq,Option.isSome_map]
 unfold putK storedH
 rw [e]
 by_cases q:(atKey xs k).isSome=true
 ·rw [if_pos q,if_pos q]; exact r.repl k ry
 ·rw [if_neg q,if_neg q]; exact Paired.snoc r ⟨rfl,hb,ry⟩
theorem KT.keeps {H H':Hp} {kvs:List (List Key×V)} {xs:List (List Key×Addr×Value)} (r:KT H kvs xs) (ht:∀ b ys,H b=some (.tup ys)->H' b=some (.tup ys)):KT H' kvs xs:=
 Paired.mapP r fun _ _ z=>⟨z.1,ht _ _ z.2.1,z.2.2⟩
section
variable {P:Program} {w:World} {H:Hp} {h:Heap} {a:Addr}
theorem rd_of {u:HO} (ok:HOk P w H h) (e:Rd H a u):ObjOk P w H h a u:=e.ok ok
theorem dk_rd {kvs:List (Key×V)} (ok:HOk P w H h) (e:Rd H a (.dK kvs)):kvs.length<=sizeLine/\(a == sysModules)=false/\∃ vs,KV kvs vs/\h.DictOf (mixKind P w) a vs:=
 show ObjOk P w H h a (.dK kvs) from rd_of ok e
theorem dk_of {kvs:List (Key×V)} (ok:HOk P w H h) (e:H a=some (.dK kvs)):kvs.length<=sizeLine/\(a == sysModules)=false/\∃ vs,KV kvs vs/\h.DictOf (mixKind P w) a vs:=dk_rd ok (.inl e)
theorem key_of {ks:List Key} (ok:HOk P w H h) (e:H a=some (.tup (ks.map kV))):(tupleKind (mixKind P w)).is h ks a:=by
 obtain⟨_,its,r,o,h1,h2,n,h3⟩:=(show ObjOk P w H h a (.tup (ks.map kV)) from ok a _ e)
 exact⟨o,its.toArray,n,h1,h2,h3,by simpa using items_are r⟩
theorem dt_rd {kvs:List (List Key×V)} (ok:HOk P w H h) (e:Rd H a (.dT kvs)):kvs.length<=sizeLine/\(a == sysModules)=false/\
  ∃ xs,KT H kvs xs/\h.DictOfH (tupleKind (mixKind P w)) a xs:=by
 obtain⟨z,y,xs,r,o,es,ep,h1,h2,h3,h4,h5⟩:=(show ObjOk P w H h a (.dT kvs) from rd_of ok e)
 refine⟨z,y,xs,r,o,es,ep,h1,h2,h3,h4,fun x hx=>?_,h5⟩
 have all:∀ {l:List (List Key×V)} {m:List (List Key×Addr×Value)},KT H l m->∀ x∈m,(tupleKind (mixKind P w)).is h x.1 x.2.1:=by
  intro l m q
  induction q with
  | nil=>intro x hx; exact nomatch hx
  | @cons p q ps qs hq t ih=>
   intro x hx
   rcases List.mem_cons.mp hx with e | hx
   ·subst e
    exact key_of ok (by rw [<- hq.1]; exact hq.2.1)
   ·exact ih x hx
 exact all r x hx
theorem dt_of {kvs:List (List Key×V)} (ok:HOk P w H h) (e:H a=some (.dT kvs)):kvs.length<=sizeLine/\(a == sysModules)=false/\
  ∃ xs,KT H kvs xs/\h.DictOfH (tupleKind (mixKind P w)) a xs:=dt_rd ok (.inl e)
end
def DGet (H:Hp) (a:Addr) (y:V) (r:Option V):Prop:=
 (∃ kvs k,Rd H a (.dK kvs)/\y=kV k/\r=valV kvs k)\/∃ kvs k b,Rd H a (.dT kvs)/\y=.ref b/\H b=some (.tup (k.map kV))/\r=valV kvs k
def DPut (H:Hp) (a:Addr) (y v:V) (H':Hp):Prop:=
 (∃ kvs k,H a=some (.dK kvs)/\y=kV k/\kvs.length < sizeLine/\H'=upd H a (.dK (putK kvs k v)))\/
 ∃ kvs k b,H a=some (.dT kvs)/\y=.ref b/\H b=some (.tup (k.map kV))/\kvs.length < sizeLine/\H'=upd H a (.dT (putK kvs k v))
theorem DGet.k {H:Hp} {a:Addr} {kvs:List (Key×V)} {k:Key} (e:H a=some (.dK kvs)):DGet H a (kV k) (valV kvs k):=.inl ⟨kvs,k,.inl e,rfl,rfl⟩
theorem DPut.k {H:Hp} {a:Addr} {kvs:List (Key×V)} {k:Key} {v:V} (e:H a=some (.dK kvs)) (hl:kvs.length < sizeLine):DPut H a (kV k) v (upd H a (.dK (putK kvs k v))):=.inl ⟨kvs,k,e,rfl,hl,rfl⟩
section
variable {X:Cx} {pins:List (Addr×Obj)} {σ:St} {H:Hp} {s:Shared} {a:Addr} {y v:V} {u r:Value} {o:Option V} {A:Around} {E:Value->Shared->Prop}
theorem Inv.big (I:Inv X pins σ H s):sysModules < s.heap.objs.size:=by
 have h:mainGlobals < s.heap.objs.size:=(I.mod.glob.keeps I.bk).lt
 exact Nat.lt_trans (by decide) h
theorem d_getItem {Q:Value->Shared->Prop} (hu:A.units+1 < cLine) (I:Inv X pins σ H s) (g:DGet H a y (some v)) (ry:RelV y u) (h:∀ w' s',Inv X pins σ H s'->RelV v w'->Q w' s'):
  wpAny (model X.prog X.w) A (getItem (.ref a) u) Q E s:=by
 rcases g with ⟨kvs,k,e,ey,l⟩ | ⟨kvs,k,b,e,ey,eb,l⟩
 ·subst ey
  obtain⟨z,hd,vs,rel,dd⟩:=dk_rd I.hok e
  obtain⟨w',hw,rw'⟩:=RelO.some_of (v:=v) (o:=valueAt vs k) (by rw [l]; exact rel.val k)
  exact wpAny_getItem_of (kV_is ry) dd.mapOf hw (h w' _ (I.tok _) rw')
 ·subst ey
  cases (show u=Value.ref b from ry)
  obtain⟨z,hd,xs,rel,dd⟩:=dt_rd I.hok e
  obtain⟨w',hw,rw'⟩:=RelO.some_of (v:=v) (o:=(atKey xs k).map (·.2)) (by rw [l]; exact rel.val k)
  obtain⟨p,hp,hp2⟩:=Option.map_eq_some_iff.mp hw
  refine wpAny_getItem_heap (tupleKind_room_in1 hu) (key_of I.hok eb) dd hp ?_
  rw [hp2]
  exact h w' _ (I.tok _) rw'
theorem d_write {h':Heap} {t':Nat} {ob:HO} (I:Inv X pins σ H s) (mu:Mut (H a)) (hs:Heap.SameBut a s.heap h') (he:∃ q,h'.get? a=some q) (new:ObjOk X.prog X.w (upd H a ob) h' a ob):
  Inv X pins σ (upd H a ob) {s with heap:=h',toks:=t'}:=
 I.write (x:=a) (e:=a) mu (.inl rfl) (fun b q hb z=>(hs.2 b hb).trans z) he new
theorem dk_new {P:Program} {w:World} {H':Hp} {h':Heap} {kvs:List (Key×V)} {vs:List (Key×Value)} (z:kvs.length<=sizeLine) (hd:(a == sysModules)=false) (rel:KV kvs vs) (dd:h'.DictOf (mixKind P w) a vs):
  ObjOk P w H' h' a (.dK kvs):=⟨z,hd,vs,rel,dd⟩
theorem d_setItem {H':Hp} {Q:Unit->Shared->Prop} (hu:A.units+1 < cLine) (I:Inv X pins σ H s) (g:DPut H a y v H') (ry:RelV y u) (rv:RelV v r) (h:∀ s',Inv X pins σ H' s'->Q () s'):
  wpAny (model X.prog X.w) A (setItem (.ref a) u r) Q E s:=by
 rcases g with ⟨kvs,k,e,ey,l,eH⟩ | ⟨kvs,k,b,e,ey,eb,l,eH⟩
 ·subst ey eH
  obtain⟨z,hd,vs,rel,dd⟩:=dk_of I.hok e
  have hz:vs.length<=sizeLine:=by rw [<- rel.length]; exact z
  have hl:(putK kvs k v).length<=sizeLine:=by have:=length_putK kvs k v; omega
  refine wpAny_setItem_pairs (hsz:=hz) (kV_is ry) dd fun h' dd' hs=>h _ ?_
  have he:∃ q,h'.get? a=some q:=let ⟨q,_,_,hq,_⟩:=dd'; ⟨q,hq⟩
  exact d_write I (by rw [e]; exact True.intro) hs he (dk_new hl hd (rel.put k rv) dd')
 ·subst ey eH
  cases (show u=Value.ref b from ry)
  obtain⟨z,hd,xs,rel,dd⟩:=dt_of I.hok e
  have hz:xs.length<=sizeLine:=by rw [<- Paired.length rel]; exact z
  have hl:(putK kvs k v).length<=sizeLine:=by have:=length_putK kvs k v; omega
  refine wpAny_setItem_heap (hsz:=hz) (tupleKind_room_in1 hu) (key_of I.hok eb) dd fun h' dd' hs=>h _ ?_
  obtain⟨q,es,ep,hq,h2,h3,h4,_,h5⟩:=dd'
  refine d_write I (by rw [e]; exact True.intro) hs ⟨q,hq⟩ ⟨hl,hd,_,(rel.put k eb rv).keeps fun c ys ec=>?_,q,es,ep,hq,h2,h3,h4,h5⟩
  rw [upd_ne (ne_of ec e (fun z=>nomatch z))]
  exact ec
end
def NoSl (i:Expr):Prop:=∀ ov iv,subscripted i false ov iv=operate [ov,iv] (getItem ov iv)
theorem subD_of {prog:Program} {w:World} {A:Around} {E:Value->Shared->Prop} {s:Shared} {env:Env} {value slice:Expr} {pos:Pos} {T id:String} {Q:Value->Shared->Prop}
  (hl:typeLookup (.type T) "__getitem__"=pure (some (.builtin id))) (hs:NoSl slice)
  (h:wpAny (model prog w) A (eval value env) (fun o s₁=>wpAny (model prog w) A (eval slice env) (fun i s₂=>s₂.TypeIs o T/\wpAny (model prog w) A (getItem o i) Q E s₂) E s₁) E s):
  wpAny (model prog w) A (eval (.Subscript value slice pos) env) Q E s:=by
 refine Subscript_ (wpAny_mono h (fun o s₁ h₁=>wpAny_mono h₁ (fun i s₂ h₂=>?_) fun _ _ x=>x) fun _ _ x=>x)
 obtain⟨hT,h₂⟩:=h₂
 unfold subscriptTail
 refine wpAny_bind ?_
 rw [getitemInPython_of_ne hT.not_modules]
 refine wpAny_bind (wpAny_specialOf hT hl ?_)
 have fin:wpAny (model prog w) A (subscripted slice false o i) (fun r s₃=>wpAny (model prog w) A (letTemporaryGo value o r >>= fun _=>pure r) Q E s₃) E s₂:=by
  rw [hs o i]
  exact wpAny_operating (wpAny_mono h₂ (fun r s₃ h₃=>wpAny_bind (wpAny_letTemporaryGo (wpAny_pure h₃))) fun _ _ x=>x)
 first
  | exact wpAny_pure (wpAny_bind fin)
  | exact wpAny_bind (wpAny_pure (wpAny_bind fin))
  | exact wpAny_bind fin
theorem dict_typeIs {X:Cx} {pins:List (Addr×Obj)} {σ:St} {H:Hp} {s:Shared} {a:Addr} {y:V} {o:Option V} (I:Inv X pins σ H s) (g:DGet H a y o):s.TypeIs (.ref a) "dict":=by
 rcases g with ⟨kvs,k,e,_,_⟩ | ⟨kvs,k,b,e,_,_,_⟩
 ·obtain⟨_,_,vs,_,dd⟩:=dk_rd I.hok e
  exact dd.typeIs
 ·obtain⟨_,_,xs,_,dd⟩:=dt_rd I.hok e
  exact dd.typeIs
def tDGet (td ty:TE):TE:=fun σ H Q=>td σ H fun x H1=>ty σ H1 fun y H2=>∃ a v,x=.ref a/\DGet H2 a y (some v)/\Q v H2
section
variable {X:Cx} {o i e value:Expr} {pos pos' tpos:Pos} {td ty tv:TE}
theorem pe_dget (hu:X.A.units+1 < cLine) (ho:PE X o td) (hi:PE X i ty) (hs:NoSl i):PE X (.Subscript o i pos) (tDGet td ty):=by
 intro pins s σ H Q I h
 refine subD_of PySem.F.slot_dict_getitem.lookup hs (thn (ho pins s σ H _ I h) fun u s1 ⟨x,H1,I1,rx,q1⟩=>thn (hi pins s1 σ H1 _ I1 q1) fun iv s2 ⟨y,H2,I2,ry,a,v,ex,g,q2⟩=>?_)
 subst ex
 obtain rfl:u=Value.ref a:=rx
 exact⟨dict_typeIs I2 g,d_getItem hu I2 g ry fun w' s3 I3 rw'=>⟨v,H2,I3,rw',q2⟩⟩
end
theorem dk_empty {P:Program} {w:World} {H:Hp} (h:Heap) (hb:sysModules < h.objs.size):ObjOk P w H (h.push {cls:=.type "dict",data:=.dict #[]}) h.objs.size (.dK []):=
 ⟨Nat.zero_le _,beq_eq_false_iff_ne.mpr (Ne.symm (Nat.ne_of_lt hb)),[],.nil,Heap.DictOf.new h⟩
def tDNewK:TE:=fun _ H Q=>∀ p,H p=none->Q (.ref p) (upd H p (.dK []))
section
variable {X:Cx} {pos:Pos}
theorem pe_dnewK:PE X (.Dict [] [] pos) tDNewK:=fun pins s σ H Q I h=>
 wpAny_Dict_empty ⟨.ref s.heap.objs.size,_,I.laid (a:=s.heap.objs.size) (o:=.dK []) (t':=s.toks) (fun _ _ q=>Heap.get?_push_of_some _ q) (Nat.le_refl _) (dk_empty s.heap I.big),rfl,h _ (I.hok.fresh (Nat.le_refl _))⟩
end
abbrev VV:List (V×V)->List (Value×Value)->Prop:=Paired fun p q=>RelV p.1 q.1/\RelV p.2 q.2
structure M2 (X:Cx) (o:Expr) (m:Str) (apos:Pos) (e f:Expr) (cpos:Pos):Prop where
 base:attributeBase o m X.env (eval o X.env)=eval o X.env
 few:((backTo cpos (starEach [e,f] X.env)).all (fun x=>!x.1) && (backToKw cpos (keywordEach [] X.env)).all (fun x=>x.1.isSome)
  && decide (([e,f]:List Expr).length+([]:List Keyword).length+(if ([]:List Keyword).isEmpty then 0 else 1) < 30))=true
 line:(apos.endLine == cpos.line)=true
 trees:backTo cpos (starEach [e,f] X.env)=[(false,eval e X.env),(false,eval f X.env)]
def IsD (H:Hp) (a:Addr):Prop:=(∃ kvs,Rd H a (.dK kvs))\/∃ kvs,Rd H a (.dT kvs)
end L2
namespace Att
open PySem PySem.W PySem.Calls PyProof.Rows
theorem ints_of_wellAll {P:Params} {h:Heap}:∀ (ns:List Int) (vs:List Value),WellAll P h vs (ns.map WData.int)->IntsAre vs ns:=by
 intro ns
 induction ns with
 | nil=>
  intro vs w
  rw [List.map_nil] at w
  cases w
  exact .nil
 | cons n ns ih=>
  intro vs w
  rw [List.map_cons] at w
  cases w with
  | cons a b=>
   cases a
   exact .cons _ _ (ih _ b)
theorem script_of {l:OpenLaw} {n:Nat} (hn:l.most=some n) {P:Params} {h:Heap} {args:List WData} {vals:List Value}
  (hpre:l.row.toRowW.claim.pre args=true) (hwl:WellAll P h vals args):
  ∃ a vs ns,vals=[Value.ref a]/\args=[WData.list (ns.map WData.int)]/\h.get? a=some {cls:=.type "list",data:=.seq vs.toArray}/\IntsAre vs ns/\ns.length<=n:=by
 have hsh:WShape.hasAll [] args [.list .int]=true:=(pre_splitW hpre).1
 have hc:l.pre.holds [] {args:=args}=true:=(pre_splitW hpre).2
 obtain⟨d,r,rfl,h1,h2⟩:=hasAllW_cons hsh
 obtain rfl:=hasAllW_nil h2
 obtain⟨xs,rfl,h3⟩:=hasW_list h1
 obtain⟨ns,rfl⟩:=items_int h3
 have hlen:ns.length<=n:=by
  unfold OpenLaw.pre at hc
  have h4:(WTm.not (.lt (.lit (.int (n:Int))) (.len (.arg 0)))).holds [] {args:=[.list (ns.map .int)]}=true:=by
   have h4:=(holds_andW hc).1
   rw [hn] at h4
   exact h4
  have h5:=condW_of h4 (w_not (w_lt w_lit (w_len_list (w_arg rfl))))
  rw [List.length_map] at h5
  refine Nat.le_of_not_lt fun q=>?_
  have q':(n:Int) < ((ns.length:Nat):Int):=by omega
  first
   | (rw [decide_eq_true q'] at h5; exact absurd h5 (by decide))
   | (simp at h5; omega)
 cases hwl with
 | cons w1 w2=>
  cases w2
  cases w1 with
  | list ho hall=>exact⟨_,_,ns,rfl,rfl,ho,ints_of_wellAll ns _ hall,hlen⟩
theorem post_true (l:OpenLaw) (args:List WData):l.row.toRowW.claim.post args (.bool true) args=true:=
 postW_of (r:=l.row.toRowW) (X:=(true == true))
  (show WShape.has [] (.bool true) .bool=true by first | rfl | decide | simp [WShape.has,WShape.arms,WShape.armsAll])
  (show (WTm.eq .res (.lit (.bool true))).value [] {args:=args,res:=some (.bool true),after:=args}=some (.bool (true == true)) from w_eq_bool (w_res rfl) w_lit) rfl
theorem attach_call {l:OpenLaw} {n:Nat} {q:Program} {loose:List Str} {XP:(Str->Option Value)->Heap->Prop} {YP:World->Heap->Prop} {d:DefRec}
  (hn:l.most=some n) (hdf:d.params.defaults=[])
  (call:∀ (w:World) (s₀ s₁:Shared) (mg mb:Str->Option Value) (fa:Addr) (o:Obj) (pm cd doc:Value) (a:Addr) (vs:List Value) (ns:List Int),
   Ground q loose [] XP w s₀ mg mb s₁.heap->YP w s₁.heap->
   s₁.heap.get? fa=some o->o.data=.func (docDef d.name d.params d.body d.scope pm cd doc)->s₁.heap.CodeRec cd d.name->mg d.name=some (.ref fa)->
   s₁.heap.get? a=some {cls:=.type "list",data:=.seq vs.toArray}->IntsAre vs ns->ns.length<=n->s₁.gens=#[]->
   codeAny (model l.prog w) callerA (.call (.ref fa) ⟨[.ref a],[]⟩) (fun r s'=>r=.ok (.ret (.bool true))/\OldK s₁.heap s'.heap/\s'.os=s₁.os/\AllBare s'.gens) s₁):
  WalkO q loose XP YP l.row.toRowW d [] (fun f vs=>PySem.call f vs):=by
 intro w s₀ s₁ mg mb G Y fa o pm cd doc dV kV ho hd hcd hD hmg hg args vals as hpre hlay hrd hwl hlo
 obtain rfl:dV=.none:=Dflts.none hD hdf
 obtain rfl:kV=.none:=Dflts.noKw hD
 obtain⟨a,vs,ns,rfl,rfl,hobj,hints,hlen⟩:=script_of hn hpre hwl
 refine enter_call (codeAny_mono (call w s₀ s₁ mg mb fa o pm cd doc a vs ns G Y ho (fd_plain hd) hcd hmg hobj hints hlen hg) fun r s' hq=>?_)
 obtain⟨rfl,h2,h3,h4⟩:=hq
 exact⟨.inl ⟨.bool true,.bool true,[],rfl,fun _=>rfl,.bool true,post_true l _,fun _=>⟨List.Pairwise.nil,fun _ hm=>(nomatch hm)⟩⟩,h2,h3,h4⟩
section
variable {prog:Program} {w:World} {A:Around} {E:Value->Shared->Prop} {s:Shared} {K:Frag}
def ledger (h:Heap) (L d:Addr):List (Addr×Obj):=(List.range h.objs.size).filterMap fun a=>if a=L\/a=d then none else(h.get? a).map fun o=>(a,o)
end
end Att
namespace L2
open PySem PySem.Spec PyProof.Rows
theorem vals_ints:∀ {vs:List Value} {ns:List Int},IntsAre vs ns->Vals (ns.map V.int) vs
 | _,_,.nil=>.nil
 | _,_,.cons n t h=>.cons ⟨t,rfl⟩ (vals_ints h)
def Only (H:Hp):Prop:=∀ b,H b=none\/∃ o xs,H b=some (.frz o (.lst xs))
theorem law_call {P:Program} {w:World} {K:PySem.W.Frag} {mg mb:Str->Option Value} {CX:CXT} {k:Nat} {fa a:Addr} {fd:FuncData} {x:Str} {sp:Sp} {s₁:Shared} {vs:List Value} {ns:List Int}
  (KX:K.In s₁.heap) (hns:s₁.heap.Ns mainGlobals mg) (hb:s₁.heap.Ns builtinsNs mb) (hbb:∀ x:Str,x≠"__name__"->mb x=bootBuiltins x) (hlim:s₁.heap.NoLimit) (hg:s₁.gens=#[])
  (ha:s₁.heap.get? a=some {cls:=.type "list",data:=.seq vs.toArray}) (hi:IntsAre vs ns) (hl:ns.length<=sizeLine) (hr:Room k callerA)
  (F:∀ base:Heap,K.In base->base.Ns mainGlobals mg->FnOk P w K mg base CX k fa fd [x] sp) (hbind:∀ (s:Shared) (u:Value),BindsTo s fd ⟨[u],[]⟩ [(x,u)])
  (hsp:∀ H:Hp,Only H->SqL K H a (ns.map V.int)->sp [.ref a] H (fun v _=>v=.bl true) fun _ _ _=>False)
  (hCX:∀ H e s',CX [] H s₁ (fun _ _ _=>False) e s'->False):
  codeAny (model P w) callerA (.call (.ref fa) ⟨[.ref a],[]⟩) (fun r s'=>r=.ok (.ret (.bool true))/\OldK s₁.heap s'.heap/\s'.os=s₁.os/\AllBare s'.gens) s₁:=by
 have rv:=vals_ints hi
 have lenV:=hi.length
 have core:∀ H:Hp,Only H->SqL K H a (ns.map V.int)->HOk P w H s₁.heap->(∀ b,H b≠none->b=a)->(H a≠none->K.lookup a=none)->
   codeAny (model P w) callerA (.call (.ref fa) ⟨[.ref a],[]⟩) (fun r s'=>r=.ok (.ret (.bool true))/\OldK s₁.heap s'.heap/\s'.os=s₁.os/\AllBare s'.gens) s₁:=by
  intro H hO hS hok hA hK
  have base_of:∀ {b:Addr} {o:Obj},s₁.heap.get? b=some o->H b=none->(hidT s₁.heap H).get? b=some o:=fun e n=>hidT_get e n
  have noA:∀ {b:Addr} {o:Obj} {es:Array DictEntry} {ep:Nat},s₁.heap.get? b=some o->o.data=.dict es ep->H b=none:=fun {b o es ep} e d=>by
   cases q:H b with
   | none=>rfl
   | some u=>
    have e':b=a:=hA b (by rw [q]; simp)
    subst e'
    rw [ha] at e; cases e
    have d':Data.seq vs.toArray _=Data.dict es ep:=d
    cases d'
  have nsK:∀ {b:Addr} {m:Str->Option Value},s₁.heap.Ns b m->(hidT s₁.heap H).Ns b m:=fun {b m} ⟨o,es,ep,e,d,r⟩=>⟨o,es,ep,base_of e (noA e d),d,r⟩
  have hKb:K.In (hidT s₁.heap H):=fun b o e=>base_of (KX b o e) (by
   cases q:H b with
   | none=>rfl
   | some u=>
    have e':b=a:=hA b (by rw [q]; simp)
    subst e'
    rw [hK (by rw [q]; simp)] at e; cases e)
  have hM:Mod K mg (hidT s₁.heap H):=⟨hKb,nsK hns,⟨mb,nsK hb,hbb⟩,let ⟨mc,h1,h2⟩:=hlim; ⟨mc,nsK h1,h2⟩⟩
  have e0:Env0 P w K mg (hidT s₁.heap H) callerA [] s₁ H:=⟨rfl,hM,fun b o e=>of_hidT e,Nat.le_of_eq (hidT_size _ _),trivial,fun b hb=>absurd (show b∈([]:List Addr) from hb) (by simp),hok,.of_eq hg⟩
  refine codeAny_mono ((F _ hKb (nsK hns)).run callerA [] s₁ H ⟨[.ref a],[]⟩ [.ref a] [.ref a] _ _ hr e0 (hbind s₁ (.ref a)) (.cons rfl .nil) (hsp H hO hS)) fun r s' h=>?_
  cases r with
  | error e=>exact(hCX H e s' h).elim
  | ok fl=>
   cases fl with
   | next=>exact False.elim h
   | brk=>exact False.elim h
   | cont=>exact False.elim h
   | ret u=>
    obtain⟨v,H',os,bare,un,hok',r',q⟩:=h
    have q':v=.bl true:=q
    subst q'
    obtain rfl:u=Value.bool true:=r'
    refine⟨rfl,OldK.of_keep fun b o e=>?_,os,bare⟩
    cases q:H b with
    | none=>exact un.keep b o e q (by intro z; exact absurd (show b∈([]:List Addr) from z) (by simp)) (by simp)
    | some u=>
     rcases hO b with z | ⟨ob,xs,z⟩
     ·rw [q] at z; cases z
     ·have z2:=un.frzs b ob _ z
      obtain⟨e1,_⟩:=hok b _ z
      obtain⟨e2,_⟩:=hok' b _ z2
      rw [e] at e1; cases e1
      exact e2
 cases hk:K.lookup a with
 | some o=>
  have e:=KX a o hk
  rw [ha] at e
  cases e
  refine core (fun _=>none) (fun _=>.inl rfl) (.inr ⟨_,vs.toArray,_,hk,rfl,rfl,rfl,by rw [List.size_toArray,lenV]; exact hl,by simpa using rv⟩) (fun b u z=>by have z':(none:Option HO)=some u:=z; cases z') (fun b z=>absurd rfl z) fun z=>absurd rfl z
 | none=>
  refine core (fun b=>if b=a then some (.frz {cls:=.type "list",data:=.seq vs.toArray} (.lst (ns.map V.int))) else none) (fun b=>?_) (.inl (.inr ⟨{cls:=.type "list",data:=.seq vs.toArray},if_pos rfl⟩)) (fun b u z=>?_) (fun b z=>?_) fun _=>hk
  ·by_cases hb:b=a
   ·exact .inr ⟨_,_,if_pos hb⟩
   ·exact .inl (if_neg hb)
  ·by_cases hb:b=a
   ·have z':=(if_pos hb).symm.trans z
    cases z'
    subst hb
    exact⟨ha,by rw [List.length_map]; exact hl,vs,_,rv,ha⟩
   ·have z':=(if_neg hb).symm.trans z
    cases z'
  ·by_cases hb:b=a
   ·exact hb
   ·exact absurd (if_neg hb) z
abbrev KOf {K:PySem.W.Frag} {h:Heap} (_:K.In h):PySem.W.Frag:=K
theorem walk_of {l:PySem.W.OpenLaw} {n k:Nat} {q:Program} {loose:List Str} {XP:(Str->Option Value)->Heap->Prop} {YP:World->Heap->Prop} {d:DefRec} {K:Params->PySem.W.Frag} {CX:World->CXT} {sp:World->Sp} {x:Str}
  (hn:l.most=some n) (hn2:n<=sizeLine) (hdf:d.params.defaults=[]) (hr:Room k callerA)
  (hY:∀ (w:World) (h:Heap),YP w h->(K w.params).In h)
  (F:∀ (w:World) (mg:Str->Option Value) (fa:Addr) (h:Heap),(K w.params).In h->h.Ns mainGlobals mg->mg d.name=some (.ref fa)->
   ∃ fd:FuncData,(∀ (s:Shared) (u:Value),BindsTo s fd ⟨[u],[]⟩ [(x,u)])/\
    ∀ base:Heap,(K w.params).In base->base.Ns mainGlobals mg->FnOk l.prog w (K w.params) mg base (CX w) k fa fd [x] (sp w))
  (hsp:∀ (w:World) (H:Hp) (a:Addr) (ns:List Int),ns.length<=n->Only H->SqL (K w.params) H a (ns.map V.int)->sp w [.ref a] H (fun v _=>v=.bl true) fun _ _ _=>False)
  (hCX:∀ (w:World) (H:Hp) (s:Shared) (e:Value) (s':Shared),CX w [] H s (fun _ _ _=>False) e s'->False):
  PySem.W.WalkO q loose XP YP l.row.toRowW d [] (fun f vs=>PySem.call f vs):=by
 refine Att.attach_call hn hdf fun w s₀ s₁ mg mb fa o pm cd doc a vs ns G Y ho hd hcd hmg hobj hints hlen hg=>?_
 have KX:=hY w _ Y
 obtain⟨fd,hb,hF⟩:=F w mg fa _ KX G.T.g hmg
 exact law_call KX G.T.g G.T.b G.T.builtins G.T.nolimit hg hobj hints (Nat.le_trans hlen hn2) hr hF hb (fun H hO hS=>hsp w H a ns hlen hO hS) fun H e s'=>hCX w H s₁ e s'
def defArgs (s:Stmt):Arguments:=match s with
 | .FunctionDef _ a _ _ _ _ _ _ _ _=>a
 | _=>{posonlyargs:=[],args:=[],vararg:=none,kwonlyargs:=[],kw_defaults:=[],kwarg:=none,defaults:=[]}
def defBody (s:Stmt):List Stmt:=match s with
 | .FunctionDef _ _ b _ _ _ _ _ _ _=>b
 | _=>[]
def defScope (s:Stmt):Scope:=match s with
 | .FunctionDef _ _ _ _ _ _ sc _ _ _=>sc
 | _=>{kind:=.function,names:=[],isGenerator:=false,isCoroutine:=false}
abbrev CX0:CXT:=fun _ _ _ _ _ _=>False
abbrev E0:XK:=fun _ _ _=>False
theorem pass0 {X:Cx}:Passes CX0 X E0:=fun _ _ _ _ _ _ _ h=>h.elim
structure Fun (K:PySem.W.Frag) (x qual:Str) (st:Stmt) (f:Addr) (fd:FuncData):Prop where
 ex:∃ (oc:Value) (od:Option Addr) (kV doc pm:Value) (an:Option Addr) (cdv ct:Value) (osl:Array (Option Value)),
  fd=PySem.W.fnOf x qual (defArgs st) (defBody st) (defScope st) .none kV doc pm an cdv ct/\K.lookup f=some ⟨oc,od,.func fd,osl⟩/\PySem.W.codeIn K cdv qual=true
 kp:PySem.W.keepIn K (.ref f)=true
section
variable {P:Program} {w:World} {K:PySem.W.Frag} {mg:Str->Option Value} {base:Heap}
theorem Fun.ok {x qual:Str} {st:Stmt} {f:Addr} {fd:FuncData} {N ps:List Str} {k:Nat} {sp:Sp} (F:Fun K x qual st f fd) (S:FnScope N ps (defScope st)) (len:∀ vs H Q E,sp vs H Q E->vs.length=ps.length)
  (hbody:∀ (cdv:Value) (A:Around) (outer:List Env) (s:Shared) (H:Hp) (vs:List V) (Q:VK) (E:XK),Room k (A.deeper (envOfC qual (defScope st) s.heap.objs.size f cdv))->sp vs H Q E->
   ∃ t,PSs (cxOf CX0 P w K mg base N qual (defScope st) f cdv A outer s H E).nox (defBody st) t/\t {nx:=fun _ H'=>Q .non H',rt:=Q} (start N vs) H):FnOk P w K mg base CX0 (k+1) f fd ps sp:=by
 obtain⟨oc,od,kV,doc,pm,an,cdv,ct,osl,rfl,lk,hcd⟩:=F.ex
 refine fn_of lk hcd S len fun A outer s H vs Q E hr hsp=>?_
 obtain⟨t,h,q⟩:=hbody cdv A outer s H vs Q E hr hsp
 exact⟨t,h.nox,q⟩
theorem Fun.binds {x qual:Str} {st:Stmt} {f:Addr} {fd:FuncData} {ps:List Str} (F:Fun K x qual st f fd)
  (h:∀ (kV doc pm:Value) (an:Option Addr) (cdv ct:Value) (us:List Value),us.length=ps.length->bindArgs (PySem.W.fnOf x qual (defArgs st) (defBody st) (defScope st) .none kV doc pm an cdv ct) ⟨us,[]⟩=pure (ps.zip us)):Binds K fd ps []:=by
 obtain⟨oc,od,kV,doc,pm,an,cdv,ct,osl,rfl,lk,hcd⟩:=F.ex
 exact .all (h kV doc pm an cdv ct)
theorem fun_mk {x qual:Str} {st:Stmt} {f:Addr} {oc:Value} {od an:Option Addr} {osl:Array (Option Value)} {kV doc pm cdv ct:Value} (l:K.lookup f=some ⟨oc,od,.func (PySem.W.fnOf x qual (defArgs st) (defBody st) (defScope st) .none kV doc pm an cdv ct),osl⟩)
  (c:PySem.W.codeIn K cdv qual=true) (k:PySem.W.keepIn K (.ref f)=true):Fun K x qual st f (PySem.W.fnOf x qual (defArgs st) (defBody st) (defScope st) .none kV doc pm an cdv ct):=⟨⟨oc,od,kV,doc,pm,an,cdv,ct,osl,rfl,l,c⟩,k⟩
end
theorem iteF {A B:Prop} (h:B):if false=true then A else B:=by
 rw [if_neg Bool.false_ne_true]
 exact h
theorem iteT {A B:Prop} (h:A):if true=true then A else B:=by
 rw [if_pos rfl]
 exact h
end L2
set_option linter.all false
namespace HM
theorem gcd_fmod (a b:Int):Int.gcd b (a.fmod b)=Int.gcd a b:=by
 have h:=Int.gcd_sub_mul_right_right b a (a.fdiv b)
 rw [Int.fmod_def,Int.mul_comm b,h,Int.gcd_comm]
theorem fmod_lt (a b:Int) (h:b≠0):(a.fmod b).natAbs < b.natAbs:=by
 rcases Int.lt_or_gt_of_ne h with hb | hb
 ·have e:a.fmod b=-((-a).fmod (-b)):=by rw [Int.neg_fmod_neg,Int.neg_neg]
  have h1:=Int.fmod_nonneg_of_pos (-a) (show 0 < -b by omega)
  have h2:=Int.fmod_lt_of_pos (-a) (show 0 < -b by omega)
  omega
 ·have h1:=Int.fmod_nonneg_of_pos a hb
  have h2:=Int.fmod_lt_of_pos a hb
  omega
theorem gcd_zero (a:Int):((Int.gcd a 0:Nat):Int)=if a < 0 then -a else a:=by
 rw [Int.gcd_zero_right]
 split <;> omega
def shr (t b:Int):Int:=if b < 0 then -((Int.gcd t b:Nat):Int) else((Int.gcd t b:Nat):Int)
theorem shr_ne {t b:Int} (h:b≠0):shr t b≠0:=by
 have h1:Int.gcd t b≠0:=fun e=>h (Int.gcd_eq_zero_iff.mp e).2
 unfold shr
 split <;> omega
theorem div_num {t b:Int} (h:b≠0):t.fdiv (shr t b)=(Rat.divInt t b).num:=by
 have hg:((Int.gcd t b:Nat):Int) ∣ t:=Int.gcd_dvd_left t b
 rw [Rat.num_divInt,Int.gcd_comm b t]
 unfold shr
 rcases Int.lt_or_gt_of_ne h with hb | hb
 ·rw [if_pos hb,Int.sign_eq_neg_one_of_neg hb,Int.fdiv_eq_ediv_of_dvd (Int.neg_dvd.mpr hg),Int.ediv_neg,Int.neg_mul,Int.one_mul,Int.neg_ediv_of_dvd hg]
 ·rw [if_neg (by omega),Int.sign_eq_one_of_pos hb,Int.fdiv_eq_ediv_of_dvd hg,Int.one_mul]
theorem div_den {t b:Int} (h:b≠0):b.fdiv (shr t b)=((Rat.divInt t b).den:Int):=by
 have hg:((Int.gcd t b:Nat):Int) ∣ b:=Int.gcd_dvd_right t b
 rw [Rat.den_divInt,Int.gcd_comm b t,if_neg h]
 unfold shr
 rcases Int.lt_or_gt_of_ne h with hb | hb
 ·rw [if_pos hb,Int.fdiv_eq_ediv_of_dvd (Int.neg_dvd.mpr hg),Int.ediv_neg,Int.natCast_ediv]
  rw [show ((b.natAbs:Nat):Int)=-b by omega,Int.neg_ediv_of_dvd hg]
 ·rw [if_neg (by omega),Int.fdiv_eq_ediv_of_dvd hg,Int.natCast_ediv]
  rw [show ((b.natAbs:Nat):Int)=b by omega]
theorem add_of (a b:Rat):Rat.divInt (a.num*b.den+b.num*a.den) (a.den*b.den)=a+b:=by
 rw [Rat.add_def',Rat.mkRat_eq_div,Rat.divInt_eq_div]; simp [Rat.intCast_natCast]
theorem sub_of (a b:Rat):Rat.divInt (a.num*b.den - b.num*a.den) (a.den*b.den)=a - b:=by
 rw [Rat.sub_def',Rat.mkRat_eq_div,Rat.divInt_eq_div]; simp [Rat.intCast_natCast]
theorem mul_of (a b:Rat):Rat.divInt (a.num*b.num) (a.den*b.den)=a*b:=by
 rw [Rat.mul_def',Rat.mkRat_eq_div,Rat.divInt_eq_div]; simp [Rat.intCast_natCast]
theorem div_of (a b:Rat):Rat.divInt (a.num*b.den) (a.den*b.num)=a / b:=by
 rw [Rat.div_def,<- Rat.num_divInt_den b,Rat.inv_divInt]
 conv=>rhs; rw [<- Rat.num_divInt_den a]
 rw [Rat.divInt_mul_divInt,Rat.num_divInt_den]
def isqN:Nat->Nat
 | 0=>0
 | n+1=>if (isqN n+1)*(isqN n+1)<=n+1 then isqN n+1 else isqN n
theorem isqN_spec:∀ n,isqN n*isqN n<=n/\n < (isqN n+1)*(isqN n+1)
 | 0=>by decide
 | n+1=>by
  obtain⟨h1,h2⟩:=isqN_spec n
  unfold isqN
  split
  ·rename_i h
   refine⟨h,?_⟩
   have:(isqN n+1+1)*(isqN n+1+1)=(isqN n+1)*(isqN n+1)+2*(isqN n+1)+1:=by grind
   omega
  ·rename_i h
   exact⟨Nat.le_succ_of_le h1,Nat.lt_of_not_le h⟩
def isq (n:Int):Int:=(isqN n.toNat:Nat)
structure Rt (n r:Int):Prop where
 nn:0<=r
 le:r*r<=n
 lt:n < (r+1)*(r+1)
theorem isq_rt {n:Int} (h:0<=n):Rt n (isq n):=by
 obtain⟨h1,h2⟩:=isqN_spec n.toNat
 refine⟨by unfold isq; omega,?_,?_⟩
 ·unfold isq
  have:((isqN n.toNat*isqN n.toNat:Nat):Int)<=(n.toNat:Int):=Int.ofNat_le.mpr h1
  rw [Int.natCast_mul] at this
  omega
 ·unfold isq
  have:((n.toNat:Nat):Int) < (((isqN n.toNat+1)*(isqN n.toNat+1):Nat):Int):=Int.ofNat_lt.mpr h2
  rw [Int.natCast_mul,Int.natCast_add] at this
  rw [show ((n.toNat:Nat):Int)=n by omega] at this
  exact this
theorem sq_mono {a b:Int} (ha:0<=a) (h:a<=b):a*a<=b*b:=Int.mul_le_mul h h ha (by omega)
theorem Rt.le_of {n r x:Int} (h:Rt n r) (hx:x*x<=n):x<=r:=by
 apply Int.not_lt.mp
 intro hl
 have:=sq_mono (a:=r+1) (b:=x) (by have:=h.nn; omega) (by omega)
 have:=h.lt
 omega
theorem Rt.uniq {n r q:Int} (h:Rt n r) (h':Rt n q):r=q:=Int.le_antisymm (h'.le_of h.le) (h.le_of h'.le)
theorem isq_eq {n r:Int} (h:Rt n r):isq n=r:=(isq_rt (Int.le_trans (by have:=sq_mono (Int.le_refl 0) h.nn; omega) h.le)).uniq h
theorem isq_sq {n x:Int} (e:x*x=n):isq n*isq n=n:=by
 have h:Rt n x.natAbs:=by
  refine⟨by omega,?_,?_⟩
  ·rw [Int.natAbs_mul_self' x]; omega
  ·have:((x.natAbs:Int)+1)*((x.natAbs:Int)+1)=(x.natAbs:Int)*(x.natAbs:Int)+2*x.natAbs+1:=by grind
   rw [Int.natAbs_mul_self' x] at this
   omega
 rw [isq_eq h,Int.natAbs_mul_self' x]
 exact e
theorem newton_ge {n g r:Int} (hg:0 < g) (hr:0<=r) (h:r*r<=n):r<=(g+n / g) / 2:=by
 apply Int.not_lt.mp
 intro hl
 have h1:g+n / g+1<=2*r:=by omega
 have hn:0<=n:=by have:=sq_mono (Int.le_refl 0) hr; omega
 have hq:0<=n / g:=Int.ediv_nonneg hn (by omega)
 have h2:=sq_mono (a:=g+n / g+1) (b:=2*r) (by omega) h1
 have h3:n < (n / g+1)*g:=by
  have:=Int.lt_ediv_add_one_mul_self n hg
  exact this
 have h4:0<=(g - (n / g+1))*(g - (n / g+1)):=by
  rw [<- Int.natAbs_mul_self' (g - (n / g+1))]; exact Int.natCast_nonneg _
 generalize n / g=q at*
 grind
theorem newton_lt {n g r:Int} (hn:0<=n) (h:Rt n r) (hg:r < g):(g+n / g) / 2 < g:=by
 have h0:=h.nn
 have h1:n / g < r+1:=by
  apply Int.ediv_lt_of_lt_mul (by omega)
  have:=h.lt
  have h2:(r+1)*(r+1)<=(r+1)*g:=Int.mul_le_mul_of_nonneg_left (by omega) (by omega)
  omega
 omega
def Bt (n:Nat) (x:Int):Prop:=x.natAbs < 2 ^ n
theorem two_pow_le {m n:Nat} (h:m<=n):2 ^ m<=2 ^ n:=Nat.pow_le_pow_right (by decide) h
theorem Bt.mono {m n:Nat} {x:Int} (h:Bt m x) (hm:m<=n):Bt n x:=Nat.lt_of_lt_of_le h (two_pow_le hm)
theorem Bt.mul {m n:Nat} {x y:Int} (hx:Bt m x) (hy:Bt n y):Bt (m+n) (x*y):=by
 unfold Bt at*
 rw [Int.natAbs_mul,Nat.pow_add]
 exact Nat.mul_lt_mul'' hx hy
theorem Bt.add {m n:Nat} {x y:Int} (hx:Bt m x) (hy:Bt n y):Bt (max m n+1) (x+y):=by
 have h1:=hx.mono (Nat.le_max_left m n)
 have h2:=hy.mono (Nat.le_max_right m n)
 unfold Bt at*
 have:=Int.natAbs_add_le x y
 rw [Nat.pow_succ]
 omega
theorem Bt.neg {m:Nat} {x:Int} (hx:Bt m x):Bt m (-x):=by unfold Bt at *; omega
theorem Bt.sub {m n:Nat} {x y:Int} (hx:Bt m x) (hy:Bt n y):Bt (max m n+1) (x - y):=by
 rw [Int.sub_eq_add_neg]; exact hx.add hy.neg
theorem Bt.le {m:Nat} {x y:Int} (hx:Bt m x) (h:y.natAbs<=x.natAbs):Bt m y:=Nat.lt_of_le_of_lt h hx
structure Sz (n:Nat) (q:Rat):Prop where
 num:Bt n q.num
 den:Bt n q.den
theorem Sz.mono {m n:Nat} {q:Rat} (h:Sz m q) (hm:m<=n):Sz n q:=⟨h.num.mono hm,h.den.mono hm⟩
theorem natAbs_fdiv_le:∀ a b:Int,(a.fdiv b).natAbs<=a.natAbs
 | .ofNat 0,b=>by
  have e:Int.fdiv (.ofNat 0) b=0:=Int.zero_fdiv b
  rw [e]; exact Nat.zero_le _
 | .ofNat (k+1),.ofNat j=>Nat.div_le_self (k+1) j
 | .ofNat (k+1),.negSucc j=>Nat.succ_le_succ (Nat.div_le_self k (j+1))
 | .negSucc _,.ofNat 0=>Nat.zero_le _
 | .negSucc k,.ofNat (j+1)=>Nat.succ_le_succ (Nat.div_le_self k (j+1))
 | .negSucc k,.negSucc j=>Nat.div_le_self (k+1) (j+1)
theorem Sz.divInt {n:Nat} {t b:Int} (ht:Bt n t) (hb:Bt n b) (h:b≠0):Sz n (Rat.divInt t b):=
 ⟨by rw [<- div_num h]; exact ht.le (natAbs_fdiv_le _ _),by rw [<- div_den h]; exact hb.le (natAbs_fdiv_le _ _)⟩
theorem den_ne (q:Rat):(q.den:Int)≠0:=by have:=q.den_nz; omega
theorem den_mul_ne (p q:Rat):(p.den:Int)*q.den≠0:=Int.mul_ne_zero (den_ne p) (den_ne q)
theorem Sz.add {m n:Nat} {a b:Rat} (ha:Sz m a) (hb:Sz n b):Sz (m+n+1) (a+b):=by
 rw [<- add_of]
 refine .divInt ?_ ?_ (den_mul_ne a b)
 ·exact((ha.num.mul hb.den).add (hb.num.mul ha.den)).mono (by omega)
 ·exact(ha.den.mul hb.den).mono (by omega)
theorem Sz.sub {m n:Nat} {a b:Rat} (ha:Sz m a) (hb:Sz n b):Sz (m+n+1) (a - b):=by
 rw [<- sub_of]
 refine .divInt ?_ ?_ (den_mul_ne a b)
 ·exact((ha.num.mul hb.den).sub (hb.num.mul ha.den)).mono (by omega)
 ·exact(ha.den.mul hb.den).mono (by omega)
theorem Sz.mul {m n:Nat} {a b:Rat} (ha:Sz m a) (hb:Sz n b):Sz (m+n) (a*b):=by
 rw [<- mul_of]
 exact .divInt (ha.num.mul hb.num) (ha.den.mul hb.den) (den_mul_ne a b)
theorem num_ne {q:Rat} (h:q≠0):q.num≠0:=fun e=>h (Rat.num_eq_zero.mp e)
theorem Sz.div {m n:Nat} {a b:Rat} (ha:Sz m a) (hb:Sz n b) (h:b≠0):Sz (m+n) (a / b):=by
 rw [<- div_of]
 exact .divInt (ha.num.mul hb.den) (ha.den.mul hb.num) (Int.mul_ne_zero (den_ne a) (num_ne h))
theorem Sz.neg {m:Nat} {a:Rat} (ha:Sz m a):Sz m (-a):=⟨by rw [Rat.neg_num]; exact ha.num.neg,by rw [Rat.neg_den]; exact ha.den⟩
theorem sq_num (r:Rat):(r*r).num=r.num*r.num:=by
 have h:=Rat.num_pow r 2
 rw [show r ^ 2=r*r by grind,show r.num ^ 2=r.num*r.num by grind] at h
 exact h
theorem sq_den (r:Rat):(r*r).den=r.den*r.den:=by
 have h:=Rat.den_pow r 2
 rw [show r ^ 2=r*r by grind,show r.den ^ 2=r.den*r.den by grind] at h
 exact h
def NoSq (u:Rat):Prop:=∀ r:Rat,r*r≠u
theorem noSq_int {u:Int} (h:isq u*isq u≠u):NoSq (u:Rat):=fun r e=>by
 have h1:=congrArg Rat.num e
 rw [sq_num,Rat.num_intCast] at h1
 exact h (isq_sq h1)
theorem isq_le {n:Int} (h:0<=n):isq n<=n:=by
 have rt:=isq_rt h
 have h0:=rt.nn
 have h1:=rt.le
 rcases Int.lt_or_le (isq n) 1 with h2 | h2
 ·omega
 ·have:isq n*1<=isq n*isq n:=Int.mul_le_mul_of_nonneg_left h2 h0
  omega
theorem isq_bt {n:Int} {m:Nat} (h:0<=n) (hb:Bt m n):Bt m (isq n):=hb.le (by have:=isq_le h; have:=(isq_rt h).nn; omega)
theorem isq_zero:isq 0=0:=by decide
structure Gd (n g:Int):Prop where
 pos:0 < g
 ge:isq n<=g
 bt:Bt 2002 g
theorem fdiv2 (a:Int) {b:Int} (h:0 < b):a.fdiv b=a / b:=Int.fdiv_eq_ediv_of_nonneg a (by omega)
theorem Gd.next {n g:Int} (h0:1<=n) (h:Gd n g) (hl:(g+n.fdiv g).fdiv 2 < g):Gd n ((g+n.fdiv g).fdiv 2):=by
 have rt:=isq_rt (n:=n) (by omega)
 have r1:1<=isq n:=rt.le_of (by omega)
 rw [fdiv2 _ (by decide),fdiv2 _ h.pos] at hl ⊢
 have h1:=newton_ge h.pos rt.nn rt.le
 exact⟨by omega,h1,h.bt.le (by have:=h.pos; omega)⟩
theorem Gd.last {n g:Int} (h0:1<=n) (h:Gd n g) (hl:¬ (g+n.fdiv g).fdiv 2 < g):g=isq n:=by
 have rt:=isq_rt (n:=n) (by omega)
 rw [fdiv2 _ (by decide),fdiv2 _ h.pos] at hl
 have h1:=h.ge
 rcases Int.lt_or_le (isq n) g with h2 | h2
 ·exact absurd (newton_lt (by omega) rt h2) hl
 ·omega
theorem Gd.first {n:Int} {b:Nat} (h0:1<=n) (hn:n.natAbs < 2 ^ b) (hb:b<=4000):Gd n ((1:Int)*2 ^ ((((b:Nat):Int)+1).fdiv 2).toNat):=by
 have e:((((b:Nat):Int)+1).fdiv 2).toNat=(b+1) / 2:=by rw [fdiv2 _ (by decide)]; omega
 rw [e,Int.one_mul]
 have hp:(0:Int) < 2 ^ ((b+1) / 2):=Int.pow_pos (by decide)
 have rt:=isq_rt (n:=n) (by omega)
 refine⟨hp,?_,?_⟩
 ·apply Int.not_lt.mp
  intro hl
  have h1:=sq_mono (Int.le_of_lt hp) (Int.le_of_lt hl)
  have h2:=rt.le
  have h3:(2:Int) ^ ((b+1) / 2)*2 ^ ((b+1) / 2)=2 ^ ((b+1) / 2+(b+1) / 2):=(Int.pow_add _ _ _).symm
  have h4:2 ^ b<=2 ^ ((b+1) / 2+(b+1) / 2):=two_pow_le (by omega)
  have h5:((2 ^ ((b+1) / 2+(b+1) / 2):Nat):Int)=(2:Int) ^ ((b+1) / 2+(b+1) / 2):=by rw [Int.natCast_pow]; rfl
  have h6:((2 ^ b:Nat):Int)<=((2 ^ ((b+1) / 2+(b+1) / 2):Nat):Int):=Int.ofNat_le.mpr h4
  have h7:(n.natAbs:Int) < ((2 ^ b:Nat):Int):=Int.ofNat_lt.mpr hn
  rw [h3] at h1
  rw [h5] at h6
  omega
 ·unfold Bt
  rw [Int.natAbs_pow]
  exact Nat.pow_lt_pow_right (by decide) (by omega)
abbrev absI (a:Int):Int:=if a < 0 then -a else a
theorem absI_nn (a:Int):0<=absI a:=by unfold absI; split <;> omega
theorem absI_bt {n:Nat} {a:Int} (h:Bt n a):Bt n (absI a):=h.le (by unfold absI; split <;> omega)
theorem rat_sq_nonneg (r:Rat):0<=r*r:=by
 rcases Rat.le_total (a:=0) (b:=r) with h | h
 ·exact Rat.mul_nonneg h h
 ·have:0<=-r:=by grind
  have:=Rat.mul_nonneg this this
  grind
theorem rat_num_den (w:Rat):(w.num:Rat)=w*(w.den:Rat):=by
 have h:=Rat.num_divInt_den w
 rw [Rat.divInt_eq_div,Rat.intCast_natCast] at h
 have hd:(w.den:Rat)≠0:=by
  have:=w.den_nz
  exact fun e=>this (by exact_mod_cast e)
 grind
theorem rat_den_ne (w:Rat):(w.den:Rat)≠0:=by
 have:=w.den_nz
 exact fun e=>this (by exact_mod_cast e)
def Unders:List Int:=[2,3,5,6,7,8,10,12,18,101]
set_option maxRecDepth 20000 in
theorem unders_no {u:Int} (h:u∈Unders):NoSq (u:Rat)/\0 < u/\u < 128:=by
 have:isq u*isq u≠u/\0 < u/\u < 128:=by
  revert u
  decide
 exact⟨noSq_int this.1,this.2⟩
def ab (b:Rat):Rat:=if b < 0 then -b else b
theorem ab_nn (b:Rat):0<=ab b:=by unfold ab; split <;> grind
theorem ab_sq (b:Rat):ab b*ab b=b*b:=by unfold ab; split <;> grind
def ss (b:Rat):Rat:=b*ab b
theorem num_neg_iff (q:Rat):q.num < 0↔q < 0:=by
 have:=Rat.num_nonneg (q:=q)
 constructor
 ·intro h
  apply Rat.not_le.mp
  intro h2
  have:=this.mpr h2
  omega
 ·intro h
  apply Int.not_le.mp
  intro h2
  exact absurd (this.mp h2) (Rat.not_le.mpr h)
theorem ab_num (q:Rat):(ab q).num=absI q.num:=by
 unfold ab absI
 by_cases h:q < 0
 ·rw [if_pos h,if_pos ((num_neg_iff q).mpr h),Rat.neg_num]
 ·rw [if_neg h,if_neg (fun e=>h ((num_neg_iff q).mp e))]
theorem ab_den (q:Rat):(ab q).den=q.den:=by
 unfold ab
 split
 ·exact Rat.neg_den _
 ·rfl
theorem isq_self {x:Int} (h:0<=x):isq (x*x)=x:=isq_eq ⟨h,Int.le_refl _,by grind⟩
theorem ss_zero {b u:Rat} (hu:0 < u):ss b*u=0↔b=0:=by
 unfold ss ab
 constructor
 ·intro h
  have hu':u≠0:=by grind
  split at h <;> grind
 ·intro h
  subst h
  grind
theorem ss_ab {b u:Rat} (hu:0 < u):ab (ss b*u)=b*b*u:=by
 have h2:=rat_sq_nonneg b
 have h3:=Rat.mul_nonneg h2 (Rat.le_of_lt hu)
 unfold ss
 by_cases h:b < 0
 ·have e:b*ab b*u=-(b*b*u):=by unfold ab; rw [if_pos h]; grind
  rw [e]
  have hp:0 < b*b*u:=by
   have h4:0 < -b:=by grind
   have h5:=Rat.mul_pos h4 h4
   have h6:=Rat.mul_pos h5 hu
   grind
  unfold ab
  rw [if_pos (by grind)]
  grind
 ·have e:b*ab b*u=b*b*u:=by unfold ab; rw [if_neg h]
  rw [e]
  unfold ab
  rw [if_neg (by grind)]
theorem ss_neg {b u:Rat} (hu:0 < u):ss b*u < 0↔b < 0:=by
 have h2:=rat_sq_nonneg b
 have h3:=Rat.mul_nonneg h2 (Rat.le_of_lt hu)
 unfold ss ab
 constructor
 ·intro h
  split at h
  ·assumption
  ·exfalso; grind
 ·intro h
  rw [if_pos h]
  have h4:0 < -b:=by grind
  have h5:=Rat.mul_pos h4 h4
  have h6:=Rat.mul_pos h5 hu
  grind
theorem ss_mul (a b:Rat):ss (a*b)=ss a*ss b:=by
 have e:ab (a*b)=ab a*ab b:=by
  unfold ab
  by_cases ha:a < 0 <;> by_cases hb:b < 0
  ·have:=Rat.mul_pos (show 0 < -a by grind) (show 0 < -b by grind)
   rw [if_neg (by grind),if_pos ha,if_pos hb]; grind
  ·rw [if_pos ha,if_neg hb]
   by_cases h0:b=0
   ·subst h0; grind
   ·have:=Rat.mul_pos (show 0 < -a by grind) (show 0 < b by grind)
    rw [if_pos (by grind)]; grind
  ·rw [if_neg ha,if_pos hb]
   by_cases h0:a=0
   ·subst h0; grind
   ·have:=Rat.mul_pos (show 0 < a by grind) (show 0 < -b by grind)
    rw [if_pos (by grind)]; grind
  ·have:=Rat.mul_nonneg (show 0<=a by grind) (show 0<=b by grind)
   rw [if_neg (by grind),if_neg ha,if_neg hb]
 unfold ss
 rw [e]
 grind
theorem ss_nonneg {b:Rat} (h:0<=b):ss b=b*b:=by unfold ss ab; rw [if_neg (by grind)]
def sg (p q:Rat):Rat:=if q < 0 then -p else p
def sgR (q:Rat):Int:=if 0 < q then 1 else if q < 0 then -1 else 0
theorem sgR_pos {q:Rat} (h:0 < q):sgR q=1:=if_pos h
theorem sgR_neg {q:Rat} (h:q < 0):sgR q=-1:=by unfold sgR; rw [if_neg (by grind),if_pos h]
theorem tri (q:Rat):0 < q\/q < 0\/q=0:=by
 rcases Rat.le_total (a:=0) (b:=q) with h | h
 ·by_cases e:q=0
  ·exact .inr (.inr e)
  ·exact .inl (by grind)
 ·by_cases e:q=0
  ·exact .inr (.inr e)
  ·exact .inr (.inl (by grind))
def sq2 (a b u:Rat):Int:=if 0 < a*a - b*b*u then sgR a else sgR b
theorem sq2_n {a b u:Rat} (h:a*a - b*b*u < 0):sq2 a b u=sgR b:=if_neg (by grind)
theorem div_nn {x y:Rat} (hx:0<=x) (hy:0<=y):0<=x / y:=by
 by_cases h:y=0
 ·subst h
  rw [show x / 0=0 by grind]
  exact Rat.le_refl
 ·apply Rat.not_lt.mp
  intro hl
  have h1:=Rat.mul_pos (show 0 < -(x / y) by grind) (show 0 < y by grind)
  have h2:x / y*y=x:=by grind
  grind
theorem ss_of_zero:ss 0=0:=by unfold ss; grind
theorem num_nn {q:Rat} (h:0<=q):0<=q.num:=Rat.num_nonneg.mpr h
theorem root_of_sq {q r:Rat} (h0:0<=r) (e:r*r=q):isq q.num=r.num/\isq (q.den:Int)=(r.den:Int):=by
 subst e
 rw [sq_num,sq_den]
 refine⟨isq_self (num_nn h0),?_⟩
 rw [Int.natCast_mul]
 exact isq_self (by omega)
theorem sq_of_root {q:Rat} (h0:0<=q) (s1:isq q.num*isq q.num=q.num) (s2:isq (q.den:Int)*isq (q.den:Int)=(q.den:Int)):∃ r:Rat,0<=r/\r*r=q:=by
 have n1:=(isq_rt (num_nn h0)).nn
 have n2:=(isq_rt (n:=(q.den:Int)) (by omega)).nn
 generalize isq q.num=x at s1 n1
 generalize isq (q.den:Int)=y at s2 n2
 have t1:(x:Rat)*x=(q.num:Rat):=by
  have:=congrArg (fun z:Int=>(z:Rat)) s1
  simpa [Rat.intCast_mul] using this
 have t2:(y:Rat)*y=(q.den:Rat):=by
  have:=congrArg (fun z:Int=>(z:Rat)) s2
  simpa [Rat.intCast_mul,Rat.intCast_natCast] using this
 have hd:=rat_den_ne q
 have hy0:(y:Rat)≠0:=by intro e; rw [e] at t2; exact hd (by grind)
 have hwn:=rat_num_den q
 have x0:(0:Rat)<=x:=by exact_mod_cast n1
 have y0:(0:Rat)<=y:=by exact_mod_cast n2
 refine⟨(x:Rat) / y,?_,by grind⟩
 exact div_nn x0 y0
theorem ab_ne {e:Rat} (h:e≠0):ab e≠0:=by unfold ab; split <;> grind
theorem ab_pos {e:Rat} (h:e≠0):0 < ab e:=by have:=ab_nn e; have:=ab_ne h; grind
theorem nn_eq {r s:Rat} (hr:0<=r) (hs:0<=s) (e:r*r=s*s):r=s:=by
 by_cases h:r+s=0
 ·grind
 ·have:(r - s)*(r+s)=0:=by grind
  grind
theorem share_root {b e u r:Rat} (u0:0 < u) (he:e≠0) (hr:0<=r) (h:r*r=(b*b*u) / (e*e*u)):r=ab b / ab e:=by
 have u1:u≠0:=by grind
 have e1:=ab_sq e
 have b1:=ab_sq b
 have e2:=ab_ne he
 apply nn_eq hr (div_nn (ab_nn b) (ab_nn e))
 rw [h]
 have:ab b / ab e*(ab b / ab e)=(ab b*ab b) / (ab e*ab e):=by grind
 rw [this,e1,b1]
 grind
theorem share_sq {b e u:Rat} (u0:0 < u) (he:e≠0):(ab b / ab e)*(ab b / ab e)=(b*b*u) / (e*e*u):=by
 have u1:u≠0:=by grind
 have e1:=ab_sq e
 have b1:=ab_sq b
 have e2:=ab_ne he
 have:ab b / ab e*(ab b / ab e)=(ab b*ab b) / (ab e*ab e):=by grind
 rw [this,e1,b1]
 grind
theorem share_sg {b e u:Rat} (u0:0 < u):sg (ab b / ab e) (ss b*u)=b / ab e:=by
 unfold sg
 by_cases h:b < 0
 ·rw [if_pos ((ss_neg u0).mpr h)]
  unfold ab
  rw [if_pos h]
  grind
 ·rw [if_neg (fun z=>h ((ss_neg u0).mp z))]
  unfold ab
  rw [if_neg h]
theorem ss_div {x y:Rat} (hy:0 < y):ss (x / y)=ss x / (y*y):=by
 have h1:x / y=x*(1 / y):=by grind
 have h2:0<=1 / y:=div_nn (by decide) (Rat.le_of_lt hy)
 rw [h1,ss_mul,ss_nonneg h2]
 grind
theorem join_ss {x e u:Rat} (he:e≠0):ss (x / ab e)*(e*e*u)=ss x*u:=by
 have e1:=ab_sq e
 rw [ss_div (ab_pos he),e1]
 grind
theorem sg_ss (p base:Rat):sg (p*p*base) p=ss p*base:=by
 unfold sg ss ab
 by_cases h:p < 0
 ·rw [if_pos h,if_pos h]; grind
 ·rw [if_neg h,if_neg h]
def pick (b d:Rat):Rat:=if b=0 then d else b
theorem pick_b {b d:Rat}:b=0\/pick b d≠0:=by
 unfold pick
 by_cases h:b=0
 ·exact .inl h
 ·rw [if_neg h]; exact .inr h
theorem pick_d {b d:Rat}:d=0\/pick b d≠0:=by
 unfold pick
 by_cases h:b=0
 ·rw [if_pos h]
  by_cases h2:d=0
  ·exact .inl h2
  ·exact .inr h2
 ·rw [if_neg h]; exact .inr h
theorem pick_zero {b d:Rat} (h:pick b d=0):b=0/\d=0:=by
 unfold pick at h
 by_cases h2:b=0
 ·rw [if_pos h2] at h; exact⟨h2,h⟩
 ·rw [if_neg h2] at h; exact absurd h h2
theorem plus_join {b d u:Rat}:ss (b / ab (pick b d)+d / ab (pick b d))*(pick b d*pick b d*u)=ss (b+d)*u:=by
 by_cases h:pick b d=0
 ·obtain⟨rfl,rfl⟩:=pick_zero h
  rw [h]
  have:ss ((0:Rat)+0)=0:=by rw [show (0:Rat)+0=0 by grind]; exact ss_of_zero
  rw [this]
  grind
 ·rw [<- join_ss (x:=b+d) h]
  congr 2
  have:=ab_ne h
  grind
theorem times_part {a b c d u:Rat}:a*c+(b / ab (pick b d))*(d / ab (pick b d))*(pick b d*pick b d*u)=a*c+b*d*u:=by
 by_cases h:pick b d=0
 ·obtain⟨rfl,rfl⟩:=pick_zero h
  rw [h]
  grind
 ·have e1:=ab_sq (pick b d)
  have e2:=ab_ne h
  rw [<- e1]
  grind
theorem times_join {a b c d u:Rat}:ss (a*(d / ab (pick b d))+c*(b / ab (pick b d)))*(pick b d*pick b d*u)=ss (a*d+b*c)*u:=by
 by_cases h:pick b d=0
 ·obtain⟨rfl,rfl⟩:=pick_zero h
  rw [h,show a*(0 / ab (0:Rat))+c*(0 / ab 0)=0 by grind,show a*0+0*c=0 by grind,ss_of_zero]
  grind
 ·rw [<- join_ss (x:=a*d+b*c) h]
  congr 2
  have:=ab_ne h
  grind
theorem ab_ss {b u:Rat} (u0:0 < u):ab (ss b*u)=b*b*u:=ss_ab u0
theorem Sz.ab {n:Nat} {q:Rat} (h:Sz n q):Sz n (HM.ab q):=by
 unfold HM.ab
 split
 ·exact h.neg
 ·exact h
theorem Sz.ss {n:Nat} {q:Rat} (h:Sz n q):Sz (n+n) (HM.ss q):=h.mul h.ab
theorem Sz.sg {n:Nat} {p q:Rat} (h:Sz n p):Sz n (HM.sg p q):=by
 unfold HM.sg
 split
 ·exact h.neg
 ·exact h
theorem Sz.zero:Sz 1 0:=⟨by show(0:Int).natAbs < 2 ^ 1; decide,by show((1:Nat):Int).natAbs < 2 ^ 1; decide⟩
theorem Sz.pick {n:Nat} {b d:Rat} (hb:Sz n b) (hd:Sz n d):Sz n (HM.pick b d):=by
 unfold HM.pick
 split
 ·exact hd
 ·exact hb
theorem Sz.div' {m n:Nat} {a b:Rat} (ha:Sz m a) (hb:Sz n b):Sz (m+n+1) (a / b):=by
 by_cases h:b=0
 ·subst h
  rw [show a / 0=0 by grind]
  exact Sz.zero.mono (by omega)
 ·exact(ha.div hb h).mono (by omega)
theorem sgR_ss {b u:Rat} (u0:0 < u):sgR (ss b*u)=sgR b:=by
 rcases tri b with h | h | h
 ·have:=Rat.mul_pos (Rat.mul_pos h (ab_pos (show b≠0 by grind))) u0
  unfold ss
  rw [sgR_pos h,sgR_pos this]
 ·rw [sgR_neg h,sgR_neg ((ss_neg u0).mpr h)]
 ·subst h
  rw [ss_of_zero,show(0:Rat)*u=0 by grind]
end HM
namespace L2
open PySem PySem.Spec PyProof.Rows
theorem compTurn_if0 (elt target iter:Expr) (scope:Scope) (pos:Pos) (it acc:Value) (env:Env):
  compTurn (.ListComp elt [⟨target,iter,[],0⟩] scope pos) 0 it acc env=(standAt iter.pos >>= fun _=>pyNext it >>= fun r=>match r with
   | none=>pure (.done .next)
   | some v=>letOwnedTupleGo target it v >>= fun _=>assign target env v >>= fun _=>
    (eval elt env >>= fun x=>call (.builtin "list.append") [acc,x] >>= fun _=>pure ()) >>= fun _=>
     again (.compLoop (.ListComp elt [⟨target,iter,[],0⟩] scope pos) 0 it acc env)):=by rfl
section
variable {prog:Program} {w:World} {A:Around} {R:Result->Shared->Prop} {s:Shared}
abbrev NoE:Value->Shared->Prop:=fun _ _=>False
theorem noE {α:Type} {M:Model} {A:Around} {t:Sem α} {Q:α->Shared->Prop} {E:Value->Shared->Prop} {s:Shared} (h:wpAny M A t Q NoE s):wpAny M A t Q E s:=wpAny_mono h (fun _ _ q=>q) fun _ _ z=>z.elim
theorem compLoop_if0 {elt target iter:Expr} {scope:Scope} {pos:Pos} {it acc:Value} {env:Env} (I:Nat->Shared->Prop)
  (turn:∀ n s,I n s->wpAny (model prog w) A (pyNext it) (fun r s1=>match r with
   | none=>R (.ok .next) s1
   | some v=>wpAny (model prog w) A (letOwnedTupleGo target it v) (fun _ s2=>wpAny (model prog w) A (assign target env v) (fun _ s3=>wpAny (model prog w) A (eval elt env) (fun x s4=>
     wpAny (model prog w) A (call (.builtin "list.append") [acc,x]) (fun _ s5=>∃ m,m < n/\I m s5) NoE s4) NoE s3) NoE s2) NoE s1) NoE s)
  (n:Nat) (h:I n s):codeAny (model prog w) A (.compLoop (.ListComp elt [⟨target,iter,[],0⟩] scope pos) 0 it acc env) R s:=by
 refine codeAny_loop rfl I (fun n s hI=>?_) n h
 show wpAny _ _ ((compTurn (.ListComp elt [⟨target,iter,[],0⟩] scope pos) 0 it acc env).onRaise (fun x=>do noteFrame x env; theTreesLotGoes x)) _ _ s
 refine wpAny_noted ?_
 rw [compTurn_if0]
 refine wpAny_bind (wpAny_standAt (wpAny_bind (noE (wpAny_mono (turn n s hI) (fun r s1 h1=>?_) fun _ _ z=>z))))
 cases r with
 | none=>exact wpAny_pure h1
 | some v=>
  exact wpAny_bind (noE (thn h1 fun _ s2 h2=>wpAny_bind (noE (thn h2 fun _ s3 h3=>wpAny_bind (wpAny_bind (noE (thn h3 fun x s4 h4=>wpAny_bind (noE (thn h4 fun _ s5 h5=>wpAny_pure (wpAny_pure ⟨rfl,h5⟩))))))))))
end
def cxC (X:Cx) (scope:Scope) (cl:List (Str×Addr)) (N:List Str) (s0:Shared) (H0:Hp) (ex:List Addr) (C:Addr):Cx where
 prog:=X.prog
 w:=X.w
 K:=X.K
 mg:=X.mg
 base:=X.base
 A:=X.A
 N:=N
 s₀:=s0
 H₀:=H0
 env:=compEnvC scope cl C X.env
 outer:=X.stack
 stack:=X.stack
 ex:=ex
 fn:=fun _=>false
 calm:=X.calm
 pn:=[]
 xe:=NoE
structure CompSc (X:Cx) (scope:Scope) (cl:List (Str×Addr)) (N:List Str) (cap:List (Option Nat)):Prop where
 kind:scope.kind=.function
 clos:closureFor scope X.env=pure cl
 nocell:(scope.names.all fun y=>y.2 != NameKind.cell)=true
 names:(scope.names.all fun y=>y.2 != NameKind.local || scope.names.lookup y.1 == some NameKind.local)=true
 sub:∀ p∈cl,X.env.cells.lookup p.1=some p.2
 has:((relabel scope X.env).names.all fun y=>(y.2 != NameKind.cell && y.2 != NameKind.free) || (cl.lookup y.1).isSome)=true
 len:cap.length=N.length
 caps:∀ (i j:Nat) (x:Str),cap[i]?=some (some j)->N[i]?=some x->X.N[j]?=some x/\(X.env.scope.names.lookup x=some .cell\/X.env.scope.names.lookup x=some .free)/\((relabel scope X.env).names.lookup x=some .cell\/(relabel scope X.env).names.lookup x=some .free)
def capSt (cap:List (Option Nat)) (σ:St):St:=cap.map fun o=>match o with
 | some j=>(σ[j]?).join
 | none=>none
theorem capSt_get {cap:List (Option Nat)} {σ:St} {i:Nat} {v:V} (h:(capSt cap σ)[i]?=some (some v)):∃ j,cap[i]?=some (some j)/\σ[j]?=some (some v):=by
 unfold capSt at h
 rw [List.getElem?_map] at h
 cases e:cap[i]? with
 | none=>rw [e] at h; cases h
 | some o=>
  rw [e] at h
  cases o with
  | none=>cases h
  | some j=>
   refine⟨j,rfl,?_⟩
   have h:(σ[j]?).join=some v:=Option.some.inj h
   cases e2:σ[j]? with
   | none=>rw [e2] at h; cases h
   | some q=>rw [e2] at h; exact congrArg some h
theorem lookup_sub {X:Cx} {cl:List (Str×Addr)} (h:∀ p∈cl,X.env.cells.lookup p.1=some p.2) {x:Str} {c:Addr} (e:cl.lookup x=some c):X.env.cells.lookup x=some c:=h (x,c) (PySem.mem_of_lookup e)
theorem inv_comp {X:Cx} {scope:Scope} {cl:List (Str×Addr)} {N:List Str} {cap:List (Option Nat)} (Sc:CompSc X scope cl N cap) {pins:List (Addr×Obj)} {σ:St} {H:Hp} {s:Shared} {fp:List Addr} (I:Inv X pins σ H s)
  (hf:∀ b∈fp,FpOk X pins H b) (ho:∀ b∈fp,∃ o,s.heap.get? b=some o) {h1 h1':Heap} {m:Str->Option Value} {tk:Nat} {ob:Obj}
  (hD:s.heap.push {cls:=.type "list",data:=.seq ([]:List Value).toArray}=h1') (hns:h1.Ns h1'.objs.size m) (hsb:Heap.SameBut h1'.objs.size (h1'.push ob) h1):
  Inv (cxC X scope cl N {s with heap:=h1'} (upd H s.heap.objs.size (.lst [])) fp h1'.objs.size) [] (capSt cap σ) (upd H s.heap.objs.size (.lst [])) {s with heap:=h1,toks:=tk}/\
   Un (frs X.stack) fp H (upd H s.heap.objs.size (.lst [])) s.heap h1':=by
 have hC:h1'.objs.size=s.heap.objs.size+1:=by rw [<- hD,Heap.size_push]
 have k1:∀ b o,s.heap.get? b=some o->h1'.get? b=some o:=fun b o e=>by rw [<- hD]; exact Heap.get?_push_of_some _ e
 have k2:∀ b o,h1'.get? b=some o->h1.get? b=some o:=fun b o e=>(hsb.2 b (Nat.ne_of_lt (Heap.lt_size e))).trans (Heap.get?_push_of_some _ e)
 have hHn:H s.heap.objs.size=none:=I.hok.fresh (Nat.le_refl _)
 have neD:∀ b o,s.heap.get? b=some o->b≠s.heap.objs.size:=fun b o e=>Nat.ne_of_lt (Heap.lt_size e)
 have un1:Un (frs X.stack) fp H (upd H s.heap.objs.size (.lst [])) s.heap h1':=Un.laid k1 (Nat.le_refl _) hHn
 have new:ObjOk X.prog X.w (upd H s.heap.objs.size (.lst [])) h1' s.heap.objs.size (.lst []):=⟨Nat.zero_le _,[],0,.nil,by rw [<- hD]; exact Heap.get?_push_size _ rfl⟩
 have hok1:HOk X.prog X.w (upd H s.heap.objs.size (.lst [])) h1':=I.hok.laid k1 (Nat.le_refl _) new
 have fsub:∀ b∈fp,b∉frs X.stack:=fun b hb z=>by
  obtain⟨_,f1,f2,_⟩:=hf b hb
  rcases List.mem_cons.mp (I.stkSub b z) with e | e
  ·exact f1 e
  ·exact f2 e
 have cellK:∀ x c,cl.lookup x=some c->∃ v,s.heap.IsCell c v:=fun x c e=>I.cell x c (lookup_sub Sc.sub e)
 refine⟨⟨⟨I.ok.mod,?_,I.ok.glob,I.ok.blt,Nat.le_refl _,fun x y c e1 e2=>I.ok.inj x y c (lookup_sub Sc.sub e1) (lookup_sub Sc.sub e2),fun x hx=>?_,fun x c z=>(by cases z),I.ok.hd,I.ok.frames,.inl rfl,fun b hb=>⟨?_,fun x c e=>?_⟩,fun b o e=>⟨?_,?_⟩,?_,fun b o e hb=>?_,fsub,?_,fun b hb=>?_⟩,
  rfl,I.bare,Un.kept k2,⟨m,hns,fun i x v e1 e2 e3=>?_⟩,fun x c e=>?_,?_,fun x c e=>?_,fun p hp=>absurd hp (by simp [cxC]),hok1.kept k2,?_⟩,un1⟩
 ·exact Sc.kind
 ·have hx:(relabel scope X.env).names.lookup x=some .cell\/(relabel scope X.env).names.lookup x=some .free:=hx
  have ha:=List.all_eq_true.mp Sc.has
  show ∃ c,cl.lookup x=some c
  rcases hx with hx | hx
  ·have:=ha _ (PySem.mem_of_lookup hx)
   exact Option.isSome_iff_exists.mp (by simpa using this)
  ·have:=ha _ (PySem.mem_of_lookup hx)
   exact Option.isSome_iff_exists.mp (by simpa using this)
 ·obtain⟨o,e⟩:=ho b hb
  have:=Heap.lt_size e
  show b≠h1'.objs.size
  rw [hC]
  exact Nat.ne_of_lt (Nat.lt_succ_of_lt this)
 ·exact(hf b hb).2.2.2.2.1 x c (lookup_sub Sc.sub e)
 ·exact k1 b o (I.bk b o e)
 ·show upd H s.heap.objs.size (.lst []) b=none
  rw [upd_ne (neD b o (I.bk b o e))]
  exact(I.bs b o e).2
 ·show X.base.objs.size<=h1'.objs.size
  rw [hC]
  exact Nat.le_succ_of_le (Nat.le_trans I.ok.bsz I.sz)
 ·obtain⟨_,_,_,f3,_⟩:=hf b hb
  rcases f3 with f3 | f3
  ·exact I.ok.noex b o e f3
  ·have q1:=Heap.lt_size e
   have q2:=I.ok.bsz
   exact absurd (Nat.lt_of_lt_of_le q1 (Nat.le_trans q2 f3)) (Nat.lt_irrefl _)
 ·exact I.stack.of_keeps fun b o e _=>⟨o,k1 b o e,rfl⟩
 ·show upd H s.heap.objs.size (.lst []) b=none
  obtain⟨_,o,e,_⟩:=I.stack.mem hb
  rw [upd_ne (neD b o e)]
  exact I.stkFree b hb
 ·obtain⟨j,c1,c2⟩:=capSt_get e2
  obtain⟨d1,d2,d3⟩:=Sc.caps i j x c1 e1
  obtain⟨m0,_,l0⟩:=I.loc
  obtain⟨u,ru,lk⟩:=l0 j x v d1 c2 (d2.elim (fun z=>.inr (.inl z)) fun z=>.inr (.inr z))
  refine⟨u,ru,.inr ⟨d3,?_⟩⟩
  rcases lk with ⟨z,_⟩ | ⟨_,c,z1,z2⟩
  ·have z:X.env.scope.names.lookup x=some .local:=z
   rcases d2 with q | q <;> (rw [q] at z; cases z)
  ·have ha:=List.all_eq_true.mp Sc.has
   have hs:∃ c',cl.lookup x=some c':=by
    rcases d3 with q | q
    ·exact Option.isSome_iff_exists.mp (by simpa using ha _ (PySem.mem_of_lookup q))
    ·exact Option.isSome_iff_exists.mp (by simpa using ha _ (PySem.mem_of_lookup q))
   obtain⟨c',q⟩:=hs
   have q2:=lookup_sub Sc.sub q
   rw [z1] at q2
   cases q2
   obtain⟨o,e,d⟩:=z2
   exact⟨c,q,o,k2 _ _ (k1 _ _ e),d⟩
 ·obtain⟨v,o,e1,d⟩:=cellK x c e
  exact⟨v,o,k2 _ _ (k1 _ _ e1),d⟩
 ·show upd H s.heap.objs.size (.lst []) h1'.objs.size=none
  rw [hC,upd_ne (Nat.succ_ne_self _)]
  exact I.hok.fresh (Nat.le_succ _)
 ·obtain⟨v,o,e1,d⟩:=cellK x c e
  show upd H s.heap.objs.size (.lst []) c=none
  rw [upd_ne (neD c o e1)]
  exact I.freeC x c (lookup_sub Sc.sub e)
 ·show(capSt cap σ).length=N.length
  unfold capSt
  rw [List.length_map]
  exact Sc.len
def tComp (cap:List (Option Nat)) (wi:TI) (g:TG) (te:TE):TE:=fun σ H Q=>wi σ H fun J H1=>∀ D,H1 D=none->∃ W:Nat->Nat->St->Hp->Prop,(∃ m,W 0 m (capSt cap σ) (upd H1 D (.lst [])))/\∀ i m σ' H',W i m σ' H'->
 (J.stop i H'/\Q (.ref D) H')\/(J.go i H'/\∃ N:St->Hp->Prop,(∀ σ2 H2,N σ2 H2->∃ m',m' < m/\W (i+1) m' σ2 H2)/\∀ x H2,J.yld i H' x H2->g x σ' H2 fun σ3 H3=>te σ3 H3 fun v H4=>∃ ys,H4 D=some (.lst ys)/\ys.length < sizeLine/\N σ3 (upd H4 D (.lst (ys++[v]))))
section
variable {X:Cx} {elt tg iter c:Expr} {scope:Scope} {cl:List (Str×Addr)} {N:List Str} {cap:List (Option Nat)} {pos:Pos} {wi:TI} {g:TG} {te:TE} {tc:TT}
theorem comp_out (Sc:CompSc X scope cl N cap) {pins:List (Addr×Obj)} {σ σ3:St} {H2 H3:Hp} {s2 s4:Shared} {fp:List Addr} {h1':Heap} {C:Addr} (I2:Inv X pins σ H2 s2) (f2:∀ b∈fp,FpOk X pins H2 b) {H1:Hp}
  (un3:Un (frs X.stack) fp H2 H1 s2.heap h1') (I4:Inv (cxC X scope cl N {s2 with heap:=h1'} H1 fp C) [] σ3 H3 s4) {h':Heap} (hC:s2.heap.objs.size<=C) (sb:Heap.SameBut C s4.heap h'):Inv X pins σ H3 {s4 with heap:=h'}:=by
 have u:Un (frs X.stack) fp H2 H3 s2.heap s4.heap:=un3.trans I4.base
 have ne:∀ b o,s2.heap.get? b=some o->b≠C:=fun b o e=>Nat.ne_of_lt (Nat.lt_of_lt_of_le (Heap.lt_size e) hC)
 have u':Un (frs X.stack) fp H2 H3 s2.heap h':=⟨fun b o e n hb hx=>(sb.2 b (ne b o e)).trans (u.keep b o e n hb hx),fun b o e n hb hx=>by
   obtain⟨sl,q⟩:=u.slot b o e n hb hx
   exact⟨sl,(sb.2 b (ne b o e)).trans q⟩,u.free,fun b o e hx=>by
   obtain⟨o',q⟩:=u.there b o e hx
   exact⟨o',(sb.2 b (ne b o e)).trans q⟩,u.tups,u.frzs,u.tbls⟩
 have hok:HOk X.prog X.w H3 h':=fun b ob e=>by
  refine(I4.hok b ob e).stay (fun c w' hc q=>(sb.2 c ?_).trans q) (fun _ q=>q) fun _ _ q=>q
  rintro rfl
  have hfree:H3 c=none:=I4.free
  rcases hc with rfl | hc
  ·rw [hfree] at e; cases e
  ·rw [hfree] at hc; cases hc
 refine I2.call' (s':={s4 with heap:=h'}) (ch:=fp) I4.os u' hok I4.bare fun b hb=>?_
 obtain⟨_,f1,_,f3,f4,f5⟩:=f2 b hb
 exact⟨f3,f1,f4,f5⟩
theorem comp_fp {s0:Shared} {H0:Hp} {C:Addr} {fp:List Addr} {σ:St} {H:Hp} {s:Shared} (I:Inv (cxC X scope cl N s0 H0 fp C) [] σ H s) (hn:∀ b∈fp,H b=none):∀ b∈fp,FpOk (cxC X scope cl N s0 H0 fp C) [] H b:=fun b hb=>
 ⟨hn b hb,(I.ok.exf b hb).1,I.ok.exfs b hb,.inl hb,(I.ok.exf b hb).2,fun p hp=>absurd hp (by simp [cxC])⟩
theorem pe_comp (hc:X.calm=true) (Sc:CompSc X scope cl N cap) (hi:PI X tg iter wi) (hg:∀ s0 H0 ex C,PG (cxC X scope cl N s0 H0 ex C) tg g) (he:∀ s0 H0 ex C,PE (cxC X scope cl N s0 H0 ex C) elt te)
  (hs:∀ x,foldedSetIterable iter X.env x=pure x:=by intro _; rfl):PE X (.ListComp elt [⟨tg,iter,[],0⟩] scope pos) (tComp cap wi g te):=by
 intro pins s σ H Q I h
 rw [eval_ListComp]
 have hcell:∀ y∈scope.names,y.2≠.cell:=fun y hy=>by simpa using List.all_eq_true.mp Sc.nocell y hy
 have hnames:∀ y∈scope.names,y.2=.local->scope.names.lookup y.1=some .local:=fun y hy e=>by
  have:=List.all_eq_true.mp Sc.names y hy
  rw [e] at this
  simpa using this
 refine wpAny_comprehension_free (use:=none) rfl hs Sc.clos Sc.kind hnames (thn (hi pins s σ H _ I h) fun v s1 h1=>thn h1 fun itv s2 h2=>?_)
 obtain⟨it,fp,tn,J,H2,e,I2,T,st2,f2,hW⟩:=h2
 subst e
 refine wpAny_newObj_type (wpAny_newFunctionEnv hcell (by intro y hy; simp at hy) (fun h1 hns hsb=>?_) Sc.kind)
 obtain⟨W,⟨m0,w0⟩,turn⟩:=hW s2.heap.objs.size I2.fresh
 dsimp only at hns hsb ⊢
 generalize hD:s2.heap.push {cls:=.type "list",dict:=none,data:=.seq ([]:List Value).toArray}=h1' at hns hsb ⊢
 obtain⟨I3,un3⟩:=inv_comp (tk:=s2.toks+([]:List (Str×Value)).length) Sc I2 f2 (fun b hb=>let ⟨o,e,_⟩:=T.obj 0 _ st2 b hb; ⟨o,e⟩) hD hns hsb
 have hC:s2.heap.objs.size<=h1'.objs.size:=by rw [<- hD,Heap.size_push]; exact Nat.le_succ _
 have k1:∀ b o,s2.heap.get? b=some o->h1.get? b=some o:=fun b o e=>by
  have e1:h1'.get? b=some o:=by rw [<- hD]; exact Heap.get?_push_of_some _ e
  exact(hsb.2 b (Nat.ne_of_lt (Heap.lt_size e1))).trans (Heap.get?_push_of_some _ e1)
 have st3:tn 0 h1:=T.keep 0 _ _ st2 fun b _ o e=>k1 b o e
 have fr3:∀ b∈fp,(upd H2 s2.heap.objs.size (.lst [])) b=none:=fun b hb=>by
  obtain⟨o,e,_⟩:=T.obj 0 _ st2 b hb
  rw [upd_ne (Nat.ne_of_lt (Heap.lt_size e))]
  exact(f2 b hb).1
 have loop:∀ s3:Shared,s3={s2 with heap:=h1,toks:=s2.toks+([]:List (Str×Value)).length}->
   codeAny (model X.prog X.w) X.A (.compLoop (.ListComp elt [⟨tg,iter,[],0⟩] scope pos) 0 (.ref it) (.ref s2.heap.objs.size) (compEnvC scope cl h1'.objs.size X.env))
    (compPost (model X.prog X.w) X.A X.xe none (EP X pins σ Q) (.ref s2.heap.objs.size) h1'.objs.size) s3:=by
  rintro s3 rfl
  refine compLoop_if0 (fun n s'=>∃ i σ' H',Inv (cxC X scope cl N {s2 with heap:=h1'} (upd H2 s2.heap.objs.size (.lst [])) fp h1'.objs.size) [] σ' H' s'/\tn i s'.heap/\(∀ b∈fp,H' b=none)/\W i n σ' H') ?_ m0 ⟨0,_,_,I3,st3,fr3,w0⟩
  rintro n s3 ⟨i,σ3,H3,I3,st3,fr3,w3⟩
  rcases turn i n σ3 H3 w3 with ⟨stop,qn⟩ | ⟨go,Nn,hN,step⟩
  ·refine thn (T.done (cxC X scope cl N {s2 with heap:=h1'} (upd H2 s2.heap.objs.size (.lst [])) fp h1'.objs.size) rfl rfl rfl hc i [] s3 σ3 H3 NoE I3 (comp_fp I3 fr3) st3 stop) fun r s4 ⟨hr,I4⟩=>?_
   subst hr
   obtain⟨m,hm,_⟩:=I4.loc
   exact⟨m,hm,fun h' sb=>⟨.ref _,H3,comp_out Sc I2 f2 un3 I4 hC sb,rfl,qn⟩⟩
  ·refine thn (T.item (cxC X scope cl N {s2 with heap:=h1'} (upd H2 s2.heap.objs.size (.lst [])) fp h1'.objs.size) rfl rfl rfl hc i [] s3 σ3 H3 NoE I3 (comp_fp I3 fr3) st3 go) fun r s4 ⟨u,hr,h4⟩=>?_
   subst hr
   refine thn h4 fun _ s5 ⟨x,H5,I5,r5,y5,st5,fr5⟩=>?_
   have I5':=I5.pinned (comp_fp I5 fr5) (T.obj _ _ st5)
   refine thn (hg _ _ _ _ _ s5 σ3 H5 x u _ I5' r5 (step x H5 y5)) fun _ s6 ⟨σ6,H6,I6,q6⟩=>?_
   refine thn (he _ _ _ _ _ s6 σ6 H6 _ I6 q6) fun uv s7 ⟨v,H7,I7,r7,ys,hy,hl,q7⟩=>?_
   refine thn (mt_append (X:=cxC X scope cl N {s2 with heap:=h1'} (upd H2 s2.heap.objs.size (.lst [])) fp h1'.objs.size) _ s7 σ6 H7 (.ref s2.heap.objs.size) [v] (.ref s2.heap.objs.size) [uv] (fun _ H8=>Nn σ6 H8) I7 rfl (.cons r7 .nil) ⟨_,ys,v,rfl,rfl,hy,hl,q7⟩) fun _ s8 ⟨_,H8,I8,_,n8⟩=>?_
   obtain⟨m',hm,w8⟩:=hN σ6 H8 n8
   refine⟨m',hm,i+1,σ6,H8,I8.unpinned,T.keep _ _ _ st5 fun b hb o e=>(I8.pin (b,o) (List.mem_append_right _ (List.mem_append_right _ (mem_pinsAt hb e)))).1,fun b hb=>?_,w8⟩
   obtain⟨o,e,d⟩:=T.obj _ _ st5 b hb
   exact(I8.pin (b,o) (List.mem_append_right _ (List.mem_append_right _ (mem_pinsAt hb e)))).2.1
 exact codeAny_compStart_list (loop _ rfl) (T.self _ 0 _ _ _ st3 (loop _ rfl))
end
end L2
namespace DL
open PySem PySem.Spec PyProof.Rows L2
abbrev Fg:=PySem.W.Frag
inductive Ty where
 | non | bool | int | str | tup | lst | dic | verr
def Ty.name:Ty->String
 | .non=>"NoneType" | .bool=>"bool" | .int=>"int" | .str=>"str" | .tup=>"tuple" | .lst=>"list" | .dic=>"dict" | .verr=>"ValueError"
inductive D where
 | non | bl (b:Bool) | int (i:Int) | str (x:Str) | tup (ds:List D) | rl (ds:List D) | ref (a:Addr) | ty (n:Ty)
def SqF (K:Fg) (H:Hp) (a:Addr) (xs:List V):Prop:=
 (∃ o,H a=some (.frz o (.lst xs)))\/∃ (o:Obj) (its:Array Value) (n:Nat),K.lookup a=some o/\o.cls=.type "list"/\o.dict=none/\o.data=.seq its n/\its.size<=sizeLine/\Vals xs its.toList
theorem SqF.sq {K:Fg} {H:Hp} {a:Addr} {xs:List V} (h:SqF K H a xs):SqL K H a xs:=by
 rcases h with h | h
 ·exact .inl (.inr h)
 ·exact .inr h
mutual
def IsD (K:Fg) (H:Hp):D->V->Prop
 | .non,v=>v=.non
 | .bl b,v=>v=.bl b
 | .int i,v=>v=.int i
 | .str x,v=>v=.str x
 | .tup ds,v=>∃ a xs,v=.ref a/\SqT K H a xs/\IsDs K H ds xs
 | .rl ds,v=>∃ a xs,v=.ref a/\SqF K H a xs/\IsDs K H ds xs
 | .ref a,v=>v=.ref a
 | .ty n,v=>v=.ty n.name
def IsDs (K:Fg) (H:Hp):List D->List V->Prop
 | [],vs=>vs=[]
 | d::ds,vs=>∃ v r,vs=v::r/\IsD K H d v/\IsDs K H ds r
end
def Imm:HO->Prop
 | .tup _=>True
 | .frz _ _=>True
 | _=>False
def Kp (H H':Hp):Prop:=∀ a o,H a=some o->Imm o->H' a=some o
theorem Kp.refl (H:Hp):Kp H H:=fun _ _ h _=>h
theorem Kp.trans {H H1 H2:Hp} (a:Kp H H1) (b:Kp H1 H2):Kp H H2:=fun c o h i=>b c o (a c o h i) i
theorem Kp.tup {K:Fg} {H H':Hp} {a:Addr} {xs:List V} (k:Kp H H') (h:SqT K H a xs):SqT K H' a xs:=by
 rcases h with (h | ⟨o,h⟩) | h
 ·exact .inl (.inl (k _ _ h trivial))
 ·exact .inl (.inr ⟨o,k _ _ h trivial⟩)
 ·exact .inr h
theorem Kp.fro {K:Fg} {H H':Hp} {a:Addr} {xs:List V} (k:Kp H H') (h:SqF K H a xs):SqF K H' a xs:=by
 rcases h with ⟨o,h⟩ | h
 ·exact .inl ⟨o,k _ _ h trivial⟩
 ·exact .inr h
theorem Kp.new {H:Hp} {p:Addr} {o:HO} (h:H p=none):Kp H (upd H p o):=fun b u e _=>by rw [upd_ne (ne_of_none e h)]; exact e
theorem Kp.mut {H:Hp} {p:Addr} {o u:HO} (h:H p=some u) (n:¬ Imm u):Kp H (upd H p o):=fun b z e i=>by
 rw [upd_ne (fun q=>by subst q; rw [h] at e; cases e; exact n i)]; exact e
mutual
theorem IsD.kp {K:Fg} {H H':Hp} (k:Kp H H'):∀ {d:D} {v:V},IsD K H d v->IsD K H' d v
 | .non,_,h=>by unfold IsD at *; exact h
 | .bl _,_,h=>by unfold IsD at *; exact h
 | .int _,_,h=>by unfold IsD at *; exact h
 | .str _,_,h=>by unfold IsD at *; exact h
 | .ref _,_,h=>by unfold IsD at *; exact h
 | .ty _,_,h=>by unfold IsD at *; exact h
 | .tup ds,_,h=>by
  unfold IsD at*
  obtain⟨a,xs,e,t,r⟩:=h
  exact⟨a,xs,e,k.tup t,IsDs.kp k r⟩
 | .rl ds,_,h=>by
  unfold IsD at*
  obtain⟨a,xs,e,t,r⟩:=h
  exact⟨a,xs,e,k.fro t,IsDs.kp k r⟩
theorem IsDs.kp {K:Fg} {H H':Hp} (k:Kp H H'):∀ {ds:List D} {vs:List V},IsDs K H ds vs->IsDs K H' ds vs
 | [],_,h=>by unfold IsDs at *; exact h
 | d::ds,_,h=>by
  unfold IsDs at*
  obtain⟨v,r,e,h1,h2⟩:=h
  exact⟨v,r,e,IsD.kp k h1,IsDs.kp k h2⟩
end
section
variable {K:Fg} {H:Hp}
theorem isInt {i:Int} {v:V}:IsD K H (.int i) v↔v=.int i:=by unfold IsD; exact Iff.rfl
theorem isBl {b:Bool} {v:V}:IsD K H (.bl b) v↔v=.bl b:=by unfold IsD; exact Iff.rfl
theorem isStr {b:Str} {v:V}:IsD K H (.str b) v↔v=.str b:=by unfold IsD; exact Iff.rfl
theorem isNon {v:V}:IsD K H .non v↔v=.non:=by unfold IsD; exact Iff.rfl
theorem isRef {a:Addr} {v:V}:IsD K H (.ref a) v↔v=.ref a:=by unfold IsD; exact Iff.rfl
theorem isTy {a:Ty} {v:V}:IsD K H (.ty a) v↔v=.ty a.name:=by unfold IsD; exact Iff.rfl
theorem isTup {ds:List D} {v:V}:IsD K H (.tup ds) v↔∃ a xs,v=.ref a/\SqT K H a xs/\IsDs K H ds xs:=by unfold IsD; exact Iff.rfl
theorem isRl {ds:List D} {v:V}:IsD K H (.rl ds) v↔∃ a xs,v=.ref a/\SqF K H a xs/\IsDs K H ds xs:=by unfold IsD; exact Iff.rfl
theorem isNil {vs:List V}:IsDs K H [] vs↔vs=[]:=by unfold IsDs; exact Iff.rfl
theorem isCons {d:D} {ds:List D} {vs:List V}:IsDs K H (d::ds) vs↔∃ v r,vs=v::r/\IsD K H d v/\IsDs K H ds r:=by
 constructor
 ·intro h; unfold IsDs at h; exact h
 ·intro h; unfold IsDs; exact h
theorem IsDs.nil:IsDs K H [] []:=isNil.mpr rfl
theorem IsDs.cons {d:D} {ds:List D} {v:V} {vs:List V} (h1:IsD K H d v) (h2:IsDs K H ds vs):IsDs K H (d::ds) (v::vs):=isCons.mpr ⟨v,vs,rfl,h1,h2⟩
theorem IsDs.length:∀ {ds:List D} {vs:List V},IsDs K H ds vs->ds.length=vs.length
 | [],_,h=>by rw [isNil.mp h]; rfl
 | d::ds,_,h=>by
  obtain⟨v,r,rfl,_,h2⟩:=isCons.mp h
  rw [List.length_cons,List.length_cons,IsDs.length h2]
theorem IsDs.get:∀ {ds:List D} {vs:List V} {i:Nat} {d:D},IsDs K H ds vs->ds[i]?=some d->∃ v,vs[i]?=some v/\IsD K H d v
 | [],_,_,_,_,e=>by simp at e
 | c::ds,_,0,d,h,e=>by
  obtain⟨v,r,rfl,h1,h2⟩:=isCons.mp h
  simp at e
  subst e
  exact⟨v,rfl,h1⟩
 | c::ds,_,i+1,d,h,e=>by
  obtain⟨v,r,rfl,h1,h2⟩:=isCons.mp h
  obtain⟨u,q1,q2⟩:=IsDs.get (i:=i) (d:=d) h2 (by simpa using e)
  exact⟨u,by simpa using q1,q2⟩
theorem IsDs.set:∀ {ds:List D} {vs:List V} {d:D} {v:V} (i:Nat),IsDs K H ds vs->IsD K H d v->IsDs K H (ds.set i d) (vs.set i v)
 | [],_,_,_,_,h,_=>by rw [isNil.mp h]; exact IsDs.nil
 | c::ds,_,d,v,0,h,hd=>by
  obtain⟨u,r,rfl,h1,h2⟩:=isCons.mp h
  exact IsDs.cons hd h2
 | c::ds,_,d,v,i+1,h,hd=>by
  obtain⟨u,r,rfl,h1,h2⟩:=isCons.mp h
  exact IsDs.cons h1 (IsDs.set i h2 hd)
theorem IsDs.append:∀ {ds es:List D} {vs us:List V},IsDs K H ds vs->IsDs K H es us->IsDs K H (ds++es) (vs++us)
 | [],_,_,_,h,h'=>by rw [isNil.mp h]; exact h'
 | c::ds,_,_,_,h,h'=>by
  obtain⟨u,r,rfl,h1,h2⟩:=isCons.mp h
  exact IsDs.cons h1 (IsDs.append h2 h')
end
def hashT (ks:List Int):Int:=reduceHash (Builtin.Tuple.tupleHashOf (ks.map hashInt))
def eT (x:List Int×Addr×Value):DictEntry:=⟨hashT x.1,.ref x.2.1,x.2.2⟩
def dxO (es:Array DictEntry) (ep:Nat):Obj:={cls:=.type "dict",dict:=none,data:=.dict es ep,slots:=#[]}
def DxP (a:Addr) (xs:List (List Int×Addr×Value)) (ep:Nat):Heap->Prop:=fun h=>(a == sysModules)=false/\xs.length<=sizeLine/\(xs.map (·.1)).Nodup/\h.get? a=some (dxO (xs.map eT).toArray ep)
inductive Gen where
 | dT (kvs:List (List Int×D)) (ep:Nat)
 | dK (kvs:List (Key×D))
abbrev KtR (K:Fg) (H:Hp):List (List Int×D)->List (List Int×Addr×Value)->Prop:=Paired fun p q=>p.1=q.1/\SqT K H q.2.1 (p.1.map V.int)/\∃ v,RelV v q.2.2/\IsD K H p.2 v
def GObj (K:Fg) (H:Hp) (a:Addr):Gen->Prop
 | .dT kvs ep=>∃ xs,H a=some (.ext (DxP a xs ep))/\KtR K H kvs xs
 | .dK kvs=>∃ ys,H a=some (.dK ys)/\Paired (fun (p:Key×D) (q:Key×V)=>p.1=q.1/\IsD K H p.2 q.2) kvs ys
theorem KtR.kp {K:Fg} {H H':Hp} {kvs:List (List Int×D)} {xs:List (List Int×Addr×Value)} (r:KtR K H kvs xs) (k:Kp H H'):KtR K H' kvs xs:=
 Paired.mapP r fun _ _ ⟨a,b,v,c,d⟩=>⟨a,k.tup b,v,c,d.kp k⟩
theorem GObj.there {K:Fg} {H:Hp} {a:Addr} {g:Gen} (h:GObj K H a g):∃ o,H a=some o/\¬ Imm o:=by
 cases g with
 | dT kvs ep=>obtain⟨xs,e,_⟩:=h; exact⟨_,e,fun z=>z⟩
 | dK kvs=>obtain⟨xs,e,_⟩:=h; exact⟨_,e,fun z=>z⟩
theorem GObj.step {K:Fg} {H H':Hp} {a:Addr} {g:Gen} (h:GObj K H a g) (k:Kp H H') (s:H' a=H a):GObj K H' a g:=by
 cases g with
 | dT kvs ep=>obtain⟨xs,e,r⟩:=h; exact⟨xs,s.trans e,r.kp k⟩
 | dK kvs=>obtain⟨xs,e,r⟩:=h; exact⟨xs,s.trans e,Paired.mapP r fun _ _ z=>⟨z.1,z.2.kp k⟩⟩
inductive DO where
 | lst (ds:List D)
 | dic
 | exc (C:Addr)
 | fn (φ:Hp->Prop)
 | tbl (ψ:Hp->Array Value->Prop)
 | gen (g:Gen)
abbrev DH:=Addr->Option DO
def put (S:DH) (a:Addr) (o:DO):DH:=fun b=>if b=a then some o else S b
theorem put_same {S:DH} {a:Addr} {o:DO}:put S a o a=some o:=by unfold put; rw [if_pos rfl]
theorem put_ne {S:DH} {a b:Addr} {o:DO} (h:b≠a):put S a o b=S b:=by unfold put; rw [if_neg h]
theorem ne_put {S:DH} {a p:Addr} {o:DO} (h:S a=some o) (h':S p=none):a≠p:=by intro e; subst e; rw [h] at h'; cases h'
def DObj (K:Fg) (H:Hp) (a:Addr):DO->Prop
 | .lst ds=>∃ xs,H a=some (.lst xs)/\IsDs K H ds xs
 | .dic=>∃ kvs,H a=some (.dK kvs)
 | .exc C=>∃ o u,H a=some (.frz o u)/\o.cls=.ref C
 | .fn φ=>(∃ o u,H a=some (.frz o u))/\∀ H',Kp H H'->φ H'
 | .tbl ψ=>∃ ps,H a=some (.tbl ps)/\∀ H',Kp H H'->ψ H' ps
 | .gen g=>GObj K H a g
def Hs (K:Fg) (H:Hp) (S:DH):Prop:=∀ a o,S a=some o->DObj K H a o
section
variable {K:Fg} {H H':Hp} {S:DH} {p:Addr}
theorem Hs.lst {ds:List D} (h:Hs K H S) (e:S p=some (.lst ds)):∃ xs,H p=some (.lst xs)/\IsDs K H ds xs:=h p _ e
theorem Hs.free (h:Hs K H S) (e:H p=none):S p=none:=by
 cases q:S p with
 | none=>rfl
 | some o=>
  have z:=h p o q
  cases o with
  | lst ds=>obtain⟨xs,z,_⟩:=z; rw [e] at z; cases z
  | dic=>obtain⟨xs,z⟩:=z; rw [e] at z; cases z
  | exc C=>obtain⟨_,_,z,_⟩:=z; rw [e] at z; cases z
  | fn φ=>obtain⟨⟨_,_,z⟩,_⟩:=z; rw [e] at z; cases z
  | tbl ψ=>obtain⟨_,z,_⟩:=z; rw [e] at z; cases z
  | gen g=>obtain⟨_,z,_⟩:=GObj.there z; rw [e] at z; cases z
theorem Hs.step (h:Hs K H S) (k:Kp H H') (s:∀ a o,S a=some o->H' a=H a):Hs K H' S:=fun a o e=>by
 have z:=h a o e
 cases o with
 | lst ds=>obtain⟨xs,z,r⟩:=z; exact⟨xs,by rw [s a _ e]; exact z,r.kp k⟩
 | dic=>obtain⟨xs,z⟩:=z; exact⟨xs,by rw [s a _ e]; exact z⟩
 | exc C=>obtain⟨x,y,z,r⟩:=z; exact⟨x,y,by rw [s a _ e]; exact z,r⟩
 | fn φ=>obtain⟨⟨x,y,z⟩,r⟩:=z; exact⟨⟨x,y,by rw [s a _ e]; exact z⟩,fun H2 k2=>r H2 (k.trans k2)⟩
 | tbl ψ=>obtain⟨ps,z,r⟩:=z; exact⟨ps,by rw [s a _ e]; exact z,fun H2 k2=>r H2 (k.trans k2)⟩
 | gen g=>exact GObj.step z k (s a _ e)
theorem Hs.new {o:HO} (h:Hs K H S) (e:H p=none):Hs K (upd H p o) S:=h.step (Kp.new e) fun a u q=>by
 rw [upd_ne]; intro z; subst z; rw [h.free e] at q; cases q
theorem Hs.newL {xs:List V} {ds:List D} (h:Hs K H S) (e:H p=none) (r:IsDs K H ds xs):Hs K (upd H p (.lst xs)) (put S p (.lst ds)):=fun a o q=>by
 by_cases z:a=p
 ·subst z
  rw [put_same] at q
  cases q
  exact⟨xs,upd_same,r.kp (Kp.new e)⟩
 ·rw [put_ne z] at q
  exact(h.new e) a o q
theorem Hs.setL {xs ys:List V} {ds:List D} (h:Hs K H S) (e:H p=some (.lst xs)) (r:IsDs K H ds ys):Hs K (upd H p (.lst ys)) (put S p (.lst ds)):=fun a o q=>by
 have k:Kp H (upd H p (.lst ys)):=Kp.mut e (fun z=>z)
 by_cases z:a=p
 ·subst z
  rw [put_same] at q
  cases q
  exact⟨ys,upd_same,r.kp k⟩
 ·rw [put_ne z] at q
  have w:=h a o q
  cases o with
  | lst ds=>obtain⟨xs,w,r⟩:=w; exact⟨xs,by rw [upd_ne z]; exact w,r.kp k⟩
  | dic=>obtain⟨xs,w⟩:=w; exact⟨xs,by rw [upd_ne z]; exact w⟩
  | exc C=>obtain⟨x,y,w,r⟩:=w; exact⟨x,y,by rw [upd_ne z]; exact w,r⟩
  | fn φ=>obtain⟨⟨x,y,w⟩,r⟩:=w; exact⟨⟨x,y,by rw [upd_ne z]; exact w⟩,fun H2 k2=>r H2 (k.trans k2)⟩
  | tbl ψ=>obtain⟨ps,w,r⟩:=w; exact⟨ps,by rw [upd_ne z]; exact w,fun H2 k2=>r H2 (k.trans k2)⟩
  | gen g=>exact GObj.step w k (upd_ne z)
end
abbrev Lo:=List (Option D)
def Lc (K:Fg) (H:Hp):Lo->L2.St->Prop
 | [],σ=>σ=[]
 | none::L,σ=>∃ x r,σ=x::r/\Lc K H L r
 | some d::L,σ=>∃ v r,σ=some v::r/\IsD K H d v/\Lc K H L r
section
variable {K:Fg} {H H':Hp}
theorem Lc.kp (k:Kp H H'):∀ {L:Lo} {σ:L2.St},Lc K H L σ->Lc K H' L σ
 | [],_,h=>h
 | none::L,_,h=>by
  obtain⟨x,r,e,h⟩:=h
  exact⟨x,r,e,Lc.kp k h⟩
 | some d::L,_,h=>by
  obtain⟨v,r,e,h1,h⟩:=h
  exact⟨v,r,e,h1.kp k,Lc.kp k h⟩
theorem Lc.get:∀ {L:Lo} {σ:L2.St} {i:Nat} {d:D},Lc K H L σ->L[i]?=some (some d)->∃ v,σ[i]?=some (some v)/\IsD K H d v
 | [],_,_,_,_,e=>by simp at e
 | none::L,_,0,_,_,e=>by simp at e
 | some c::L,_,0,d,h,e=>by
  obtain⟨v,r,rfl,h1,h⟩:=h
  simp at e
  subst e
  exact⟨v,rfl,h1⟩
 | none::L,_,i+1,d,h,e=>by
  obtain⟨x,r,rfl,h⟩:=h
  obtain⟨u,q1,q2⟩:=Lc.get (i:=i) (d:=d) h (by simpa using e)
  exact⟨u,by simpa using q1,q2⟩
 | some c::L,_,i+1,d,h,e=>by
  obtain⟨v,r,rfl,_,h⟩:=h
  obtain⟨u,q1,q2⟩:=Lc.get (i:=i) (d:=d) h (by simpa using e)
  exact⟨u,by simpa using q1,q2⟩
theorem Lc.set {d:D} {v:V} (hd:IsD K H d v):∀ {L:Lo} {σ:L2.St} (i:Nat),Lc K H L σ->Lc K H (L.set i (some d)) (σ.set i (some v))
 | [],_,_,h=>by
  have e:_=[]:=h
  subst e
  exact rfl
 | none::L,_,0,h=>by
  obtain⟨x,r,rfl,h⟩:=h
  exact⟨v,r,rfl,hd,h⟩
 | some c::L,_,0,h=>by
  obtain⟨x,r,rfl,_,h⟩:=h
  exact⟨v,r,rfl,hd,h⟩
 | none::L,_,i+1,h=>by
  obtain⟨x,r,rfl,h⟩:=h
  exact⟨x,r.set i (some v),rfl,Lc.set hd i h⟩
 | some c::L,_,i+1,h=>by
  obtain⟨x,r,rfl,h1,h⟩:=h
  exact⟨x,r.set i (some v),rfl,h1,Lc.set hd i h⟩
theorem Lc.none:∀ (n:Nat),Lc K H (List.replicate n .none) (List.replicate n .none)
 | 0=>rfl
 | n+1=>⟨_,_,rfl,Lc.none n⟩
theorem Lc.start:∀ {ds:List D} {vs:List V} (n:Nat),IsDs K H ds vs->Lc K H (ds.map some++List.replicate n .none) (vs.map some++List.replicate n .none)
 | [],_,n,h=>by rw [isNil.mp h]; exact Lc.none n
 | d::ds,_,n,h=>by
  obtain⟨v,r,rfl,h1,h2⟩:=isCons.mp h
  exact⟨v,_,rfl,h1,Lc.start n h2⟩
end
abbrev DK:=D->DH->Prop
abbrev DE:=Lo->DH->DK->Prop
abbrev DT:=Lo->DH->(Bool->DH->Prop)->Prop
abbrev DA:=Lo->DH->(List D->DH->Prop)->Prop
structure DEnds where
 nx:Lo->DH->Prop
 rt:DK
 bk:Lo->DH->Prop:=fun _ _=>False
 ct:Lo->DH->Prop:=fun _ _=>False
abbrev DS:=DEnds->Lo->DH->Prop
def up (K:Fg) (g:DE):TE:=fun σ H Q=>∃ L S k,Lc K H L σ/\Hs K H S/\g L S k/\∀ d S' v H',k d S'->Kp H H'->Hs K H' S'->IsD K H' d v->Q v H'
def upT (K:Fg) (g:DT):TT:=fun σ H Q=>∃ L S k,Lc K H L σ/\Hs K H S/\g L S k/\∀ b S' H',k b S'->Kp H H'->Hs K H' S'->Q b H'
def upA (K:Fg) (g:DA):TA:=fun σ H Q=>∃ L S k,Lc K H L σ/\Hs K H S/\g L S k/\∀ ds S' vs H',k ds S'->Kp H H'->Hs K H' S'->IsDs K H' ds vs->Q vs H'
structure Rch (K:Fg) (H:Hp) (M:DEnds) (N:Ends):Prop where
 nx:∀ L S σ H',M.nx L S->Kp H H'->Lc K H' L σ->Hs K H' S->N.nx σ H'
 rt:∀ d S v H',M.rt d S->Kp H H'->Hs K H' S->IsD K H' d v->N.rt v H'
 bk:∀ L S σ H',M.bk L S->Kp H H'->Lc K H' L σ->Hs K H' S->N.bk σ H'
 ct:∀ L S σ H',M.ct L S->Kp H H'->Lc K H' L σ->Hs K H' S->N.ct σ H'
theorem Rch.kp {K:Fg} {H H1:Hp} {M:DEnds} {N:Ends} (r:Rch K H M N) (k:Kp H H1):Rch K H1 M N:=
 ⟨fun L S σ H' h k'=>r.nx L S σ H' h (k.trans k'),fun d S v H' h k'=>r.rt d S v H' h (k.trans k'),fun L S σ H' h k'=>r.bk L S σ H' h (k.trans k'),fun L S σ H' h k'=>r.ct L S σ H' h (k.trans k')⟩
def upS (K:Fg) (g:DS):TS:=fun N σ H=>∃ L S M,Lc K H L σ/\Hs K H S/\g M L S/\Rch K H M N
theorem PE.imp {X:Cx} {e:Expr} {t t':TE} (h:PE X e t) (i:∀ σ H Q,t' σ H Q->t σ H Q):PE X e t':=fun pins s σ H Q I q=>h pins s σ H Q I (i σ H Q q)
theorem PT.imp {X:Cx} {e:Expr} {t t':TT} (h:PT X e t) (i:∀ σ H Q,t' σ H Q->t σ H Q):PT X e t':=fun pins s σ H Q I q=>h pins s σ H Q I (i σ H Q q)
theorem PW.imp {X:Cx} {e:Expr} {t t':TT} (h:PW X e t) (i:∀ σ H Q,t' σ H Q->t σ H Q):PW X e t':=fun w pins s σ H Q I q=>h w pins s σ H Q I (i σ H Q q)
theorem PA.imp {X:Cx} {e:List Expr} {t t':TA} (h:PA X e t) (i:∀ σ H Q,t' σ H Q->t σ H Q):PA X e t':=fun pos pins s σ H Q I q=>h pos pins s σ H Q I (i σ H Q q)
theorem PS.imp {X:Cx} {e:Stmt} {t t':TS} (h:PS X e t) (i:∀ N σ H,t' N σ H->t N σ H):PS X e t':=fun pins s σ H Q I q=>h pins s σ H Q I (i Q σ H q)
theorem PSs.imp {X:Cx} {e:List Stmt} {t t':TS} (h:PSs X e t) (i:∀ N σ H,t' N σ H->t N σ H):PSs X e t':=fun pins s σ H Q I q=>h pins s σ H Q I (i Q σ H q)
theorem up.go {K:Fg} {g:DE} {σ:L2.St} {H:Hp} {Q:VK} {L:Lo} {S:DH} {k:DK} (hL:Lc K H L σ) (hS:Hs K H S) (h:g L S k)
  (n:∀ d S' v H',k d S'->Kp H H'->Lc K H' L σ->Hs K H' S'->IsD K H' d v->Q v H'):up K g σ H Q:=
 ⟨L,S,k,hL,hS,h,fun d S' v H' a b c e=>n d S' v H' a b (hL.kp b) c e⟩
theorem upT.go {K:Fg} {g:DT} {σ:L2.St} {H:Hp} {Q:Bool->Hp->Prop} {L:Lo} {S:DH} {k:Bool->DH->Prop} (hL:Lc K H L σ) (hS:Hs K H S) (h:g L S k)
  (n:∀ b S' H',k b S'->Kp H H'->Lc K H' L σ->Hs K H' S'->Q b H'):upT K g σ H Q:=
 ⟨L,S,k,hL,hS,h,fun b S' H' a c e=>n b S' H' a c (hL.kp c) e⟩
theorem upA.go {K:Fg} {g:DA} {σ:L2.St} {H:Hp} {Q:List V->Hp->Prop} {L:Lo} {S:DH} {k:List D->DH->Prop} (hL:Lc K H L σ) (hS:Hs K H S) (h:g L S k)
  (n:∀ ds S' vs H',k ds S'->Kp H H'->Lc K H' L σ->Hs K H' S'->IsDs K H' ds vs->Q vs H'):upA K g σ H Q:=
 ⟨L,S,k,hL,hS,h,fun d S' v H' a b c e=>n d S' v H' a b (hL.kp b) c e⟩
section
variable {X:Cx} {a b c:Expr} {ga gb gc:DE} {pos:Pos}
def dVar (i:Nat):DE:=fun L S k=>match L[i]? with
 | some (some d)=>k d S
 | _=>False
def dC (d:D):DE:=fun _ S k=>k d S
theorem d_var (i:Nat) {x:Str} (hN:X.N[i]?=some x:=by rfl) (hv:Vis X.env.scope x:=by first | exact Or.inl rfl | exact Or.inr (Or.inl rfl) | exact Or.inr (Or.inr rfl)) (hd:(x == ("__debug__":Str))=false:=by decide)
  (hcd:(x == ("__classdict__":Str))=false:=by decide):PE X (.Name x pos) (up X.K (dVar i)):=
 PE.imp (pe_var hN hv hd hcd) fun σ H Q ⟨L,S,k,hL,hS,h,n⟩=>by
  unfold dVar at h
  split at h
  ·rename_i d e
   obtain⟨v,e1,e2⟩:=hL.get e
   exact⟨v,e1,n d S v H h (Kp.refl H) hS e2⟩
  ·exact h.elim
theorem d_c {e:Expr} {d:D} {v:V} (h:PE X e (tC v)) (hd:∀ H,IsD X.K H d v):PE X e (up X.K (dC d)):=
 PE.imp h fun σ H Q ⟨L,S,k,hL,hS,h,n⟩=>n d S v H h (Kp.refl H) hS (hd H)
theorem d_int {i j pos}:PE X (.Constant (.int i) j pos) (up X.K (dC (.int i))):=d_c pe_int fun _=>isInt.mpr rfl
theorem d_bl {i j pos}:PE X (.Constant (.bool i) j pos) (up X.K (dC (.bl i))):=d_c pe_bl fun _=>isBl.mpr rfl
theorem d_non {j pos}:PE X (.Constant .none j pos) (up X.K (dC .non)):=d_c pe_non fun _=>isNon.mpr rfl
def starB:Expr->Bool
 | .Starred _ _=>true
 | _=>false
theorem star_cons {a:Expr} {es:List Expr} {env:Env} (h:starB a=false):starEach (a::es) env=(false,eval a env)::starEach es env:=by
 cases a <;> first | rfl | cases h
theorem star_any {pos:Pos} {env:Env}:∀ {es:List Expr},(es.all fun e=>!starB e)=true->(backTo pos (starEach es env)).any (·.1)=false
 | [],_=>rfl
 | e::es,h=>by
  rw [List.all_cons,Bool.and_eq_true] at h
  rw [star_cons (by simpa using h.1)]
  exact star_any h.2
def dNil:DA:=fun _ S k=>k [] S
def dCons (g:DE) (t:DA):DA:=fun L S k=>g L S fun d S1=>t L S1 fun ds S2=>k (d::ds) S2
theorem da_nil:PA X [] (upA X.K dNil):=PA.imp pa_nil fun σ H Q ⟨L,S,k,hL,hS,h,n⟩=>n [] S [] H h (Kp.refl H) hS IsDs.nil
theorem da_cons {es:List Expr} {t:DA} (ha:PE X a (up X.K ga)) (hr:PA X es (upA X.K t)) (hs:starEach (a::es) X.env=(false,eval a X.env)::starEach es X.env:=by exact star_cons rfl):PA X (a::es) (upA X.K (dCons ga t)):=
 PA.imp (pa_cons ha hr hs) fun σ H Q ⟨L,S,k,hL,hS,h,n⟩=>up.go hL hS h fun d S1 v H1 h1 k1 hL1 hS1 i1=>upA.go hL1 hS1 h1 fun ds S2 vs H2 h2 k2 hL2 hS2 i2=>
  n (d::ds) S2 (v::vs) H2 h2 (k1.trans k2) hS2 (IsDs.cons (i1.kp k2) i2)
def dTup (t:DA):DE:=fun L S k=>t L S fun ds S1=>ds.length<=sizeLine/\k (.tup ds) S1
def dLst (t:DA):DE:=fun L S k=>t L S fun ds S1=>ds.length<=sizeLine/\∀ p,S1 p=none->k (.ref p) (put S1 p (.lst ds))
theorem d_tup {es:List Expr} {x1} {t:DA} (h:PA X es (upA X.K t)):PE X (.Tuple es x1 pos) (up X.K (dTup t)):=
 PE.imp (pe_tup h) fun σ H Q ⟨L,S,k,hL,hS,h,n⟩=>upA.go hL hS h fun ds S1 vs H1 h1 k1 hL1 hS1 i1=>by
  refine⟨by rw [<- i1.length]; exact h1.1,fun p hp=>?_⟩
  have k2:Kp H1 (upd H1 p (.tup vs)):=Kp.new hp
  exact n (.tup ds) S1 _ _ h1.2 (k1.trans k2) (hS1.new hp) (isTup.mpr ⟨p,vs,rfl,SqT.of upd_same,i1.kp k2⟩)
theorem d_lst {es:List Expr} {t:DA} (h:PA X es (upA X.K t)):PE X (.List es pos) (up X.K (dLst t)):=
 PE.imp (pe_lst h) fun σ H Q ⟨L,S,k,hL,hS,h,n⟩=>upA.go hL hS h fun ds S1 vs H1 h1 k1 hL1 hS1 i1=>by
  refine⟨by rw [<- i1.length]; exact h1.1,fun p hp=>?_⟩
  exact n (.ref p) _ _ _ (h1.2 p (hS1.free hp)) (k1.trans (Kp.new hp)) (hS1.newL hp i1) (isRef.mpr rfl)
abbrev D2:=D->D->DH->DK->Prop
def upR (K:Fg) (r:D2):R2:=fun x y H Q=>∃ d e S k,IsD K H d x/\IsD K H e y/\Hs K H S/\r d e S k/\∀ d' S' v H',k d' S'->Kp H H'->Hs K H' S'->IsD K H' d' v->Q v H'
def dOp (r:D2) (ga gb:DE):DE:=fun L S k=>ga L S fun x S1=>gb L S1 fun y S2=>r x y S2 k
theorem dOp_go {K:Fg} {r:D2}:∀ σ H Q,up K (dOp r ga gb) σ H Q->tOp (upR K r) (up K ga) (up K gb) σ H Q:=fun σ H Q ⟨L,S,k,hL,hS,h,n⟩=>
 up.go hL hS h fun d S1 v H1 h1 k1 hL1 hS1 i1=>up.go hL1 hS1 h1 fun e S2 u H2 h2 k2 hL2 hS2 i2=>
  ⟨d,e,S2,k,i1.kp k2,i2,hS2,h2,fun d' S' v H' q k3 z1 z2=>n d' S' v H' q (k1.trans (k2.trans k3)) z1 z2⟩
theorem d_op {op:Operator} {r:D2} (ho:OpR X (binaryOp op) (upR X.K r)) (ha:PE X a (up X.K ga)) (hb:PE X b (up X.K gb)):PE X (.BinOp a op b pos) (up X.K (dOp r ga gb)):=PE.imp (pe_op ho ha hb) dOp_go
theorem d_cmp {op:CmpOp} {r:D2} (ho:OpR X (compareOp op) (upR X.K r)) (ha:PE X a (up X.K ga)) (hb:PE X b (up X.K gb)) (hm:behindInMarks op b=false):PE X (.Compare a [op] [b] pos) (up X.K (dOp r ga gb)):=PE.imp (pe_cmpR ho ha hb hm) dOp_go
theorem d_ix {r:D2} (hr:IxR X (upR X.K r)) (ha:PE X a (up X.K ga)) (hb:PE X b (up X.K gb)) (hs:PlainIx b):PE X (.Subscript a b pos) (up X.K (dOp r ga gb)):=PE.imp (pe_ix hr ha hb hs) dOp_go
abbrev D1:=D->DH->DK->Prop
def upU (K:Fg) (r:D1):V->Hp->VK->Prop:=fun x H Q=>∃ d S k,IsD K H d x/\Hs K H S/\r d S k/\∀ d' S' v H',k d' S'->Kp H H'->Hs K H' S'->IsD K H' d' v->Q v H'
def dUn (r:D1) (ga:DE):DE:=fun L S k=>ga L S fun x S1=>r x S1 k
theorem d_un {op:UnaryOp} {r:D1} (ho:UnR X (unaryOp op) (upU X.K r)) (ha:PE X a (up X.K ga)):PE X (.UnaryOp op a pos) (up X.K (dUn r ga)):=
 PE.imp (pe_un ho ha) fun σ H Q ⟨L,S,k,hL,hS,h,n⟩=>up.go hL hS h fun d S1 v H1 h1 k1 hL1 hS1 i1=>⟨d,S1,k,i1,hS1,h1,fun d' S' v H' q k3 z1 z2=>n d' S' v H' q (k1.trans k3) z1 z2⟩
def dTest (g:DE):DT:=fun L S k=>g L S fun d S1=>match d with
 | .bl c=>k c S1
 | _=>False
theorem dTest_go {K:Fg} {g:DE}:∀ σ H Q,upT K (dTest g) σ H Q->tTest (up K g) σ H Q:=fun σ H Q ⟨L,S,k,hL,hS,h,n⟩=>
 up.go hL hS h fun d S1 v H1 h1 k1 hL1 hS1 i1=>by
  cases d with
  | bl c=>
   have e:=isBl.mp i1
   subst e
   exact⟨c,rfl,n c S1 H1 h1 k1 hS1⟩
  | _=>exact(show False from h1).elim
theorem dt_cmp {op:CmpOp} {r:D2} (ho:OpR X (compareOp op) (upR X.K r)) (ha:PE X a (up X.K ga)) (hb:PE X b (up X.K gb)) (hm:behindInMarks op b=false):PT X (.Compare a [op] [b] pos) (upT X.K (dTest (dOp r ga gb))):=
 PT.imp (PT.imp (pt_cmpR ho ha hb hm) fun σ H Q h=>dOp_go σ H _ h) dTest_go
theorem dt_val {e:Expr} {g:DE} (h:PE X e (up X.K g)) (he:∀ whole,isTrue e X.env whole=(do let v <- whole; standAt e.pos; holding [v] (truthy v)):=by intro _; rfl):PT X e (upT X.K (dTest g)):=
 PT.imp (pt_val h he) dTest_go
variable {tA tB':DT} {rest:List Expr}
def dOrT (t u:DT):DT:=fun L S k=>t L S fun c S1=>if c=true then k true S1 else u L S1 k
def dNotT (t:DT):DT:=fun L S k=>t L S fun c S1=>k (!c) S1
theorem dw_or1 (ha:PT X a (upT X.K tA)):PW X (.BoolOp .Or [a] pos) (upT X.K tA):=pw_or1 ha
theorem dw_or (ha:PT X a (upT X.K tA)) (hb:PW X (.BoolOp .Or (b::rest) pos) (upT X.K tB')):PW X (.BoolOp .Or (a::b::rest) pos) (upT X.K (dOrT tA tB')):=
 PW.imp (pw_or ha hb) fun σ H Q ⟨L,S,k,hL,hS,h,n⟩=>upT.go hL hS h fun c S1 H1 h1 k1 hL1 hS1=>by
  cases c with
  | true=>
   rw [if_pos rfl] at h1 ⊢
   exact n true S1 H1 h1 k1 hS1
  | false=>
   rw [if_neg Bool.false_ne_true] at h1 ⊢
   exact upT.go hL1 hS1 h1 fun c2 S2 H2 h2 k2 _ hS2=>n c2 S2 H2 h2 (k1.trans k2) hS2
theorem dt_not (ha:PT X a (upT X.K tA)):PT X (.UnaryOp .Not a pos) (upT X.K (dNotT tA)):=
 PT.imp (pt_not ha) fun σ H Q ⟨L,S,k,hL,hS,h,n⟩=>upT.go hL hS h fun c S1 H1 h1 k1 hL1 hS1=>n _ S1 H1 h1 k1 hS1
def dOrV (ga gb:DE):DE:=fun L S k=>ga L S fun x S1=>match x with
 | .bl c=>if c=true then k (.bl true) S1 else gb L S1 k
 | _=>False
theorem d_one {op} (h:PE X a (up X.K ga)):PE X (.BoolOp op [a] pos) (up X.K ga):=pe_one h
theorem d_or (ha:PE X a (up X.K ga)) (hb:PE X (.BoolOp .Or (b::rest) pos) (up X.K gb)):PE X (.BoolOp .Or (a::b::rest) pos) (up X.K (dOrV ga gb)):=
 PE.imp (pe_or ha hb) fun σ H Q ⟨L,S,k,hL,hS,h,n⟩=>up.go hL hS h fun d S1 v H1 h1 k1 hL1 hS1 i1=>by
  cases d with
  | bl c=>
   have e:=isBl.mp i1
   subst e
   refine⟨c,rfl,?_⟩
   have h1:if c=true then _ else _:=h1
   cases c with
   | true=>
    rw [if_pos rfl] at h1 ⊢
    exact n _ S1 _ H1 h1 k1 hS1 (isBl.mpr rfl)
   | false=>
    rw [if_neg Bool.false_ne_true] at h1 ⊢
    exact up.go hL1 hS1 h1 fun d2 S2 v2 H2 h2 k2 _ hS2 i2=>n d2 S2 v2 H2 h2 (k1.trans k2) hS2 i2
  | _=>exact(show False from h1).elim
def dIf (t:DT) (ga gb:DE):DE:=fun L S k=>t L S fun c S1=>if c=true then ga L S1 k else gb L S1 k
theorem d_if {c:Expr} (hc:PT X c (upT X.K tA)) (ha:PE X a (up X.K ga)) (hb:PE X b (up X.K gb)):PE X (.IfExp c a b pos) (up X.K (dIf tA ga gb)):=
 PE.imp (pe_ifExp hc ha hb) fun σ H Q ⟨L,S,k,hL,hS,h,n⟩=>upT.go hL hS h fun d S1 H1 h1 k1 hL1 hS1=>by
  cases d with
  | true=>
   rw [if_pos rfl] at h1 ⊢
   exact up.go hL1 hS1 h1 fun d2 S2 v2 H2 h2 k2 _ hS2 i2=>n d2 S2 v2 H2 h2 (k1.trans k2) hS2 i2
  | false=>
   rw [if_neg Bool.false_ne_true] at h1 ⊢
   exact up.go hL1 hS1 h1 fun d2 S2 v2 H2 h2 k2 _ hS2 i2=>n d2 S2 v2 H2 h2 (k1.trans k2) hS2 i2
end
section
variable {X:Cx}
theorem up1 {K:Fg} {H:Hp} {S:DH} {k:DK} {Q:VK} {d:D} {v:V} (n:∀ d' S' v H',k d' S'->Kp H H'->Hs K H' S'->IsD K H' d' v->Q v H') (hS:Hs K H S) (h:k d S) (i:IsD K H d v):Q v H:=n d S v H h (Kp.refl H) hS i
def d2I (C:Int->Int->Prop) (g:Int->Int->D):D2:=fun d e S k=>match d,e with
 | .int i,.int j=>C i j/\k (g i j) S
 | _,_=>False
theorem op2I {f:Value->Value->Sem Value} {C:Int->Int->Prop} {g:Int->Int->D} {gV:Int->Int->V} (ho:OpR X f (rI C gV)) (hg:∀ i j H,IsD X.K H (g i j) (gV i j)):OpR X f (upR X.K (d2I C g)):=by
 intro pins s σ H x y v u Q I rx ry h
 obtain⟨d,e,S,k,i1,i2,hS,r,n⟩:=h
 cases d with
 | int i=>
  cases e with
  | int j=>
   have e1:=isInt.mp i1
   have e2:=isInt.mp i2
   subst e1
   subst e2
   exact ho pins s σ H _ _ v u Q I rx ry ⟨i,j,rfl,rfl,r.1,up1 n hS r.2 (hg i j H)⟩
  | _=>exact(show False from r).elim
 | _=>exact(show False from r).elim
def d2I0 (g:Int->Int->D):D2:=fun d e S k=>match d,e with
 | .int i,.int j=>k (g i j) S
 | _,_=>False
theorem op2I0 {f:Value->Value->Sem Value} {g:Int->Int->D} {gV:Int->Int->V} (ho:OpR X f (rI0 gV)) (hg:∀ i j H,IsD X.K H (g i j) (gV i j)):OpR X f (upR X.K (d2I0 g)):=by
 intro pins s σ H x y v u Q I rx ry h
 obtain⟨d,e,S,k,i1,i2,hS,r,n⟩:=h
 cases d with
 | int i=>
  cases e with
  | int j=>
   have e1:=isInt.mp i1
   have e2:=isInt.mp i2
   subst e1
   subst e2
   exact ho pins s σ H _ _ v u Q I rx ry ⟨i,j,rfl,rfl,up1 n hS r (hg i j H)⟩
  | _=>exact(show False from r).elim
 | _=>exact(show False from r).elim
def CDivB (i j:Int):Prop:=j≠0/\j.natAbs.log2 < 9000
abbrev dSub:D2:=d2I0 fun i j=>.int (i - j)
abbrev dMul:D2:=d2I IntMulOk fun i j=>.int (i*j)
abbrev dDiv:D2:=d2I CDivB fun i j=>.int (i.fdiv j)
abbrev dMod:D2:=d2I (fun _ j=>j≠0) fun i j=>.int (i.fmod j)
abbrev dPow:D2:=d2I CPow fun i j=>.int (i ^ j.toNat)
abbrev dShl:D2:=d2I CPow fun i j=>.int (i*2 ^ j.toNat)
abbrev dLt:D2:=d2I0 fun i j=>.bl (decide (i < j))
abbrev dGt:D2:=d2I0 fun i j=>.bl (decide (j < i))
abbrev dGe:D2:=d2I0 fun i j=>.bl (decide (j<=i))
theorem o_sub:OpR X (binaryOp .Sub) (upR X.K dSub):=op2I0 op_sub fun _ _ _=>isInt.mpr rfl
theorem o_mul:OpR X (binaryOp .Mult) (upR X.K dMul):=op2I (C:=IntMulOk) (gV:=fun i j=>.int (i*j)) (opI fun _ _ _ _ _ _ _ hc q=>mul_int q hc) fun _ _ _=>isInt.mpr rfl
theorem o_div:OpR X (binaryOp .FloorDiv) (upR X.K dDiv):=op2I (C:=CDivB) (gV:=fun i j=>.int (i.fdiv j)) (opI fun _ _ _ _ _ _ _ hc q=>floordiv_int hc.1 q (.inl (PyProof.noPylong_of_log2 hc.2))) fun _ _ _=>isInt.mpr rfl
theorem o_mod:OpR X (binaryOp .Mod) (upR X.K dMod):=op2I op_modN fun _ _ _=>isInt.mpr rfl
theorem o_pow:OpR X (binaryOp .Pow) (upR X.K dPow):=op2I op_pow fun _ _ _=>isInt.mpr rfl
theorem o_shl:OpR X (binaryOp .LShift) (upR X.K dShl):=op2I op_shl fun _ _ _=>isInt.mpr rfl
theorem o_lt:OpR X (compareOp .Lt) (upR X.K dLt):=op2I0 op_lt fun _ _ _=>isBl.mpr rfl
theorem o_gt:OpR X (compareOp .Gt) (upR X.K dGt):=op2I0 op_gt fun _ _ _=>isBl.mpr rfl
theorem o_ge:OpR X (compareOp .GtE) (upR X.K dGe):=op2I0 op_ge fun _ _ _=>isBl.mpr rfl
def dAdd:D2:=fun d e S k=>match d,e with
 | .int i,.int j=>k (.int (i+j)) S
 | .str x,.str y=>x.length+y.length<=sizeLine/\k (.str (x++y)) S
 | .tup xs,.tup ys=>xs≠[]/\ys≠[]/\xs.length+ys.length<=sizeLine/\k (.tup (xs++ys)) S
 | .ref a,.ref b=>∃ xs ys,S a=some (.lst xs)/\S b=some (.lst ys)/\xs.length+ys.length<=sizeLine/\∀ p,S p=none->k (.ref p) (put S p (.lst (xs++ys)))
 | _,_=>False
theorem ne_nil_of {K:Fg} {H:Hp} {ds:List D} {vs:List V} (i:IsDs K H ds vs) (h:ds≠[]):vs≠[]:=by
 intro e
 subst e
 have:=i.length
 exact h (List.length_eq_zero_iff.mp this)
theorem o_add:OpR X (binaryOp .Add) (upR X.K dAdd):=by
 intro pins s σ H x y v u Q I rx ry h
 obtain⟨d,e,S,k,i1,i2,hS,r,n⟩:=h
 cases d with
 | int i=>
  cases e with
  | int j=>
   have e1:=isInt.mp i1
   have e2:=isInt.mp i2
   subst e1
   subst e2
   exact op_add pins s σ H _ _ v u Q I rx ry ⟨i,j,rfl,rfl,up1 n hS r (isInt.mpr rfl)⟩
  | _=>exact(show False from r).elim
 | str i=>
  cases e with
  | str j=>
   have e1:=isStr.mp i1
   have e2:=isStr.mp i2
   subst e1
   subst e2
   exact op_add_str pins s σ H _ _ v u Q I rx ry ⟨i,j,rfl,rfl,r.1,up1 n hS r.2 (isStr.mpr rfl)⟩
  | _=>exact(show False from r).elim
 | tup xs=>
  cases e with
  | tup ys=>
   obtain⟨a,vs,rfl,t1,j1⟩:=isTup.mp i1
   obtain⟨b,us,rfl,t2,j2⟩:=isTup.mp i2
   obtain⟨h1,h2,h3,r⟩:=r
   refine op_catT pins s σ H _ _ v u Q I rx ry ⟨a,b,vs,us,rfl,rfl,t1,t2,ne_nil_of j1 h1,by rw [<- j1.length,<- j2.length]; exact h3,fun z=>absurd z (ne_nil_of j2 h2),fun _ p hp=>?_⟩
   have kp:Kp H (upd H p (.tup (vs++us))):=Kp.new hp
   exact n _ S _ _ r kp (hS.new hp) (isTup.mpr ⟨p,_,rfl,SqT.of upd_same,(j1.append j2).kp kp⟩)
  | _=>exact(show False from r).elim
 | ref a=>
  cases e with
  | ref b=>
   have e1:=isRef.mp i1
   have e2:=isRef.mp i2
   subst e1
   subst e2
   obtain⟨xs,ys,h1,h2,h3,r⟩:=r
   obtain⟨vs,q1,j1⟩:=hS.lst h1
   obtain⟨us,q2,j2⟩:=hS.lst h2
   refine op_cat pins s σ H _ _ v u Q I rx ry ⟨a,b,vs,us,rfl,rfl,q1,q2,by rw [<- j1.length,<- j2.length]; exact h3,fun p hp=>?_⟩
   exact n _ _ _ _ (r p (hS.free hp)) (Kp.new hp) (hS.newL hp (j1.append j2)) (isRef.mpr rfl)
  | _=>exact(show False from r).elim
 | _=>exact(show False from r).elim
def eqF:D->D->Option Bool
 | .int i,.int j=>some (decide (i=j))
 | .bl i,.bl j=>some (decide (i=j))
 | .str i,.str j=>some (decide (i=j))
 | _,_=>none
def dEq:D2:=fun d e S k=>match eqF d e with
 | some b=>k (.bl b) S
 | none=>False
def dNe:D2:=fun d e S k=>match eqF d e with
 | some b=>k (.bl (!b)) S
 | none=>False
theorem eqF_V {K:Fg} {H:Hp} {d e:D} {x y:V} {b:Bool} (h:eqF d e=some b) (i1:IsD K H d x) (i2:IsD K H e y):scal x y=true/\decide (x=y)=b:=by
 unfold eqF at h
 split at h
 ·have e1:=isInt.mp i1
  have e2:=isInt.mp i2
  subst e1; subst e2
  cases h
  exact⟨rfl,by simp⟩
 ·have e1:=isBl.mp i1
  have e2:=isBl.mp i2
  subst e1; subst e2
  cases h
  exact⟨rfl,by simp⟩
 ·have e1:=isStr.mp i1
  have e2:=isStr.mp i2
  subst e1; subst e2
  cases h
  exact⟨rfl,by simp⟩
 ·cases h
theorem o_eq:OpR X (compareOp .Eq) (upR X.K dEq):=by
 intro pins s σ H x y v u Q I rx ry h
 obtain⟨d,e,S,k,i1,i2,hS,r,n⟩:=h
 unfold dEq at r
 cases q:eqF d e with
 | none=>rw [q] at r; exact r.elim
 | some b=>
  rw [q] at r
  obtain⟨h1,h2⟩:=eqF_V q i1 i2
  exact op_eq pins s σ H _ _ v u Q I rx ry ⟨h1,by rw [h2]; exact up1 n hS r (isBl.mpr rfl)⟩
theorem o_ne:OpR X (compareOp .NotEq) (upR X.K dNe):=by
 intro pins s σ H x y v u Q I rx ry h
 obtain⟨d,e,S,k,i1,i2,hS,r,n⟩:=h
 unfold dNe at r
 cases q:eqF d e with
 | none=>rw [q] at r; exact r.elim
 | some b=>
  rw [q] at r
  obtain⟨h1,h2⟩:=eqF_V q i1 i2
  exact op_ne pins s σ H _ _ v u Q I rx ry ⟨h1,by rw [h2]; exact up1 n hS r (isBl.mpr rfl)⟩
def isNonD:D->Bool
 | .non=>true
 | _=>false
def dIs:D2:=fun d e S k=>match d,e with
 | .bl c,.bl b=>k (.bl (c == b)) S
 | d,.non=>k (.bl (isNonD d)) S
 | _,_=>False
theorem isNonD_V {K:Fg} {H:Hp} {d:D} {x:V} (i:IsD K H d x):decide (x=.non)=isNonD d:=by
 cases d with
 | non=>rw [isNon.mp i]; rfl
 | bl b=>rw [isBl.mp i]; rfl
 | int b=>rw [isInt.mp i]; rfl
 | str b=>rw [isStr.mp i]; rfl
 | ref b=>rw [isRef.mp i]; rfl
 | ty b=>rw [isTy.mp i]; rfl
 | tup b=>obtain⟨a,xs,rfl,_⟩:=isTup.mp i; rfl
 | rl b=>obtain⟨a,xs,rfl,_⟩:=isRl.mp i; rfl
theorem o_is:OpR X (compareOp .Is) (upR X.K dIs):=by
 intro pins s σ H x y v u Q I rx ry h
 obtain⟨d,e,S,k,i1,i2,hS,r,n⟩:=h
 unfold dIs at r
 split at r
 ·rename_i c b
  have e1:=isBl.mp i1
  have e2:=isBl.mp i2
  subst e1; subst e2
  cases rx; cases ry
  exact is_bool ⟨.bl _,H,I,rfl,up1 n hS r (isBl.mpr rfl)⟩
 ·have e2:=isNon.mp i2
  exact op_isN pins s σ H _ _ v u Q I rx ry ⟨e2,by rw [isNonD_V i1]; exact up1 n hS r (isBl.mpr rfl)⟩
 ·exact r.elim
def dNeg:D1:=fun d S k=>match d with
 | .int i=>k (.int (-i)) S
 | _=>False
theorem o_neg:UnR X (unaryOp .USub) (upU X.K dNeg):=by
 intro pins s σ H x v Q I rx h
 obtain⟨d,S,k,i1,hS,r,n⟩:=h
 cases d with
 | int i=>
  have e1:=isInt.mp i1
  subst e1
  exact un_neg pins s σ H _ v Q I rx ⟨i,rfl,up1 n hS r (isInt.mpr rfl)⟩
 | _=>exact(show False from r).elim
def dIx:D2:=fun d e S k=>match d,e with
 | .tup ds,.int i=>(match atI ds i with
  | some c=>k c S
  | none=>False)
 | .rl ds,.int i=>(match atI ds i with
  | some c=>k c S
  | none=>False)
 | .ref a,.int i=>(match S a with
  | some (.lst ds)=>(match atI ds i with
   | some c=>k c S
   | none=>False)
  | _=>False)
 | _,_=>False
theorem IsDs.atI {K:Fg} {H:Hp} {ds:List D} {vs:List V} {i:Int} {d:D} (r:IsDs K H ds vs) (h:atI ds i=some d):∃ v,L2.atI vs i=some v/\IsD K H d v:=by
 unfold L2.atI at h ⊢
 rw [<- r.length]
 cases q:ixN ds.length i with
 | none=>rw [q] at h; cases h
 | some j=>
  rw [q] at h
  exact r.get h
theorem x_ix:IxR X (upR X.K dIx):=by
 intro value slice pins s σ H x y v u Q I rx ry h hs
 obtain⟨d,e,S,k,i1,i2,hS,r,n⟩:=h
 cases e with
 | int i=>
  have e2:=isInt.mp i2
  subst e2
  cases d with
  | tup ds=>
   obtain⟨a,vs,rfl,t,j⟩:=isTup.mp i1
   cases q:atI ds i with
   | none=>simp only [dIx,q] at r
   | some c=>
    simp only [dIx,q] at r
    obtain⟨w,e1,e2⟩:=j.atI q
    exact ix_tup value slice pins s σ H _ _ v u Q I rx ry ⟨a,vs,i,w,rfl,rfl,t,e1,up1 n hS r e2⟩ hs
  | rl ds=>
   obtain⟨a,vs,rfl,t,j⟩:=isRl.mp i1
   cases q:atI ds i with
   | none=>simp only [dIx,q] at r
   | some c=>
    simp only [dIx,q] at r
    obtain⟨w,e1,e2⟩:=j.atI q
    exact ix_list value slice pins s σ H _ _ v u Q I rx ry ⟨a,vs,i,w,rfl,rfl,t.sq,e1,up1 n hS r e2⟩ hs
  | ref a=>
   have e1:=isRef.mp i1
   subst e1
   cases z:S a with
   | none=>simp only [dIx,z] at r
   | some o=>
    cases o with
    | dic=>simp only [dIx,z] at r
    | exc _=>simp only [dIx,z] at r
    | fn _=>simp only [dIx,z] at r
    | tbl _=>simp only [dIx,z] at r
    | gen _=>simp only [dIx,z] at r
    | lst ds=>
     obtain⟨vs,hl,j⟩:=hS.lst z
     cases q:atI ds i with
     | none=>simp only [dIx,z,q] at r
     | some c=>
      simp only [dIx,z,q] at r
      obtain⟨w,e1,e2⟩:=j.atI q
      exact ix_list value slice pins s σ H _ _ v u Q I rx ry ⟨a,vs,i,w,rfl,rfl,SqL.of hl,e1,up1 n hS r e2⟩ hs
  | _=>exact(show False from r).elim
 | _=>
  cases d <;> exact(show False from r).elim
end
abbrev DSp:=List D->DH->DK->Prop
def upC (K:Fg) (r:DSp):List V->Hp->VK->Prop:=fun xs H Q=>∃ ds S k,IsDs K H ds xs/\Hs K H S/\r ds S k/\∀ d' S' v H',k d' S'->Kp H H'->Hs K H' S'->IsD K H' d' v->Q v H'
def dCall (r:DSp) (t:DA):DE:=fun L S k=>t L S fun ds S1=>r ds S1 k
section
variable {X:Cx} {x:Str} {p pos:Pos} {e:Expr} {es:List Expr} {t:DA} {id T:String} {r:DSp}
theorem dCall_go {K:Fg}:∀ σ H Q,up K (dCall r t) σ H Q->tCB (upC K r) (upA K t) σ H Q:=fun σ H Q ⟨L,S,k,hL,hS,h,n⟩=>
 upA.go hL hS h fun ds S1 vs H1 h1 k1 hL1 hS1 i1=>⟨ds,S1,k,i1,hS1,h1,fun d' S' v H' q k3 z1 z2=>n d' S' v H' q (k1.trans k3) z1 z2⟩
theorem d_callB (hc:CallR X (.builtin id) (upC X.K r)) (hg:Gl X x) (hm:X.mg x=none) (hv:bootBuiltins x=some (.builtin id)) (ha:PA X (e::es) (upA X.K t)) (hn:x≠"__name__":=by decide) (hdb:(x == ("__debug__":Str))=false:=by decide)
  (he:starEach (e::es) X.env=(false,eval e X.env)::starEach es X.env:=by exact star_cons rfl) (hpl:(backTo pos (starEach es X.env)).any (·.1)=false:=by exact star_any rfl):PE X (.Call (.Name x p) (e::es) [] pos) (up X.K (dCall r t)):=
 PE.imp (pe_callB hc hg hm hv ha hn hdb he hpl) dCall_go
theorem d_callT (hc:CallR X (.type T) (upC X.K r)) (hg:Gl X x) (hm:X.mg x=none) (hv:bootBuiltins x=some (.type T)) (ha:PA X (e::es) (upA X.K t)) (hn:x≠"__name__":=by decide) (hdb:(x == ("__debug__":Str))=false:=by decide)
  (he:starEach (e::es) X.env=(false,eval e X.env)::starEach es X.env:=by exact star_cons rfl) (hpl:(backTo pos (starEach es X.env)).any (·.1)=false:=by exact star_any rfl):PE X (.Call (.Name x p) (e::es) [] pos) (up X.K (dCall r t)):=
 PE.imp (pe_callTy hc hg hm hv ha hn hdb he hpl) dCall_go
def spU (K:Fg) (F:DSp):Sp:=fun vs H Q _=>upC K F vs H Q
structure Own (P:Program) (w:World) (K:Fg) (mg:Str->Option Value) (base:Heap) (x:Str) (n:Nat) (F:DSp):Prop where
 ex:∃ f fd ps,FnOk P w K mg base CX0 n f fd ps (spU K F)/\mg x=some (.ref f)/\PySem.W.keepIn K (.ref f)=true/\Binds K fd ps []
theorem d_call {n:Nat} {F:DSp} (c:Own X.prog X.w X.K X.mg X.base x n F) (hr:Room n X.A) (hg:Gl X x) (ha:PA X (e::es) (upA X.K t)) (hdb:(x == ("__debug__":Str))=false:=by decide)
  (he:starEach (e::es) X.env=(false,eval e X.env)::starEach es X.env:=by exact star_cons rfl) (hpl:(backTo pos (starEach es X.env)).any (·.1)=false:=by exact star_any rfl):
  PE X (.Call (.Name x p) (e::es) [] pos) (up X.K (dCall F t)):=by
 obtain⟨f,fd,ps,F1,h1,h2,h3⟩:=c.ex
 refine PE.imp (pe_call F1 hr hg h1 h2 h3 .nil pass0 ha hdb he hpl) fun σ H Q ⟨L,S,k,hL,hS,h,n⟩=>?_
 refine upA.go hL hS h fun ds S1 vs H1 h1 k1 hL1 hS1 i1=>?_
 show spU X.K F (vs++[]) H1 Q E0
 rw [List.append_nil]
 exact⟨ds,S1,k,i1,hS1,h1,fun d' S' v H' q k3 z1 z2=>n d' S' v H' q (k1.trans k3) z1 z2⟩
def bAbs:DSp:=fun ds S k=>match ds with
 | [.int i]=>k (.int (if i < 0 then -i else i)) S
 | _=>False
theorem isDs1 {K:Fg} {H:Hp} {d:D} {xs:List V} (h:IsDs K H [d] xs):∃ x,xs=[x]/\IsD K H d x:=by
 obtain⟨v,r,rfl,h1,h2⟩:=isCons.mp h
 rw [isNil.mp h2]
 exact⟨v,rfl,h1⟩
theorem isDs2 {K:Fg} {H:Hp} {d e:D} {xs:List V} (h:IsDs K H [d,e] xs):∃ x y,xs=[x,y]/\IsD K H d x/\IsD K H e y:=by
 obtain⟨v,r,rfl,h1,h2⟩:=isCons.mp h
 obtain⟨y,rfl,h3⟩:=isDs1 h2
 exact⟨v,y,rfl,h1,h3⟩
theorem b_abs:CallR X (.builtin "abs") (upC X.K bAbs):=by
 intro pins s σ H xs us Q I rs h
 obtain⟨ds,S,k,i,hS,r,n⟩:=h
 unfold bAbs at r
 split at r
 ·obtain⟨x,rfl,i1⟩:=isDs1 i
  have e1:=isInt.mp i1
  subst e1
  exact call_abs pins s σ H _ us Q I rs ⟨_,rfl,up1 n hS r (isInt.mpr rfl)⟩
 ·exact r.elim
def bLen:DSp:=fun ds S k=>match ds with
 | [.tup xs]=>k (.int xs.length) S
 | [.rl xs]=>k (.int xs.length) S
 | [.ref a]=>(match S a with
  | some (.lst xs)=>k (.int xs.length) S
  | _=>False)
 | _=>False
theorem b_len:CallR X (.builtin "len") (upC X.K bLen):=by
 intro pins s σ H xs us Q I rs h
 obtain⟨ds,S,k,i,hS,r,n⟩:=h
 unfold bLen at r
 split at r
 ·obtain⟨x,rfl,i1⟩:=isDs1 i
  obtain⟨a,vs,rfl,t,j⟩:=isTup.mp i1
  exact call_len_seq pins s σ H _ us Q I rs ⟨a,vs,rfl,.inr t,by rw [<- j.length]; exact up1 n hS r (isInt.mpr rfl)⟩
 ·obtain⟨x,rfl,i1⟩:=isDs1 i
  obtain⟨a,vs,rfl,t,j⟩:=isRl.mp i1
  exact call_len_seq pins s σ H _ us Q I rs ⟨a,vs,rfl,.inl t.sq,by rw [<- j.length]; exact up1 n hS r (isInt.mpr rfl)⟩
 ·obtain⟨x,rfl,i1⟩:=isDs1 i
  have e1:=isRef.mp i1
  subst e1
  split at r
  ·rename_i z
   obtain⟨vs,hl,j⟩:=hS.lst z
   exact call_len_seq pins s σ H _ us Q I rs ⟨_,vs,rfl,.inl (SqL.of hl),by rw [<- j.length]; exact up1 n hS r (isInt.mpr rfl)⟩
  ·exact r.elim
 ·exact r.elim
def bMax:DSp:=fun ds S k=>match ds with
 | [.int i,.int j]=>k (.int (if j > i then j else i)) S
 | _=>False
def bMin:DSp:=fun ds S k=>match ds with
 | [.int i,.int j]=>k (.int (if j < i then j else i)) S
 | _=>False
theorem b_max (hc:X.calm=true:=by rfl):CallR X (.builtin "max") (upC X.K bMax):=by
 intro pins s σ H xs us Q I rs h
 obtain⟨ds,S,k,i,hS,r,n⟩:=h
 unfold bMax at r
 split at r
 ·obtain⟨x,y,rfl,i1,i2⟩:=isDs2 i
  have e1:=isInt.mp i1
  have e2:=isInt.mp i2
  subst e1; subst e2
  exact call_max2 hc pins s σ H _ us Q I rs ⟨_,_,rfl,up1 n hS r (isInt.mpr rfl)⟩
 ·exact r.elim
theorem b_min (hc:X.calm=true:=by rfl):CallR X (.builtin "min") (upC X.K bMin):=by
 intro pins s σ H xs us Q I rs h
 obtain⟨ds,S,k,i,hS,r,n⟩:=h
 unfold bMin at r
 split at r
 ·obtain⟨x,y,rfl,i1,i2⟩:=isDs2 i
  have e1:=isInt.mp i1
  have e2:=isInt.mp i2
  subst e1; subst e2
  exact call_min2 hc pins s σ H _ us Q I rs ⟨_,_,rfl,up1 n hS r (isInt.mpr rfl)⟩
 ·exact r.elim
def mBits:D1:=fun d S k=>match d with
 | .int i=>k (.int ((Builtin.Int.intBits i:Nat):Int)) S
 | _=>False
theorem d_bits {o:Expr} {g:DE} {apos cpos:Pos} (ho:PE X o (up X.K g)) (hbase:attributeBase o "bit_length" X.env (eval o X.env)=eval o X.env:=by rfl) (hline:(apos.endLine == cpos.line)=true:=by rfl):
  PE X (.Call (.Attribute o "bit_length" apos) [] [] cpos) (up X.K (dUn mBits g)):=by
 refine PE.imp (pe_bm0 PySem.F.plainAttrs_int PySem.F.slot_int_bit_length PySem.F.type_int_bit_length (r:=fun x xs H Q=>∃ i,x=.int i/\xs=[]/\Q (.int ((Builtin.Int.intBits i:Nat):Int)) H) ?_ ho hbase hline) fun σ H Q ⟨L,S,k,hL,hS,h,n⟩=>?_
 ·intro pins s σ H x xs v us Q I rx rs h
  obtain⟨i,rfl,rfl,q⟩:=h
  obtain⟨t,rfl⟩:=rx
  cases rs
  exact call_int_bit_length ⟨.int _,H,I.tok _,⟨_,rfl⟩,q⟩
 ·refine up.go hL hS h fun d S1 v H1 h1 k1 hL1 hS1 i1=>?_
  cases d with
  | int i=>
   have e1:=isInt.mp i1
   subst e1
   exact⟨rfl,i,rfl,rfl,n _ S1 _ H1 h1 k1 hS1 (isInt.mpr rfl)⟩
  | _=>exact(show False from h1).elim
end
section
variable {X:Cx} {st:Stmt} {rest:List Stmt} {g h:DS} {e:Expr} {ge:DE} {pos:Pos}
def dNext:DS:=fun M L S=>M.nx L S
def dSeq (g h:DS):DS:=fun M L S=>g {M with nx:=h M} L S
theorem ds_nil:PSs X [] (upS X.K dNext):=PSs.imp pss_nil fun N σ H ⟨L,S,M,hL,hS,h,r⟩=>r.nx L S σ H h (Kp.refl H) hL hS
theorem dSeq_go {K:Fg}:∀ N σ H,upS K (dSeq g h) N σ H->tSeq (upS K g) (upS K h) N σ H:=fun N σ H ⟨L,S,M,hL,hS,q,r⟩=>
 ⟨L,S,{M with nx:=h M},hL,hS,q,⟨fun L' S' σ' H' q' k' hL' hS'=>⟨L',S',M,hL',hS',q',r.kp k'⟩,r.rt,r.bk,r.ct⟩⟩
theorem ds_cons (h1:PS X st (upS X.K g)) (h2:PSs X rest (upS X.K h)):PSs X (st::rest) (upS X.K (dSeq g h)):=PSs.imp (pss_cons h1 h2) dSeq_go
theorem ds_one (h1:PS X st (upS X.K g)):PSs X [st] (upS X.K g):=pss_one h1
def dDrop (ge:DE):DS:=fun M L S=>ge L S fun _ S1=>M.nx L S1
theorem dst_expr (he:PE X e (up X.K ge)) (hs:swapsWith e none pos.line X.env=pure false:=by rfl):PS X (.Expr e pos) (upS X.K (dDrop ge)):=
 PS.imp (ps_expr he hs) fun N σ H ⟨L,S,M,hL,hS,h,r⟩=>up.go hL hS h fun d S1 v H1 h1 k1 hL1 hS1 _=>r.nx L S1 σ H1 h1 k1 hL1 hS1
def dRet (ge:DE):DS:=fun M L S=>ge L S M.rt
theorem dst_ret (he:PE X e (up X.K ge)):PS X (.Return (some e) pos) (upS X.K (dRet ge)):=
 PS.imp (ps_ret he) fun N σ H ⟨L,S,M,hL,hS,h,r⟩=>up.go hL hS h fun d S1 v H1 h1 k1 _ hS1 i1=>r.rt d S1 v H1 h1 k1 hS1 i1
def dIfS (c:DT) (g h:DS):DS:=fun M L S=>c L S fun b S1=>if b=true then g M L S1 else h M L S1
theorem dst_if {c:Expr} {a b:List Stmt} {gc:DT} (hc:PT X c (upT X.K gc)) (ha:PSs X a (upS X.K g)) (hb:PSs X b (upS X.K h)):PS X (.If c a b pos) (upS X.K (dIfS gc g h)):=
 PS.imp (ps_if hc ha hb) fun N σ H ⟨L,S,M,hL,hS,q,r⟩=>upT.go hL hS q fun t S1 H1 h1 k1 hL1 hS1=>by
  cases t with
  | true=>
   rw [if_pos rfl] at h1 ⊢
   exact⟨L,S1,M,hL1,hS1,h1,r.kp k1⟩
  | false=>
   rw [if_neg Bool.false_ne_true] at h1 ⊢
   exact⟨L,S1,M,hL1,hS1,h1,r.kp k1⟩
def dNever:DS:=fun _ _ _=>False
theorem dst_never:PS X st (upS X.K dNever):=PS.imp ps_never fun N σ H ⟨L,S,M,hL,hS,h,r⟩=>h.elim
theorem ds_never {sts:List Stmt}:PSs X sts (upS X.K dNever):=PSs.imp pss_never fun N σ H ⟨L,S,M,hL,hS,h,r⟩=>h.elim
def dSet (i:Nat) (ge:DE):DS:=fun M L S=>ge L S fun d S1=>M.nx (L.set i (some d)) S1
theorem dst_set {i:Nat} {x:Str} {pos':Pos} (hN:X.N.Nodup) (he:PE X e (up X.K ge)) (hi:X.N[i]?=some x:=by rfl) (hx:Loc X.env.scope x:=by first | exact Or.inl rfl | exact Or.inr rfl) (hs:swapsWith e (some (.Name x pos')) pos.line X.env=pure false:=by rfl)
  (hf:X.fn x=true\/X.env.scope.names.lookup x=some .local:=by first | exact .inl rfl | exact .inr rfl | assumption):PS X (.Assign [.Name x pos'] e pos) (upS X.K (dSet i ge)):=
 PS.imp (ps_set hN hi hx he hs hf) fun N σ H ⟨L,S,M,hL,hS,h,r⟩=>up.go hL hS h fun d S1 v H1 h1 k1 hL1 hS1 i1=>r.nx _ S1 _ H1 h1 k1 (hL1.set i1 i) hS1
def dPar (i j:Nat) (ta:DA):DS:=fun M L S=>ta L S fun ds S1=>match ds with
 | [d,e]=>M.nx ((L.set i (some d)).set j (some e)) S1
 | _=>False
theorem dst_par {i j:Nat} {x y:Str} {a b:Expr} {ta:DA} {px py pt:Pos} {kt k2 pt2} (hc:X.calm=true) (hN:X.N.Nodup) (hij:i≠j) (ha:PA X [a,b] (upA X.K ta)) (hi:X.N[i]?=some x:=by rfl) (hj:X.N[j]?=some y:=by rfl)
  (hx:X.env.scope.names.lookup x=some .local:=by rfl) (hy:X.env.scope.names.lookup y=some .local:=by rfl)
  (hw:swappedStores [.Tuple [.Name x px,.Name y py] kt pt] (.Tuple [a,b] k2 pt2) X.env=pure (some [x,y]):=by rfl)
  (hs:swapsWithSole [.Tuple [.Name x px,.Name y py] kt pt] (.Tuple [a,b] k2 pt2) pos.line X.env=pure false:=by rfl):
  PS X (.Assign [.Tuple [.Name x px,.Name y py] kt pt] (.Tuple [a,b] k2 pt2) pos) (upS X.K (dPar i j ta)):=
 PS.imp (ps_par hc hN hi hj hij hx hy ha hw hs) fun N σ H ⟨L,S,M,hL,hS,h,r⟩=>upA.go hL hS h fun ds S1 vs H1 h1 k1 hL1 hS1 i1=>by
  split at h1
  ·obtain⟨v,u,rfl,j1,j2⟩:=isDs2 i1
   exact⟨v,u,rfl,r.nx _ S1 _ H1 h1 k1 ((hL1.set j1 i).set j2 j) hS1⟩
  ·exact h1.elim
abbrev DG:=D->Lo->DH->(Lo->DH->Prop)->Prop
def upG (K:Fg) (g:DG):TG:=fun v σ H Q=>∃ d L S k,IsD K H d v/\Lc K H L σ/\Hs K H S/\g d L S k/\∀ L' S' σ' H',k L' S'->Kp H H'->Lc K H' L' σ'->Hs K H' S'->Q σ' H'
theorem PG.imp {e:Expr} {t t':TG} (h:PG X e t) (i:∀ v σ H Q,t' v σ H Q->t v σ H Q):PG X e t':=fun pins s σ H v u Q I rv q=>h pins s σ H v u Q I rv (i v σ H Q q)
def dgName (i:Nat):DG:=fun d L S k=>k (L.set i (some d)) S
theorem dg_name {i:Nat} {x:Str} (hN:X.N.Nodup) (hi:X.N[i]?=some x:=by rfl) (hx:Loc X.env.scope x:=by first | exact Or.inl rfl | exact Or.inr rfl) (hf:X.fn x=true\/X.env.scope.names.lookup x=some .local:=by first | exact .inl rfl | exact .inr rfl | assumption):PG X (.Name x pos) (upG X.K (dgName i)):=
 PG.imp (pg_name hN hi hx hf) fun v σ H Q ⟨d,L,S,k,i1,hL,hS,h,n⟩=>n _ S _ H h (Kp.refl H) (hL.set i1 i) hS
abbrev DGs:=List D->Lo->DH->(Lo->DH->Prop)->Prop
def upGs (K:Fg) (g:DGs):TGs:=fun v σ H Q=>∃ d L S k,IsDs K H d v/\Lc K H L σ/\Hs K H S/\g d L S k/\∀ L' S' σ' H',k L' S'->Kp H H'->Lc K H' L' σ'->Hs K H' S'->Q σ' H'
theorem PGs.imp {e:List Expr} {t t':TGs} (h:PGs X e t) (i:∀ v σ H Q,t' v σ H Q->t v σ H Q):PGs X e t':=fun pins s σ H v u Q I rv q=>h pins s σ H v u Q I rv (i v σ H Q q)
def dgNil:DGs:=fun ds L S k=>ds=[]/\k L S
def dgCons (t:DG) (u:DGs):DGs:=fun ds L S k=>match ds with
 | d::r=>t d L S fun L1 S1=>u r L1 S1 k
 | []=>False
theorem dgs_nil:PGs X [] (upGs X.K dgNil):=PGs.imp pgs_nil fun v σ H Q ⟨d,L,S,k,i1,hL,hS,h,n⟩=>by
 obtain⟨rfl,h⟩:=h
 exact⟨isNil.mp i1,n L S σ H h (Kp.refl H) hL hS⟩
theorem dgs_cons {es:List Expr} {t:DG} {u:DGs} (h1:PG X e (upG X.K t)) (h2:PGs X es (upGs X.K u)) (hs:(assignEach (e::es) X.env).map (·.2)=assign e X.env::(assignEach es X.env).map (·.2):=by rfl):PGs X (e::es) (upGs X.K (dgCons t u)):=
 PGs.imp (pgs_cons h1 h2 hs) fun vs σ H Q ⟨ds,L,S,k,i1,hL,hS,h,n⟩=>by
  cases ds with
  | nil=>exact(show False from h).elim
  | cons d r=>
   obtain⟨v,vr,rfl,j1,j2⟩:=isCons.mp i1
   exact⟨v,vr,rfl,d,L,S,_,j1,hL,hS,h,fun L1 S1 σ1 H1 q k1 hL1 hS1=>⟨r,L1,S1,k,j2.kp k1,hL1,hS1,q,fun L' S' σ' H' q' k'=>n L' S' σ' H' q' (k1.trans k')⟩⟩
def dAsg (ge:DE) (g:DG):DS:=fun M L S=>ge L S fun d S1=>g d L S1 M.nx
theorem dst_asg {tg e:Expr} {g:DG} (he:PE X e (up X.K ge)) (hg:PG X tg (upG X.K g)) (hs:swapsWithSole [tg] e pos.line X.env=pure false:=by rfl) (hw:swappedStores [tg] e X.env=pure none:=by rfl)
  (h1:(assignEach [tg] X.env).map (·.2)=[assign tg X.env]:=by rfl):PS X (.Assign [tg] e pos) (upS X.K (dAsg ge g)):=
 PS.imp (ps_asg he hg hs hw h1) fun N σ H ⟨L,S,M,hL,hS,h,r⟩=>up.go hL hS h fun d S1 v H1 h1 k1 hL1 hS1 i1=>
  ⟨d,L,S1,M.nx,i1,hL1,hS1,h1,fun L' S' σ' H' q k' hL' hS'=>r.nx L' S' σ' H' q (k1.trans k') hL' hS'⟩
def dWhile (c:DT) (b:DS):DS:=fun M L S=>∃ W:Nat->Lo->DH->Prop,(∃ m,W m L S)/\∀ m L S,W m L S->
 c L S fun t S1=>if t=true then ∃ N:Lo->DH->Prop,(∀ L' S',N L' S'->∃ m',m' < m/\W m' L' S')/\b {M with nx:=N,ct:=N,bk:=M.nx} L S1 else M.nx L S1
theorem dst_while {c:Expr} {body:List Stmt} {gc:DT} (hp:PassesOwn (model X.prog X.w) X.A X.env X.xe) (hc:PT X c (upT X.K gc)) (hb:PSs X body (upS X.K g)):PS X (.While c body [] pos) (upS X.K (dWhile gc g)):=
 PS.imp (ps_while hp hc hb) fun N σ H ⟨L,S,M,hL,hS,⟨W,⟨m0,w0⟩,turn⟩,r⟩=>by
  refine⟨fun m σ H1=>∃ L S,Lc X.K H1 L σ/\Hs X.K H1 S/\W m L S/\Kp H H1,⟨m0,L,S,hL,hS,w0,Kp.refl H⟩,?_⟩
  rintro m σ1 H1 ⟨L1,S1,hL1,hS1,w1,k1⟩
  refine upT.go hL1 hS1 (turn m L1 S1 w1) fun t S2 H2 h2 k2 hL2 hS2=>?_
  cases t with
  | true=>
   rw [if_pos rfl] at h2 ⊢
   obtain⟨N',hN,hb⟩:=h2
   refine⟨fun σ' H'=>∃ L' S',Lc X.K H' L' σ'/\Hs X.K H' S'/\N' L' S'/\Kp H H',?_,L1,S2,_,hL2,hS2,hb,?_⟩
   ·rintro σ' H' ⟨L',S',hL',hS',n',k'⟩
    obtain⟨m',hm,w'⟩:=hN L' S' n'
    exact⟨m',hm,L',S',hL',hS',w',k'⟩
   ·have r2:=r.kp (k1.trans k2)
    exact⟨fun L' S' σ' H' n' k' hL' hS'=>⟨L',S',hL',hS',n',(k1.trans k2).trans k'⟩,r2.rt,r2.nx,fun L' S' σ' H' n' k' hL' hS'=>⟨L',S',hL',hS',n',(k1.trans k2).trans k'⟩⟩
  | false=>
   rw [if_neg Bool.false_ne_true] at h2 ⊢
   exact(r.kp (k1.trans k2)).nx L1 S2 σ1 H2 h2 (Kp.refl H2) hL2 hS2
def dLoop (ok:DH->Prop) (g:DG) (b:DS) (M:DEnds):List D->Lo->DH->Prop
 | [],L,S=>ok S/\M.nx L S
 | d::r,L,S=>ok S/\g d L S fun L1 S1=>b {M with nx:=fun L2 S2=>dLoop ok g b M r L2 S2,ct:=fun L2 S2=>dLoop ok g b M r L2 S2,bk:=M.nx} L1 S1
theorem for_core {K:Fg} {ok:DH->Prop} {gg:DG} {b:DS} {M:DEnds} {ds:List D} {L:Lo} {S:DH} {N:Ends} {σ:L2.St} {H:Hp} {J:It} (hL:Lc K H L σ) (hS:Hs K H S) (h:dLoop ok gg b M ds L S) (r:Rch K H M N)
  (hgo:∀ i d S1 H1,ds[i]?=some d->Kp H H1->Hs K H1 S1->ok S1->J.go i H1/\∀ x H',J.yld i H1 x H'->H'=H1/\IsD K H1 d x)
  (hst:∀ S1 H1,Kp H H1->Hs K H1 S1->ok S1->J.stop ds.length H1):
  ∃ W:Nat->Nat->L2.St->Hp->Prop,(∃ m,W 0 m σ H)/\∀ i m σ H,W i m σ H->
   (J.stop i H/\N.nx σ H)\/(J.go i H/\∃ N':L2.St->Hp->Prop,(∀ σ' H',N' σ' H'->∃ m',m' < m/\W (i+1) m' σ' H')/\∀ x H',J.yld i H x H'->upG K gg x σ H' fun σ2 H2=>upS K b {N with nx:=N',ct:=N',bk:=N.nx} σ2 H2):=by
 refine⟨fun i m σ1 H1=>m=ds.length - i/\i<=ds.length/\∃ L1 S1,Lc K H1 L1 σ1/\Hs K H1 S1/\Kp H H1/\dLoop ok gg b M (ds.drop i) L1 S1,⟨ds.length,by simp,Nat.zero_le _,L,S,hL,hS,Kp.refl H,h⟩,?_⟩
 rintro i m σ1 H1 ⟨rfl,hi,L1,S1,hL1,hS1,k1,w1⟩
 by_cases hlt:i < ds.length
 ·have e:ds.drop i=ds[i]::ds.drop (i+1):=List.drop_eq_getElem_cons hlt
  rw [e] at w1
  obtain⟨o1,w1⟩:=w1
  obtain⟨g1,y1⟩:=hgo i ds[i] S1 H1 (by simp [hlt]) k1 hS1 o1
  refine .inr ⟨g1,fun σ' H'=>i+1<=ds.length/\∃ L' S',Lc K H' L' σ'/\Hs K H' S'/\Kp H H'/\dLoop ok gg b M (ds.drop (i+1)) L' S',fun σ' H' ⟨q1,q2⟩=>⟨ds.length - (i+1),by omega,rfl,q1,q2⟩,fun x H' y=>?_⟩
  obtain⟨rfl,ix⟩:=y1 x H' y
  refine⟨ds[i],L1,S1,_,ix,hL1,hS1,w1,fun L2 S2 σ2 H2 q k2 hL2 hS2=>⟨L2,S2,_,hL2,hS2,q,?_⟩⟩
  have r2:=r.kp (k1.trans k2)
  exact⟨fun L3 S3 σ3 H3 q3 k3 hL3 hS3=>⟨hlt,L3,S3,hL3,hS3,(k1.trans k2).trans k3,q3⟩,r2.rt,r2.nx,fun L3 S3 σ3 H3 q3 k3 hL3 hS3=>⟨hlt,L3,S3,hL3,hS3,(k1.trans k2).trans k3,q3⟩⟩
 ·have e:i=ds.length:=by omega
  subst e
  rw [List.drop_length] at w1
  obtain⟨o1,w1⟩:=w1
  exact .inl ⟨hst S1 H1 k1 hS1 o1,r.nx L1 S1 σ1 H1 w1 k1 hL1 hS1⟩
def dItems (S:DH):D->Option (List D×Option Addr)
 | .tup ds=>some (ds,none)
 | .rl ds=>some (ds,none)
 | .ref a=>(match S a with
  | some (.lst ds)=>some (ds,some a)
  | _=>none)
 | _=>none
def okFor:List D×Option Addr->DH->Prop
 | (_,none)=>fun _=>True
 | (ds,some a)=>fun S=>S a=some (.lst ds)
theorem PI.imp {tg e:Expr} {w w':TI} (h:PI X tg e w) (i:∀ σ H R,w' σ H R->w σ H R):PI X tg e w':=fun pins s σ H R I q=>h pins s σ H R I (i σ H R q)
def iSeq (K:Fg) (t:TE):TI:=fun σ H R=>t σ H fun x H1=>∃ a,x=.ref a/\(((∃ xs,SqL K H1 a xs)/\R (Itl K a) H1)\/((∃ xs,SqT K H1 a xs)/\R (Itt K a) H1))
theorem pi_seq {tg l:Expr} {tl:TE} (hl:PE X l tl):PI X tg l (iSeq X.K tl):=by
 intro pins s σ H R I h
 refine thn (hl pins s σ H _ I h) fun v s1 ⟨x,H1,I1,r1,q1⟩=>?_
 obtain⟨a,e,q1⟩:=q1
 subst e
 cases r1
 rcases q1 with ⟨⟨xs,hq⟩,q⟩ | ⟨⟨xs,hq⟩,q⟩
 ·obtain⟨its,rv,p,hz⟩:=I1.list hq
  refine wpAny_pyIter_list p.isList ?_
  refine⟨s1.heap.objs.size,[s1.heap.objs.size],_,_,H1,rfl,I1.kept (t':=s1.toks) fun b o e=>Heap.get?_push_of_some _ e,turn_list a _,⟨_,Heap.get?_push_size _ rfl,rfl,rfl⟩,fun b hb=>?_,q⟩
  have e:b=s1.heap.objs.size:=by simpa using hb
  subst e
  exact I1.fpOk (Nat.le_refl _) (I1.hok.fresh (Nat.le_refl _))
 ·obtain⟨its,rv,p,hz⟩:=I1.tuple hq
  refine wpAny_pyIter_tuple (show s1.heap.IsTuple a its.toArray from p) ?_
  refine⟨s1.heap.objs.size,[s1.heap.objs.size],_,_,H1,rfl,I1.kept (t':=s1.toks) fun b o e=>Heap.get?_push_of_some _ e,turn_tuple a _,⟨_,Heap.get?_push_size _ rfl,rfl,rfl⟩,fun b hb=>?_,q⟩
  have e:b=s1.heap.objs.size:=by simpa using hb
  subst e
  exact I1.fpOk (Nat.le_refl _) (I1.hok.fresh (Nat.le_refl _))
def dForR (ta:DA) (g:DG) (b:DS):DS:=fun M L S=>ta L S fun ds S1=>match ds with
 | [.int n]=>(-(2 ^ 62)<=n/\n < 2 ^ 62)/\dLoop (fun _=>True) g b M ((List.range n.toNat).map fun i=>D.int (i:Nat)) L S1
 | _=>False
theorem dst_forR {tg a:Expr} {body:List Stmt} {ta:DA} {gg:DG} {p pos':Pos} (hp:PassesOwn (model X.prog X.w) X.A X.env X.xe) (hc:X.calm=true) (hgl:Gl X "range") (hm:X.mg "range"=none) (ha:PA X [a] (upA X.K ta)) (hg:PG X tg (upG X.K gg)) (hb:PSs X body (upS X.K g))
  (hs1:starEach [a] X.env=[(false,eval a X.env)]:=by rfl) (hs:∀ x,foldedSetIterable (.Call (.Name "range" p) [a] [] pos') X.env x=pure x:=by intro _; rfl):PS X (.For tg (.Call (.Name "range" p) [a] [] pos') body [] pos) (upS X.K (dForR ta gg g)):=
 PS.imp (ps_for hp hc (pi_range1 hgl hm ha hs1) hg hb hs) fun N σ H ⟨L,S,M,hL,hS,h,r⟩=>upA.go hL hS h fun ds S1 vs H1 h1 k1 hL1 hS1 i1=>by
  split at h1
  ·obtain⟨v,rfl,j⟩:=isDs1 i1
   have e:=isInt.mp j
   subst e
   obtain⟨⟨h2,h3⟩,h1⟩:=h1
   refine⟨_,rfl,h2,h3,for_core hL1 hS1 h1 (r.kp k1) (fun i d S2 H2 e k2 hS2 _=>?_) fun S2 H2 k2 hS2 _=>?_⟩
   ·rw [List.getElem?_map] at e
    cases q:(List.range (Int.toNat _))[i]? with
    | none=>rw [q] at e; cases e
    | some z=>
     rw [q] at e
     cases e
     have hz:=List.getElem?_eq_some_iff.mp q
     obtain⟨hz1,hz2⟩:=hz
     rw [List.length_range] at hz1
     rw [List.getElem_range] at hz2
     subst hz2
     exact⟨hz1,fun x H' y=>⟨y.1,by rw [y.2]; exact isInt.mpr (by rw [Int.zero_add])⟩⟩
   ·rw [List.length_map,List.length_range]
    exact Nat.le_refl _
  ·exact h1.elim
end
section
variable {P:Program} {w:World} {K:Fg} {mg:Str->Option Value} {base:Heap}
theorem _root_.L2.Fun.okD {x qual:Str} {st:Stmt} {f:Addr} {fd:FuncData} {N ps:List Str} {k:Nat} {F:DSp} (Fn:Fun K x qual st f fd) (Sc:FnScope N ps (defScope st)) (len:∀ ds S k,F ds S k->ds.length=ps.length)
  (hbody:∀ (cdv:Value) (A:Around) (outer:List Env) (s:Shared) (H:Hp) (E:XK),Room k (A.deeper (envOfC qual (defScope st) s.heap.objs.size f cdv))->
   ∃ g,PSs (cxOf CX0 P w K mg base N qual (defScope st) f cdv A outer s H E).nox (defBody st) (upS K g)/\
    ∀ ds S k,F ds S k->g {nx:=fun _ S'=>k .non S',rt:=k} (ds.map some++List.replicate (N.length - ps.length) none) S):FnOk P w K mg base CX0 (k+1) f fd ps (spU K F):=by
 refine Fn.ok Sc (fun vs H Q E h=>?_) (fun cdv A outer s H vs Q E hr h=>?_)
 ·obtain⟨ds,S,k,i,_,q,_⟩:=h
  rw [<- i.length]
  exact len ds S k q
 ·obtain⟨g,hg,q⟩:=hbody cdv A outer s H E hr
  obtain⟨ds,S,k',i,hS,h,n⟩:=h
  refine⟨_,hg,ds.map some++List.replicate (N.length - ps.length) none,S,_,?_,hS,q ds S k' h,?_⟩
  ·unfold L2.start
   rw [<- i.length,len ds S k' h]
   exact Lc.start _ i
  ·exact⟨fun L S' σ H' h1 k1 _ hS'=>n _ S' _ H' h1 k1 hS' (isNon.mpr rfl),fun d S' v H' h1 k1 hS' i1=>n d S' v H' h1 k1 hS' i1,fun _ _ _ _ h1=>h1.elim,fun _ _ _ _ h1=>h1.elim⟩
theorem Own.mk' {x qual:Str} {st:Stmt} {f:Addr} {fd:FuncData} {ps:List Str} {n:Nat} {F:DSp} (Fn:Fun K x qual st f fd) (h:FnOk P w K mg base CX0 n f fd ps (spU K F)) (hm:mg x=some (.ref f)) (hb:Binds K fd ps []):Own P w K mg base x n F:=
 ⟨f,fd,ps,h,hm,Fn.kp,hb⟩
end
end DL
namespace DL
open PySem PySem.Spec PyProof.Rows L2 HM
theorem law_up {K:Fg} {H:Hp} {a:Addr} {ns:List Int} {F:DSp} {E:XK} (ho:Only H) (hS:SqL K H a (ns.map V.int)) (h:F [.rl (ns.map D.int)] (fun _=>none) (fun d _=>d=.bl true)):spU K F [.ref a] H (fun v _=>v=.bl true) E:=by
 refine⟨[.rl (ns.map D.int)],fun _=>none,fun d _=>d=.bl true,IsDs.cons (isRl.mpr ⟨a,ns.map V.int,rfl,?_,?_⟩) IsDs.nil,fun a o e=>(by cases e),h,fun d' S' v H' e _ _ i=>?_⟩
 ·rcases hS with (h1 | h1) | h1
  ·rcases ho a with z | ⟨o,xs,z⟩
   ·rw [z] at h1; cases h1
   ·rw [z] at h1; cases h1
  ·exact .inl h1
  ·exact .inr h1
 ·clear h hS
  induction ns with
  | nil=>exact IsDs.nil
  | cons n ns ih=>exact IsDs.cons (isInt.mpr rfl) ih
 ·subst e
  exact isBl.mp i
theorem mok {m n:Nat} {x y:Int} (hx:Bt m x) (hy:Bt n y) (h:m+n<=134217728:=by decide):IntMulOk x y:=IntMulOk.of_le (intBits_le_iff.mpr hx) (intBits_le_iff.mpr hy) h
theorem dok {m:Nat} {y:Int} (h0:y≠0) (hy:Bt m y) (h:m<=9000:=by decide):CDivB x y:=⟨h0,(Nat.log2_lt (by omega)).mpr (hy.mono h)⟩
def pr (a b:Int):D:=.tup [.int a,.int b]
def fr (q:Rat):D:=pr q.num (q.den:Int)
end DL
namespace DL
theorem atI0 {x:D} {r:List D}:L2.atI (x::r) 0=some x:=L2.atI_nat (j:=0) rfl
theorem atI1 {x y:D} {r:List D}:L2.atI (x::y::r) 1=some y:=L2.atI_nat (j:=1) rfl
theorem ixN0 {n:Nat}:L2.ixN (n+1) 0=some 0:=by
 unfold L2.ixN
 rw [if_pos (by decide),if_pos (by omega)]
 rfl
end DL
namespace DL
open PySem PySem.Spec PyProof.Rows L2
def eqS:D->D->Option Bool
 | .int i,.int j=>some (i == j)
 | .bl i,.bl j=>some (i == j)
 | .str i,.str j=>some (i == j)
 | .non,.non=>some true
 | .non,.int _=>some false
 | .int _,.non=>some false
 | .non,.bl _=>some false
 | .bl _,.non=>some false
 | .bl a,.int j=>some ((if a then 1 else 0) == j)
 | .int i,.bl b=>some (i == (if b then 1 else 0))
 | _,_=>none
def eqTs (f:D->D->Option Bool):List D->List D->Option Bool
 | [],[]=>some true
 | [],_::_=>some false
 | _::_,[]=>some false
 | x::xs,y::ys=>match f x y,eqTs f xs ys with
  | some a,some b=>some (a && b)
  | _,_=>none
def eqT:Nat->D->D->Option Bool
 | 0,d,e=>eqS d e
 | n+1,.tup xs,.tup ys=>eqTs (eqT n) xs ys
 | _+1,d,e=>eqS d e
theorem eqT_succ (n:Nat) (d e:D):eqT (n+1) d e=(match d,e with | .tup xs,.tup ys=>eqTs (eqT n) xs ys | d,e=>eqS d e):=by
 cases d <;> cases e <;> rfl
def eqAts (f:D->D->Option Bool):List D->List D->Nat->Bool
 | x::_,y::_,0=>(f x y).getD false
 | _::xs,_::ys,j+1=>eqAts f xs ys j
 | _,_,_=>false
theorem all_succ (e:Nat->Bool) (m:Nat):(List.range (m+1)).all e=(e 0 && (List.range m).all fun j=>e (j+1)):=by
 rw [List.range_succ_eq_map,List.all_cons,List.all_map]
 rfl
theorem eqTs_all {f:D->D->Option Bool}:∀ {xs ys:List D} {b:Bool},eqTs f xs ys=some b->((List.range (min xs.length ys.length)).all (eqAts f xs ys) && xs.length == ys.length)=b
 | [],[],b,h=>by unfold eqTs at h; cases h; rfl
 | [],_::_,b,h=>by unfold eqTs at h; cases h; simp
 | _::_,[],b,h=>by unfold eqTs at h; cases h; simp
 | x::xs,y::ys,b,h=>by
  unfold eqTs at h
  split at h
  ·rename_i a c e1 e2
   cases h
   have ih:=eqTs_all e2
   rw [List.length_cons,List.length_cons,Nat.succ_min_succ,all_succ]
   have e3:eqAts f (x::xs) (y::ys) 0=a:=by unfold eqAts; rw [e1]; rfl
   rw [e3,Bool.and_assoc]
   have e4:(fun j=>eqAts f (x::xs) (y::ys) (j+1))=eqAts f xs ys:=by funext j; rfl
   rw [e4]
   have e5:(xs.length+1 == ys.length+1)=(xs.length == ys.length):=by simp
   rw [e5,ih]
  ·cases h
theorem eqTs_at {f:D->D->Option Bool}:∀ {xs ys:List D} {b:Bool} {j:Nat} {x y:D},eqTs f xs ys=some b->xs[j]?=some x->ys[j]?=some y->f x y=some (eqAts f xs ys j)
 | [],_,_,_,_,_,_,e,_=>by simp at e
 | _::_,[],_,_,_,_,_,_,e=>by simp at e
 | x::xs,y::ys,b,0,x',y',h,e1,e2=>by
  simp at e1 e2
  subst e1; subst e2
  unfold eqTs at h
  split at h
  ·rename_i a c q1 q2
   unfold eqAts
   rw [q1]
   rfl
  ·cases h
 | x::xs,y::ys,b,j+1,x',y',h,e1,e2=>by
  unfold eqTs at h
  split at h
  ·rename_i a c q1 q2
   unfold eqAts
   exact eqTs_at q2 (by simpa using e1) (by simpa using e2)
  ·cases h
section
variable {X:Cx} {pins:List (Addr×Obj)} {σ:L2.St} {H:Hp} {s:Shared}
theorem pair_at {K:Fg} {ds es:List D} {xs ys:List V} {us ws:List Value} {j:Nat} (i1:IsDs K H ds xs) (i2:IsDs K H es ys) (r1:Vals xs us) (r2:Vals ys ws) (h1:j < us.length) (h2:j < ws.length):
  ∃ d e x y,ds[j]?=some d/\es[j]?=some e/\IsD K H d x/\IsD K H e y/\RelV x us[j]/\RelV y ws[j]:=by
 have l1:=i1.length
 have l2:=i2.length
 have l3:=r1.length
 have l4:=r2.length
 have e1:ds[j]?=some ds[j]:=by simp [show j < ds.length by omega]
 have e2:es[j]?=some es[j]:=by simp [show j < es.length by omega]
 obtain⟨x,q1,d1⟩:=i1.get e1
 obtain⟨y,q2,d2⟩:=i2.get e2
 obtain⟨u,q3,rx⟩:=r1.get q1
 obtain⟨w,q4,ry⟩:=r2.get q2
 have f1:us[j]=u:=(List.getElem?_eq_some_iff.mp q3).2
 have f2:ws[j]=w:=(List.getElem?_eq_some_iff.mp q4).2
 exact⟨_,_,x,y,e1,e2,d1,d2,by rw [f1]; exact rx,by rw [f2]; exact ry⟩
theorem eqS_at {K:Fg} {A:Around} {d e:D} {x y:V} {u w:Value} {b:Bool} (h:eqS d e=some b) (i1:IsD K H d x) (i2:IsD K H e y) (rx:RelV x u) (ry:RelV y w):SeqAt.EqAt A s u w b/\SeqAt.RcAt A s u w b:=by
 unfold eqS at h
 split at h
 ·cases h; rw [isInt.mp i1] at rx; rw [isInt.mp i2] at ry; obtain⟨t,rfl⟩:=rx; obtain⟨t',rfl⟩:=ry; exact⟨(SeqAt.EqAt.int_int _ _ _ _),(SeqAt.RcAt.int_int _ _ _ _)⟩
 ·cases h; rw [isBl.mp i1] at rx; rw [isBl.mp i2] at ry; cases rx; cases ry; exact⟨(SeqAt.EqAt.bool_bool _ _),(SeqAt.RcAt.bool_bool _ _)⟩
 ·cases h; rw [isStr.mp i1] at rx; rw [isStr.mp i2] at ry; obtain⟨t,rfl⟩:=rx; obtain⟨t',rfl⟩:=ry; exact⟨(SeqAt.EqAt.str_str _ _ _ _),(SeqAt.RcAt.str_str _ _ _ _)⟩
 ·cases h; rw [isNon.mp i1] at rx; rw [isNon.mp i2] at ry; cases rx; cases ry; exact⟨SeqAt.EqAt.same _,SeqAt.RcAt.none_none⟩
 ·cases h; rw [isNon.mp i1] at rx; rw [isInt.mp i2] at ry; cases rx; obtain⟨t',rfl⟩:=ry; exact⟨(SeqAt.EqAt.none_int _ _),(SeqAt.RcAt.none_int _ _)⟩
 ·cases h; rw [isInt.mp i1] at rx; rw [isNon.mp i2] at ry; obtain⟨t,rfl⟩:=rx; cases ry; exact⟨(SeqAt.EqAt.int_none _ _),(SeqAt.RcAt.int_none _ _)⟩
 ·cases h; rw [isNon.mp i1] at rx; rw [isBl.mp i2] at ry; cases rx; cases ry; exact⟨(SeqAt.EqAt.none_bool _),(SeqAt.RcAt.none_bool _)⟩
 ·cases h; rw [isBl.mp i1] at rx; rw [isNon.mp i2] at ry; cases rx; cases ry; exact⟨(SeqAt.EqAt.bool_none _),(SeqAt.RcAt.bool_none _)⟩
 ·cases h; rw [isBl.mp i1] at rx; rw [isInt.mp i2] at ry; cases rx; obtain⟨t',rfl⟩:=ry; exact⟨(SeqAt.EqAt.bool_int _ _ _),(SeqAt.RcAt.bool_int _ _ _)⟩
 ·cases h; rw [isInt.mp i1] at rx; rw [isBl.mp i2] at ry; obtain⟨t,rfl⟩:=rx; cases ry; exact⟨(SeqAt.EqAt.int_bool _ _ _),(SeqAt.RcAt.int_bool _ _ _)⟩
 ·cases h
theorem eqS_same {K:Fg} {d e:D} {x:V} {b:Bool} (h:eqS d e=some b) (i1:IsD K H d x) (i2:IsD K H e x):b=true:=by
 unfold eqS at h
 split at h
 ·cases h; have e1:=isInt.mp i1; have e2:=isInt.mp i2; rw [e1] at e2; cases e2; simp
 ·cases h; have e1:=isBl.mp i1; have e2:=isBl.mp i2; rw [e1] at e2; cases e2; simp
 ·cases h; have e1:=isStr.mp i1; have e2:=isStr.mp i2; rw [e1] at e2; cases e2; simp
 ·cases h; rfl
 ·have e1:=isNon.mp i1; have e2:=isInt.mp i2; rw [e1] at e2; cases e2
 ·have e1:=isInt.mp i1; have e2:=isNon.mp i2; rw [e1] at e2; cases e2
 ·have e1:=isNon.mp i1; have e2:=isBl.mp i2; rw [e1] at e2; cases e2
 ·have e1:=isBl.mp i1; have e2:=isNon.mp i2; rw [e1] at e2; cases e2
 ·have e1:=isBl.mp i1; have e2:=isInt.mp i2; rw [e1] at e2; cases e2
 ·have e1:=isInt.mp i1; have e2:=isBl.mp i2; rw [e1] at e2; cases e2
 ·cases h
theorem eqTs_same {K:Fg} {f:D->D->Option Bool} (hf:∀ d e x b,f d e=some b->IsD K H d x->IsD K H e x->b=true):∀ {ds es:List D} {xs:List V} {b:Bool},eqTs f ds es=some b->IsDs K H ds xs->IsDs K H es xs->b=true
 | [],[],_,_,h,_,_=>by unfold eqTs at h; cases h; rfl
 | [],_::_,_,_,_,i1,i2=>by
  have e1:=isNil.mp i1
  obtain⟨v,r,e2,_⟩:=isCons.mp i2
  rw [e1] at e2; cases e2
 | _::_,[],_,_,_,i1,i2=>by
  have e1:=isNil.mp i2
  obtain⟨v,r,e2,_⟩:=isCons.mp i1
  rw [e1] at e2; cases e2
 | d::ds,e::es,xs,b,h,i1,i2=>by
  obtain⟨v,r,e1,h1,h2⟩:=isCons.mp i1
  obtain⟨v',r',e2,h3,h4⟩:=isCons.mp i2
  rw [e1] at e2
  cases e2
  unfold eqTs at h
  split at h
  ·rename_i a c q1 q2
   cases h
   rw [hf _ _ _ _ q1 h1 h3,eqTs_same hf q2 h2 h4]
   rfl
  ·cases h
theorem eqT_same (I:Inv X pins σ H s):∀ (n:Nat) (d e:D) (x:V) (b:Bool),eqT n d e=some b->IsD X.K H d x->IsD X.K H e x->b=true
 | 0,d,e,x,b,h,i1,i2=>eqS_same (by unfold eqT at h; exact h) i1 i2
 | n+1,d,e,x,b,h,i1,i2=>by
  rw [eqT_succ] at h
  split at h
  ·rename_i xs ys
   obtain⟨a,vs,e1,t1,j1⟩:=isTup.mp i1
   obtain⟨a',vs',e2,t2,j2⟩:=isTup.mp i2
   rw [e1] at e2
   cases e2
   have q:=I.tuple_inj t1 t2
   subst q
   exact eqTs_same (fun d e x b=>eqT_same I n d e x b) h j1 j2
  ·exact eqS_same h i1 i2
theorem eqT_at (I:Inv X pins σ H s):∀ (n:Nat) (A:Around) (d e:D) (x y:V) (u w:Value) (b:Bool),A.units+n < cLine->eqT n d e=some b->IsD X.K H d x->IsD X.K H e y->RelV x u->RelV y w->SeqAt.EqAt A s u w b/\SeqAt.RcAt A s u w b
 | 0,A,d,e,x,y,u,w,b,hu,h,i1,i2,rx,ry=>eqS_at (by unfold eqT at h; exact h) i1 i2 rx ry
 | n+1,A,d,e,x,y,u,w,b,hu,h,i1,i2,rx,ry=>by
  have h0:=h
  rw [eqT_succ] at h
  split at h
  ·rename_i xs ys
   obtain⟨p,vs,rfl,t1,j1⟩:=isTup.mp i1
   obtain⟨q,vs',rfl,t2,j2⟩:=isTup.mp i2
   cases rx
   cases ry
   obtain⟨us,r1,p1,_⟩:=I.tuple t1
   obtain⟨ws,r2,p2,_⟩:=I.tuple t2
   have l1:=j1.length
   have l2:=j2.length
   have l3:=r1.length
   have l4:=r2.length
   have rc:SeqAt.RcAt A s (.ref p) (.ref q) b:=by
    have e:=eqTs_all h
    have z:=SeqAt.RcAt.tuples (A:=A) (s:=s) (items:=us.toArray) (items2:=ws.toArray) (e:=eqAts (eqT n) xs ys) (show s.heap.IsTuple p us.toArray from p1) (show s.heap.IsTuple q ws.toArray from p2) (by omega) (fun j h1 h2=>by
     simp only [List.size_toArray] at h1 h2
     obtain⟨d,e,x,y,q1,q2,d1,d2,rx,ry⟩:=pair_at j1 j2 r1 r2 h1 h2
     have:=(eqT_at I n A.in1 d e x y us[j] ws[j] _ (by show A.units+1+n < cLine; omega) (eqTs_at h q1 q2) d1 d2 rx ry).1
     simpa using this)
    simp only [List.size_toArray] at z
    rw [<- l3,<- l4,<- l1,<- l2,e] at z
    exact z
   refine⟨?_,rc⟩
   by_cases hpq:p=q
   ·subst hpq
    have:=eqT_same I (n+1) _ _ _ _ h0 i1 i2
    subst this
    exact SeqAt.EqAt.same _
   ·exact SeqAt.EqAt.of_refs hpq rc
  ·exact eqS_at h i1 i2 rx ry
theorem eqS_ne {K:Fg} {A:Around} {d e:D} {x y:V} {u w:Value} {b:Bool} (h:eqS d e=some b) (i1:IsD K H d x) (i2:IsD K H e y) (rx:RelV x u) (ry:RelV y w):SeqAt.RcNeAt A s u w (!b):=by
 unfold eqS at h
 split at h
 ·cases h; rw [isInt.mp i1] at rx; rw [isInt.mp i2] at ry; obtain⟨t,rfl⟩:=rx; obtain⟨t',rfl⟩:=ry; exact(SeqAt.RcNeAt.int_int _ _ _ _)
 ·cases h; rw [isBl.mp i1] at rx; rw [isBl.mp i2] at ry; cases rx; cases ry; exact(SeqAt.RcNeAt.bool_bool _ _)
 ·cases h; rw [isStr.mp i1] at rx; rw [isStr.mp i2] at ry; obtain⟨t,rfl⟩:=rx; obtain⟨t',rfl⟩:=ry; exact(SeqAt.RcNeAt.str_str _ _ _ _)
 ·cases h; rw [isNon.mp i1] at rx; rw [isNon.mp i2] at ry; cases rx; cases ry; exact SeqAt.RcNeAt.none_none
 ·cases h; rw [isNon.mp i1] at rx; rw [isInt.mp i2] at ry; cases rx; obtain⟨t',rfl⟩:=ry; exact(SeqAt.RcNeAt.none_int _ _)
 ·cases h; rw [isInt.mp i1] at rx; rw [isNon.mp i2] at ry; obtain⟨t,rfl⟩:=rx; cases ry; exact(SeqAt.RcNeAt.int_none _ _)
 ·cases h; rw [isNon.mp i1] at rx; rw [isBl.mp i2] at ry; cases rx; cases ry; exact(SeqAt.RcNeAt.none_bool _)
 ·cases h; rw [isBl.mp i1] at rx; rw [isNon.mp i2] at ry; cases rx; cases ry; exact(SeqAt.RcNeAt.bool_none _)
 ·cases h; rw [isBl.mp i1] at rx; rw [isInt.mp i2] at ry; cases rx; obtain⟨t',rfl⟩:=ry; exact(SeqAt.RcNeAt.bool_int _ _ _)
 ·cases h; rw [isInt.mp i1] at rx; rw [isBl.mp i2] at ry; obtain⟨t,rfl⟩:=rx; cases ry; exact(SeqAt.RcNeAt.int_bool _ _ _)
 ·cases h
theorem eqT_ne (I:Inv X pins σ H s) (n:Nat) (A:Around) (d e:D) (x y:V) (u w:Value) (b:Bool) (hu:A.units+n < cLine) (h:eqT n d e=some b) (i1:IsD X.K H d x) (i2:IsD X.K H e y) (rx:RelV x u) (ry:RelV y w):SeqAt.RcNeAt A s u w (!b):=by
 cases n with
 | zero=>exact eqS_ne (by unfold eqT at h; exact h) i1 i2 rx ry
 | succ n=>
  rw [eqT_succ] at h
  split at h
  ·rename_i xs ys
   obtain⟨p,vs,rfl,t1,j1⟩:=isTup.mp i1
   obtain⟨q,vs',rfl,t2,j2⟩:=isTup.mp i2
   cases rx
   cases ry
   obtain⟨us,r1,p1,_⟩:=I.tuple t1
   obtain⟨ws,r2,p2,_⟩:=I.tuple t2
   have l1:=j1.length
   have l2:=j2.length
   have l3:=r1.length
   have l4:=r2.length
   have e:=eqTs_all h
   have z:=SeqAt.RcNeAt.tuples (A:=A) (s:=s) (items:=us.toArray) (items2:=ws.toArray) (e:=eqAts (eqT n) xs ys) (show s.heap.IsTuple p us.toArray from p1) (show s.heap.IsTuple q ws.toArray from p2) (by omega) (fun j h1 h2=>by
    simp only [List.size_toArray] at h1 h2
    obtain⟨d,e,x,y,q1,q2,d1,d2,rx,ry⟩:=pair_at j1 j2 r1 r2 h1 h2
    have:=(eqT_at I n A.in1 d e x y us[j] ws[j] _ (by show A.units+1+n < cLine; omega) (eqTs_at h q1 q2) d1 d2 rx ry).1
    simpa using this)
   simp only [List.size_toArray] at z
   rw [<- l3,<- l4,<- l1,<- l2,e] at z
   exact z
  ·exact eqS_ne h i1 i2 rx ry
end
structure EJ (X:Cx) (e:Expr) (g:DE):Prop where
 h:PE X e (up X.K g)
structure TJ (X:Cx) (e:Expr) (g:DT):Prop where
 h:PT X e (upT X.K g)
structure WJ (X:Cx) (e:Expr) (g:DT):Prop where
 h:PW X e (upT X.K g)
structure AJ (X:Cx) (e:List Expr) (g:DA):Prop where
 h:PA X e (upA X.K g)
structure SJ (X:Cx) (e:Stmt) (g:DS):Prop where
 h:PS X e (upS X.K g)
structure SsJ (X:Cx) (e:List Stmt) (g:DS):Prop where
 h:PSs X e (upS X.K g)
structure GJ (X:Cx) (e:Expr) (g:DG):Prop where
 h:PG X e (upG X.K g)
structure GsJ (X:Cx) (e:List Expr) (g:DGs):Prop where
 h:PGs X e (upGs X.K g)
theorem WJ.pt {X:Cx} {e:Expr} {g:DT} (h:WJ X e g):TJ X e g:=⟨PW.pt h.h⟩
section
variable {X:Cx} {a b c:Expr} {ga gb gc:DE} {pos:Pos}
theorem d_varj (i:Nat) {x:Str} (hN:X.N[i]?=some x:=by rfl) (hv:Vis X.env.scope x:=by first | exact Or.inl rfl | exact Or.inr (Or.inl rfl) | exact Or.inr (Or.inr rfl)) (hd:(x == ("__debug__":Str))=false:=by decide) (hcd:(x == ("__classdict__":Str))=false:=by decide):EJ X (.Name x pos) (dVar i):=⟨d_var (i:=i) (hN:=hN) (hv:=hv) (hd:=hd) (hcd:=hcd)⟩
end
section
variable {X:Cx} {a b c:Expr} {ga gb gc:DE} {pos:Pos}
theorem d_intj {i j pos}:EJ X (.Constant (.int i) j pos) (dC (.int i)):=⟨d_int⟩
end
section
variable {X:Cx} {a b c:Expr} {ga gb gc:DE} {pos:Pos}
theorem d_blj {i j pos}:EJ X (.Constant (.bool i) j pos) (dC (.bl i)):=⟨d_bl⟩
end
section
variable {X:Cx} {a b c:Expr} {ga gb gc:DE} {pos:Pos}
theorem d_nonj {j pos}:EJ X (.Constant .none j pos) (dC .non):=⟨d_non⟩
end
section
variable {X:Cx} {a b c:Expr} {ga gb gc:DE} {pos:Pos}
theorem da_nilj:AJ X [] dNil:=⟨da_nil⟩
end
section
variable {X:Cx} {a b c:Expr} {ga gb gc:DE} {pos:Pos}
theorem da_consj {es:List Expr} {t:DA} (ha:EJ X a ga) (hr:AJ X es t) (hs:starEach (a::es) X.env=(false,eval a X.env)::starEach es X.env:=by exact star_cons rfl):AJ X (a::es) (dCons ga t):=⟨da_cons (ha:=ha.h) (hr:=hr.h) (hs:=hs)⟩
end
section
variable {X:Cx} {a b c:Expr} {ga gb gc:DE} {pos:Pos}
theorem d_tupj {es:List Expr} {x1} {t:DA} (h:AJ X es t):EJ X (.Tuple es x1 pos) (dTup t):=⟨d_tup (h:=h.h)⟩
end
section
variable {X:Cx} {a b c:Expr} {ga gb gc:DE} {pos:Pos}
theorem d_lstj {es:List Expr} {t:DA} (h:AJ X es t):EJ X (.List es pos) (dLst t):=⟨d_lst (h:=h.h)⟩
end
section
variable {X:Cx} {a b c:Expr} {ga gb gc:DE} {pos:Pos}
theorem d_opj {op:Operator} {r:D2} (ho:OpR X (binaryOp op) (upR X.K r)) (ha:EJ X a ga) (hb:EJ X b gb):EJ X (.BinOp a op b pos) (dOp r ga gb):=⟨d_op (ho:=ho) (ha:=ha.h) (hb:=hb.h)⟩
end
section
variable {X:Cx} {a b c:Expr} {ga gb gc:DE} {pos:Pos}
theorem d_cmpj {op:CmpOp} {r:D2} (ho:OpR X (compareOp op) (upR X.K r)) (ha:EJ X a ga) (hb:EJ X b gb) (hm:behindInMarks op b=false):EJ X (.Compare a [op] [b] pos) (dOp r ga gb):=⟨d_cmp (ho:=ho) (ha:=ha.h) (hb:=hb.h) (hm:=hm)⟩
end
section
variable {X:Cx} {a b c:Expr} {ga gb gc:DE} {pos:Pos}
theorem d_ixj {r:D2} (hr:IxR X (upR X.K r)) (ha:EJ X a ga) (hb:EJ X b gb) (hs:PlainIx b):EJ X (.Subscript a b pos) (dOp r ga gb):=⟨d_ix (hr:=hr) (ha:=ha.h) (hb:=hb.h) (hs:=hs)⟩
end
section
variable {X:Cx} {a b c:Expr} {ga gb gc:DE} {pos:Pos}
theorem d_unj {op:UnaryOp} {r:D1} (ho:UnR X (unaryOp op) (upU X.K r)) (ha:EJ X a ga):EJ X (.UnaryOp op a pos) (dUn r ga):=⟨d_un (ho:=ho) (ha:=ha.h)⟩
end
section
variable {X:Cx} {a b c:Expr} {ga gb gc:DE} {pos:Pos}
theorem dt_cmpj {op:CmpOp} {r:D2} (ho:OpR X (compareOp op) (upR X.K r)) (ha:EJ X a ga) (hb:EJ X b gb) (hm:behindInMarks op b=false):TJ X (.Compare a [op] [b] pos) (dTest (dOp r ga gb)):=⟨dt_cmp (ho:=ho) (ha:=ha.h) (hb:=hb.h) (hm:=hm)⟩
end
section
variable {X:Cx} {a b c:Expr} {ga gb gc:DE} {pos:Pos}
theorem dt_valj {e:Expr} {g:DE} (h:EJ X e g) (he:∀ whole,isTrue e X.env whole=(do let v <- whole; standAt e.pos; holding [v] (truthy v)):=by intro _; rfl):TJ X e (dTest g):=⟨dt_val (h:=h.h) (he:=he)⟩
end
section
variable {X:Cx} {a b c:Expr} {ga gb gc:DE} {pos:Pos}
variable {tA tB':DT} {rest:List Expr}
theorem dw_or1j (ha:TJ X a tA):WJ X (.BoolOp .Or [a] pos) tA:=⟨dw_or1 (ha:=ha.h)⟩
end
section
variable {X:Cx} {a b c:Expr} {ga gb gc:DE} {pos:Pos}
variable {tA tB':DT} {rest:List Expr}
theorem dw_orj (ha:TJ X a tA) (hb:WJ X (.BoolOp .Or (b::rest) pos) tB'):WJ X (.BoolOp .Or (a::b::rest) pos) (dOrT tA tB'):=⟨dw_or (ha:=ha.h) (hb:=hb.h)⟩
end
section
variable {X:Cx} {a b c:Expr} {ga gb gc:DE} {pos:Pos}
variable {tA tB':DT} {rest:List Expr}
theorem dt_notj (ha:TJ X a tA):TJ X (.UnaryOp .Not a pos) (dNotT tA):=⟨dt_not (ha:=ha.h)⟩
end
section
variable {X:Cx} {a b c:Expr} {ga gb gc:DE} {pos:Pos}
variable {tA tB':DT} {rest:List Expr}
theorem d_onej {op} (h:EJ X a ga):EJ X (.BoolOp op [a] pos) ga:=⟨d_one (h:=h.h)⟩
end
section
variable {X:Cx} {a b c:Expr} {ga gb gc:DE} {pos:Pos}
variable {tA tB':DT} {rest:List Expr}
theorem d_orj (ha:EJ X a ga) (hb:EJ X (.BoolOp .Or (b::rest) pos) gb):EJ X (.BoolOp .Or (a::b::rest) pos) (dOrV ga gb):=⟨d_or (ha:=ha.h) (hb:=hb.h)⟩
end
section
variable {X:Cx} {a b c:Expr} {ga gb gc:DE} {pos:Pos}
variable {tA tB':DT} {rest:List Expr}
theorem d_ifj {c:Expr} (hc:TJ X c tA) (ha:EJ X a ga) (hb:EJ X b gb):EJ X (.IfExp c a b pos) (dIf tA ga gb):=⟨d_if (hc:=hc.h) (ha:=ha.h) (hb:=hb.h)⟩
end
section
variable {X:Cx} {x:Str} {p pos:Pos} {e:Expr} {es:List Expr} {t:DA} {id T:String} {r:DSp}
theorem d_callBj (hc:CallR X (.builtin id) (upC X.K r)) (hg:Gl X x) (hm:X.mg x=none) (hv:bootBuiltins x=some (.builtin id)) (ha:AJ X (e::es) t) (hn:x≠"__name__":=by decide) (hdb:(x == ("__debug__":Str))=false:=by decide) (he:starEach (e::es) X.env=(false,eval e X.env)::starEach es X.env:=by exact star_cons rfl) (hpl:(backTo pos (starEach es X.env)).any (·.1)=false:=by exact star_any rfl):EJ X (.Call (.Name x p) (e::es) [] pos) (dCall r t):=⟨d_callB (hc:=hc) (hg:=hg) (hm:=hm) (hv:=hv) (ha:=ha.h) (hn:=hn) (hdb:=hdb) (he:=he) (hpl:=hpl)⟩
end
section
variable {X:Cx} {x:Str} {p pos:Pos} {e:Expr} {es:List Expr} {t:DA} {id T:String} {r:DSp}
theorem d_callTj (hc:CallR X (.type T) (upC X.K r)) (hg:Gl X x) (hm:X.mg x=none) (hv:bootBuiltins x=some (.type T)) (ha:AJ X (e::es) t) (hn:x≠"__name__":=by decide) (hdb:(x == ("__debug__":Str))=false:=by decide) (he:starEach (e::es) X.env=(false,eval e X.env)::starEach es X.env:=by exact star_cons rfl) (hpl:(backTo pos (starEach es X.env)).any (·.1)=false:=by exact star_any rfl):EJ X (.Call (.Name x p) (e::es) [] pos) (dCall r t):=⟨d_callT (hc:=hc) (hg:=hg) (hm:=hm) (hv:=hv) (ha:=ha.h) (hn:=hn) (hdb:=hdb) (he:=he) (hpl:=hpl)⟩
end
section
variable {X:Cx} {x:Str} {p pos:Pos} {e:Expr} {es:List Expr} {t:DA} {id T:String} {r:DSp}
theorem d_callj {n:Nat} {F:DSp} (c:Own X.prog X.w X.K X.mg X.base x n F) (hr:Room n X.A) (hg:Gl X x) (ha:AJ X (e::es) t) (hdb:(x == ("__debug__":Str))=false:=by decide) (he:starEach (e::es) X.env=(false,eval e X.env)::starEach es X.env:=by exact star_cons rfl) (hpl:(backTo pos (starEach es X.env)).any (·.1)=false:=by exact star_any rfl):EJ X (.Call (.Name x p) (e::es) [] pos) (dCall F t):=⟨d_call (c:=c) (hr:=hr) (hg:=hg) (ha:=ha.h) (hdb:=hdb) (he:=he) (hpl:=hpl)⟩
theorem dq {n m:Nat} {F:DSp} (c:Own X.prog X.w X.K X.mg X.base x n F) (hr:Room m X.A) (ha:AJ X (e::es) t) (hg:Gl X x:=by exact rfl) (le:n<=m:=by decide) (hdb:(x == ("__debug__":Str))=false:=by decide) (he:starEach (e::es) X.env=(false,eval e X.env)::starEach es X.env:=by exact star_cons rfl) (hpl:(backTo pos (starEach es X.env)).any (·.1)=false:=by exact star_any rfl):EJ X (.Call (.Name x p) (e::es) [] pos) (dCall F t):=d_callj c (hr.mono le) hg ha hdb he hpl
end
section
variable {X:Cx} {x:Str} {p pos:Pos} {e:Expr} {es:List Expr} {t:DA} {id T:String} {r:DSp}
theorem d_bitsj {o:Expr} {g:DE} {apos cpos:Pos} (ho:EJ X o g) (hbase:attributeBase o "bit_length" X.env (eval o X.env)=eval o X.env:=by rfl) (hline:(apos.endLine == cpos.line)=true:=by rfl):EJ X (.Call (.Attribute o "bit_length" apos) [] [] cpos) (dUn mBits g):=⟨d_bits (ho:=ho.h) (hbase:=hbase) (hline:=hline)⟩
end
section
variable {X:Cx} {st:Stmt} {rest:List Stmt} {g h:DS} {e:Expr} {ge:DE} {pos:Pos}
theorem ds_nilj:SsJ X [] dNext:=⟨ds_nil⟩
end
section
variable {X:Cx} {st:Stmt} {rest:List Stmt} {g h:DS} {e:Expr} {ge:DE} {pos:Pos}
theorem ds_consj (h1:SJ X st g) (h2:SsJ X rest h):SsJ X (st::rest) (dSeq g h):=⟨ds_cons (h1:=h1.h) (h2:=h2.h)⟩
end
section
variable {X:Cx} {st:Stmt} {rest:List Stmt} {g h:DS} {e:Expr} {ge:DE} {pos:Pos}
theorem ds_onej (h1:SJ X st g):SsJ X [st] g:=⟨ds_one (h1:=h1.h)⟩
end
section
variable {X:Cx} {st:Stmt} {rest:List Stmt} {g h:DS} {e:Expr} {ge:DE} {pos:Pos}
theorem dst_exprj (he:EJ X e ge) (hs:swapsWith e none pos.line X.env=pure false:=by rfl):SJ X (.Expr e pos) (dDrop ge):=⟨dst_expr (he:=he.h) (hs:=hs)⟩
end
section
variable {X:Cx} {st:Stmt} {rest:List Stmt} {g h:DS} {e:Expr} {ge:DE} {pos:Pos}
theorem dst_retj (he:EJ X e ge):SJ X (.Return (some e) pos) (dRet ge):=⟨dst_ret (he:=he.h)⟩
end
section
variable {X:Cx} {st:Stmt} {rest:List Stmt} {g h:DS} {e:Expr} {ge:DE} {pos:Pos}
theorem dst_ifj {c:Expr} {a b:List Stmt} {gc:DT} (hc:TJ X c gc) (ha:SsJ X a g) (hb:SsJ X b h):SJ X (.If c a b pos) (dIfS gc g h):=⟨dst_if (hc:=hc.h) (ha:=ha.h) (hb:=hb.h)⟩
end
section
variable {X:Cx} {st:Stmt} {rest:List Stmt} {g h:DS} {e:Expr} {ge:DE} {pos:Pos}
theorem dst_neverj:SJ X st dNever:=⟨dst_never⟩
end
section
variable {X:Cx} {st:Stmt} {rest:List Stmt} {g h:DS} {e:Expr} {ge:DE} {pos:Pos}
theorem ds_neverj {sts:List Stmt}:SsJ X sts dNever:=⟨ds_never⟩
end
section
variable {X:Cx} {st:Stmt} {rest:List Stmt} {g h:DS} {e:Expr} {ge:DE} {pos:Pos}
theorem dst_setj {i:Nat} {x:Str} {pos':Pos} (hN:X.N.Nodup) (he:EJ X e ge) (hi:X.N[i]?=some x:=by rfl) (hx:Loc X.env.scope x:=by first | exact Or.inl rfl | exact Or.inr rfl) (hs:swapsWith e (some (.Name x pos')) pos.line X.env=pure false:=by rfl) (hf:X.fn x=true\/X.env.scope.names.lookup x=some .local:=by first | exact .inl rfl | exact .inr rfl | assumption):SJ X (.Assign [.Name x pos'] e pos) (dSet i ge):=⟨dst_set (hN:=hN) (he:=he.h) (hi:=hi) (hx:=hx) (hs:=hs) (hf:=hf)⟩
end
section
variable {X:Cx} {st:Stmt} {rest:List Stmt} {g h:DS} {e:Expr} {ge:DE} {pos:Pos}
theorem dst_parj {i j:Nat} {x y:Str} {a b:Expr} {ta:DA} {px py pt:Pos} {kt k2 pt2} (hc:X.calm=true) (hN:X.N.Nodup) (hij:i≠j) (ha:AJ X [a,b] ta) (hi:X.N[i]?=some x:=by rfl) (hj:X.N[j]?=some y:=by rfl) (hx:X.env.scope.names.lookup x=some .local:=by rfl) (hy:X.env.scope.names.lookup y=some .local:=by rfl) (hw:swappedStores [.Tuple [.Name x px,.Name y py] kt pt] (.Tuple [a,b] k2 pt2) X.env=pure (some [x,y]):=by rfl) (hs:swapsWithSole [.Tuple [.Name x px,.Name y py] kt pt] (.Tuple [a,b] k2 pt2) pos.line X.env=pure false:=by rfl):SJ X (.Assign [.Tuple [.Name x px,.Name y py] kt pt] (.Tuple [a,b] k2 pt2) pos) (dPar i j ta):=⟨dst_par (hc:=hc) (hN:=hN) (hij:=hij) (ha:=ha.h) (hi:=hi) (hj:=hj) (hx:=hx) (hy:=hy) (hw:=hw) (hs:=hs)⟩
end
section
variable {X:Cx} {st:Stmt} {rest:List Stmt} {g h:DS} {e:Expr} {ge:DE} {pos:Pos}
theorem dg_namej {i:Nat} {x:Str} (hN:X.N.Nodup) (hi:X.N[i]?=some x:=by rfl) (hx:Loc X.env.scope x:=by first | exact Or.inl rfl | exact Or.inr rfl) (hf:X.fn x=true\/X.env.scope.names.lookup x=some .local:=by first | exact .inl rfl | exact .inr rfl | assumption):GJ X (.Name x pos) (dgName i):=⟨dg_name (hN:=hN) (hi:=hi) (hx:=hx) (hf:=hf)⟩
end
section
variable {X:Cx} {st:Stmt} {rest:List Stmt} {g h:DS} {e:Expr} {ge:DE} {pos:Pos}
theorem dgs_nilj:GsJ X [] dgNil:=⟨dgs_nil⟩
end
section
variable {X:Cx} {st:Stmt} {rest:List Stmt} {g h:DS} {e:Expr} {ge:DE} {pos:Pos}
theorem dgs_consj {es:List Expr} {t:DG} {u:DGs} (h1:GJ X e t) (h2:GsJ X es u) (hs:(assignEach (e::es) X.env).map (·.2)=assign e X.env::(assignEach es X.env).map (·.2):=by rfl):GsJ X (e::es) (dgCons t u):=⟨dgs_cons (h1:=h1.h) (h2:=h2.h) (hs:=hs)⟩
end
section
variable {X:Cx} {st:Stmt} {rest:List Stmt} {g h:DS} {e:Expr} {ge:DE} {pos:Pos}
theorem dst_asgj {tg e:Expr} {g:DG} (he:EJ X e ge) (hg:GJ X tg g) (hs:swapsWithSole [tg] e pos.line X.env=pure false:=by rfl) (hw:swappedStores [tg] e X.env=pure none:=by rfl) (h1:(assignEach [tg] X.env).map (·.2)=[assign tg X.env]:=by rfl):SJ X (.Assign [tg] e pos) (dAsg ge g):=⟨dst_asg (he:=he.h) (hg:=hg.h) (hs:=hs) (hw:=hw) (h1:=h1)⟩
end
section
variable {X:Cx} {st:Stmt} {rest:List Stmt} {g h:DS} {e:Expr} {ge:DE} {pos:Pos}
theorem dst_whilej {c:Expr} {body:List Stmt} {gc:DT} (hp:PassesOwn (model X.prog X.w) X.A X.env X.xe) (hc:TJ X c gc) (hb:SsJ X body g):SJ X (.While c body [] pos) (dWhile gc g):=⟨dst_while (hp:=hp) (hc:=hc.h) (hb:=hb.h)⟩
end
section
variable {X:Cx} {st:Stmt} {rest:List Stmt} {g h:DS} {e:Expr} {ge:DE} {pos:Pos}
theorem dst_forRj {tg a:Expr} {body:List Stmt} {ta:DA} {gg:DG} {p pos':Pos} (hp:PassesOwn (model X.prog X.w) X.A X.env X.xe) (hc:X.calm=true) (hgl:Gl X "range") (hm:X.mg "range"=none) (ha:AJ X [a] ta) (hg:GJ X tg gg) (hb:SsJ X body g) (hs1:starEach [a] X.env=[(false,eval a X.env)]:=by rfl) (hs:∀ x,foldedSetIterable (.Call (.Name "range" p) [a] [] pos') X.env x=pure x:=by intro _; rfl):SJ X (.For tg (.Call (.Name "range" p) [a] [] pos') body [] pos) (dForR ta gg g):=⟨dst_forR (hp:=hp) (hc:=hc) (hgl:=hgl) (hm:=hm) (ha:=ha.h) (hg:=hg.h) (hb:=hb.h) (hs1:=hs1) (hs:=hs)⟩
end
section
variable {P:Program} {w:World} {K:Fg} {mg:Str->Option Value} {base:Heap}
theorem _root_.L2.Fun.okJ {x qual:Str} {st:Stmt} {f:Addr} {fd:FuncData} {N ps:List Str} {k:Nat} {F:DSp} (Fn:Fun K x qual st f fd) (Sc:FnScope N ps (defScope st)) (len:∀ ds S k,F ds S k->ds.length=ps.length)
  (hbody:∀ (cdv:Value) (A:Around) (outer:List Env) (s:Shared) (H:Hp) (E:XK),Room k (A.deeper (envOfC qual (defScope st) s.heap.objs.size f cdv))->
   ∃ g,SsJ (cxOf CX0 P w K mg base N qual (defScope st) f cdv A outer s H E).nox (defBody st) g/\
    ∀ ds S k,F ds S k->g {nx:=fun _ S'=>k .non S',rt:=k} (ds.map some++List.replicate (N.length - ps.length) none) S):FnOk P w K mg base CX0 (k+1) f fd ps (spU K F):=
 Fn.okD Sc len fun cdv A outer s H E hr=>let ⟨g,h,q⟩:=hbody cdv A outer s H E hr; ⟨g,h.h,q⟩
end
end DL
namespace L2
open PySem PySem.Spec PyProof.Rows
section
variable {X:Cx} {pos:Pos}
def gLst (K:PySem.W.Frag) (n:Nat) (t:TGs):TG:=fun v σ H Q=>∃ a xs,v=.ref a/\SqL K H a xs/\xs.length=n/\t xs σ H Q
theorem pg_lst {es:List Expr} {k:Nat} {t:TGs} {n:Nat} (hc:X.calm=true) (h:PGs X es t)
  (hn:(assignEach es X.env).length=n:=by rfl) (hst:(assignEach es X.env).findIdx? (·.1)=none:=by rfl):PG X (.Tuple es k pos) (gLst X.K n t):=by
 intro pins s σ H v u Q I r hw
 obtain⟨a,xs,e1,hq,hl,hw⟩:=hw
 subst e1
 cases r
 obtain⟨its,rv,ht,hz⟩:=I.list hq
 have e2:(assignEach es X.env).length=its.toArray.size:=by simp [hn,<- hl,rv.length]
 rw [arm_assign_Tuple]
 refine wpAny_bind (wpAny_standAt ?_)
 unfold unpack
 rw [e2,hst]
 refine wpAny_bind (wpAny_holding (PySem.W.kun_itemsOf (I.ok.hd hc) ht.isList fun h' hx=>?_))
 have I1:Inv X pins σ H {s with heap:=h'}:=I.kept (t':=s.toks) fun b o e=>hx b o (Nat.ne_of_lt (Heap.lt_size e)) e
 exact h pins _ σ H xs _ Q I1 (by simpa using rv) hw
theorem PG.or {e:Expr} {t t':TG} (h:PG X e t) (h':PG X e t'):PG X e (fun v σ H Q=>t v σ H Q\/t' v σ H Q):=by
 intro pins s σ H v u Q I r q
 rcases q with q | q
 ·exact h pins s σ H v u Q I r q
 ·exact h' pins s σ H v u Q I r q
end
def CapOk (X:Cx) (scope:Scope):List (Option Nat)->List Str->Prop
 | some j::r,x::xs=>(X.N[j]?=some x/\(X.env.scope.names.lookup x=some .cell\/X.env.scope.names.lookup x=some .free)/\((relabel scope X.env).names.lookup x=some .cell\/(relabel scope X.env).names.lookup x=some .free))/\CapOk X scope r xs
 | none::r,_::xs=>CapOk X scope r xs
 | _,_=>True
theorem CapOk.get {X:Cx} {scope:Scope}:∀ {cap:List (Option Nat)} {N:List Str},CapOk X scope cap N->∀ (i j:Nat) (x:Str),cap[i]?=some (some j)->N[i]?=some x->
  X.N[j]?=some x/\(X.env.scope.names.lookup x=some .cell\/X.env.scope.names.lookup x=some .free)/\((relabel scope X.env).names.lookup x=some .cell\/(relabel scope X.env).names.lookup x=some .free)
 | [],_,_,_,_,_,h,_=>by simp at h
 | _::_,[],_,_,_,_,_,h=>by simp at h
 | some _::_,_::_,h,0,j,x,h1,h2=>by
  simp at h1 h2
  subst h1 h2
  exact h.1
 | none::_,_::_,_,0,j,x,h1,_=>by simp at h1
 | some _::_,_::_,h,i+1,j,x,h1,h2=>CapOk.get h.2 i j x (by simpa using h1) (by simpa using h2)
 | none::r,_::xs,h,i+1,j,x,h1,h2=>CapOk.get (show CapOk X scope r xs from h) i j x (by simpa using h1) (by simpa using h2)
def SubOk (X:Cx):List (Str×Addr)->Prop
 | []=>True
 | p::r=>X.env.cells.lookup p.1=some p.2/\SubOk X r
theorem SubOk.mem {X:Cx}:∀ {cl:List (Str×Addr)},SubOk X cl->∀ p∈cl,X.env.cells.lookup p.1=some p.2
 | [],_,p,hp=>by simp at hp
 | q::r,h,p,hp=>by
  rcases List.mem_cons.mp hp with e | e
  ·subst e; exact h.1
  ·exact SubOk.mem h.2 p e
theorem compSc {X:Cx} {scope:Scope} {cl:List (Str×Addr)} {N:List Str} {cap:List (Option Nat)} (h1:scope.kind=.function) (h2:closureFor scope X.env=pure cl) (h3:(scope.names.all fun y=>y.2 != NameKind.cell)=true)
  (h4:(scope.names.all fun y=>y.2 != NameKind.local || scope.names.lookup y.1 == some NameKind.local)=true) (h5:SubOk X cl)
  (h6:((relabel scope X.env).names.all fun y=>(y.2 != NameKind.cell && y.2 != NameKind.free) || (cl.lookup y.1).isSome)=true) (h7:cap.length=N.length) (h8:CapOk X scope cap N):CompSc X scope cl N cap:=⟨h1,h2,h3,h4,h5.mem,h6,h7,h8.get⟩
end L2
namespace DL
open PySem PySem.Spec PyProof.Rows L2
section
variable {X:Cx} {pos:Pos}
def dgSeq (n:Nat) (t:DGs):DG:=fun d L S k=>match dItems S d with
 | some p=>p.1.length=n/\t p.1 L S k
 | none=>False
theorem dg_seq {es:List Expr} {k:Nat} {t:DGs} {n:Nat} (hc:X.calm=true) (h:GsJ X es t) (hn:(assignEach es X.env).length=n:=by rfl) (hst:(assignEach es X.env).findIdx? (·.1)=none:=by rfl):GJ X (.Tuple es k pos) (dgSeq n t):=
 ⟨PG.imp (PG.or (pg_tup hc h.h hn hst) (pg_lst hc h.h hn hst)) fun v σ H Q ⟨d,L,S,k,i1,hL,hS,h,m⟩=>by
  cases d with
  | tup ds=>
   obtain⟨a,xs,rfl,t1,j⟩:=isTup.mp i1
   exact .inl ⟨a,xs,rfl,t1,by rw [<- j.length]; exact h.1,ds,L,S,k,j,hL,hS,h.2,m⟩
  | rl ds=>
   obtain⟨a,xs,rfl,t1,j⟩:=isRl.mp i1
   exact .inr ⟨a,xs,rfl,t1.sq,by rw [<- j.length]; exact h.1,ds,L,S,k,j,hL,hS,h.2,m⟩
  | ref a=>
   have e1:=isRef.mp i1
   subst e1
   cases z:S a with
   | none=>simp only [dgSeq,dItems,z] at h
   | some o=>
    cases o with
    | dic=>simp only [dgSeq,dItems,z] at h
    | exc _=>simp only [dgSeq,dItems,z] at h
    | fn _=>simp only [dgSeq,dItems,z] at h
    | tbl _=>simp only [dgSeq,dItems,z] at h
    | gen _=>simp only [dgSeq,dItems,z] at h
    | lst ds=>
     simp only [dgSeq,dItems,z] at h
     obtain⟨xs,hl,j⟩:=hS.lst z
     exact .inr ⟨a,xs,rfl,SqL.of hl,by rw [<- j.length]; exact h.1,ds,L,S,k,j,hL,hS,h.2,m⟩
  | _=>exact(show False from h).elim⟩
end
def capL (cap:List (Option Nat)) (L:Lo):Lo:=cap.map fun o=>match o with
 | some j=>(L[j]?).join
 | none=>none
theorem Lc.cap {K:Fg} {H:Hp} {L:Lo} {σ:L2.St} (hL:Lc K H L σ):∀ cap:List (Option Nat),Lc K H (capL cap L) (capSt cap σ)
 | []=>rfl
 | Option.none::r=>⟨_,_,rfl,Lc.cap hL r⟩
 | Option.some j::r=>by
  show Lc K H ((L[j]?).join::capL r L) ((σ[j]?).join::capSt r σ)
  cases e:L[j]? with
  | none=>exact⟨_,_,rfl,Lc.cap hL r⟩
  | some o=>
   cases o with
   | none=>exact⟨_,_,rfl,Lc.cap hL r⟩
   | some d=>
    obtain⟨v,e1,e2⟩:=hL.get e
    rw [e1]
    exact⟨v,_,rfl,e2,Lc.cap hL r⟩
abbrev DB:=Lo->DH->(Option D->DH->Prop)->Prop
def bdAll (ge:DE):DB:=fun L S k=>ge L S fun v S1=>k (some v) S1
def dCLoop (ok:DH->Prop) (p:Addr) (g:DG) (bd:DB) (k:DK):List D->List D->Lo->DH->Prop
 | [],_,_,S=>ok S/\k (.ref p) S
 | d::r,acc,L,S=>ok S/\g d L S fun L1 S1=>bd L1 S1 fun o S2=>match o with
  | some v=>S2 p=some (.lst acc)/\acc.length < sizeLine/\dCLoop ok p g bd k r (acc++[v]) L1 (put S2 p (.lst (acc++[v])))
  | none=>dCLoop ok p g bd k r acc L1 S2
def dCompR (cap:List (Option Nat)) (ta:DA) (g:DG) (bd:DB):DE:=fun L S k=>ta L S fun ds S1=>match ds with
 | [.int n]=>(-(2 ^ 62)<=n/\n < 2 ^ 62)/\∀ p,S1 p=none->dCLoop (fun _=>True) p g bd k ((List.range n.toNat).map fun i=>D.int (i:Nat)) [] (capL cap L) (put S1 p (.lst []))
 | _=>False
section
variable {K:Fg} {ok:DH->Prop} {gg:DG} {ge:DE} {gc:DT} {k:DK} {ds:List D} {L:Lo} {S:DH} {σ:L2.St} {H:Hp} {J:It} {Q:VK} {p:Addr}
theorem comp_core (hL:Lc K H L σ) (hS:Hs K H S) (hp:H p=none) (h:dCLoop ok p gg (bdAll ge) k ds [] L (put S p (.lst [])))
  (n:∀ d S' v H',k d S'->Kp H H'->Hs K H' S'->IsD K H' d v->Q v H')
  (hgo:∀ i d S1 H1,ds[i]?=some d->Kp H H1->Hs K H1 S1->ok S1->J.go i H1/\∀ x H',J.yld i H1 x H'->H'=H1/\IsD K H1 d x)
  (hst:∀ S1 H1,Kp H H1->Hs K H1 S1->ok S1->J.stop ds.length H1):
  ∃ W:Nat->Nat->L2.St->Hp->Prop,(∃ m,W 0 m σ (upd H p (.lst [])))/\∀ i m σ' H',W i m σ' H'->
   (J.stop i H'/\Q (.ref p) H')\/(J.go i H'/\∃ N:L2.St->Hp->Prop,(∀ σ2 H2,N σ2 H2->∃ m',m' < m/\W (i+1) m' σ2 H2)/\∀ x H2,J.yld i H' x H2->upG K gg x σ' H2 fun σ3 H3=>up K ge σ3 H3 fun v H4=>∃ ys,H4 p=some (.lst ys)/\ys.length < sizeLine/\N σ3 (upd H4 p (.lst (ys++[v])))):=by
 refine⟨fun i m σ1 H1=>m=ds.length - i/\i<=ds.length/\∃ acc L1 S1,Lc K H1 L1 σ1/\Hs K H1 S1/\Kp H H1/\dCLoop ok p gg (bdAll ge) k (ds.drop i) acc L1 S1,⟨ds.length,by simp,Nat.zero_le _,[],L,_,hL.kp (Kp.new hp),hS.newL hp IsDs.nil,Kp.new hp,h⟩,?_⟩
 rintro i m σ1 H1 ⟨rfl,hi,acc,L1,S1,hL1,hS1,k1,w1⟩
 by_cases hlt:i < ds.length
 ·have e:ds.drop i=ds[i]::ds.drop (i+1):=List.drop_eq_getElem_cons hlt
  rw [e] at w1
  obtain⟨o1,w1⟩:=w1
  obtain⟨g1,y1⟩:=hgo i ds[i] S1 H1 (by simp [hlt]) k1 hS1 o1
  refine .inr ⟨g1,fun σ' H'=>i+1<=ds.length/\∃ acc L' S',Lc K H' L' σ'/\Hs K H' S'/\Kp H H'/\dCLoop ok p gg (bdAll ge) k (ds.drop (i+1)) acc L' S',fun σ' H' ⟨q1,q2⟩=>⟨ds.length - (i+1),by omega,rfl,q1,q2⟩,fun x H' y=>?_⟩
  obtain⟨rfl,ix⟩:=y1 x H' y
  refine⟨ds[i],L1,S1,_,ix,hL1,hS1,w1,fun L2 S2 σ2 H2 q k2 hL2 hS2=>up.go hL2 hS2 q fun d S3 v H3 h3 k3 hL3 hS3 i3=>?_⟩
  obtain⟨z1,z2,z3⟩:=h3
  obtain⟨xs,hl,j⟩:=hS3.lst z1
  have k4:Kp H3 (upd H3 p (.lst (xs++[v]))):=Kp.mut hl (fun z=>z)
  exact⟨xs,hl,by rw [<- j.length]; exact z2,hlt,_,L2,_,hL3.kp k4,hS3.setL hl (j.append (IsDs.cons i3 IsDs.nil)),((k1.trans k2).trans k3).trans k4,z3⟩
 ·have e:i=ds.length:=by omega
  subst e
  rw [List.drop_length] at w1
  obtain⟨o1,w1⟩:=w1
  exact .inl ⟨hst S1 H1 k1 hS1 o1,n _ S1 _ H1 w1 k1 hS1 (isRef.mpr rfl)⟩
end
theorem range_go {K:Fg} {H:Hp} {n:Int}:∀ i d (S1:DH) H1,((List.range n.toNat).map fun i=>D.int (i:Nat))[i]?=some d->Kp H H1->Hs K H1 S1->(fun _=>True:DH->Prop) S1->(Itr 0 n.toNat).go i H1/\∀ x H',(Itr 0 n.toNat).yld i H1 x H'->H'=H1/\IsD K H1 d x:=by
 intro i d S1 H1 e _ _ _
 rw [List.getElem?_map] at e
 cases q:(List.range (Int.toNat _))[i]? with
 | none=>rw [q] at e; cases e
 | some z=>
  rw [q] at e
  cases e
  obtain⟨hz1,hz2⟩:=List.getElem?_eq_some_iff.mp q
  rw [List.length_range] at hz1
  rw [List.getElem_range] at hz2
  subst hz2
  exact⟨hz1,fun x H' y=>⟨y.1,by rw [y.2]; exact isInt.mpr (by rw [Int.zero_add])⟩⟩
section
variable {X:Cx} {elt tg iter c a:Expr} {scope:Scope} {cl:List (Str×Addr)} {N:List Str} {cap:List (Option Nat)} {pos p pos':Pos} {gg:DG} {ge gi:DE} {gc:DT} {ta:DA}
theorem d_compRj (hc:X.calm=true) (Sc:CompSc X scope cl N cap) (hgl:Gl X "range") (hm:X.mg "range"=none) (ha:AJ X [a] ta) (hg:∀ s0 H0 ex C,GJ (cxC X scope cl N s0 H0 ex C) tg gg) (he:∀ s0 H0 ex C,EJ (cxC X scope cl N s0 H0 ex C) elt ge)
  (hs1:starEach [a] X.env=[(false,eval a X.env)]:=by exact star_cons rfl) (hs:∀ x,foldedSetIterable (.Call (.Name "range" p) [a] [] pos') X.env x=pure x:=by intro _; rfl):
  EJ X (.ListComp elt [⟨tg,.Call (.Name "range" p) [a] [] pos',[],0⟩] scope pos) (dCompR cap ta gg (bdAll ge)):=
 ⟨PE.imp (pe_comp hc Sc (pi_range1 hgl hm ha.h hs1) (fun s0 H0 ex C=>(hg s0 H0 ex C).h) (fun s0 H0 ex C=>(he s0 H0 ex C).h) hs) fun σ H Q ⟨L,S,k,hL,hS,h,n⟩=>upA.go hL hS h fun ds S1 vs H1 h1 k1 hL1 hS1 i1=>by
  split at h1
  ·obtain⟨v,rfl,j⟩:=isDs1 i1
   have e:=isInt.mp j
   subst e
   obtain⟨⟨h2,h3⟩,h1⟩:=h1
   refine⟨_,rfl,h2,h3,fun D hD=>comp_core (hL1.cap cap) hS1 hD (h1 D (hS1.free hD)) (fun d S' v H' q k3=>n d S' v H' q (k1.trans k3)) range_go fun S2 H2 k2 hS2 _=>?_⟩
   rw [List.length_map,List.length_range]
   exact Nat.le_refl _
  ·exact h1.elim⟩
end
def GTup (K:Fg) (mg:Str->Option Value) (x:Str) (ns:List Int):Prop:=∃ p o its n,mg x=some (.ref p)/\K.lookup p=some o/\o.cls=.type "tuple"/\o.data=.seq its n/\its.size<=sizeLine/\Vals (ns.map V.int) its.toList
theorem isDs_ints {K:Fg} {H:Hp}:∀ ns:List Int,IsDs K H (ns.map D.int) (ns.map V.int)
 | []=>IsDs.nil
 | _::ns=>IsDs.cons (isInt.mpr rfl) (isDs_ints ns)
theorem d_gtup {X:Cx} {x:Str} {ns:List Int} {pos:Pos} (g:GTup X.K X.mg x ns) (hg:Gl X x) (hd:(x == ("__debug__":Str))=false:=by decide):EJ X (.Name x pos) (dC (.tup (ns.map D.int))):=by
 obtain⟨p,o,its,n,hm,h1,h2,h3,h4,h5⟩:=g
 exact⟨d_c (pe_glob (v:=.ref p) hg hm rfl hd) fun H=>isTup.mpr ⟨p,_,rfl,.inr ⟨o,its,n,h1,h2,h3,h4,h5⟩,isDs_ints ns⟩⟩
theorem upR.imp {K:Fg} {r r':D2} (i:∀ d e S k,r' d e S k->r d e S k):∀ x y H Q,upR K r' x y H Q->upR K r x y H Q:=fun x y H Q ⟨d,e,S,k,a,b,c,h,n⟩=>⟨d,e,S,k,a,b,c,i d e S k h,n⟩
theorem upC.imp {K:Fg} {r r':DSp} (i:∀ ds S k,r' ds S k->r ds S k):∀ xs H Q,upC K r' xs H Q->upC K r xs H Q:=fun xs H Q ⟨ds,S,k,a,b,h,n⟩=>⟨ds,S,k,a,b,i ds S k h,n⟩
theorem IxR.imp {X:Cx} {r r':R2} (h:IxR X r) (i:∀ x y H Q,r' x y H Q->r x y H Q):IxR X r':=fun value slice pins s σ H x y v u Q I rx ry q=>h value slice pins s σ H x y v u Q I rx ry (i x y H Q q)
theorem CallR.imp {X:Cx} {f:Value} {r r':List V->Hp->VK->Prop} (h:CallR X f r) (i:∀ xs H Q,r' xs H Q->r xs H Q):CallR X f r':=fun pins s σ H xs us Q I rs q=>h pins s σ H xs us Q I rs (i xs H Q q)
def dIxE:D2:=fun d e S k=>match d,e with
 | .tup ds,.int i=>(match L2.atI ds i with
  | some c=>k c S
  | none=>False)
 | .rl ds,.int i=>∃ c,L2.atI ds i=some c/\k c S
 | .ref a,.int i=>∃ ds c,S a=some (.lst ds)/\L2.atI ds i=some c/\k c S
 | _,_=>False
theorem x_ixE {X:Cx}:IxR X (upR X.K dIxE):=IxR.imp x_ix (upR.imp fun d e S k h=>by
 unfold dIxE at h
 split at h
 ·exact h
 ·obtain⟨c,h1,h2⟩:=h
  simp only [dIx,h1]
  exact h2
 ·obtain⟨ds,c,h0,h1,h2⟩:=h
  simp only [dIx,h0,h1]
  exact h2
 ·exact h.elim)
def bLenE:DSp:=fun ds S k=>match ds with
 | [.tup xs]=>k (.int xs.length) S
 | [.rl xs]=>k (.int xs.length) S
 | [.ref a]=>∃ xs,S a=some (.lst xs)/\k (.int xs.length) S
 | _=>False
theorem b_lenE {X:Cx}:CallR X (.builtin "len") (upC X.K bLenE):=CallR.imp b_len (upC.imp fun ds S k h=>by
 unfold bLenE at h
 split at h
 ·exact h
 ·exact h
 ·obtain⟨xs,h1,h2⟩:=h
  simp only [bLen,h1]
  exact h2
 ·exact h.elim)
def dForE (gi:DE) (g:DG) (b:DS):DS:=fun M L S=>gi L S fun d S1=>∃ p,dItems S1 d=some p/\dLoop (okFor p) g b M p.1 L S1
def dgSeqE (n:Nat) (t:DGs):DG:=fun d L S k=>∃ p,dItems S d=some p/\p.1.length=n/\t p.1 L S k
theorem GJ.imp {X:Cx} {e:Expr} {g g':DG} (h:GJ X e g) (i:∀ d L S k,g' d L S k->g d L S k):GJ X e g':=⟨PG.imp h.h fun v σ H Q ⟨d,L,S,k,a,hL,hS,q,n⟩=>⟨d,L,S,k,a,hL,hS,i d L S k q,n⟩⟩
theorem dg_seqE {X:Cx} {pos:Pos} {es:List Expr} {k:Nat} {t:DGs} {n:Nat} (hc:X.calm=true) (h:GsJ X es t) (hn:(assignEach es X.env).length=n:=by rfl) (hst:(assignEach es X.env).findIdx? (·.1)=none:=by rfl):GJ X (.Tuple es k pos) (dgSeqE n t):=
 GJ.imp (dg_seq hc h hn hst) fun d L S k ⟨p,h1,h2⟩=>by
  simp only [dgSeq,h1]
  exact h2
section
variable {X:Cx} {pos:Pos}
def dgSubE (go gi:DE):DG:=fun d L S k=>go L S fun o S1=>gi L S1 fun i S2=>match o,i with
 | .ref a,.int j=>∃ ds n,S2 a=some (.lst ds)/\ixN ds.length j=some n/\k L (put S2 a (.lst (ds.set n d)))
 | _,_=>False
theorem dg_subE {o i:Expr} {go gi:DE} (ho:EJ X o go) (hi:EJ X i gi)
  (ha:∀ v,assign (.Subscript o i pos) X.env v=(do
   let ov <- holding [v] (eval o X.env)
   let iv <- holding [v,ov] (eval i X.env)
   standAt pos
   holding [v,ov,iv] (setItem ov iv v)
   release [v,ov,iv] []):=by intro _; rfl):GJ X (.Subscript o i pos) (dgSubE go gi):=
 ⟨PG.imp (pg_sub ho.h hi.h set_list ha) fun v σ H Q ⟨d,L,S,k,i1,hL,hS,h,n⟩=>up.go hL hS h fun c S1 u H1 h1 k1 hL1 hS1 j1=>up.go hL1 hS1 h1 fun c2 S2 u2 H2 h2 k2 hL2 hS2 j2=>by
  cases c with
  | ref a=>
   cases c2 with
   | int z=>
    have e1:=isRef.mp j1
    have e2:=isInt.mp j2
    subst e1
    subst e2
    obtain⟨ds,m,w,q,h2⟩:=h2
    obtain⟨vs,hl,j⟩:=hS2.lst w
    refine⟨a,vs,z,m,rfl,rfl,hl,by rw [<- j.length]; exact q,?_⟩
    have k3:Kp H2 (upd H2 a (.lst (vs.set m v))):=Kp.mut hl (fun z=>z)
    exact n L _ σ _ h2 (k1.trans (k2.trans k3)) (hL2.kp k3) (hS2.setL hl (j.set m (i1.kp (k1.trans k2))))
   | _=>exact(show False from h2).elim
  | _=>exact(show False from h2).elim⟩
theorem seq_go {K:Fg} {S1:DH} {H1:Hp} {d:D} {v:V} {p:List D×Option Addr} (hS1:Hs K H1 S1) (i1:IsD K H1 d v) (hp:dItems S1 d=some p):∃ a,v=.ref a/\
  (((∃ xs, SqL K H1 a xs) ∧ (∀ i c S2 H2, p.1[i]? = some c → Kp H1 H2 → Hs K H2 S2 → okFor p S2 → (Itl K a).go i H2 ∧ ∀ x H', (Itl K a).yld i H2 x H' → H' = H2 ∧ IsD K H2 c x) ∧ ∀ S2 H2, Kp H1 H2 → Hs K H2 S2 → okFor p S2 → (Itl K a).stop p.1.length H2) ∨
   ((∃ xs,SqT K H1 a xs)/\(∀ i c S2 H2,p.1[i]?=some c->Kp H1 H2->Hs K H2 S2->okFor p S2->(Itt K a).go i H2/\∀ x H',(Itt K a).yld i H2 x H'->H'=H2/\IsD K H2 c x)/\∀ S2 H2,Kp H1 H2->Hs K H2 S2->okFor p S2->(Itt K a).stop p.1.length H2)):=by
 cases d with
 | tup ds=>
  cases hp
  obtain⟨a,xs,rfl,t,j⟩:=isTup.mp i1
  refine⟨a,rfl,.inr ⟨⟨xs,t⟩,fun i d S2 H2 e k2 hS2 _=>?_,fun S2 H2 k2 hS2 _=>⟨xs,k2.tup t,by rw [<- j.length]; exact Nat.le_refl _⟩⟩⟩
  obtain⟨w,e1,e2⟩:=j.get e
  refine⟨⟨xs,w,k2.tup t,e1⟩,fun x H' y=>⟨y.1,?_⟩⟩
  have z:=y.2 xs (k2.tup t)
  rw [e1] at z
  cases z
  exact e2.kp k2
 | rl ds=>
  cases hp
  obtain⟨a,xs,rfl,t,j⟩:=isRl.mp i1
  refine⟨a,rfl,.inl ⟨⟨xs,t.sq⟩,fun i d S2 H2 e k2 hS2 _=>?_,fun S2 H2 k2 hS2 _=>⟨xs,(k2.fro t).sq,by rw [<- j.length]; exact Nat.le_refl _⟩⟩⟩
  obtain⟨w,e1,e2⟩:=j.get e
  refine⟨⟨xs,w,(k2.fro t).sq,e1⟩,fun x H' y=>⟨y.1,?_⟩⟩
  have z:=y.2 xs (k2.fro t).sq
  rw [e1] at z
  cases z
  exact e2.kp k2
 | ref a=>
  have e1:=isRef.mp i1
  subst e1
  cases z:S1 a with
  | none=>simp only [dItems,z] at hp; cases hp
  | some o=>
   cases o with
   | dic=>simp only [dItems,z] at hp; cases hp
   | exc _=>simp only [dItems,z] at hp; cases hp
   | fn _=>simp only [dItems,z] at hp; cases hp
   | tbl _=>simp only [dItems,z] at hp; cases hp
   | gen _=>simp only [dItems,z] at hp; cases hp
   | lst ds=>
    simp only [dItems,z] at hp
    cases hp
    obtain⟨xs,hl,j⟩:=hS1.lst z
    refine⟨a,rfl,.inl ⟨⟨xs,SqL.of hl⟩,fun i d S2 H2 e k2 hS2 o2=>?_,fun S2 H2 k2 hS2 o2=>?_⟩⟩
    ·obtain⟨ys,hl2,j2⟩:=hS2.lst o2
     obtain⟨w,e1,e2⟩:=j2.get e
     refine⟨⟨ys,w,SqL.of hl2,e1⟩,fun x H' y=>⟨y.1,?_⟩⟩
     have q:=y.2 ys (SqL.of hl2)
     rw [e1] at q
     cases q
     exact e2
    ·obtain⟨ys,hl2,j2⟩:=hS2.lst o2
     exact⟨ys,SqL.of hl2,by rw [<- j2.length]; exact Nat.le_refl _⟩
 | _=>cases hp
theorem dst_forEj {tg iter:Expr} {body:List Stmt} {gi:DE} {gg:DG} {g:DS} (hp:PassesOwn (model X.prog X.w) X.A X.env X.xe) (hc:X.calm=true) (hi:EJ X iter gi) (hg:GJ X tg gg) (hb:SsJ X body g)
  (hs:∀ x,foldedSetIterable iter X.env x=pure x:=by intro _; rfl):SJ X (.For tg iter body [] pos) (dForE gi gg g):=
 ⟨PS.imp (ps_for hp hc (pi_seq hi.h) hg.h hb.h hs) fun N σ H ⟨L,S,M,hL,hS,h,r⟩=>up.go hL hS h fun d S1 v H1 h1 k1 hL1 hS1 i1=>by
  obtain⟨p,hp,h1⟩:=h1
  obtain⟨a,e,q⟩:=seq_go hS1 i1 hp
  refine⟨a,e,?_⟩
  rcases q with ⟨q1,q2,q3⟩ | ⟨q1,q2,q3⟩
  ·exact .inl ⟨q1,for_core hL1 hS1 h1 (r.kp k1) q2 q3⟩
  ·exact .inr ⟨q1,for_core hL1 hS1 h1 (r.kp k1) q2 q3⟩⟩
end
end DL
namespace L2
open PySem PySem.Spec PyProof.Rows
structure Hands (P:Program) (w:World) (it l:Addr) (st:Nat->Heap->Prop) (sq:Array Value->Heap->Prop):Prop where
 at_:∀ k h h',st k h->(∀ o,h.get? it=some o->h'.get? it=some o)->st k h'
 sqAt:∀ xs h h',sq xs h->(∀ o,h.get? l=some o->h'.get? l=some o)->sq xs h'
 obj:∀ k h,st k h->∃ o,h.get? it=some o/\∀ v,o.data≠.cell v
 item:∀ (A:Around) (k:Nat) (s:Shared) (xs:Array Value) (x:Value) (Q:Value->Shared->Prop) (E:Value->Shared->Prop),st k s.heap->sq xs s.heap->xs[k]?=some x->
  (∀ h',st (k+1) h'->Heap.SameBut it s.heap h'->Q x {s with heap:=h'})->wpAny (model P w) A (Builtin.SmallTypes.nextOf (.ref it)) Q E s
 fin:∀ (A:Around) (k:Nat) (s:Shared) (xs:Array Value) (Q:Value->Shared->Prop) (E:Value->Shared->Prop),A.handled=none->st k s.heap->sq xs s.heap->xs[k]?=none->
  (∀ h' e,Heap.ExtBut it s.heap h'->(∃ o,h'.get? e=some o/\o.cls=.type "StopIteration")->E (.ref e) {s with heap:=h'})->wpAny (model P w) A (Builtin.SmallTypes.nextOf (.ref it)) Q E s
theorem Hands.list {P:Program} {w:World} (it l:Addr):Hands P w it l (fun k h=>h.IsListIter it l k) (fun xs h=>h.IsList l xs) where
 at_:=fun _ _ _ x y=>x.at y
 sqAt:=fun _ _ _ x y=>x.at y
 obj:=fun _ _ ⟨o,e,_,d⟩=>⟨o,e,fun v z=>by rw [d] at z; cases z⟩
 item:=fun _ _ _ _ _ _ _ a b c d=>wpAny_nextOf_list_item a b c d
 fin:=fun _ _ _ _ _ _ hh a b c d=>wpAny_nextOf_list_end hh a b c d
section
variable {prog:Program} {w:World} {A:Around} {E:Value->Shared->Prop} {s:Shared}
theorem nextOf_tuple_item {it t:Addr} {i:Nat} {items} {x:Value} {Q:Value->Shared->Prop} (hit:s.heap.IsTupleIter it t i) (ht:s.heap.IsTuple t items) (hx:items[i]?=some x)
  (hQ:∀ h',h'.IsTupleIter it t (i+1)->Heap.SameBut it s.heap h'->Q x {s with heap:=h'}):wpAny (model prog w) A (Builtin.SmallTypes.nextOf (.ref it)) Q E s:=by
 obtain⟨o,ho,hc,hd⟩:=id hit
 obtain⟨ol,hol,_,nl,hdl⟩:=ht
 unfold Builtin.SmallTypes.nextOf
 refine wpAny_bind (wpAny_callSpecial?_slot (name:=Str.ofString "__next__") hit.typeIs F.slot_tuple_iterator_next (wpAny_call_entry F.slot_tuple_iterator_next hit.typeIs F.entry_tuple_iterator_next ?_ (F.args_tuple_iterator_next_1 _)))
 refine wpAny_bind (m:=field (.ref it) 0) (wpAny_field ho hd (x:=.ref t) rfl ?_)
 show wpAny _ _ (if (Value.ref t == Value.none)=true then _ else _) _ _ s
 rw [if_neg (show ¬ ((Value.ref t == Value.none)=true) from Bool.false_ne_true)]
 refine wpAny_bind (m:=field (.ref it) 1) (wpAny_field ho hd (x:=.int i 0) rfl ?_)
 refine wpAny_bind (m:=seqItems? (.ref t)) (wpAny_seqItems hol hdl ?_)
 simp only [Int.toNat_natCast,hx]
 refine wpAny_bind (wpAny_setField ho hd (by simp) (wpAny_pure ⟨x,rfl,wpAny_pure (hQ _ ⟨_,Heap.get?_update_self _ ho (Obj.isFreed_of_fields (Obj.data_mapFields hd _)),(Obj.cls_mapFields ..).trans hc,?_⟩ (Heap.SameBut.update ..))⟩))
 rw [Obj.data_mapFields hd]
 simp [rawInt]
theorem nextOf_tuple_end {it t:Addr} {i:Nat} {items} {Q:Value->Shared->Prop} (hh:A.handled=none) (hit:s.heap.IsTupleIter it t i) (ht:s.heap.IsTuple t items) (hx:items[i]?=none)
  (hE:∀ h' e,Heap.ExtBut it s.heap h'->(∃ o,h'.get? e=some o/\o.cls=.type "StopIteration")->E (.ref e) {s with heap:=h'}):wpAny (model prog w) A (Builtin.SmallTypes.nextOf (.ref it)) Q E s:=by
 obtain⟨o,ho,hc,hd⟩:=id hit
 obtain⟨ol,hol,_,nl,hdl⟩:=ht
 unfold Builtin.SmallTypes.nextOf
 refine wpAny_bind (wpAny_callSpecial?_slot (name:=Str.ofString "__next__") hit.typeIs F.slot_tuple_iterator_next (wpAny_call_entry F.slot_tuple_iterator_next hit.typeIs F.entry_tuple_iterator_next ?_ (F.args_tuple_iterator_next_1 _)))
 refine wpAny_bind (m:=field (.ref it) 0) (wpAny_field ho hd (x:=.ref t) rfl ?_)
 show wpAny _ _ (if (Value.ref t == Value.none)=true then _ else _) _ _ s
 rw [if_neg (show ¬ ((Value.ref t == Value.none)=true) from Bool.false_ne_true)]
 refine wpAny_bind (m:=field (.ref it) 1) (wpAny_field ho hd (x:=.int i 0) rfl ?_)
 refine wpAny_bind (m:=seqItems? (.ref t)) (wpAny_seqItems hol hdl ?_)
 simp only [Int.toNat_natCast,hx]
 refine wpAny_bind (wpAny_rule (wpAny_bind (wpAny_setField ho hd (by simp) ?_)))
 refine wpAny_bind (m:=newExc (.type "StopIteration") []) ?_
 simp only [newExc,newTuple]
 refine wpAny_bind (wpAny_newObj_type ?_ (by size_fits))
 refine wpAny_bind (m:=firstArgMember _ _) (wpAny_of_eq (a:=Value.none) (by first | rfl | (simp only [firstArgMember]; rfl)) ?_)
 refine wpAny_newObj_type ?_ (by size_fits)
 simp only [raiseNew]
 refine wpAny_bind (wpAny_handled ?_)
 first | rw [show A.in1.handled=none from hh] | rw [hh]
 exact wpAny_bind (wpAny_pure (wpAny_throw (hE _ _ (((Heap.SameBut.update ..).extBut.push _).push _) ⟨_,Heap.get?_push_size _ rfl,rfl⟩)))
end
theorem Hands.tuple {P:Program} {w:World} (it l:Addr):Hands P w it l (fun k h=>h.IsTupleIter it l k) (fun xs h=>h.IsTuple l xs) where
 at_:=fun _ _ _ x y=>x.at y
 sqAt:=fun _ _ _ x y=>x.at y
 obj:=fun _ _ ⟨o,e,_,d⟩=>⟨o,e,fun v z=>by rw [d] at z; cases z⟩
 item:=fun _ _ _ _ _ _ _ a b c d=>nextOf_tuple_item a b c d
 fin:=fun _ _ _ _ _ _ hh a b c d=>nextOf_tuple_end hh a b c d
section
variable {prog:Program} {w:World} {A:Around} {E:Value->Shared->Prop} {s:Shared} {z TI TO i1 i2 l1 l2:Addr} {st1 st2:Nat->Heap->Prop} {sq1 sq2:Array Value->Heap->Prop} {k1 k2:Nat} {xs ys:Array Value} {x y a b:Value}
theorem zip_item {Q:Value->Shared->Prop} (G1:Hands prog w i1 l1 st1 sq1) (G2:Hands prog w i2 l2 st2 sq2) (D:ZipApart z TI TO i1 i2 l1 l2) (hz:IsZip s.heap z TI TO .none) (hTI:IsPair s.heap TI (.ref i1) (.ref i2)) (hTO:IsPair s.heap TO a b)
  (h1:st1 k1 s.heap) (h2:st2 k2 s.heap) (hl1:sq1 xs s.heap) (hl2:sq2 ys s.heap) (hx:xs[k1]?=some x) (hy:ys[k2]?=some y)
  (hQ:∀ h',IsZip h' z TI TO (rawInt s.heap.objs.size)->IsPair h' TO x y->st1 (k1+1) h'->st2 (k2+1) h'->IsPair h' s.heap.objs.size x y->h'.objs.size=s.heap.objs.size+1->
   (∀ c o,c≠z->c≠TO->c≠i1->c≠i2->s.heap.get? c=some o->h'.get? c=some o)->Q (.ref s.heap.objs.size) {s with heap:=h'}):
  wpAny (model prog w) A (Builtin.«zip.__next__» ⟨[.ref z],[]⟩) (fun fin s'=>∃ v,fin=.done (.ret v)/\Q v s') E s:=by
 refine wpAny_bind (m:=field (.ref z) 2) (wpAny_field hz rfl (x:=.bool false) rfl ?_)
 refine wpAny_bind (m:=field (.ref z) 3) (wpAny_field hz rfl (x:=.ref TI) rfl ?_)
 refine wpAny_bind (wpAny_seqItems hTI rfl ?_)
 refine wpAny_bind (m:=Builtin.SmallTypes.ownedTupleIsFree (.ref z)) ?_
 unfold Builtin.SmallTypes.ownedTupleIsFree
 refine wpAny_bind (wpAny_field hz rfl (x:=.none) rfl (wpAny_pure ?_))
 simp only [if_true]
 refine wpAny_bind (wpAny_rule ?_)
 refine wpAny_bind (wpAny_field hz rfl (x:=.ref TO) rfl ?_)
 refine wpAny_bind (wpAny_setField_rec hz (by simp) fun g1 z1 e1=>?_)
 replace z1:IsZip g1 z TI TO .ellipsis:=z1
 refine wpAny_bind ?_
 simp only [List.zipIdx_cons,List.zipIdx_nil,List.forIn_cons,List.forIn_nil]
 refine wpAny_bind (wpAny_bind (wpAny_onRaise ?_))
 refine wpAny_bind (m:=Builtin.SmallTypes.nextOf (.ref i1)) (G1.item _ _ _ _ _ _ _ (G1.at_ _ _ _ h1 fun o q=>e1.extBut _ _ D.i1z q) (G1.sqAt _ _ _ hl1 fun o q=>e1.extBut _ _ D.l1z q) hx fun g2 t1 e2=>wpAny_pure ?_)
 have o2:IsPair g2 TO a b:=e2.extBut _ _ D.TOi1 (e1.extBut _ _ D.TOz hTO)
 refine wpAny_bind (wpAny_seqItems o2 rfl ?_)
 refine wpAny_bind (wpAny_updateSeq_pair o2 fun g3 o3 e3=>?_)
 replace o3:IsPair g3 TO x b:=o3
 refine wpAny_bind (wpAny_letGo (wpAny_pure ?_))
 refine wpAny_bind (wpAny_bind (wpAny_onRaise ?_))
 refine wpAny_bind (m:=Builtin.SmallTypes.nextOf (.ref i2)) (G2.item _ _ _ _ _ _ _ (G2.at_ _ _ _ h2 fun o q=>e3.extBut _ _ D.TOi2.symm (e2.extBut _ _ D.i12.symm (e1.extBut _ _ D.i2z q)))
  (G2.sqAt _ _ _ hl2 fun o q=>e3.extBut _ _ D.l2TO (e2.extBut _ _ D.l2i1 (e1.extBut _ _ D.l2z q))) hy fun g4 t2 e4=>wpAny_pure ?_)
 have o4:IsPair g4 TO x b:=e4.extBut _ _ D.TOi2 o3
 refine wpAny_bind (wpAny_seqItems o4 rfl ?_)
 refine wpAny_bind (wpAny_updateSeq_pair o4 fun g5 o5 e5=>?_)
 replace o5:IsPair g5 TO x y:=o5
 refine wpAny_bind (wpAny_letGo (wpAny_pure (wpAny_pure ?_)))
 refine wpAny_bind (wpAny_seqItems o5 rfl ?_)
 refine wpAny_bind (wpAny_newTuple ?_)
 have hsz:g5.objs.size=s.heap.objs.size:=by rw [e5.1,e4.1,e3.1,e2.1,e1.1]
 have z5:IsZip g5 z TI TO .ellipsis:=e5.extBut _ _ D.TOz.symm (e4.extBut _ _ D.i2z.symm (e3.extBut _ _ D.TOz.symm (e2.extBut _ _ D.i1z.symm z1)))
 have kk:∀ c o,c≠z->c≠TO->c≠i1->c≠i2->s.heap.get? c=some o->g5.get? c=some o:=fun c o c1 c2 c3 c4 e=>
  e5.extBut _ _ c2 (e4.extBut _ _ c4 (e3.extBut _ _ c2 (e2.extBut _ _ c3 (e1.extBut _ _ c1 e))))
 have t15:st1 (k1+1) g5:=G1.at_ _ _ _ t1 fun o q=>e5.extBut _ _ D.TOi1.symm (e4.extBut _ _ D.i12 (e3.extBut _ _ D.TOi1.symm q))
 have t25:st2 (k2+1) g5:=G2.at_ _ _ _ t2 fun o q=>e5.extBut _ _ D.TOi2.symm q
 have hzlt:z < g5.objs.size:=Heap.lt_size z5
 refine wpAny_bind (m:=Builtin.SmallTypes.ownedTupleHandOut (.ref z) (.ref g5.objs.size)) ?_
 unfold Builtin.SmallTypes.ownedTupleHandOut
 have z6:IsZip (g5.push {cls:=.type "tuple",data:=.seq #[x,y]}) z TI TO .ellipsis:=Heap.get?_push_of_some _ z5
 refine wpAny_bind (wpAny_setField_rec z6 (by simp) fun g7 z7 e7=>?_)
 replace z7:IsZip g7 z TI TO (rawInt g5.objs.size):=z7
 refine wpAny_setField_rec z7 (by simp) fun g8 z8 e8=>?_
 replace z8:IsZip g8 z TI TO (rawInt g5.objs.size):=z8
 have up:∀ c o,c≠z->g5.get? c=some o->g8.get? c=some o:=fun c o c1 e=>e8.extBut _ _ c1 (e7.extBut _ _ c1 (Heap.get?_push_of_some _ e))
 have t8:IsPair g8 g5.objs.size x y:=e8.extBut _ _ (Nat.ne_of_gt hzlt) (e7.extBut _ _ (Nat.ne_of_gt hzlt) (Heap.get?_push_size _ rfl))
 have n8:g8.objs.size=g5.objs.size+1:=by rw [e8.1,e7.1,Heap.size_push]
 rw [hsz] at z8 t8 n8
 refine wpAny_pure ⟨_,rfl,?_⟩
 show Q (.ref g5.objs.size) _
 rw [hsz]
 exact hQ g8 z8 (up _ _ D.TOz o5) (G1.at_ _ _ _ t15 fun o e=>up _ o D.i1z e) (G2.at_ _ _ _ t25 fun o e=>up _ o D.i2z e) t8 n8 fun c o c1 c2 c3 c4 e=>up c o c1 (kk c o c1 c2 c3 c4 e)
theorem zip_end {Q:Fin->Shared->Prop} (G1:Hands prog w i1 l1 st1 sq1) (G2:Hands prog w i2 l2 st2 sq2) (hh:A.handled=none) (D:ZipApart z TI TO i1 i2 l1 l2) (hz:IsZip s.heap z TI TO .none) (hTI:IsPair s.heap TI (.ref i1) (.ref i2)) (hTO:IsPair s.heap TO a b)
  (h1:st1 k1 s.heap) (h2:st2 k2 s.heap) (hl1:sq1 xs s.heap) (hl2:sq2 ys s.heap) (hend:xs[k1]?=none\/ys[k2]?=none)
  (hE:∀ h' e,(∀ c o,c≠z->c≠TO->c≠i1->c≠i2->s.heap.get? c=some o->h'.get? c=some o)->(∃ o,h'.get? e=some o/\o.cls=.type "StopIteration")->E (.ref e) {s with heap:=h'}):
  wpAny (model prog w) A (Builtin.«zip.__next__» ⟨[.ref z],[]⟩) Q E s:=by
 refine wpAny_bind (m:=field (.ref z) 2) (wpAny_field hz rfl (x:=.bool false) rfl ?_)
 refine wpAny_bind (m:=field (.ref z) 3) (wpAny_field hz rfl (x:=.ref TI) rfl ?_)
 refine wpAny_bind (wpAny_seqItems hTI rfl ?_)
 refine wpAny_bind (m:=Builtin.SmallTypes.ownedTupleIsFree (.ref z)) ?_
 unfold Builtin.SmallTypes.ownedTupleIsFree
 refine wpAny_bind (wpAny_field hz rfl (x:=.none) rfl (wpAny_pure ?_))
 simp only [if_true]
 refine wpAny_bind (wpAny_rule ?_)
 refine wpAny_bind (wpAny_field hz rfl (x:=.ref TO) rfl ?_)
 refine wpAny_bind (wpAny_setField_rec hz (by simp) fun g1 z1 e1=>?_)
 replace z1:IsZip g1 z TI TO .ellipsis:=z1
 refine wpAny_bind ?_
 simp only [List.zipIdx_cons,List.zipIdx_nil,List.forIn_cons,List.forIn_nil]
 refine wpAny_bind (wpAny_bind (wpAny_onRaise ?_))
 have a1:=G1.at_ _ _ g1 h1 fun o q=>e1.extBut _ _ D.i1z q
 have b1:=G1.sqAt _ _ g1 hl1 fun o q=>e1.extBut _ _ D.l1z q
 cases hx:xs[k1]? with
 | none=>
  refine wpAny_bind (m:=Builtin.SmallTypes.nextOf (.ref i1)) (G1.fin _ _ _ _ _ _ hh a1 b1 hx fun g2 e e2 he=>?_)
  obtain⟨oe,hoe,hce⟩:=he
  have z2:IsZip g2 z TI TO .ellipsis:=e2 _ _ D.i1z.symm z1
  have hez:e≠z:=fun x=>by subst x; rw [z2] at hoe; cases hoe; simp at hce
  exact wpAny_setField_rec z2 (by simp) fun g3 _ e3=>hE g3 e (fun c o c1 _ c3 _ x=>e3.extBut _ _ c1 (e2 _ _ c3 (e1.extBut _ _ c1 x))) ⟨oe,e3.extBut _ _ hez hoe,hce⟩
 | some x=>
  have hy:ys[k2]?=none:=by rcases hend with h | h; rw [hx] at h; cases h; exact h
  refine wpAny_bind (m:=Builtin.SmallTypes.nextOf (.ref i1)) (G1.item _ _ _ _ _ _ _ a1 b1 hx fun g2 t1 e2=>wpAny_pure ?_)
  have o2:IsPair g2 TO a b:=e2.extBut _ _ D.TOi1 (e1.extBut _ _ D.TOz hTO)
  refine wpAny_bind (wpAny_seqItems o2 rfl ?_)
  refine wpAny_bind (wpAny_updateSeq_pair o2 fun g3 o3 e3=>?_)
  refine wpAny_bind (wpAny_letGo (wpAny_pure ?_))
  refine wpAny_bind (wpAny_bind (wpAny_onRaise ?_))
  refine wpAny_bind (m:=Builtin.SmallTypes.nextOf (.ref i2)) (G2.fin _ _ _ _ _ _ hh (G2.at_ _ _ _ h2 fun o q=>e3.extBut _ _ D.TOi2.symm (e2.extBut _ _ D.i12.symm (e1.extBut _ _ D.i2z q)))
   (G2.sqAt _ _ _ hl2 fun o q=>e3.extBut _ _ D.l2TO (e2.extBut _ _ D.l2i1 (e1.extBut _ _ D.l2z q))) hy fun g4 e e4 he=>?_)
  obtain⟨oe,hoe,hce⟩:=he
  have z4:IsZip g4 z TI TO .ellipsis:=e4 _ _ D.i2z.symm (e3.extBut _ _ D.TOz.symm (e2.extBut _ _ D.i1z.symm z1))
  have hez:e≠z:=fun x=>by subst x; rw [z4] at hoe; cases hoe; simp at hce
  exact wpAny_setField_rec z4 (by simp) fun g5 _ e5=>hE g5 e (fun c o c1 c2 c3 c4 x=>e5.extBut _ _ c1 (e4 _ _ c4 (e3.extBut _ _ c2 (e2.extBut _ _ c3 (e1.extBut _ _ c1 x))))) ⟨oe,e5.extBut _ _ hez hoe,hce⟩
theorem pyNext_zip_item {Q:Option Value->Shared->Prop} (G1:Hands prog w i1 l1 st1 sq1) (G2:Hands prog w i2 l2 st2 sq2) (D:ZipApart z TI TO i1 i2 l1 l2) (hz:IsZip s.heap z TI TO .none) (hTI:IsPair s.heap TI (.ref i1) (.ref i2)) (hTO:IsPair s.heap TO a b)
  (h1:st1 k1 s.heap) (h2:st2 k2 s.heap) (hl1:sq1 xs s.heap) (hl2:sq2 ys s.heap) (hx:xs[k1]?=some x) (hy:ys[k2]?=some y)
  (hQ:∀ h',IsZip h' z TI TO (rawInt s.heap.objs.size)->IsPair h' TO x y->st1 (k1+1) h'->st2 (k2+1) h'->IsPair h' s.heap.objs.size x y->h'.objs.size=s.heap.objs.size+1->
   (∀ c o,c≠z->c≠TO->c≠i1->c≠i2->s.heap.get? c=some o->h'.get? c=some o)->Q (some (.ref s.heap.objs.size)) {s with heap:=h'}):wpAny (model prog w) A (pyNext (.ref z)) Q E s:=by
 have hT:s.TypeIs (.ref z) "zip":=⟨_,hz,rfl⟩
 unfold pyNext
 exact wpAny_bind (wpAny_attempt (wpAny_callSpecial?_slot (name:=Str.ofString "__next__") hT F.slot_zip_next
  (wpAny_call_entry F.slot_zip_next hT F.entry_zip_next (zip_item G1 G2 D hz hTI hTO h1 h2 hl1 hl2 hx hy fun h' a1 a2 a3 a4 a5 a6 a7=>wpAny_pure (hQ h' a1 a2 a3 a4 a5 a6 a7)) (F.args_zip_next_1 _))))
theorem pyNext_zip_end {Q:Option Value->Shared->Prop} (G1:Hands prog w i1 l1 st1 sq1) (G2:Hands prog w i2 l2 st2 sq2) (hh:A.handled=none) (D:ZipApart z TI TO i1 i2 l1 l2) (hz:IsZip s.heap z TI TO .none) (hTI:IsPair s.heap TI (.ref i1) (.ref i2)) (hTO:IsPair s.heap TO a b)
  (h1:st1 k1 s.heap) (h2:st2 k2 s.heap) (hl1:sq1 xs s.heap) (hl2:sq2 ys s.heap) (hend:xs[k1]?=none\/ys[k2]?=none)
  (hQ:∀ h',(∀ c o,c≠z->c≠TO->c≠i1->c≠i2->s.heap.get? c=some o->h'.get? c=some o)->Q none {s with heap:=h'}):wpAny (model prog w) A (pyNext (.ref z)) Q E s:=by
 have hT:s.TypeIs (.ref z) "zip":=⟨_,hz,rfl⟩
 unfold pyNext
 refine wpAny_bind (wpAny_attempt (wpAny_callSpecial?_slot (name:=Str.ofString "__next__") hT F.slot_zip_next
  (wpAny_call_entry F.slot_zip_next hT F.entry_zip_next (zip_end G1 G2 hh D hz hTI hTO h1 h2 hl1 hl2 hend fun h' e hk he=>?_) (F.args_zip_next_1 _))))
 obtain⟨o,ho,hc⟩:=he
 exact wpAny_bind (wpAny_isInstance (T:="StopIteration") (b:=true) ⟨o,ho,hc⟩ isSubtype_stop (wpAny_pure (hQ _ hk)))
end
structure Begins (l:Addr) (nm:String) (sq:Array Value->Heap->Prop):Prop where
 iter:∀ (P:Program) (w:World) (A:Around) (s:Shared) (xs:Array Value) (Q:Value->Shared->Prop) (E:Value->Shared->Prop),sq xs s.heap->
  Q (.ref s.heap.objs.size) {s with heap:=s.heap.push {cls:=.type nm,data:=.fields #[.ref l,.int 0 0]}}->wpAny (model P w) A (pyIter (.ref l)) Q E s
 sqAt:∀ xs h h',sq xs h->(∀ o,h.get? l=some o->h'.get? l=some o)->sq xs h'
theorem Begins.list (l:Addr):Begins l "list_iterator" (fun xs h=>h.IsList l xs):=⟨fun _ _ _ _ _ _ _ a b=>wpAny_pyIter_list a b,fun _ _ _ x y=>x.at y⟩
theorem Begins.tuple (l:Addr):Begins l "tuple_iterator" (fun xs h=>h.IsTuple l xs):=⟨fun _ _ _ _ _ _ _ a b=>wpAny_pyIter_tuple a b,fun _ _ _ x y=>x.at y⟩
section
variable {l1 l2:Addr} {n1 n2:String} {sq1 sq2:Array Value->Heap->Prop}
abbrev zh1 (h:Heap) (n1:String) (l1:Addr):Heap:=h.push {cls:=.type n1,data:=.fields #[.ref l1,.int 0 0]}
abbrev zh2 (h:Heap) (n1 n2:String) (l1 l2:Addr):Heap:=(zh1 h n1 l1).push {cls:=.type n2,data:=.fields #[.ref l2,.int 0 0]}
abbrev zh3 (h:Heap) (n1 n2:String) (l1 l2:Addr):Heap:=(zh2 h n1 n2 l1 l2).push {cls:=.type "tuple",data:=.seq #[.ref h.objs.size,.ref (zh1 h n1 l1).objs.size]}
abbrev zh4 (h:Heap) (n1 n2:String) (l1 l2:Addr):Heap:=(zh3 h n1 n2 l1 l2).push {cls:=.type "tuple",data:=.seq #[.none,.none]}
abbrev zh5 (h:Heap) (n1 n2:String) (l1 l2:Addr):Heap:=(zh4 h n1 n2 l1 l2).push {cls:=.type "zip",data:=.fields #[.none,.bool false,.bool false,.ref (zh2 h n1 n2 l1 l2).objs.size,.ref (zh3 h n1 n2 l1 l2).objs.size]}
theorem meets_zip (B1:Begins l1 n1 sq1) (B2:Begins l2 n2 sq2) (xs ys:Array Value):
  Meets (Builtin.«zip.__new__» ⟨[.type "zip",.ref l1,.ref l2],[]⟩) (fun _ R s=>sq1 xs s.heap/\sq2 ys s.heap/\
   R (.ok (.ret (.ref (zh4 s.heap n1 n2 l1 l2).objs.size))) {s with heap:=zh5 s.heap n1 n2 l1 l2}):=
 .of_wp fun prog w A R s h=>by
  obtain⟨hp,g,d,tk,os⟩:=s
  obtain⟨a,b,h⟩:=h
  have hsub:=sub_zip
  have b':sq2 ys (Shared.heap ⟨hp.push {cls:=.type n1,data:=.fields #[.ref l1,.int 0 0]},g,d,tk,os⟩):=B2.sqAt _ _ _ b fun o q=>Heap.get?_push_of_some _ q
  have a':sq1 xs (Shared.heap ⟨hp,g,d,tk,os⟩):=a
  wp_walk using B1.iter _ _ _ _ _ _ _ a',B2.iter _ _ _ _ _ _ _ b'
  exact⟨_,rfl,h⟩
variable {prog:Program} {w:World} {A:Around} {E:Value->Shared->Prop} {s:Shared}
theorem call_zip (B1:Begins l1 n1 sq1) (B2:Begins l2 n2 sq2) {xs ys:Array Value} {Q:Value->Shared->Prop} (hl1:sq1 xs s.heap) (hl2:sq2 ys s.heap)
  (h:∀ h',IsZip h' (s.heap.objs.size+4) (s.heap.objs.size+2) (s.heap.objs.size+3) .none->IsPair h' (s.heap.objs.size+2) (.ref s.heap.objs.size) (.ref (s.heap.objs.size+1))->
   IsPair h' (s.heap.objs.size+3) .none .none->h'.get? s.heap.objs.size=some {cls:=.type n1,data:=.fields #[.ref l1,.int 0 0]}->h'.get? (s.heap.objs.size+1)=some {cls:=.type n2,data:=.fields #[.ref l2,.int 0 0]}->
   (∀ c o,s.heap.get? c=some o->h'.get? c=some o)->Q (.ref (s.heap.objs.size+4)) {s with heap:=h'}):
  wpAny (model prog w) A (call (.type "zip") [.ref l1,.ref l2]) Q E s:=by
 refine callType_new F.called_zip (by decide) (F.typeCall_zip_2 _ _) (F.newCall_zip_2 _ _) (fun obj=>F.args_object_init_3 obj _ _) F.entry_zip_new (meets_zip B1 B2 xs ys) ⟨hl1,hl2,?_⟩
 have z1:(zh1 s.heap n1 l1).objs.size=s.heap.objs.size+1:=Heap.size_push ..
 have z2:(zh2 s.heap n1 n2 l1 l2).objs.size=s.heap.objs.size+2:=by rw [Heap.size_push,z1]
 have z3:(zh3 s.heap n1 n2 l1 l2).objs.size=s.heap.objs.size+3:=by rw [Heap.size_push,z2]
 have z4:(zh4 s.heap n1 n2 l1 l2).objs.size=s.heap.objs.size+4:=by rw [Heap.size_push,z3]
 have g5:(zh5 s.heap n1 n2 l1 l2).get? (zh4 s.heap n1 n2 l1 l2).objs.size=some _:=Heap.get?_push_size _ rfl
 have g4:(zh5 s.heap n1 n2 l1 l2).get? (zh3 s.heap n1 n2 l1 l2).objs.size=some _:=Heap.get?_push_of_some _ (Heap.get?_push_size _ rfl)
 have g3:(zh5 s.heap n1 n2 l1 l2).get? (zh2 s.heap n1 n2 l1 l2).objs.size=some _:=Heap.get?_push_of_some _ (Heap.get?_push_of_some _ (Heap.get?_push_size _ rfl))
 have g2:(zh5 s.heap n1 n2 l1 l2).get? (zh1 s.heap n1 l1).objs.size=some _:=Heap.get?_push_of_some _ (Heap.get?_push_of_some _ (Heap.get?_push_of_some _ (Heap.get?_push_size _ rfl)))
 have g1:(zh5 s.heap n1 n2 l1 l2).get? s.heap.objs.size=some _:=Heap.get?_push_of_some _ (Heap.get?_push_of_some _ (Heap.get?_push_of_some _ (Heap.get?_push_of_some _ (Heap.get?_push_size _ rfl))))
 show _/\_
 rw [z2,z3,z4] at g5
 rw [z1,z2] at g3
 rw [z3] at g4
 rw [z1] at g2
 rw [z4]
 exact⟨⟨_,g5,rfl⟩,h _ g5 g3 g4 g1 g2 fun c o x=>Heap.get?_push_of_some _ (Heap.get?_push_of_some _ (Heap.get?_push_of_some _ (Heap.get?_push_of_some _ (Heap.get?_push_of_some _ x))))⟩
end
section
variable {X:Cx} {pins:List (Addr×Obj)} {σ:St} {H:Hp} {s:Shared} {h':Heap}
theorem Inv.turnedL {t':Nat} (ch:List Addr) (I:Inv X pins σ H s) (k:∀ b o,b∉ch->s.heap.get? b=some o->h'.get? b=some o) (hf:∀ b∈ch,FpOk X pins H b):Inv X pins σ H {s with heap:=h',toks:=t'}:=by
 have nit:∀ b u,H b=some u->b∉ch:=fun b u e z=>by rw [(hf b z).1] at e; cases e
 refine I.step (g':=s.gens) (d':=s.drawn) (ch:=ch) (fun b hb=>⟨(hf b hb).2.2.2.1,(hf b hb).2.1,(hf b hb).2.2.2.2.1,(hf b hb).2.2.2.2.2⟩) (fun b o _ _ hc e _=>k b o hc e) (fun b o _ _ hc e _=>⟨o.slots,k b o hc e⟩) (fun _ _ _ _ n=>n)
  (fun b o hc e=>⟨o,k b o hc e⟩) (fun _ _ e=>e) (fun _ _ _ e=>e) (fun b ps e=>⟨#[],by rw [e]; simp⟩) (fun m hm=>?_) (fun b u e=>?_) I.bare
 ·obtain⟨o,es,ep,ho,r⟩:=hm
  exact⟨o,es,ep,k _ o (fun z=>(hf _ z).2.1 rfl) ho,r⟩
 ·refine(I.hok b u e).stay (fun c v hc q=>k c v ?_ q) (fun _ q=>q) fun _ _ q=>q
  rcases hc with z | z
  ·rw [z]; exact nit b u e
  ·exact nit c _ z
theorem Inv.turnedNew {t':Nat} {T:Addr} {xs:List V} (ch:List Addr) (I:Inv X pins σ H s) (k:∀ b o,b∉ch->s.heap.get? b=some o->h'.get? b=some o) (hf:∀ b∈ch,FpOk X pins H b) (hT:s.heap.objs.size<=T)
  (new:ObjOk X.prog X.w (upd H T (.tup xs)) h' T (.tup xs)):Inv X pins σ (upd H T (.tup xs)) {s with heap:=h',toks:=t'}:=by
 have hn:H T=none:=I.hok.fresh hT
 have nit:∀ b u,H b=some u->b∉ch:=fun b u e z=>by rw [(hf b z).1] at e; cases e
 have neT:∀ b o,s.heap.get? b=some o->b≠T:=fun b o e z=>by subst z; exact absurd (Nat.lt_of_lt_of_le (Heap.lt_size e) hT) (Nat.lt_irrefl _)
 refine I.step (g':=s.gens) (d':=s.drawn) (ch:=ch) (fun b hb=>⟨(hf b hb).2.2.2.1,(hf b hb).2.1,(hf b hb).2.2.2.2.1,(hf b hb).2.2.2.2.2⟩) (fun b o _ _ hc e _=>k b o hc e) (fun b o _ _ hc e _=>⟨o.slots,k b o hc e⟩) (fun b o _ e n=>by rw [upd_ne (neT b o e)]; exact n)
  (fun b o hc e=>⟨o,k b o hc e⟩) (fun b _ e=>by rw [upd_ne (ne_of_none e hn)]; exact e) (fun b _ _ e=>by rw [upd_ne (ne_of_none e hn)]; exact e) (fun b ps e=>⟨#[],by rw [upd_ne (ne_of_none e hn),e]; simp⟩) (fun m hm=>?_) (fun b u e=>?_) I.bare
 ·obtain⟨o,es,ep,ho,r⟩:=hm
  exact⟨o,es,ep,k _ o (fun z=>(hf _ z).2.1 rfl) ho,r⟩
 ·by_cases hb:b=T
  ·subst hb
   rw [upd_same] at e
   cases e
   exact new
  ·rw [upd_ne hb] at e
   refine(I.hok b u e).stay (fun c v hc q=>k c v ?_ q) (fun c q=>by rw [upd_ne (ne_of_none q hn)]; exact q) fun c _ q=>by rw [upd_ne (ne_of_none q hn)]; exact q
   rcases hc with z | z
   ·rw [z]; exact nit b u e
   ·exact nit c _ z
end
def SqB (b:Bool) (K:PySem.W.Frag) (H:Hp) (a:Addr) (xs:List V):Prop:=match b with | true=>SqL K H a xs | false=>SqT K H a xs
def itB (b:Bool) (it l:Addr) (k:Nat) (h:Heap):Prop:=match b with | true=>h.IsListIter it l k | false=>h.IsTupleIter it l k
def sqB (b:Bool) (l:Addr) (xs:Array Value) (h:Heap):Prop:=match b with | true=>h.IsList l xs | false=>h.IsTuple l xs
def nmB (b:Bool):String:=match b with | true=>"list_iterator" | false=>"tuple_iterator"
theorem handsB {P:Program} {w:World} (b:Bool) (it l:Addr):Hands P w it l (itB b it l) (sqB b l):=match b with | true=>Hands.list it l | false=>Hands.tuple it l
theorem beginsB (b:Bool) (l:Addr):Begins l (nmB b) (sqB b l):=match b with | true=>Begins.list l | false=>Begins.tuple l
theorem itB_new {b:Bool} {it l:Addr} {h:Heap} (e:h.get? it=some {cls:=.type (nmB b),data:=.fields #[.ref l,.int 0 0]}):itB b it l 0 h:=match b,e with | true,e=>⟨_,e,rfl,rfl⟩ | false,e=>⟨_,e,rfl,rfl⟩
section
variable {X:Cx} {pins:List (Addr×Obj)} {σ:St} {H:Hp} {s:Shared} {a:Addr} {xs ys:List V} {b:Bool}
theorem Inv.sqB (I:Inv X pins σ H s) (h:SqB b X.K H a xs):∃ its:List Value,Vals xs its/\L2.sqB b a its.toArray s.heap:=by
 cases b with
 | true=>obtain⟨its,r,p,_⟩:=I.list h; exact⟨its,r,p.isList⟩
 | false=>obtain⟨its,r,p,_⟩:=I.tuple h; exact⟨its,r,p⟩
theorem Inv.sqB_inj (I:Inv X pins σ H s) (h:SqB b X.K H a xs) (h':SqB b X.K H a ys):xs=ys:=by
 cases b with
 | true=>exact I.list_inj h h'
 | false=>exact I.tuple_inj h h'
theorem sqB_lt {its:Array Value} {h:Heap} (e:L2.sqB b a its h):a < h.objs.size:=by
 cases b with
 | true=>obtain⟨o,e,_⟩:=e; exact Heap.lt_size e
 | false=>obtain⟨o,e,_⟩:=e; exact Heap.lt_size e
end
def Itz (K:PySem.W.Frag) (b1 b2:Bool) (a1 a2:Addr):It:=
 ⟨fun i H => ∃ xs ys x y, SqB b1 K H a1 xs ∧ SqB b2 K H a2 ys ∧ xs[i]? = some x ∧ ys[i]? = some y,
  fun i H v H'=>∃ T x y,v=.ref T/\H T=none/\H'=upd H T (.tup [x,y])/\∀ xs ys,SqB b1 K H a1 xs->SqB b2 K H a2 ys->xs[i]?=some x/\ys[i]?=some y,
  fun i H=>∃ xs ys,SqB b1 K H a1 xs/\SqB b2 K H a2 ys/\(xs.length<=i\/ys.length<=i)⟩
def tnZ (b1 b2:Bool) (z TI TO i1 i2 a1 a2:Addr) (i:Nat) (h:Heap):Prop:=
 IsZip h z TI TO .none/\IsPair h TI (.ref i1) (.ref i2)/\(∃ a b,IsPair h TO a b)/\itB b1 i1 a1 i h/\itB b2 i2 a2 i h
theorem turn_zip {P:Program} {w:World} {K:PySem.W.Frag} {es:List Expr} {k:Nat} {pos:Pos} (b1 b2:Bool) {z TI TO i1 i2 a1 a2:Addr} (D:ZipApart z TI TO i1 i2 a1 a2):
  Turn P w K (.Tuple es k pos) (Itz K b1 b2 a1 a2) [z,TI,TO,i1,i2] z (tnZ b1 b2 z TI TO i1 i2 a1 a2) where
 mem:=by simp
 obj:=fun i h st b hb=>by
  obtain⟨hz,hTI,⟨x,y,hTO⟩,h1,h2⟩:=st
  have hb':b=z\/b=TI\/b=TO\/b=i1\/b=i2:=by simpa using hb
  rcases hb' with rfl | rfl | rfl | rfl | rfl
  ·exact⟨_,hz,fun v q=>by cases q⟩
  ·exact⟨_,hTI,fun v q=>by cases q⟩
  ·exact⟨_,hTO,fun v q=>by cases q⟩
  ·exact(handsB (P:=P) (w:=w) b1 b a1).obj _ _ h1
  ·exact(handsB (P:=P) (w:=w) b2 b a2).obj _ _ h2
 keep:=fun i h h' st q=>by
  obtain⟨hz,hTI,⟨x,y,hTO⟩,h1,h2⟩:=st
  exact⟨q z (by simp) _ hz,q TI (by simp) _ hTI,⟨x,y,q TO (by simp) _ hTO⟩,(handsB (P:=P) (w:=w) b1 i1 a1).at_ _ _ _ h1 fun o e=>q i1 (by simp) o e,(handsB (P:=P) (w:=w) b2 i2 a2).at_ _ _ _ h2 fun o e=>q i2 (by simp) o e⟩
 item:=by
  intro X hP hw hK hc i pins s σ H E I hf st hg
  subst hP hw hK
  obtain⟨xs,ys,x,y,q1,q2,hx,hy⟩:=hg
  obtain⟨its,rv,p⟩:=I.sqB q1
  obtain⟨jts,rw',p'⟩:=I.sqB q2
  obtain⟨u,hu,ru⟩:=rv.get hx
  obtain⟨u',hu',ru'⟩:=rw'.get hy
  obtain⟨hz,hTI,⟨c,d,hTO⟩,h1,h2⟩:=st
  have hn:H s.heap.objs.size=none:=I.hok.fresh (Nat.le_refl _)
  have old:∀ b∈[z,TI,TO,i1,i2],b≠s.heap.objs.size:=fun b hb e=>by
   have:∃ o,s.heap.get? b=some o:=by
    have hb':b=z\/b=TI\/b=TO\/b=i1\/b=i2:=by simpa using hb
    rcases hb' with rfl | rfl | rfl | rfl | rfl
    ·exact⟨_,hz⟩
    ·exact⟨_,hTI⟩
    ·exact⟨_,hTO⟩
    ·obtain⟨o,e,_⟩:=(handsB (P:=X.prog) (w:=X.w) b1 b a1).obj _ _ h1; exact⟨o,e⟩
    ·obtain⟨o,e,_⟩:=(handsB (P:=X.prog) (w:=X.w) b2 b a2).obj _ _ h2; exact⟨o,e⟩
   obtain⟨o,eo⟩:=this
   exact absurd (Heap.lt_size eo) (by rw [e]; exact Nat.lt_irrefl _)
  refine pyNext_zip_item (handsB b1 i1 a1) (handsB b2 i2 a2) D hz hTI hTO h1 h2 p p' (x:=u) (y:=u') (by simpa using hu) (by simpa using hu') fun h' c1 c2 c3 c4 c5 c6 c7=>?_
  have I1:Inv X pins σ (upd H s.heap.objs.size (.tup [x,y])) {s with heap:=h'}:=I.turnedNew (t':=s.toks) [z,TO,i1,i2] (fun b o hb e=>c7 b o (fun q=>hb (by simp [q])) (fun q=>hb (by simp [q])) (fun q=>hb (by simp [q])) (fun q=>hb (by simp [q])) e)
   (fun b hb => hf b (by have hb' : b = z ∨ b = TO ∨ b = i1 ∨ b = i2 := by simpa using hb
                         rcases hb' with rfl | rfl | rfl | rfl <;> simp)) (Nat.le_refl _) ⟨Nat.le_of_ble_eq_true rfl,[u,u'],.cons ru (.cons ru' .nil),⟨_,c5,rfl,_,rfl⟩⟩
  refine⟨_,rfl,wpAny_letOwnedTupleGo_zip (s:={s with heap:=h'}) c1 fun h2' g1 g2=>?_⟩
  refine⟨.ref s.heap.objs.size,upd H s.heap.objs.size (.tup [x,y]),?_,rfl,⟨_,x,y,rfl,hn,rfl,fun xs' ys' e1 e2=>by rw [I.sqB_inj e1 q1,I.sqB_inj e2 q2]; exact⟨hx,hy⟩⟩,?_,fun b hb=>?_⟩
  ·refine I1.turnedL (t':=s.toks) [z] (fun b o hb e=>g2.extBut _ _ (fun q=>hb (by simp [q])) e) fun b hb=>?_
   have e:b=z:=by simpa using hb
   subst e
   obtain⟨f0,f1,f2,f3,f4,f5⟩:=hf b (by simp)
   exact⟨by rw [upd_ne (old b (by simp))]; exact f0,f1,f2,f3,f4,f5⟩
  ·exact⟨g1,g2.extBut _ _ D.TIz (c7 _ _ D.TIz D.TITO D.TIi1 D.TIi2 hTI),⟨_,_,g2.extBut _ _ D.TOz c2⟩,(handsB (P:=X.prog) (w:=X.w) b1 i1 a1).at_ _ _ _ c3 fun o e=>g2.extBut _ _ D.i1z e,(handsB (P:=X.prog) (w:=X.w) b2 i2 a2).at_ _ _ _ c4 fun o e=>g2.extBut _ _ D.i2z e⟩
  ·rw [upd_ne (old b hb)]
   exact(hf b hb).1
 done:=by
  intro X hP hw hK hc i pins s σ H E I hf st hg
  subst hP hw hK
  obtain⟨xs,ys,q1,q2,hx⟩:=hg
  obtain⟨its,rv,p⟩:=I.sqB q1
  obtain⟨jts,rw',p'⟩:=I.sqB q2
  obtain⟨hz,hTI,⟨c,d,hTO⟩,h1,h2⟩:=st
  have l1:=rv.length
  have l2:=rw'.length
  refine pyNext_zip_end (handsB b1 i1 a1) (handsB b2 i2 a2) (I.ok.hd hc) D hz hTI hTO h1 h2 p p' (by rcases hx with hx | hx; · left; simp; omega
                                                                                                     · right; simp; omega) fun h' kk=>⟨rfl,I.turnedL (t':=s.toks) [z,TO,i1,i2] (fun b o hb e=>kk b o (fun q=>hb (by simp [q])) (fun q=>hb (by simp [q])) (fun q=>hb (by simp [q])) (fun q=>hb (by simp [q])) e) fun b hb=>hf b ?_⟩
  have hb':b=z\/b=TO\/b=i1\/b=i2:=by simpa using hb
  rcases hb' with rfl | rfl | rfl | rfl <;> simp
 self:=fun _ _ _ _ _ st h=>wpAny_pyIter_zip st.1 h
theorem zapart (n l1 l2:Nat) (h1:l1 < n) (h2:l2 < n):ZipApart (n+4) (n+2) (n+3) n (n+1) l1 l2:=by
 constructor <;> (intro e; simp only [Addr] at e; omega)
def iZip (K:PySem.W.Frag) (ta:TA):TI:=fun σ H R=>ta σ H fun vs H1=>∃ a1 a2 b1 b2,vs=[.ref a1,.ref a2]/\(∃ xs,SqB b1 K H1 a1 xs)/\(∃ ys,SqB b2 K H1 a2 ys)/\R (Itz K b1 b2 a1 a2) H1
theorem pi_zip {X:Cx} {a b:Expr} {ta:TA} {p pos tp:Pos} {es:List Expr} {k:Nat} (hg:Gl X "zip") (hm:X.mg "zip"=none) (ha:PA X [a,b] ta) (hs:starEach [a,b] X.env=[(false,eval a X.env),(false,eval b X.env)]:=by rfl) (hs2:starEach [b] X.env=[(false,eval b X.env)]:=by rfl):
  PI X (.Tuple es k tp) (.Call (.Name "zip" p) [a,b] [] pos) (iZip X.K ta):=by
 intro pins s σ H R I h
 refine Call_ (ld_blt I hg hm boot_zip (PyProof.Rows.callWith_type1 (thn (ha pos pins s σ H _ I h) fun us s1 ⟨vs,H1,I1,r1,q1⟩=>?_) (by rw [hs,hs2]) (by rw [hs2]; rfl)))
 obtain⟨a1,a2,b1,b2,e,⟨xs,e1⟩,⟨ys,e2⟩,q⟩:=q1
 subst e
 cases r1 with
 | cons r rr=>
  cases rr with
  | cons r' rr=>
   cases rr
   cases r
   cases r'
   obtain⟨its,rv,p1⟩:=I1.sqB e1
   obtain⟨jts,rw',p2⟩:=I1.sqB e2
   refine call_zip (beginsB b1 a1) (beginsB b2 a2) p1 p2 fun h' c1 c2 c3 c4 c5 c6=>?_
   refine wpAny_pyIter_zip (s:={s1 with heap:=h'}) c1 ?_
   have fr:∀ j,H1 (s1.heap.objs.size+j)=none:=fun j=>I1.hok.fresh (Nat.le_add_right _ _)
   refine⟨_,[s1.heap.objs.size+4,s1.heap.objs.size+2,s1.heap.objs.size+3,s1.heap.objs.size,s1.heap.objs.size+1],_,_,H1,rfl,I1.kept (t':=s1.toks) c6,turn_zip b1 b2 (zapart _ _ _ (sqB_lt p1) (sqB_lt p2)),⟨c1,c2,⟨_,_,c3⟩,itB_new c4,itB_new c5⟩,fun b hb=>?_,q⟩
   have hb':b=s1.heap.objs.size+4\/b=s1.heap.objs.size+2\/b=s1.heap.objs.size+3\/b=s1.heap.objs.size\/b=s1.heap.objs.size+1:=by simpa using hb
   rcases hb' with rfl | rfl | rfl | rfl | rfl
   ·exact I1.fpOk (Nat.le_add_right _ _) (fr 4)
   ·exact I1.fpOk (Nat.le_add_right _ _) (fr 2)
   ·exact I1.fpOk (Nat.le_add_right _ _) (fr 3)
   ·exact I1.fpOk (Nat.le_refl _) (fr 0)
   ·exact I1.fpOk (Nat.le_add_right _ _) (fr 1)
end L2
namespace DL
open PySem PySem.Spec PyProof.Rows L2
section
variable {K:Fg} {ok:DH->Prop} {gg:DG} {ge:DE} {k:DK} {ds:List D} {L:Lo} {S:DH} {σ:L2.St} {H:Hp} {J:It} {p:Addr} {Q:V->Hp->Prop}
theorem comp_coreG (hL:Lc K H L σ) (hS:Hs K H S) (hp:H p=none) (h:dCLoop ok p gg (bdAll ge) k ds [] L (put S p (.lst [])))
  (n:∀ d S' v H',k d S'->Kp H H'->Hs K H' S'->IsD K H' d v->Q v H')
  (hgo:∀ i d S1 H1,ds[i]?=some d->Kp H H1->Hs K H1 S1->ok S1->J.go i H1/\∀ x H',J.yld i H1 x H'->Kp H1 H'/\Hs K H' S1/\IsD K H' d x)
  (hst:∀ S1 H1,Kp H H1->Hs K H1 S1->ok S1->J.stop ds.length H1):
  ∃ W:Nat->Nat->L2.St->Hp->Prop,(∃ m,W 0 m σ (upd H p (.lst [])))/\∀ i m σ' H',W i m σ' H'->
   (J.stop i H'/\Q (.ref p) H')\/(J.go i H'/\∃ N:L2.St->Hp->Prop,(∀ σ2 H2,N σ2 H2->∃ m',m' < m/\W (i+1) m' σ2 H2)/\∀ x H2,J.yld i H' x H2->upG K gg x σ' H2 fun σ3 H3=>up K ge σ3 H3 fun v H4=>∃ ys,H4 p=some (.lst ys)/\ys.length < sizeLine/\N σ3 (upd H4 p (.lst (ys++[v])))):=by
 refine⟨fun i m σ1 H1=>m=ds.length - i/\i<=ds.length/\∃ acc L1 S1,Lc K H1 L1 σ1/\Hs K H1 S1/\Kp H H1/\dCLoop ok p gg (bdAll ge) k (ds.drop i) acc L1 S1,⟨ds.length,by simp,Nat.zero_le _,[],L,_,hL.kp (Kp.new hp),hS.newL hp IsDs.nil,Kp.new hp,h⟩,?_⟩
 rintro i m σ1 H1 ⟨rfl,hi,acc,L1,S1,hL1,hS1,k1,w1⟩
 by_cases hlt:i < ds.length
 ·have e:ds.drop i=ds[i]::ds.drop (i+1):=List.drop_eq_getElem_cons hlt
  rw [e] at w1
  obtain⟨o1,w1⟩:=w1
  obtain⟨g1,y1⟩:=hgo i ds[i] S1 H1 (by simp [hlt]) k1 hS1 o1
  refine .inr ⟨g1,fun σ' H'=>i+1<=ds.length/\∃ acc L' S',Lc K H' L' σ'/\Hs K H' S'/\Kp H H'/\dCLoop ok p gg (bdAll ge) k (ds.drop (i+1)) acc L' S',fun σ' H' ⟨q1,q2⟩=>⟨ds.length - (i+1),by omega,rfl,q1,q2⟩,fun x H' y=>?_⟩
  obtain⟨k0,hS0,ix⟩:=y1 x H' y
  refine⟨ds[i],L1,S1,_,ix,hL1.kp k0,hS0,w1,fun L2 S2 σ2 H2 q k2 hL2 hS2=>up.go hL2 hS2 q fun d S3 v H3 h3 k3 hL3 hS3 i3=>?_⟩
  obtain⟨z1,z2,z3⟩:=h3
  obtain⟨xs,hl,j⟩:=hS3.lst z1
  have k4:Kp H3 (upd H3 p (.lst (xs++[v]))):=Kp.mut hl (fun z=>z)
  exact⟨xs,hl,by rw [<- j.length]; exact z2,hlt,_,L2,_,hL3.kp k4,hS3.setL hl (j.append (IsDs.cons i3 IsDs.nil)),(((k1.trans k0).trans k2).trans k3).trans k4,z3⟩
 ·have e:i=ds.length:=by omega
  subst e
  rw [List.drop_length] at w1
  obtain⟨o1,w1⟩:=w1
  exact .inl ⟨hst S1 H1 k1 hS1 o1,n _ S1 _ H1 w1 k1 hS1 (isRef.mpr rfl)⟩
end
theorem seq_kd {K:Fg} {S1:DH} {H1:Hp} {d:D} {v:V} {p:List D×Option Addr} (hS1:Hs K H1 S1) (i1:IsD K H1 d v) (hp:dItems S1 d=some p):∃ a b,v=.ref a/\
  (∃ xs,SqB b K H1 a xs)/\∀ S2 H2,Kp H1 H2->Hs K H2 S2->okFor p S2->∃ xs,SqB b K H2 a xs/\IsDs K H2 p.1 xs:=by
 cases d with
 | tup ds=>
  cases hp
  obtain⟨a,xs,rfl,t,j⟩:=isTup.mp i1
  exact⟨a,false,rfl,⟨xs,t⟩,fun S2 H2 k2 _ _=>⟨xs,k2.tup t,j.kp k2⟩⟩
 | rl ds=>
  cases hp
  obtain⟨a,xs,rfl,t,j⟩:=isRl.mp i1
  exact⟨a,true,rfl,⟨xs,t.sq⟩,fun S2 H2 k2 _ _=>⟨xs,(k2.fro t).sq,j.kp k2⟩⟩
 | ref a=>
  have e1:=isRef.mp i1
  subst e1
  cases z:S1 a with
  | none=>simp only [dItems,z] at hp; cases hp
  | some o=>
   cases o with
   | dic=>simp only [dItems,z] at hp; cases hp
   | exc _=>simp only [dItems,z] at hp; cases hp
   | fn _=>simp only [dItems,z] at hp; cases hp
   | tbl _=>simp only [dItems,z] at hp; cases hp
   | gen _=>simp only [dItems,z] at hp; cases hp
   | lst ds=>
    simp only [dItems,z] at hp
    cases hp
    obtain⟨xs,hl,j⟩:=hS1.lst z
    refine⟨a,true,rfl,⟨xs,SqL.of hl⟩,fun S2 H2 k2 hS2 o2=>?_⟩
    obtain⟨ys,hl2,j2⟩:=hS2.lst o2
    exact⟨ys,SqL.of hl2,j2⟩
 | _=>cases hp
def zipD (xs ys:List D):List D:=List.zipWith (fun a b=>D.tup [a,b]) xs ys
section
variable {X:Cx} {o e a b c:Expr} {go ge ga gb gc:DE} {apos cpos pos:Pos}
def dApp (go ge:DE):DE:=fun L S k=>go L S fun d S1=>match d with
 | .ref a=>(∃ ds,S1 a=some (.lst ds))/\ge L S1 fun e S2=>∃ ds,S2 a=some (.lst ds)/\ds.length < sizeLine/\k .non (put S2 a (.lst (ds++[e])))
 | _=>False
theorem d_appj (ho:EJ X o go) (he:EJ X e ge) (hbase:attributeBase o "append" X.env (eval o X.env)=eval o X.env:=by rfl)
  (hfew:((backTo cpos (starEach [e] X.env)).all (fun x=>!x.1) && (backToKw cpos (keywordEach [] X.env)).all (fun x=>x.1.isSome) && decide ([e].length+([]:List Keyword).length+(if ([]:List Keyword).isEmpty then 0 else 1) < 30))=true:=by rfl)
  (hline:(apos.endLine == cpos.line)=true:=by rfl) (hs:starEach [e] X.env=(false,eval e X.env)::starEach [] X.env:=by rfl) (hpl:(backTo cpos (starEach [] X.env)).any (·.1)=false:=by rfl):
  EJ X (.Call (.Attribute o "append" apos) [e] [] cpos) (dApp go ge):=
 ⟨PE.imp (pe_bm PySem.F.plainAttrs_list PySem.F.slot_list_append PySem.F.type_list_append mt_append ho.h (pa_cons he.h pa_nil hs) hbase hfew hline hs hpl) fun σ H Q ⟨L,S,k,hL,hS,h,n⟩=>up.go hL hS h fun d S1 v H1 h1 k1 hL1 hS1 i1=>by
  cases d with
  | ref a=>
   have e1:=isRef.mp i1
   subst e1
   obtain⟨⟨ds1,z1⟩,h1⟩:=h1
   obtain⟨xs1,hl1,_⟩:=hS1.lst z1
   refine⟨.inl ⟨rfl,xs1,SqL.of hl1⟩,up.go hL1 hS1 h1 fun d2 S2 v2 H2 h2 k2 hL2 hS2 i2=>?_⟩
   obtain⟨ds,z,hz,w⟩:=h2
   obtain⟨xs,hl,j⟩:=hS2.lst z
   have k3:Kp H2 (upd H2 a (.lst (xs++[v2]))):=Kp.mut hl (fun z=>z)
   exact⟨a,xs,v2,rfl,rfl,hl,by rw [<- j.length]; exact hz,n _ _ _ _ w (k1.trans (k2.trans k3)) (hS2.setL hl (j.append (IsDs.cons i2 IsDs.nil))) (isNon.mpr rfl)⟩
  | _=>exact(show False from h1).elim⟩
end
theorem for_coreG {K:Fg} {ok:DH->Prop} {gg:DG} {b:DS} {M:DEnds} {ds:List D} {L:Lo} {S:DH} {N:Ends} {σ:L2.St} {H:Hp} {J:It} (hL:Lc K H L σ) (hS:Hs K H S) (h:dLoop ok gg b M ds L S) (r:Rch K H M N)
  (hgo:∀ i d S1 H1,ds[i]?=some d->Kp H H1->Hs K H1 S1->ok S1->J.go i H1/\∀ x H',J.yld i H1 x H'->Kp H1 H'/\Hs K H' S1/\IsD K H' d x)
  (hst:∀ S1 H1,Kp H H1->Hs K H1 S1->ok S1->J.stop ds.length H1):
  ∃ W:Nat->Nat->L2.St->Hp->Prop,(∃ m,W 0 m σ H)/\∀ i m σ H,W i m σ H->
   (J.stop i H/\N.nx σ H)\/(J.go i H/\∃ N':L2.St->Hp->Prop,(∀ σ' H',N' σ' H'->∃ m',m' < m/\W (i+1) m' σ' H')/\∀ x H',J.yld i H x H'->upG K gg x σ H' fun σ2 H2=>upS K b {N with nx:=N',ct:=N',bk:=N.nx} σ2 H2):=by
 refine⟨fun i m σ1 H1=>m=ds.length - i/\i<=ds.length/\∃ L1 S1,Lc K H1 L1 σ1/\Hs K H1 S1/\Kp H H1/\dLoop ok gg b M (ds.drop i) L1 S1,⟨ds.length,by simp,Nat.zero_le _,L,S,hL,hS,Kp.refl H,h⟩,?_⟩
 rintro i m σ1 H1 ⟨rfl,hi,L1,S1,hL1,hS1,k1,w1⟩
 by_cases hlt:i < ds.length
 ·have e:ds.drop i=ds[i]::ds.drop (i+1):=List.drop_eq_getElem_cons hlt
  rw [e] at w1
  obtain⟨o1,w1⟩:=w1
  obtain⟨g1,y1⟩:=hgo i ds[i] S1 H1 (by simp [hlt]) k1 hS1 o1
  refine .inr ⟨g1,fun σ' H'=>i+1<=ds.length/\∃ L' S',Lc K H' L' σ'/\Hs K H' S'/\Kp H H'/\dLoop ok gg b M (ds.drop (i+1)) L' S',fun σ' H' ⟨q1,q2⟩=>⟨ds.length - (i+1),by omega,rfl,q1,q2⟩,fun x H' y=>?_⟩
  obtain⟨k0,hS0,ix⟩:=y1 x H' y
  have k10:=k1.trans k0
  refine⟨ds[i],L1,S1,_,ix,hL1.kp k0,hS0,w1,fun L2 S2 σ2 H2 q k2 hL2 hS2=>⟨L2,S2,_,hL2,hS2,q,?_⟩⟩
  have r2:=r.kp (k10.trans k2)
  exact⟨fun L3 S3 σ3 H3 q3 k3 hL3 hS3=>⟨hlt,L3,S3,hL3,hS3,(k10.trans k2).trans k3,q3⟩,r2.rt,r2.nx,fun L3 S3 σ3 H3 q3 k3 hL3 hS3=>⟨hlt,L3,S3,hL3,hS3,(k10.trans k2).trans k3,q3⟩⟩
 ·have e:i=ds.length:=by omega
  subst e
  rw [List.drop_length] at w1
  obtain⟨o1,w1⟩:=w1
  exact .inl ⟨hst S1 H1 k1 hS1 o1,r.nx L1 S1 σ1 H1 w1 k1 hL1 hS1⟩
theorem zip_go {K:Fg} {H1:Hp} {q1 q2:List D×Option Addr} {a1 a2:Addr} {b1 b2:Bool} (y1:∀ S2 H2,Kp H1 H2->Hs K H2 S2->okFor q1 S2->∃ xs,SqB b1 K H2 a1 xs/\IsDs K H2 q1.1 xs) (y2:∀ S2 H2,Kp H1 H2->Hs K H2 S2->okFor q2 S2->∃ xs,SqB b2 K H2 a2 xs/\IsDs K H2 q2.1 xs):
  (∀ i d S2 H2,(zipD q1.1 q2.1)[i]?=some d->Kp H1 H2->Hs K H2 S2->(okFor q1 S2/\okFor q2 S2)->(Itz K b1 b2 a1 a2).go i H2/\∀ x H',(Itz K b1 b2 a1 a2).yld i H2 x H'->Kp H2 H'/\Hs K H' S2/\IsD K H' d x)/\
  ∀ S2 H2,Kp H1 H2->Hs K H2 S2->(okFor q1 S2/\okFor q2 S2)->(Itz K b1 b2 a1 a2).stop (zipD q1.1 q2.1).length H2:=by
 refine⟨fun i c S2 H2 e k2 hS2 o2=>?_,fun S2 H2 k2 hS2 o2=>?_⟩
 ·obtain⟨xs,w1,u1⟩:=y1 S2 H2 k2 hS2 o2.1
  obtain⟨ys,w2,u2⟩:=y2 S2 H2 k2 hS2 o2.2
  obtain⟨c1,c2,f1,f2,rfl⟩:∃ c1 c2,q1.1[i]?=some c1/\q2.1[i]?=some c2/\D.tup [c1,c2]=c:=by
   unfold zipD at e
   rw [List.getElem?_zipWith] at e
   cases z1:q1.1[i]? with
   | none=>rw [z1] at e; cases e
   | some c1=>
    cases z2:q2.1[i]? with
    | none=>rw [z1,z2] at e; cases e
    | some c2=>rw [z1,z2] at e; exact⟨c1,c2,rfl,rfl,Option.some.inj e⟩
  obtain⟨v1,g1,r1⟩:=u1.get f1
  obtain⟨v2,g2,r2⟩:=u2.get f2
  refine⟨⟨xs,ys,v1,v2,w1,w2,g1,g2⟩,?_⟩
  rintro x H' ⟨T,x',y',rfl,hT,rfl,al⟩
  obtain⟨l1,l2⟩:=al xs ys w1 w2
  rw [g1] at l1
  rw [g2] at l2
  cases l1
  cases l2
  have kn:Kp H2 (upd H2 T (.tup [v1,v2])):=Kp.new hT
  exact⟨kn,hS2.new hT,isTup.mpr ⟨T,[v1,v2],rfl,SqT.of upd_same,IsDs.cons (r1.kp kn) (IsDs.cons (r2.kp kn) IsDs.nil)⟩⟩
 ·obtain⟨xs,w1,u1⟩:=y1 S2 H2 k2 hS2 o2.1
  obtain⟨ys,w2,u2⟩:=y2 S2 H2 k2 hS2 o2.2
  refine⟨xs,ys,w1,w2,?_⟩
  rw [<- u1.length,<- u2.length]
  unfold zipD
  rw [List.length_zipWith]
  omega
def dForZ (ta:DA) (g:DG) (b:DS):DS:=fun M L S=>ta L S fun ds S1=>match ds with
 | [d1,d2]=>∃ q1 q2,dItems S1 d1=some q1/\dItems S1 d2=some q2/\dLoop (fun S=>okFor q1 S/\okFor q2 S) g b M (zipD q1.1 q2.1) L S1
 | _=>False
section
variable {X:Cx} {a b:Expr} {es:List Expr} {kt:Nat} {tp p pos pos':Pos} {gg:DG} {ta:DA} {g:DS} {body:List Stmt} {tg:Expr}
theorem dst_forZj (hp:PassesOwn (model X.prog X.w) X.A X.env X.xe) (hc:X.calm=true) (hgl:Gl X "zip") (hm:X.mg "zip"=none) (ha:AJ X [a,b] ta) (hg:GJ X (.Tuple es kt tp) gg) (hb:SsJ X body g)
  (hs1:starEach [a,b] X.env=[(false,eval a X.env),(false,eval b X.env)]:=by rfl) (hs2:starEach [b] X.env=[(false,eval b X.env)]:=by rfl) (hs:∀ x,foldedSetIterable (.Call (.Name "zip" p) [a,b] [] pos') X.env x=pure x:=by intro _; rfl):
  SJ X (.For (.Tuple es kt tp) (.Call (.Name "zip" p) [a,b] [] pos') body [] pos) (dForZ ta gg g):=
 ⟨PS.imp (ps_for hp hc (pi_zip hgl hm ha.h hs1 hs2) hg.h hb.h hs) fun N σ H ⟨L,S,M,hL,hS,h,r⟩=>upA.go hL hS h fun ds S1 vs H1 h1 k1 hL1 hS1 i1=>by
  split at h1
  ·rename_i d1 d2
   obtain⟨v1,v2,rfl,j1,j2⟩:=isDs2 i1
   obtain⟨q1,q2,e1,e2,h1⟩:=h1
   obtain⟨a1,b1,rfl,x1,y1⟩:=seq_kd hS1 j1 e1
   obtain⟨a2,b2,rfl,x2,y2⟩:=seq_kd hS1 j2 e2
   obtain⟨z1,z2⟩:=zip_go y1 y2
   exact⟨a1,a2,b1,b2,rfl,x1,x2,for_coreG hL1 hS1 h1 (r.kp k1) z1 z2⟩
  ·exact h1.elim⟩
end
section
variable {X:Cx} {pos:Pos}
theorem loop_ix {ok:DH->Prop} {g:DG} {b:DS} {M:DEnds} (Iv:List D->Lo->DH->Prop) (hok:∀ r L S,Iv r L S->ok S)
  (hs:∀ d r L S N,Iv (d::r) L S->(∀ L' S',Iv r L' S'->N L' S')->g d L S fun L1 S1=>b {M with nx:=N,ct:=N,bk:=M.nx} L1 S1) (hd:∀ L S,Iv [] L S->M.nx L S):∀ r L S,Iv r L S->dLoop ok g b M r L S
 | [],L,S,i=>⟨hok [] L S i,hd L S i⟩
 | d::r,L,S,i=>⟨hok _ L S i,hs d r L S _ i fun L' S' i'=>loop_ix Iv hok hs hd r L' S' i'⟩
end
end DL
namespace L2
open PySem PySem.Spec PyProof.Rows
def CXE (P:Program) (w:World):CXT:=fun outer H s E e s'=>∃ (ea:Addr) (cls a0:Value) (H':Hp) (B:Heap),e=.ref ea/\s'.os=s.os/\AllBare s'.gens/\Heap.FlyingW B outer ea cls a0 s'.heap/\HOk P w H' B/\
 (∀ b o,s.heap.get? b=some o->H b=none->b∉frs outer->B.get? b=some o)/\(∀ b o,s.heap.get? b=some o->b∉frs outer->∃ o',B.get? b=some o')/\Un (frs outer) [] H H' s.heap s'.heap/\E cls none H'
section
variable {P:Program} {w:World} {K:PySem.W.Frag} {mg:Str->Option Value} {base:Heap} {N:List Str} {qual:Str} {scope:Scope} {f:Addr} {cd:Value} {A:Around} {outer:List Env} {s0:Shared} {H0:Hp} {E:XK}
theorem cx_out {pins:List (Addr×Obj)} {σ:St} {H H':Hp} {s:Shared} {sx:Shared} {B h':Heap} {ea:Addr} {cls a0:Value} (I:Inv (cxOf (CXE P w) P w K mg base N qual scope f cd A outer s0 H0 E) pins σ H s) (os:sx.os=s.os) (bare:AllBare sx.gens)
  (fl:Heap.FlyingW B outer ea cls a0 h') (hok:HOk P w H' B) (hB:∀ b o,s.heap.get? b=some o->H b=none->b∉frs (cxOf (CXE P w) P w K mg base N qual scope f cd A outer s0 H0 E).stack->B.get? b=some o)
  (hB2:∀ b o,s.heap.get? b=some o->b∉frs (cxOf (CXE P w) P w K mg base N qual scope f cd A outer s0 H0 E).stack->∃ o',B.get? b=some o')
  (hsl:∀ b∈frs outer,∀ o,s.heap.get? b=some o->∃ sl,h'.get? b=some {o with slots:=sl}) (fr:∀ b o,s.heap.get? b=some o->H b=none->H' b=none) (tu:∀ b xs,H b=some (.tup xs)->H' b=some (.tup xs)) (fz:∀ b o u,H b=some (.frz o u)->H' b=some (.frz o u))
  (tb:∀ b ps,H b=some (.tbl ps)->∃ more,H' b=some (.tbl (ps++more))) (q:E cls none H'):CXE P w outer H0 s0 E (.ref ea) {sx with heap:=h'}:=by
 have nst:∀ b o,s0.heap.get? b=some o->b∉frs outer->b∉frs (cxOf (CXE P w) P w K mg base N qual scope f cd A outer s0 H0 E).stack:=fun b o e hb z=>by
  rcases List.mem_cons.mp (I.stkSub b z) with z | z
  ·have:=Heap.lt_size e
   have ab:=I.ok.above
   rw [z] at this
   exact absurd (Nat.lt_of_lt_of_le this ab) (Nat.lt_irrefl _)
  ·exact hb z
 have hkeep:∀ b o,s0.heap.get? b=some o->H0 b=none->b∉frs outer->B.get? b=some o:=fun b o e n hb=>
  hB b o (I.base.keep b o e n hb (fun z=>nomatch z)) (I.base.free b o e n (fun z=>nomatch z)) (nst b o e hb)
 have hthere:∀ b o,s0.heap.get? b=some o->b∉frs outer->∃ o',B.get? b=some o':=fun b o e hb=>by
  obtain⟨o',e1⟩:=I.base.there b o e (fun z=>nomatch z)
  exact hB2 b o' e1 (nst b o e hb)
 refine⟨ea,cls,a0,H',B,rfl,os.trans I.os,bare,fl,hok,hkeep,hthere,⟨fun b o e n hb _=>fl.1 _ _ (hkeep b o e n hb),fun b o e n hb _=>?_,fun b o e n _=>?_,fun b o e _=>?_,fun b xs e=>tu _ _ (I.base.tups b xs e),fun b o u e=>fz _ _ _ (I.base.frzs b o u e),fun b ps e=>?_⟩,q⟩
 ·obtain⟨sl,e1⟩:=I.base.slot b o e n hb (fun z=>nomatch z)
  obtain⟨sl',e2⟩:=hsl b hb _ e1
  exact⟨sl',e2⟩
 ·obtain⟨o',e1⟩:=I.base.there b o e (fun z=>nomatch z)
  exact fr b o' e1 (I.base.free b o e n (fun z=>nomatch z))
 ·by_cases hb:b∈frs outer
  ·obtain⟨o',e1⟩:=I.base.there b o e (fun z=>nomatch z)
   obtain⟨sl',e2⟩:=hsl b hb _ e1
   exact⟨_,e2⟩
  ·obtain⟨o',e1⟩:=hthere b o e hb
   exact⟨o',fl.1 _ _ e1⟩
 ·obtain⟨m1,e1⟩:=I.base.tbls b ps e
  obtain⟨m2,e2⟩:=tb b _ e1
  exact⟨m1++m2,by rw [e2,Array.append_assoc]⟩
theorem passesE:Passes (CXE P w) (cxOf (CXE P w) P w K mg base N qual scope f cd A outer s0 H0 E) E:=by
 intro pins σ H s e s' I h
 obtain⟨ea,cls,a0,H',B,rfl,os,bare,fl,hok,hB,hB2,un,q⟩:=h
 show wpAny _ _ (leaving _ (.ref ea)) _ _ s'
 refine wpAny_leaves_onW I.ok.frames rfl fl fun h' fl' up=>?_
 refine cx_out (sx:=s') I os bare fl' hok hB hB2 (fun b hb o e=>?_) (fun b o e n=>un.free b o e n (fun z=>nomatch z)) un.tups un.frzs un.tbls q
 have hb':b∈frs (cxOf (CXE P w) P w K mg base N qual scope f cd A outer s0 H0 E).stack:=List.mem_cons_of_mem _ hb
 have hn:=I.stkFree b hb'
 obtain⟨sl,e1⟩:=un.slot b o e hn hb' (fun z=>nomatch z)
 obtain⟨_,o2,e2,d2⟩:=fl.2.2.1.mem hb'
 rw [e1] at e2
 cases e2
 obtain⟨sl',e3⟩:=up b _ e1 d2
 exact⟨sl',e3⟩
end
theorem exc_own {K:PySem.W.Frag} {C:Addr} {bmB:List Value} {newId:String} {h:Heap} {x:Str} {mg:Str->Option Value} (X:K.In h) (q:PySem.W.excIn K C bmB newId=true) (hm:mg x=some (.ref C)):OwnCls x C bmB newId mg h:=by
 refine⟨hm,?_⟩
 unfold PySem.W.excIn at q
 split at q
 ·rename_i d1 c1 sl hlk
  split at q
  ·rename_i C1 bm a0 a1 a2 a3 nn a5 hmro hsl
   simp only [Bool.and_eq_true,beq_iff_eq,Bool.not_eq_true'] at q
   obtain⟨⟨⟨⟨⟨q1,q2⟩,q3⟩,q4⟩,q5⟩,q6⟩:=q
   subst q1 q2
   obtain⟨v1,v2,v3,v4,v5,v6,v7,v8,v9,v10,v11⟩:=c1
   dsimp only at hmro q3 q5 q6
   subst hmro q3
   obtain⟨l⟩:=sl
   simp only at hsl
   subst hsl
   exact⟨bm,v4,v1,v5,v2,v6,v7,v8,v9,v10,d1,a0,a1,a2,a3,a5,_,X _ _ hlk,.of_isNs (PySem.W.isNs_of_in X q5),PySem.W.nsMap_none_of_in X q5 q6,PySem.W.tail_of_in X q4⟩
  ·cases q
 ·cases q
section
variable {P:Program} {w:World} {K:PySem.W.Frag} {mg:Str->Option Value} {base:Heap} {N:List Str} {qual:Str} {scope:Scope} {f:Addr} {cd:Value} {A:Around} {outer:List Env} {s0:Shared} {H0:Hp} {E:XK}
theorem ps_raise {x t:Str} {C:Addr} {bmB:List Value} {Bn newId initId:String} {j:Nat} {p np cpos pos:Pos} (FB:ExcBaseFacts Bn newId initId bmB) (q:PySem.W.excIn K C bmB newId=true) (hm:mg x=some (.ref C))
  (hg:Gl (cxOf (CXE P w) P w K mg base N qual scope f cd A outer s0 H0 E) x) (hd:(x == ("__debug__":Str))=false:=by decide):
  PS (cxOf (CXE P w) P w K mg base N qual scope f cd A outer s0 H0 E) (.Raise (some (.Call (.Name x np) [.Constant (.str t) j p] [] cpos)) none pos) (fun _ _ H=>E (.ref C) none H):=by
 intro pins s σ H D I h
 obtain⟨tl,Nn,nm,qn,bs,hdct,sn,sub,ab,col,dd,k0,k1,k2,k3,k5,mN,hC,hN,hni,T⟩:=(exc_own (x:=x) I.kIn q hm).obj
 refine wpAny_Raise_call_subT (C:=C) (nm:=nm) (q:=qn) (N:=Nn) (bs:=bs) (bm:=tl) (hdct:=hdct) (sn:=sn) (sub:=sub) (ab:=ab) (col:=col) (dd:=dd) (k0:=k0) (k1:=k1) (k2:=k2) (k3:=k3) (k5:=k5)
  FB (mN:=mN) (T.hasType FB.hasBase) (I.ok.hd rfl) rfl hni (ld_glob I hg hm ⟨rfl,?_⟩ hd)
 refine Calls.evalArgs_plain (Calls.spliced_cons (Calls.Constant_str (k:=j) (pos:=p) (Calls.spliced_nil ⟨rfl,Nat.le_of_ble_eq_true rfl,hC,hN,T,fun h' e hx=>?_⟩)))
 show wpAny _ _ (leaving _ (.ref e)) _ _ _
 have I1:=I.tok (s.toks+1)
 have hin:∀ env∈(cxOf (CXE P w) P w K mg base N qual scope f cd A outer s0 H0 E).stack,∀ b,env.frame=some b->b∈frs (cxOf (CXE P w) P w K mg base N qual scope f cd A outer s0 H0 E).stack:=fun env he b hb=>List.mem_filterMap.mpr ⟨env,he,hb⟩
 refine wpAny_leaves_madeW (base:=PySem.W.hideAll s.heap (frs (cxOf (CXE P w) P w K mg base N qual scope f cd A outer s0 H0 E).stack)) I.ok.frames rfl (fun b o z=>PySem.W.of_hideAll _ z) (PySem.W.funFrames_hide I.stack hin) hx fun h2 t2 fl _ _ up=>?_
 refine cx_out (sx:={s with heap:=h',toks:=s.toks+1}) I rfl I.bare fl (fun b ob z=>?_) (fun b o z _ hb=>PySem.W.hideAll_get _ z hb) (fun b o z hb=>⟨o,PySem.W.hideAll_get _ z hb⟩) (fun b hb o z=>?_) (fun _ _ _ n=>n) (fun _ _ z=>z) (fun _ _ _ z=>z) (fun b ps z=>⟨#[],by rw [z]; simp⟩) h
 ·refine(I.hok b ob z).stay (fun c v hc y=>PySem.W.hideAll_get _ y fun hf=>?_) (fun _ y=>y) fun _ _ y=>y
  have hn:=I.stkFree c hf
  rcases hc with rfl | hc
  ·rw [hn] at z; cases z
  ·rw [hn] at hc; cases hc
 ·obtain⟨_,o2,e2,d2⟩:=I.stack.mem (List.mem_cons_of_mem _ hb)
  rw [z] at e2
  cases e2
  exact up b o (hx.keeps _ _ z) d2
end
end L2
namespace DL
open PySem PySem.Spec PyProof.Rows L2
abbrev DSpX:=List D->DH->DK->(Addr->DH->Prop)->Prop
def spX (K:Fg) (F:DSpX):Sp:=fun vs H Q E=>∃ ds S k x,IsDs K H ds vs/\Hs K H S/\F ds S k x/\(∀ d' S' v H',k d' S'->Kp H H'->Hs K H' S'->IsD K H' d' v->Q v H')/\∀ C S' H',x C S'->Hs K H' S'->E (.ref C) none H'
structure OwnX (P:Program) (w:World) (K:Fg) (mg:Str->Option Value) (base:Heap) (x:Str) (n:Nat) (F:DSpX):Prop where
 ex:∃ f fd ps,FnOk P w K mg base (CXE P w) n f fd ps (spX K F)/\mg x=some (.ref f)/\PySem.W.keepIn K (.ref f)=true/\Binds K fd ps []
section
variable {P:Program} {w:World} {K:Fg} {mg:Str->Option Value} {base:Heap} {N:List Str} {qual:Str} {scope:Scope} {f:Addr} {cd:Value} {A:Around} {outer:List Env} {s0:Shared} {H0:Hp} {E:XK} {ex:Addr->DH->Prop}
theorem dst_raisej {x t:Str} {C:Addr} {bmB:List Value} {Bn newId initId:String} {j:Nat} {p np cpos pos:Pos} (hE:∀ C S' H',ex C S'->Hs K H' S'->E (.ref C) none H') (FB:ExcBaseFacts Bn newId initId bmB) (q:PySem.W.excIn K C bmB newId=true) (hm:mg x=some (.ref C))
  (hg:Gl (cxOf (CXE P w) P w K mg base N qual scope f cd A outer s0 H0 E) x) (hd:(x == ("__debug__":Str))=false:=by decide):
  SJ (cxOf (CXE P w) P w K mg base N qual scope f cd A outer s0 H0 E) (.Raise (some (.Call (.Name x np) [.Constant (.str t) j p] [] cpos)) none pos) (fun _ _ S=>ex C S):=
 ⟨PS.imp (ps_raise FB q hm hg hd) fun _ _ H ⟨_,S,_,_,hS,h,_⟩=>hE C S H h hS⟩
def dCallX (F:DSpX) (ex:Addr->DH->Prop) (t:DA):DE:=fun L S k=>t L S fun ds S1=>F ds S1 k ex
theorem d_callXj {x:Str} {n:Nat} {F:DSpX} {e:Expr} {es:List Expr} {t:DA} {p pos:Pos} (hE:∀ C S' H',ex C S'->Hs K H' S'->E (.ref C) none H') (c:OwnX P w K mg base x n F) (hr:Room n (cxOf (CXE P w) P w K mg base N qual scope f cd A outer s0 H0 E).A)
  (hg:Gl (cxOf (CXE P w) P w K mg base N qual scope f cd A outer s0 H0 E) x) (ha:AJ (cxOf (CXE P w) P w K mg base N qual scope f cd A outer s0 H0 E) (e::es) t) (hdb:(x == ("__debug__":Str))=false:=by decide)
  (he:starEach (e::es) (cxOf (CXE P w) P w K mg base N qual scope f cd A outer s0 H0 E).env=(false,eval e (cxOf (CXE P w) P w K mg base N qual scope f cd A outer s0 H0 E).env)::starEach es (cxOf (CXE P w) P w K mg base N qual scope f cd A outer s0 H0 E).env:=by exact star_cons rfl)
  (hpl:(backTo pos (starEach es (cxOf (CXE P w) P w K mg base N qual scope f cd A outer s0 H0 E).env)).any (·.1)=false:=by exact star_any rfl):
  EJ (cxOf (CXE P w) P w K mg base N qual scope f cd A outer s0 H0 E) (.Call (.Name x p) (e::es) [] pos) (dCallX F ex t):=by
 obtain⟨g,fd,ps,F1,h1,h2,h3⟩:=c.ex
 refine⟨PE.imp (pe_call F1 hr hg h1 h2 h3 .nil passesE ha.h hdb he hpl) fun σ H Q ⟨L,S,k,hL,hS,h,n⟩=>?_⟩
 refine upA.go hL hS h fun ds S1 vs H1 h1 k1 hL1 hS1 i1=>?_
 show spX K F (vs++[]) H1 Q E
 rw [List.append_nil]
 exact⟨ds,S1,k,ex,i1,hS1,h1,fun d' S' v H' q k3 z1 z2=>n d' S' v H' q (k1.trans k3) z1 z2,hE⟩
theorem _root_.L2.Fun.okX {x qual:Str} {st:Stmt} {f:Addr} {fd:FuncData} {N ps:List Str} {k:Nat} {F:DSpX} (Fn:Fun K x qual st f fd) (Sc:FnScope N ps (defScope st)) (len:∀ ds S k x,F ds S k x->ds.length=ps.length)
  (hbody:∀ (cdv:Value) (A:Around) (outer:List Env) (s:Shared) (H:Hp) (E:XK) (ex:Addr->DH->Prop),Room k (A.deeper (envOfC qual (defScope st) s.heap.objs.size f cdv))->(∀ C S' H',ex C S'->Hs K H' S'->E (.ref C) none H')->
   ∃ g,SsJ (cxOf (CXE P w) P w K mg base N qual (defScope st) f cdv A outer s H E) (defBody st) g/\
    ∀ ds S k,F ds S k ex->g {nx:=fun _ S'=>k .non S',rt:=k} (ds.map some++List.replicate (N.length - ps.length) none) S):FnOk P w K mg base (CXE P w) (k+1) f fd ps (spX K F):=by
 obtain⟨oc,od,kV,doc,pm,an,cdv,ct,osl,rfl,lk,hcd⟩:=Fn.ex
 refine fn_of lk hcd Sc (fun vs H Q E h=>?_) fun A outer s H vs Q E hr h=>?_
 ·obtain⟨ds,S,k,x,i,_,q,_⟩:=h
  rw [<- i.length]
  exact len ds S k x q
 ·obtain⟨ds,S,k',x,i,hS,h,n,hE⟩:=h
  obtain⟨g,hg,q⟩:=hbody cdv A outer s H E x hr hE
  refine⟨_,hg.h,ds.map some++List.replicate (N.length - ps.length) none,S,_,?_,hS,q ds S k' h,?_⟩
  ·unfold L2.start
   rw [<- i.length,len ds S k' x h]
   exact Lc.start _ i
  ·exact⟨fun L S' σ H' h1 k1 _ hS'=>n _ S' _ H' h1 k1 hS' (isNon.mpr rfl),fun d S' v H' h1 k1 hS' i1=>n d S' v H' h1 k1 hS' i1,fun _ _ _ _ h1=>h1.elim,fun _ _ _ _ h1=>h1.elim⟩
end
section
variable {X:Cx} {pins:List (Addr×Obj)} {σ:L2.St} {H:Hp} {s:Shared}
theorem eqL_at (I:Inv X pins σ H s) {S:DH} {a c:Addr} {ds es:List D} {b:Bool} (hS:Hs X.K H S) (h1:S a=some (.lst ds)) (h2:S c=some (.lst es)) (hl:ds.length=es.length) (A:Around) (hu:A.units+8 < cLine) (h:eqTs (eqT 7) ds es=some b):
  SeqAt.RcAt A s (.ref a) (.ref c) b/\SeqAt.RcNeAt A s (.ref a) (.ref c) (!b):=by
 obtain⟨xs,q1,j1⟩:=hS.lst h1
 obtain⟨ys,q2,j2⟩:=hS.lst h2
 obtain⟨us,r1,p1,_⟩:=I.list (SqL.of q1)
 obtain⟨ws,r2,p2,_⟩:=I.list (SqL.of q2)
 have l1:=j1.length
 have l2:=j2.length
 have l3:=r1.length
 have l4:=r2.length
 have hsz:us.toArray.size=ws.toArray.size:=by simp only [List.size_toArray]; omega
 have he:∀ j (h1:j < us.toArray.size) (h2:j < ws.toArray.size),SeqAt.EqAt A.in1 s us.toArray[j] ws.toArray[j] (eqAts (eqT 7) ds es j):=fun j h1 h2=>by
  simp only [List.size_toArray] at h1 h2
  obtain⟨d,e,x,y,q1,q2,d1,d2,rx,ry⟩:=pair_at j1 j2 r1 r2 h1 h2
  have:=(eqT_at I 7 A.in1 d e x y us[j] ws[j] _ (by show A.units+1+7 < cLine; omega) (eqTs_at h q1 q2) d1 d2 rx ry).1
  simpa using this
 have e:=eqTs_all h
 rw [hl,Nat.min_self] at e
 have e:(List.range us.toArray.size).all (eqAts (eqT 7) ds es)=b:=by
  simp only [List.size_toArray]
  rw [<- l3,<- l1,hl]
  simpa using e
 refine⟨?_,?_⟩
 ·have z:=SeqAt.RcAt.lists p1.isList p2.isList hsz (by omega) he
  rw [e] at z
  exact z
 ·have z:=SeqAt.RcNeAt.lists p1.isList p2.isList hsz (by omega) he
  rw [e] at z
  exact z
end
def dEqX:D2:=fun d e S k=>match d,e with
 | .ref a,.ref c=>∃ xs ys b,S a=some (.lst xs)/\S c=some (.lst ys)/\xs.length=ys.length/\eqTs (eqT 7) xs ys=some b/\k (.bl b) S
 | d,e=>∃ b,eqT 8 d e=some b/\k (.bl b) S
def dNeX:D2:=fun d e S k=>match d,e with
 | .ref a,.ref c=>∃ xs ys b,S a=some (.lst xs)/\S c=some (.lst ys)/\xs.length=ys.length/\eqTs (eqT 7) xs ys=some b/\k (.bl (!b)) S
 | d,e=>∃ b,eqT 8 d e=some b/\k (.bl (!b)) S
theorem o_eqX {X:Cx} {n:Nat} (hr:Room n X.A):OpR X (compareOp .Eq) (upR X.K dEqX):=by
 intro pins s σ H x y v u Q I rx ry h
 obtain⟨d,e,S,k,i1,i2,hS,r,m⟩:=h
 have hu:=hr.units
 unfold dEqX at r
 split at r
 ·obtain⟨xs,ys,b,h1,h2,h3,h4,w⟩:=r
  have e1:=isRef.mp i1
  have e2:=isRef.mp i2
  subst e1 e2
  cases rx
  cases ry
  exact(eqL_at I hS h1 h2 h3 X.A (by omega) h4).1 X.prog X.w X.xe _ ⟨.bl b,H,I,rfl,up1 m hS w (isBl.mpr rfl)⟩
 ·obtain⟨b,h1,w⟩:=r
  exact(eqT_at I 8 X.A d e x y v u b (by omega) h1 i1 i2 rx ry).2 X.prog X.w X.xe _ ⟨.bl b,H,I,rfl,up1 m hS w (isBl.mpr rfl)⟩
theorem o_neX {X:Cx} {n:Nat} (hr:Room n X.A):OpR X (compareOp .NotEq) (upR X.K dNeX):=by
 intro pins s σ H x y v u Q I rx ry h
 obtain⟨d,e,S,k,i1,i2,hS,r,m⟩:=h
 have hu:=hr.units
 unfold dNeX at r
 split at r
 ·obtain⟨xs,ys,b,h1,h2,h3,h4,w⟩:=r
  have e1:=isRef.mp i1
  have e2:=isRef.mp i2
  subst e1 e2
  cases rx
  cases ry
  exact(eqL_at I hS h1 h2 h3 X.A (by omega) h4).2 X.prog X.w X.xe _ ⟨.bl (!b),H,I,rfl,up1 m hS w (isBl.mpr rfl)⟩
 ·obtain⟨b,h1,w⟩:=r
  exact eqT_ne I 8 X.A d e x y v u b (by omega) h1 i1 i2 rx ry X.prog X.w X.xe _ ⟨.bl (!b),H,I,rfl,up1 m hS w (isBl.mpr rfl)⟩
theorem OwnX.mk' {P:Program} {w:World} {K:Fg} {mg:Str->Option Value} {base:Heap} {x qual:Str} {st:Stmt} {f:Addr} {fd:FuncData} {ps:List Str} {n:Nat} {F:DSpX} (Fn:Fun K x qual st f fd) (h:FnOk P w K mg base (CXE P w) n f fd ps (spX K F)) (hm:mg x=some (.ref f)) (hb:Binds K fd ps []):OwnX P w K mg base x n F:=
 ⟨f,fd,ps,h,hm,Fn.kp,hb⟩
end DL
namespace L2
open PySem PySem.Spec PyProof.Rows
section
variable {X:Cx}
theorem vals_intsM:∀ {vs:List Value} {ns:List Int},IntsAre vs ns->Vals (ns.map V.int) vs
 | _,_,.nil=>.nil
 | _,_,.cons n t r=>.cons ⟨t,rfl⟩ (vals_intsM r)
end
end L2
namespace DL
open PySem PySem.Spec PyProof.Rows L2
theorem isDs_intsM {K:Fg} {H:Hp}:∀ {ns:List Int} {vs:List V},IsDs K H (ns.map D.int) vs->vs=ns.map V.int
 | [],vs,h=>by
  have:=h.length
  exact List.length_eq_zero_iff.mp this.symm
 | n::ns,vs,h=>by
  obtain⟨u,r,rfl,h1,h2⟩:=isCons.mp h
  rw [isInt.mp h1,isDs_intsM h2]
  rfl
theorem ints_isDsM {K:Fg} {H:Hp}:∀ {ns:List Int},IsDs K H (ns.map D.int) (ns.map V.int)
 | []=>IsDs.nil
 | _::_=>IsDs.cons (isInt.mpr rfl) ints_isDsM
end DL
set_option linter.all false
namespace DT
abbrev Mx:=Nat->Nat->Rat
def sm:Nat->(Nat->Rat)->Rat
 | 0,_=>0
 | n+1,f=>sm n f+f n
def sk (i r:Nat):Nat:=if r < i then r else r+1
def sg (n:Nat):Rat:=if n % 2=0 then 1 else -1
def cl (M:Mx) (a:Nat) (u:Nat->Rat):Mx:=fun r c=>if c=a then u r else M r c
end DT
namespace L2
open PySem PySem.Spec PyProof.Rows
theorem best_max (val:Nat->Int):∀ k,argBest (fun i j=>decide (val i > val j)) k<=k/\∀ i,i<=k->val i<=val (argBest (fun i j=>decide (val i > val j)) k)
 | 0 => ⟨Nat.le_refl _, fun i h => by have : i = 0 := by omega
                                      subst this; exact Int.le_refl _⟩
 | k+1=>by
  obtain⟨h1,h2⟩:=best_max val k
  unfold argBest
  by_cases h:val (k+1) > val (argBest (fun i j=>decide (val i > val j)) k)
  ·rw [if_pos (decide_eq_true h)]
   refine⟨Nat.le_refl _,fun i hi=>?_⟩
   by_cases e:i=k+1
   ·subst e; exact Int.le_refl _
   ·have:=h2 i (by omega); omega
  ·rw [if_neg (by simpa using h)]
   refine⟨by omega,fun i hi=>?_⟩
   by_cases e:i=k+1
   ·subst e; omega
   ·exact h2 i (by omega)
theorem vals_get:∀ {ns:List Int} {vs:List Value} {i:Nat} {v:Value},Vals (ns.map V.int) vs->vs[i]?=some v->∃ t,v=.int (ns.getD i 0) t
 | [],_,i,v,.nil,h=>by simp at h
 | n::ns,_,0,v,.cons r _,h=>by
  obtain⟨t,e⟩:=r
  simp at h
  exact⟨t,by rw [<- h,e]; rfl⟩
 | n::ns,u::us,i+1,v,.cons _ t,h=>by
  have h:us[i]?=some v:=by simpa using h
  obtain⟨t',e⟩:=vals_get t h
  exact⟨t',by rw [e]; rfl⟩
section
variable {X:Cx}
theorem fin_walk {pins:List (Addr×Obj)} {σ:St} {H:Hp} {s:Shared} {a:Addr} {Q:VK} {nm:String} (I:Inv X pins σ H s) {v:V} {u:Value} (r:RelV v u) (q:Q v H) (h':Heap) (tk:Nat)
  (kk:∀ c o,c∉[s.heap.objs.size]->(s.heap.push {cls:=.type nm,data:=.fields #[.ref a,.int 0 0]}).get? c=some o->h'.get? c=some o):EP X pins σ Q u {s with heap:=h',toks:=tk}:=by
 have I1:Inv X pins σ H {s with heap:=s.heap.push {cls:=.type nm,data:=.fields #[.ref a,.int 0 0]}}:=I.kept (t':=s.toks) fun c o e=>Heap.get?_push_of_some _ e
 refine⟨v,H,Inv.turnedL (s:={s with heap:=s.heap.push {cls:=.type nm,data:=.fields #[.ref a,.int 0 0]}}) (t':=tk) [s.heap.objs.size] I1 kk (fun c hc=>?_),r,q⟩
 have e:c=s.heap.objs.size:=by simpa using hc
 subst e
 exact I.fpOk (Nat.le_refl _) (I.hok.fresh (Nat.le_refl _))
theorem fp_lt {s:Shared} {a:Addr} {o:Obj} (hlt:a < s.heap.objs.size) (ho:o.isFreed=false:=by rfl):∀ b∈[s.heap.objs.size,a],b < (s.heap.push o).objs.size:=fun b hb=>by
 have hz:s.heap.objs.size < (s.heap.push o).objs.size:=Heap.lt_size (Heap.get?_push_size _ ho)
 simp only [List.mem_cons,List.not_mem_nil,or_false] at hb
 rcases hb with e | e
 ·rw [e]; exact hz
 ·rw [e]; exact Nat.lt_trans hlt hz
theorem call_maxL (hc:X.calm=true):CallR X (.builtin "max") (fun xs H Q=>∃ (p:Addr) (ns:List Int),xs=[.ref p]/\SqL X.K H p (ns.map V.int)/\ns≠[]/\∀ m:Int,m∈ns->(∀ x∈ns,x<=m)->Q (.int m) H):=by
 intro pins s σ H xs us Q I r h
 obtain⟨p,ns,rfl,hq,hn,q⟩:=h
 obtain⟨u,rfl,rx⟩:=vals1 r
 cases rx
 obtain⟨its,rv,pl,hz⟩:=I.list hq
 have hl:=rv.length
 rw [List.length_map] at hl
 have hlt:=pl.lt
 have n0:0 < ns.length:=List.length_pos_iff.mpr hn
 have hh:X.A.in1.handled=none:=I.ok.hd hc
 have hv:∀ i v,its.toArray[i]?=some v->∃ t,v=Value.int (ns.getD i 0) t:=fun i v h=>vals_get (i:=i) (v:=v) rv (by rw [List.getElem?_toArray] at h; exact h)
 refine call_max_walk (wpAny_pyIter_list pl.isList ?_)
 refine⟨s.heap.objs.size,_,_,_,_,_,fun i j=>decide (ns.getD i 0 > ns.getD j 0),rfl,Walks.list hh s.heap.objs.size p (Nat.ne_of_lt hlt) its.toArray,⟨⟨_,Heap.get?_push_size _ rfl,rfl,rfl⟩,Heap.IsList.at pl.isList fun o e=>Heap.get?_push_of_some _ e⟩,fp_lt hlt,by rw [List.size_toArray]; omega,CmpOf.ints_gt _ hv,fun v h' tk hP kk=>?_⟩
 rw [List.size_toArray,<- hl] at hP
 obtain⟨t,rfl⟩:=hv _ _ hP
 obtain⟨b1,b2⟩:=best_max (fun i=>ns.getD i 0) (ns.length - 1)
 have hm:ns.getD (argBest (fun i j=>decide (ns.getD i 0 > ns.getD j 0)) (ns.length - 1)) 0∈ns:=by
  have hlt2:argBest (fun i j=>decide (ns.getD i 0 > ns.getD j 0)) (ns.length - 1) < ns.length:=by omega
  rw [List.getD_eq_getElem?_getD,List.getElem?_eq_getElem hlt2]
  exact List.getElem_mem hlt2
 refine fin_walk I (show RelV (.int _) (.int _ t) from⟨t,rfl⟩) (q _ hm fun x hx=>?_) h' tk kk
 obtain⟨i,hi,rfl⟩:=List.mem_iff_getElem.mp hx
 have:=b2 i (by omega)
 rw [List.getD_eq_getElem?_getD,List.getElem?_eq_getElem hi] at this
 exact this
end
end L2
namespace DL
open PySem PySem.Spec PyProof.Rows L2
def bMaxX:DSp:=fun ds S k=>match ds with
 | [.ref a]=>∃ ns:List Int,S a=some (.lst (ns.map D.int))/\ns≠[]/\∀ m:Int,m∈ns->(∀ x∈ns,x<=m)->k (.int m) S
 | ds=>bMax ds S k
theorem b_maxX {X:Cx} (hc:X.calm=true:=by rfl):CallR X (.builtin "max") (upC X.K bMaxX):=by
 intro pins s σ H xs us Q I rs h
 obtain⟨ds,S,k,i,hS,r,n⟩:=h
 unfold bMaxX at r
 split at r
 ·obtain⟨x,rfl,i1⟩:=isDs1 i
  have e1:=isRef.mp i1
  subst e1
  obtain⟨ns,z,hl,r⟩:=r
  obtain⟨vs,q1,j⟩:=hS.lst z
  have e:=isDs_intsM j
  subst e
  exact call_maxL hc pins s σ H _ us Q I rs ⟨_,ns,rfl,SqL.of q1,hl,fun m h1 h2=>n _ _ _ _ (r m h1 h2) (Kp.refl H) hS (isInt.mpr rfl)⟩
 ·exact b_max hc pins s σ H xs us Q I rs ⟨_,S,k,i,hS,r,n⟩
end DL
namespace PySem
open Sem (wp)
open Builtin DL
section
variable {prog:Program} {w:World}
def kiO (c:String) (d:Addr) (i n ep:Nat):Obj:={cls:=.type c,dict:=none,data:=.fields #[.ref d,.int i 0,.int n 0,.int ep 0],slots:=#[]}
theorem kiN (it d:Addr) (es:Array DictEntry) (i ep:Nat) (e:DictEntry) (hx:es[i]?=some e):
  MeetsIn prog w (Builtin.«dict_keyiterator.__next__» ⟨[.ref it],[]⟩) (fun _ R s=>s.heap.get? it=some (kiO "dict_keyiterator" d i es.size ep)/\s.heap.get? d=some (dxO es ep)/\
   R (.ok (.ret e.key)) {s with heap:=s.heap.update it (Obj.mapFields (·.setIfInBounds 1 (rawInt ((i:Int)+1))))}):=
 .of_wp fun A R s h=>by
  obtain⟨hp,g,dr,tk,os⟩:=s
  obtain⟨h1,h2,h⟩:=h
  wp_walk
  have z:(if (i:Int) < 0 then none else es[(i:Int).toNat]?)=some e:=by
   rw [if_neg (by omega),Int.toNat_natCast]; exact hx
  rw [z]
  wp_walk
  exact⟨_,rfl,h⟩
theorem ext_ub {h:Heap} {it:Addr} (f:Obj->Obj) (o o':Obj):Heap.ExtBut it h (((h.update it f).push o).push o'):=fun b u nb e=>
 Heap.get?_push_of_some _ (Heap.get?_push_of_some _ ((Heap.get?_update_other _ _ (Ne.symm nb)).trans e))
theorem kiE (it d:Addr) (es:Array DictEntry) (i ep:Nat) (hx:es[i]?=none):
  MeetsIn prog w (Builtin.«dict_keyiterator.__next__» ⟨[.ref it],[]⟩) (fun A R s=>A.handled=none/\s.heap.get? it=some (kiO "dict_keyiterator" d i es.size ep)/\s.heap.get? d=some (dxO es ep)/\
   (∀ h' e,Heap.ExtBut it s.heap h'->(∃ o,h'.get? e=some o/\o.cls=.type "StopIteration")->R (.error (.ref e)) {s with heap:=h'})):=
 .of_wp fun A R s h=>by
  obtain⟨hp,g,dr,tk,os⟩:=s
  obtain⟨h0,h1,h2,h⟩:=h
  wp_walk
  have z:(if (i:Int) < 0 then none else es[(i:Int).toNat]?)=none:=by
   rw [if_neg (by omega),Int.toNat_natCast]; exact hx
  rw [z]
  wp_walk
  unfold raiseNew
  refine wpAny_bind (wpAny_handled ?_)
  rw [show A.in1.handled=none from h0]
  exact wpAny_bind (wpAny_pure (wpAny_throw (h _ _ (ext_ub _ _ _) ⟨_,Heap.get?_push_size _ rfl,rfl⟩)))
theorem iiI (v d:Addr) (es:Array DictEntry) (ep:Nat):
  MeetsIn prog w (Builtin.«dict_items.__iter__» ⟨[.ref v],[]⟩) (fun _ R s=>s.heap.get? v=some {cls:=.type "dict_items",data:=.fields #[.ref d]}/\s.heap.get? d=some (dxO es ep)/\
   R (.ok (.ret (.ref s.heap.objs.size))) {s with heap:=s.heap.push {cls:=.type "dict_itemiterator",data:=.fields #[.none,.bool false,.ref d,.int 0 0,.int es.size 0,.int ep 0,.none,.none]}}):=
 .of_wp fun A R s h=>by
  obtain⟨hp,g,dr,tk,os⟩:=s
  obtain⟨h1,h2,h⟩:=h
  wp_walk
  exact⟨_,rfl,h⟩
def iiO (x d:Value) (i n ep:Nat) (ok ov:Value):Obj:={cls:=.type "dict_itemiterator",dict:=none,data:=.fields #[x,.bool false,d,.int i 0,.int n 0,.int ep 0,ok,ov],slots:=#[]}
theorem iiN (it d:Addr) (es:Array DictEntry) (i ep:Nat) (e:DictEntry) (ok ov:Value) (hx:es[i]?=some e):
  MeetsIn prog w (Builtin.«dict_itemiterator.__next__» ⟨[.ref it],[]⟩) (fun _ R s=>s.heap.get? it=some (iiO .none (.ref d) i es.size ep ok ov)/\s.heap.get? d=some (dxO es ep)/\
   ∀ h',h'.get? it=some (iiO (rawInt s.heap.objs.size) (.ref d) (i+1) es.size ep e.key e.val)->h'.get? s.heap.objs.size=some {cls:=.type "tuple",data:=.seq #[e.key,e.val]}->
    (∀ b o,b≠it->s.heap.get? b=some o->h'.get? b=some o)->R (.ok (.ret (.ref s.heap.objs.size))) {s with heap:=h'}):=
 .of_wp fun A R s h=>by
  obtain⟨hp,g,dr,tk,os⟩:=s
  obtain⟨h1,h2,h⟩:=h
  have lt:it < hp.objs.size:=Heap.lt_size h1
  wp_walk
  have z:(if (i:Int) < 0 then none else es[(i:Int).toNat]?)=some e:=by
   rw [if_neg (by omega),Int.toNat_natCast]; exact hx
  rw [z]
  have T0:Shared.TypeIs ⟨hp,g,dr,tk,os⟩ (.ref it) "dict_itemiterator":=⟨_,h1,rfl⟩
  refine wpAny_bind (wpAny_bind (wpAny_typeNameOfWhole_itemiter T0 (wpAny_pure (wpAny_bind (wpAny_isOneOf_itemiter T0 ?_)))))
  refine wpAny_bind (m:=setField (.ref it) 3 (rawInt ((i:Int)+1))) (wpAny_setField_rec h1 (by simp) fun k1 a1 b1=>?_)
  have a2:k1.get? it=some (iiO .none (.ref d) (i+1) es.size ep ok ov):=a1
  have T1:Shared.TypeIs ⟨k1,g,dr,tk,os⟩ (.ref it) "dict_itemiterator":=⟨_,a2,rfl⟩
  refine wpAny_bind (wpAny_holding (wpAny_bind (wpAny_isOneOf_itemiter T1 (wpAny_bind (wpAny_isOneOf_itemiter T1 ?_)))))
  refine wpAny_bind (m:=newTuple [e.key,e.val]) (wpAny_newTuple ?_)
  have sz:k1.objs.size=hp.objs.size:=b1.1
  generalize q2:k1.push {cls:=.type "tuple",data:=.seq #[e.key,e.val]}=k2
  have a3:k2.get? it=some (iiO .none (.ref d) (i+1) es.size ep ok ov):=by rw [<- q2]; exact Heap.get?_push_of_some _ a2
  have t3:k2.get? hp.objs.size=some {cls:=.type "tuple",data:=.seq #[e.key,e.val]}:=by rw [<- q2,<- sz]; exact Heap.get?_push_size _ rfl
  have o3:∀ b o,b≠it->hp.get? b=some o->k2.get? b=some o:=fun b o nb x=>by rw [<- q2]; exact Heap.get?_push_of_some _ (b1.extBut b o nb x)
  rw [sz]
  refine wpAny_bind (wpAny_bind (wpAny_field a3 rfl (x:=.none) rfl (wpAny_pure ?_)))
  refine wpAny_bind (wpAny_field a3 rfl (x:=ok) rfl (wpAny_bind (wpAny_field a3 rfl (x:=ov) rfl ?_)))
  refine wpAny_bind (wpAny_setField_rec a3 (by simp) fun k3 a4 b4=>wpAny_bind (wpAny_setField_rec a4 (by simp) fun k4 a5 b5=>wpAny_bind (wpAny_setField_rec a5 (by simp) fun k5 a6 b6=>wpAny_bind (wpAny_setField_rec a6 (by simp) fun k6 a7 b7=>?_))))
  have far:∀ b o,b≠it->k2.get? b=some o->k6.get? b=some o:=fun b o nb x=>b7.extBut b o nb (b6.extBut b o nb (b5.extBut b o nb (b4.extBut b o nb x)))
  exact wpAny_bind (wpAny_letGo (wpAny_pure (wpAny_pure ⟨_,rfl,h k6 a7 (far _ _ (Nat.ne_of_gt lt) t3) fun b o nb x=>far b o nb (o3 b o nb x)⟩)))
theorem viN (it d:Addr) (es:Array DictEntry) (i ep:Nat) (e:DictEntry) (hx:es[i]?=some e):
  MeetsIn prog w (Builtin.«dict_valueiterator.__next__» ⟨[.ref it],[]⟩) (fun _ R s=>s.heap.get? it=some (kiO "dict_valueiterator" d i es.size ep)/\s.heap.get? d=some (dxO es ep)/\
   R (.ok (.ret e.val)) {s with heap:=s.heap.update it (Obj.mapFields (·.setIfInBounds 1 (rawInt ((i:Int)+1))))}):=
 .of_wp fun A R s h=>by
  obtain⟨hp,g,dr,tk,os⟩:=s
  obtain⟨h1,h2,h⟩:=h
  wp_walk
  have z:(if (i:Int) < 0 then none else es[(i:Int).toNat]?)=some e:=by
   rw [if_neg (by omega),Int.toNat_natCast]; exact hx
  rw [z]
  wp_walk
  exact⟨_,rfl,h⟩
theorem viE (it d:Addr) (es:Array DictEntry) (i ep:Nat) (hx:es[i]?=none):
  MeetsIn prog w (Builtin.«dict_valueiterator.__next__» ⟨[.ref it],[]⟩) (fun A R s=>A.handled=none/\s.heap.get? it=some (kiO "dict_valueiterator" d i es.size ep)/\s.heap.get? d=some (dxO es ep)/\
   (∀ h' e,Heap.ExtBut it s.heap h'->(∃ o,h'.get? e=some o/\o.cls=.type "StopIteration")->R (.error (.ref e)) {s with heap:=h'})):=
 .of_wp fun A R s h=>by
  obtain⟨hp,g,dr,tk,os⟩:=s
  obtain⟨h0,h1,h2,h⟩:=h
  wp_walk
  have z:(if (i:Int) < 0 then none else es[(i:Int).toNat]?)=none:=by
   rw [if_neg (by omega),Int.toNat_natCast]; exact hx
  rw [z]
  wp_walk
  unfold raiseNew
  refine wpAny_bind (wpAny_handled ?_)
  rw [show A.in1.handled=none from h0]
  exact wpAny_bind (wpAny_pure (wpAny_throw (h _ _ (ext_ub _ _ _) ⟨_,Heap.get?_push_size _ rfl,rfl⟩)))
theorem iiE (it d:Addr) (es:Array DictEntry) (i ep:Nat) (ok ov:Value) (hx:es[i]?=none):
  MeetsIn prog w (Builtin.«dict_itemiterator.__next__» ⟨[.ref it],[]⟩) (fun A R s=>A.handled=none/\s.heap.get? it=some (iiO .none (.ref d) i es.size ep ok ov)/\s.heap.get? d=some (dxO es ep)/\
   (∀ h' e,Heap.ExtBut it s.heap h'->(∃ o,h'.get? e=some o/\o.cls=.type "StopIteration")->R (.error (.ref e)) {s with heap:=h'})):=
 .of_wp fun A R s h=>by
  obtain⟨hp,g,dr,tk,os⟩:=s
  obtain⟨h0,h1,h2,h⟩:=h
  wp_walk
  have z:(if (i:Int) < 0 then none else es[(i:Int).toNat]?)=none:=by
   rw [if_neg (by omega),Int.toNat_natCast]; exact hx
  rw [z]
  wp_walk
  unfold raiseNew
  refine wpAny_bind (wpAny_handled ?_)
  rw [show A.in1.handled=none from h0]
  exact wpAny_bind (wpAny_pure (wpAny_throw (h _ _ (ext_ub _ _ _) ⟨_,Heap.get?_push_size _ rfl,rfl⟩)))
theorem diI (d:Addr) (es:Array DictEntry) (ep:Nat) (hd:(d == sysModules)=false):
  MeetsIn prog w (Builtin.«dict.__iter__» ⟨[.ref d],[]⟩) (fun _ R s=>s.heap.get? d=some (dxO es ep)/\R (.ok (.ret (.ref s.heap.objs.size))) {s with heap:=s.heap.push (kiO "dict_keyiterator" d 0 es.size ep)}):=
 .of_wp fun A R s h=>by
  obtain⟨hp,g,dr,tk,os⟩:=s
  obtain⟨h2,h⟩:=h
  wp_walk
  exact⟨_,rfl,h⟩
theorem diV (d:Addr) (es:Array DictEntry) (ep:Nat) (hd:(d == sysModules)=false):
  MeetsIn prog w (Builtin.«dict.values» ⟨[.ref d],[]⟩) (fun _ R s=>s.heap.get? d=some (dxO es ep)/\R (.ok (.ret (.ref s.heap.objs.size))) {s with heap:=s.heap.push {cls:=.type "dict_values",data:=.fields #[.ref d]}}):=
 .of_wp fun A R s h=>by
  obtain⟨hp,g,dr,tk,os⟩:=s
  obtain⟨h2,h⟩:=h
  wp_walk
  exact⟨_,rfl,h⟩
theorem diT (d:Addr) (es:Array DictEntry) (ep:Nat) (hd:(d == sysModules)=false):
  MeetsIn prog w (Builtin.«dict.items» ⟨[.ref d],[]⟩) (fun _ R s=>s.heap.get? d=some (dxO es ep)/\R (.ok (.ret (.ref s.heap.objs.size))) {s with heap:=s.heap.push {cls:=.type "dict_items",data:=.fields #[.ref d]}}):=
 .of_wp fun A R s h=>by
  obtain⟨hp,g,dr,tk,os⟩:=s
  obtain⟨h2,h⟩:=h
  wp_walk
  exact⟨_,rfl,h⟩
theorem viI (v d:Addr) (es:Array DictEntry) (ep:Nat):
  MeetsIn prog w (Builtin.«dict_values.__iter__» ⟨[.ref v],[]⟩) (fun _ R s=>s.heap.get? v=some {cls:=.type "dict_values",data:=.fields #[.ref d]}/\s.heap.get? d=some (dxO es ep)/\
   R (.ok (.ret (.ref s.heap.objs.size))) {s with heap:=s.heap.push (kiO "dict_valueiterator" d 0 es.size ep)}):=
 .of_wp fun A R s h=>by
  obtain⟨hp,g,dr,tk,os⟩:=s
  obtain⟨h1,h2,h⟩:=h
  wp_walk
  exact⟨_,rfl,h⟩
theorem dLn (d:Addr) (es:Array DictEntry) (ep:Nat) (hd:(d == sysModules)=false):
  MeetsIn prog w (Builtin.«dict.__len__» ⟨[.ref d],[]⟩) (fun _ R s=>s.heap.get? d=some (dxO es ep)/\R (.ok (.ret (.int es.size s.toks))) {s with toks:=s.toks+1}):=
 .of_wp fun A R s h=>by
  obtain⟨hp,g,dr,tk,os⟩:=s
  obtain⟨h2,h⟩:=h
  wp_walk
  refine⟨_,rfl,?_⟩
  rw [show ((es.size:Int)+((0:Nat):Int))=es.size from Int.add_zero _]
  exact h
section
variable {A:Around} {E:Value->Shared->Prop} {s:Shared} {it d v:Addr} {es:Array DictEntry} {i ep:Nat} {e:DictEntry} {ok ov:Value}
theorem pyIter_dk {Q:Value->Shared->Prop} (hd:(d == sysModules)=false) (h2:s.heap.get? d=some (dxO es ep)) (h:Q (.ref s.heap.objs.size) {s with heap:=s.heap.push (kiO "dict_keyiterator" d 0 es.size ep)}):
  wpAny (model prog w) A (pyIter (.ref d)) Q E s:=
 have T:s.TypeIs (.ref d) "dict":=⟨_,h2,rfl⟩
 wpAny_pyIter_slot T F.slot_dict_iter (call_meetsIn F.slot_dict_iter T F.entry_dict_iter (F.args_dict_iter_1 _) (diI d es ep hd) ⟨h2,"dict_keyiterator",_,⟨_,Heap.get?_push_size _ rfl,rfl⟩,F.slot_dict_keyiterator_next.lookup,h⟩)
theorem pyIter_dv {Q:Value->Shared->Prop} (h1:s.heap.get? v=some {cls:=.type "dict_values",data:=.fields #[.ref d]}) (h2:s.heap.get? d=some (dxO es ep)) (h:Q (.ref s.heap.objs.size) {s with heap:=s.heap.push (kiO "dict_valueiterator" d 0 es.size ep)}):
  wpAny (model prog w) A (pyIter (.ref v)) Q E s:=
 have T:s.TypeIs (.ref v) "dict_values":=⟨_,h1,rfl⟩
 wpAny_pyIter_slot T F.slot_dict_values_iter (call_meetsIn F.slot_dict_values_iter T F.entry_dict_values_iter (F.args_dict_values_iter_1 _) (viI v d es ep) ⟨h1,h2,"dict_valueiterator",_,⟨_,Heap.get?_push_size _ rfl,rfl⟩,F.slot_dict_valueiterator_next.lookup,h⟩)
theorem pyIter_di {Q:Value->Shared->Prop} (h1:s.heap.get? v=some {cls:=.type "dict_items",data:=.fields #[.ref d]}) (h2:s.heap.get? d=some (dxO es ep)) (h:Q (.ref s.heap.objs.size) {s with heap:=s.heap.push (iiO .none (.ref d) 0 es.size ep .none .none)}):
  wpAny (model prog w) A (pyIter (.ref v)) Q E s:=
 have T:s.TypeIs (.ref v) "dict_items":=⟨_,h1,rfl⟩
 wpAny_pyIter_slot T F.slot_dict_items_iter (call_meetsIn F.slot_dict_items_iter T F.entry_dict_items_iter (F.args_dict_items_iter_1 _) (iiI v d es ep) ⟨h1,h2,"dict_itemiterator",_,⟨_,Heap.get?_push_size _ rfl,rfl⟩,F.slot_dict_itemiterator_next.lookup,h⟩)
theorem next_of {T id:String} {f:Builtin} {φ} {Q:Option Value->Shared->Prop} (hs:Slot T "__next__" id) (hT:s.TypeIs (.ref it) T) (he:entryFor table id=some f) (ha:argsOk id ⟨[.ref it],[]⟩) (hm:MeetsIn prog w (f ⟨[.ref it],[]⟩) φ)
  (h:φ A (wants (fun u s'=>Q (some u) s') fun e s'=>(∃ a o,e=.ref a/\s'.heap.get? a=some o/\o.cls=.type "StopIteration")/\Q none s') s):wpAny (model prog w) A (pyNext (.ref it)) Q E s:=by
 unfold pyNext
 refine wpAny_bind (wpAny_attempt (wpAny_callSpecial?_slot (name:=Str.ofString "__next__") hT hs (wpAny_mono (call_meetsIn hs hT he ha hm h) (fun u s' q=>wpAny_pure q) fun e s' q=>?_)))
 obtain⟨⟨a,o,rfl,g,c⟩,q⟩:=q
 exact wpAny_bind (wpAny_isInstance (T:="StopIteration") (b:=true) ⟨_,g,c⟩ isSubtype_stop (wpAny_pure q))
inductive DIt where
 | k | v
def DIt.nm:DIt->String
 | .k=>"dict_keyiterator"
 | .v=>"dict_valueiterator"
def DIt.of (e:DictEntry):DIt->Value
 | .k=>e.key
 | .v=>e.val
theorem upd_ki (c:DIt) {h:Heap} {it d:Addr} {i n ep:Nat} (h1:h.get? it=some (kiO c.nm d i n ep)):(h.update it (Obj.mapFields (·.setIfInBounds 1 (rawInt ((i:Int)+1))))).get? it=some (kiO c.nm d (i+1) n ep):=
 Heap.get?_update_self _ h1 rfl
theorem next_dx (c:DIt) {Q:Option Value->Shared->Prop} (h1:s.heap.get? it=some (kiO c.nm d i es.size ep)) (h2:s.heap.get? d=some (dxO es ep)) (hx:es[i]?=some e)
  (h:∀ h',h'.get? it=some (kiO c.nm d (i+1) es.size ep)->(∀ b o,b≠it->s.heap.get? b=some o->h'.get? b=some o)->Q (some (DIt.of e c)) {s with heap:=h'}):wpAny (model prog w) A (pyNext (.ref it)) Q E s:=by
 have far:∀ b o,b≠it->s.heap.get? b=some o->(s.heap.update it (Obj.mapFields (·.setIfInBounds 1 (rawInt ((i:Int)+1))))).get? b=some o:=fun b o nb x=>(Heap.get?_update_other _ _ (Ne.symm nb)).trans x
 have z:=h _ (upd_ki c h1) far
 cases c with
 | k=>exact next_of F.slot_dict_keyiterator_next ⟨_,h1,rfl⟩ F.entry_dict_keyiterator_next (F.args_dict_keyiterator_next_1 _) (kiN it d es i ep e hx) ⟨h1,h2,z⟩
 | v=>exact next_of F.slot_dict_valueiterator_next ⟨_,h1,rfl⟩ F.entry_dict_valueiterator_next (F.args_dict_valueiterator_next_1 _) (viN it d es i ep e hx) ⟨h1,h2,z⟩
theorem next_dxE (c:DIt) {Q:Option Value->Shared->Prop} (hh:A.handled=none) (h1:s.heap.get? it=some (kiO c.nm d i es.size ep)) (h2:s.heap.get? d=some (dxO es ep)) (hx:es[i]?=none)
  (h:∀ h',(∀ b o,b≠it->s.heap.get? b=some o->h'.get? b=some o)->Q none {s with heap:=h'}):wpAny (model prog w) A (pyNext (.ref it)) Q E s:=by
 cases c with
 | k=>exact next_of F.slot_dict_keyiterator_next ⟨_,h1,rfl⟩ F.entry_dict_keyiterator_next (F.args_dict_keyiterator_next_1 _) (kiE it d es i ep hx) ⟨hh,h1,h2,fun h' e x ⟨o,y1,y2⟩=>⟨⟨e,o,rfl,y1,y2⟩,h h' x⟩⟩
 | v=>exact next_of F.slot_dict_valueiterator_next ⟨_,h1,rfl⟩ F.entry_dict_valueiterator_next (F.args_dict_valueiterator_next_1 _) (viE it d es i ep hx) ⟨hh,h1,h2,fun h' e x ⟨o,y1,y2⟩=>⟨⟨e,o,rfl,y1,y2⟩,h h' x⟩⟩
theorem next_di {Q:Option Value->Shared->Prop} (h1:s.heap.get? it=some (iiO .none (.ref d) i es.size ep ok ov)) (h2:s.heap.get? d=some (dxO es ep)) (hx:es[i]?=some e)
  (h:∀ h',h'.get? it=some (iiO (rawInt s.heap.objs.size) (.ref d) (i+1) es.size ep e.key e.val)->h'.get? s.heap.objs.size=some {cls:=.type "tuple",data:=.seq #[e.key,e.val]}->(∀ b o,b≠it->s.heap.get? b=some o->h'.get? b=some o)->
   Q (some (.ref s.heap.objs.size)) {s with heap:=h'}):wpAny (model prog w) A (pyNext (.ref it)) Q E s:=
 next_of F.slot_dict_itemiterator_next ⟨_,h1,rfl⟩ F.entry_dict_itemiterator_next (F.args_dict_itemiterator_next_1 _) (iiN it d es i ep e ok ov hx) ⟨h1,h2,fun h' a b c=>h h' a b c⟩
theorem next_diE {Q:Option Value->Shared->Prop} (hh:A.handled=none) (h1:s.heap.get? it=some (iiO .none (.ref d) i es.size ep ok ov)) (h2:s.heap.get? d=some (dxO es ep)) (hx:es[i]?=none)
  (h:∀ h',(∀ b o,b≠it->s.heap.get? b=some o->h'.get? b=some o)->Q none {s with heap:=h'}):wpAny (model prog w) A (pyNext (.ref it)) Q E s:=
 next_of F.slot_dict_itemiterator_next ⟨_,h1,rfl⟩ F.entry_dict_itemiterator_next (F.args_dict_itemiterator_next_1 _) (iiE it d es i ep ok ov hx) ⟨hh,h1,h2,fun h' e x ⟨o,y1,y2⟩=>⟨⟨e,o,rfl,y1,y2⟩,h h' x⟩⟩
theorem go_di {elts:List Expr} {x1} {pos:Pos} {T:Addr} {Q:Unit->Shared->Prop} (h1:s.heap.get? it=some (iiO (rawInt T) (.ref d) i es.size ep ok ov))
  (h:∀ h',h'.get? it=some (iiO .none (.ref d) i es.size ep ok ov)->(∀ b o,b≠it->s.heap.get? b=some o->h'.get? b=some o)->Q () {s with heap:=h'}):wpAny (model prog w) A (letOwnedTupleGo (.Tuple elts x1 pos) (.ref it) (.ref T)) Q E s:=
 wpAny_letOwnedTupleGo_items h1 fun h' a b=>h h' a fun c o n x=>b.extBut c o n x
theorem self_ki (c:DIt) {n:Nat} {Q:Value->Shared->Prop} (h1:s.heap.get? it=some (kiO c.nm d i n ep)) (h:Q (.ref it) s):wpAny (model prog w) A (pyIter (.ref it)) Q E s:=by
 cases c with
 | k=>exact wpAny_pyIter_keyiter ⟨_,h1,rfl,rfl⟩ h
 | v=>exact wpAny_pyIter_valiter ⟨_,h1,rfl,rfl⟩ h
theorem self_ii {n:Nat} {x:Value} {Q:Value->Shared->Prop} (h1:s.heap.get? it=some (iiO x (.ref d) i n ep ok ov)) (h:Q (.ref it) s):wpAny (model prog w) A (pyIter (.ref it)) Q E s:=by
 have T:s.TypeIs (.ref it) "dict_itemiterator":=⟨_,h1,rfl⟩
 have en:entryFor table "dict_itemiterator.__iter__"=some Builtin.«dict_keyiterator.__iter__»:=PySem.W.kcp_entry
 refine wpAny_pyIter_slot T F.slot_dict_itemiterator_iter (wpAny_call_entry F.slot_dict_itemiterator_iter T en ?_ (F.args_dict_itemiterator_iter_1 _))
 exact wpAny_pure ⟨_,rfl,"dict_itemiterator",_,T,F.slot_dict_itemiterator_next.lookup,h⟩
end
end
end PySem
namespace DL
open PySem PySem.Spec PyProof.Rows L2
def keyD (k:List Int):D:=.tup (k.map .int)
def getT (kvs:List (List Int×D)) (k:List Int):Option D:=(kvs.find? fun p=>decide (p.1=k)).map (·.2)
def putT (kvs:List (List Int×D)) (k:List Int) (d:D):List (List Int×D):=if (getT kvs k).isSome then kvs.map (fun p=>if p.1=k then(p.1,d) else p) else kvs++[(k,d)]
section
variable {K:Fg} {H H':Hp} {S:DH} {p:Addr}
theorem DObj.step' {a:Addr} {o:DO} (z:DObj K H a o) (k:Kp H H') (s:H' a=H a):DObj K H' a o:=
 Hs.step (S:=fun b=>if b=a then some o else none) (fun b u e=>by
  by_cases q:b=a
  ·subst q; cases (if_pos rfl).symm.trans e; exact z
  ·cases (if_neg q).symm.trans e) k (fun b u e=>by
  by_cases q:b=a
  ·subst q; exact s
  ·cases (if_neg q).symm.trans e) a o (if_pos rfl)
theorem Hs.setG {o u:HO} {g:Gen} (h:Hs K H S) (e:H p=some u) (n:¬ Imm u) (r:GObj K (upd H p o) p g):Hs K (upd H p o) (put S p (.gen g)):=fun a ob q=>by
 by_cases z:a=p
 ·subst z
  rw [put_same] at q
  cases q
  exact r
 ·rw [put_ne z] at q
  exact DObj.step' (h a ob q) (Kp.mut e n) (upd_ne z)
theorem Hs.newG {o:HO} {g:Gen} (h:Hs K H S) (e:H p=none) (r:GObj K (upd H p o) p g):Hs K (upd H p o) (put S p (.gen g)):=fun a ob q=>by
 by_cases z:a=p
 ·subst z
  rw [put_same] at q
  cases q
  exact r
 ·rw [put_ne z] at q
  exact DObj.step' (h a ob q) (Kp.new e) (upd_ne z)
theorem Hs.dT {kvs:List (List Int×D)} {ep:Nat} (h:Hs K H S) (e:S p=some (.gen (.dT kvs ep))):∃ xs,H p=some (.ext (DxP p xs ep))/\KtR K H kvs xs:=h p _ e
theorem isDs_intsK:∀ {k:List Int} {xs:List V},IsDs K H (k.map D.int) xs↔xs=k.map V.int
 | [],xs=>isNil
 | i::k,xs=>by
  rw [List.map_cons,List.map_cons,isCons]
  constructor
  ·rintro⟨v,r,rfl,h1,h2⟩
   rw [isInt.mp h1,isDs_intsK.mp h2]
  ·rintro rfl
   exact⟨_,_,rfl,isInt.mpr rfl,isDs_intsK.mpr rfl⟩
theorem isKey {k:List Int} {v:V}:IsD K H (keyD k) v↔∃ b,v=.ref b/\SqT K H b (k.map V.int):=by
 unfold keyD
 rw [isTup]
 constructor
 ·rintro⟨a,xs,e,t,j⟩
  rw [isDs_intsK.mp j] at t
  exact⟨a,e,t⟩
 ·rintro⟨b,e,t⟩
  exact⟨b,_,e,t,isDs_intsK.mpr rfl⟩
variable {kvs:List (List Int×D)} {xs:List (List Int×Addr×Value)}
theorem KtR.get (r:KtR K H kvs xs) (k:List Int):(getT kvs k=none/\atKey xs k=none)\/∃ d b u v,getT kvs k=some d/\atKey xs k=some (b,u)/\RelV v u/\IsD K H d v:=by
 induction r with
 | nil=>exact .inl ⟨rfl,rfl⟩
 | @cons p q ps qs h t ih=>
  obtain⟨h1,h2,v,h3,h4⟩:=h
  by_cases e:p.1=k
  ·exact .inr ⟨p.2,q.2.1,q.2.2,v,by simp [getT,List.find?_cons,e],by simp [atKey,List.find?_cons,h1.symm.trans e],h3,h4⟩
  ·have e':¬ q.1=k:=fun z=>e (h1.trans z)
   have a1:getT (p::ps) k=getT ps k:=by simp [getT,List.find?_cons,e]
   have a2:atKey (q::qs) k=atKey qs k:=by simp [atKey,List.find?_cons,e']
   rw [a1,a2]
   exact ih
theorem KtR.isSome (r:KtR K H kvs xs) (k:List Int):(getT kvs k).isSome=(atKey xs k).isSome:=by
 rcases r.get k with ⟨a,b⟩ | ⟨d,b,u,v,a,c,_⟩
 ·rw [a,b]; rfl
 ·rw [a,c]; rfl
theorem KtR.put (r:KtR K H kvs xs) {k:List Int} {b:Addr} {d:D} {v:V} {u:Value} (hb:SqT K H b (k.map V.int)) (rv:RelV v u) (hd:IsD K H d v):KtR K H (putT kvs k d) (storedH xs k b u):=by
 unfold putT storedH
 rw [r.isSome k]
 by_cases q:(atKey xs k).isSome=true
 ·rw [if_pos q,if_pos q]
  clear q
  induction r with
  | nil=>exact .nil
  | @cons p q ps qs h t ih=>
   rw [List.map_cons,List.map_cons]
   refine .cons ?_ ih
   obtain⟨h1,h2,v',h3,h4⟩:=h
   unfold putAt
   by_cases e:p.1=k
   ·rw [if_pos e,if_pos (h1.symm.trans e)]; exact⟨h1,h2,v,rv,hd⟩
   ·rw [if_neg e,if_neg (fun z=>e (h1.trans z))]; exact⟨h1,h2,v',h3,h4⟩
 ·rw [if_neg q,if_neg q]
  exact Paired.snoc r ⟨rfl,hb,v,rv,hd⟩
theorem KtR.length (r:KtR K H kvs xs):kvs.length=xs.length:=Paired.length r
theorem KtR.at_:∀ {kvs:List (List Int×D)} {xs:List (List Int×Addr×Value)} {i:Nat} {p:List Int×D},KtR K H kvs xs->kvs[i]?=some p->∃ q,xs[i]?=some q/\p.1=q.1/\SqT K H q.2.1 (p.1.map V.int)/\∃ v,RelV v q.2.2/\IsD K H p.2 v
 | _,_,0,_,.cons h _,e=>by cases e; exact⟨_,rfl,h⟩
 | _,_,i+1,_,.cons _ t,e=>KtR.at_ (i:=i) t e
end
section
variable {X:Cx} {pins:List (Addr×Obj)} {σ:L2.St} {H:Hp} {s:Shared} {a b:Addr} {kvs:List (List Int×D)} {xs:List (List Int×Addr×Value)} {ep:Nat} {k:List Int}
theorem items_int {P:Program} {w:World}:∀ {ks:List Int} {us:List Value},Vals (ks.map V.int) us->PySem.ItemsAre (intKind P w) ks us
 | [],_,r=>by rw [List.map_nil] at r; cases r; exact .nil
 | k::ks,_,r=>by
  rw [List.map_cons] at r
  cases r with
  | cons h t=>
   obtain⟨tk,rfl⟩:=h
   exact .cons (by simp [intKind,Value.isInt]) (items_int t)
theorem key_int (I:Inv X pins σ H s) (h:SqT X.K H b (k.map V.int)):(tupleKind (intKind X.prog X.w)).is s.heap k b:=by
 obtain⟨its,r,⟨o,h1,h2,n,h3⟩,_⟩:=I.tuple h
 exact⟨o,its.toArray,n,h1,h2,h3,by simpa using items_int r⟩
theorem dxp_at (I:Inv X pins σ H s) (e:H a=some (.ext (DxP a xs ep))):(a == sysModules)=false/\xs.length<=sizeLine/\(xs.map (·.1)).Nodup/\s.heap.get? a=some (dxO (xs.map eT).toArray ep):=(I.hok a _ e).1
theorem dx_of (I:Inv X pins σ H s) (e:H a=some (.ext (DxP a xs ep))) (r:KtR X.K H kvs xs):s.heap.DictOfH (tupleKind (intKind X.prog X.w)) a xs:=by
 obtain⟨_,z,nd,g⟩:=dxp_at I e
 refine⟨_,_,ep,g,⟨rfl,rfl,rfl⟩,rfl,rfl,?_,nd⟩
 clear z nd g e
 induction r with
 | nil=>intro x hx; exact nomatch hx
 | @cons p q ps qs h t ih=>
  intro x hx
  rcases List.mem_cons.mp hx with e | hx
  ·subst e
   rw [<- h.1]
   exact key_int I h.2.1
  ·exact ih x hx
theorem dxp_of {P:Program} {w:World} {h:Heap} (hd:(a == sysModules)=false) (z:xs.length<=sizeLine) (m:h.DictOfH (tupleKind (intKind P w)) a xs):∃ ep,DxP a xs ep h:=by
 obtain⟨⟨c,d,dt,sl⟩,es,ep,g,⟨c1,c2,c3⟩,c4,c5,_,nd⟩:=m
 have q:es=(xs.map eT).toArray:=by
  have:es.toList=xs.map eT:=c5
  rw [<- this]
 refine⟨ep,hd,z,nd,?_⟩
 rw [g]
 cases c1; cases c2; cases c3; cases c4
 rw [q]
 rfl
theorem ext_ok {P:Program} {w:World} {h:Heap} (m:DxP a xs ep h):ObjOk P w H h a (.ext (DxP a xs ep)):=
 ⟨m,⟨_,m.2.2.2⟩,fun h1 h2 p q=>⟨p.1,p.2.1,p.2.2.1,q _ p.2.2.2⟩⟩
theorem storedH_len (xs:List (List Int×Addr×Value)) (k:List Int) (b:Addr) (u:Value):(storedH xs k b u).length<=xs.length+1:=by
 unfold storedH
 split
 ·rw [List.length_map]; omega
 ·rw [List.length_append]; exact Nat.le_refl _
theorem un1 {n:Nat} {A:Around} (hr:Room n A):A.units+1 < cLine:=by have:=hr.un; omega
def dDGet (go gi:DE):DE:=fun L S k=>go L S fun d S1=>gi L S1 fun e S2=>match d with
 | .ref a=>∃ kvs ep ks c,S2 a=some (.gen (.dT kvs ep))/\e=keyD ks/\getT kvs ks=some c/\k c S2
 | _=>False
def tDGetX (K:Fg) (to ti:TE):TE:=fun σ H Q=>to σ H fun x H1=>ti σ H1 fun y H2=>∃ a b kvs xs ep ks p v,x=.ref a/\y=.ref b/\H2 a=some (.ext (DxP a xs ep))/\KtR K H2 kvs xs/\SqT K H2 b (ks.map V.int)/\atKey xs ks=some p/\RelV v p.2/\Q v H2
theorem pe_dgetX {o i:Expr} {to ti:TE} {pos:Pos} {n:Nat} (hr:Room n X.A) (ho:PE X o to) (hi:PE X i ti) (hs:NoSl i):PE X (.Subscript o i pos) (tDGetX X.K to ti):=by
 intro pins s σ H Q I h
 refine subD_of PySem.F.slot_dict_getitem.lookup hs (thn (ho pins s σ H _ I h) fun u s1 ⟨x,H1,I1,rx,h1⟩=>thn (hi pins s1 σ H1 _ I1 h1) fun iv s2 ⟨y,H2,I2,ry,a,b,kvs,xs,ep,ks,p,v,ex,ey,e1,r1,t1,z2,z3,q⟩=>?_)
 subst ex ey
 obtain rfl:u=Value.ref a:=rx
 cases (show iv=Value.ref b from ry)
 have dd:=dx_of I2 e1 r1
 exact⟨dd.typeIs,wpAny_getItem_heap (tupleKind_room_in1 (un1 hr)) (key_int I2 t1) dd z2 ⟨v,H2,I2.tok _,z3,q⟩⟩
theorem d_dgetj {o i:Expr} {go gi:DE} {pos:Pos} {n:Nat} (hr:Room n X.A) (ho:EJ X o go) (hi:EJ X i gi) (hs:NoSl i):EJ X (.Subscript o i pos) (dDGet go gi):=
 ⟨PE.imp (pe_dgetX hr ho.h hi.h hs) fun σ H Q ⟨L,S,k,hL,hS,h,m⟩=>up.go hL hS h fun d S1 x H1 h1 k1 hL1 hS1 i1=>up.go hL1 hS1 h1 fun e S2 y H2 h2 k2 hL2 hS2 i2=>by
  cases d with
  | ref a=>
   obtain⟨kvs,ep,ks,c,g1,rfl,g3,h2⟩:=h2
   obtain⟨xs,e1,r1⟩:=hS2.dT g1
   obtain⟨b,rfl,t1⟩:=isKey.mp i2
   have ex:=isRef.mp i1
   subst ex
   rcases r1.get ks with ⟨z,_⟩ | ⟨d,b',w,v,z1,z2,z3,z4⟩
   ·rw [g3] at z; cases z
   ·rw [g3] at z1
    cases z1
    exact⟨a,b,kvs,xs,ep,ks,_,v,rfl,rfl,e1,r1,t1,z2,z3,m c S2 v H2 h2 (k1.trans k2) hS2 z4⟩
  | _=>exact(show False from h2).elim⟩
def rSetD (K:Fg):TSet:=fun x y v H Q=>∃ a b kvs xs ep ks,x=.ref a/\y=.ref b/\H a=some (.ext (DxP a xs ep))/\KtR K H kvs xs/\SqT K H b (ks.map V.int)/\xs.length < sizeLine/\∀ u ep',RelV v u->Q (upd H a (.ext (DxP a (storedH xs ks b u) ep')))
theorem set_dict {n:Nat} (hr:Room n X.A):PSet X (rSetD X.K):=by
 intro pins s σ H o i v ov iv u Q I ro ri rv h
 obtain⟨a,b,kvs,xs,ep,ks,rfl,rfl,e1,r1,t1,z,q⟩:=h
 cases (show ov=Value.ref a from ro)
 cases (show iv=Value.ref b from ri)
 have hd:=(dxp_at I e1).1
 refine wpAny_setItem_heap (hsz:=Nat.le_of_lt z) (tupleKind_room_in1 (un1 hr)) (key_int I t1) (dx_of I e1 r1) fun h' dd' hs=>?_
 have z':(storedH xs ks b u).length<=sizeLine:=by have:=storedH_len xs ks b u; omega
 obtain⟨ep',m⟩:=dxp_of hd z' dd'
 exact⟨_,d_write I (by rw [e1]; exact True.intro) hs ⟨_,m.2.2.2⟩ (ext_ok m),q u ep' rv⟩
def dgSubD (go gi:DE):DG:=fun d L S k=>go L S fun o S1=>gi L S1 fun i S2=>match o with
 | .ref a=>∃ kvs ep ks,S2 a=some (.gen (.dT kvs ep))/\i=keyD ks/\kvs.length < sizeLine/\∀ ep',k L (put S2 a (.gen (.dT (putT kvs ks d) ep')))
 | _=>False
theorem dg_subD {o i:Expr} {go gi:DE} {pos:Pos} {n:Nat} (hr:Room n X.A) (ho:EJ X o go) (hi:EJ X i gi)
  (ha:∀ v,assign (.Subscript o i pos) X.env v=(do
   let ov <- holding [v] (eval o X.env)
   let iv <- holding [v,ov] (eval i X.env)
   standAt pos
   holding [v,ov,iv] (setItem ov iv v)
   release [v,ov,iv] []):=by intro _; rfl):GJ X (.Subscript o i pos) (dgSubD go gi):=
 ⟨PG.imp (pg_sub ho.h hi.h (set_dict hr) ha) fun v σ H Q ⟨d,L,S,k,i1,hL,hS,h,m⟩=>up.go hL hS h fun c S1 u H1 h1 k1 hL1 hS1 j1=>up.go hL1 hS1 h1 fun c2 S2 u2 H2 h2 k2 hL2 hS2 j2=>by
  cases c with
  | ref a=>
   obtain⟨kvs,ep,ks,g1,rfl,z,h2⟩:=h2
   obtain⟨xs,e1,r1⟩:=hS2.dT g1
   obtain⟨b,rfl,t1⟩:=isKey.mp j2
   have ex:=isRef.mp j1
   subst ex
   refine⟨a,b,kvs,xs,ep,ks,rfl,rfl,e1,r1,t1,by rw [<- r1.length]; exact z,fun w ep' rw'=>?_⟩
   have k3:Kp H2 (upd H2 a (.ext (DxP a (storedH xs ks b w) ep'))):=Kp.mut e1 (fun z=>z)
   exact m L _ σ _ (h2 ep') (k1.trans (k2.trans k3)) (hL2.kp k3) (hS2.setG e1 (fun z=>z) ⟨_,upd_same,(r1.put t1 rw' (i1.kp (k1.trans k2))).kp k3⟩)
  | _=>exact(show False from h2).elim⟩
def dDNew:DE:=fun _ S k=>∀ p,S p=none->∀ ep,k (.ref p) (put S p (.gen (.dT [] ep)))
theorem dxp_empty (h:Heap) (hb:sysModules < h.objs.size):DxP h.objs.size [] 0 (h.push {cls:=.type "dict",data:=.dict #[]}):=
 ⟨beq_eq_false_iff_ne.mpr (Ne.symm (Nat.ne_of_lt hb)),Nat.zero_le _,List.nodup_nil,Heap.get?_push_size _ rfl⟩
theorem d_dnewj {pos:Pos}:EJ X (.Dict [] [] pos) dDNew:=⟨fun pins s σ H Q I ⟨L,S,k,hL,hS,h,m⟩=>by
 have hn:=I.hok.fresh (Nat.le_refl s.heap.objs.size)
 refine wpAny_Dict_empty ⟨.ref s.heap.objs.size,_,I.laid (a:=s.heap.objs.size) (o:=.ext (DxP s.heap.objs.size [] 0)) (t':=s.toks) (fun _ _ q=>Heap.get?_push_of_some _ q) (Nat.le_refl _) (ext_ok (dxp_empty s.heap I.big)),rfl,?_⟩
 exact m _ _ _ _ (h _ (hS.free hn) 0) (Kp.new hn) (hS.newG hn ⟨[],upd_same,.nil⟩) (isRef.mpr rfl)⟩
end
end DL
namespace L2
open PySem PySem.Spec PyProof.Rows
theorem dx_same {X:Cx} {pins:List (Addr×Obj)} {σ:St} {H:Hp} {s:Shared} {a:Addr} {xs ys:List (List Int×Addr×Value)} {ep ep' i:Nat} {x:List Int×Addr×Value} (I:Inv X pins σ H s) (e1:H a=some (.ext (DL.DxP a xs ep))) (e2:H a=some (.ext (DL.DxP a ys ep')))
  (hx:xs[i]?=some x):∃ y,ys[i]?=some y/\DL.eT y=DL.eT x:=by
 have g1:=(DL.dxp_at I e1).2.2.2
 have g2:=(DL.dxp_at I e2).2.2.2
 have z:=Option.some.inj (g1.symm.trans g2)
 have q:xs.map DL.eT=ys.map DL.eT:=by
  unfold DL.dxO at z
  injection z with _ _ z _
  injection z with z _
  exact congrArg Array.toList z
 have w:(ys.map DL.eT)[i]?=some (DL.eT x):=by rw [<- q,List.getElem?_map,hx]; rfl
 rw [List.getElem?_map] at w
 exact Option.map_eq_some_iff.mp w
def Itd (c:DIt) (a:Addr) (ep n:Nat):It:=
 ⟨fun i H => ∃ xs x v, H a = some (.ext (DL.DxP a xs ep)) ∧ xs[i]? = some x ∧ xs.length = n ∧ RelV v (DIt.of (DL.eT x) c),
  fun i H v H'=>H'=H/\∀ xs,H a=some (.ext (DL.DxP a xs ep))->∃ x,xs[i]?=some x/\RelV v (DIt.of (DL.eT x) c),
  fun i H=>∃ xs,H a=some (.ext (DL.DxP a xs ep))/\xs.length=n/\n<=i⟩
theorem turn_dict {P:Program} {w:World} {K:PySem.W.Frag} {tg:Expr} (c:DIt) (a it:Addr) (ep n:Nat):Turn P w K tg (Itd c a ep n) [it] it (fun i h=>h.get? it=some (kiO c.nm a i n ep)) where
 mem:=by simp
 obj:=fun i h st b hb=>by
  have e:b=it:=by simpa using hb
  subst e
  exact⟨_,st,fun v z=>by cases z⟩
 keep:=fun i h h' st k=>k it (by simp) _ st
 item:=by
  intro X hP hw hK hc i pins s σ H E I hf st hg
  subst hP hw hK
  obtain⟨xs,x,v,e1,hx,hn,rv⟩:=hg
  have g:=(DL.dxp_at I e1).2.2.2
  have sz:(xs.map DL.eT).toArray.size=n:=by simp [hn]
  obtain⟨f0,f1,f2,f3,f4,f5⟩:=hf it (by simp)
  refine next_dx c (e:=DL.eT x) (by rw [sz]; exact st) g (by simp [hx]) fun h' st' kk=>?_
  have I1:Inv X pins σ H {s with heap:=h'}:=I.turned (t':=s.toks) kk f0 f1 f3 f4 f5
  rw [sz] at st'
  refine⟨_,rfl,go_of (s:={s with heap:=h'}) (n:=c.nm) st' rfl rfl (by cases c <;> decide) ⟨v,H,I1,rv,⟨rfl,fun ys ey=>?_⟩,st',fun b hb=>(hf b hb).1⟩⟩
  obtain⟨y,y1,y2⟩:=dx_same I e1 ey hx
  exact⟨y,y1,by rw [y2]; exact rv⟩
 done:=by
  intro X hP hw hK hc i pins s σ H E I hf st hg
  subst hP hw hK
  obtain⟨xs,e1,hn,hi⟩:=hg
  have g:=(DL.dxp_at I e1).2.2.2
  have sz:(xs.map DL.eT).toArray.size=n:=by simp [hn]
  obtain⟨f0,f1,f2,f3,f4,f5⟩:=hf it (by simp)
  exact next_dxE c (I.ok.hd hc) (by rw [sz]; exact st) g (by simp; omega) fun h' kk=>⟨rfl,I.turned (t':=s.toks) kk f0 f1 f3 f4 f5⟩
 self:=fun _ _ _ _ _ st h=>self_ki c st h
def Iti (a:Addr) (ep n:Nat):It:=
 ⟨fun i H => ∃ xs x v, H a = some (.ext (DL.DxP a xs ep)) ∧ xs[i]? = some x ∧ xs.length = n ∧ RelV v x.2.2,
  fun i H u H'=>∃ T b v,u=.ref T/\H T=none/\H'=upd H T (.tup [.ref b,v])/\∀ xs,H a=some (.ext (DL.DxP a xs ep))->∃ x,xs[i]?=some x/\b=x.2.1/\RelV v x.2.2,
  fun i H=>∃ xs,H a=some (.ext (DL.DxP a xs ep))/\xs.length=n/\n<=i⟩
theorem turn_items {P:Program} {w:World} {K:PySem.W.Frag} {es:List Expr} {k:Nat} {pos:Pos} (a it:Addr) (ep n:Nat) (ne:it≠a):Turn P w K (.Tuple es k pos) (Iti a ep n) [it] it (fun i h=>∃ ok ov,h.get? it=some (iiO .none (.ref a) i n ep ok ov)) where
 mem:=by simp
 obj:=fun i h st b hb=>by
  have e:b=it:=by simpa using hb
  subst e
  obtain⟨ok,ov,st⟩:=st
  exact⟨_,st,fun v z=>by cases z⟩
 keep:=fun i h h' ⟨ok,ov,st⟩ k=>⟨ok,ov,k it (by simp) _ st⟩
 item:=by
  intro X hP hw hK hc i pins s σ H E I hf st hg
  subst hP hw hK
  obtain⟨ok,ov,st⟩:=st
  obtain⟨xs,x,v,e1,hx,hn,rv⟩:=hg
  have g:=(DL.dxp_at I e1).2.2.2
  have sz:(xs.map DL.eT).toArray.size=n:=by simp [hn]
  have hT:H s.heap.objs.size=none:=I.hok.fresh (Nat.le_refl _)
  have old:it≠s.heap.objs.size:=Nat.ne_of_lt (Heap.lt_size st)
  refine next_di (e:=DL.eT x) (es:=(xs.map DL.eT).toArray) (by rw [sz]; exact st) g (by simp [hx]) fun h' st' tp kk=>?_
  rw [sz] at st'
  have hfi:∀ b∈[it],FpOk X pins H b:=fun b hb=>by
   have e:b=it:=by simpa using hb
   subst e
   exact hf b (by simp)
  have I1:Inv X pins σ (upd H s.heap.objs.size (.tup [.ref x.2.1,v])) {s with heap:=h'}:=I.turnedNew (t':=s.toks) [it] (fun b o hb e=>kk b o (fun q=>hb (by simp [q])) e) hfi (Nat.le_refl _)
   ⟨Nat.le_of_ble_eq_true rfl,[_,_],.cons rfl (.cons rv .nil),⟨_,tp,rfl,_,rfl⟩⟩
  refine⟨_,rfl,go_di (s:={s with heap:=h'}) (es:=(xs.map DL.eT).toArray) (by rw [sz]; exact st') fun h2 st2 kk2=>?_⟩
  rw [sz] at st2
  refine⟨.ref s.heap.objs.size,_,I1.turnedL (t':=s.toks) [it] (fun b o hb e=>kk2 b o (fun q=>hb (by simp [q])) e) (fun b hb=>?_),rfl,⟨_,_,v,rfl,hT,rfl,fun ys ey=>?_⟩,⟨_,_,st2⟩,fun b hb=>?_⟩
  ·have e:b=it:=by simpa using hb
   subst e
   obtain⟨f0,f1,f2,f3,f4,f5⟩:=hf b (by simp)
   exact⟨by rw [upd_ne old]; exact f0,f1,f2,f3,f4,f5⟩
  ·obtain⟨y,y1,y2⟩:=dx_same I e1 ey hx
   have q1:y.2.1=x.2.1:=Value.ref.inj (congrArg DictEntry.key y2)
   have q2:y.2.2=x.2.2:=congrArg DictEntry.val y2
   exact⟨y,y1,q1.symm,by rw [q2]; exact rv⟩
  ·have e:b=it:=by simpa using hb
   subst e
   rw [upd_ne old]
   exact(hf b (by simp)).1
 done:=by
  intro X hP hw hK hc i pins s σ H E I hf st hg
  subst hP hw hK
  obtain⟨ok,ov,st⟩:=st
  obtain⟨xs,e1,hn,hi⟩:=hg
  have g:=(DL.dxp_at I e1).2.2.2
  have sz:(xs.map DL.eT).toArray.size=n:=by simp [hn]
  obtain⟨f0,f1,f2,f3,f4,f5⟩:=hf it (by simp)
  exact next_diE (I.ok.hd hc) (by rw [sz]; exact st) g (by simp; omega) fun h' kk=>⟨rfl,I.turned (t':=s.toks) kk f0 f1 f3 f4 f5⟩
 self:=fun _ _ _ _ _ ⟨_,_,st⟩ h=>self_ii st h
section
variable {X:Cx} {tg l o:Expr} {tl to:TE} {apos cpos:Pos}
def iDict (tl:TE):TI:=fun σ H R=>tl σ H fun x H1=>∃ a ep xs,x=.ref a/\H1 a=some (.ext (DL.DxP a xs ep))/\R (Itd .k a ep xs.length) H1
theorem pi_dict (hl:PE X l tl):PI X tg l (iDict tl):=by
 intro pins s σ H R I h
 refine thn (hl pins s σ H _ I h) fun v s1 ⟨x,H1,I1,r1,a,ep,xs,ex,e1,q⟩=>?_
 subst ex
 cases (show v=Value.ref a from r1)
 obtain⟨hd,_,_,g⟩:=DL.dxp_at I1 e1
 refine pyIter_dk hd g ⟨s1.heap.objs.size,[s1.heap.objs.size],_,_,H1,rfl,I1.kept (t':=s1.toks) fun b o e=>Heap.get?_push_of_some _ e,turn_dict .k a _ ep xs.length,?_,fun b hb=>?_,q⟩
 ·show(s1.heap.push _).get? _=_
  rw [Heap.get?_push_size _ rfl]
  simp [DIt.nm]
 ·have e:b=s1.heap.objs.size:=by simpa using hb
  subst e
  exact I1.fpOk (Nat.le_refl _) (I1.hok.fresh (Nat.le_refl _))
def iVals (to:TE):TI:=fun σ H R=>to σ H fun x H1=>∃ a ep xs,x=.ref a/\H1 a=some (.ext (DL.DxP a xs ep))/\R (Itd .v a ep xs.length) H1
theorem pi_vals (ho:PE X o to) (hbase:attributeBase o "values" X.env (eval o X.env)=eval o X.env:=by rfl) (hline:(apos.endLine == cpos.line)=true:=by rfl):PI X tg (.Call (.Attribute o "values" apos) [] [] cpos) (iVals to):=by
 intro pins s σ H R I h
 refine wpAny_Call_method0_late hbase hline (thn (ho pins s σ H _ I h) fun v s1 ⟨x,H1,I1,r1,a,ep,xs,ex,e1,q⟩=>?_)
 subst ex
 cases (show v=Value.ref a from r1)
 obtain⟨hd,_,_,g⟩:=DL.dxp_at I1 e1
 refine⟨"dict","dict.values",F.plainAttrs_dict,F.slot_dict_values,F.type_dict_values,⟨_,g,rfl⟩,fun b e=>by cases e; exact⟨_,g,rfl⟩,Calls.callWith_builtin rfl (PySem.evalArgs_none ?_)⟩
 refine call_meetsIn F.slot_dict_values ⟨_,g,rfl⟩ F.entry_dict_values (F.args_dict_values_1 _) (diV a _ ep hd) ⟨g,?_⟩
 have I2:Inv X pins σ H1 {s1 with heap:=s1.heap.push {cls:=.type "dict_values",data:=.fields #[.ref a]}}:=I1.kept (t':=s1.toks) fun b o e=>Heap.get?_push_of_some _ e
 refine pyIter_dv (s:={s1 with heap:=s1.heap.push {cls:=.type "dict_values",data:=.fields #[.ref a]}}) (Heap.get?_push_size _ rfl) (Heap.get?_push_of_some _ g) ⟨_,[_],_,_,H1,rfl,I2.kept (t':=s1.toks) fun b o e=>Heap.get?_push_of_some _ e,turn_dict .v a _ ep xs.length,?_,fun b hb=>?_,q⟩
 ·show(Heap.push _ _).get? _=_
  rw [Heap.get?_push_size _ rfl]
  simp [DIt.nm]
 ·have e:b=(s1.heap.push {cls:=.type "dict_values",data:=.fields #[.ref a]}).objs.size:=by simpa using hb
  subst e
  exact I2.fpOk (Nat.le_refl _) (I2.hok.fresh (Nat.le_refl _))
def iPairs (to:TE):TI:=fun σ H R=>to σ H fun x H1=>∃ a ep xs,x=.ref a/\H1 a=some (.ext (DL.DxP a xs ep))/\R (Iti a ep xs.length) H1
theorem pi_items {es:List Expr} {k:Nat} {pos:Pos} (ho:PE X o to) (hbase:attributeBase o "items" X.env (eval o X.env)=eval o X.env:=by rfl) (hline:(apos.endLine == cpos.line)=true:=by rfl):PI X (.Tuple es k pos) (.Call (.Attribute o "items" apos) [] [] cpos) (iPairs to):=by
 intro pins s σ H R I h
 refine wpAny_Call_method0_late hbase hline (thn (ho pins s σ H _ I h) fun v s1 ⟨x,H1,I1,r1,a,ep,xs,ex,e1,q⟩=>?_)
 subst ex
 cases (show v=Value.ref a from r1)
 obtain⟨hd,_,_,g⟩:=DL.dxp_at I1 e1
 refine⟨"dict","dict.items",F.plainAttrs_dict,F.slot_dict_items,F.type_dict_items,⟨_,g,rfl⟩,fun b e=>by cases e; exact⟨_,g,rfl⟩,Calls.callWith_builtin rfl (PySem.evalArgs_none ?_)⟩
 refine call_meetsIn F.slot_dict_items ⟨_,g,rfl⟩ F.entry_dict_items (F.args_dict_items_1 _) (diT a _ ep hd) ⟨g,?_⟩
 have I2:Inv X pins σ H1 {s1 with heap:=s1.heap.push {cls:=.type "dict_items",data:=.fields #[.ref a]}}:=I1.kept (t':=s1.toks) fun b o e=>Heap.get?_push_of_some _ e
 have ne:(s1.heap.push {cls:=.type "dict_items",data:=.fields #[.ref a]}).objs.size≠a:=Nat.ne_of_gt (Nat.lt_of_lt_of_le (Heap.lt_size g) (by rw [Heap.size_push]; omega))
 refine pyIter_di (s:={s1 with heap:=s1.heap.push {cls:=.type "dict_items",data:=.fields #[.ref a]}}) (Heap.get?_push_size _ rfl) (Heap.get?_push_of_some _ g) ⟨_,[_],_,_,H1,rfl,I2.kept (t':=s1.toks) fun b o e=>Heap.get?_push_of_some _ e,turn_items a _ ep xs.length ne,⟨.none,.none,?_⟩,fun b hb=>?_,q⟩
 ·show(Heap.push _ _).get? _=_
  rw [Heap.get?_push_size _ rfl]
  simp
 ·have e:b=(s1.heap.push {cls:=.type "dict_items",data:=.fields #[.ref a]}).objs.size:=by simpa using hb
  subst e
  exact I2.fpOk (Nat.le_refl _) (I2.hok.fresh (Nat.le_refl _))
end
end L2
namespace DL
open PySem PySem.Spec PyProof.Rows L2
abbrev DSrc:=Lo->DH->(List D->(DH->Prop)->DH->Prop)->Prop
structure Goes (K:Fg) (H1:Hp) (J:It) (ds:List D) (ok:DH->Prop):Prop where
 go:∀ i d S2 H2,ds[i]?=some d->Kp H1 H2->Hs K H2 S2->ok S2->J.go i H2/\∀ x H',J.yld i H2 x H'->Kp H2 H'/\Hs K H' S2/\IsD K H' d x
 stop:∀ S2 H2,Kp H1 H2->Hs K H2 S2->ok S2->J.stop ds.length H2
def upI (K:Fg) (g:DSrc):TI:=fun σ H R=>∃ L S k,Lc K H L σ/\Hs K H S/\g L S k/\∀ ds ok S' H' J,k ds ok S'->Kp H H'->Lc K H' L σ->Hs K H' S'->Goes K H' J ds ok->R J H'
structure IJ (X:Cx) (tg iter:Expr) (g:DSrc):Prop where
 h:PI X tg iter (upI X.K g)
def dForI (gi:DSrc) (g:DG) (b:DS):DS:=fun M L S=>gi L S fun ds ok S1=>dLoop ok g b M ds L S1
def dCompI (cap:List (Option Nat)) (gi:DSrc) (g:DG) (bd:DB):DE:=fun L S k=>gi L S fun ds ok S1=>∀ p,S1 p=none->dCLoop ok p g bd k ds [] (capL cap L) (put S1 p (.lst []))
section
variable {X:Cx} {tg iter elt c:Expr} {gi:DSrc} {gg:DG} {g:DS} {ge:DE} {gc:DT} {body:List Stmt} {pos:Pos} {scope:Scope} {cl:List (Str×Addr)} {N:List Str} {cap:List (Option Nat)}
theorem dst_forIj (hp:PassesOwn (model X.prog X.w) X.A X.env X.xe) (hc:X.calm=true) (hi:IJ X tg iter gi) (hg:GJ X tg gg) (hb:SsJ X body g) (hs:∀ x,foldedSetIterable iter X.env x=pure x:=by intro _; rfl):
  SJ X (.For tg iter body [] pos) (dForI gi gg g):=
 ⟨PS.imp (ps_for hp hc hi.h hg.h hb.h hs) fun N σ H ⟨L,S,M,hL,hS,h,r⟩=>⟨L,S,_,hL,hS,h,fun ds ok S1 H1 J h1 k1 hL1 hS1 G=>for_coreG hL1 hS1 h1 (r.kp k1) G.go G.stop⟩⟩
theorem compI_go {K:Fg}:∀ σ H Q,up K (dCompI cap gi gg (bdAll ge)) σ H Q->tComp cap (upI K gi) (upG K gg) (up K ge) σ H Q:=fun σ H Q ⟨L,S,k,hL,hS,h,n⟩=>
 ⟨L,S,_,hL,hS,h,fun ds ok S1 H1 J h1 k1 hL1 hS1 G D hD=>comp_coreG (hL1.cap cap) hS1 hD (h1 D (hS1.free hD)) (fun d S' v H' q k3=>n d S' v H' q (k1.trans k3)) G.go G.stop⟩
theorem d_compIj (hc:X.calm=true) (Sc:CompSc X scope cl N cap) (hi:IJ X tg iter gi) (hg:∀ s0 H0 ex C,GJ (cxC X scope cl N s0 H0 ex C) tg gg) (he:∀ s0 H0 ex C,EJ (cxC X scope cl N s0 H0 ex C) elt ge)
  (hs:∀ x,foldedSetIterable iter X.env x=pure x:=by intro _; rfl):EJ X (.ListComp elt [⟨tg,iter,[],0⟩] scope pos) (dCompI cap gi gg (bdAll ge)):=
 ⟨PE.imp (pe_comp hc Sc hi.h (fun s0 H0 ex C=>(hg s0 H0 ex C).h) (fun s0 H0 ex C=>(he s0 H0 ex C).h) hs) compI_go⟩
end
def outD (c:DIt) (kvs:List (List Int×D)):List D:=kvs.map fun p=>match c with
 | .k=>keyD p.1
 | .v=>p.2
def pairsD (kvs:List (List Int×D)):List D:=kvs.map fun p=>.tup [keyD p.1,p.2]
def srcD (gi:DE) (f:List (List Int×D)->List D):DSrc:=fun L S k=>gi L S fun d S1=>match d with
 | .ref a=>∃ kvs ep,S1 a=some (.gen (.dT kvs ep))/\k (f kvs) (fun S=>S a=some (.gen (.dT kvs ep))) S1
 | _=>False
theorem goes_dict (c:DIt) {K:Fg} {H1:Hp} {a:Addr} {kvs:List (List Int×D)} {ep:Nat}:Goes K H1 (Itd c a ep kvs.length) (outD c kvs) (fun S=>S a=some (.gen (.dT kvs ep))) where
 go:=fun i d S2 H2 e k2 hS2 ok=>by
  obtain⟨xs,e1,r1⟩:=hS2.dT ok
  unfold outD at e
  rw [List.getElem?_map] at e
  obtain⟨p,hp,rfl⟩:=Option.map_eq_some_iff.mp e
  obtain⟨q,hq,h1,h2,v,h3,h4⟩:=r1.at_ hp
  cases c with
  | k=>
   refine⟨⟨xs,q,.ref q.2.1,e1,hq,r1.length.symm,rfl⟩,?_⟩
   rintro x H' ⟨rfl,al⟩
   obtain⟨q',hq',rv⟩:=al xs e1
   rw [hq] at hq'
   cases hq'
   rw [RelV.inj (show RelV x (Value.ref q.2.1) from rv) (show RelV (.ref q.2.1) (Value.ref q.2.1) from rfl)]
   exact⟨Kp.refl _,hS2,isKey.mpr ⟨_,rfl,h2⟩⟩
  | v=>
   refine⟨⟨xs,q,v,e1,hq,r1.length.symm,h3⟩,?_⟩
   rintro x H' ⟨rfl,al⟩
   obtain⟨q',hq',rv⟩:=al xs e1
   rw [hq] at hq'
   cases hq'
   rw [RelV.inj (show RelV x q.2.2 from rv) h3]
   exact⟨Kp.refl _,hS2,h4⟩
 stop:=fun S2 H2 k2 hS2 ok=>by
  obtain⟨xs,e1,r1⟩:=hS2.dT ok
  exact⟨xs,e1,r1.length.symm,by unfold outD; rw [List.length_map]; exact Nat.le_refl _⟩
theorem goes_pairs {K:Fg} {H1:Hp} {a:Addr} {kvs:List (List Int×D)} {ep:Nat}:Goes K H1 (Iti a ep kvs.length) (pairsD kvs) (fun S=>S a=some (.gen (.dT kvs ep))) where
 go:=fun i d S2 H2 e k2 hS2 ok=>by
  obtain⟨xs,e1,r1⟩:=hS2.dT ok
  unfold pairsD at e
  rw [List.getElem?_map] at e
  obtain⟨p,hp,rfl⟩:=Option.map_eq_some_iff.mp e
  obtain⟨q,hq,h1,h2,v,h3,h4⟩:=r1.at_ hp
  refine⟨⟨xs,q,v,e1,hq,r1.length.symm,h3⟩,?_⟩
  rintro x H' ⟨T,b,v',rfl,hT,rfl,al⟩
  obtain⟨q',hq',rfl,rv⟩:=al xs e1
  rw [hq] at hq'
  cases hq'
  rw [RelV.inj rv h3]
  have kn:Kp H2 (upd H2 T (.tup [.ref q.2.1,v])):=Kp.new hT
  exact⟨kn,hS2.new hT,isTup.mpr ⟨T,_,rfl,SqT.of upd_same,IsDs.cons (isKey.mpr ⟨_,rfl,kn.tup h2⟩) (IsDs.cons (h4.kp kn) IsDs.nil)⟩⟩
 stop:=fun S2 H2 k2 hS2 ok=>by
  obtain⟨xs,e1,r1⟩:=hS2.dT ok
  exact⟨xs,e1,r1.length.symm,by unfold pairsD; rw [List.length_map]; exact Nat.le_refl _⟩
section
variable {X:Cx} {tg o:Expr} {go:DE} {apos cpos:Pos}
theorem i_keysj (ho:EJ X o go):IJ X tg o (srcD go (outD .k)):=⟨PI.imp (pi_dict ho.h) fun σ H R ⟨L,S,k,hL,hS,h,n⟩=>up.go hL hS h fun d S1 v H1 h1 k1 hL1 hS1 i1=>by
  cases d with
  | ref a=>
   obtain⟨kvs,ep,g1,h1⟩:=h1
   obtain⟨xs,e1,r1⟩:=hS1.dT g1
   have ex:=isRef.mp i1
   subst ex
   exact⟨a,ep,xs,rfl,e1,n _ _ _ _ _ h1 k1 hL1 hS1 (r1.length▸goes_dict .k)⟩
  | _=>exact(show False from h1).elim⟩
theorem i_valsj (ho:EJ X o go) (hbase:attributeBase o "values" X.env (eval o X.env)=eval o X.env:=by rfl) (hline:(apos.endLine == cpos.line)=true:=by rfl):IJ X tg (.Call (.Attribute o "values" apos) [] [] cpos) (srcD go (outD .v)):=⟨PI.imp (pi_vals ho.h hbase hline) fun σ H R ⟨L,S,k,hL,hS,h,n⟩=>up.go hL hS h fun d S1 v H1 h1 k1 hL1 hS1 i1=>by
  cases d with
  | ref a=>
   obtain⟨kvs,ep,g1,h1⟩:=h1
   obtain⟨xs,e1,r1⟩:=hS1.dT g1
   have ex:=isRef.mp i1
   subst ex
   exact⟨a,ep,xs,rfl,e1,n _ _ _ _ _ h1 k1 hL1 hS1 (r1.length▸goes_dict .v)⟩
  | _=>exact(show False from h1).elim⟩
theorem i_itemsj {es:List Expr} {k:Nat} {pos:Pos} (ho:EJ X o go) (hbase:attributeBase o "items" X.env (eval o X.env)=eval o X.env:=by rfl) (hline:(apos.endLine == cpos.line)=true:=by rfl):IJ X (.Tuple es k pos) (.Call (.Attribute o "items" apos) [] [] cpos) (srcD go pairsD):=⟨PI.imp (pi_items ho.h hbase hline) fun σ H R ⟨L,S,k,hL,hS,h,n⟩=>up.go hL hS h fun d S1 v H1 h1 k1 hL1 hS1 i1=>by
  cases d with
  | ref a=>
   obtain⟨kvs,ep,g1,h1⟩:=h1
   obtain⟨xs,e1,r1⟩:=hS1.dT g1
   have ex:=isRef.mp i1
   subst ex
   exact⟨a,ep,xs,rfl,e1,n _ _ _ _ _ h1 k1 hL1 hS1 (r1.length▸goes_pairs)⟩
  | _=>exact(show False from h1).elim⟩
end
section
variable {X:Cx} {o e f:Expr} {go ge gf:DE} {to te tf:TE} {apos cpos:Pos}
def tGet2X (K:Fg) (to te tf:TE):TE:=fun σ H Q=>to σ H fun x H1=>∃ a xs ep,x=.ref a/\H1 a=some (.ext (DxP a xs ep))/\te σ H1 fun y H2=>tf σ H2 fun z H3=>∃ b kvs xs ep ks v,y=.ref b/\H3 a=some (.ext (DxP a xs ep))/\KtR K H3 kvs xs/\SqT K H3 b (ks.map V.int)/\(∀ r,RelV z r->RelV v (((atKey xs ks).map (·.2)).getD r))/\Q v H3
theorem pe_get2X {n:Nat} (hr:Room n X.A) (ho:PE X o to) (he:PE X e te) (hf:PE X f tf) (m:M2 X o "get" apos e f cpos):PE X (.Call (.Attribute o "get" apos) [e,f] [] cpos) (tGet2X X.K to te tf):=by
 intro pins s σ H Q I h
 refine wpAny_Call_method m.base m.few m.line PySem.F.plainAttrs_dict PySem.F.slot_dict_get PySem.F.type_dict_get (thn (ho pins s σ H _ I h) fun u s1 ⟨x,H1,I1,rx,a,xs,ep,ex,e1,q1⟩=>?_)
 subst ex
 obtain rfl:u=Value.ref a:=rx
 have g:=(dxp_at I1 e1).2.2.2
 refine⟨⟨_,g,rfl⟩,fun b eb=>by cases eb; exact⟨_,g,rfl⟩,?_⟩
 rw [m.trees]
 refine Calls.callWith_builtin rfl (Calls.evalArgs_plain (Calls.spliced_cons (thn (he pins s1 σ H1 _ I1 q1) fun iv s2 ⟨y,H2,I2,ry,q2⟩=>Calls.spliced_cons (thn (hf pins s2 σ H2 _ I2 q2) fun r s3 ⟨z,H3,I3,rz,b,kvs,xs,ep,ks,v,ey,e3,r3,t3,g3,q3⟩=>Calls.spliced_nil ?_))))
 subst ey
 cases (show iv=Value.ref b from ry)
 have dd:=dx_of I3 e3 r3
 exact call_meetsIn PySem.F.slot_dict_get dd.typeIs PySem.F.entry_dict_get (PySem.F.args_dict_get_3 _ _ _) (meetsH_dict_get_default (tupleKind (intKind X.prog X.w)) a b (dxp_at I3 e3).1 r) ⟨tupleKind_room_in1 (un1 hr),ks,xs,key_int I3 t3,dd,v,H3,I3.tok _,g3 r rz,q3⟩
def dGet2 (go ge gf:DE):DE:=fun L S k=>go L S fun d S1=>match d with
 | .ref a=>(∃ kvs ep,S1 a=some (.gen (.dT kvs ep)))/\ge L S1 fun y S2=>gf L S2 fun z S3=>∃ kvs ep ks,S3 a=some (.gen (.dT kvs ep))/\y=keyD ks/\k ((getT kvs ks).getD z) S3
 | _=>False
theorem d_get2j {n:Nat} (hr:Room n X.A) (ho:EJ X o go) (he:EJ X e ge) (hf:EJ X f gf) (m:M2 X o "get" apos e f cpos:=by exact⟨rfl,rfl,rfl,rfl⟩):EJ X (.Call (.Attribute o "get" apos) [e,f] [] cpos) (dGet2 go ge gf):=
 ⟨PE.imp (pe_get2X hr ho.h he.h hf.h m) fun σ H Q ⟨L,S,k,hL,hS,h,n⟩=>up.go hL hS h fun d S1 x H1 h1 k1 hL1 hS1 i1=>by
  cases d with
  | ref a=>
   obtain⟨⟨kvs,ep,g1⟩,h1⟩:=h1
   obtain⟨xs,e1,_⟩:=hS1.dT g1
   have ex:=isRef.mp i1
   subst ex
   refine⟨a,xs,ep,rfl,e1,up.go hL1 hS1 h1 fun y S2 vy H2 h2 k2 hL2 hS2 i2=>up.go hL2 hS2 h2 fun z S3 vz H3 h3 k3 hL3 hS3 i3=>?_⟩
   obtain⟨kvs,ep,ks,g3,rfl,h3⟩:=h3
   obtain⟨xs,e3,r3⟩:=hS3.dT g3
   obtain⟨b,rfl,t3⟩:=isKey.mp (i2.kp k3)
   have kk:=(k1.trans k2).trans k3
   rcases r3.get ks with ⟨z1,z2⟩ | ⟨d,b',w,v,z1,z2,z3,z4⟩
   ·rw [z1] at h3
    exact⟨b,kvs,xs,ep,ks,vz,rfl,e3,r3,t3,fun r q=>by rw [z2]; exact q,n _ _ _ _ h3 kk hS3 i3⟩
   ·rw [z1] at h3
    exact⟨b,kvs,xs,ep,ks,v,rfl,e3,r3,t3,fun r q=>by rw [z2]; exact z3,n _ _ _ _ h3 kk hS3 z4⟩
  | _=>exact(show False from h1).elim⟩
def bLenD:DSp:=fun ds S k=>match ds with
 | [.ref a]=>∃ kvs ep,S a=some (.gen (.dT kvs ep))/\k (.int kvs.length) S
 | _=>False
theorem b_lenD:CallR X (.builtin "len") (upC X.K bLenD):=by
 intro pins s σ H xs us Q I rs h
 obtain⟨ds,S,k,i,hS,r,n⟩:=h
 unfold bLenD at r
 split at r
 ·rename_i a
  obtain⟨kvs,ep,g1,r⟩:=r
  obtain⟨v,rfl,j⟩:=isDs1 i
  have ex:=isRef.mp j
  subst ex
  obtain⟨ys,e1,r1⟩:=hS.dT g1
  obtain⟨u,rfl,ru⟩:=vals1 rs
  cases (show u=Value.ref a from ru)
  obtain⟨hd,z,_,g⟩:=dxp_at I e1
  have T:s.TypeIs (.ref a) "dict":=⟨_,g,rfl⟩
  have sz:(ys.map eT).toArray.size=kvs.length:=by simp [r1.length]
  have hl:(kvs.length:Int) < 2 ^ 63:=by rw [r1.length]; rw [sizeLine_eq] at z; omega
  refine PyProof.Rows.call_len_slot (n:=kvs.length) T F.slot_dict_len (fun Q' q=>call_meetsIn F.slot_dict_len T F.entry_dict_len (F.args_dict_len_1 _) (dLn a _ ep hd) ⟨g,?_⟩) (by omega) (by omega) ⟨.int kvs.length,H,I.tok _,⟨_,rfl⟩,n _ _ _ _ r (Kp.refl H) hS (isInt.mpr rfl)⟩
  rw [sz]
  exact q
 ·exact r.elim
end
abbrev DPs:=Lo->DH->(List (D×D)->DH->Prop)->Prop
def dpNil:DPs:=fun _ S k=>k [] S
def dpCons (gk gv:DE) (t:DPs):DPs:=fun L S k=>gk L S fun x S1=>gv L S1 fun y S2=>t L S2 fun ps S3=>k ((x,y)::ps) S3
abbrev IsPs (K:Fg) (H:Hp):List (D×D)->List (V×V)->Prop:=Paired fun d p=>IsD K H d.1 p.1/\IsD K H d.2 p.2
def upP (K:Fg) (t:DPs):L2.St->Hp->(List (V×V)->Hp->Prop)->Prop:=fun σ H Q=>∃ L S k,Lc K H L σ/\Hs K H S/\t L S k/\∀ ds S' ps H',k ds S'->Kp H H'->Hs K H' S'->IsPs K H' ds ps->Q ps H'
structure PJ (X:Cx) (pos:Pos) (keys:List (Option Expr)) (values:List Expr) (t:DPs):Prop where
 h:∀ (pins:List (Addr×Obj)) (s:Shared) (σ:L2.St) (H:Hp) (Q:List (V×V)->Hp->Prop),Inv X pins σ H s->upP X.K t σ H Q->
  wpAny (model X.prog X.w) X.A (evalPairs (pairTrees keys values X.env pos)) (fun vs s'=>∃ ps H',Inv X pins σ H' s'/\VV ps vs/\Q ps H') X.xe s
section
variable {X:Cx} {pos:Pos}
theorem pj_nil:PJ X pos [] [] dpNil:=⟨fun pins s σ H Q I ⟨L,S,k,hL,hS,h,n⟩=>pairTrees_nil_walk ⟨[],H,I,.nil,n [] S [] H h (Kp.refl H) hS .nil⟩⟩
theorem pj_cons {a b:Expr} {ks:List (Option Expr)} {vs:List Expr} {ga gb:DE} {t:DPs} (ha:EJ X a ga) (hb:EJ X b gb) (hr:PJ X pos ks vs t):PJ X pos (some a::ks) (b::vs) (dpCons ga gb t):=
 ⟨fun pins s σ H Q I ⟨L,S,k,hL,hS,h,n⟩=>by
  refine pairTrees_cons_walk (thn (ha.h pins s σ H (fun x H1=>up X.K gb σ H1 fun y H2=>upP X.K t σ H2 fun ps H3=>Q ((x,y)::ps) H3) I ?_) fun u s1 ⟨x,H1,I1,rx,q1⟩=>thn (hb.h pins s1 σ H1 _ I1 q1) fun w2 s2 ⟨y,H2,I2,ry,q2⟩=>
   thn (hr.h pins s2 σ H2 _ I2 q2) fun ws s3 ⟨ps,H3,I3,rel,q3⟩=>⟨(x,y)::ps,H3,I3,.cons ⟨rx,ry⟩ rel,q3⟩)
  exact up.go hL hS h fun d S1 v H1 h1 k1 hL1 hS1 i1=>up.go hL1 hS1 h1 fun e S2 u H2 h2 k2 hL2 hS2 i2=>⟨L,S2,_,hL2,hS2,h2,fun ds S3 ps H3 h3 k3 hS3 i3=>n _ S3 _ H3 h3 ((k1.trans k2).trans k3) hS3 (.cons ⟨i1.kp (k2.trans k3),i2.kp k3⟩ i3)⟩⟩
end
section
variable {prog:Program} {w:World} {A:Around} {E:Value->Shared->Prop} {d:Addr}
theorem store_all (hu:A.units < cLine):∀ (vs:List (Value×Value)) (ks acc:List (List Int×Addr×Value)) (s:Shared) (Q:PUnit->Shared->Prop),Paired (fun v k=>v.1=.ref k.2.1/\v.2=k.2.2) vs ks->
  (∀ k∈ks,(tupleKind (intKind prog w)).is s.heap k.1 k.2.1)->s.heap.DictOfH (tupleKind (intKind prog w)) d acc->acc.length+ks.length<=sizeLine->
  (∀ h' tk,h'.DictOfH (tupleKind (intKind prog w)) d (ks.foldl (fun acc k=>storedH acc k.1 k.2.1 k.2.2) acc)->Heap.SameBut d s.heap h'->Q PUnit.unit {s with heap:=h',toks:=tk})->
  wpAny (model prog w) A (forIn vs PUnit.unit fun(x:Value×Value) (_:PUnit)=>(do dictSet d x.1 x.2; pure (ForInStep.yield PUnit.unit):Sem (ForInStep PUnit))) Q E s
 | _,_,acc,s,Q,.nil,_,hm,_,hQ=>by
  rw [List.forIn_nil]
  exact wpAny_pure (hQ s.heap s.toks hm (Heap.SameBut.refl _ _))
 | (_,_)::vs,k::ks,acc,s,Q,.cons h t,hk,hm,hz,hQ=>by
  obtain⟨h1,h2⟩:=h
  simp only at h1 h2
  subst h1 h2
  rw [List.length_cons] at hz
  rw [List.forIn_cons]
  have hl:=storedH_len acc k.1 k.2.1 k.2.2
  refine wpAny_bind (wpAny_bind (wpAny_dictSet_heap (hsz:=by omega) (show (tupleKind (intKind prog w)).room A from hu) (hk k (by simp)) hm fun h1 m1 s1=>wpAny_pure (store_all hu vs ks (storedH acc k.1 k.2.1 k.2.2) _ Q t (fun q hq=>?_) m1 (by omega) fun h' tk m' s'=>hQ h' tk m' (s1.trans s'))))
  obtain⟨o,es,ep,g,_,dt,_⟩:=hm
  exact(tupleKind (intKind prog w)).keeps (hk q (by simp [hq])) g dt s1
end
def mergeT (acc kvs:List (List Int×D)):List (List Int×D):=kvs.foldl (fun acc kv=>putT acc kv.1 kv.2) acc
theorem KtR.merge {K:Fg} {H:Hp}:∀ {kvs:List (List Int×D)} {xs:List (List Int×Addr×Value)} {acc:List (List Int×D)} {ys:List (List Int×Addr×Value)},KtR K H kvs xs->KtR K H acc ys->KtR K H (mergeT acc kvs) (xs.foldl (fun acc k=>storedH acc k.1 k.2.1 k.2.2) ys)
 | _,_,_,_,.nil,r=>r
 | (k,d)::_,x::_,_,_,.cons h t,r=>by
  obtain⟨h1,h2,v,h3,h4⟩:=h
  simp only at h1
  subst h1
  rename_i t1 t2 a b
  exact KtR.merge (kvs:=t1) (xs:=t2) (acc:=putT a x.1 d) (ys:=storedH b x.1 x.2.1 x.2.2) t (r.put h2 h3 h4)
theorem foldH_len:∀ (ks acc:List (List Int×Addr×Value)),(ks.foldl (fun acc k=>storedH acc k.1 k.2.1 k.2.2) acc).length<=acc.length+ks.length
 | [],acc=>Nat.le_refl _
 | k::ks,acc=>by
  have h1:=foldH_len ks (storedH acc k.1 k.2.1 k.2.2)
  have h2:=storedH_len acc k.1 k.2.1 k.2.2
  rw [List.foldl_cons,List.length_cons]
  omega
theorem raw_of {K:Fg} {H:Hp}:∀ {kvs:List (List Int×D)} {ps:List (V×V)} {vs:List (Value×Value)},IsPs K H (kvs.map fun kv=>(keyD kv.1,kv.2)) ps->VV ps vs->∃ xs,KtR K H kvs xs/\Paired (fun v (k:List Int×Addr×Value)=>v.1=.ref k.2.1/\v.2=k.2.2) vs xs
 | [],_,_,r,q=>by rw [List.map_nil] at r; cases r; cases q; exact⟨[],.nil,.nil⟩
 | kv::kvs,_,_,r,q=>by
  rw [List.map_cons] at r
  cases r with
  | @cons _ p _ _ h t=>
   cases q with
   | @cons _ b _ _ h' t'=>
    obtain⟨xs,a1,a2⟩:=raw_of t t'
    obtain⟨c,e,t1⟩:=isKey.mp h.1
    have h1:=h'.1
    rw [e] at h1
    exact⟨(kv.1,c,b.2)::xs,.cons ⟨rfl,t1,p.2,h'.2,h.2⟩ a1,.cons ⟨h1,rfl⟩ a2⟩
def tDispX (K:Fg) (t:L2.St->Hp->(List (V×V)->Hp->Prop)->Prop):TE:=fun σ H Q=>∀ p,H p=none->t σ (upd H p (.ext (DxP p [] 0))) fun ps H2=>∃ ep,H2 p=some (.ext (DxP p [] ep))/\∃ kvs:List (List Int×D),IsPs K H2 (kvs.map fun kv=>(keyD kv.1,kv.2)) ps/\kvs.length<=15/\
 ∀ xs ep',KtR K H2 kvs xs->Q (.ref p) (upd H2 p (.ext (DxP p (xs.foldl (fun acc k=>storedH acc k.1 k.2.1 k.2.2) []) ep')))
theorem pe_dispX {X:Cx} {pos:Pos} {keys:List (Option Expr)} {values:List Expr} {t:DPs} {n:Nat} (hr:Room n X.A) (h:PJ X pos keys values t) (hall:keys.all (·.isSome)=true:=by rfl) (hl:keys.length=values.length:=by rfl) (h0:keys≠[]:=by simp)
  (h15:keys.length<=15:=by decide):PE X (.Dict keys values pos) (tDispX X.K (upP X.K t)):=by
 intro pins s σ H Q I q
 have hn:=I.hok.fresh (Nat.le_refl s.heap.objs.size)
 have hlen:=pairTrees_length keys values X.env pos hall hl
 have I1:=I.laid (a:=s.heap.objs.size) (o:=.ext (DxP s.heap.objs.size [] 0)) (h':=s.heap.push {cls:=.type "dict",data:=.dict #[]}) (t':=s.toks) (fun _ _ q=>Heap.get?_push_of_some _ q) (Nat.le_refl _) (ext_ok (dxp_empty s.heap I.big))
 rw [arm_eval_Dict,zip_pairTrees keys values X.env pos hall hl,dictDisplay_pairs _ (fun e=>h0 (by rw [e] at hlen; exact List.length_eq_zero_iff.mp hlen.symm)) (by omega)]
 refine wpAny_bind (wpAny_standAt (wpAny_bind ?_))
 unfold subDict
 refine wpAny_bind (wpAny_alloc (wpAny_bind (wpAny_holding ?_)))
 rw [if_pos (by omega)]
 refine wpAny_bind (thn (h.h pins _ σ _ _ I1 (q _ hn)) fun ws s2 ⟨ps,H2,I2,rel,ep,e2,kvs,r2,lk,q2⟩=>wpAny_holding (wpAny_bind ?_))
 obtain⟨xs,rx,rw'⟩:=raw_of r2 rel
 have hd:=(dxp_at I2 e2).1
 have hz:xs.length<=15:=by rw [<- rx.length]; exact lk
 refine store_all (Nat.lt_of_succ_lt (un1 hr)) ws xs [] s2 _ rw' (fun x hx=>?_) (dx_of I2 e2 (kvs:=[]) .nil) (by rw [sizeLine_eq,List.length_nil]; omega) fun h' tk dd' hs=>?_
 ·clear rw' hz q2
  clear r2 lk
  induction rx with
  | nil=>exact nomatch hx
  | @cons p q ps qs h t ih=>
   rcases List.mem_cons.mp hx with e | hx
   ·subst e
    rw [<- h.1]
    exact key_int I2 h.2.1
   ·exact ih hx
 ·have z':(xs.foldl (fun acc k=>storedH acc k.1 k.2.1 k.2.2) []).length<=sizeLine:=by have:=foldH_len xs []; rw [List.length_nil] at this; rw [sizeLine_eq]; omega
  obtain⟨ep',m⟩:=dxp_of hd z' dd'
  exact wpAny_pure (wpAny_pure (wpAny_pure ⟨.ref s.heap.objs.size,_,d_write (t':=tk) I2 (by rw [e2]; exact True.intro) hs ⟨_,m.2.2.2⟩ (ext_ok m),rfl,q2 xs ep' rx⟩))
def dDisp (t:DPs):DE:=fun L S k=>∀ p,S p=none->∀ ep,t L (put S p (.gen (.dT [] ep))) fun ds S2=>∃ ep' kvs,S2 p=some (.gen (.dT [] ep'))/\ds=kvs.map (fun (kv:List Int×D)=>(keyD kv.1,kv.2))/\kvs.length<=15/\∀ ep2,k (.ref p) (put S2 p (.gen (.dT (mergeT [] kvs) ep2)))
theorem d_dispj {X:Cx} {pos:Pos} {keys:List (Option Expr)} {values:List Expr} {t:DPs} {n:Nat} (hr:Room n X.A) (h:PJ X pos keys values t) (hall:keys.all (·.isSome)=true:=by rfl) (hl:keys.length=values.length:=by rfl) (h0:keys≠[]:=by simp)
  (h15:keys.length<=15:=by decide):EJ X (.Dict keys values pos) (dDisp t):=
 ⟨PE.imp (pe_dispX hr h hall hl h0 h15) fun σ H Q ⟨L,S,k,hL,hS,h,n⟩ p hp=>by
  refine⟨L,_,_,hL.kp (Kp.new hp),hS.newG (g:=.dT [] 0) hp ⟨[],upd_same,.nil⟩,h p (hS.free hp) 0,fun ds S2 ps H2 h2 k2 hS2 i2=>?_⟩
  obtain⟨ep',kvs,g2,rfl,lk,h2⟩:=h2
  obtain⟨ys,e2,r2⟩:=hS2.dT g2
  cases r2
  refine⟨ep',e2,kvs,i2,lk,fun xs ep2 rx=>?_⟩
  have k3:Kp H2 (upd H2 p (.ext (DxP p (xs.foldl (fun acc k=>storedH acc k.1 k.2.1 k.2.2) []) ep2))):=Kp.mut e2 (fun z=>z)
  exact n _ _ _ _ (h2 ep2) (((Kp.new hp).trans k2).trans k3) (hS2.setG e2 (fun z=>z) ⟨_,upd_same,(rx.merge .nil).kp k3⟩) (isRef.mpr rfl)⟩
end DL
namespace PySem
open Sem (wp)
open Builtin DL
section
variable {prog:Program} {w:World} {A:Around} {E:Value->Shared->Prop}
theorem lk_list_keys:typeLookup (.type "list") "keys"=pure none:=by rw [typeLookup_type,builtinLookup_eq_fast]; kernel_rfl
theorem keys_call {a:Addr} {xs:Array Value} {k:Nat} {u:Tok} {s:Shared} {R:Result->Shared->Prop} (hx:s.heap.get? a=some {cls:=.type "list",dict:=none,data:=.seq xs k,slots:=#[]}) (hA:A.handled=none)
  (h:∀ h' tk e,Heap.NewAttrErr s.heap h' e (.ref a) "keys"->R (.error (.ref e)) {s with heap:=h',toks:=tk}):codeAny (model prog w) A (.call (.builtin "list.__getattribute__") ⟨[.ref a,.str "keys" u],[]⟩) R s:=
 have T:s.TypeIs (.ref a) "list":=⟨_,hx,rfl⟩
 codeAny_call_builtin F.slot_list_getattribute.plain am_entry_list_getattribute (F.slot_list_getattribute.check _ _ _ _ _ _ _ _ T (F.args_list_getattribute_2 _ _) (meets_getattribute_miss_list a xs k #[] "keys" _ lk_list_keys (by decide) (by rw [sizeLine_eq]; decide) prog w A _ _ ⟨hx,hA,h⟩))
theorem keys_none {a:Addr} {xs:Array Value} {k:Nat} {s:Shared} {Q:Option Value->Shared->Prop} (hx:s.heap.get? a=some {cls:=.type "list",dict:=none,data:=.seq xs k,slots:=#[]}) (hA:A.handled=none)
  (h:∀ h' tk,(∀ b o,s.heap.get? b=some o->h'.get? b=some o)->Q none {s with heap:=h',toks:=tk}):wpAny (model prog w) A (getAttr? (.ref a) "keys") Q E s:=by
 obtain⟨hp,g,d,tk,os⟩:=s
 have hT:∀ tk',(⟨hp,g,d,tk',os⟩:Shared).TypeIs (.ref a) "list":=fun _=>⟨_,hx,rfl⟩
 have c1:=sub_AttributeError
 have c2:=F.slot_list_getattribute.lookup
 have c3:=F.slot_list_getattribute.bind (.ref a)
 have c4:=am_list_getattr_none
 unfold getAttr? getAttrBy? getAttrBy
 repeat (any_goals (first | assumption | exact hT _ | wp_step))
 refine keys_call (s:=⟨hp,g,d,tk+1,os⟩) hx hA fun h' tk' e ne=>?_
 obtain⟨t',u',he⟩:=ne.there
 have z:=h h' tk' ne.keeps
 show wpAny _ _ (getattributeRaised _ _ _ _ _ _ _) _ _ _
 unfold getattributeRaised
 repeat (any_goals (first | assumption | wp_step))
theorem ent_upd:entryFor table "dict.update.loop"=some Builtin.«dict.update.loop»:=entryFor_of_tree (by kernel_rfl)
theorem pln_upd:plainId "dict.update.loop"=true:=by decide +kernel
theorem loop_step {d it l T:Addr} {its:Array Value} {i n:Nat} {key val:Value} {s:Shared} {R:Result->Shared->Prop} {dd:Option Addr} {sl:Array (Option Value)} (hx:its[i]?=some (.ref T)) (st:s.heap.IsListIter it l i) (hl:s.heap.IsList l its)
  (hT:s.heap.get? T=some {cls:=.type "tuple",dict:=dd,data:=.seq #[key,val] n,slots:=sl}) (ne:T≠it)
  (h:∀ h',h'.IsListIter it l (i+1)->Heap.SameBut it s.heap h'->wpAny (model prog w) A.in1 (dictSet d key val) (fun _ s'=>codeAny (model prog w) A (.builtin "dict.update.loop" ⟨[.ref d,.ref it,rawInt ((i:Int)+1),.none],[]⟩) R s') (fun e s'=>R (.error e) s') {s with heap:=h'}):
  codeAny (model prog w) A (.builtin "dict.update.loop" ⟨[.ref d,.ref it,rawInt i,.none],[]⟩) R s:=by
 refine codeAny_builtin ent_upd ?_
 rw [Around.under_plainId pln_upd _]
 refine wpAny_bind (m:=pyNext (.ref it)) (wpAny_pyNext_list_item st hl hx fun h' st' sb=>?_)
 obtain⟨hp,g,dr,tk,os⟩:=s
 have hT':Heap.get? h' T=some {cls:=.type "tuple",dict:=dd,data:=.seq #[key,val] n,slots:=sl}:=(sb.2 T ne).trans hT
 have z:=h h' st' sb
 refine wpAny_bind (wpAny_holding (wpAny_bind (wpAny_tryCatch ?_)))
 repeat (any_goals (first | assumption | (with_reducible show wpAny _ _ (dictSet _ _ _) _ _ _; refine wpAny_mono z (fun _ s' q=>wpAny_pure ⟨plainId_quiet pln_upd _,q⟩) fun _ _ q=>q) | wp_step))
abbrev tkI (prog:Program) (w:World):HeapKind prog w (List Int):=tupleKind (intKind prog w)
theorem doh_keep {h h':Heap} {d it:Addr} {c:String} {acc:List (List Int×Addr×Value)} (m:h.DictOfH (tkI prog w) d acc) (ci:∃ o,h.get? it=some o/\o.cls=.type c) (nt:(Value.type "tuple" == Value.type c)=false) (hd:d≠it)
  (k:∀ b o,b≠it->h.get? b=some o->h'.get? b=some o):h'.DictOfH (tkI prog w) d acc:=by
 obtain⟨o,es,ep,g,e1,e2,e3,e4,nd⟩:=m
 refine⟨o,es,ep,k _ _ hd g,e1,e2,e3,fun x hx=>?_,nd⟩
 obtain⟨q,its,n,g1,g2,g3⟩:=e4 x hx
 refine⟨q,its,n,k _ _ (fun z=>?_) g1,g2,g3⟩
 obtain⟨q',y1,y2⟩:=ci
 rw [z,y1] at g1
 cases g1
 rw [y2] at g2
 rw [g2] at nt
 simp at nt
theorem upd_loop {d it l:Addr} {R:Result->Shared->Prop} (hu:A.units+1 < cLine) (hh:A.handled=none) (ts:List (Addr×List Int×Addr×Value)) (hd:d≠it) (hl:l≠it) (hld:l≠d):
  ∀ (k i:Nat) (s:Shared) (acc:List (List Int×Addr×Value)),ts.length - i=k->i<=ts.length->s.heap.IsListIter it l i->s.heap.IsList l (ts.map fun t=>Value.ref t.1).toArray->
  (∀ t∈ts,(∃ dd n sl,s.heap.get? t.1=some {cls:=.type "tuple",dict:=dd,data:=.seq #[.ref t.2.2.1,t.2.2.2] n,slots:=sl})/\(tkI prog w).is s.heap t.2.1 t.2.2.1)->
  s.heap.DictOfH (tkI prog w) d acc->acc.length+(ts.length - i)<=sizeLine->
  (∀ h' tk,(∀ b o,b≠it->b≠d->s.heap.get? b=some o->h'.get? b=some o)->h'.DictOfH (tkI prog w) d ((ts.drop i).foldl (fun acc t=>storedH acc t.2.1 t.2.2.1 t.2.2.2) acc)->R (.ok (.ret .none)) {s with heap:=h',toks:=tk})->
  codeAny (model prog w) A (.builtin "dict.update.loop" ⟨[.ref d,.ref it,rawInt i,.none],[]⟩) R s:=by
 intro k
 induction k with
 | zero=>
  intro i s acc hk hi st hL hts hm hz hR
  have e:i=ts.length:=by omega
  subst e
  refine codeAny_builtin ent_upd ?_
  rw [Around.under_plainId pln_upd _]
  have ci:∃ o,s.heap.get? it=some o/\o.cls=.type "list_iterator":=let ⟨o,a,b,_⟩:=st; ⟨o,a,b⟩
  refine wpAny_bind (m:=pyNext (.ref it)) (wpAny_pyNext_list_end (A:=A.in1) hh st hL (by simp) fun h' eb=>?_)
  have z:=hR h' s.toks (fun b o n1 _ x=>eb b o n1 x) (by rw [List.drop_length]; exact doh_keep hm ci (by decide) hd eb)
  exact wpAny_bind (wpAny_pure (wpAny_pure z))
 | succ k ih=>
  intro i s acc hk hi st hL hts hm hz hR
  have hlt:i < ts.length:=by omega
  have mem:ts[i]∈ts:=List.getElem_mem hlt
  obtain⟨⟨dd,n,sl,gT⟩,ik⟩:=hts _ mem
  have ci:∃ o,s.heap.get? it=some o/\o.cls=.type "list_iterator":=let ⟨o,a,b,_⟩:=st; ⟨o,a,b⟩
  have cd:∃ o,s.heap.get? d=some o/\o.cls=.type "dict":=let ⟨o,_,_,a,b,_⟩:=hm; ⟨o,a,b.1⟩
  have tni:∀ {b:Addr} {o:Obj},s.heap.get? b=some o->o.cls=.type "tuple"->b≠it:=fun g c z=>by
   obtain⟨q,y1,y2⟩:=ci
   rw [z,y1] at g
   cases g
   rw [y2] at c
   simp at c
  have tnd:∀ {b:Addr} {o:Obj},s.heap.get? b=some o->o.cls=.type "tuple"->b≠d:=fun g c z=>by
   obtain⟨q,y1,y2⟩:=cd
   rw [z,y1] at g
   cases g
   rw [y2] at c
   simp at c
  have hlen:=storedH_len acc ts[i].2.1 ts[i].2.2.1 ts[i].2.2.2
  refine loop_step (T:=ts[i].1) (by simp [hlt]) st hL gT (tni gT rfl) fun h1 st1 sb=>?_
  have kk:∀ b o,b≠it->s.heap.get? b=some o->h1.get? b=some o:=fun b o n1 x=>(sb.2 b n1).trans x
  have isk:∀ t∈ts,(tkI prog w).is h1 t.2.1 t.2.2.1:=fun t ht=>by
   obtain⟨q,its,m,g1,g2,g3⟩:=(hts t ht).2
   exact⟨q,its,m,kk _ _ (tni g1 g2) g1,g2,g3⟩
  have hm1:h1.DictOfH (tkI prog w) d acc:=doh_keep hm ci (by decide) hd kk
  refine wpAny_dictSet_heap (hsz:=by omega) (show (tkI prog w).room A.in1 from hu) (isk _ mem) hm1 fun h2 hm2 sb2=>?_
  have e:(rawInt ((i:Int)+1))=rawInt ((i+1:Nat):Int):=rfl
  rw [e]
  have k2:∀ b o,b≠d->h1.get? b=some o->h2.get? b=some o:=fun b o n1 x=>(sb2.2 b n1).trans x
  refine ih (i+1) _ _ (by omega) hlt (st1.at fun o x=>k2 _ _ (Ne.symm hd) x) ((hL.at fun o x=>kk _ _ hl x).at fun o x=>k2 _ _ hld x) (fun t ht=>?_) hm2 (by omega) fun h' tk q1 q2=>?_
  ·obtain⟨⟨dd,n,sl,g⟩,_⟩:=hts t ht
   obtain⟨o,es,ep,g',_,dt,_⟩:=hm1
   exact⟨⟨dd,n,sl,k2 _ _ (tnd g rfl) (kk _ _ (tni g rfl) g)⟩,(tkI prog w).keeps (isk t ht) g' dt sb2⟩
  ·refine hR h' tk (fun b o n1 n2 x=>q1 b o n1 n2 (k2 b o n2 (kk b o n1 x))) ?_
   rw [List.drop_eq_getElem_cons hlt,List.foldl_cons]
   exact q2
theorem call_dict_list {l:Addr} {s:Shared} {n:Nat} (hu:A.units+2 < cLine) (hh:A.handled=none) (hb:sysModules < s.heap.objs.size) (ts:List (Addr×List Int×Addr×Value)) {Q:Value->Shared->Prop}
  (gl:s.heap.get? l=some {cls:=.type "list",dict:=none,data:=.seq (ts.map fun t=>Value.ref t.1).toArray n,slots:=#[]})
  (hts:∀ t∈ts,(∃ dd n sl,s.heap.get? t.1=some {cls:=.type "tuple",dict:=dd,data:=.seq #[.ref t.2.2.1,t.2.2.2] n,slots:=sl})/\(tkI prog w).is s.heap t.2.1 t.2.2.1) (hz:ts.length<=sizeLine)
  (h:∀ h' tk,(∀ b o,s.heap.get? b=some o->h'.get? b=some o)->h'.DictOfH (tkI prog w) s.heap.objs.size (ts.foldl (fun acc t=>storedH acc t.2.1 t.2.2.1 t.2.2.2) [])->Q (.ref s.heap.objs.size) {s with heap:=h',toks:=tk}):
  wpAny (model prog w) A (call (.type "dict") [.ref l]) Q E s:=by
 refine callType_codes (Q₁:=fun ob s1=>ob=.ref s.heap.objs.size/\s1={s with heap:=s.heap.push {cls:=.type "dict",data:=.dict #[]}}) F.kt_called_dict (F.kt_typeCall_dict_1 _) F.entry_dict_init (kt_code_dict_new _ ⟨rfl,rfl⟩) ?_
 rintro ob s1 ⟨rfl,rfl⟩
 have hl:l < s.heap.objs.size:=Heap.lt_size gl
 have gl1:(s.heap.push {cls:=.type "dict",data:=.dict #[]}).get? l=some {cls:=.type "list",dict:=none,data:=.seq (ts.map fun t=>Value.ref t.1).toArray n,slots:=#[]}:=Heap.get?_push_of_some _ gl
 have gd1:(s.heap.push {cls:=.type "dict",data:=.dict #[]}).get? s.heap.objs.size=some (dxO #[] 0):=Heap.get?_push_size _ rfl
 refine⟨⟨_,gd1,rfl⟩,F.args_dict_init_2 _ _,?_⟩
 generalize hH:s.heap.push {cls:=.type "dict",data:=.dict #[]}=H1 at gl1 gd1
 have kH:∀ b o,s.heap.get? b=some o->H1.get? b=some o:=fun b o x=>by rw [<- hH]; exact Heap.get?_push_of_some _ x
 obtain⟨hp,g,dr,tk,os⟩:=s
 have T1:(⟨H1,g,dr,tk,os⟩:Shared).TypeIs (.ref hp.objs.size) "dict":=⟨_,gd1,rfl⟩
 have hT2:(⟨H1,g,dr,tk,os⟩:Shared).TypeIs (.ref l) "list":=⟨_,gl1,rfl⟩
 refine wpAny_bind (m:=Dict.selfAndRest "__init__" _) ?_
 unfold Dict.selfAndRest
 refine wpAny_bind (wpAny_notOrdered_dict T1 ?_)
 show wpAny _ _ (pure (hp.objs.size,[Value.ref l])) _ _ _
 refine wpAny_pure ?_
 show wpAny _ _ (Dict.updateFrom "dict.__init__" hp.objs.size (.ref l) [] .none) _ _ _
 unfold Dict.updateFrom
 refine wpAny_bind (wpAny_typeOf hT2 ?_)
 rw [if_pos (by decide)]
 refine wpAny_bind (keys_none (s:=⟨H1,g,dr,tk,os⟩) gl1 hh fun h' tk' kk=>?_)
 rw [if_pos (show (none:Option Value).isNone=true from rfl)]
 refine wpAny_bind (wpAny_rule (wpAny_bind ?_))
 have gl2:=kk _ _ gl1
 have gd2:=kk _ _ gd1
 have iL:h'.IsList l (ts.map fun t=>Value.ref t.1).toArray:=⟨_,gl2,rfl,_,rfl⟩
 refine wpAny_pyIter_list (s:=⟨h',g,dr,tk',os⟩) iL (wpAny_pure ⟨plainId_quiet pln_upd _,?_⟩)
 have z1:hp.objs.size < h'.objs.size:=Heap.lt_size gd2
 refine upd_loop (A:=A.in1) (by show A.units+1+1 < cLine; omega) hh ts (Nat.ne_of_lt z1) (Nat.ne_of_lt (Nat.lt_trans hl z1)) (Nat.ne_of_lt hl) ts.length 0 ⟨h'.push {cls:=.type "list_iterator",data:=.fields #[.ref l,.int 0 0]},g,dr,tk',os⟩ [] rfl (Nat.zero_le _) ⟨_,Heap.get?_push_size _ rfl,rfl,rfl⟩ (iL.push _) (fun t ht=>?_) ?_ (by rw [List.length_nil]; omega) fun h2 tk2 q1 q2=>⟨rfl,h h2 tk2 (fun b o x=>?_) q2⟩
 ·obtain⟨⟨dd,n',sl,g1⟩,o,its,m,g2,g3⟩:=hts t ht
  have up:∀ b o,hp.get? b=some o->(h'.push {cls:=.type "list_iterator",data:=.fields #[.ref l,.int 0 0]}).get? b=some o:=fun b o x=>Heap.get?_push_of_some _ (kk _ _ (kH _ _ x))
  exact⟨⟨dd,n',sl,up _ _ g1⟩,o,its,m,up _ _ g2,g3⟩
 ·exact⟨_,#[],0,Heap.get?_push_of_some _ gd2,⟨rfl,rfl,rfl⟩,rfl,rfl,(by intro x hx; simp at hx),List.nodup_nil⟩
 ·have b1:b < hp.objs.size:=Heap.lt_size x
  exact q1 b o (Nat.ne_of_lt (Nat.lt_trans b1 z1)) (Nat.ne_of_lt b1) (Heap.get?_push_of_some _ (kk _ _ (kH _ _ x)))
theorem hash_one (c:Int):∀ l:List DictEntry,(l.map (·.hash)).Nodup->(l.filter (·.hash == c)).length<=1
 | [],_=>Nat.zero_le _
 | e::l,h=>by
  rw [List.map_cons,List.nodup_cons] at h
  rw [List.filter_cons]
  by_cases q:(e.hash == c)=true
  ·rw [if_pos q]
   have z:l.filter (·.hash == c)=[]:=by
    rw [List.filter_eq_nil_iff]
    intro x hx y
    refine h.1 (List.mem_map.mpr ⟨x,hx,?_⟩)
    simp only [beq_iff_eq] at q y
    rw [q,y]
   rw [z]
   exact Nat.le_refl _
  ·rw [if_neg q]
   exact hash_one c l h.2
theorem entries_same {id:String} {o:Addr} {es:Array DictEntry} {ep:Nat} {s:Shared} {Q:Array DictEntry->Shared->Prop} (g:s.heap.get? o=some (dxO es ep)) (hk:∀ e∈es.toList,∃ b q,e.key=.ref b/\s.heap.get? b=some q/\q.cls=.type "tuple") (hn:(es.toList.map (·.hash)).Nodup) (h:Q es s):
  wpAny (model prog w) A (Dict.entriesForEmpty id o) Q E s:=by
 unfold Dict.entriesForEmpty
 refine wpAny_bind (wpAny_dictEntries g rfl ?_)
 refine wpAny_bind ?_
 rw [<- Array.forIn_toList]
 refine wpAny_forIn_list _ (fun rest _ s'=>s'=s/\∀ e∈rest,e∈es.toList) _ ?_ ?_ es.toList _ ⟨rfl,fun e he=>he⟩
 ·rintro e rest _ s' ⟨rfl,hr⟩
  have me:=hr e (by simp)
  obtain⟨b,q,kb,gb,cb⟩:=hk e me
  have one:¬ (es.filter (·.hash == e.hash)).size > 1:=by
   have z:=hash_one e.hash es.toList hn
   rw [<- Array.length_toList,Array.toList_filter]
   omega
  rw [kb]
  have T:s'.TypeIs (.ref b) "tuple":=⟨q,gb,cb⟩
  refine wpAny_bind (wpAny_bind (wpAny_specialOf T F.slot_tuple_eq.lookup (wpAny_pure ?_)))
  rw [if_pos (by decide),if_neg one]
  exact wpAny_pure ⟨rfl,fun x hx=>hr x (by simp [hx])⟩
 ·rintro _ s' ⟨rfl,_⟩
  exact wpAny_pure h
theorem merge_dx {d o:Addr} {es:Array DictEntry} {ep:Nat} {s:Shared} {Q:Unit->Shared->Prop} (ne:d≠o) (ho:(o == sysModules)=false) (gd:s.heap.get? d=some (dxO #[] 0)) (go:s.heap.get? o=some (dxO es ep))
  (hk:∀ e∈es.toList,∃ b q,e.key=.ref b/\s.heap.get? b=some q/\q.cls=.type "tuple") (hn:(es.toList.map (·.hash)).Nodup) (hz:es.size<=sizeLine) (h:∀ h' ep',h'.get? d=some (dxO es ep')->Heap.SameBut d s.heap h'->Q () {s with heap:=h'}):
  wpAny (model prog w) A (Dict.mergeDict "dict.__init__" d o) Q E s:=by
 have nb:(d == o)=false:=by simpa using ne
 unfold Dict.mergeDict Dict.showsAll
 rw [if_neg (by rw [nb]; exact Bool.false_ne_true),if_neg (by rw [ho]; exact Bool.false_ne_true)]
 refine wpAny_bind (wpAny_pure (wpAny_bind (wpAny_dictEntries go rfl ?_)))
 cases hes:es.toList with
 | nil=>
  have e0:es=#[]:=by cases es; simp at hes; rw [hes]
  subst e0
  have z:=h s.heap 0 gd (Heap.SameBut.refl _ _)
  dsimp only
  rw [if_neg (by simp)]
  refine wpAny_bind (wpAny_dictEpoch go rfl (wpAny_bind (wpAny_dictEntries go rfl ?_)))
  rw [Std.Legacy.Range.forIn_eq_forIn_range']
  exact wpAny_bind (wpAny_pure (wpAny_pure z))
 | cons e r=>
  obtain⟨b,q,kb,gb,cb⟩:=hk e (by rw [hes]; simp)
  have few:(es.size<=8 && es.all fun e=>(keyPart e.key).isSome)=false:=by
   have:(es.all fun e=>(keyPart e.key).isSome)=false:=by
    rw [<- Array.all_toList,hes,List.all_cons,kb]
    rfl
   rw [this,Bool.and_false]
  dsimp only
  rw [if_pos (by rw [few]; rfl)]
  refine wpAny_bind (wpAny_dictEntries gd rfl ?_)
  rw [if_pos (by rfl)]
  refine wpAny_bind (entries_same go (by rw [hes]; rw [hes] at hk; exact hk) hn ?_)
  have ne0:(!es.isEmpty)=true:=by
   cases es
   simp at hes
   rw [hes]
   rfl
  rw [if_pos ne0]
  have up:(s.heap.update d (Obj.mapDictKeys fun _=>es)).get? d=_:=Heap.get?_update_self (Obj.mapDictKeys fun _=>es) gd rfl
  refine wpAny_bind (wpAny_updateDictKeysTo gd rfl ?_ (Nat.le_succ_of_le hz))
  exact wpAny_pure (h _ _ up (Heap.SameBut.update ..))
theorem call_dict_dict {o:Addr} {es:Array DictEntry} {ep:Nat} {s:Shared} {Q:Value->Shared->Prop} (ho:(o == sysModules)=false) (go:s.heap.get? o=some (dxO es ep))
  (hk:∀ e∈es.toList,∃ b q,e.key=.ref b/\s.heap.get? b=some q/\q.cls=.type "tuple") (hn:(es.toList.map (·.hash)).Nodup) (hz:es.size<=sizeLine)
  (h:∀ h' ep',h'.get? s.heap.objs.size=some (dxO es ep')->(∀ b q,s.heap.get? b=some q->h'.get? b=some q)->Q (.ref s.heap.objs.size) {s with heap:=h'}):wpAny (model prog w) A (call (.type "dict") [.ref o]) Q E s:=by
 refine callType_codes (Q₁:=fun ob s1=>ob=.ref s.heap.objs.size/\s1={s with heap:=s.heap.push {cls:=.type "dict",data:=.dict #[]}}) F.kt_called_dict (F.kt_typeCall_dict_1 _) F.entry_dict_init (kt_code_dict_new _ ⟨rfl,rfl⟩) ?_
 rintro ob s1 ⟨rfl,rfl⟩
 have lo:o < s.heap.objs.size:=Heap.lt_size go
 have go1:=Heap.get?_push_of_some {cls:=.type "dict",data:=.dict #[]} go
 have gd1:(s.heap.push {cls:=.type "dict",data:=.dict #[]}).get? s.heap.objs.size=some (dxO #[] 0):=Heap.get?_push_size _ rfl
 have T1:({s with heap:=s.heap.push {cls:=.type "dict",data:=.dict #[]}}:Shared).TypeIs (.ref s.heap.objs.size) "dict":=⟨_,gd1,rfl⟩
 have T2:({s with heap:=s.heap.push {cls:=.type "dict",data:=.dict #[]}}:Shared).TypeIs (.ref o) "dict":=⟨_,go1,rfl⟩
 refine⟨T1,F.args_dict_init_2 _ _,wpAny_bind (m:=Dict.selfAndRest "__init__" _) ?_⟩
 unfold Dict.selfAndRest
 refine wpAny_bind (wpAny_notOrdered_dict T1 (wpAny_pure (a:=(s.heap.objs.size,[Value.ref o])) ?_))
 show wpAny _ _ (Dict.updateFrom "dict.__init__" s.heap.objs.size (.ref o) [] .none) _ _ _
 unfold Dict.updateFrom
 refine wpAny_bind (wpAny_typeOf T2 ?_)
 rw [if_neg (by decide)]
 refine wpAny_bind ?_
 unfold Dict.merge
 refine wpAny_bind ?_
 unfold Dict.readDirectly
 refine wpAny_bind (wpAny_isInstance T2 isSubtype_dict_dict ?_)
 rw [if_neg (by decide)]
 refine wpAny_bind (wpAny_specialOf T2 F.slot_dict_iter.lookup (wpAny_pure ?_))
 rw [if_pos (by decide)]
 refine wpAny_bind (wpAny_pure (merge_dx (Nat.ne_of_gt lo) ho gd1 go1 (fun e he=>?_) hn hz fun h' ep' g sb=>?_))
 ·obtain⟨b,q,x1,x2,x3⟩:=hk e he
  exact⟨b,q,x1,Heap.get?_push_of_some _ x2,x3⟩
 ·exact wpAny_bind (wpAny_pure (wpAny_pure ⟨rfl,h h' ep' g fun b q x=>(sb.2 b (Nat.ne_of_lt (Heap.lt_size x))).trans (Heap.get?_push_of_some _ x)⟩))
end
section
variable {prog:Program} {w:World} {A:Around} {E:Value->Shared->Prop}
theorem tupGt (p q:Addr) (a b c d:Int) (t1 t2 t3 t4:Tok) (n n':Nat) (dd dd':Option Addr) (sl sl':Array (Option Value)):
  MeetsIn prog w (Builtin.«tuple.__gt__» ⟨[.ref p,.ref q],[]⟩) (fun A R s=>A.units+1 < cLine/\s.heap.get? p=some ⟨.type "tuple",dd,.seq #[.int a t1,.int b t2] n,sl⟩/\s.heap.get? q=some ⟨.type "tuple",dd',.seq #[.int c t3,.int d t4] n',sl'⟩/\
   R (.ok (.ret (.bool (decide (c < a) || (decide (a=c) && decide (d < b)))))) s):=
 .of_wp fun A R s h=>by
  obtain⟨hp,g,dr,tk,os⟩:=s
  obtain⟨hu,h1,h2,h⟩:=h
  have f:=AutoSeq1.sub_tuple_tuple
  have stp:∀ {x y:Int} {u v:Tok} {Q:Bool->Shared->Prop} {s:Shared},Q (x == y) s->wpAny (model prog w) A.in1 (eqBool (.int x u) (.int y v)) Q (fun e s'=>R (.error e) s') s:=fun h=>wpAny_eqBool_int h
  have gtp:∀ {x y:Int} {u v:Tok} {Q:Value->Shared->Prop} {s:Shared},Q (.bool (decide (y < x))) s->wpAny (model prog w) A.in1 (richCompare .Gt (.int x u) (.int y v)) Q (fun e s'=>R (.error e) s') s:=fun h=>PyProof.Rows.gt_int h
  by_cases e1:a=c
  ·subst e1
   by_cases e2:b=d
   ·subst e2
    repeat (any_goals (first | assumption | (with_reducible refine stp ?_) | (with_reducible refine gtp ?_) | wp_step))
    refine⟨_,rfl,?_⟩
    simp only [Int.lt_irrefl,decide_false,Bool.and_false,Bool.or_false] at h
    exact h
   ·have e3:(b == d)=false:=by simpa using e2
    repeat (any_goals (first | assumption | (with_reducible refine stp ?_) | (with_reducible refine gtp ?_) | wp_step))
    refine⟨_,rfl,?_⟩
    simp only [Int.lt_irrefl,decide_false,Bool.false_or,decide_true,Bool.true_and] at h
    exact h
  ·have e3:(a == c)=false:=by simpa using e1
   repeat (any_goals (first | assumption | (with_reducible refine stp ?_) | (with_reducible refine gtp ?_) | wp_step))
   refine⟨_,rfl,?_⟩
   simp only [decide_eq_false e1,Bool.false_and,Bool.or_false] at h
   exact h
theorem mx_loop {I S:Addr} {fp wr:List Addr} {n:Nat} {P:Nat->Value->Prop} {St:Nat->Heap->Prop} {R:Result->Shared->Prop} (W:Walks prog w A.in1 I fp wr n P St) (bt:Nat->Nat->Bool) (Φ:Heap->Prop) (hS:S∉fp)
  (kΦ:∀ h h',Φ h->(∀ b o,b∉wr->b≠S->h.get? b=some o->h'.get? b=some o)->Φ h')
  (cmp:∀ i j u v (s:Shared) (Q:Value->Shared->Prop) (E:Value->Shared->Prop),Φ s.heap->P i u->P j v->Q (.bool (bt i j)) s->wpAny (model prog w) A.in1 (richCompare .Gt u v) Q E s):
  ∀ (k j:Nat) (s:Shared) (vb:Value) (c:Nat),n - (j+1)=k->j+1<=n->Φ s.heap->St (j+1) s.heap->P (argBest bt j) vb->s.heap.get? S=some {cls:=.type "list",dict:=none,data:=.seq #[vb,vb] c,slots:=#[]}->
  (∀ v h' tk,P (argBest bt (n - 1)) v->(∀ b o,b∉wr->b≠S->s.heap.get? b=some o->h'.get? b=some o)->R (.ok (.ret v)) {s with heap:=h',toks:=tk})->codeAny (model prog w) A (.builtin "max.loop" ⟨[.ref I,.none,.ref S],[]⟩) R s:=by
 have nw:S∉wr:=fun z=>hS (W.sub _ z)
 have nm:((toString "max"++toString ".loop":String))="max.loop":=by decide
 intro k
 induction k with
 | zero=>
  intro j s vb c hk hj ph st pb gS fin
  have ej:n=j+1:=by omega
  refine codeAny_builtin F.entry_max_loop ?_
  rw [Around.under_plainId F.plain_max_loop _]
  refine wpAny_bind (m:=seqItems? (.ref S)) (wpAny_seqItems gS rfl (wpAny_bind (wpAny_tryCatch (m:=pyNext (.ref I)) (W.done s _ _ (by rw [ej]; exact st) fun h' tk far=>?_))))
  have g1:=far S _ nw gS
  refine wpAny_bind (m:=updateSeq S fun _=>#[]) (wpAny_updateSeq g1 rfl (wpAny_bind (wpAny_letGo (wpAny_pure (fin vb _ tk (by rw [ej]; exact pb) fun b o n1 n2 x=>?_)))))
  exact(Heap.get?_update_other _ _ (Ne.symm n2)).trans (far b o n1 x)
 | succ k ih=>
  intro j s vb c hk hj ph st pb gS fin
  have lt:j+1 < n:=by omega
  refine codeAny_builtin F.entry_max_loop ?_
  rw [Around.under_plainId F.plain_max_loop _]
  refine wpAny_bind (m:=seqItems? (.ref S)) (wpAny_seqItems gS rfl (wpAny_bind (wpAny_tryCatch (m:=pyNext (.ref I)) (W.item (j+1) s _ _ lt st fun v h' tk pv st1 far=>?_))))
  have g1:=far S _ nw gS
  have ph1:=kΦ _ _ ph fun b o n1 _ x=>far b o n1 x
  refine wpAny_bind (wpAny_pure (wpAny_bind (wpAny_tryCatch (wpAny_holding (wpAny_bind (m:=richCompare .Gt v vb) (cmp (j+1) (argBest bt j) v vb _ _ _ ph1 pv pb (wpAny_bind (wpAny_holding (wpAny_truthy_bool (wpAny_bind (wpAny_letGo (wpAny_pure ?_))))))))))))
  by_cases hb:bt (j+1) (argBest bt j)=true
  ·rw [hb,if_pos rfl]
   refine wpAny_bind (m:=updateSeq S fun _=>#[v,v]) (wpAny_updateSeq g1 rfl (wpAny_bind (wpAny_letGo ?_)))
   have oth:∀ b o,b≠S->h'.get? b=some o->(h'.update S (Obj.mapSeq fun _=>#[v,v])).get? b=some o:=fun b o n2 x=>(Heap.get?_update_other _ _ (Ne.symm n2)).trans x
   rw [nm]
   refine wpAny_pure ⟨plainId_quiet F.plain_max_loop _,ih (j+1) _ v _ (by omega) lt (kΦ _ _ ph1 fun b o _ n2 x=>oth b o n2 x) (W.frame _ _ _ st1 fun b hb' o x=>oth b o (fun z=>hS (z▸hb')) x) (by unfold argBest; rw [hb,if_pos rfl]; exact pv) (Heap.get?_update_self _ g1 rfl) fun u h2 tk2 pu far2=>?_⟩
   exact fin u h2 tk2 pu fun b o n1 n2 x=>far2 b o n1 n2 (oth b o n2 (far b o n1 x))
  ·have hb':bt (j+1) (argBest bt j)=false:=by simpa using hb
   rw [hb',if_neg Bool.false_ne_true]
   refine wpAny_bind (wpAny_letGo ?_)
   rw [nm]
   refine wpAny_pure ⟨plainId_quiet F.plain_max_loop _,ih (j+1) _ vb c (by omega) lt ph1 st1 (by unfold argBest; rw [hb',if_neg Bool.false_ne_true]; exact pb) g1 fun u h2 tk2 pu far2=>?_⟩
   exact fin u h2 tk2 pu fun b o n1 n2 x=>far2 b o n1 n2 (far b o n1 x)
theorem mx_call {x:Value} {s:Shared} {Q:Value->Shared->Prop} (h:wpAny (model prog w) A.in1 (pyIter x) (fun it s2=>∃ I fp wr n P St bt,∃ Φ:Heap->Prop,it=.ref I/\Walks prog w A.in1 I fp wr n P St/\St 0 s2.heap/\(∀ b∈fp,b < s2.heap.objs.size)/\0 < n/\Φ s2.heap/\
   (∀ S,s2.heap.objs.size<=S->∀ h h',Φ h->(∀ b o,b∉wr->b≠S->h.get? b=some o->h'.get? b=some o)->Φ h')/\
   (∀ i j u v (s:Shared) (Q:Value->Shared->Prop) (E:Value->Shared->Prop),Φ s.heap->P i u->P j v->Q (.bool (bt i j)) s->wpAny (model prog w) A.in1 (richCompare .Gt u v) Q E s)/\
   ∀ v h' tk,P (argBest bt (n - 1)) v->(∀ b o,b∉wr->s2.heap.get? b=some o->h'.get? b=some o)->Q v {s2 with heap:=h',toks:=tk}) E s):wpAny (model prog w) A (call (.builtin "max") [x]) Q E s:=by
 have nm:((toString "max"++toString ".loop":String))="max.loop":=by decide
 refine call_function_tree F.kind_max F.plain_max F.entry_max (F.args_max1 _) (wpAny_bind (m:=Builtin.Builtins.bindParams "max" ["key","default"] 0 ⟨[],[]⟩) (wpAny_of_eq (a:=[none,none]) rfl (wpAny_bind (wpAny_pure (wpAny_bind (wpAny_mono h (fun it s2 h2=>?_) fun _ _ e=>e))))))
 obtain⟨I,fp,wr,n,P,St,bt,Φ,rfl,W,st,below,n0,ph,kΦ,cmp,fin⟩:=h2
 refine wpAny_bind (wpAny_newObj_type ?_)
 have hS:s2.heap.objs.size∉fp:=fun m=>Nat.lt_irrefl _ (below _ m)
 have nw:s2.heap.objs.size∉wr:=fun m=>hS (W.sub _ m)
 have kp:∀ b o,s2.heap.get? b=some o->(s2.heap.push {cls:=.type "list",data:=.seq #[]}).get? b=some o:=fun b o x=>Heap.get?_push_of_some _ x
 have gS:(s2.heap.push {cls:=.type "list",data:=.seq #[]}).get? s2.heap.objs.size=some {cls:=.type "list",dict:=none,data:=.seq #[] 0,slots:=#[]}:=Heap.get?_push_size _ rfl
 have ph0:=kΦ _ (Nat.le_refl _) _ _ ph fun b o _ _ x=>kp b o x
 have st0:=W.frame 0 _ _ st fun b _ o x=>kp b o x
 rw [nm]
 refine wpAny_pure ⟨plainId_quiet F.plain_max_loop _,codeAny_builtin F.entry_max_loop ?_⟩
 rw [Around.under_plainId F.plain_max_loop _]
 refine wpAny_bind (m:=seqItems? (.ref s2.heap.objs.size)) (wpAny_seqItems gS rfl (wpAny_bind (wpAny_tryCatch (m:=pyNext (.ref I)) (W.item 0 _ _ _ n0 st0 fun v h' tk pv st1 far=>?_))))
 have g1:=far _ _ nw gS
 have ph1:=kΦ _ (Nat.le_refl _) _ _ ph0 fun b o n1 _ x=>far b o n1 x
 have oth:∀ b o,b≠s2.heap.objs.size->h'.get? b=some o->(h'.update s2.heap.objs.size (Obj.mapSeq fun _=>#[v,v])).get? b=some o:=fun b o n2 x=>(Heap.get?_update_other _ _ (Ne.symm n2)).trans x
 refine wpAny_bind (wpAny_pure (wpAny_bind (m:=updateSeq s2.heap.objs.size fun _=>#[v,v]) (wpAny_updateSeq g1 rfl ?_)))
 rw [nm]
 refine wpAny_pure ⟨plainId_quiet F.plain_max_loop _,mx_loop W bt Φ hS (kΦ _ (Nat.le_refl _)) cmp _ 0 _ v _ rfl n0 (kΦ _ (Nat.le_refl _) _ _ ph1 fun b o _ n2 x=>oth b o n2 x) (W.frame _ _ _ st1 fun b hb o x=>oth b o (fun z=>hS (z▸hb)) x) pv (Heap.get?_update_self _ g1 rfl) fun u h2 tk2 pu far2=>?_⟩
 exact fin u h2 tk2 pu fun b o n1 x=>by
  have nb:b≠s2.heap.objs.size:=Nat.ne_of_lt (Heap.lt_size x)
  exact far2 b o n1 nb (oth b o nb (far b o n1 (kp b o x)))
theorem walks_dx (c:DIt) (hh:A.handled=none) (I d:Addr) (ne:d≠I) (es:Array DictEntry) (ep:Nat):Walks prog w A I [I,d] [I] es.size (fun i v=>∃ e,es[i]?=some e/\v=DIt.of e c) (fun i h=>h.get? I=some (kiO c.nm d i es.size ep)/\h.get? d=some (dxO es ep)) where
 sub:=fun b hb=>by simp at hb; simp [hb]
 frame:=fun _ _ _ st k=>⟨k I (by simp) _ st.1,k d (by simp) _ st.2⟩
 item:=fun i s Q E hi st fin=>next_dx c (e:=es[i]) st.1 st.2 (by simp [hi]) fun h' a k=>fin _ h' s.toks ⟨es[i],by simp [hi],rfl⟩ ⟨a,k _ _ ne st.2⟩ fun b o hb x=>k b o (fun z=>hb (by simp [z])) x
 done:=fun s Q E st fin=>next_dxE c hh st.1 st.2 (by simp) fun h' k=>fin h' s.toks fun b o hb x=>k b o (fun z=>hb (by simp [z])) x
 self:=fun _ _ _ _ st q=>self_ki c st.1 q
end
end PySem
namespace DL
open PySem PySem.Spec PyProof.Rows L2
theorem pairs_raw {X:Cx} {pins:List (Addr×Obj)} {σ:L2.St} {H:Hp} {s:Shared} (I:Inv X pins σ H s):∀ {kvs:List (List Int×D)} {xs:List V} {us:List Value},IsDs X.K H (pairsD kvs) xs->Vals xs us->
  ∃ ts:List (Addr×List Int×Addr×Value),us=ts.map (fun t=>Value.ref t.1)/\KtR X.K H kvs (ts.map (·.2))/\
   ∀ t∈ts,(∃ dd n sl,s.heap.get? t.1=some {cls:=.type "tuple",dict:=dd,data:=.seq #[.ref t.2.2.1,t.2.2.2] n,slots:=sl})/\(tkI X.prog X.w).is s.heap t.2.1 t.2.2.1
 | [],xs,us,i,r=>by
  have e:xs=[]:=isNil.mp i
  subst e
  cases r
  exact⟨[],rfl,.nil,fun t ht=>nomatch ht⟩
 | kv::kvs,xs,us,i,r=>by
  obtain⟨v,vs,rfl,h1,h2⟩:=isCons.mp (show IsDs X.K H (.tup [keyD kv.1,kv.2]::pairsD kvs) xs from i)
  cases r with
  | @cons _ u _ us r1 r2=>
   obtain⟨ts,e,q1,q2⟩:=pairs_raw I h2 r2
   obtain⟨T,ys,rfl,t1,j⟩:=isTup.mp h1
   obtain⟨y1,y2,rfl,j1,j2⟩:=isDs2 j
   obtain⟨b,rfl,tb⟩:=isKey.mp j1
   cases (show u=Value.ref T from r1)
   obtain⟨its,rv,⟨⟨cls,dd,data,sl⟩,g1,g2,n,g3⟩,_⟩:=I.tuple t1
   obtain⟨w1,w2,rfl,rw1,rw2⟩:=vals2 rv
   cases (show w1=Value.ref b from rw1)
   simp only at g2 g3
   subst g2 g3
   refine⟨(T,kv.1,b,w2)::ts,by rw [e]; rfl,.cons ⟨rfl,tb,y2,rw2,j2⟩ q1,fun t ht=>?_⟩
   rcases List.mem_cons.mp ht with e2 | ht2
   ·subst e2
    exact⟨⟨dd,n,sl,g1⟩,key_int I tb⟩
   ·exact q2 t ht2
theorem foldl_snd (ts:List (Addr×List Int×Addr×Value)):∀ acc,ts.foldl (fun acc t=>storedH acc t.2.1 t.2.2.1 t.2.2.2) acc=(ts.map (·.2)).foldl (fun acc k=>storedH acc k.1 k.2.1 k.2.2) acc:=by
 induction ts with
 | nil=>intro acc; rfl
 | cons t ts ih=>intro acc; exact ih _
def bDict:DSp:=fun ds S k=>match ds with
 | [.ref a]=>(∃ kvs ep,S a=some (.gen (.dT kvs ep))/\(kvs.map fun p=>hashT p.1).Nodup/\∀ p,S p=none->∀ ep',k (.ref p) (put S p (.gen (.dT kvs ep'))))\/
   ∃ kvs,S a=some (.lst (pairsD kvs))/\∀ p,S p=none->∀ ep',k (.ref p) (put S p (.gen (.dT (mergeT [] kvs) ep')))
 | _=>False
theorem b_dict {X:Cx} {n:Nat} (hr:Room n X.A):CallR X (.type "dict") (upC X.K bDict):=by
 intro pins s σ H xs us Q I rs h
 obtain⟨ds,S,k,i,hS,r,m⟩:=h
 unfold bDict at r
 split at r
 ·rename_i a
  obtain⟨v,rfl,j⟩:=isDs1 i
  have ex:=isRef.mp j
  subst ex
  obtain⟨u,rfl,ru⟩:=vals1 rs
  cases (show u=Value.ref a from ru)
  have hn:=I.hok.fresh (Nat.le_refl s.heap.objs.size)
  have hb:(s.heap.objs.size == sysModules)=false:=beq_eq_false_iff_ne.mpr (Ne.symm (Nat.ne_of_lt I.big))
  have hun:=hr.un
  rcases r with ⟨kvs,ep,g1,nd,r⟩ | ⟨kvs,g1,r⟩
  ·obtain⟨ys,e1,r1⟩:=hS.dT g1
   obtain⟨hd,z,ndk,g⟩:=dxp_at I e1
   have hash:(ys.map fun y=>hashT y.1)=kvs.map fun p=>hashT p.1:=by
    clear e1 z ndk g nd g1 r
    induction r1 with
    | nil=>rfl
    | cons h t ih=>exact congr (congrArg List.cons (congrArg hashT h.1.symm)) ih
   refine call_dict_dict hd g (fun e he=>?_) ?_ (by simp; omega) fun h' ep' g' kk=>?_
   ·simp only [List.mem_map] at he
    obtain⟨y,hy,rfl⟩:=he
    have dd:=dx_of I e1 r1
    obtain⟨_,_,_,_,_,_,_,al,_⟩:=dd
    obtain⟨q,its,n',q1,q2,_⟩:=al y hy
    exact⟨y.2.1,q,rfl,q1,q2⟩
   ·show((ys.map eT).map (·.hash)).Nodup
    rw [List.map_map,show((fun x:DictEntry=>x.hash) ∘ eT)=fun y:List Int×Addr×Value=>hashT y.1 from rfl,hash]
    exact nd
   ·have new:DxP s.heap.objs.size ys ep' h':=⟨hb,z,ndk,g'⟩
    refine⟨.ref s.heap.objs.size,_,I.laid (o:=.ext (DxP s.heap.objs.size ys ep')) (t':=s.toks) kk (Nat.le_refl _) (ext_ok new),rfl,?_⟩
    exact m _ _ _ _ (r _ (hS.free hn) ep') (Kp.new hn) (hS.newG hn ⟨ys,upd_same,r1.kp (Kp.new hn)⟩) (isRef.mpr rfl)
  ·obtain⟨vs,hl,jl⟩:=hS.lst g1
   obtain⟨z,its,c,rv,gl⟩:=(show ObjOk X.prog X.w H s.heap a (.lst vs) from I.hok a _ hl)
   obtain⟨ts,rfl,q1,q2⟩:=pairs_raw I jl rv
   have hz:ts.length<=sizeLine:=by
    have:=rv.length
    rw [List.length_map] at this
    omega
   refine call_dict_list (by omega) hr.hd I.big ts gl q2 hz fun h' tk kk dd=>?_
   rw [foldl_snd] at dd
   have z':((ts.map (·.2)).foldl (fun acc k=>storedH acc k.1 k.2.1 k.2.2) []).length<=sizeLine:=by have:=foldH_len (ts.map (·.2)) []; rw [List.length_map,List.length_nil] at this; omega
   obtain⟨ep',new⟩:=dxp_of hb z' dd
   refine⟨.ref s.heap.objs.size,_,I.laid (o:=.ext (DxP s.heap.objs.size _ ep')) (t':=tk) kk (Nat.le_refl _) (ext_ok new),rfl,?_⟩
   exact m _ _ _ _ (r _ (hS.free hn) ep') (Kp.new hn) (hS.newG hn ⟨_,upd_same,(q1.merge .nil).kp (Kp.new hn)⟩) (isRef.mpr rfl)
 ·exact r.elim
def gtP:List Int->List Int->Bool
 | [a,b],[c,d]=>decide (c < a) || (decide (a=c) && decide (d < b))
 | _,_=>false
theorem best_gt (key:Nat->List Int) (h2:∀ i,∃ a b,key i=[a,b]):∀ k,argBest (fun i j=>gtP (key i) (key j)) k<=k/\∀ i,i<=k->gtP (key i) (key (argBest (fun i j=>gtP (key i) (key j)) k))=false
 | 0=>⟨Nat.le_refl _,fun i h=>by
   have:i=0:=by omega
   subst this
   obtain⟨a,b,e⟩:=h2 0
   show gtP (key 0) (key 0)=false
   rw [e]
   simp [gtP]⟩
 | k+1=>by
  obtain⟨b1,b2⟩:=best_gt key h2 k
  obtain⟨a,b,e1⟩:=h2 (k+1)
  obtain⟨c,d,e2⟩:=h2 (argBest (fun i j=>gtP (key i) (key j)) k)
  unfold argBest
  by_cases h:gtP (key (k+1)) (key (argBest (fun i j=>gtP (key i) (key j)) k))=true
  ·rw [if_pos h]
   refine⟨Nat.le_refl _,fun i hi=>?_⟩
   obtain⟨x,y,e3⟩:=h2 i
   rw [e1,e2] at h
   rw [e1,e3]
   by_cases q:i=k+1
   ·subst q
    rw [e1] at e3
    injection e3 with z1 z2
    injection z2 with z2 _
    subst z1 z2
    simp [gtP]
   ·have z:=b2 i (by omega)
    rw [e2,e3] at z
    simp only [gtP,Bool.or_eq_true,Bool.and_eq_true,decide_eq_true_eq,Bool.or_eq_false_iff,Bool.and_eq_false_iff,decide_eq_false_iff_not] at h z ⊢
    omega
  ·rw [if_neg h]
   refine⟨by omega,fun i hi=>?_⟩
   by_cases q:i=k+1
   ·subst q; simpa using h
   ·exact b2 i (by omega)
def keyAt (ys:List (List Int×Addr×Value)) (i:Nat):List Int:=(ys[i]?.map (·.1)).getD [0,0]
theorem keyAt_some {ys:List (List Int×Addr×Value)} {i:Nat} {y:List Int×Addr×Value} (h:ys[i]?=some y):keyAt ys i=y.1:=by unfold keyAt; rw [h]; rfl
def bMaxD:DSp:=fun ds S k=>match ds with
 | [.ref a]=>∃ kvs ep,S a=some (.gen (.dT kvs ep))/\kvs≠[]/\(∀ p∈kvs,∃ i j,p.1=[i,j])/\∀ m∈kvs,(∀ p∈kvs,gtP p.1 m.1=false)->k (keyD m.1) S
 | _=>False
theorem b_maxD {X:Cx} {n:Nat} (hr:Room n X.A):CallR X (.builtin "max") (upC X.K bMaxD):=by
 intro pins s σ H xs us Q I rs h
 obtain⟨ds,S,k,i,hS,r,m⟩:=h
 unfold bMaxD at r
 split at r
 ·rename_i a
  obtain⟨v,rfl,j⟩:=isDs1 i
  have ex:=isRef.mp j
  subst ex
  obtain⟨u,rfl,ru⟩:=vals1 rs
  cases (show u=Value.ref a from ru)
  obtain⟨kvs,ep,g1,ne,two,r⟩:=r
  obtain⟨ys,e1,r1⟩:=hS.dT g1
  obtain⟨hd,z,ndk,g⟩:=dxp_at I e1
  have hun:=hr.un
  have la:a < s.heap.objs.size:=Heap.lt_size g
  have len:=r1.length
  have n0:0 < ys.length:=by rw [<- len]; exact List.length_pos_iff.mpr ne
  have tup:∀ y∈ys,∃ i j dd sl t1 t2 c,y.1=[i,j]/\s.heap.get? y.2.1=some ⟨.type "tuple",dd,.seq #[.int i t1,.int j t2] c,sl⟩:=fun y hy=>by
   obtain⟨q,hq,rfl⟩:=List.mem_iff_getElem.mp hy
   obtain⟨p',hp1,hp2,hp3,_⟩:=r1.at_ (i:=q) (p:=kvs[q]'(by omega)) (by simp)
   rw [List.getElem?_eq_getElem hq] at hp1
   cases hp1
   obtain⟨i,j,ee⟩:=two _ (List.getElem_mem (by omega:q < kvs.length))
   rw [ee] at hp2 hp3
   obtain⟨its,rv,⟨⟨cls,dd,data,sl⟩,h1,h2,c,h3⟩,_⟩:=I.tuple hp3
   obtain⟨w1,w2,rfl,rw1,rw2⟩:=vals2 rv
   obtain⟨t1,rfl⟩:=rw1
   obtain⟨t2,rfl⟩:=rw2
   simp only at h2 h3
   subst h2 h3
   exact⟨i,j,dd,sl,t1,t2,c,hp2.symm,h1⟩
  have hz:ys.length<=sizeLine:=z
  have szE:(ys.map eT).toArray.size=ys.length:=by simp
  have keyOk:∀ i,∃ a b,keyAt ys i=[a,b]:=fun i=>by
   unfold keyAt
   cases q:ys[i]? with
   | none=>exact⟨0,0,rfl⟩
   | some y=>
    obtain⟨a,b,_,_,_,_,_,e,_⟩:=tup y (List.mem_of_getElem? q)
    exact⟨a,b,e⟩
  refine mx_call (pyIter_dk (A:=X.A.in1) hd g ?_)
  refine⟨s.heap.objs.size,_,_,_,_,_,fun i j=>gtP (keyAt ys i) (keyAt ys j),fun h=>∀ y∈ys,∃ i j dd sl t1 t2 c,y.1=[i,j]/\h.get? y.2.1=some ⟨.type "tuple",dd,.seq #[.int i t1,.int j t2] c,sl⟩,rfl,
   walks_dx .k (show X.A.in1.handled=none from hr.hd) s.heap.objs.size a (Nat.ne_of_lt la) _ ep,⟨Heap.get?_push_size _ rfl,Heap.get?_push_of_some _ g⟩,fp_lt la,by rw [szE]; exact n0,fun y hy=>?_,fun S' hS' h h' ph far y hy=>?_,fun i j u v s' Q' E' ph pu pv q=>?_,fun v h' tk pv far=>?_⟩
  ·obtain⟨i,j,dd,sl,t1,t2,c,ee,gg⟩:=tup y hy
   exact⟨i,j,dd,sl,t1,t2,c,ee,Heap.get?_push_of_some _ gg⟩
  ·obtain⟨i0,j0,dd0,sl0,t10,t20,c0,ee0,gg0⟩:=tup y hy
   have ly:y.2.1 < s.heap.objs.size:=Heap.lt_size gg0
   obtain⟨i,j,dd,sl,t1,t2,c,ee,gg⟩:=ph y hy
   have sp:s.heap.objs.size < S':=Nat.lt_of_lt_of_le (Heap.lt_size (Heap.get?_push_size s.heap (o:=kiO "dict_keyiterator" a 0 (ys.map eT).toArray.size ep) rfl)) hS'
   exact⟨i,j,dd,sl,t1,t2,c,ee,far _ _ (by simp; exact Nat.ne_of_lt ly) (Nat.ne_of_lt (Nat.lt_trans ly sp)) gg⟩
  ·obtain⟨e,he,rfl⟩:=pu
   obtain⟨e',he',rfl⟩:=pv
   simp only [List.getElem?_toArray,List.getElem?_map] at he he'
   obtain⟨y,hy,rfl⟩:=Option.map_eq_some_iff.mp he
   obtain⟨y',hy',rfl⟩:=Option.map_eq_some_iff.mp he'
   obtain⟨a1,b1,dd,sl,t1,t2,c,ee,gg⟩:=ph y (List.mem_of_getElem? hy)
   obtain⟨a2,b2,dd',sl',t1',t2',c',ee',gg'⟩:=ph y' (List.mem_of_getElem? hy')
   have T1:s'.TypeIs (.ref y.2.1) "tuple":=⟨_,gg,rfl⟩
   simp only [keyAt_some hy,keyAt_some hy',ee,ee',gtP] at q
   have fin:Value.bool (decide (a2 < a1) || (decide (a1=a2) && decide (b2 < b1)))≠.notImplemented/\Q' (.bool (decide (a2 < a1) || (decide (a1=a2) && decide (b2 < b1)))) s':=⟨(by intro z; cases z),q⟩
   exact wpAny_richCompare_same_room (op:=.Gt) T1 ⟨_,gg',rfl⟩ F.slot_tuple_gt (call_meetsIn F.slot_tuple_gt T1 F.entry_tuple_gt (F.args_tuple_gt_2 _ _) (tupGt y.2.1 y'.2.1 a1 b1 a2 b2 t1 t2 t1' t2' c c' dd dd' sl sl') ⟨by show X.A.units+1+1 < cLine; omega,gg,gg',fin⟩) (by show X.A.units+1 < cLine; omega)
  ·obtain⟨e,he,rfl⟩:=pv
   simp only [List.getElem?_toArray,List.getElem?_map] at he
   rw [szE] at he
   obtain⟨y,hy,rfl⟩:=Option.map_eq_some_iff.mp he
   obtain⟨b1,b2⟩:=best_gt (keyAt ys) keyOk (ys.length - 1)
   generalize argBest (fun i j=>gtP (keyAt ys i) (keyAt ys j)) (ys.length - 1)=bi at b1 b2 hy
   have lb:bi < kvs.length:=by omega
   obtain⟨q,hq,f1,f2,_⟩:=r1.at_ (i:=bi) (p:=kvs[bi]) (by simp)
   rw [hy] at hq
   cases hq
   have kq:=r kvs[bi] (List.getElem_mem lb) fun p hp=>by
    obtain⟨x,hx,rfl⟩:=List.mem_iff_getElem.mp hp
    obtain⟨q',hq',f1',_⟩:=r1.at_ (i:=x) (p:=kvs[x]) (by simp)
    have z:=b2 x (by omega)
    rw [keyAt_some hq',keyAt_some hy,<- f1',<- f1] at z
    exact z
   have I1:Inv X pins σ H {s with heap:=s.heap.push (kiO "dict_keyiterator" a 0 (ys.map eT).toArray.size ep)}:=I.kept (t':=s.toks) fun c o e=>Heap.get?_push_of_some _ e
   refine⟨.ref y.2.1,H,Inv.turnedL (s:={s with heap:=s.heap.push (kiO "dict_keyiterator" a 0 (ys.map eT).toArray.size ep)}) (t':=tk) [s.heap.objs.size] I1 far (fun c hc=>?_),rfl,m _ S _ H kq (Kp.refl H) hS (isKey.mpr ⟨_,rfl,f2⟩)⟩
   have e:c=s.heap.objs.size:=by simpa using hc
   subst e
   exact I.fpOk (Nat.le_refl _) (I.hok.fresh (Nat.le_refl _))
 ·exact r.elim
end DL
namespace L2
open PySem PySem.Spec PyProof.Rows
def VwP (p a:Addr):Heap->Prop:=fun h=>h.get? p=some {cls:=.type "dict_values",data:=.fields #[.ref a]}
section
variable {X:Cx} {o:Expr} {to:TE} {apos cpos pos p0:Pos}
def tVals (to:TE):TE:=fun σ H Q=>to σ H fun x H1=>∃ a xs ep,x=.ref a/\H1 a=some (.ext (DL.DxP a xs ep))/\∀ p,H1 p=none->Q (.ref p) (upd H1 p (.ext (VwP p a)))
theorem pe_vals (ho:PE X o to) (hbase:attributeBase o "values" X.env (eval o X.env)=eval o X.env:=by rfl) (hline:(apos.endLine == cpos.line)=true:=by rfl):PE X (.Call (.Attribute o "values" apos) [] [] cpos) (tVals to):=by
 intro pins s σ H Q I h
 refine wpAny_Call_method0_late hbase hline (thn (ho pins s σ H _ I h) fun v s1 ⟨x,H1,I1,r1,a,xs,ep,ex,e1,q⟩=>?_)
 subst ex
 cases (show v=Value.ref a from r1)
 obtain⟨hd,_,_,g⟩:=DL.dxp_at I1 e1
 refine⟨"dict","dict.values",F.plainAttrs_dict,F.slot_dict_values,F.type_dict_values,⟨_,g,rfl⟩,fun b e=>by cases e; exact⟨_,g,rfl⟩,Calls.callWith_builtin rfl (PySem.evalArgs_none ?_)⟩
 refine call_meetsIn F.slot_dict_values ⟨_,g,rfl⟩ F.entry_dict_values (F.args_dict_values_1 _) (diV a _ ep hd) ⟨g,?_⟩
 have hn:=I1.hok.fresh (Nat.le_refl s1.heap.objs.size)
 have gp:(s1.heap.push {cls:=.type "dict_values",data:=.fields #[.ref a]}).get? s1.heap.objs.size=some {cls:=.type "dict_values",data:=.fields #[.ref a]}:=Heap.get?_push_size _ rfl
 exact⟨.ref s1.heap.objs.size,_,I1.laid (o:=.ext (VwP s1.heap.objs.size a)) (t':=s1.toks) (fun b o e=>Heap.get?_push_of_some _ e) (Nat.le_refl _) ⟨gp,⟨_,gp⟩,fun h1 h2 z k=>k _ z⟩,rfl,q _ hn⟩
theorem src_vals {P:Program} {w:World} {p a:Addr} {es:Array DictEntry} {ep:Nat}:PySem.W.KdlSrc P w "dict_values" p a es.size (fun i v=>∃ e,es[i]?=some e/\v=DIt.of e .v) (fun h=>VwP p a h/\h.get? a=some (DL.dxO es ep)) where
 type:=fun s ok=>⟨_,ok.1,rfl⟩
 there:=fun h ok=>⟨Heap.lt_size ok.1,Heap.lt_size ok.2⟩
 keep:=fun h h' ok k=>⟨k p (.inl rfl) _ ok.1,k a (.inr rfl) _ ok.2⟩
 notList:=by decide
 notTuple:=by decide
 hint:=fun A E s Q ok q=>PySem.W.kdl_hint_values ⟨_,ok.1,rfl⟩ q
 iter:=fun A s hh ok=>⟨kiO "dict_valueiterator" a 0 es.size ep,_,fun E Q q=>pyIter_dv ok.1 ok.2 q,walks_dx .v hh s.heap.objs.size a (Nat.ne_of_lt (Heap.lt_size ok.2)) es ep,⟨Heap.get?_push_size _ rfl,Heap.get?_push_of_some _ ok.2⟩⟩
def rListV:List V->Hp->VK->Prop:=fun xs H Q=>∃ p a ys ep vs,xs=[.ref p]/\H p=some (.ext (VwP p a))/\H a=some (.ext (DL.DxP a ys ep))/\Vals vs (ys.map (·.2.2))/\∀ q,H q=none->Q (.ref q) (upd H q (.lst vs))
theorem call_listV (hc:X.calm=true):CallR X (.type "list") rListV:=by
 intro pins s σ H xs us Q I rs h
 obtain⟨p,a,ys,ep,vs,rfl,e1,e2,rv,q⟩:=h
 obtain⟨u,rfl,ru⟩:=vals1 rs
 cases (show u=Value.ref p from ru)
 have g1:=(I.hok p _ e1).1
 obtain⟨_,z,_,g2⟩:=DL.dxp_at I e2
 have hn:=I.hok.fresh (Nat.le_refl s.heap.objs.size)
 have sz:(ys.map DL.eT).toArray.size=ys.length:=by simp
 refine PySem.W.kdl_call (src_vals (p:=p) (a:=a) (es:=(ys.map DL.eT).toArray) (ep:=ep)) (I.ok.hd hc) ⟨g1,g2⟩ (by rw [sz]; exact z) fun h' tk acc' c' kk gn it=>?_
 have ev:acc'.toList=ys.map (·.2.2):=by
  obtain⟨l1,l2⟩:=it
  apply List.ext_getElem?
  intro i
  rw [Array.getElem?_toList,List.getElem?_map]
  cases q1:acc'[i]? with
  | none=>
   have:acc'.size<=i:=by simpa using q1
   rw [l1,sz] at this
   rw [List.getElem?_eq_none this]
   rfl
  | some v=>
   obtain⟨e,he,rfl⟩:=l2 i v q1
   simp only [List.getElem?_toArray,List.getElem?_map] at he
   obtain⟨y,hy,rfl⟩:=Option.map_eq_some_iff.mp he
   rw [hy]
   rfl
 have ea:acc'=(ys.map (·.2.2)).toArray:=by rw [<- ev]
 refine⟨.ref s.heap.objs.size,_,I.laid (o:=.lst vs) (t':=tk) kk (Nat.le_refl _) ⟨?_,_,c',rv,by rw [gn,ea]⟩,rfl,q _ hn⟩
 rw [rv.length,List.length_map]
 exact z
end
end L2
namespace DL
open PySem PySem.Spec PyProof.Rows L2
theorem KtR.vals {K:Fg} {H:Hp}:∀ {kvs:List (List Int×D)} {xs:List (List Int×Addr×Value)},KtR K H kvs xs->∃ vs,Vals vs (xs.map (·.2.2))/\IsDs K H (kvs.map (·.2)) vs
 | _,_,.nil=>⟨[],.nil,IsDs.nil⟩
 | _,_,.cons ⟨_,_,v,h3,h4⟩ t=>by
  obtain⟨vs,a,b⟩:=KtR.vals t
  exact⟨v::vs,.cons h3 a,IsDs.cons h4 b⟩
def dListV (go:DE):DE:=fun L S k=>go L S fun d S1=>match d with
 | .ref a=>∃ kvs ep,S1 a=some (.gen (.dT kvs ep))/\∀ p,S1 p=none->k (.ref p) (put S1 p (.lst (kvs.map (·.2))))
 | _=>False
theorem d_listVj {X:Cx} {o:Expr} {go:DE} {apos cpos pos p0:Pos} (hc:X.calm=true) (hg:Gl X "list") (hm:X.mg "list"=none) (ho:EJ X o go) (hbase:attributeBase o "values" X.env (eval o X.env)=eval o X.env:=by rfl) (hline:(apos.endLine == cpos.line)=true:=by rfl):
  EJ X (.Call (.Name "list" p0) [.Call (.Attribute o "values" apos) [] [] cpos] [] pos) (dListV go):=
 ⟨PE.imp (pe_callTy (call_listV hc) hg hm (by decide +kernel) (pa_cons (pe_vals ho.h hbase hline) pa_nil rfl)) fun σ H Q ⟨L,S,k,hL,hS,h,n⟩=>up.go hL hS h fun d S1 v H1 h1 k1 hL1 hS1 i1=>by
  cases d with
  | ref a=>
   obtain⟨kvs,ep,g1,h1⟩:=h1
   obtain⟨xs,e1,r1⟩:=hS1.dT g1
   have ex:=isRef.mp i1
   subst ex
   refine⟨a,xs,ep,rfl,e1,fun p hp=>?_⟩
   obtain⟨vs,q1,q2⟩:=r1.vals
   have kn:Kp H1 (upd H1 p (.ext (VwP p a))):=Kp.new hp
   have na:a≠p:=ne_of_none e1 hp
   refine⟨p,a,xs,ep,vs,rfl,upd_same,by rw [upd_ne na]; exact e1,q1,fun q hq=>?_⟩
   have hS2:Hs X.K (upd H1 p (.ext (VwP p a))) S1:=hS1.new hp
   exact n _ _ _ _ (h1 q (hS2.free hq)) ((k1.trans kn).trans (Kp.new hq)) (hS2.newL hq (q2.kp kn)) (isRef.mpr rfl)
  | _=>exact(show False from h1).elim⟩
def dEqL:D2:=fun d e S k=>match d,e with
 | .ref a,.ref c=>∃ xs ys b,S a=some (.lst xs)/\S c=some (.lst ys)/\((xs.length=ys.length/\eqTs (eqT 7) xs ys=some b)\/(xs.length≠ys.length/\b=false))/\k (.bl b) S
 | d,e=>∃ b,eqT 8 d e=some b/\k (.bl b) S
theorem eqLen_at {X:Cx} {pins:List (Addr×Obj)} {σ:L2.St} {H:Hp} {s:Shared} {S:DH} {a c:Addr} {xs ys:List D} (I:Inv X pins σ H s) (hS:Hs X.K H S) (h1:S a=some (.lst xs)) (h2:S c=some (.lst ys)) (hl:xs.length≠ys.length) (A:Around) (hu:A.units < cLine):
  SeqAt.RcAt A s (.ref a) (.ref c) false:=by
 obtain⟨v1,g1,j1⟩:=hS.lst h1
 obtain⟨v2,g2,j2⟩:=hS.lst h2
 obtain⟨u1,r1,p1,_⟩:=I.list (SqL.of g1)
 obtain⟨u2,r2,p2,_⟩:=I.list (SqL.of g2)
 refine SeqAt.RcAt.lists_lengths p1.isList p2.isList ?_ hu
 have e1:=j1.length.trans r1.length
 have e2:=j2.length.trans r2.length
 simp only [List.size_toArray,bne_iff_ne,ne_eq]
 omega
theorem o_eqL {X:Cx} {n:Nat} (hr:Room n X.A):OpR X (compareOp .Eq) (upR X.K dEqL):=by
 intro pins s σ H x y v u Q I rx ry h
 obtain⟨d,e,S,k,i1,i2,hS,r,m⟩:=h
 have hu:=hr.units
 unfold dEqL at r
 split at r
 ·obtain⟨xs,ys,b,h1,h2,h3,w⟩:=r
  rcases h3 with ⟨h3,h4⟩ | ⟨h3,rfl⟩
  ·exact o_eqX hr pins s σ H x y v u Q I rx ry ⟨_,_,S,k,i1,i2,hS,⟨xs,ys,b,h1,h2,h3,h4,w⟩,m⟩
  ·have e1:=isRef.mp i1
   have e2:=isRef.mp i2
   subst e1 e2
   cases rx
   cases ry
   exact(eqLen_at I hS h1 h2 h3 X.A (by omega)) X.prog X.w X.xe _ ⟨.bl false,H,I,rfl,up1 m hS w (isBl.mpr rfl)⟩
 ·rename_i hn
  obtain⟨b,h1,w⟩:=r
  refine o_eqX hr pins s σ H x y v u Q I rx ry ⟨_,_,S,k,i1,i2,hS,?_,m⟩
  unfold dEqX
  split
  ·rename_i a c
   exact(hn a c rfl rfl).elim
  ·exact⟨b,h1,w⟩
def dNeN:D2:=fun d e S k=>match d,e with
 | .non,.tup _=>k (.bl true) S
 | .tup _,.non=>k (.bl true) S
 | d,e=>dNeX d e S k
theorem o_neN {X:Cx} {n:Nat} (hr:Room n X.A):OpR X (compareOp .NotEq) (upR X.K dNeN):=by
 intro pins s σ H x y v u Q I rx ry h
 obtain⟨d,e,S,k,i1,i2,hS,r,m⟩:=h
 have hu:=hr.units
 unfold dNeN at r
 split at r
 ·obtain⟨a,vs,rfl,t,j⟩:=isTup.mp i2
  have e1:=isNon.mp i1
  subst e1
  cases rx
  cases ry
  obtain⟨its,_,p,_⟩:=I.tuple t
  exact SeqAt.RcNeAt.none_tuple p (by omega) X.prog X.w X.xe _ ⟨.bl true,H,I,rfl,up1 m hS r (isBl.mpr rfl)⟩
 ·obtain⟨a,vs,rfl,t,j⟩:=isTup.mp i1
  have e1:=isNon.mp i2
  subst e1
  cases rx
  cases ry
  obtain⟨its,_,p,_⟩:=I.tuple t
  exact SeqAt.RcNeAt.tuple_none p (by omega) X.prog X.w X.xe _ ⟨.bl true,H,I,rfl,up1 m hS r (isBl.mpr rfl)⟩
 ·exact o_neX hr pins s σ H x y v u Q I rx ry ⟨_,_,S,k,i1,i2,hS,r,m⟩
end DL
namespace PySem
open Builtin DL
def Hit (A:Around) (s:Shared) (ys:List (List Int×Addr×Value)):List (List Int×Addr×Value)->Bool->Prop
 | [],r=>r=true
 | x::xs,r=>(atKey ys x.1=none/\r=false)\/∃ p e r',atKey ys x.1=some p/\SeqAt.EqAt A s x.2.2 p.2 e/\Hit A s ys xs r'/\r=(e && r')
section
variable {prog:Program} {w:World} {A:Around} {E:Value->Shared->Prop}
theorem sp_dx {nm:String} {a b:Addr} {s:Shared} {xs ys:List (List Int×Addr×Value)} {ep ep':Nat} {r:Bool} {Q:Bool->Shared->Prop} (ha:(a == sysModules)=false) (hb:(b == sysModules)=false) (ga:s.heap.get? a=some (dxO (xs.map eT).toArray ep)) (gb:s.heap.get? b=some (dxO (ys.map eT).toArray ep'))
  (ka:∀ x∈xs,(tupleKind (intKind prog w)).is s.heap x.1 x.2.1) (kb:∀ x∈ys,(tupleKind (intKind prog w)).is s.heap x.1 x.2.1) (nb:(ys.map (·.1)).Nodup) (hu:(tupleKind (intKind prog w)).room A) (len:xs.length=ys.length) (hit:Hit A s ys xs r) (h:Q r s):
  wpAny (model prog w) A (Builtin.Dict.samePairs nm a b) Q E s:=by
 have na:¬ (a == sysModules)=true:=by rw [ha]; decide
 have nb':¬ (b == sysModules)=true:=by rw [hb]; decide
 unfold Builtin.Dict.samePairs Builtin.Dict.showsAll
 rw [if_neg na,if_neg nb']
 refine wpAny_bind (wpAny_pure (wpAny_bind (wpAny_pure (wpAny_bind (wpAny_dictEntries ga rfl ?_)))))
 dsimp only
 refine wpAny_bind (wpAny_dictEntries gb rfl ?_)
 have sz:(xs.map eT).toArray.size=(ys.map eT).toArray.size:=by simp [len]
 rw [if_neg (by rw [sz]; simp)]
 refine wpAny_bind (wpAny_dictEpoch ga rfl (wpAny_bind ?_))
 rw [Std.Legacy.Range.forIn_eq_forIn_range']
 have sz2:(xs.map eT).toArray.size=xs.length:=by simp
 simp only [Std.Legacy.Range.size,Nat.sub_zero,Nat.add_sub_cancel,Nat.div_one,sz2]
 refine wpAny_forIn_list _ (fun rest q s'=>s'=s/\q=(none,())/\∃ pre suf,xs=pre++suf/\rest=List.range' pre.length suf.length/\Hit A s ys suf r) _ ?_ ?_ _ _ ⟨rfl,rfl,[],xs,rfl,rfl,hit⟩
 ·rintro i rest q s' ⟨rfl,rfl,pre,suf,ex,er,ht⟩
  cases suf with
  | nil=>cases er
  | cons x suf=>
   rw [List.length_cons,List.range'_succ] at er
   injection er with e1 e2
   subst e1
   have gx:(xs.map eT).toArray[pre.length]?=some (eT x):=by simp [ex]
   refine wpAny_bind (wpAny_dictEntries ga rfl ?_)
   rw [gx]
   have mx:x∈xs:=by rw [ex]; simp
   refine wpAny_bind (wpAny_holding (wpAny_bind (wpAny_dictFind_heap (knd:=tupleKind (intKind prog w)) (k:=x.1) (a:=x.2.1) (xs:=ys) hu (ka x mx) gb rfl rfl kb nb (fun no=>?_) (fun j p hj=>?_))))
   ·rcases ht with ⟨_,er⟩ | ⟨p,e,r',hp,_⟩
    ·subst er
     exact wpAny_pure (wpAny_pure (wpAny_pure h))
    ·rw [atKey_none_of_get no] at hp
     cases hp
   ·rcases ht with ⟨hn,_⟩ | ⟨p',e,r',hp,he,ht',er⟩
    ·rw [atKey_of_get nb hj] at hn
     cases hn
    ·rw [atKey_of_get nb hj] at hp
     cases hp
     have gy:(ys.map eT).toArray[j]?=some (eT (x.1,p)):=by simp [hj]
     refine wpAny_bind (wpAny_dictEntries gb rfl ?_)
     rw [gy]
     refine wpAny_holding (he prog w _ _ ?_)
     cases e with
     | false=>
      rw [Bool.false_and] at er
      subst er
      exact wpAny_pure (wpAny_pure h)
     | true=>
      rw [Bool.true_and] at er
      subst er
      refine wpAny_bind (wpAny_dictEpoch ga rfl ?_)
      rw [if_neg (by simp)]
      exact wpAny_pure ⟨rfl,rfl,pre++[x],suf,by rw [ex]; simp,by simp [e2],ht'⟩
 ·rintro q s' ⟨rfl,rfl,pre,suf,ex,er,ht⟩
  cases suf with
  | cons x suf=>rw [List.length_cons,List.range'_succ] at er; cases er
  | nil=>
   have ht:r=true:=ht
   subst ht
   exact wpAny_pure h
end
end PySem
namespace DL
open PySem PySem.Spec PyProof.Rows L2
def HitD (kvs':List (List Int×D)):List (List Int×D)->Bool->Prop
 | [],r=>r=true
 | p::ps,r=>(getT kvs' p.1=none/\r=false)\/∃ d e r',getT kvs' p.1=some d/\eqT 6 p.2 d=some e/\HitD kvs' ps r'/\r=(e && r')
section
variable {X:Cx} {pins:List (Addr×Obj)} {σ:L2.St} {H:Hp} {s:Shared}
theorem hit_of (I:Inv X pins σ H s) {A:Around} (hu:A.units+6 < cLine) {kvs':List (List Int×D)} {ys:List (List Int×Addr×Value)} (r2:KtR X.K H kvs' ys):∀ {kvs:List (List Int×D)} {xs:List (List Int×Addr×Value)} {r:Bool},KtR X.K H kvs xs->HitD kvs' kvs r->Hit A s ys xs r
 | _,_,_,.nil,h=>h
 | p::ps,q::qs,r,.cons c t,h=>by
  obtain⟨e1,_,v,rv,iv⟩:=c
  rcases h with ⟨hn,er⟩ | ⟨d,e,r',hd,he,ht,er⟩
  ·rcases r2.get p.1 with ⟨_,g⟩ | ⟨_,_,_,_,g,_⟩
   ·exact .inl ⟨by rw [<- e1]; exact g,er⟩
   ·rw [hn] at g
    cases g
  ·rcases r2.get p.1 with ⟨g,_⟩ | ⟨d',b,u,v2,g,hp,rv2,iv2⟩
   ·rw [hd] at g
    cases g
   ·rw [hd] at g
    cases g
    exact .inr ⟨(b,u),e,r',by rw [<- e1]; exact hp,(eqT_at I 6 A p.2 d v v2 q.2.2 u e hu he iv iv2 rv rv2).1,hit_of I hu r2 t ht,er⟩
end
end DL
namespace PySem
open Builtin DL
section
variable {prog:Program} {w:World} {A:Around} {E:Value->Shared->Prop}
theorem dx_eq {a b:Addr} {s:Shared} {r:Bool} {Q:Value->Shared->Prop} (T1:s.TypeIs (.ref a) "dict") (T2:s.TypeIs (.ref b) "dict") (hu:A.units < cLine) (sp:∀ (Q':Bool->Shared->Prop),Q' r s->wpAny (model prog w) A.in1 (Builtin.Dict.samePairs "dict.__eq__" a b) Q' E s) (h:Q (.bool r) s):
  wpAny (model prog w) A (compareOp .Eq (.ref a) (.ref b)) Q E s:=by
 refine wpAny_richCompare_same_room (op:=.Eq) T1 T2 F.slot_dict_eq (wpAny_call_entry F.slot_dict_eq T1 F.entry_dict_eq ?_ (F.args_dict_eq_2 _ _)) hu
 refine wpAny_bind (m:=Builtin.Dict.dictSlotArgs "__eq__" ⟨[.ref a,.ref b],[]⟩) ?_
 unfold Builtin.Dict.dictSlotArgs
 refine wpAny_bind (wpAny_notOrdered_dict T1 (wpAny_pure (wpAny_bind (wpAny_isInstance (T:="dict") T2 F.sub_dict_dict ?_))))
 rw [if_neg (by decide)]
 refine wpAny_bind (wpAny_pure (wpAny_bind (wpAny_pure (wpAny_bind (sp _ ?_)))))
 exact wpAny_pure ⟨_,rfl,(by intro z; cases z),by cases r <;> exact h⟩
theorem dx_ne {a b:Addr} {s:Shared} {r:Bool} {Q:Value->Shared->Prop} (T1:s.TypeIs (.ref a) "dict") (T2:s.TypeIs (.ref b) "dict") (hu:A.units < cLine) (sp:∀ (Q':Bool->Shared->Prop),Q' r s->wpAny (model prog w) A.in1 (Builtin.Dict.samePairs "dict.__ne__" a b) Q' E s) (h:Q (.bool (!r)) s):
  wpAny (model prog w) A (compareOp .NotEq (.ref a) (.ref b)) Q E s:=by
 refine wpAny_richCompare_same_room (op:=.NotEq) T1 T2 F.slot_dict_ne (wpAny_call_entry F.slot_dict_ne T1 F.entry_dict_ne ?_ (F.args_dict_ne_2 _ _)) hu
 refine wpAny_bind (m:=Builtin.Dict.dictSlotArgs "__ne__" ⟨[.ref a,.ref b],[]⟩) ?_
 unfold Builtin.Dict.dictSlotArgs
 refine wpAny_bind (wpAny_notOrdered_dict T1 (wpAny_pure (wpAny_bind (wpAny_isInstance (T:="dict") T2 F.sub_dict_dict ?_))))
 rw [if_neg (by decide)]
 refine wpAny_bind (wpAny_pure (wpAny_bind (wpAny_pure (wpAny_bind (sp _ ?_)))))
 exact wpAny_pure ⟨_,rfl,(by intro z; cases z),by cases r <;> exact h⟩
theorem sp_len {nm:String} {a b:Addr} {s:Shared} {es es':Array DictEntry} {ep ep':Nat} {Q:Bool->Shared->Prop} (ha:(a == sysModules)=false) (hb:(b == sysModules)=false) (ga:s.heap.get? a=some (dxO es ep)) (gb:s.heap.get? b=some (dxO es' ep')) (n:es.size≠es'.size) (h:Q false s):
  wpAny (model prog w) A (Builtin.Dict.samePairs nm a b) Q E s:=by
 have na:¬ (a == sysModules)=true:=by rw [ha]; decide
 have nb':¬ (b == sysModules)=true:=by rw [hb]; decide
 unfold Builtin.Dict.samePairs Builtin.Dict.showsAll
 rw [if_neg na,if_neg nb']
 refine wpAny_bind (wpAny_pure (wpAny_bind (wpAny_pure (wpAny_bind (wpAny_dictEntries ga rfl ?_)))))
 dsimp only
 refine wpAny_bind (wpAny_dictEntries gb rfl ?_)
 rw [if_pos (by simpa using n)]
 exact wpAny_bind (wpAny_rule (wpAny_pure h))
end
end PySem
namespace DL
open PySem PySem.Spec PyProof.Rows L2
theorem items_cast {p q:Program} {u v:World}:∀ {k:List Int} {l:List Value},PySem.ItemsAre (intKind p u) k l->PySem.ItemsAre (intKind q v) k l:=by
 intro k l h
 induction h with
 | nil=>exact .nil
 | cons a _ ih=>exact .cons a ih
def EqR (kvs kvs':List (List Int×D)) (r:Bool):Prop:=(kvs.length≠kvs'.length/\r=false)\/(kvs.length=kvs'.length/\HitD kvs' kvs r)
section
variable {X:Cx} {pins:List (Addr×Obj)} {σ:L2.St} {H:Hp} {s:Shared}
theorem sp_of (I:Inv X pins σ H s) {S:DH} (hS:Hs X.K H S) {a b:Addr} {kvs kvs':List (List Int×D)} {ep ep':Nat} {r:Bool} {A:Around} (hu:A.units+7 < cLine) (g1:S a=some (.gen (.dT kvs ep))) (g2:S b=some (.gen (.dT kvs' ep'))) (h:EqR kvs kvs' r) {nm:String} {E:Value->Shared->Prop} {prog:Program} {w:World}:
  ∀ (Q':Bool->Shared->Prop),Q' r s->wpAny (model prog w) A.in1 (Builtin.Dict.samePairs nm a b) Q' E s:=fun Q' hq=>by
 obtain⟨xs,w1,r1⟩:=hS.dT g1
 obtain⟨ys,w2,r2⟩:=hS.dT g2
 obtain⟨hd1,_,n1,t1⟩:=dxp_at I w1
 obtain⟨hd2,_,n2,t2⟩:=dxp_at I w2
 have l1:=r1.length
 have l2:=r2.length
 rcases h with ⟨hl,rfl⟩ | ⟨hl,ht⟩
 ·exact sp_len hd1 hd2 t1 t2 (by simp; omega) hq
 ·obtain⟨_,_,_,_,_,_,_,k1,_⟩:=dx_of I w1 r1
  obtain⟨_,_,_,_,_,_,_,k2,_⟩:=dx_of I w2 r2
  have ct:∀ k a,(tupleKind (intKind X.prog X.w)).is s.heap k a->(tupleKind (intKind prog w)).is s.heap k a:=fun k a h=>by
   obtain⟨o,its,n,h1,h2,h3,h4⟩:=h
   exact⟨o,its,n,h1,h2,h3,items_cast h4⟩
  exact sp_dx hd1 hd2 t1 t2 (fun x hx=>ct _ _ (k1 x hx)) (fun x hx=>ct _ _ (k2 x hx)) n2 (tupleKind_room_in1 (by omega)) (by omega) (hit_of I (by show A.units+1+6 < cLine; omega) r2 r1 ht) hq
end
def dEqDD:D2:=fun d e S k=>match d,e with
 | .ref a,.ref b=>∃ kvs ep kvs' ep' r,S a=some (.gen (.dT kvs ep))/\S b=some (.gen (.dT kvs' ep'))/\EqR kvs kvs' r/\k (.bl r) S
 | _,_=>False
def dNeDD:D2:=fun d e S k=>match d,e with
 | .ref a,.ref b=>∃ kvs ep kvs' ep' r,S a=some (.gen (.dT kvs ep))/\S b=some (.gen (.dT kvs' ep'))/\EqR kvs kvs' r/\k (.bl (!r)) S
 | _,_=>False
theorem o_eqDD {X:Cx} {n:Nat} (hr:Room n X.A):OpR X (compareOp .Eq) (upR X.K dEqDD):=by
 intro pins s σ H x y v u Q I rx ry h
 obtain⟨d,e,S,k,i1,i2,hS,r,m⟩:=h
 unfold dEqDD at r
 split at r
 ·rename_i a b
  obtain⟨kvs,ep,kvs',ep',r0,g1,g2,hl,r⟩:=r
  have e1:=isRef.mp i1
  have e2:=isRef.mp i2
  subst e1 e2
  cases (show v=Value.ref a from rx)
  cases (show u=Value.ref b from ry)
  obtain⟨xs,w1,r1⟩:=hS.dT g1
  obtain⟨ys,w2,r2⟩:=hS.dT g2
  have hu:=hr.units
  exact dx_eq ⟨_,(dxp_at I w1).2.2.2,rfl⟩ ⟨_,(dxp_at I w2).2.2.2,rfl⟩ (by omega) (sp_of I hS (by omega) g1 g2 hl) ⟨.bl r0,H,I,rfl,up1 m hS r (isBl.mpr rfl)⟩
 ·exact r.elim
theorem o_neDD {X:Cx} {n:Nat} (hr:Room n X.A):OpR X (compareOp .NotEq) (upR X.K dNeDD):=by
 intro pins s σ H x y v u Q I rx ry h
 obtain⟨d,e,S,k,i1,i2,hS,r,m⟩:=h
 unfold dNeDD at r
 split at r
 ·rename_i a b
  obtain⟨kvs,ep,kvs',ep',r0,g1,g2,hl,r⟩:=r
  have e1:=isRef.mp i1
  have e2:=isRef.mp i2
  subst e1 e2
  cases (show v=Value.ref a from rx)
  cases (show u=Value.ref b from ry)
  obtain⟨xs,w1,r1⟩:=hS.dT g1
  obtain⟨ys,w2,r2⟩:=hS.dT g2
  have hu:=hr.units
  exact dx_ne ⟨_,(dxp_at I w1).2.2.2,rfl⟩ ⟨_,(dxp_at I w2).2.2.2,rfl⟩ (by omega) (sp_of I hS (by omega) g1 g2 hl) ⟨.bl (!r0),H,I,rfl,up1 m hS r (isBl.mpr rfl)⟩
 ·exact r.elim
def dNeA:D2:=fun d e S k=>match d,e with
 | .ref a,.ref b=>dNeDD (.ref a) (.ref b) S k\/dNeN (.ref a) (.ref b) S k
 | d,e=>dNeN d e S k
def dEqA:D2:=fun d e S k=>match d,e with
 | .ref a,.ref b=>dEqDD (.ref a) (.ref b) S k\/dEqL (.ref a) (.ref b) S k
 | d,e=>dEqL d e S k
theorem o_neA {X:Cx} {n:Nat} (hr:Room n X.A):OpR X (compareOp .NotEq) (upR X.K dNeA):=by
 intro pins s σ H x y v u Q I rx ry h
 obtain⟨d,e,S,k,i1,i2,hS,r,m⟩:=h
 unfold dNeA at r
 split at r
 ·rcases r with r | r
  ·exact o_neDD hr pins s σ H x y v u Q I rx ry ⟨_,_,S,k,i1,i2,hS,r,m⟩
  ·exact o_neN hr pins s σ H x y v u Q I rx ry ⟨_,_,S,k,i1,i2,hS,r,m⟩
 ·exact o_neN hr pins s σ H x y v u Q I rx ry ⟨_,_,S,k,i1,i2,hS,r,m⟩
theorem o_eqA {X:Cx} {n:Nat} (hr:Room n X.A):OpR X (compareOp .Eq) (upR X.K dEqA):=by
 intro pins s σ H x y v u Q I rx ry h
 obtain⟨d,e,S,k,i1,i2,hS,r,m⟩:=h
 unfold dEqA at r
 split at r
 ·rcases r with r | r
  ·exact o_eqDD hr pins s σ H x y v u Q I rx ry ⟨_,_,S,k,i1,i2,hS,r,m⟩
  ·exact o_eqL hr pins s σ H x y v u Q I rx ry ⟨_,_,S,k,i1,i2,hS,r,m⟩
 ·exact o_eqL hr pins s σ H x y v u Q I rx ry ⟨_,_,S,k,i1,i2,hS,r,m⟩
end DL
namespace PySem
open Builtin DL
def subM (m:Nat):List Nat:=(List.range 7).filter fun i=>m.testBit i
def stT (led:Bool) (m:Nat):SetTable:={mask:=if (subM m).length < 5 then 7 else 31,place:=(subM m).toArray,dummies:=#[],finger:=0,led:=led,moves:=if (subM m).length < 5 then 0 else 1,plain:=true}
def stN (led:Bool) (m v:Nat):SetTable:={stT led m with place:=(subM (m ||| 2 ^ v)).toArray}
def posM (m v:Nat):Nat:=((subM m).filter (· < v)).length
def chkM (led:Bool) (m v:Nat):Bool:=
 (m.testBit v && (m ||| 2 ^ v) == m) || (!m.testBit v && (stT led m).freeSlot v == some (v,false) && decide ((stT led m).put v=(stN led m v,posM m v)) && (stN led m v).fits (subM (m ||| 2 ^ v)).length && decide (SetTable.insertAt (subM m).toArray (posM m v) v=(subM (m ||| 2 ^ v)).toArray) && decide (m ||| 2 ^ v < 128) &&
  (if (stN led m v).tooFull then decide ((stN led m v).relaid ((subM (m ||| 2 ^ v)).map fun(i:Nat)=>(i:Int)).toArray (SetTable.grown (subM (m ||| 2 ^ v)).length)=some (stT led (m ||| 2 ^ v),Array.range (subM (m ||| 2 ^ v)).length)) && (stT led (m ||| 2 ^ v)).fits (subM (m ||| 2 ^ v)).length else decide (stN led m v=stT led (m ||| 2 ^ v))))
theorem chkM_all:∀ m∈List.range 128,∀ v∈List.range 7,(chkM true m v && chkM false m v)=true:=by decide +kernel
def slM (m i:Nat):Nat:=if i=0 then 0 else(subM m).getD (i - 1) 0+1
theorem chkS_all:∀ m∈List.range 128,∀ i∈List.range 8,i<=(subM m).length->SetTable.below (subM m).toArray (slM m i)=i:=by decide +kernel
theorem fitM_all:∀ m∈List.range 128,(subM m).length<=7/\((stT true m).fits (subM m).length && (stT false m).fits (subM m).length)=true:=by decide +kernel
theorem chkM_of (led:Bool) {m v:Nat} (hm:m < 128) (hv:v < 7):chkM led m v=true:=by
 have z:=chkM_all m (List.mem_range.mpr hm) v (List.mem_range.mpr hv)
 rw [Bool.and_eq_true] at z
 cases led
 ·exact z.2
 ·exact z.1
theorem fitM (led:Bool) {m:Nat} (hm:m < 128):(stT led m).fits (subM m).length=true:=by
 have z:=(fitM_all m (List.mem_range.mpr hm)).2
 rw [Bool.and_eq_true] at z
 cases led
 ·exact z.2
 ·exact z.1
theorem mem_subM {m v:Nat}:v∈subM m↔v < 7/\m.testBit v=true:=by simp [subM]
theorem insertAt_list {α:Type} (l:List α) (p:Nat) (x:α):SetTable.insertAt l.toArray p x=(l.take p++x::l.drop p).toArray:=by
 unfold SetTable.insertAt
 apply Array.ext'
 simp
 exact List.take_of_length_le (by simp)
theorem range_get {α:Type}:∀ l:List α,(List.range l.length).filterMap (fun i=>l[i]?)=l
 | []=>rfl
 | a::l=>by
  rw [List.length_cons,List.range_succ_eq_map,List.filterMap_cons]
  simp only [List.getElem?_cons_zero,List.filterMap_map]
  congr 1
  exact range_get l
theorem range_getA {α:Type} (xs:Array α):(Array.range xs.size).filterMap (fun i=>xs[i]?)=xs:=by
 apply Array.ext'
 rw [Array.toList_filterMap,Array.toList_range]
 have:=range_get xs.toList
 simpa using this
abbrev Sx:=Nat×Tok
def seE (xs:List Sx):Array (Int×Value):=(xs.map fun x=>((x.1:Int),Value.int x.1 x.2)).toArray
def seO (led:Bool) (m:Nat) (xs:List Sx) (ep:Nat):Obj:={cls:=.type "set",dict:=none,data:=.set (seE xs) ep (stT led m),slots:=#[]}
def SeAt (h:Heap) (a:Addr) (led:Bool) (m:Nat):Prop:=m < 128/\∃ xs ep,xs.map (·.1)=subM m/\h.get? a=some (seO led m xs ep)
theorem seE_size (xs:List Sx):(seE xs).size=xs.length:=by simp [seE]
theorem hash_small {v:Nat} (hv:v < 7):hashInt (v:Int)=v:=by
 have:∀ v∈List.range 7,hashInt ((v:Nat):Int)=(v:Int):=by decide
 exact this v (List.mem_range.mpr hv)
section
variable {prog:Program} {w:World} {A:Around} {E:Value->Shared->Prop} {s:Shared}
theorem seE_elems {xs:List Sx} (h:∀ x∈xs,x.1 < 7):ElemsOf (intKind prog w) (seE xs).toList:=fun e he=>by
 simp only [seE,List.mem_map] at he
 obtain⟨x,hx,rfl⟩:=he
 exact⟨⟨x.1,by simp [intKind,Value.isInt],(hash_small (h x hx)).symm⟩,rfl⟩
theorem layNew_se (led:Bool) {m v:Nat} {xs:List Sx} {tk:Tok} (hm:m < 128) (hv:v < 7) (hx:xs.map (·.1)=subM m) (ht:m.testBit v=false):
  ∃ xs',xs'.map (·.1)=subM (m ||| 2 ^ v)/\layNew (stT led m) (seE xs) (v:Int) (.int v tk)=(seE xs',stN led m v,false,false)/\m ||| 2 ^ v < 128/\
   (((stN led m v).tooFull=true/\relayAll (stN led m v) (seE xs') (SetTable.grown (seE xs').size)=(seE xs',stT led (m ||| 2 ^ v),false))\/((stN led m v).tooFull=false/\stN led m v=stT led (m ||| 2 ^ v))):=by
 have c:=chkM_of led hm hv
 unfold chkM at c
 rw [ht] at c
 simp only [Bool.false_and,Bool.false_or,Bool.not_false,Bool.true_and,Bool.and_eq_true,beq_iff_eq,decide_eq_true_eq] at c
 obtain⟨⟨⟨⟨⟨c1,c2⟩,c3⟩,c4⟩,c5⟩,c6⟩:=c
 have e0:xs.take (posM m v)++(v,tk)::xs.drop (posM m v)=xs.take (posM m v)++(v,tk)::xs.drop (posM m v):=rfl
 generalize hx':xs.take (posM m v)++(v,tk)::xs.drop (posM m v)=xs' at e0
 have m':xs'.map (·.1)=subM (m ||| 2 ^ v):=by
  rw [insertAt_list] at c4
  rw [<- hx',List.map_append,List.map_cons,List.map_take,List.map_drop,hx]
  have c4:=congrArg Array.toList c4
  simpa using c4
 have ei:SetTable.insertAt (seE xs) (posM m v) ((v:Int),Value.int v tk)=seE xs':=by
  unfold seE
  rw [insertAt_list,<- hx',List.map_append,List.map_cons,List.map_take,List.map_drop]
 have sz:(seE xs').size=(subM (m ||| 2 ^ v)).length:=by rw [seE_size,<- m',List.length_map]
 refine⟨xs',m',?_,c5,?_⟩
 ·unfold layNew
  rw [c1]
  dsimp only
  rw [c2]
  dsimp only
  rw [ei,sz,c3]
  unfold SetTable.orStandIn
  rw [c3]
  rfl
 ·by_cases tf:(stN led m v).tooFull=true
  ·rw [if_pos tf] at c6
   simp only [Bool.and_eq_true,decide_eq_true_eq] at c6
   refine .inl ⟨tf,?_⟩
   have eh:(seE xs').map (·.1)=((subM (m ||| 2 ^ v)).map fun(i:Nat)=>(i:Int)).toArray:=by
    apply Array.ext'
    simp only [seE,<- m',List.map_toArray,List.map_map]
    rfl
   unfold relayAll
   rw [eh,sz,c6.1]
   dsimp only
   rw [<- sz,range_getA,sz,c6.2]
   have cv:coversAll (Array.range (subM (m ||| 2 ^ v)).length) (subM (m ||| 2 ^ v)).length=true:=by
    unfold coversAll
    rw [List.isPerm_iff,Array.toList_range]
   rw [cv]
   rfl
  ·rw [if_neg tf] at c6
   simp only [decide_eq_true_eq] at c6
   exact .inr ⟨by simpa using tf,c6⟩
end
section
variable {prog:Program} {w:World} {A:Around} {E:Value->Shared->Prop} {s:Shared}
theorem subM_lt {m:Nat} {xs:List Sx} (hx:xs.map (·.1)=subM m):∀ x∈xs,x.1 < 7:=fun x h=>(mem_subM.mp (by rw [<- hx]; exact List.mem_map_of_mem h)).1
theorem subM_len {m:Nat} (hm:m < 128):(subM m).length<=7:=(fitM_all m (List.mem_range.mpr hm)).1
theorem seE_fits (led:Bool) {m:Nat} {xs:List Sx} (hm:m < 128) (hx:xs.map (·.1)=subM m):(stT led m).fits (seE xs).size=true:=by
 rw [seE_size,<- List.length_map (f:=(·.1)),hx]
 exact fitM led hm
theorem seE_small {m:Nat} {xs:List Sx} (hm:m < 128) (hx:xs.map (·.1)=subM m):(seE xs).size<=7:=by
 rw [seE_size,<- List.length_map (f:=(·.1)),hx]
 exact subM_len hm
theorem se_upd {h:Heap} {a:Addr} {led:Bool} {m ep:Nat} {xs:List Sx} (es:Array (Int×Value)) (t:SetTable) {es0:Array (Int×Value)} {t0:SetTable} (g:h.get? a=some {cls:=.type "set",dict:=none,data:=.set es0 ep t0,slots:=#[]}):
  (h.update a (Obj.putSet es t)).get? a=some {cls:=.type "set",dict:=none,data:=.set es (ep+1) t,slots:=#[]}:=Heap.get?_update_self _ g rfl
set_option maxHeartbeats 1600000 in
theorem se_add {a:Addr} {led:Bool} {m v:Nat} {tk:Tok} {Q:Bool->Shared->Prop} (hS:SeAt s.heap a led m) (hv:v < 7)
  (h:∀ b h',Heap.SameBut a s.heap h'->SeAt h' a led (m ||| 2 ^ v)->Q b {s with heap:=h'}):wpAny (model prog w) A (setAddHashed a (.int v tk) (hashInt v)) Q E s:=by
 obtain⟨hm,xs,ep,hx,ho⟩:=hS
 have hf:=seE_fits led hm hx
 have lt:=subM_lt hx
 have hel:ElemsOf (intKind prog w) (seE xs).toList:=seE_elems lt
 have sm:=seE_small hm hx
 have hb:(seE xs).size < scanBound:=by unfold scanBound; omega
 unfold setAddHashed setAddHashedIn
 refine wpAny_holding (wpAny_bind (wpAny_setState_of ho rfl hf ?_))
 dsimp only
 rw [byScan_of (knd:=intKind prog w) (x:=.int v tk) rfl hb hel]
 simp only [↓reduceIte]
 unfold setAddByScan
 refine wpAny_bind (wpAny_bind (wpAny_rule (wpAny_bind (wpAny_setScan_of (knd:=intKind prog w) (k:=(v:Int)) (by simp [intKind,Value.isInt]) ho rfl hf hel ?_))))
 cases hr:List.findIdx? (fun e=>(intKind prog w).is (v:Int) e.2) (seE xs).toList with
 | some j=>
  dsimp only
  have ht:m.testBit v=true:=by
   obtain⟨hj,hp,_⟩:=List.findIdx?_eq_some_iff_getElem.mp hr
   have me:=List.getElem_mem hj
   generalize (seE xs).toList[j]=e at hp me
   simp only [seE,List.mem_map] at me
   obtain⟨x,hx1,rfl⟩:=me
   have:(x.1:Int)=v:=by simpa [intKind,Value.isInt] using hp
   have e2:x.1=v:=by omega
   exact e2▸(mem_subM.mp (hx▸List.mem_map_of_mem (f:=(·.1)) hx1)).2
  have c:=chkM_of led hm hv
  unfold chkM at c
  rw [ht] at c
  simp only [Bool.true_and,Bool.not_true,Bool.false_and,Bool.or_false,beq_iff_eq] at c
  refine wpAny_pure (wpAny_pure ?_)
  have z:=h false s.heap (Heap.SameBut.refl a s.heap) ⟨by rw [c]; exact hm,xs,ep,by rw [c]; exact hx,by rw [c]; exact ho⟩
  cases s
  exact z
 | none=>
  dsimp only
  have ht:m.testBit v=false:=by
   cases e:m.testBit v with
   | false=>rfl
   | true=>
    have me:v∈xs.map (·.1):=by rw [hx]; exact mem_subM.mpr ⟨hv,e⟩
    obtain⟨x,h1,h2⟩:=List.mem_map.mp me
    have z:=List.findIdx?_eq_none_iff.mp hr ((x.1:Int),Value.int x.1 x.2) (by simp only [seE,List.mem_map]; exact⟨x,h1,rfl⟩)
    have h2:x.1=v:=h2
    simp [intKind,Value.isInt,h2] at z
  obtain⟨xs',m',eL,lt',alt⟩:=layNew_se led (tk:=tk) hm hv hx ht
  have sm':=seE_small lt' m'
  have bl:(seE xs').size<=sizeLine:=fits_of_scanBound (by unfold scanBound; omega)
  rw [hash_small hv,eL]
  dsimp only
  refine wpAny_bind (wpAny_pure ?_)
  rw [if_pos (show (stN led m v).plain=true from rfl),hashByValue_scannable 8 (x:=.int v tk) rfl]
  refine wpAny_bind (wpAny_pure ?_)
  rw [if_pos (show plainKind (.int v tk)=true from rfl)]
  refine wpAny_bind (wpAny_storeSet_of ho rfl ?_ bl)
  have g1:=se_upd (led:=led) (m:=m) (xs:=xs) (seE xs') (stN led m v) ho
  rcases alt with ⟨tf,er⟩ | ⟨tf,et⟩
  ·rw [tf]
   simp only [Bool.not_false,Bool.true_and,↓reduceIte]
   rw [er]
   refine wpAny_bind (wpAny_pure (wpAny_bind (wpAny_storeSet_of g1 rfl ?_ bl)))
   have g2:=se_upd (led:=led) (m:=m) (xs:=xs) (seE xs') (stT led (m ||| 2 ^ v)) g1
   exact wpAny_pure (wpAny_pure (h _ _ ((Heap.SameBut.update _ a _).trans (Heap.SameBut.update _ a _)) ⟨lt',xs',_,m',g2⟩))
  ·rw [tf]
   simp only [Bool.not_false,Bool.true_and,Bool.false_eq_true,↓reduceIte]
   rw [et] at g1 ⊢
   exact wpAny_pure (wpAny_pure (h _ _ (Heap.SameBut.update _ a _) ⟨lt',xs',_,m',g1⟩))
end
end PySem
namespace PySem
open PySem.Spec Builtin DL
def mkM (val:Nat->Nat):Nat->Nat
 | 0=>0
 | i+1=>mkM val i ||| 2 ^ val i
theorem stT_zero (led:Bool):stT led 0=.fresh 0 0 led:=by cases led <;> rfl
abbrev nwS (led:Bool):Obj:={cls:=.type "set",dict:=none,data:=.set #[] 0 (.fresh 0 0 led)}
section
variable {prog:Program} {w:World} {A:Around} {R:Result->Shared->Prop} {I:Addr} {fp wr:List Addr} {G:Array GenState->Array GenState->Prop} {n:Nat} {P:Nat->Value->Prop} {St:Nat->Shared->Prop}
theorem SeAt.keep {h h':Heap} {a:Addr} {led:Bool} {m:Nat} (x:SeAt h a led m) (k:∀ o,h.get? a=some o->h'.get? a=some o):SeAt h' a led m:=by
 obtain⟨hm,xs,ep,hx,g⟩:=x
 exact⟨hm,xs,ep,hx,k _ g⟩
theorem se_loop (W:WalksS prog w A.in1 I fp wr G n P St) (S:Addr) (hSf:S∉fp) (led:Bool) (val:Nat->Nat) (hv:∀ i,val i < 7) (hval:∀ i v,P i v->∃ t,v=.int (val i:Nat) t):
  ∀ (k i:Nat) (s:Shared),n - i=k->i<=n->St i s->SeAt s.heap S led (mkM val i)->(∀ s',Moved (S::wr) G s s'->SeAt s'.heap S led (mkM val n)->R (.ok (.ret .none)) s')->
   codeAny (model prog w) A (.builtin "set.update.loop" ⟨[.ref S,.ref I],[]⟩) R s:=by
 have hSw:S∉wr:=fun h=>hSf (W.sub _ h)
 have hsub:∀ b∈wr,b∈S::wr:=fun b hb=>List.mem_cons_of_mem _ hb
 intro k
 induction k with
 | zero=>
  intro i s hk hi hst hS hR
  have hin:i=n:=by omega
  subst hin
  refine codeAny_builtin PyProof.Rows.F.entry_set_update_loop ?_
  rw [Around.under_plainId PyProof.Rows.F.plain_set_update_loop _]
  show wpAny _ A.in1 (pyNext (.ref I) >>= _) _ _ s
  refine wpAny_bind (W.done s _ _ hst fun s' hm=>?_)
  show wpAny _ A.in1 (ret Value.none) _ _ s'
  exact wpAny_pure (hR s' (hm.mono hsub) (hS.keep fun o e=>hm.heap S _ hSw e))
 | succ k ih=>
  intro i s hk hi hst hS hR
  have hlt:i < n:=by omega
  refine codeAny_builtin PyProof.Rows.F.entry_set_update_loop ?_
  rw [Around.under_plainId PyProof.Rows.F.plain_set_update_loop _]
  show wpAny _ A.in1 (pyNext (.ref I) >>= _) _ _ s
  refine wpAny_bind (W.item i s _ _ hlt hst fun v s' hP hst' hm=>?_)
  obtain⟨t,rfl⟩:=hval i v hP
  have hS':SeAt s'.heap S led (mkM val i):=hS.keep fun o e=>hm.heap S _ hSw e
  refine wpAny_bind (wpAny_holding ?_)
  unfold setAdd
  refine wpAny_holding (wpAny_bind ((intKind prog w).pyHash (k:=(val i:Nat)) (by simp [intKind,Value.isInt]) ?_))
  refine se_add (s:={s' with toks:=s'.toks+1}) hS' (hv i) fun b h' hsb hS2=>?_
  refine wpAny_pure ⟨plainId_quiet PyProof.Rows.F.plain_set_update_loop _,ih (i+1) _ (by omega) hlt (W.frame _ s' _ _ hst' (Nat.le_succ _) fun b hb o e=>?_) hS2 fun s'' hm'' hS''=>?_⟩
  ·rw [hsb.2 b (fun h:b=S=>hSf (by rw [<- h]; exact hb))]
   exact e
  ·refine hR s'' (Moved.trans W.gtrans ((hm.mono hsub).then_heap (Nat.le_succ _) fun b o hb e=>?_) hm'') hS''
   rw [hsb.2 b (fun h:b=S=>hb (by rw [h]; exact List.mem_cons_self))]
   exact e
end
section
variable {prog:Program} {w:World} {A:Around} {E:Value->Shared->Prop} {s:Shared}
theorem code_set_newL (a:Value) {Q₁:Value->Shared->Prop} (h:Q₁ (.ref s.heap.objs.size) {s with heap:=s.heap.push (nwS (!w.params.followText "set-order"))}):
  codeAny (model prog w) A (.call (.builtin "set.__new__") ⟨[.type "set",a],[]⟩) (wants Q₁ E) s:=by
 refine codeAny_of_tree ?_
 show wpAny _ A.in1 (do checkBuiltinCall "set.__new__" ⟨[.type "set",a],[]⟩; again (.builtin "set.__new__" ⟨[.type "set",a],[]⟩)) _ _ s
 refine wpAny_bind (wpAny_of_eq (F.newCall_set_1 a) (wpAny_pure ⟨plainId_quiet F.plain_set_new _,codeAny_builtin F.entry_set_new ?_⟩))
 rw [Around.under_plainId F.plain_set_new _]
 unfold Builtin.«set.__new__» Builtin.Frozenset.newClass
 have hsub:=sub_set_self
 obtain⟨hp,g,d,tk,os⟩:=s
 dsimp only
 wp_walk
 refine wpAny_askSetting (wpAny_pure ?_)
 dsimp only
 simp only [newObj]
 exact wpAny_bind (wpAny_alloc (wpAny_pure (wpAny_pure h)))
set_option maxRecDepth 100000 in
set_option maxHeartbeats 3200000 in
theorem set_init_listS {l:Addr} {items:Array Value} {val:Nat->Nat} {led:Bool} {R:Result->Shared->Prop} (hh:A.handled=none) (hl:s.heap.IsList l items) (hv:∀ i,val i < 7) (hval:∀ (i:Nat) (v:Value),items[i]?=some v->∃ t,v=.int (val i:Nat) t)
  (h:∀ (h':Heap) (tk:Nat),SeAt h' s.heap.objs.size led (mkM val items.size)->(∀ b o,b < s.heap.objs.size->s.heap.get? b=some o->h'.get? b=some o)->R (.ok (.ret Value.none)) {s with heap:=h',toks:=tk}):
  wpAny (model prog w) A (Builtin.«set.__init__» ⟨[.ref s.heap.objs.size,.ref l],[]⟩) (fun fin s'=>∃ v,fin=Fin.done (Flow.ret v)/\R (.ok (.ret v)) s') (fun e s'=>R (.error e) s') {s with heap:=s.heap.push (nwS led)}:=by
 obtain⟨⟨ocls,odict,odata,oslots⟩,hol,hcl,nl,hdl⟩:=id hl
 simp only at hcl hdl
 subst hcl hdl
 have hS:(s.heap.push (nwS led)).get? s.heap.objs.size=some (nwS led):=Heap.get?_push_size _ rfl
 have hol':=Heap.get?_push_of_some (h:=s.heap) (nwS led) hol
 have s1:=F.sub_list_set
 have s2:=F.sub_list_frozenset
 have hne:(Value.type "list" == Value.type "dict")=false:=by decide
 unfold Builtin.«set.__init__» noKeywords Builtin.Frozenset.updateFrom
 generalize hPI:pyIter=PI
 wp_walk
 subst hPI
 have hl1:(s.heap.push (nwS led)).IsList l items:=⟨_,hol',rfl,nl,rfl⟩
 have hlt:l < s.heap.objs.size:=Heap.lt_size hol
 have hsz:(s.heap.push (nwS led)).objs.size=s.heap.objs.size+1:=Heap.size_push _ _
 refine wpAny_pyIter_list hl1 (wpAny_bind (wpAny_runValue ?_))
 refine se_loop ((Walks.list (by simp [hh]) _ l (by rw [hsz]; exact Nat.ne_of_lt (Nat.lt_succ_of_lt hlt)) items).toS) s.heap.objs.size
  (by rw [hsz]; simp only [List.mem_cons,List.not_mem_nil,or_false,not_or]; exact⟨Nat.ne_of_lt (Nat.lt_succ_self _),Nat.ne_of_gt hlt⟩) led val hv hval (items.size - 0) 0 _ (by omega) (Nat.zero_le _)
  ⟨⟨_,Heap.get?_push_size _ rfl,rfl,rfl⟩,hl1.push _⟩ ?setA ?setB
 case setA=>
  exact⟨by show 0 < 128; decide,[],0,by show []=subM 0; decide,by rw [Heap.get?_push_of_some _ hS]; show some (nwS led)=some (seO led 0 [] 0); unfold seO; rw [stT_zero]; rfl⟩
 case setB=>
  rintro⟨h',g',d',tk',os'⟩ hm hS'
  cases (show g'=s.gens from hm.gens)
  cases (show d'=s.drawn from hm.drawn)
  cases (show os'=s.os from hm.os)
  refine wpAny_pure (wpAny_pure ⟨_,rfl,h h' tk' hS' fun b o hlb e=>?_⟩)
  refine hm.heap b o ?_ (Heap.get?_push_of_some _ (Heap.get?_push_of_some _ e))
  rw [hsz]
  simp only [List.mem_cons,List.not_mem_nil,or_false,not_or]
  exact⟨Nat.ne_of_lt hlb,Nat.ne_of_lt (Nat.lt_succ_of_lt hlb)⟩
set_option maxRecDepth 100000 in
set_option maxHeartbeats 3200000 in
theorem call_set_listS {l:Addr} {items:Array Value} {val:Nat->Nat} {Q:Value->Shared->Prop} (hh:A.handled=none) (hl:s.heap.IsList l items) (hv:∀ i,val i < 7) (hval:∀ (i:Nat) (v:Value),items[i]?=some v->∃ t,v=.int (val i:Nat) t)
  (h:∀ (h':Heap) (tk:Nat),SeAt h' s.heap.objs.size (!w.params.followText "set-order") (mkM val items.size)->(∀ b o,b < s.heap.objs.size->s.heap.get? b=some o->h'.get? b=some o)->Q (.ref s.heap.objs.size) {s with heap:=h',toks:=tk}):
  wpAny (model prog w) A (call (.type "set") [.ref l]) Q E s:=by
 obtain⟨c,tl,g1⟩:=F.called_set.mro
 have g2:=F.called_set.made
 have g3:=F.called_set.sub
 have g4:=F.called_set.notType
 have g5:=F.called_set.canCreate
 have g6:=F.typeCall_set_1 (.ref l)
 refine wpAny_call (codeAny_of_tree (show wpAny _ _ (callAny (.type "set") _) _ _ _ from wpAny_pure ⟨Code.quiet_builtin _ (by decide +kernel),codeAny_builtin F.entry_type_call ?_⟩))
 rw [Around.under_plain (weight_type_call_type "set" [.ref l] []) rfl]
 repeat (any_goals (first | assumption | wp_step))
 generalize hL:(!w.params.followText "set-order")=led at h
 refine codeAny_mono (code_set_newL (.ref l) (E:=E) (Q₁:=fun v t=>v=.ref s.heap.objs.size/\t={s with heap:=s.heap.push (nwS led)}) ⟨rfl,by rw [hL]⟩) fun r t hr=>?_
 match r,hr with
 | .error e,hr=>exact hr
 | .ok (.ret v),⟨e1,e2⟩=>
  subst e1 e2
  have hT:Shared.TypeIs {s with heap:=s.heap.push (nwS led)} (.ref s.heap.objs.size) "set":=⟨_,Heap.get?_push_size _ rfl,rfl⟩
  have g7:=F.called_set.init.lookup
  have g8:=F.called_set.init.bind (.ref s.heap.objs.size)
  repeat (any_goals (first | assumption | wp_step))
  refine codeAny_mono (codeAny_call_builtin (R:=wants (fun r t=>r=.none/\∃ h' tk,t={s with heap:=h',toks:=tk}/\Q (.ref s.heap.objs.size) {s with heap:=h',toks:=tk}) E) F.called_set.init.plain F.entry_set_init (check_set_init_1 hT ?_)) fun r2 t2 hr2=>?_
  ·refine wpAny_mono (set_init_listS (R:=wants (fun r t=>r=.none/\∃ h' tk,t={s with heap:=h',toks:=tk}/\Q (.ref s.heap.objs.size) {s with heap:=h',toks:=tk}) E) (by simp [hh]) hl hv hval fun h' tk a b=>⟨rfl,h',tk,rfl,h h' tk a b⟩) ?_ ?_
   ·rintro fin t ⟨v,rfl,q⟩
    exact q
   ·exact fun _ _ e=>e
  ·match r2,hr2 with
   | .error e,hr2=>exact hr2
   | .ok (.ret v),⟨e1,h',tk,e2,q⟩=>
    subst e1 e2
    repeat (any_goals (first | assumption | wp_step))
end
end PySem
namespace PySem
open Builtin DL
theorem se_slot_next:Slot "set_iterator" "__next__" "set_iterator.__next__":=
 .of (owner:="set_iterator") (n:="__next__") (by rw [typeLookup_type,builtinLookup_eq_fast]; kernel_rfl) (by decide +kernel) (by decide +kernel) (by decide +kernel)
  (by first | exact .inl (by decide +kernel) | exact .inr (by decide +kernel)) (by rw [isSubtype_type]; kernel_rfl)
theorem se_entry_next:entryFor table "set_iterator.__next__"=some Builtin.«set_iterator.__next__»:=entryFor_of_tree (by kernel_rfl)
theorem se_owner:Manifest.owners.lookup (String.ofList ['r','o','t','a','r','e','t','i','_','t','e','s'].reverse)=some Manifest.sig_set_iterator:=by kernel_rfl
theorem se_args_next (a:Value):argsOk "set_iterator.__next__" ⟨[a],[]⟩:=by
 unfold argsOk; rw [signature?_of (id:="set_iterator.__next__") (n:=['_','_','t','x','e','n','_','_']) (o:=['r','o','t','a','r','e','t','i','_','t','e','s']) (by kernel_rfl) se_owner]; kernel_rfl
theorem se_slot_self:Slot "set_iterator" "__iter__" "set_iterator.__iter__":=
 .of (owner:="set_iterator") (n:="__iter__") (by rw [typeLookup_type,builtinLookup_eq_fast]; kernel_rfl) (by decide +kernel) (by decide +kernel) (by decide +kernel)
  (by first | exact .inl (by decide +kernel) | exact .inr (by decide +kernel)) (by rw [isSubtype_type]; kernel_rfl)
theorem se_entry_self:entryFor table "set_iterator.__iter__"=some Builtin.«dict_keyiterator.__iter__»:=entryFor_alias (id':="dict_keyiterator.__iter__") (by kernel_rfl) rfl (by decide +kernel) (by kernel_rfl)
theorem se_args_self (a:Value):argsOk "set_iterator.__iter__" ⟨[a],[]⟩:=by
 unfold argsOk; rw [signature?_of (id:="set_iterator.__iter__") (n:=['_','_','r','e','t','i','_','_']) (o:=['r','o','t','a','r','e','t','i','_','t','e','s']) (by kernel_rfl) se_owner]; kernel_rfl
theorem se_entry_iter:entryFor table "set.__iter__"=some Builtin.«frozenset.__iter__»:=entryFor_alias (id':="frozenset.__iter__") (by kernel_rfl) rfl (by decide +kernel) (by kernel_rfl)
theorem erase_perm {α:Type}:∀ (l:List α) (i:Nat) (h:i < l.length),(l[i]::l.eraseIdx i).Perm l
 | _::_,0,_=>List.Perm.refl _
 | x::l,i+1,h=>(List.Perm.swap _ _ _).trans (List.Perm.cons x (erase_perm l i (by simpa using h)))
theorem pickGo {α:Type} (next:Nat->Nat):∀ (fuel k:Nat) (left:List α) (out:Array α),fuel=left.length->(pickOrder.go next fuel k left out).toList.Perm (out.toList++left)
 | 0,_,[],out,_=>by
  unfold pickOrder.go
  rw [List.append_nil]
 | fuel+1,k,x::left,out,e=>by
  have lt:next k % (x::left).length < (x::left).length:=Nat.mod_lt _ (by simp)
  unfold pickOrder.go
  rw [List.getElem?_eq_getElem lt]
  refine(pickGo next fuel (k+1) _ _ (by rw [List.length_eraseIdx_of_lt lt]; omega)).trans ?_
  rw [Array.toList_push,List.append_assoc]
  exact List.Perm.append_left _ (erase_perm _ _ lt)
theorem pick_perm {α:Type} (next:Nat->Nat) (xs:Array α):(pickOrder next xs).toList.Perm xs.toList:=pickGo next xs.size 0 xs.toList #[] rfl
def siO (sl i:Nat) (a:Addr) (n ep:Nat):Obj:={cls:=.type "set_iterator",dict:=none,data:=.fields #[.int sl 0,.int i 0,.ref a,.int n 0,.int ep 0],slots:=#[]}
def seW (w:World) (a:Addr) (ep:Nat) (xs:List Sx):Array (Int×Value):=if w.params.followText "set-order" then pickOrder (w.params.setOrder a ep) (seE xs) else seE xs
theorem seW_perm (w:World) (a:Addr) (ep:Nat) (xs:List Sx):(seW w a ep xs).toList.Perm (seE xs).toList:=by
 unfold seW
 split
 ·exact pick_perm _ _
 ·exact List.Perm.refl _
theorem seW_size (w:World) (a:Addr) (ep:Nat) (xs:List Sx):(seW w a ep xs).size=xs.length:=by
 rw [<- seE_size,<- Array.length_toList,<- Array.length_toList]
 exact(seW_perm w a ep xs).length_eq
section
variable {prog:Program} {w:World} {A:Around} {E:Value->Shared->Prop} {s:Shared} {a it:Addr} {m ep sl i:Nat} {xs:List Sx}
theorem setNext_at {Q:Option (Value×Nat)->Shared->Prop} (hm:m < 128) (hx:xs.map (·.1)=subM m) (ho:s.heap.get? a=some (seO (!w.params.followText "set-order") m xs ep)) (hsl:w.params.followText "set-order"=false->sl=slM m i) (hi:i<=xs.length)
  (h:∀ sl',(w.params.followText "set-order"=false->sl'=slM m (i+1))->Q ((seW w a ep xs)[i]?.map fun e=>(e.2,sl')) s):wpAny (model prog w) A (setNext a sl i ep) Q E s:=by
 have hf:=seE_fits (!w.params.followText "set-order") hm hx
 unfold setNext
 refine wpAny_bind (wpAny_setState_of ho rfl hf ?_)
 dsimp only
 unfold setsByText
 refine wpAny_bind (wpAny_bind (wpAny_askSetting (wpAny_pure ?_)))
 dsimp only
 cases hF:w.params.followText "set-order" with
 | true=>
  rw [show (model prog w).w.params.followText "set-order"=true from hF,if_pos rfl,if_neg (by simp)]
  unfold setWalk
  refine wpAny_bind (wpAny_bind (wpAny_setState_of ho rfl hf ?_))
  dsimp only
  unfold setsByText
  refine wpAny_bind (wpAny_bind (wpAny_askSetting (wpAny_pure ?_)))
  dsimp only
  rw [show (model prog w).w.params.followText "set-order"=true from hF,if_pos rfl]
  refine wpAny_bind (wpAny_askSetting (wpAny_pure (wpAny_pure ?_)))
  have z:=h sl (by rw [hF]; intro q; cases q)
  unfold seW at z
  rw [hF,if_pos rfl] at z
  exact z
 | false=>
  rw [show (model prog w).w.params.followText "set-order"=false from hF,if_neg (by simp)]
  refine wpAny_ite_split (fun z=>absurd (show false=true from z) Bool.false_ne_true) (fun _=>?_)
  refine wpAny_bind (wpAny_ite_split (fun z=>absurd (show (false && !(seE xs).isEmpty)=true from z) (by simp)) (fun _=>wpAny_pure ?_))
  have l8:i < 8:=by
   have:=seE_small hm hx
   rw [seE_size] at this
   omega
  have ln:(subM m).length=xs.length:=by rw [<- hx,List.length_map]
  have eb:SetTable.below (subM m).toArray sl=i:=by
   rw [hsl hF]
   exact chkS_all m (List.mem_range.mpr hm) i (List.mem_range.mpr l8) (by omega)
  have ew:seW w a ep xs=seE xs:=by unfold seW; rw [hF]; rfl
  rw [ew] at h
  show wpAny _ _ (pure (match (seE xs)[SetTable.below (subM m).toArray sl]?,(subM m).toArray[SetTable.below (subM m).toArray sl]? with | some (_,x),some j=>some (x,j+1) | _,_=>none)) _ _ _
  rw [eb]
  have z:=h (slM m (i+1)) fun _=>rfl
  by_cases lt:i < xs.length
  ·have e1:(seE xs)[i]?=some ((xs[i].1:Int),Value.int xs[i].1 xs[i].2):=by simp [seE,lt]
   have e2:(subM m).toArray[i]?=some ((subM m).getD i 0):=by
    rw [List.getElem?_toArray,List.getD_eq_getElem?_getD,List.getElem?_eq_getElem (by omega)]
    rfl
   rw [e1] at z ⊢
   rw [e2]
   exact wpAny_pure z
  ·have e1:(seE xs)[i]?=none:=by simp [seE]; omega
   rw [e1] at z ⊢
   exact wpAny_pure z
theorem siI {Q:Value->Shared->Prop} (hm:m < 128) (hx:xs.map (·.1)=subM m) (led:Bool) (ho:s.heap.get? a=some (seO led m xs ep)) (h:Q (.ref s.heap.objs.size) {s with heap:=s.heap.push (siO 0 0 a xs.length ep)}):wpAny (model prog w) A (pyIter (.ref a)) Q E s:=by
 have T:s.TypeIs (.ref a) "set":=⟨_,ho,rfl⟩
 have hf:=seE_fits led hm hx
 refine wpAny_pyIter_slot T F.slot_set_iter (wpAny_call_entry F.slot_set_iter T se_entry_iter ?_ (F.args_set_iter_1 _))
 unfold Builtin.«frozenset.__iter__» Builtin.Frozenset.slot0 slotArgs
 simp only [List.isEmpty_nil,Bool.not_true,Bool.false_eq_true,↓reduceIte,bind_assoc,List.length_nil,bne_self_eq_false]
 unfold Builtin.Frozenset.addrOf Builtin.Frozenset.sizeOf
 refine wpAny_bind (wpAny_pure ?_)
 try dsimp only
 refine wpAny_bind (wpAny_pure ?_)
 refine wpAny_bind (wpAny_bind (wpAny_setEntries_of ho rfl hf (wpAny_pure ?_)))
 unfold setDrawn setsByText
 refine wpAny_bind (wpAny_bind (wpAny_setState_of ho rfl hf ?_))
 refine wpAny_bind (wpAny_bind (wpAny_askSetting (wpAny_pure (wpAny_pure ?_))))
 refine wpAny_ite_split (fun z=>absurd (show (!w.params.followText "set-order" && false)=true from z) (by simp)) (fun _=>wpAny_bind (wpAny_pure (wpAny_bind (wpAny_setEpoch_of ho rfl hf ?_))))
 refine wpAny_bind (wpAny_newObj_type (wpAny_pure ⟨_,rfl,"set_iterator",_,⟨_,Heap.get?_push_size _ rfl,rfl⟩,se_slot_next.lookup,?_⟩))
 rw [seE_size]
 exact h
theorem siN (it a:Addr) (m ep sl i:Nat) (xs:List Sx) (hm:m < 128) (hx:xs.map (·.1)=subM m) (hsl:w.params.followText "set-order"=false->sl=slM m i) (e:Int×Value) (he:(seW w a ep xs)[i]?=some e):
  MeetsIn prog w (Builtin.«set_iterator.__next__» ⟨[.ref it],[]⟩) (fun _ R s=>s.heap.get? it=some (siO sl i a xs.length ep)/\s.heap.get? a=some (seO (!w.params.followText "set-order") m xs ep)/\
   ∀ sl' h',(w.params.followText "set-order"=false->sl'=slM m (i+1))->h'.get? it=some (siO sl' (i+1) a xs.length ep)->(∀ b o,b≠it->s.heap.get? b=some o->h'.get? b=some o)->R (.ok (.ret e.2)) {s with heap:=h'}):=
 .of_wp fun A R s h=>by
  obtain⟨hp,g,dr,tk,os⟩:=s
  obtain⟨h1,h2,h⟩:=h
  have hf:=seE_fits (!w.params.followText "set-order") hm hx
  have hi:i<=xs.length:=by
   have:=(Array.getElem?_eq_some_iff.mp he).1
   rw [seW_size] at this
   omega
  unfold Builtin.«set_iterator.__next__» slotArgs
  simp only [List.isEmpty_nil,Bool.not_true,Bool.false_eq_true,↓reduceIte,bind_assoc,List.length_nil,bne_self_eq_false]
  refine wpAny_bind (wpAny_pure ?_)
  refine wpAny_bind (wpAny_fieldsOf h1 rfl ?_)
  show wpAny _ _ (setEntries a >>= _) _ _ _
  refine wpAny_bind (wpAny_setEntries_of h2 rfl hf ?_)
  refine wpAny_ite_split (fun z=>absurd z (by rw [seE_size]; simp)) (fun _=>?_)
  refine wpAny_bind (setNext_at (sl:=sl) (i:=i) (ep:=ep) hm hx h2 hsl hi fun sl' q=>?_)
  rw [he]
  refine wpAny_bind (m:=setField (.ref it) 0 (rawInt sl')) (wpAny_setField_rec h1 (by simp) fun k1 a1 b1=>wpAny_bind (m:=setField (.ref it) 1 (rawInt ((i:Int)+1))) (wpAny_setField_rec a1 (by simp) fun k2 a2 b2=>wpAny_pure ⟨_,rfl,h sl' k2 q a2 (fun b o nb x=>b2.extBut b o nb (b1.extBut b o nb x))⟩))
theorem siE (it a:Addr) (m ep sl i:Nat) (xs:List Sx) (hm:m < 128) (hx:xs.map (·.1)=subM m) (hsl:w.params.followText "set-order"=false->sl=slM m i) (hi:i=xs.length):
  MeetsIn prog w (Builtin.«set_iterator.__next__» ⟨[.ref it],[]⟩) (fun A R s=>A.handled=none/\s.heap.get? it=some (siO sl i a xs.length ep)/\s.heap.get? a=some (seO (!w.params.followText "set-order") m xs ep)/\
   (∀ h' e,Heap.ExtBut it s.heap h'->(∃ o,h'.get? e=some o/\o.cls=.type "StopIteration")->R (.error (.ref e)) {s with heap:=h'})):=
 .of_wp fun A R s h=>by
  obtain⟨hp,g,dr,tk,os⟩:=s
  obtain⟨h0,h1,h2,h⟩:=h
  have hf:=seE_fits (!w.params.followText "set-order") hm hx
  have he:(seW w a ep xs)[i]?=none:=by rw [Array.getElem?_eq_none_iff,seW_size]; omega
  unfold Builtin.«set_iterator.__next__» slotArgs
  simp only [List.isEmpty_nil,Bool.not_true,Bool.false_eq_true,↓reduceIte,bind_assoc,List.length_nil,bne_self_eq_false]
  refine wpAny_bind (wpAny_pure ?_)
  refine wpAny_bind (wpAny_fieldsOf h1 rfl ?_)
  show wpAny _ _ (setEntries a >>= _) _ _ _
  refine wpAny_bind (wpAny_setEntries_of h2 rfl hf ?_)
  refine wpAny_ite_split (fun z=>absurd z (by rw [seE_size]; simp)) (fun _=>?_)
  refine wpAny_bind (setNext_at (sl:=sl) (i:=i) (ep:=ep) hm hx h2 hsl (by omega) fun sl' q=>?_)
  rw [he]
  refine wpAny_bind (m:=setField (.ref it) 2 .none) (wpAny_setField_rec h1 (by simp) fun k1 a1 b1=>?_)
  wp_walk
  unfold raiseNew
  refine wpAny_bind (wpAny_handled ?_)
  rw [show A.in1.handled=none from h0]
  exact wpAny_bind (wpAny_pure (wpAny_throw (h _ _ (fun b o nb x=>Heap.get?_push_of_some _ (Heap.get?_push_of_some _ (b1.extBut b o nb x))) ⟨_,Heap.get?_push_size _ rfl,rfl⟩)))
theorem self_si {n:Nat} {Q:Value->Shared->Prop} (h1:s.heap.get? it=some (siO sl i a n ep)) (h:Q (.ref it) s):wpAny (model prog w) A (pyIter (.ref it)) Q E s:=by
 have T:s.TypeIs (.ref it) "set_iterator":=⟨_,h1,rfl⟩
 refine wpAny_pyIter_slot T se_slot_self (wpAny_call_entry se_slot_self T se_entry_self ?_ (se_args_self _))
 exact wpAny_pure ⟨_,rfl,"set_iterator",_,T,se_slot_next.lookup,h⟩
theorem walks_se (hh:A.handled=none) (I a:Addr) (ne:a≠I) (m ep:Nat) (xs:List Sx) (hm:m < 128) (hx:xs.map (·.1)=subM m):Walks prog w A I [I,a] [I] xs.length (fun i v=>∃ e,(seW w a ep xs)[i]?=some e/\v=e.2)
  (fun i h=>(∃ sl,(w.params.followText "set-order"=false->sl=slM m i)/\h.get? I=some (siO sl i a xs.length ep))/\h.get? a=some (seO (!w.params.followText "set-order") m xs ep)) where
 sub:=fun b hb=>by simp at hb; simp [hb]
 frame:=fun _ _ _ ⟨⟨sl,q,st⟩,st2⟩ k=>⟨⟨sl,q,k I (by simp) _ st⟩,k a (by simp) _ st2⟩
 item:=fun i s Q E hi ⟨⟨sl,q,st⟩,st2⟩ fin=>by
  have lt:i < (seW w a ep xs).size:=by rw [seW_size]; exact hi
  have he:(seW w a ep xs)[i]?=some (seW w a ep xs)[i]:=by simp [lt]
  exact next_of se_slot_next ⟨_,st,rfl⟩ se_entry_next (se_args_next _) (siN I a m ep sl i xs hm hx q _ he) ⟨st,st2,fun sl' h' q' g k=>fin _ h' s.toks ⟨_,he,rfl⟩ ⟨⟨sl',q',g⟩,k _ _ ne st2⟩ fun b o hb x=>k b o (fun z=>hb (by simp [z])) x⟩
 done:=fun s Q E ⟨⟨sl,q,st⟩,st2⟩ fin=>next_of se_slot_next ⟨_,st,rfl⟩ se_entry_next (se_args_next _) (siE I a m ep sl _ xs hm hx q rfl) ⟨hh,st,st2,fun h' e x ⟨o,y1,y2⟩=>⟨⟨e,o,rfl,y1,y2⟩,fin h' s.toks fun b o hb z=>x b o (fun y=>hb (by simp [y])) z⟩⟩
 self:=fun _ _ _ _ ⟨⟨sl,q,st⟩,st2⟩ z=>self_si st z
theorem hint_se {r:Addr} {Q:Bool->Shared->Prop} (hT:s.TypeIs (.ref r) "set") (h:Q false s):wpAny (model prog w) A (Builtin.List.listLengthHint (.ref r)) Q E s:=by
 unfold Builtin.List.listLengthHint
 refine wpAny_bind (wpAny_specialOf hT F.slot_set_len.lookup ?_)
 generalize hid:("set.__len__":String)=id0
 wp_delta
 rw [show splitId id0=some ("set","__len__") from by subst hid; decide +kernel]
 subst hid
 refine wpAny_bind (wpAny_isInstance (T:="set") (b:=true) hT (by rw [isSubtype_type]; kernel_rfl) ?_)
 refine wpAny_ite_split (fun hab=>absurd hab (by decide)) (fun _=>?_)
 refine wpAny_ite_split (fun _=>?_) (fun hab=>absurd (by decide +kernel) hab)
 refine wpAny_bind (wpAny_typeOf hT ?_)
 exact wpAny_pure h
theorem src_se (hm:m < 128) (hx:xs.map (·.1)=subM m):PySem.W.KdlSrc prog w "set" a a xs.length (fun i v=>∃ e,(seW w a ep xs)[i]?=some e/\v=e.2) (fun h=>h.get? a=some (seO (!w.params.followText "set-order") m xs ep)) where
 type:=fun s ok=>⟨_,ok,rfl⟩
 there:=fun h ok=>⟨Heap.lt_size ok,Heap.lt_size ok⟩
 keep:=fun h h' ok k=>k a (.inl rfl) _ ok
 notList:=by decide
 notTuple:=by decide
 hint:=fun A E s Q ok q=>hint_se ⟨_,ok,rfl⟩ q
 iter:=fun A s hh ok=>⟨siO 0 0 a xs.length ep,_,fun E Q q=>siI hm hx _ ok q,walks_se hh s.heap.objs.size a (Nat.ne_of_lt (Heap.lt_size ok)) m ep xs hm hx,⟨0,fun _=>rfl,Heap.get?_push_size _ rfl⟩,Heap.get?_push_of_some _ ok⟩
end
end PySem
namespace PySem
open Builtin DL PyProof.Rows
section
variable {prog:Program} {w:World} {A:Around} {E:Value->Shared->Prop} {s:Shared} {a it:Addr} {m ep:Nat} {xs:List Sx}
theorem collect_code {R:Result->Shared->Prop} (hh:A.handled=none) (hm:m < 128) (hx:xs.map (·.1)=subM m) (ho:s.heap.get? a=some (seO (!w.params.followText "set-order") m xs ep))
  (h:∀ h' tk acc c',(∀ b o,s.heap.get? b=some o->h'.get? b=some o)->h'.get? s.heap.objs.size=some {cls:=.type "list",dict:=none,data:=.seq acc c',slots:=#[]}->ItemsOf (fun i v=>∃ e,(seW w a ep xs)[i]?=some e/\v=e.2) acc xs.length->R (.ok (.ret (.ref s.heap.objs.size))) {s with heap:=h',toks:=tk}):
  codeAny (model prog w) A (.builtin "proto.collect" ⟨[.ref a],[]⟩) R s:=by
 have la:=Heap.lt_size ho
 have hz:xs.length<=sizeLine:=by
  have:=seE_small hm hx
  rw [seE_size] at this
  exact fits_of_scanBound (by unfold scanBound; omega)
 refine codeAny_builtin F.entry_proto_collect ?_
 rw [Around.under_plainId F.plain_proto_collect _]
 show wpAny _ A.in1 (newList [] >>= fun l=>again (.builtin "list.__iadd__" ⟨[l,.ref a],[]⟩)) _ _ s
 refine wpAny_bind (wpAny_newObj_type ?_)
 refine wpAny_pure ⟨plainId_quiet F.plain_list_iadd _,codeAny_builtin F.entry_list_iadd ?_⟩
 rw [Around.under_plainId F.plain_list_iadd _]
 have ho1:(s.heap.push {cls:=.type "list",data:=.seq ([]:List Value).toArray}).get? a=some (seO (!w.params.followText "set-order") m xs ep):=Heap.get?_push_of_some _ ho
 have hS1:(s.heap.push {cls:=.type "list",data:=.seq ([]:List Value).toArray}).get? s.heap.objs.size=some {cls:=.type "list",data:=.seq #[] 0}:=Heap.get?_push_size _ rfl
 exact PySem.W.kdl_extend (R:=R) (s:={s with heap:=s.heap.push {cls:=.type "list",data:=.seq ([]:List Value).toArray}}) (src_se hm hx) hh ho1 s.heap.objs.size (Nat.ne_of_gt la) (Nat.ne_of_gt la) _ 0 hS1 (fun h' tk acc c' kk gn itm=>h h' tk acc c' (fun b o e=>kk b o (Nat.ne_of_lt (Heap.lt_size e)) (Heap.get?_push_of_some _ e)) gn itm) hz
theorem collect_se {Q:List Value->Shared->Prop} (hh:A.handled=none) (hm:m < 128) (hx:xs.map (·.1)=subM m) (ho:s.heap.get? a=some (seO (!w.params.followText "set-order") m xs ep))
  (h:∀ h' tk acc,(∀ b o,s.heap.get? b=some o->h'.get? b=some o)->s.heap.objs.size < h'.objs.size->ItemsOf (fun i v=>∃ e,(seW w a ep xs)[i]?=some e/\v=e.2) acc xs.length->Q acc.toList {s with heap:=h',toks:=tk}):wpAny (model prog w) A (collect (.ref a)) Q E s:=by
 unfold collect
 refine wpAny_bind (wpAny_runValue (collect_code hh hm hx ho fun h' tk acc c' kk gn itm=>?_))
 show wpAny _ A (load s.heap.objs.size >>= _) _ _ _
 refine wpAny_bind (wpAny_load gn ?_)
 exact wpAny_pure (h h' tk acc kk (Heap.lt_size gn) itm)
theorem ints_pairs:∀ l:List (Int×Value),(∀ e∈l,∃ t,e.2=.int e.1 t)->IntsAre (l.map (·.2)) (l.map (·.1))
 | [],_=>.nil
 | e::l,h=>by
  obtain⟨t,q⟩:=h e (by simp)
  rw [List.map_cons,List.map_cons,q]
  exact .cons _ _ (ints_pairs l fun x hx=>h x (by simp [hx]))
theorem perm_sorted:∀ (l l':List Int),l.Perm l'->l.Pairwise (·<=·)->l'.Pairwise (·<=·)->l=l'
 | [],l',p,_,_=>(List.Perm.nil_eq p)
 | x::l,[],p,_,_=>absurd p.length_eq (by simp)
 | x::l,y::l',p,s1,s2=>by
  have hx:x∈y::l':=p.mem_iff.mp (by simp)
  have hy:y∈x::l:=p.mem_iff.mpr (by simp)
  have e:x=y:=by
   rcases List.mem_cons.mp hx with q | q
   ·exact q
   rcases List.mem_cons.mp hy with r | r
   ·exact r.symm
   exact Int.le_antisymm ((List.pairwise_cons.mp s1).1 y r) ((List.pairwise_cons.mp s2).1 x q)
  subst e
  rw [perm_sorted l l' (List.Perm.cons_inv p) (List.pairwise_cons.mp s1).2 (List.pairwise_cons.mp s2).2]
def subI (m:Nat):List Int:=(subM m).map fun(v:Nat)=>(v:Int)
theorem subI_lt (m:Nat):(subI m).Pairwise (· < ·):=by
 unfold subI subM
 rw [List.pairwise_map]
 exact(List.Pairwise.filter _ List.pairwise_lt_range).imp fun h=>by omega
theorem sorted_se {Q:Value->Shared->Prop} (hh:A.handled=none) (hm:m < 128) (hx:xs.map (·.1)=subM m) (ho:s.heap.get? a=some (seO (!w.params.followText "set-order") m xs ep))
  (h:∀ h' tk l vs e,s.heap.objs.size<=l->(∀ b o,s.heap.get? b=some o->h'.get? b=some o)->h'.get? l=some (seqObj "list" vs e)->IntsAre vs.toList (subI m)->Q (.ref l) {s with heap:=h',toks:=tk}):
  wpAny (model prog w) A (call (.builtin "sorted") [.ref a]) Q E s:=by
 refine Calls.call_function_entry kind_sorted plain_sorted entry_sorted (args_sorted1 _) ?_
 unfold Builtin.«sorted»
 refine wpAny_bind (m:=checkCount "sorted" 1 1 _) (wpAny_pure ?_)
 refine wpAny_bind (collect_se (A:=A.in1) hh hm hx ho fun h1 tk acc kk sz itm=>?_)
 have ev:acc.toList=(seW w a ep xs).toList.map (·.2):=by
  obtain⟨l1,l2⟩:=itm
  apply List.ext_getElem?
  intro i
  rw [Array.getElem?_toList,List.getElem?_map,Array.getElem?_toList]
  cases q1:acc[i]? with
  | none=>
   have:acc.size<=i:=by simpa using q1
   rw [Array.getElem?_eq_none (by rw [seW_size]; omega)]
   rfl
  | some v=>
   obtain⟨e,he,rfl⟩:=l2 i v q1
   rw [he]
   rfl
 have hI:IntsAre acc.toList ((seW w a ep xs).toList.map (·.1)):=by
  rw [ev]
  refine ints_pairs _ fun e he=>?_
  have:=(seW_perm w a ep xs).mem_iff.mp he
  simp only [seE,List.mem_map] at this
  obtain⟨x,_,rfl⟩:=this
  exact⟨x.2,rfl⟩
 have hp:((seW w a ep xs).toList.map (·.1)).Perm (subI m):=by
  refine((seW_perm w a ep xs).map _).trans (List.Perm.of_eq ?_)
  unfold subI
  rw [<- hx]
  simp only [seE,List.map_map]
  rfl
 have hl:acc.toList.length < 64:=by
  have:=subM_len hm
  rw [ev,List.length_map,Array.length_toList,seW_size,<- List.length_map (f:=(·.1)),hx]
  omega
 refine wpAny_bind (wpAny_newList ?_)
 have hoL:(h1.push (seqObj "list" acc.toList.toArray 0)).get? h1.objs.size=some (seqObj "list" acc.toList.toArray 0):=Heap.get?_push_size _ rfl
 refine wpAny_bind (wpAny_holding (wpAny_call_entry slot_list_sort ⟨_,hoL,rfl⟩ entry_list_sort (list_sort_tree hoL hI hl fun out ns' a1 a2 a3=>⟨_,rfl,?_⟩) (args_list_sort _)))
 have e:ns'=subI m:=perm_sorted _ _ (a2.trans hp) a3 ((subI_lt m).imp fun h=>Int.le_of_lt h)
 subst e
 obtain⟨ep',g⟩:=sortedHeap_at (out:=out) hoL
 refine wpAny_pure ⟨_,rfl,h _ tk _ out ep' (Nat.le_of_lt sz) (fun b o x=>?_) g a1⟩
 have lb:=Heap.lt_size (kk b o x)
 rw [sortedHeap_old (Nat.ne_of_lt lb) (by rw [size_push']; exact Nat.lt_succ_of_lt lb)]
 exact Heap.get?_push_of_some _ (kk b o x)
end
end PySem
namespace L2
open PySem PySem.Spec PyProof.Rows
def SeP (led:Bool) (p:Addr) (m:Nat):Heap->Prop:=fun h=>SeAt h p led m
def valN (ns:List Int) (i:Nat):Nat:=(ns.getD i 0).toNat
def mskN (ns:List Int):Nat:=mkM (valN ns) ns.length
theorem mkM_bit (val:Nat->Nat) (v:Nat):∀ k,(mkM val k).testBit v=true↔∃ i,i < k/\val i=v
 | 0=>by simp [mkM]
 | k+1=>by
  show(mkM val k ||| 2 ^ val k).testBit v=true↔_
  rw [Nat.testBit_or,Bool.or_eq_true,mkM_bit val v k,Nat.testBit_two_pow,decide_eq_true_eq]
  constructor
  ·rintro(⟨i,h1,h2⟩ | h)
   ·exact⟨i,by omega,h2⟩
   ·exact⟨k,by omega,h⟩
  ·rintro⟨i,h1,h2⟩
   by_cases e:i=k
   ·subst e; exact .inr h2
   ·exact .inl ⟨i,by omega,h2⟩
def srtN (ns:List Int):List Int:=subI (mskN ns)
theorem srtN_lt (ns:List Int):(srtN ns).Pairwise (· < ·):=subI_lt _
theorem mem_srtN {ns:List Int} (hb:∀ n∈ns,0<=n/\n < 7) {v:Int}:v∈srtN ns↔v∈ns:=by
 unfold srtN subI
 simp only [List.mem_map,mem_subM]
 constructor
 ·rintro⟨u,⟨_,h2⟩,rfl⟩
  obtain⟨i,hi,e⟩:=(mkM_bit _ _ _).mp h2
  have e1:ns.getD i 0=ns[i]:=by rw [List.getD_eq_getElem?_getD,List.getElem?_eq_getElem hi]; rfl
  have m1:ns[i]∈ns:=List.getElem_mem hi
  have b1:=hb _ m1
  unfold valN at e
  rw [e1] at e
  have:(u:Int)=ns[i]:=by omega
  rw [this]
  exact m1
 ·intro h
  obtain⟨i,hi,e⟩:=List.getElem_of_mem h
  have b1:=hb _ h
  have e1:ns.getD i 0=v:=by rw [List.getD_eq_getElem?_getD,List.getElem?_eq_getElem hi,<- e]; rfl
  exact⟨v.toNat,⟨by omega,(mkM_bit _ _ _).mpr ⟨i,hi,by unfold valN; rw [e1]⟩⟩,by omega⟩
section
variable {X:Cx}
theorem call_setL (hc:X.calm=true):CallR X (.type "set") (fun xs H Q=>∃ a ns,xs=[.ref a]/\SqL X.K H a (ns.map V.int)/\(∀ n∈ns,0<=n/\n < 7)/\∀ p,H p=none->Q (.ref p) (upd H p (.ext (SeP (!X.w.params.followText "set-order") p (mskN ns))))):=by
 intro pins s σ H xs us Q I r h
 obtain⟨a,ns,rfl,hq,hb,q⟩:=h
 obtain⟨u,rfl,rx⟩:=vals1 r
 cases rx
 obtain⟨its,r',pl,hz⟩:=I.list hq
 have hlen:=r'.length
 rw [List.length_map] at hlen
 have hI:IntsAre its ns:=intsAre_of r'
 have nb:∀ i,0<=ns.getD i 0/\ns.getD i 0 < 7:=fun i=>by
  rw [List.getD_eq_getElem?_getD]
  cases e:ns[i]? with
  | none=>exact⟨by decide,by decide⟩
  | some v=>exact hb v (List.mem_of_getElem? e)
 refine call_set_listS (val:=valN ns) (I.ok.hd hc) pl.isList (fun i=>?_) (fun i v hv=>?_) fun h' tk hS kp=>?_
 ·have:=nb i
  unfold valN
  omega
 ·obtain⟨t,rfl⟩:=IntsAre.int_at hI i v (by simpa using hv)
  have:=nb i
  refine⟨t,?_⟩
  unfold valN
  rw [Int.toNat_of_nonneg this.1]
 have e:its.toArray.size=ns.length:=by rw [List.size_toArray]; exact hlen.symm
 rw [e] at hS
 have hS':SeP (!X.w.params.followText "set-order") s.heap.objs.size (mskN ns) h':=hS
 obtain⟨_,_,_,_,g⟩:=id hS
 exact⟨.ref s.heap.objs.size,_,I.laid (o:=.ext (SeP (!X.w.params.followText "set-order") s.heap.objs.size (mskN ns))) (t':=tk) (fun b o z=>kp b o (Heap.lt_size z) z) (Nat.le_refl _) ⟨hS',⟨_,g⟩,fun h1 h2 z k=>SeAt.keep z fun o e=>k o e⟩,rfl,q _ (I.hok.fresh (Nat.le_refl _))⟩
theorem call_sortS (hc:X.calm=true):CallR X (.builtin "sorted") (fun xs H Q=>∃ p m,xs=[.ref p]/\H p=some (.ext (SeP (!X.w.params.followText "set-order") p m))/\∀ q,H q=none->Q (.ref q) (upd H q (.lst ((subI m).map V.int)))):=by
 intro pins s σ H xs us Q I r h
 obtain⟨p,m,rfl,e1,q⟩:=h
 obtain⟨u,rfl,rx⟩:=vals1 r
 cases rx
 obtain⟨hm,ys,ep,hx,g⟩:=(I.hok p _ e1).1
 refine sorted_se (I.ok.hd hc) hm hx g fun h' tk l vs e le kk gl ia=>?_
 have hl:((subI m).map V.int).length<=sizeLine:=by
  have:=subM_len hm
  unfold subI
  rw [List.length_map,List.length_map]
  exact fits_of_scanBound (by unfold scanBound; omega)
 exact⟨.ref l,_,I.laid (a:=l) (o:=.lst ((subI m).map V.int)) (t':=tk) kk le ⟨hl,vs.toList,e,vals_intsM ia,by simpa using gl⟩,rfl,q l (I.hok.fresh le)⟩
end
end L2
namespace DL
open PySem PySem.Spec PyProof.Rows L2
def dSortSet (g:DE):DE:=fun L S k=>g L S fun d S1=>match d with
 | .ref a=>∃ ns:List Int,S1 a=some (.lst (ns.map D.int))/\(∀ n∈ns,0<=n/\n < 7)/\∀ p,S1 p=none->k (.ref p) (put S1 p (.lst ((srtN ns).map D.int)))
 | _=>False
theorem d_sortSetj {X:Cx} {e:Expr} {g:DE} {p1 p2 pos1 pos2:Pos} (hc:X.calm=true) (hg1:Gl X "sorted") (hm1:X.mg "sorted"=none) (hv1:bootBuiltins "sorted"=some (.builtin "sorted")) (hg2:Gl X "set") (hm2:X.mg "set"=none) (hv2:bootBuiltins "set"=some (.type "set")) (he:EJ X e g)
  (s1:starEach [e] X.env=(false,eval e X.env)::starEach [] X.env:=by exact star_cons rfl) (s2:(backTo pos2 (starEach [] X.env)).any (·.1)=false:=by exact star_any rfl)
  (s3:starEach [.Call (.Name "set" p2) [e] [] pos2] X.env=(false,eval (.Call (.Name "set" p2) [e] [] pos2) X.env)::starEach [] X.env:=by exact star_cons rfl) (s4:(backTo pos1 (starEach [] X.env)).any (·.1)=false:=by exact star_any rfl):
  EJ X (.Call (.Name "sorted" p1) [.Call (.Name "set" p2) [e] [] pos2] [] pos1) (dSortSet g):=
 ⟨PE.imp (pe_callB (call_sortS hc) hg1 hm1 hv1 (pa_cons (pe_callTy (call_setL hc) hg2 hm2 hv2 (pa_cons he.h pa_nil s1) (by decide) (by decide) s1 s2) pa_nil s3) (by decide) (by decide) s3 s4) fun σ H Q ⟨L,S,k,hL,hS,h,n⟩=>up.go hL hS h fun d S1 v H1 h1 k1 hL1 hS1 i1=>by
  cases d with
  | ref a=>
   obtain⟨ns,g1,hb,w⟩:=h1
   have ex:=isRef.mp i1
   subst ex
   obtain⟨vs,q1,j⟩:=hS1.lst g1
   have e:=isDs_intsM j
   subst e
   refine⟨a,ns,rfl,SqL.of q1,hb,fun p hp=>⟨p,_,rfl,upd_same,fun q hq=>?_⟩⟩
   have hS2:=hS1.new (o:=.ext (SeP (!X.w.params.followText "set-order") p (mskN ns))) hp
   exact n _ _ _ _ (w q (hS2.free hq)) ((k1.trans (Kp.new hp)).trans (Kp.new hq)) (hS2.newL hq ints_isDsM) (isRef.mpr rfl)
  | _=>exact(show False from h1).elim⟩
def valD (kvs:List (Key×D)) (k:Key):Option D:=(kvs.find? fun kv=>decide (kv.1=k)).map (·.2)
def putD (kvs:List (Key×D)) (k:Key) (d:D):List (Key×D):=if (kvs.any fun kv=>decide (kv.1=k))=true then kvs.map (fun kv=>if kv.1=k then(kv.1,d) else kv) else kvs++[(k,d)]
abbrev KkR (K:Fg) (H:Hp):List (Key×D)->List (Key×V)->Prop:=Paired fun p q=>p.1=q.1/\IsD K H p.2 q.2
section
variable {K:Fg} {H H':Hp}
theorem KkR.kp {kvs:List (Key×D)} {ys:List (Key×V)} (r:KkR K H kvs ys) (k:Kp H H'):KkR K H' kvs ys:=Paired.mapP r fun _ _ z=>⟨z.1,z.2.kp k⟩
theorem KkR.val {k:Key}:∀ {kvs:List (Key×D)} {ys:List (Key×V)},KkR K H kvs ys->∀ {d:D},valD kvs k=some d->∃ v,valV ys k=some v/\IsD K H d v
 | _,_,.nil,d,h=>by simp [valD] at h
 | (k1,d1)::kvs,(k2,v2)::ys,.cons ⟨a,b⟩ t,d,h=>by
  have a:k1=k2:=a
  subst a
  by_cases e:k1=k
  ·refine⟨v2,valV_pos e,?_⟩
   simp [valD,List.find?_cons,e] at h
   rw [<- h]
   exact b
  ·obtain⟨v,q1,q2⟩:=KkR.val (k:=k) t (d:=d) (by simpa [valD,List.find?_cons,e] using h)
   exact⟨v,by rw [valV_neg e]; exact q1,q2⟩
theorem KkR.any {k:Key}:∀ {kvs:List (Key×D)} {ys:List (Key×V)},KkR K H kvs ys->(kvs.any fun kv=>decide (kv.1=k))=(ys.any fun kv=>decide (kv.1=k))
 | _,_,.nil=>rfl
 | (k1,d1)::kvs,(k2,v2)::ys,.cons ⟨a,b⟩ t=>by
  have a:k1=k2:=a
  rw [List.any_cons,List.any_cons,KkR.any t,a]
theorem KkR.map {k:Key} {d:D} {v:V} (hd:IsD K H d v):∀ {kvs:List (Key×D)} {ys:List (Key×V)},KkR K H kvs ys->KkR K H (kvs.map fun kv=>if kv.1=k then(kv.1,d) else kv) (ys.map fun kv=>if kv.1=k then(kv.1,v) else kv)
 | _,_,.nil=>.nil
 | (k1,d1)::kvs,(k2,v2)::ys,.cons ⟨a,b⟩ t=>by
  have a:k1=k2:=a
  subst a
  rw [List.map_cons,List.map_cons]
  refine .cons ?_ (KkR.map hd t)
  dsimp only
  split
  ·exact⟨rfl,hd⟩
  ·exact⟨rfl,b⟩
theorem KkR.snoc {k:Key} {d:D} {v:V} (hd:IsD K H d v):∀ {kvs:List (Key×D)} {ys:List (Key×V)},KkR K H kvs ys->KkR K H (kvs++[(k,d)]) (ys++[(k,v)])
 | _,_,.nil=>.cons ⟨rfl,hd⟩ .nil
 | _,_,.cons a t=>.cons a (KkR.snoc hd t)
theorem KkR.put {k:Key} {d:D} {v:V} {kvs:List (Key×D)} {ys:List (Key×V)} (hd:IsD K H d v) (r:KkR K H kvs ys):KkR K H (putD kvs k d) (putK ys k v):=by
 unfold putD putK
 rw [r.any]
 split
 ·exact KkR.map hd r
 ·exact KkR.snoc hd r
end
section
variable {X:Cx}
def dKNew:DE:=fun _ S k=>∀ p,S p=none->k (.ref p) (put S p (.gen (.dK [])))
theorem d_knewj {pos:Pos}:EJ X (.Dict [] [] pos) dKNew:=
 ⟨PE.imp pe_dnewK fun σ H Q ⟨L,S,k,hL,hS,h,n⟩ p hp=>n _ _ _ _ (h p (hS.free hp)) (Kp.new hp) (hS.newG hp ⟨[],upd_same,.nil⟩) (isRef.mpr rfl)⟩
def dKGet (go gi:DE):DE:=fun L S k=>go L S fun d S1=>gi L S1 fun e S2=>match d,e with
 | .ref a,.int i=>∃ kvs c,S2 a=some (.gen (.dK kvs))/\valD kvs (.inl i)=some c/\k c S2
 | _,_=>False
theorem d_kgetj {o i:Expr} {go gi:DE} {pos:Pos} {n:Nat} (hr:Room n X.A) (ho:EJ X o go) (hi:EJ X i gi) (hs:NoSl i):EJ X (.Subscript o i pos) (dKGet go gi):=
 ⟨PE.imp (pe_dget (un1 hr) ho.h hi.h hs) fun σ H Q ⟨L,S,k,hL,hS,h,m⟩=>up.go hL hS h fun d S1 x H1 h1 k1 hL1 hS1 i1=>up.go hL1 hS1 h1 fun e S2 y H2 h2 k2 hL2 hS2 i2=>by
  split at h2
  ·rename_i a j
   obtain⟨kvs,c,g1,g2,h2⟩:=h2
   obtain⟨ys,e1,r1⟩:=(show GObj X.K H2 a (.dK kvs) from hS2 a _ g1)
   have ex:=isRef.mp i1
   have ey:=isInt.mp i2
   subst ex ey
   obtain⟨v,q1,q2⟩:=KkR.val r1 g2
   exact⟨a,v,rfl,by rw [<- q1]; exact DGet.k (k:=.inl j) e1,m c S2 v H2 h2 (k1.trans k2) hS2 q2⟩
  ·exact h2.elim⟩
def rSetK:TSet:=fun x y v H Q=>∃ a kvs j,x=.ref a/\y=.int j/\H a=some (.dK kvs)/\kvs.length < sizeLine/\Q (upd H a (.dK (putK kvs (.inl j) v)))
theorem set_dictK {n:Nat} (hr:Room n X.A):PSet X rSetK:=by
 intro pins s σ H o i v ov iv u Q I ro ri rv h
 obtain⟨a,kvs,j,rfl,rfl,e1,z,q⟩:=h
 cases (show ov=Value.ref a from ro)
 exact d_setItem (un1 hr) I (DPut.k (k:=.inl j) e1 z) ri rv fun s' I'=>⟨_,I',q⟩
def dgSubK (go gi:DE):DG:=fun d L S k=>go L S fun o S1=>gi L S1 fun i S2=>match o,i with
 | .ref a,.int j=>∃ kvs,S2 a=some (.gen (.dK kvs))/\kvs.length < sizeLine/\k L (put S2 a (.gen (.dK (putD kvs (.inl j) d))))
 | _,_=>False
theorem dg_subK {o i:Expr} {go gi:DE} {pos:Pos} {n:Nat} (hr:Room n X.A) (ho:EJ X o go) (hi:EJ X i gi)
  (ha:∀ v,assign (.Subscript o i pos) X.env v=(do
   let ov <- holding [v] (eval o X.env)
   let iv <- holding [v,ov] (eval i X.env)
   standAt pos
   holding [v,ov,iv] (setItem ov iv v)
   release [v,ov,iv] []):=by intro _; rfl):GJ X (.Subscript o i pos) (dgSubK go gi):=
 ⟨PG.imp (pg_sub ho.h hi.h (set_dictK hr) ha) fun v σ H Q ⟨d,L,S,k,i1,hL,hS,h,m⟩=>up.go hL hS h fun c S1 u H1 h1 k1 hL1 hS1 j1=>up.go hL1 hS1 h1 fun c2 S2 u2 H2 h2 k2 hL2 hS2 j2=>by
  split at h2
  ·rename_i a j
   obtain⟨kvs,g1,z,h2⟩:=h2
   obtain⟨ys,e1,r1⟩:=(show GObj X.K H2 a (.dK kvs) from hS2 a _ g1)
   have ex:=isRef.mp j1
   have ey:=isInt.mp j2
   subst ex ey
   have hl:=Paired.length r1
   refine⟨a,ys,j,rfl,rfl,e1,by rw [<- hl]; exact z,?_⟩
   have k3:Kp H2 (upd H2 a (.dK (putK ys (.inl j) v))):=Kp.mut e1 (fun z=>z)
   exact m L _ σ _ h2 (k1.trans (k2.trans k3)) (hL2.kp k3) (hS2.setG e1 (fun z=>z) ⟨_,upd_same,(KkR.put (i1.kp (k1.trans k2)) r1).kp k3⟩)
  ·exact h2.elim⟩
end
end DL
namespace My
variable {P:Program} {w:World} {K:Fg} {mg:Str->Option Value} {base:Heap} {f:Addr} {fd:FuncData}
open PySem PySem.Spec PyProof.Rows L2 DL HM
set_option maxHeartbeats 4000000
def top (i : Nat) : Stmt := PySem.Challenge.pw_hingedraw_k67_whole_curves_and_points.main.body.getD i (.Pass ⟨0, 0, 0, 0⟩)
abbrev s_common_divisor:Stmt:=top 9
abbrev s_ratio:Stmt:=top 10
abbrev s_plus:Stmt:=top 11
abbrev s_minus:Stmt:=top 12
abbrev s_times:Stmt:=top 13
abbrev s_over:Stmt:=top 14
abbrev s_negative:Stmt:=top 15
abbrev s_without_sign:Stmt:=top 16
abbrev s_whole_root:Stmt:=top 17
abbrev s_square_root_or_none:Stmt:=top 18
abbrev s_root_in:Stmt:=top 19
abbrev s_is_plain:Stmt:=top 21
abbrev s_with_sign_of:Stmt:=top 22
abbrev s_made:Stmt:=top 23
abbrev s_field_base:Stmt:=top 24
abbrev s_share:Stmt:=top 25
abbrev s_joined:Stmt:=top 26
abbrev s_root_plus:Stmt:=top 27
abbrev s_root_times:Stmt:=top 28
abbrev s_plain_point:Stmt:=top 30
abbrev s_place_of:Stmt:=top 31
abbrev s_plain_way:Stmt:=top 32
abbrev s_product_of_ways:Stmt:=top 33
abbrev s_moved:Stmt:=top 34
abbrev s_moved_by_root:Stmt:=top 35
abbrev s_both_moved:Stmt:=top 36
abbrev s_square_of_unlike:Stmt:=top 37
abbrev s_without_noughts:Stmt:=top 40
abbrev s_common_multiple:Stmt:=top 44
abbrev s_common_bottom:Stmt:=top 45
abbrev s_tops_over:Stmt:=top 46
abbrev s_normal_of_tops:Stmt:=top 49
abbrev s_normal:Stmt:=top 50
abbrev s_line_from:Stmt:=top 59
abbrev s_round_about:Stmt:=top 60
abbrev s_line_through:Stmt:=top 61
abbrev s_circle_about:Stmt:=top 62
abbrev s_curve_plus:Stmt:=top 41
abbrev s_curve_grown:Stmt:=top 43
abbrev s_curve_minus:Stmt:=top 42
abbrev s_product_of_tops:Stmt:=top 47
abbrev s_curve_times:Stmt:=top 48
abbrev s_slope:Stmt:=top 51
abbrev s_surd_times:Stmt:=top 52
abbrev s_surd_power:Stmt:=top 53
abbrev s_surd_over:Stmt:=top 54
abbrev s_powers_over:Stmt:=top 55
abbrev s_side_over:Stmt:=top 56
abbrev s_value_at:Stmt:=top 57
abbrev s_on_curve:Stmt:=top 58
abbrev s__law_cell_at:Stmt:=top 64
abbrev s__law_state:Stmt:=top 65
abbrev s__law_take:Stmt:=top 66
abbrev s__law_divisor:Stmt:=top 67
abbrev s__law_ratio:Stmt:=top 68
abbrev s__law_times:Stmt:=top 71
abbrev s__law_small:Stmt:=top 73
abbrev s__law_open:Stmt:=top 74
abbrev s__law_as_number:Stmt:=top 75
abbrev s__law_both:Stmt:=top 79
abbrev s__law_both_point:Stmt:=top 83
abbrev s__law_as_point:Stmt:=top 84
abbrev s_line_meets:Stmt:=top 38
abbrev s__law_plain:Stmt:=top 81
abbrev s__law_plain_point:Stmt:=top 82
abbrev s__law_above:Stmt:=top 80
abbrev s__law_curve:Stmt:=top 85
abbrev s__law_values:Stmt:=top 86
abbrev s__law_slopes:Stmt:=top 87
abbrev s__law_normals:Stmt:=top 88
abbrev s_law:Stmt:=top 89
theorem bt_abs:bootBuiltins "abs"=some (.builtin "abs"):=by decide +kernel
theorem bt_max:bootBuiltins "max"=some (.builtin "max"):=by decide +kernel
theorem bt_len:bootBuiltins "len"=some (.builtin "len"):=by decide +kernel
theorem bt_dict:bootBuiltins "dict"=some (.type "dict"):=by decide +kernel
theorem bt_sorted:bootBuiltins "sorted"=some (.builtin "sorted"):=by decide +kernel
theorem bt_set:bootBuiltins "set"=some (.type "set"):=by decide +kernel
theorem bt_min:bootBuiltins "min"=some (.builtin "min"):=by decide +kernel
theorem ite_ne {y:Int} {A B:Prop} (h1:y≠0->A) (h2:y=0->B):if (!decide (y=0))=true then A else B:=by
 by_cases h:y=0
 ·rw [if_neg (by simp [h])]; exact h2 h
 ·rw [if_pos (by simp [h])]; exact h1 h
theorem ite_dec {p:Prop} [Decidable p] {A B:Prop} (h1:p->A) (h2:¬ p->B):if decide p=true then A else B:=by
 by_cases h:p
 ·rw [if_pos (by simp [h])]; exact h1 h
 ·rw [if_neg (by simp [h])]; exact h2 h
theorem ite_b {c:Bool} {A B:Prop} (h1:c=true->A) (h2:c=false->B):if c=true then A else B:=by
 cases c
 ·exact iteF (h2 rfl)
 ·exact iteT (h1 rfl)
theorem ite_nb {c:Bool} {A B:Prop} (h1:c=false->A) (h2:c=true->B):if (!c)=true then A else B:=by
 cases c
 ·exact iteT (h1 rfl)
 ·exact iteF (h2 rfl)
theorem atI_mem {ds:List D} {i:Int} (h0:0<=i) (h1:i < (ds.length:Int)):∃ d,L2.atI ds i=some d/\d∈ds:=by
 obtain⟨n,rfl⟩:=Int.eq_ofNat_of_zero_le h0
 have hn:n < ds.length:=by omega
 exact⟨ds[n],atI_nat (by simp [hn]),List.getElem_mem hn⟩
theorem loop_all {ok:DH->Prop} {g:DG} {b:DS} {M:DEnds} {P:D->Prop} (Iv:Lo->DH->Prop) (hok:∀ L S,Iv L S->ok S)
  (hs:∀ d L S N,P d->Iv L S->(∀ L' S',Iv L' S'->N L' S')->g d L S fun L1 S1=>b {M with nx:=N,ct:=N,bk:=M.nx} L1 S1) (hd:∀ L S,Iv L S->M.nx L S):∀ r,(∀ d∈r,P d)->∀ L S,Iv L S->dLoop ok g b M r L S
 | [],_,L,S,i=>⟨hok L S i,hd L S i⟩
 | d::r,hp,L,S,i=>⟨hok L S i,hs d L S _ (hp d List.mem_cons_self) i fun L' S' i'=>loop_all Iv hok hs hd r (fun e he=>hp e (List.mem_cons_of_mem _ he)) L' S' i'⟩
instance {n:Nat} {x:Int}:Decidable (Bt n x):=inferInstanceAs (Decidable (x.natAbs < 2 ^ n))
theorem put_keep {S:DH} {p a:Addr} {o u:DO} (hp:S p=none) (h:S a=some u):put S p o a=some u:=by rw [put_ne (ne_put h hp)]; exact h
theorem few {ds:List D} (h:Nat.ble ds.length sizeLine=true:=by rfl):ds.length<=sizeLine:=Nat.le_of_ble_eq_true h
def SOK (S:DH) (a:Addr):Prop:=∃ n b,S a=some (.lst [.int n,.bl b])/\(b=false->0<=n/\n < 2147483647)
def Dr (a:Addr) (S S':DH):Prop:=SOK S' a/\∀ b o,b≠a->S b=some o->S' b=some o
theorem Dr.trans {a:Addr} {S S1 S2:DH} (h1:Dr a S S1) (h2:Dr a S1 S2):Dr a S S2:=⟨h2.1,fun b o n e=>h2.2 b o n (h1.2 b o n e)⟩
theorem SOK.ne {a p:Addr} {S:DH} (h:SOK S a) (hp:S p=none):p≠a:=by
 obtain⟨n,b,e,_⟩:=h
 intro z
 subst z
 rw [e] at hp
 cases hp
theorem SOK.new {a p:Addr} {S:DH} {o:DO} (h:SOK S a) (hp:S p=none):SOK (put S p o) a:=by
 have z:=h.ne hp
 obtain⟨n,b,e,q⟩:=h
 exact⟨n,b,by rw [put_ne (Ne.symm z)]; exact e,q⟩
theorem Dr.new {a p:Addr} {S:DH} {o:DO} (h:SOK S a) (hp:S p=none):Dr a S (put S p o):=
 ⟨h.new hp,fun b u n e=>by rw [put_ne (ne_put e hp)]; exact e⟩
theorem bt31 {x:Int} (h1:0<=x) (h2:x < 2147483648):Bt 31 x:=by
 unfold Bt
 omega
def N (u a b:Rat):D:=.tup [fr a,fr (ss b*u)]
structure Fd (u:Rat):Prop where
 pos:0 < u
 no:NoSq u
 sz:Sz 600 u
structure Sm (n:Nat) (a b:Rat):Prop where
 a:Sz n a
 b:Sz n b
theorem fr_neg {q:Rat}:D.tup [.int (-q.num),.int (q.den:Int)]=fr (-q):=by
 show _=D.tup [.int (-q).num,.int ((-q).den:Int)]
 rw [Rat.neg_num,Rat.neg_den]
theorem fr_ab {q:Rat}:D.tup [.int (if q.num < 0 then -q.num else q.num),.int (q.den:Int)]=fr (ab q):=by
 show _=D.tup [.int (ab q).num,.int ((ab q).den:Int)]
 rw [ab_num,ab_den]
theorem gcd_bt {n:Nat} {t b:Int} (h:b≠0) (hb:Bt n b):Bt n ((Int.gcd t b:Nat):Int):=by
 refine hb.le ?_
 have h1:Int.gcd t b ∣ b.natAbs:=by
  have:=Int.gcd_dvd_right t b
  exact(by have:=Int.natAbs_dvd_natAbs.mpr this; simpa using this)
 have:=Nat.le_of_dvd (by omega) h1
 omega
def F_common_divisor:DSp:=fun ds S k=>match ds with
 | [.int a,.int b]=>k (.int ((Int.gcd a b:Nat):Int)) S
 | _=>False
theorem sc_common_divisor:FnScope ["one","other","rest"] ["one","other"] (defScope s_common_divisor):=scm
theorem ok_common_divisor (Fn:Fun K "common_divisor" "common_divisor" s_common_divisor f fd) (z_abs:mg "abs"=none):
  FnOk P w K mg base CX0 1 f fd ["one","other"] (spU K F_common_divisor):=by
 refine Fn.okJ sc_common_divisor (fun ds S k h=>?_) (fun cdv A outer s H E hr=>⟨_,(ds_consj (dst_whilej PassesOwn.never (dt_cmpj o_ne (d_varj 1) d_intj (nomark _)) (ds_consj (dst_setj (i:=2) sc_common_divisor.nd (d_opj o_mod (d_varj 0) (d_varj 1))) (ds_consj (dst_setj (i:=0) sc_common_divisor.nd (d_varj 1)) (ds_onej (dst_setj (i:=1) sc_common_divisor.nd (d_varj 2)))))) (ds_onej (dst_retj (d_callBj b_abs rfl z_abs bt_abs (da_consj (d_varj 0) da_nilj))))),fun ds S k h=>?_⟩)
 ·unfold F_common_divisor at h
  split at h
  ·rfl
  ·exact h.elim
 ·unfold F_common_divisor at h
  split at h
  ·rename_i a b
   refine⟨fun m L S'=>S'=S/\∃ x y r,L=[some (.int x),some (.int y),r]/\m=y.natAbs/\Int.gcd x y=Int.gcd a b,⟨_,rfl,a,b,_,rfl,rfl,rfl⟩,?_⟩
   rintro m L S' ⟨rfl,x,y,r,rfl,rfl,e⟩
   refine ite_ne (fun hy=>⟨fun L' S''=>∃ m',m' < y.natAbs/\S''=S'/\∃ x y r,L'=[some (.int x),some (.int y),r]/\m'=y.natAbs/\Int.gcd x y=Int.gcd a b,fun _ _ z=>z,hy,?_⟩) (fun hy=>?_)
   ·exact⟨_,fmod_lt x y hy,rfl,y,x.fmod y,_,rfl,rfl,(gcd_fmod x y).trans e⟩
   ·subst hy
    have e2:=gcd_zero x
    rw [e] at e2
    show k (.int (if x < 0 then -x else x)) S'
    rw [<- e2]
    exact h
  ·exact h.elim
def F_ratio:DSp:=fun ds S k=>match ds with
 | [.int t,.int b]=>b≠0/\Bt 8000 b/\k (fr (Rat.divInt t b)) S
 | _=>False
theorem ratio_go {S:DH} {k:DK} {t b:Int} {q:Rat} (e:Rat.divInt t b=q) (h0:b≠0) (hb:Bt 8000 b) (h:k (fr q) S):F_ratio [.int t,.int b] S k:=by subst e; exact⟨h0,hb,h⟩
theorem sc_ratio:FnScope ["top","bottom","shared"] ["top","bottom"] (defScope s_ratio):=scm
theorem ok_ratio (Fn:Fun K "ratio" "ratio" s_ratio f fd) (c_common_divisor:Own P w K mg base "common_divisor" 1 F_common_divisor):
  FnOk P w K mg base CX0 2 f fd ["top","bottom"] (spU K F_ratio):=by
 refine Fn.okJ sc_ratio (fun ds S k h=>?_) (fun cdv A outer s H E hr=>⟨_,(ds_consj (dst_ifj (dt_cmpj o_eq (d_varj 1) d_intj (nomark _)) (ds_onej dst_neverj) ds_nilj) (ds_consj (dst_setj (i:=2) sc_ratio.nd (dq c_common_divisor hr (da_consj (d_varj 0) (da_consj (d_varj 1) da_nilj)))) (ds_consj (dst_ifj (dt_cmpj o_lt (d_varj 1) d_intj (nomark _)) (ds_onej (dst_setj (i:=2) sc_ratio.nd (d_unj o_neg (d_varj 2)))) ds_nilj) (ds_onej (dst_retj (d_tupj (da_consj (d_opj o_div (d_varj 0) (d_varj 2)) (da_consj (d_opj o_div (d_varj 1) (d_varj 2)) da_nilj)))))))),fun ds S k h=>?_⟩)
 ·unfold F_ratio at h
  split at h
  ·rfl
  ·exact h.elim
 ·unfold F_ratio at h
  split at h
  ·rename_i t b
   obtain⟨h0,hb,q⟩:=h
   have hg:=gcd_bt (t:=t) h0 hb
   have hs:=shr_ne (t:=t) h0
   have e1:=div_num (t:=t) h0
   have e2:=div_den (t:=t) h0
   have qq:k (.tup [.int (t.fdiv (shr t b)),.int (b.fdiv (shr t b))]) S:=by rw [e1,e2]; exact q
   unfold shr at qq hs
   refine ite_dec (fun z=>absurd z h0) (fun _=>ite_dec (fun hl=>?_) (fun hl=>?_))
   ·rw [if_pos hl] at qq hs
    exact⟨dok hs hg.neg,dok hs hg.neg,few,qq⟩
   ·rw [if_neg hl] at qq hs
    exact⟨dok hs hg,dok hs hg,few,qq⟩
  ·exact h.elim
def F_plus:DSp:=fun ds S k=>∃ p q:Rat,ds=[fr p,fr q]/\Sz 4000 p/\Sz 4000 q/\k (fr (p+q)) S
theorem sc_plus:FnScope ["one","other"] ["one","other"] (defScope s_plus):=scm
theorem ok_plus (Fn:Fun K "plus" "plus" s_plus f fd) (c_ratio:Own P w K mg base "ratio" 2 F_ratio):
  FnOk P w K mg base CX0 3 f fd ["one","other"] (spU K F_plus):=by
 refine Fn.okJ sc_plus (fun ds S k h=>?_) (fun cdv A outer s H E hr=>⟨_,(ds_onej (dst_retj (dq c_ratio hr (da_consj (d_opj o_add (d_opj o_mul (d_ixj x_ixE (d_varj 0) d_intj (fun _ _=>rfl)) (d_ixj x_ixE (d_varj 1) d_intj (fun _ _=>rfl))) (d_opj o_mul (d_ixj x_ixE (d_varj 1) d_intj (fun _ _=>rfl)) (d_ixj x_ixE (d_varj 0) d_intj (fun _ _=>rfl)))) (da_consj (d_opj o_mul (d_ixj x_ixE (d_varj 0) d_intj (fun _ _=>rfl)) (d_ixj x_ixE (d_varj 1) d_intj (fun _ _=>rfl))) da_nilj))))),fun ds S k h=>?_⟩)
 ·obtain⟨_,_,rfl,_⟩:=h
  rfl
 ·obtain⟨p,q,rfl,hp,hq,w⟩:=h
  exact⟨mok hp.num hq.den,mok hq.num hp.den,mok hp.den hq.den,ratio_go (add_of p q) (den_mul_ne p q) ((hp.den.mul hq.den).mono (by decide)) w⟩
def F_minus:DSp:=fun ds S k=>∃ p q:Rat,ds=[fr p,fr q]/\Sz 4000 p/\Sz 4000 q/\k (fr (p - q)) S
theorem sc_minus:FnScope ["one","other"] ["one","other"] (defScope s_minus):=scm
theorem ok_minus (Fn:Fun K "minus" "minus" s_minus f fd) (c_ratio:Own P w K mg base "ratio" 2 F_ratio):
  FnOk P w K mg base CX0 3 f fd ["one","other"] (spU K F_minus):=by
 refine Fn.okJ sc_minus (fun ds S k h=>?_) (fun cdv A outer s H E hr=>⟨_,(ds_onej (dst_retj (dq c_ratio hr (da_consj (d_opj o_sub (d_opj o_mul (d_ixj x_ixE (d_varj 0) d_intj (fun _ _=>rfl)) (d_ixj x_ixE (d_varj 1) d_intj (fun _ _=>rfl))) (d_opj o_mul (d_ixj x_ixE (d_varj 1) d_intj (fun _ _=>rfl)) (d_ixj x_ixE (d_varj 0) d_intj (fun _ _=>rfl)))) (da_consj (d_opj o_mul (d_ixj x_ixE (d_varj 0) d_intj (fun _ _=>rfl)) (d_ixj x_ixE (d_varj 1) d_intj (fun _ _=>rfl))) da_nilj))))),fun ds S k h=>?_⟩)
 ·obtain⟨_,_,rfl,_⟩:=h
  rfl
 ·obtain⟨p,q,rfl,hp,hq,w⟩:=h
  exact⟨mok hp.num hq.den,mok hq.num hp.den,mok hp.den hq.den,ratio_go (sub_of p q) (den_mul_ne p q) ((hp.den.mul hq.den).mono (by decide)) w⟩
def F_times:DSp:=fun ds S k=>∃ p q:Rat,ds=[fr p,fr q]/\Sz 4000 p/\Sz 4000 q/\k (fr (p*q)) S
theorem sc_times:FnScope ["one","other"] ["one","other"] (defScope s_times):=scm
theorem ok_times (Fn:Fun K "times" "times" s_times f fd) (c_ratio:Own P w K mg base "ratio" 2 F_ratio):
  FnOk P w K mg base CX0 3 f fd ["one","other"] (spU K F_times):=by
 refine Fn.okJ sc_times (fun ds S k h=>?_) (fun cdv A outer s H E hr=>⟨_,(ds_onej (dst_retj (dq c_ratio hr (da_consj (d_opj o_mul (d_ixj x_ixE (d_varj 0) d_intj (fun _ _=>rfl)) (d_ixj x_ixE (d_varj 1) d_intj (fun _ _=>rfl))) (da_consj (d_opj o_mul (d_ixj x_ixE (d_varj 0) d_intj (fun _ _=>rfl)) (d_ixj x_ixE (d_varj 1) d_intj (fun _ _=>rfl))) da_nilj))))),fun ds S k h=>?_⟩)
 ·obtain⟨_,_,rfl,_⟩:=h
  rfl
 ·obtain⟨p,q,rfl,hp,hq,w⟩:=h
  exact⟨mok hp.num hq.num,mok hp.den hq.den,ratio_go (mul_of p q) (den_mul_ne p q) ((hp.den.mul hq.den).mono (by decide)) w⟩
def F_over:DSp:=fun ds S k=>∃ p q:Rat,ds=[fr p,fr q]/\q≠0/\Sz 4000 p/\Sz 4000 q/\k (fr (p / q)) S
theorem sc_over:FnScope ["one","other"] ["one","other"] (defScope s_over):=scm
theorem ok_over (Fn:Fun K "over" "over" s_over f fd) (c_ratio:Own P w K mg base "ratio" 2 F_ratio):
  FnOk P w K mg base CX0 3 f fd ["one","other"] (spU K F_over):=by
 refine Fn.okJ sc_over (fun ds S k h=>?_) (fun cdv A outer s H E hr=>⟨_,(ds_onej (dst_retj (dq c_ratio hr (da_consj (d_opj o_mul (d_ixj x_ixE (d_varj 0) d_intj (fun _ _=>rfl)) (d_ixj x_ixE (d_varj 1) d_intj (fun _ _=>rfl))) (da_consj (d_opj o_mul (d_ixj x_ixE (d_varj 0) d_intj (fun _ _=>rfl)) (d_ixj x_ixE (d_varj 1) d_intj (fun _ _=>rfl))) da_nilj))))),fun ds S k h=>?_⟩)
 ·obtain⟨_,_,rfl,_⟩:=h
  rfl
 ·obtain⟨p,q,rfl,h0,hp,hq,w⟩:=h
  exact⟨mok hp.num hq.den,mok hp.den hq.num,ratio_go (div_of p q) (Int.mul_ne_zero (den_ne p) (num_ne h0)) ((hp.den.mul hq.num).mono (by decide)) w⟩
def F_negative:DSp:=fun ds S k=>∃ q:Rat,ds=[fr q]/\k (fr (-q)) S
theorem sc_negative:FnScope ["one"] ["one"] (defScope s_negative):=scm
theorem ok_negative (Fn:Fun K "negative" "negative" s_negative f fd):
  FnOk P w K mg base CX0 1 f fd ["one"] (spU K F_negative):=by
 refine Fn.okJ sc_negative (fun ds S k h=>?_) (fun cdv A outer s H E hr=>⟨_,(ds_onej (dst_retj (d_tupj (da_consj (d_unj o_neg (d_ixj x_ixE (d_varj 0) d_intj (fun _ _=>rfl))) (da_consj (d_ixj x_ixE (d_varj 0) d_intj (fun _ _=>rfl)) da_nilj))))),fun ds S k h=>?_⟩)
 ·obtain⟨_,rfl,_⟩:=h
  rfl
 ·obtain⟨q,rfl,w⟩:=h
  rw [<- fr_neg] at w
  exact⟨few,w⟩
def F_without_sign:DSp:=fun ds S k=>∃ q:Rat,ds=[fr q]/\k (fr (ab q)) S
theorem sc_without_sign:FnScope ["one"] ["one"] (defScope s_without_sign):=scm
theorem ok_without_sign (Fn:Fun K "without_sign" "without_sign" s_without_sign f fd) (z_abs:mg "abs"=none):
  FnOk P w K mg base CX0 1 f fd ["one"] (spU K F_without_sign):=by
 refine Fn.okJ sc_without_sign (fun ds S k h=>?_) (fun cdv A outer s H E hr=>⟨_,(ds_onej (dst_retj (d_tupj (da_consj (d_callBj b_abs rfl z_abs bt_abs (da_consj (d_ixj x_ixE (d_varj 0) d_intj (fun _ _=>rfl)) da_nilj)) (da_consj (d_ixj x_ixE (d_varj 0) d_intj (fun _ _=>rfl)) da_nilj))))),fun ds S k h=>?_⟩)
 ·obtain⟨_,rfl,_⟩:=h
  rfl
 ·obtain⟨q,rfl,w⟩:=h
  rw [<- fr_ab] at w
  exact⟨few,w⟩
set_option maxHeartbeats 4000000
def F_whole_root:DSp:=fun ds S k=>∃ n:Int,ds=[.int n]/\0<=n/\Bt 4000 n/\k (.int (isq n)) S
theorem sc_whole_root:FnScope ["number","guess","better"] ["number"] (defScope s_whole_root):=scm
theorem ok_whole_root (Fn:Fun K "whole_root" "whole_root" s_whole_root f fd):
  FnOk P w K mg base CX0 1 f fd ["number"] (spU K F_whole_root):=by
 refine Fn.okJ sc_whole_root (fun ds S k h=>?_) (fun cdv A outer s H E hr=>⟨_,(ds_consj (dst_ifj (dt_cmpj o_eq (d_varj 0) d_intj (nomark _)) (ds_onej (dst_retj d_intj)) ds_nilj) (ds_consj (dst_setj (i:=1) sc_whole_root.nd (d_opj o_shl d_intj (d_opj o_div (d_opj o_add (d_bitsj (d_varj 0)) d_intj) d_intj))) (ds_consj (dst_setj (i:=2) sc_whole_root.nd (d_opj o_div (d_opj o_add (d_varj 1) (d_opj o_div (d_varj 0) (d_varj 1))) d_intj)) (ds_consj (dst_whilej PassesOwn.never (dt_cmpj o_lt (d_varj 2) (d_varj 1) (nomark _)) (ds_consj (dst_setj (i:=1) sc_whole_root.nd (d_varj 2)) (ds_onej (dst_setj (i:=2) sc_whole_root.nd (d_opj o_div (d_opj o_add (d_varj 1) (d_opj o_div (d_varj 0) (d_varj 1))) d_intj))))) (ds_onej (dst_retj (d_varj 1))))))),fun ds S k h=>?_⟩)
 ·obtain⟨_,rfl,_⟩:=h
  rfl
 ·obtain⟨n,rfl,h0,hb,q⟩:=h
  refine ite_dec (fun e=>?_) (fun e=>?_)
  ·subst e
   rw [isq_zero] at q
   exact q
  ·have hbits:Builtin.Int.intBits n<=4000:=intBits_le_iff.mpr hb
   have h1:1<=n:=by omega
   have hn:n.natAbs < 2 ^ Builtin.Int.intBits n:=intBits_le_iff.mp (Nat.le_refl _)
   have G:=Gd.first h1 hn hbits
   have hc:CPow 1 ((((Builtin.Int.intBits n:Nat):Int)+1).fdiv 2):=by
    have e2:=fdiv2 (((Builtin.Int.intBits n:Nat):Int)+1) (b:=2) (by decide)
    exact⟨by rw [e2]; omega,by rw [e2]; omega,by decide⟩
   have two:∀ x:Int,CDivB x 2:=fun x=>⟨by decide,by decide +kernel⟩
   have dv:∀ g:Int,Gd n g->CDivB n g:=fun g G=>dok (by have:=G.pos; omega) G.bt
   refine⟨two _,hc,dv _ G,two _,fun m L S'=>S'=S/\∃ g,L=[some (.int n),some (.int g),some (.int ((g+n.fdiv g).fdiv 2))]/\m=g.toNat/\Gd n g,⟨_,rfl,_,rfl,rfl,G⟩,?_⟩
   rintro m L S' ⟨rfl,g,rfl,rfl,G⟩
   refine ite_dec (fun hl=>⟨fun L' S''=>∃ m',m' < g.toNat/\S''=S'/\∃ g,L'=[some (.int n),some (.int g),some (.int ((g+n.fdiv g).fdiv 2))]/\m'=g.toNat/\Gd n g,fun _ _ z=>z,dv _ (G.next h1 hl),two _,?_⟩) (fun hl=>?_)
   ·have G2:=G.next h1 hl
    exact⟨_,by have:=G2.pos; have:=G.pos; omega,rfl,_,rfl,rfl,G2⟩
   ·rw [<- G.last h1 hl] at q
    exact q
def sqD (n:Int):D:=if isq n*isq n=n then .int (isq n) else .non
def F_square_root_or_none:DSp:=fun ds S k=>∃ n:Int,ds=[.int n]/\0<=n/\Bt 4000 n/\k (sqD n) S
theorem sc_square_root_or_none:FnScope ["number","root"] ["number"] (defScope s_square_root_or_none):=scm
theorem ok_square_root_or_none (Fn:Fun K "square_root_or_none" "square_root_or_none" s_square_root_or_none f fd) (c_whole_root:Own P w K mg base "whole_root" 1 F_whole_root):
  FnOk P w K mg base CX0 2 f fd ["number"] (spU K F_square_root_or_none):=by
 refine Fn.okJ sc_square_root_or_none (fun ds S k h=>?_) (fun cdv A outer s H E hr=>⟨_,(ds_consj (dst_setj (i:=1) sc_square_root_or_none.nd (dq c_whole_root hr (da_consj (d_varj 0) da_nilj))) (ds_onej (dst_retj (d_ifj (dt_cmpj o_eq (d_opj o_mul (d_varj 1) (d_varj 1)) (d_varj 0) (nomark _)) (d_varj 1) d_nonj)))),fun ds S k h=>?_⟩)
 ·obtain⟨_,rfl,_⟩:=h
  rfl
 ·obtain⟨n,rfl,h0,hb,q⟩:=h
  have b2:=isq_bt h0 hb
  refine⟨n,rfl,h0,hb,mok b2 b2,ite_dec (fun e=>?_) (fun e=>?_)⟩
  ·rw [sqD,if_pos e] at q
   exact q
  ·rw [sqD,if_neg e] at q
   exact q
def F_root_in:DSp:=fun ds S k=>∃ q:Rat,ds=[fr q]/\0<=q/\Sz 4000 q/\(∀ r,0<=r->r*r=q->k (fr r) S)/\(NoSq q->k .non S)
theorem sc_root_in:FnScope ["one","top","bottom"] ["one"] (defScope s_root_in):=scm
theorem ok_root_in (Fn:Fun K "root_in" "root_in" s_root_in f fd) (c_square_root_or_none:Own P w K mg base "square_root_or_none" 2 F_square_root_or_none):
  FnOk P w K mg base CX0 3 f fd ["one"] (spU K F_root_in):=by
 refine Fn.okJ sc_root_in (fun ds S k h=>?_) (fun cdv A outer s H E hr=>⟨_,(ds_consj (dst_setj (i:=1) sc_root_in.nd (dq c_square_root_or_none hr (da_consj (d_ixj x_ixE (d_varj 0) d_intj (fun _ _=>rfl)) da_nilj))) (ds_consj (dst_ifj (dt_cmpj o_is (d_varj 1) d_nonj (nomark _)) (ds_onej (dst_retj d_nonj)) ds_nilj) (ds_consj (dst_setj (i:=2) sc_root_in.nd (dq c_square_root_or_none hr (da_consj (d_ixj x_ixE (d_varj 0) d_intj (fun _ _=>rfl)) da_nilj))) (ds_consj (dst_ifj (dt_cmpj o_is (d_varj 2) d_nonj (nomark _)) (ds_onej (dst_retj d_nonj)) ds_nilj) (ds_onej (dst_retj (d_tupj (da_consj (d_varj 1) (da_consj (d_varj 2) da_nilj))))))))),fun ds S k h=>?_⟩)
 ·obtain⟨_,rfl,_⟩:=h
  rfl
 ·obtain⟨q,rfl,h0,hs,h1,h2⟩:=h
  have n0:=num_nn h0
  by_cases e:isq q.num*isq q.num=q.num
  ·by_cases e2:isq (q.den:Int)*isq (q.den:Int)=(q.den:Int)
   ·obtain⟨r,r0,rr⟩:=sq_of_root h0 e e2
    obtain⟨e3,e4⟩:=root_of_sq r0 rr
    have w:=h1 r r0 rr
    refine⟨q.num,rfl,n0,hs.num,?_⟩
    rw [show sqD q.num=.int (isq q.num) from if_pos e]
    refine⟨(q.den:Int),rfl,by omega,hs.den,?_⟩
    rw [show sqD (q.den:Int)=.int (isq (q.den:Int)) from if_pos e2,e3,e4]
    exact⟨few,w⟩
   ·refine⟨q.num,rfl,n0,hs.num,?_⟩
    rw [show sqD q.num=.int (isq q.num) from if_pos e]
    refine⟨(q.den:Int),rfl,by omega,hs.den,?_⟩
    rw [show sqD (q.den:Int)=.non from if_neg e2]
    refine h2 fun r rr=>e2 ?_
    have:=congrArg (fun z:Rat=>(z.den:Int)) rr
    simp only [sq_den,Int.natCast_mul] at this
    exact isq_sq this
  ·refine⟨q.num,rfl,n0,hs.num,?_⟩
   rw [show sqD q.num=.non from if_neg e]
   refine h2 fun r rr=>e ?_
   have:=congrArg Rat.num rr
   rw [sq_num] at this
   exact isq_sq this
def F_is_plain:DSp:=fun ds S k=>∃ x q,ds=[.tup [x,fr q]]/\k (.bl (decide (q=0))) S
theorem sc_is_plain:FnScope ["one"] ["one"] (defScope s_is_plain):=scm
theorem ok_is_plain (Fn:Fun K "is_plain" "is_plain" s_is_plain f fd):
  FnOk P w K mg base CX0 1 f fd ["one"] (spU K F_is_plain):=by
 refine Fn.okJ sc_is_plain (fun ds S k h=>?_) (fun cdv A outer s H E hr=>⟨_,(ds_onej (dst_retj (d_cmpj o_eq (d_ixj x_ixE (d_ixj x_ixE (d_varj 0) d_intj (fun _ _=>rfl)) d_intj (fun _ _=>rfl)) d_intj (nomark _)))),fun ds S k h=>?_⟩)
 ·obtain⟨_,_,rfl,_⟩:=h
  rfl
 ·obtain⟨x,q,rfl,w⟩:=h
  have e:decide (q.num=0)=decide (q=0):=by
   by_cases h0:q=0
   ·subst h0; rfl
   ·rw [decide_eq_false h0,decide_eq_false (num_ne h0)]
  rw [<- e] at w
  exact w
def F_with_sign_of:DSp:=fun ds S k=>∃ p q:Rat,ds=[fr p,fr q]/\k (fr (sg p q)) S
theorem sc_with_sign_of:FnScope ["one","other"] ["one","other"] (defScope s_with_sign_of):=scm
theorem ok_with_sign_of (Fn:Fun K "with_sign_of" "with_sign_of" s_with_sign_of f fd) (c_negative:Own P w K mg base "negative" 1 F_negative):
  FnOk P w K mg base CX0 2 f fd ["one","other"] (spU K F_with_sign_of):=by
 refine Fn.okJ sc_with_sign_of (fun ds S k h=>?_) (fun cdv A outer s H E hr=>⟨_,(ds_onej (dst_retj (d_ifj (dt_cmpj o_lt (d_ixj x_ixE (d_varj 1) d_intj (fun _ _=>rfl)) d_intj (nomark _)) (dq c_negative hr (da_consj (d_varj 0) da_nilj)) (d_varj 0)))),fun ds S k h=>?_⟩)
 ·obtain⟨_,_,rfl,_⟩:=h
  rfl
 ·obtain⟨p,q,rfl,w⟩:=h
  unfold sg at w
  refine ite_dec (fun hn=>?_) (fun hn=>?_)
  ·rw [if_pos ((num_neg_iff q).mp hn)] at w
   exact⟨p,rfl,w⟩
  ·rw [if_neg (fun z=>hn ((num_neg_iff q).mpr z))] at w
   exact w
set_option maxHeartbeats 4000000
theorem nat_le_sq (n:Nat):n<=n*n:=by
 rcases Nat.eq_zero_or_pos n with h | h
 ·subst h; decide
 ·exact Nat.le_mul_of_pos_left n h
theorem _root_.HM.Sz.root {n:Nat} {q r:Rat} (h:Sz n q) (e:r*r=q):Sz n r:=by
 subst e
 refine⟨h.num.le ?_,h.den.le ?_⟩
 ·rw [sq_num,Int.natAbs_mul]
  exact nat_le_sq _
 ·rw [sq_den]
  have:=nat_le_sq r.den
  omega
open Classical in
noncomputable def mkD (p q:Rat):D:=if h:∃ r,0<=r/\r*r=ab q then .tup [fr (p+sg h.choose q),fr 0] else .tup [fr p,fr q]
theorem root_uniq {r r' q:Rat} (h0:0<=r) (h1:0<=r') (e:r*r=q) (e':r'*r'=q):r=r':=by
 obtain⟨a1,a2⟩:=root_of_sq h0 e
 obtain⟨b1,b2⟩:=root_of_sq h1 e'
 refine Rat.ext (a1.symm.trans b1) ?_
 have:=a2.symm.trans b2
 omega
theorem mkD_root {p q r:Rat} (r0:0<=r) (rr:r*r=ab q):mkD p q=.tup [fr (p+sg r q),fr 0]:=by
 have h:∃ r,0<=r/\r*r=ab q:=⟨r,r0,rr⟩
 unfold mkD
 rw [dif_pos h,root_uniq h.choose_spec.1 r0 h.choose_spec.2 rr]
theorem mkD_no {p q:Rat} (no:NoSq (ab q)):mkD p q=.tup [fr p,fr q]:=by
 unfold mkD
 rw [dif_neg fun⟨r,_,e⟩=>no r e]
theorem mkD_zero {p:Rat}:mkD p 0=.tup [fr p,fr 0]:=by
 rw [mkD_root (r:=0) (by decide) (by unfold ab; grind),show p+sg 0 0=p by unfold sg; grind]
def F_made:DSp:=fun ds S k=>∃ p q:Rat,ds=[fr p,fr q]/\Sz 1000 p/\Sz 1000 q/\k (mkD p q) S
theorem sc_made:FnScope ["part","under","root"] ["part","under"] (defScope s_made):=scm
theorem ok_made (Fn:Fun K "made" "made" s_made f fd) (c_root_in:Own P w K mg base "root_in" 3 F_root_in) (c_without_sign:Own P w K mg base "without_sign" 1 F_without_sign) (c_plus:Own P w K mg base "plus" 3 F_plus) (c_with_sign_of:Own P w K mg base "with_sign_of" 2 F_with_sign_of) (g_NOUGHT:GTup K mg "NOUGHT" [0,1]):
  FnOk P w K mg base CX0 4 f fd ["part","under"] (spU K F_made):=by
 refine Fn.okJ sc_made (fun ds S k h=>?_) (fun cdv A outer s H E hr=>⟨_,(ds_consj (dst_setj (i:=2) sc_made.nd (dq c_root_in hr (da_consj (dq c_without_sign hr (da_consj (d_varj 1) da_nilj)) da_nilj))) (ds_consj (dst_ifj (dt_cmpj o_is (d_varj 2) d_nonj (nomark _)) (ds_onej (dst_retj (d_tupj (da_consj (d_varj 0) (da_consj (d_varj 1) da_nilj))))) ds_nilj) (ds_onej (dst_retj (d_tupj (da_consj (dq c_plus hr (da_consj (d_varj 0) (da_consj (dq c_with_sign_of hr (da_consj (d_varj 2) (da_consj (d_varj 1) da_nilj))) da_nilj))) (da_consj (d_gtup g_NOUGHT rfl) da_nilj))))))),fun ds S k h=>?_⟩)
 ·obtain⟨_,_,rfl,_⟩:=h
  rfl
 ·obtain⟨p,q,rfl,hp,hq,w⟩:=h
  refine⟨q,rfl,ab q,rfl,ab_nn q,hq.ab.mono (by decide),fun r r0 rr=>?_,fun no=>⟨few,?_⟩⟩
  ·rw [mkD_root r0 rr] at w
   exact⟨r,q,rfl,p,sg r q,rfl,hp.mono (by decide),((hq.ab.root rr).sg).mono (by decide),few,w⟩
  ·rw [mkD_no no] at w
   exact w
def F_field_base:DSp:=fun ds S k=>∃ u a b c d:Rat,ds=[N u a b,N u c d]/\0 < u/\k (fr (pick b d*pick b d*u)) S
theorem sc_field_base:FnScope ["one","other"] ["one","other"] (defScope s_field_base):=scm
theorem ok_field_base (Fn:Fun K "field_base" "field_base" s_field_base f fd) (c_without_sign:Own P w K mg base "without_sign" 1 F_without_sign) (c_is_plain:Own P w K mg base "is_plain" 1 F_is_plain):
  FnOk P w K mg base CX0 2 f fd ["one","other"] (spU K F_field_base):=by
 refine Fn.okJ sc_field_base (fun ds S k h=>?_) (fun cdv A outer s H E hr=>⟨_,(ds_onej (dst_retj (dq c_without_sign hr (da_consj (d_ifj (dt_valj (dq c_is_plain hr (da_consj (d_varj 0) da_nilj))) (d_ixj x_ixE (d_varj 1) d_intj (fun _ _=>rfl)) (d_ixj x_ixE (d_varj 0) d_intj (fun _ _=>rfl))) da_nilj)))),fun ds S k h=>?_⟩)
 ·obtain⟨_,_,_,_,_,rfl,_⟩:=h
  rfl
 ·obtain⟨u,a,b,c,d,rfl,u0,w⟩:=h
  refine⟨fr a,ss b*u,rfl,ite_dec (fun e=>⟨_,rfl,?_⟩) (fun e=>⟨_,rfl,?_⟩)⟩
  ·have e2:b=0:=(ss_zero u0).mp e
   rw [show pick b d=d from if_pos e2] at w
   rw [ab_ss u0]
   exact w
  ·have e2:¬ b=0:=fun z=>e ((ss_zero u0).mpr z)
   rw [show pick b d=b from if_neg e2] at w
   rw [ab_ss u0]
   exact w
def F_share:DSp:=fun ds S k=>∃ u a b e:Rat,ds=[N u a b,fr (e*e*u)]/\0 < u/\(b=0\/e≠0)/\Sz 1000 b/\Sz 1000 e/\Sz 600 u/\k (fr (b / ab e)) S
theorem sc_share:FnScope ["one","base","root"] ["one","base"] (defScope s_share):=scm
theorem ok_share (Fn:Fun K "share" "share" s_share f fd) (c_is_plain:Own P w K mg base "is_plain" 1 F_is_plain) (c_root_in:Own P w K mg base "root_in" 3 F_root_in) (c_over:Own P w K mg base "over" 3 F_over) (c_without_sign:Own P w K mg base "without_sign" 1 F_without_sign) (c_with_sign_of:Own P w K mg base "with_sign_of" 2 F_with_sign_of) (g_NOUGHT:GTup K mg "NOUGHT" [0,1]):
  FnOk P w K mg base CX0 4 f fd ["one","base"] (spU K F_share):=by
 refine Fn.okJ sc_share (fun ds S k h=>?_) (fun cdv A outer s H E hr=>⟨_,(ds_consj (dst_ifj (dt_valj (dq c_is_plain hr (da_consj (d_varj 0) da_nilj))) (ds_onej (dst_retj (d_gtup g_NOUGHT rfl))) ds_nilj) (ds_consj (dst_setj (i:=2) sc_share.nd (dq c_root_in hr (da_consj (dq c_over hr (da_consj (dq c_without_sign hr (da_consj (d_ixj x_ixE (d_varj 0) d_intj (fun _ _=>rfl)) da_nilj)) (da_consj (d_varj 1) da_nilj))) da_nilj))) (ds_consj (dst_ifj (dt_cmpj o_is (d_varj 2) d_nonj (nomark _)) (ds_onej dst_neverj) ds_nilj) (ds_onej (dst_retj (dq c_with_sign_of hr (da_consj (d_varj 2) (da_consj (d_ixj x_ixE (d_varj 0) d_intj (fun _ _=>rfl)) da_nilj)))))))),fun ds S k h=>?_⟩)
 ·obtain⟨_,_,_,_,rfl,_⟩:=h
  rfl
 ·obtain⟨u,a,b,e,rfl,u0,hbe,hb,he,hu,w⟩:=h
  refine⟨fr a,ss b*u,rfl,ite_dec (fun z=>?_) (fun z=>?_)⟩
  ·have e2:b=0:=(ss_zero u0).mp z
   subst e2
   rw [show (0:Rat) / ab e=0 by grind] at w
   exact w
  ·have e2:¬ b=0:=fun q=>z ((ss_zero u0).mpr q)
   have e0:e≠0:=hbe.resolve_left e2
   have ne:e*e*u≠0:=by grind
   have ea:ab (ss b*u)=b*b*u:=ab_ss u0
   have s1:Sz 2600 (ab (ss b*u)):=(hb.ss.mul hu).ab
   have s2:Sz 2600 (e*e*u):=(he.mul he).mul hu
   have nn:0<=ab (ss b*u) / (e*e*u):=div_nn (ab_nn _) (Rat.mul_nonneg (rat_sq_nonneg e) (Rat.le_of_lt u0))
   have ne2:ab e≠0:=fun z=>e0 (by unfold ab at z; split at z <;> grind)
   have s3:Sz 4000 (ab (ss b*u) / (e*e*u)):=by
    rw [ea,<- share_sq u0 e0]
    exact(hb.ab.div he.ab ne2).mul (hb.ab.div he.ab ne2)
   refine⟨_,rfl,ab (ss b*u),e*e*u,rfl,ne,s1.mono (by decide),s2.mono (by decide),_,rfl,nn,s3,fun r r0 rr=>?_,fun no=>?_⟩
   ·rw [ea] at rr
    have er:=share_root u0 e0 r0 rr
    subst er
    refine⟨_,ss b*u,rfl,?_⟩
    rw [share_sg u0]
    exact w
   ·rw [ea] at no
    exact absurd (share_sq u0 e0) (no _)
def F_joined:DSp:=fun ds S k=>∃ a p c:Rat,ds=[fr a,fr p,fr c]/\Sz 2000 p/\Sz 4000 c/\k (.tup [fr a,fr (ss p*c)]) S
theorem sc_joined:FnScope ["part","portion","base","under"] ["part","portion","base"] (defScope s_joined):=scm
theorem ok_joined (Fn:Fun K "joined" "joined" s_joined f fd) (c_times:Own P w K mg base "times" 3 F_times) (c_with_sign_of:Own P w K mg base "with_sign_of" 2 F_with_sign_of):
  FnOk P w K mg base CX0 4 f fd ["part","portion","base"] (spU K F_joined):=by
 refine Fn.okJ sc_joined (fun ds S k h=>?_) (fun cdv A outer s H E hr=>⟨_,(ds_consj (dst_setj (i:=3) sc_joined.nd (dq c_times hr (da_consj (dq c_times hr (da_consj (d_varj 1) (da_consj (d_varj 1) da_nilj))) (da_consj (d_varj 2) da_nilj)))) (ds_onej (dst_retj (d_tupj (da_consj (d_varj 0) (da_consj (dq c_with_sign_of hr (da_consj (d_varj 3) (da_consj (d_varj 1) da_nilj))) da_nilj)))))),fun ds S k h=>?_⟩)
 ·obtain⟨_,_,_,rfl,_⟩:=h
  rfl
 ·obtain⟨a,p,c,rfl,hp,hc,w⟩:=h
  refine⟨p,p,rfl,hp.mono (by decide),hp.mono (by decide),p*p,c,rfl,(hp.mul hp).mono (by decide),hc.mono (by decide),p*p*c,p,rfl,few,?_⟩
  rw [sg_ss]
  exact w
def bs (u b d:Rat):Rat:=pick b d*pick b d*u
theorem bs_sz {n:Nat} {u b d:Rat} (hu:Fd u) (hb:Sz n b) (hd:Sz n d):Sz (n+n+600) (bs u b d):=((hb.pick hd).mul (hb.pick hd)).mul hu.sz
theorem sh_sz {n:Nat} {b e:Rat} (hb:Sz n b) (he:Sz n e):Sz (n+n+1) (b / ab e):=hb.div' he.ab
theorem add_over {a b c:Rat}:a / c+b / c=(a+b) / c:=by
 rw [Rat.div_def,Rat.div_def,Rat.div_def]; grind
def F_root_plus:DSp:=fun ds S k=>∃ u a b c d:Rat,ds=[N u a b,N u c d]/\Fd u/\Sz 4000 a/\Sz 4000 c/\Sz 1000 b/\Sz 1000 d/\Sz 900 (b+d)/\k (N u (a+c) (b+d)) S
theorem sc_root_plus:FnScope ["one","other","base","portion"] ["one","other"] (defScope s_root_plus):=scm
theorem ok_root_plus (Fn:Fun K "root_plus" "root_plus" s_root_plus f fd) (c_field_base:Own P w K mg base "field_base" 2 F_field_base) (c_plus:Own P w K mg base "plus" 3 F_plus) (c_share:Own P w K mg base "share" 4 F_share) (c_joined:Own P w K mg base "joined" 4 F_joined):
  FnOk P w K mg base CX0 5 f fd ["one","other"] (spU K F_root_plus):=by
 refine Fn.okJ sc_root_plus (fun ds S k h=>?_) (fun cdv A outer s H E hr=>⟨_,(ds_consj (dst_setj (i:=2) sc_root_plus.nd (dq c_field_base hr (da_consj (d_varj 0) (da_consj (d_varj 1) da_nilj)))) (ds_consj (dst_setj (i:=3) sc_root_plus.nd (dq c_plus hr (da_consj (dq c_share hr (da_consj (d_varj 0) (da_consj (d_varj 2) da_nilj))) (da_consj (dq c_share hr (da_consj (d_varj 1) (da_consj (d_varj 2) da_nilj))) da_nilj)))) (ds_onej (dst_retj (dq c_joined hr (da_consj (dq c_plus hr (da_consj (d_ixj x_ixE (d_varj 0) d_intj (fun _ _=>rfl)) (da_consj (d_ixj x_ixE (d_varj 1) d_intj (fun _ _=>rfl)) da_nilj))) (da_consj (d_varj 3) (da_consj (d_varj 2) da_nilj)))))))),fun ds S k h=>?_⟩)
 ·obtain⟨_,_,_,_,_,rfl,_⟩:=h
  rfl
 ·obtain⟨u,a,b,c,d,rfl,hu,ha,hc,hb,hd,hbd,w⟩:=h
  have hp:=hb.pick hd
  have s1:=sh_sz hb hp
  have s2:=sh_sz hd hp
  have s3:Sz 1901 (b / ab (pick b d)+d / ab (pick b d)):=by rw [add_over]; exact hbd.div' hp.ab
  refine⟨u,a,b,c,d,rfl,hu.pos,u,a,b,pick b d,rfl,hu.pos,pick_b,hb,hp,hu.sz,u,c,d,pick b d,rfl,hu.pos,pick_d,hd,hp,hu.sz,_,_,rfl,s1.mono (by decide),s2.mono (by decide),?_⟩
  refine⟨a,c,rfl,ha,hc,_,_,_,rfl,s3.mono (by decide),(bs_sz hu hb hd).mono (by decide),?_⟩
  rw [plus_join]
  exact w
def F_root_times:DSp:=fun ds S k=>∃ u a b c d:Rat,ds=[N u a b,N u c d]/\Fd u/\Sm 300 a b/\Sm 300 c d/\k (N u (a*c+b*d*u) (a*d+b*c)) S
theorem sc_root_times:FnScope ["one","other","base","mine","theirs","part","portion"] ["one","other"] (defScope s_root_times):=scm
theorem ok_root_times (Fn:Fun K "root_times" "root_times" s_root_times f fd) (c_field_base:Own P w K mg base "field_base" 2 F_field_base) (c_share:Own P w K mg base "share" 4 F_share) (c_plus:Own P w K mg base "plus" 3 F_plus) (c_times:Own P w K mg base "times" 3 F_times) (c_joined:Own P w K mg base "joined" 4 F_joined):
  FnOk P w K mg base CX0 5 f fd ["one","other"] (spU K F_root_times):=by
 refine Fn.okJ sc_root_times (fun ds S k h=>?_) (fun cdv A outer s H E hr=>⟨_,(ds_consj (dst_setj (i:=2) sc_root_times.nd (dq c_field_base hr (da_consj (d_varj 0) (da_consj (d_varj 1) da_nilj)))) (ds_consj (dst_setj (i:=3) sc_root_times.nd (dq c_share hr (da_consj (d_varj 0) (da_consj (d_varj 2) da_nilj)))) (ds_consj (dst_setj (i:=4) sc_root_times.nd (dq c_share hr (da_consj (d_varj 1) (da_consj (d_varj 2) da_nilj)))) (ds_consj (dst_setj (i:=5) sc_root_times.nd (dq c_plus hr (da_consj (dq c_times hr (da_consj (d_ixj x_ixE (d_varj 0) d_intj (fun _ _=>rfl)) (da_consj (d_ixj x_ixE (d_varj 1) d_intj (fun _ _=>rfl)) da_nilj))) (da_consj (dq c_times hr (da_consj (dq c_times hr (da_consj (d_varj 3) (da_consj (d_varj 4) da_nilj))) (da_consj (d_varj 2) da_nilj))) da_nilj)))) (ds_consj (dst_setj (i:=6) sc_root_times.nd (dq c_plus hr (da_consj (dq c_times hr (da_consj (d_ixj x_ixE (d_varj 0) d_intj (fun _ _=>rfl)) (da_consj (d_varj 4) da_nilj))) (da_consj (dq c_times hr (da_consj (d_ixj x_ixE (d_varj 1) d_intj (fun _ _=>rfl)) (da_consj (d_varj 3) da_nilj))) da_nilj)))) (ds_onej (dst_retj (dq c_joined hr (da_consj (d_varj 5) (da_consj (d_varj 6) (da_consj (d_varj 2) da_nilj))))))))))),fun ds S k h=>?_⟩)
 ·obtain⟨_,_,_,_,_,rfl,_⟩:=h
  rfl
 ·obtain⟨u,a,b,c,d,rfl,hu,h1,h2,w⟩:=h
  have hp:=h1.b.pick h2.b
  have s1:=sh_sz h1.b hp
  have s2:=sh_sz h2.b hp
  have s3:=bs_sz hu h1.b h2.b
  refine⟨u,a,b,c,d,rfl,hu.pos,u,a,b,pick b d,rfl,hu.pos,pick_b,h1.b.mono (by decide),hp.mono (by decide),hu.sz,u,c,d,pick b d,rfl,hu.pos,pick_d,h2.b.mono (by decide),hp.mono (by decide),hu.sz,?_⟩
  refine⟨a,c,rfl,h1.a.mono (by decide),h2.a.mono (by decide),_,_,rfl,s1.mono (by decide),s2.mono (by decide),_,_,rfl,(s1.mul s2).mono (by decide),s3.mono (by decide),_,_,rfl,(h1.a.mul h2.a).mono (by decide),((s1.mul s2).mul s3).mono (by decide),?_⟩
  refine⟨a,_,rfl,h1.a.mono (by decide),s2.mono (by decide),c,_,rfl,h2.a.mono (by decide),s1.mono (by decide),_,_,rfl,(h1.a.mul s2).mono (by decide),(h2.a.mul s1).mono (by decide),?_⟩
  refine⟨_,_,_,rfl,((h1.a.mul s2).add (h2.a.mul s1)).mono (by decide),s3.mono (by decide),?_⟩
  rw [times_join,times_part]
  exact w
set_option maxHeartbeats 4000000
def Ext (S S':DH):Prop:=∀ b o,S b=some o->S' b=some o
theorem Ext.refl (S:DH):Ext S S:=fun _ _ h=>h
theorem Ext.trans {S S1 S2:DH} (a:Ext S S1) (b:Ext S1 S2):Ext S S2:=fun c o h=>b c o (a c o h)
theorem Ext.new {S:DH} {p:Addr} {o:DO} (h:S p=none):Ext S (put S p o):=fun b u e=>by
 unfold put
 split
 ·rename_i z; subst z; rw [h] at e; cases e
 ·exact e
theorem Ext.put {S S1:DH} {p:Addr} {o:DO} (e:Ext S S1) (h:S p=none):Ext S (put S1 p o):=fun b u z=>by
 unfold DL.put
 split
 ·rename_i y; subst y; rw [h] at z; cases z
 ·exact e b u z
theorem Ext.none {S S1:DH} {p:Addr} (e:Ext S S1) (h:S1 p=none):S p=none:=by
 cases q:S p with
 | none=>rfl
 | some o=>rw [e p o q] at h; cases h
theorem plain_as {u r:Rat}:D.tup [fr r,fr 0]=N u r 0:=by
 unfold N
 rw [show ss 0*u=0 by unfold ss; grind]
abbrev Q:=Rat×Rat
def qa (x y:Q):Q:=(x.1+y.1,x.2+y.2)
def qs (x y:Q):Q:=(x.1 - y.1,x.2 - y.2)
def qm (u:Rat) (x y:Q):Q:=(x.1*y.1+x.2*y.2*u,x.1*y.2+x.2*y.1)
abbrev Sq (n:Nat) (x:Q):Prop:=Sm n x.1 x.2
def Pq (u:Rat) (x y:Q):D:=.tup [N u x.1 x.2,N u y.1 y.2]
def qo (p:Rat):Q:=(p,0)
def squareQ (u:Rat) (x y:Q):Q:=qa (qm u x x) (qm u y y)
def sideQ (u:Rat) (x y z w a b:Q):Q:=qs (qm u (qs z x) (qs b y)) (qm u (qs w y) (qs a x))
def Wy (κ:Bool) (P m n:Nat) (X:Q):Prop:=match κ with
 | true=>X.2=0/\Sz P X.1
 | false=>Sz m X.1/\Sz n X.2
def W (x y:Rat):D:=.tup [fr x,fr y]
def PP (x y:Rat):D:=.tup [.tup [fr x,fr 0],.tup [fr y,fr 0]]
noncomputable def MP (x y a b s:Rat):D:=.tup [mkD x (ss a*s),mkD y (ss b*s)]
noncomputable def bothL (x y a b s:Rat):List D:=if s < 0 then [] else if s=0 then [PP x y] else [MP x y a b s,MP x y (-a) (-b) s]
def F_plain_point:DSp:=fun ds S k=>∃ x y:Rat,ds=[W x y]/\k (PP x y) S
theorem sc_plain_point:FnScope ["place"] ["place"] (defScope s_plain_point):=scm
theorem ok_plain_point (Fn:Fun K "plain_point" "plain_point" s_plain_point f fd) (g_NOUGHT:GTup K mg "NOUGHT" [0,1]):
  FnOk P w K mg base CX0 1 f fd ["place"] (spU K F_plain_point):=by
 refine Fn.okJ sc_plain_point (fun ds S k h=>?_) (fun cdv A outer s H E hr=>⟨_,(ds_onej (dst_retj (d_tupj (da_consj (d_tupj (da_consj (d_ixj x_ixE (d_varj 0) d_intj (fun _ _=>rfl)) (da_consj (d_gtup g_NOUGHT rfl) da_nilj))) (da_consj (d_tupj (da_consj (d_ixj x_ixE (d_varj 0) d_intj (fun _ _=>rfl)) (da_consj (d_gtup g_NOUGHT rfl) da_nilj))) da_nilj))))),fun ds S k h=>?_⟩)
 ·obtain⟨_,_,rfl,_⟩:=h
  rfl
 ·obtain⟨x,y,rfl,w⟩:=h
  exact⟨few,few,few,w⟩
def F_place_of:DSp:=fun ds S k=>∃ x y:Rat,ds=[PP x y]/\k (W x y) S
theorem sc_place_of:FnScope ["point"] ["point"] (defScope s_place_of):=scm
theorem ok_place_of (Fn:Fun K "place_of" "place_of" s_place_of f fd):
  FnOk P w K mg base CX0 1 f fd ["point"] (spU K F_place_of):=by
 refine Fn.okJ sc_place_of (fun ds S k h=>?_) (fun cdv A outer s H E hr=>⟨_,(ds_onej (dst_retj (d_tupj (da_consj (d_ixj x_ixE (d_ixj x_ixE (d_varj 0) d_intj (fun _ _=>rfl)) d_intj (fun _ _=>rfl)) (da_consj (d_ixj x_ixE (d_ixj x_ixE (d_varj 0) d_intj (fun _ _=>rfl)) d_intj (fun _ _=>rfl)) da_nilj))))),fun ds S k h=>?_⟩)
 ·obtain⟨_,_,rfl,_⟩:=h
  rfl
 ·obtain⟨x,y,rfl,w⟩:=h
  exact⟨few,w⟩
def F_plain_way:DSp:=fun ds S k=>∃ x y z v:Rat,ds=[W x y,W z v]/\Sz 4000 x/\Sz 4000 y/\Sz 4000 z/\Sz 4000 v/\k (W (z - x) (v - y)) S
theorem sc_plain_way:FnScope ["one","other"] ["one","other"] (defScope s_plain_way):=scm
theorem ok_plain_way (Fn:Fun K "plain_way" "plain_way" s_plain_way f fd) (c_minus:Own P w K mg base "minus" 3 F_minus):
  FnOk P w K mg base CX0 4 f fd ["one","other"] (spU K F_plain_way):=by
 refine Fn.okJ sc_plain_way (fun ds S k h=>?_) (fun cdv A outer s H E hr=>⟨_,(ds_onej (dst_retj (d_tupj (da_consj (dq c_minus hr (da_consj (d_ixj x_ixE (d_varj 1) d_intj (fun _ _=>rfl)) (da_consj (d_ixj x_ixE (d_varj 0) d_intj (fun _ _=>rfl)) da_nilj))) (da_consj (dq c_minus hr (da_consj (d_ixj x_ixE (d_varj 1) d_intj (fun _ _=>rfl)) (da_consj (d_ixj x_ixE (d_varj 0) d_intj (fun _ _=>rfl)) da_nilj))) da_nilj))))),fun ds S k h=>?_⟩)
 ·obtain⟨_,_,_,_,rfl,_⟩:=h
  rfl
 ·obtain⟨x,y,z,v,rfl,hx,hy,hz,hv,w⟩:=h
  exact⟨z,x,rfl,hz,hx,v,y,rfl,hv,hy,few,w⟩
def F_product_of_ways:DSp:=fun ds S k=>∃ x y z v:Rat,ds=[W x y,W z v]/\Sz 900 x/\Sz 900 y/\Sz 900 z/\Sz 900 v/\k (fr (x*z+y*v)) S
theorem sc_product_of_ways:FnScope ["one","other"] ["one","other"] (defScope s_product_of_ways):=scm
theorem ok_product_of_ways (Fn:Fun K "product_of_ways" "product_of_ways" s_product_of_ways f fd) (c_plus:Own P w K mg base "plus" 3 F_plus) (c_times:Own P w K mg base "times" 3 F_times):
  FnOk P w K mg base CX0 4 f fd ["one","other"] (spU K F_product_of_ways):=by
 refine Fn.okJ sc_product_of_ways (fun ds S k h=>?_) (fun cdv A outer s H E hr=>⟨_,(ds_onej (dst_retj (dq c_plus hr (da_consj (dq c_times hr (da_consj (d_ixj x_ixE (d_varj 0) d_intj (fun _ _=>rfl)) (da_consj (d_ixj x_ixE (d_varj 1) d_intj (fun _ _=>rfl)) da_nilj))) (da_consj (dq c_times hr (da_consj (d_ixj x_ixE (d_varj 0) d_intj (fun _ _=>rfl)) (da_consj (d_ixj x_ixE (d_varj 1) d_intj (fun _ _=>rfl)) da_nilj))) da_nilj))))),fun ds S k h=>?_⟩)
 ·obtain⟨_,_,_,_,rfl,_⟩:=h
  rfl
 ·obtain⟨x,y,z,v,rfl,hx,hy,hz,hv,w⟩:=h
  exact⟨x,z,rfl,hx.mono (by decide),hz.mono (by decide),y,v,rfl,hy.mono (by decide),hv.mono (by decide),_,_,rfl,(hx.mul hz).mono (by decide),(hy.mul hv).mono (by decide),w⟩
def F_moved:DSp:=fun ds S k=>∃ x y a b t:Rat,ds=[W x y,W a b,fr t]/\Sz 900 x/\Sz 900 y/\Sz 900 a/\Sz 900 b/\Sz 900 t/\k (W (x+a*t) (y+b*t)) S
theorem sc_moved:FnScope ["place","way","by"] ["place","way","by"] (defScope s_moved):=scm
theorem ok_moved (Fn:Fun K "moved" "moved" s_moved f fd) (c_plus:Own P w K mg base "plus" 3 F_plus) (c_times:Own P w K mg base "times" 3 F_times):
  FnOk P w K mg base CX0 4 f fd ["place","way","by"] (spU K F_moved):=by
 refine Fn.okJ sc_moved (fun ds S k h=>?_) (fun cdv A outer s H E hr=>⟨_,(ds_onej (dst_retj (d_tupj (da_consj (dq c_plus hr (da_consj (d_ixj x_ixE (d_varj 0) d_intj (fun _ _=>rfl)) (da_consj (dq c_times hr (da_consj (d_ixj x_ixE (d_varj 1) d_intj (fun _ _=>rfl)) (da_consj (d_varj 2) da_nilj))) da_nilj))) (da_consj (dq c_plus hr (da_consj (d_ixj x_ixE (d_varj 0) d_intj (fun _ _=>rfl)) (da_consj (dq c_times hr (da_consj (d_ixj x_ixE (d_varj 1) d_intj (fun _ _=>rfl)) (da_consj (d_varj 2) da_nilj))) da_nilj))) da_nilj))))),fun ds S k h=>?_⟩)
 ·obtain⟨_,_,_,_,_,rfl,_⟩:=h
  rfl
 ·obtain⟨x,y,a,b,t,rfl,hx,hy,ha,hb,ht,w⟩:=h
  exact⟨a,t,rfl,ha.mono (by decide),ht.mono (by decide),_,_,rfl,hx.mono (by decide),(ha.mul ht).mono (by decide),b,t,rfl,hb.mono (by decide),ht.mono (by decide),_,_,rfl,hy.mono (by decide),(hb.mul ht).mono (by decide),few,w⟩
def F_moved_by_root:DSp:=fun ds S k=>∃ x y a b s:Rat,ds=[W x y,W a b,fr s]/\Sz 400 x/\Sz 400 y/\Sz 20 a/\Sz 20 b/\Sz 600 s/\∀ S',Ext S S'->k (MP x y a b s) S'
theorem sc_moved_by_root:FnScope ["place","way","square","numbers","part","portion","under"] ["place","way","square"] (defScope s_moved_by_root):=scm
theorem ok_moved_by_root (Fn:Fun K "moved_by_root" "moved_by_root" s_moved_by_root f fd) (c_times:Own P w K mg base "times" 3 F_times) (c_made:Own P w K mg base "made" 4 F_made) (c_with_sign_of:Own P w K mg base "with_sign_of" 2 F_with_sign_of) (z_zip:mg "zip"=none):
  FnOk P w K mg base CX0 5 f fd ["place","way","square"] (spU K F_moved_by_root):=by
 refine Fn.okJ sc_moved_by_root (fun ds S k h=>?_) (fun cdv A outer s H E hr=>⟨_,(ds_consj (dst_setj (i:=3) sc_moved_by_root.nd (d_lstj da_nilj)) (ds_consj (dst_forZj PassesOwn.never rfl rfl z_zip (da_consj (d_varj 0) (da_consj (d_varj 1) da_nilj)) (dg_seqE (n:=2) rfl (dgs_consj (dg_namej (i:=4) sc_moved_by_root.nd) (dgs_consj (dg_namej (i:=5) sc_moved_by_root.nd) dgs_nilj))) (ds_consj (dst_setj (i:=6) sc_moved_by_root.nd (dq c_times hr (da_consj (dq c_times hr (da_consj (d_varj 5) (da_consj (d_varj 5) da_nilj))) (da_consj (d_varj 2) da_nilj)))) (ds_onej (dst_exprj (d_appj (d_varj 3) (dq c_made hr (da_consj (d_varj 4) (da_consj (dq c_with_sign_of hr (da_consj (d_varj 6) (da_consj (d_varj 5) da_nilj))) da_nilj)))))))) (ds_onej (dst_retj (d_tupj (da_consj (d_ixj x_ixE (d_varj 3) d_intj (fun _ _=>rfl)) (da_consj (d_ixj x_ixE (d_varj 3) d_intj (fun _ _=>rfl)) da_nilj))))))),fun ds S k h=>?_⟩)
 ·obtain⟨_,_,_,_,_,rfl,_⟩:=h
  rfl
 ·obtain⟨x,y,a,b,s,rfl,hx,hy,ha,hb,hs,w⟩:=h
  have big':∀ n:Nat,n < 300->n < sizeLine:=fun n h=>Nat.lt_of_lt_of_le h (Nat.le_of_ble_eq_true (rfl:Nat.ble 300 sizeLine=true))
  refine⟨few,fun q hq=>⟨([fr x,fr y],none),([fr a,fr b],none),rfl,rfl,?_⟩⟩
  have m1:=(ha.mul ha).mul hs
  have m2:=(hb.mul hb).mul hs
  have s1:Sz 1000 (sg (a*a*s) a):=m1.sg.mono (by decide)
  have s2:Sz 1000 (sg (b*b*s) b):=m2.sg.mono (by decide)
  refine⟨⟨trivial,trivial⟩,([fr x,fr a],none),rfl,rfl,rfl,a,a,rfl,ha.mono (by decide),ha.mono (by decide),_,s,rfl,(ha.mul ha).mono (by decide),hs.mono (by decide),?_⟩
  refine⟨⟨_,put_same⟩,_,a,rfl,x,_,rfl,hx.mono (by decide),s1,[],put_same,big' 0 (by decide),?_⟩
  refine⟨⟨trivial,trivial⟩,([fr y,fr b],none),rfl,rfl,rfl,b,b,rfl,hb.mono (by decide),hb.mono (by decide),_,s,rfl,(hb.mul hb).mono (by decide),hs.mono (by decide),?_⟩
  refine⟨⟨_,put_same⟩,_,b,rfl,y,_,rfl,hy.mono (by decide),s2,_,put_same,big' 1 (by decide),?_⟩
  refine⟨⟨trivial,trivial⟩,_,_,put_same,atI0,_,_,put_same,atI1,few,?_⟩
  rw [sg_ss,sg_ss]
  exact w _ (((Ext.new hq).put hq).put hq)
def F_both_moved:DSp:=fun ds S k=>∃ x y a b s:Rat,ds=[W x y,W a b,fr s]/\Sz 400 x/\Sz 400 y/\Sz 20 a/\Sz 20 b/\Sz 600 s/\∀ S' p,Ext S S'->S' p=none->k (.ref p) (put S' p (.lst (bothL x y a b s)))
theorem sc_both_moved:FnScope ["place","way","square","against"] ["place","way","square"] (defScope s_both_moved):=scm
theorem ok_both_moved (Fn:Fun K "both_moved" "both_moved" s_both_moved f fd) (c_plain_point:Own P w K mg base "plain_point" 1 F_plain_point) (c_negative:Own P w K mg base "negative" 1 F_negative) (c_moved_by_root:Own P w K mg base "moved_by_root" 5 F_moved_by_root):
  FnOk P w K mg base CX0 6 f fd ["place","way","square"] (spU K F_both_moved):=by
 refine Fn.okJ sc_both_moved (fun ds S k h=>?_) (fun cdv A outer s H E hr=>⟨_,(ds_consj (dst_ifj (dt_cmpj o_lt (d_ixj x_ixE (d_varj 2) d_intj (fun _ _=>rfl)) d_intj (nomark _)) (ds_onej (dst_retj (d_lstj da_nilj))) ds_nilj) (ds_consj (dst_ifj (dt_cmpj o_eq (d_ixj x_ixE (d_varj 2) d_intj (fun _ _=>rfl)) d_intj (nomark _)) (ds_onej (dst_retj (d_lstj (da_consj (dq c_plain_point hr (da_consj (d_varj 0) da_nilj)) da_nilj)))) ds_nilj) (ds_consj (dst_setj (i:=3) sc_both_moved.nd (d_tupj (da_consj (dq c_negative hr (da_consj (d_ixj x_ixE (d_varj 1) d_intj (fun _ _=>rfl)) da_nilj)) (da_consj (dq c_negative hr (da_consj (d_ixj x_ixE (d_varj 1) d_intj (fun _ _=>rfl)) da_nilj)) da_nilj)))) (ds_onej (dst_retj (d_lstj (da_consj (dq c_moved_by_root hr (da_consj (d_varj 0) (da_consj (d_varj 1) (da_consj (d_varj 2) da_nilj)))) (da_consj (dq c_moved_by_root hr (da_consj (d_varj 0) (da_consj (d_varj 3) (da_consj (d_varj 2) da_nilj)))) da_nilj)))))))),fun ds S k h=>?_⟩)
 ·obtain⟨_,_,_,_,_,rfl,_⟩:=h
  rfl
 ·obtain⟨x,y,a,b,s,rfl,hx,hy,ha,hb,hs,w⟩:=h
  refine ite_dec (fun n=>?_) (fun n=>ite_dec (fun z=>?_) (fun z=>?_))
  ·have w':=fun p hp=>w S p (Ext.refl S) hp
   rw [show bothL x y a b s=[] from if_pos ((num_neg_iff s).mp n)] at w'
   exact⟨few,w'⟩
  ·have z:s=0:=Rat.num_eq_zero.mp z
   have w':=fun p hp=>w S p (Ext.refl S) hp
   rw [show bothL x y a b s=[PP x y] by unfold bothL; rw [if_neg (by rw [z]; decide),if_pos z]] at w'
   exact⟨x,y,rfl,few,w'⟩
  ·have z:s≠0:=fun q=>z (by rw [q]; rfl)
   refine⟨a,rfl,b,rfl,few,x,y,a,b,s,rfl,hx,hy,ha,hb,hs,fun S1 e1=>⟨x,y,-a,-b,s,rfl,hx,hy,ha.neg,hb.neg,hs,fun S2 e2=>⟨few,fun p hp=>?_⟩⟩⟩
   have w':=w S2 p (e1.trans e2) hp
   rw [show bothL x y a b s=[MP x y a b s,MP x y (-a) (-b) s] by unfold bothL; rw [if_neg (fun q=>n ((num_neg_iff s).mpr q)),if_neg z]] at w'
   exact w'
def F_square_of_unlike:DSp:=fun ds S k=>∃ a b:Rat,ds=[W a b]/\Sz 900 a/\Sz 900 b/\a*a+b*b≠0/\k (fr (a*a+b*b)) S
theorem sc_square_of_unlike:FnScope ["way","square"] ["way"] (defScope s_square_of_unlike):=scm
theorem ok_square_of_unlike (Fn:Fun K "square_of_unlike" "square_of_unlike" s_square_of_unlike f fd) (c_product_of_ways:Own P w K mg base "product_of_ways" 4 F_product_of_ways):
  FnOk P w K mg base CX0 5 f fd ["way"] (spU K F_square_of_unlike):=by
 refine Fn.okJ sc_square_of_unlike (fun ds S k h=>?_) (fun cdv A outer s H E hr=>⟨_,(ds_consj (dst_setj (i:=1) sc_square_of_unlike.nd (dq c_product_of_ways hr (da_consj (d_varj 0) (da_consj (d_varj 0) da_nilj)))) (ds_consj (dst_ifj (dt_cmpj o_eq (d_ixj x_ixE (d_varj 1) d_intj (fun _ _=>rfl)) d_intj (nomark _)) (ds_onej dst_neverj) ds_nilj) (ds_onej (dst_retj (d_varj 1))))),fun ds S k h=>?_⟩)
 ·obtain⟨_,_,rfl,_⟩:=h
  rfl
 ·obtain⟨a,b,rfl,ha,hb,h0,w⟩:=h
  exact⟨a,b,a,b,rfl,ha,hb,ha,hb,ite_dec (fun z=>absurd (Rat.num_eq_zero.mp z) h0) (fun _=>w)⟩
set_option maxHeartbeats 4000000
structure Nrm (c:List (List Int×Rat)) (ns:List (List Int×Int)):Prop where
 keys:ns.map (·.1)=c.map (·.1)
 sc:∃ t:Rat,t≠0/\(∀ p∈ns,∃ q,(p.1,q)∈c/\(p.2:Rat)=t*q)/\∀ p∈c,∃ n:Int,(p.1,n)∈ns/\(n:Rat)=t*p.2
 co:∀ d:Int,(∀ p∈ns,d ∣ p.2)->d ∣ 1
 sg:∃ p∈ns,(∀ q∈ns,gtP q.1 p.1=false)/\0 < p.2
theorem gtP_eq {k l:List Int} (hk:∃ i j,k=[i,j]) (hl:∃ i j,l=[i,j]) (h1:gtP k l=false) (h2:gtP l k=false):k=l:=by
 obtain⟨a,b,rfl⟩:=hk
 obtain⟨c,d,rfl⟩:=hl
 simp only [gtP,Bool.or_eq_false_iff,Bool.and_eq_false_iff,decide_eq_false_iff_not] at h1 h2
 have e1:a=c:=by omega
 have e2:b=d:=by omega
 rw [e1,e2]
theorem key_uniq {α:Type}:∀ {l:List (List Int×α)} {k:List Int} {x y:α},(l.map (·.1)).Nodup->(k,x)∈l->(k,y)∈l->x=y
 | [],_,_,_,_,h,_=>nomatch h
 | p::l,k,x,y,nd,h1,h2=>by
  rw [List.map_cons,List.nodup_cons] at nd
  rcases List.mem_cons.mp h1 with e1 | m1
  ·rcases List.mem_cons.mp h2 with e2 | m2
   ·have:=e1.trans e2.symm
    injection this
   ·refine absurd (List.mem_map.mpr ⟨_,m2,?_⟩) nd.1
    rw [<- e1]
  ·rcases List.mem_cons.mp h2 with e2 | m2
   ·refine absurd (List.mem_map.mpr ⟨_,m1,?_⟩) nd.1
    rw [<- e2]
   ·exact key_uniq nd.2 m1 m2
theorem den_rat (q:Rat):((q.den:Int):Rat)≠0:=fun z=>by
 have:=q.den_nz
 have:(q.den:Int)=0:=Rat.intCast_inj.mp (by rw [z]; rfl)
 omega
theorem den_mulq (q:Rat):((q.den:Int):Rat)*q=(q.num:Rat):=by
 have d0:=den_rat q
 have e:=Rat.num_divInt_den q
 rw [Rat.divInt_eq_div] at e
 grind
theorem rat_int_div {r:Rat} {n m:Int} (h:(m:Rat)=r*n):(r.den:Int)*m=r.num*n:=by
 have z:=den_mulq r
 have e2:(((r.den:Int)*m:Int):Rat)=((r.num*n:Int):Rat):=by
  rw [Rat.intCast_mul,Rat.intCast_mul,h,<- z]
  grind
 exact Rat.intCast_inj.mp e2
theorem cop_dvd {a b n:Int} (h:a ∣ b*n) (c:Nat.Coprime a.natAbs b.natAbs):a ∣ n:=by
 have:=Int.natAbs_dvd_natAbs.mpr h
 rw [Int.natAbs_mul] at this
 exact Int.natAbs_dvd_natAbs.mp (Nat.Coprime.dvd_of_dvd_mul_left c this)
theorem nrm_uniq {c c':List (List Int×Rat)} {ns ns':List (List Int×Int)} {s:Rat} (h:Nrm c ns) (h':Nrm c' ns') (s0:s≠0) (two:∀ p∈c,∃ i j,p.1=[i,j]) (two':∀ p∈c',∃ i j,p.1=[i,j])
  (hc:∀ p∈c,(p.1,s*p.2)∈c') (hc':∀ p∈c',∃ q,(p.1,q)∈c/\p.2=s*q) (nd:(c.map (·.1)).Nodup) (nd':(c'.map (·.1)).Nodup):∀ p∈ns',p∈ns:=by
 obtain⟨t,t0,f1,f2⟩:=h.sc
 obtain⟨t',t0',f1',f2'⟩:=h'.sc
 have ndn:(ns.map (·.1)).Nodup:=by rw [h.keys]; exact nd
 have ndn':(ns'.map (·.1)).Nodup:=by rw [h'.keys]; exact nd'
 have g1:∀ p∈ns',∃ n:Int,(p.1,n)∈ns/\(p.2:Rat)=(t'*s / t)*n:=fun p hp=>by
  obtain⟨q',m1,e1⟩:=f1' p hp
  obtain⟨q,m2,e2⟩:=hc' _ m1
  obtain⟨n,m3,e3⟩:=f2 _ m2
  refine⟨n,m3,?_⟩
  simp only at e2 e3
  rw [e1,e2,e3]
  grind
 have g2:∀ p∈ns,∃ n:Int,(p.1,n)∈ns'/\(n:Rat)=(t'*s / t)*p.2:=fun p hp=>by
  obtain⟨q,m1,e1⟩:=f1 p hp
  obtain⟨n,m3,e3⟩:=f2' _ (hc _ m1)
  refine⟨n,m3,?_⟩
  simp only at e3
  rw [e1,e3]
  grind
 generalize t'*s / t=r at g1 g2
 have d1:(r.den:Int) ∣ 1:=h.co _ fun p hp=>by
  obtain⟨n,_,e⟩:=g2 p hp
  have z:=rat_int_div e
  exact cop_dvd (b:=r.num) ⟨n,z.symm⟩ (Nat.Coprime.symm r.reduced)
 have d2:r.num ∣ 1:=h'.co _ fun p hp=>by
  obtain⟨n,_,e⟩:=g1 p hp
  have z:=rat_int_div e
  exact cop_dvd (b:=(r.den:Int)) ⟨n,z⟩ r.reduced
 have den1:r.den=1:=by
  have:=Int.eq_one_of_dvd_one (by omega) d1
  omega
 have num1:r.num=1\/r.num=-1:=by
  have:=Int.natAbs_dvd_natAbs.mpr d2
  have h1:r.num.natAbs=1:=Nat.dvd_one.mp (by simpa using this)
  omega
 have rpos:r.num=1:=by
  rcases num1 with e | e
  ·exact e
  ·exfalso
   obtain⟨p,hp,mx,pos⟩:=h.sg
   obtain⟨p',hp',mx',pos'⟩:=h'.sg
   obtain⟨n,m1,e1⟩:=g2 p hp
   obtain⟨n',m2,e2⟩:=g1 p' hp'
   obtain⟨q,w1,_⟩:=f1 p hp
   obtain⟨q',w1',_⟩:=f1' p' hp'
   have ek:p.1=p'.1:=gtP_eq (two _ w1) (two' _ w1') (mx' (p.1,n) m1) (mx (p'.1,n') m2)
   have ep:n'=p.2:=key_uniq ndn (k:=p.1) (by rw [ek]; exact m2) hp
   have z:=rat_int_div e2
   rw [den1,e,ep] at z
   omega
 intro p hp
 obtain⟨n,m1,e1⟩:=g1 p hp
 have z:=rat_int_div e1
 rw [den1,rpos] at z
 have:p.2=n:=by omega
 rw [<- this] at m1
 exact m1
def topI (B:Int) (q:Rat):Int:=q.num*B.fdiv (q.den:Int)
theorem topI_eq {B:Int} {q:Rat} (h:(q.den:Int) ∣ B):((topI B q:Int):Rat)=B*q:=by
 obtain⟨c,rfl⟩:=h
 have d0:(q.den:Int)≠0:=by have:=q.den_nz; omega
 have z:=den_mulq q
 unfold topI
 rw [Int.mul_fdiv_cancel_left c d0,Rat.intCast_mul,Rat.intCast_mul,<- z]
 grind
theorem nrm_of {c:List (List Int×Rat)} {B g:Int} (B0:B≠0) (hd:∀ p∈c,(p.2.den:Int) ∣ B) (g0:g≠0) (gd:∀ p∈c,g ∣ topI B p.2) (gm:∀ d:Int,(∀ p∈c,d ∣ topI B p.2)->d ∣ g)
  (hs:∃ p∈c,(∀ q∈c,gtP q.1 p.1=false)/\0 < (topI B p.2).fdiv g):Nrm c (c.map fun p=>(p.1,(topI B p.2).fdiv g)):=by
 have ex:∀ p∈c,g*(topI B p.2).fdiv g=topI B p.2:=fun p hp=>by
  obtain⟨x,e⟩:=gd p hp
  rw [e,Int.mul_fdiv_cancel_left x g0]
 have gr:(g:Rat)≠0:=by
  intro z
  exact g0 (Rat.intCast_inj.mp (by rw [z]; rfl))
 have tr:∀ p∈c,(((topI B p.2).fdiv g:Int):Rat)=((B:Rat) / g)*p.2:=fun p hp=>by
  have e:=congrArg (fun z:Int=>(z:Rat)) (ex p hp)
  simp only [Rat.intCast_mul] at e
  rw [topI_eq (hd p hp)] at e
  grind
 refine⟨by rw [List.map_map]; rfl,⟨(B:Rat) / g,?_,fun p hp=>?_,fun p hp=>⟨_,List.mem_map.mpr ⟨p,hp,rfl⟩,tr p hp⟩⟩,fun d h=>?_,?_⟩
 ·intro z
  have:(B:Rat)=0:=by grind
  exact B0 (Rat.intCast_inj.mp (by rw [this]; rfl))
 ·obtain⟨x,hx,rfl⟩:=List.mem_map.mp hp
  exact⟨x.2,hx,tr x hx⟩
 ·have z:d*g ∣ g:=gm _ fun p hp=>by
   obtain⟨x,e⟩:=h _ (List.mem_map.mpr ⟨p,hp,rfl⟩)
   simp only at e
   refine⟨x,?_⟩
   have:=ex p hp
   rw [<- this,e]
   grind
  obtain⟨y,e⟩:=z
  refine⟨y,?_⟩
  have : g * (d * y) = g * 1 := by rw [Int.mul_one]; conv => rhs; rw [e]
                                   grind
  exact(Int.eq_of_mul_eq_mul_left g0 this).symm
 ·obtain⟨p,hp,mx,pos⟩:=hs
  refine⟨_,List.mem_map.mpr ⟨p,hp,rfl⟩,fun q hq=>?_,pos⟩
  obtain⟨x,hx,rfl⟩:=List.mem_map.mp hq
  exact mx x hx
def kvD {α:Type} (f:α->D) (l:List (List Int×α)):List (List Int×D):=l.map fun p=>(p.1,f p.2)
abbrev cvD:=kvD fr
abbrev tpD:=kvD D.int
abbrev nmD:=kvD (fun n:Int=>D.tup [.int n,.int 1])
abbrev dTo (l:List (List Int×D)) (ep:Nat):DO:=.gen (.dT l ep)
section
variable {α:Type} {f:α->D}
theorem getT_none:∀ {l:List (List Int×α)} {k:List Int},k∉l.map (·.1)->getT (kvD f l) k=none
 | [],_,_=>rfl
 | p::l,k,h=>by
  rw [List.map_cons,List.mem_cons,not_or] at h
  have e:getT (kvD f (p::l)) k=getT (kvD f l) k:=by simp [getT,kvD,List.find?_cons,Ne.symm h.1]
  rw [e]
  exact getT_none h.2
theorem getT_some:∀ {l:List (List Int×α)} {k:List Int} {x:α},(l.map (·.1)).Nodup->(k,x)∈l->getT (kvD f l) k=some (f x)
 | [],_,_,_,h=>nomatch h
 | p::l,k,x,nd,h=>by
  rw [List.map_cons,List.nodup_cons] at nd
  rcases List.mem_cons.mp h with e | m
  ·subst e
   simp [getT,kvD]
  ·have ne:p.1≠k:=fun z=>nd.1 (List.mem_map.mpr ⟨_,m,z.symm⟩)
   have e:getT (kvD f (p::l)) k=getT (kvD f l) k:=by simp [getT,kvD,List.find?_cons,ne]
   rw [e]
   exact getT_some nd.2 m
theorem putT_app {l:List (List Int×α)} {k:List Int} {x:α} (h:k∉l.map (·.1)):putT (kvD f l) k (f x)=kvD f (l++[(k,x)]):=by
 unfold putT
 rw [getT_none h,if_neg (by simp)]
 simp [kvD]
theorem kvD_len {l:List (List Int×α)}:(kvD f l).length=l.length:=List.length_map _
theorem nd_mid {l r:List (List Int×α)} {p:List Int×α} (h:((l++p::r).map (·.1)).Nodup):p.1∉l.map (·.1):=by
 rw [List.map_append,List.map_cons,List.nodup_append] at h
 exact fun m=>h.2.2 _ m _ List.mem_cons_self rfl
end
theorem lim {n:Nat} (h:n<=100):n < sizeLine:=Nat.lt_of_lt_of_le (by omega:n < 300) (Nat.le_of_ble_eq_true (rfl:Nat.ble 300 sizeLine=true))
theorem nd_filter {l:List (List Int×Rat)} {g:List Int×Rat->Bool} (h:(l.map (·.1)).Nodup):((l.filter g).map (·.1)).Nodup:=List.Sublist.nodup (List.Sublist.map _ List.filter_sublist) h
theorem mem_ff {l:List (List Int×Rat)} {g:List Int×Rat->Bool} {k:List Int} (h:k∉l.map (·.1)):k∉(l.filter g).map (·.1):=fun m=>h (by
 obtain⟨x,hx,e⟩:=List.mem_map.mp m
 exact List.mem_map.mpr ⟨x,(List.mem_filter.mp hx).1,e⟩)
abbrev nz (l:List (List Int×Rat)):List (List Int×Rat):=l.filter fun p=>decide (p.2≠0)
def F_without_noughts:DSp:=fun ds S k=>∃ (a:Addr) (c:List (List Int×Rat)) (ep:Nat),ds=[.ref a]/\S a=some (dTo (cvD c) ep)/\(c.map (·.1)).Nodup/\c.length<=100/\∀ S' p ep',Ext S S'->S p=none->S' p=some (dTo (cvD (nz c)) ep')->k (.ref p) S'
theorem sc_without_noughts:FnScope ["sums","told","key","fraction"] ["sums"] (defScope s_without_noughts):=scm
theorem ok_without_noughts (Fn:Fun K "without_noughts" "without_noughts" s_without_noughts f fd):
  FnOk P w K mg base CX0 1 f fd ["sums"] (spU K F_without_noughts):=by
 refine Fn.okJ sc_without_noughts (fun ds S k h=>?_) (fun cdv A outer s H E hr=>⟨_,(ds_consj (dst_setj (i:=1) sc_without_noughts.nd d_dnewj) (ds_consj (dst_forIj PassesOwn.never rfl (i_itemsj (d_varj 0)) (dg_seqE (n:=2) rfl (dgs_consj (dg_namej (i:=2) sc_without_noughts.nd) (dgs_consj (dg_namej (i:=3) sc_without_noughts.nd) dgs_nilj))) (ds_onej (dst_ifj (dt_cmpj o_ne (d_ixj x_ixE (d_varj 3) d_intj (fun _ _=>rfl)) d_intj (nomark _)) (ds_onej (dst_asgj (d_varj 3) (dg_subD hr (d_varj 1) (d_varj 2)))) ds_nilj))) (ds_onej (dst_retj (d_varj 1))))),fun ds S k h=>?_⟩)
 ·obtain⟨_,_,_,rfl,_⟩:=h
  rfl
 ·obtain⟨a,c,ep,rfl,ha,nd,hl,w⟩:=h
  refine fun p hp e0=>⟨_,_,put_keep hp ha,?_⟩
  refine loop_ix (fun r L S'=>∃ (don rest:List (List Int×Rat)) (e1:Nat) (l2 l3:Option D),c=don++rest/\r=pairsD (cvD rest)/\L=[some (.ref a),some (.ref p),l2,l3]/\Ext S S'/\S' a=some (dTo (cvD c) ep)/\S' p=some (dTo (cvD (nz don)) e1)) (fun r L S' ⟨_,_,_,_,_,_,_,_,_,h,_⟩=>h) ?_ ?_ _ _ _ ⟨[],c,e0,none,none,rfl,rfl,rfl,Ext.new hp,put_keep hp ha,put_same⟩
  ·rintro d r L S1 N1 ⟨don,rest,e1,l2,l3,ec,er,rfl,x1,a1,p1⟩ hN
   cases rest with
   | nil=>cases er
   | cons q rest=>
    cases er
    have nq:=nd_mid (p:=q) (ec▸nd)
    have lz:(nz don).length<=don.length:=List.length_filter_le _ _
    have hd:don.length < 100:=by have:=congrArg List.length ec; rw [List.length_append,List.length_cons] at this; omega
    have nap:a≠p:=ne_put ha hp
    refine⟨([keyD q.1,fr q.2],none),rfl,rfl,rfl,ite_ne (fun h0=>⟨_,_,_,p1,rfl,by rw [kvD_len]; exact lim (by omega),fun e2=>hN _ _ ⟨don++[q],rest,e2,_,_,by rw [ec]; simp,rfl,rfl,x1.put hp,by rw [put_ne nap]; exact a1,?_⟩⟩) (fun h0=>hN _ _ ⟨don++[q],rest,e1,_,_,by rw [ec]; simp,rfl,rfl,x1,a1,?_⟩)⟩
    ·have q0:q.2≠0:=fun z=>h0 (by rw [z]; rfl)
     rw [put_same,putT_app (mem_ff nq)]
     simp [nz,List.filter_append,q0]
    ·have q0:q.2=0:=Rat.num_eq_zero.mp h0
     rw [p1]
     simp [nz,List.filter_append,q0]
  ·rintro L S1 ⟨don,rest,e1,l2,l3,ec,er,rfl,x1,a1,p1⟩
   cases rest with
   | cons q rest=>cases er
   | nil=>
    rw [List.append_nil] at ec
    subst ec
    exact w S1 p e1 x1 hp p1
theorem lcm_of' {a b:Int} (ha:0 < a) (hb:0 < b):(a.fdiv ((Int.gcd a b:Nat):Int))*b=((Int.lcm a b:Nat):Int):=by
 have h1:((Int.gcd a b:Nat):Int) ∣ a:=Int.gcd_dvd_left a b
 have g0:((Int.gcd a b:Nat):Int)≠0:=by
  have:=Int.gcd_pos_of_ne_zero_left (a:=a) b (by omega)
  omega
 have z:((Int.gcd a b:Nat):Int)*((Int.lcm a b:Nat):Int)=a*b:=by
  have e2:=congrArg (fun n:Nat=>(n:Int)) (Int.gcd_mul_lcm a b)
  simp only [Int.natCast_mul] at e2
  rw [Int.natAbs_of_nonneg (by omega),Int.natAbs_of_nonneg (by omega)] at e2
  exact e2
 generalize ((Int.gcd a b:Nat):Int)=g at h1 g0 z
 generalize ((Int.lcm a b:Nat):Int)=l at z
 obtain⟨x,rfl⟩:=h1
 rw [Int.mul_fdiv_cancel_left x g0]
 refine Int.eq_of_mul_eq_mul_left g0 ?_
 rw [z,Int.mul_assoc]
def F_common_multiple:DSp:=fun ds S k=>∃ a b:Int,ds=[.int a,.int b]/\0 < a/\0 < b/\Bt 4000 a/\Bt 4000 b/\k (.int ((Int.lcm a b:Nat):Int)) S
theorem sc_common_multiple:FnScope ["one","other"] ["one","other"] (defScope s_common_multiple):=scm
theorem ok_common_multiple (Fn:Fun K "common_multiple" "common_multiple" s_common_multiple f fd) (c_common_divisor:Own P w K mg base "common_divisor" 1 F_common_divisor):
  FnOk P w K mg base CX0 2 f fd ["one","other"] (spU K F_common_multiple):=by
 refine Fn.okJ sc_common_multiple (fun ds S k h=>?_) (fun cdv A outer s H E hr=>⟨_,(ds_onej (dst_retj (d_opj o_mul (d_opj o_div (d_varj 0) (dq c_common_divisor hr (da_consj (d_varj 0) (da_consj (d_varj 1) da_nilj)))) (d_varj 1)))),fun ds S k h=>?_⟩)
 ·obtain⟨_,_,rfl,_⟩:=h
  rfl
 ·obtain⟨a,b,rfl,ha,hb,ba,bb,w⟩:=h
  rw [<- lcm_of' ha hb] at w
  have g0:((Int.gcd a b:Nat):Int)≠0:=by
   have:=Int.gcd_pos_of_ne_zero_left (a:=a) b (by omega)
   omega
  exact⟨dok g0 (gcd_bt (t:=a) (by omega) bb),mok (ba.le (HM.natAbs_fdiv_le _ _)) bb,w⟩
def lcB:Int->List Rat->Int
 | m,[]=>m
 | m,q::qs=>lcB ((Int.lcm m (q.den:Int):Nat):Int) qs
theorem lcm_pos' {a b:Int} (ha:0 < a) (hb:0 < b):0 < ((Int.lcm a b:Nat):Int):=by
 have:=Int.lcm_pos (m:=a) (n:=b) (by omega) (by omega)
 omega
theorem lcm_bt' {m n:Nat} {a b:Int} (ha:0 < a) (hb:0 < b) (ba:Bt m a) (bb:Bt n b):Bt (m+n) ((Int.lcm a b:Nat):Int):=by
 rw [<- lcm_of' ha hb]
 exact(ba.le (HM.natAbs_fdiv_le _ _)).mul bb
theorem den_p (q:Rat):0 < (q.den:Int):=by have:=q.den_nz; omega
theorem lcB_bt {w:Nat}:∀ {qs:List Rat} {m:Int} {n:Nat},0 < m->Bt n m->(∀ q∈qs,Sz w q)->0 < lcB m qs/\Bt (n+w*qs.length) (lcB m qs)
 | [],_,_,h0,h,_=>⟨h0,h⟩
 | q::qs,m,n,h0,h,hq=>by
  obtain⟨a,b⟩:=lcB_bt (qs:=qs) (lcm_pos' h0 (den_p q)) (lcm_bt' h0 (den_p q) h (hq q List.mem_cons_self).den) fun p hp=>hq p (List.mem_cons_of_mem _ hp)
  refine⟨a,b.mono ?_⟩
  rw [List.length_cons,Nat.mul_add]
  omega
theorem lcB_dvd:∀ {qs:List Rat} {m:Int},m ∣ lcB m qs/\∀ q∈qs,(q.den:Int) ∣ lcB m qs
 | [],m=>⟨Int.dvd_refl m,fun q h=>nomatch h⟩
 | q::qs,m=>by
  obtain⟨a,b⟩:=lcB_dvd (qs:=qs) (m:=((Int.lcm m (q.den:Int):Nat):Int))
  refine⟨Int.dvd_trans (Int.dvd_lcm_left ..) a,fun p hp=>?_⟩
  rcases List.mem_cons.mp hp with e | m'
  ·rw [e]
   exact Int.dvd_trans (Int.dvd_lcm_right ..) a
  ·exact b p m'
theorem dvd_bt {n:Nat} {g x:Int} (h:g ∣ x) (x0:x≠0) (b:Bt n x):Bt n g:=b.le (Nat.le_of_dvd (by omega) (Int.natAbs_dvd_natAbs.mpr h))
theorem lcB_dv {B:Int}:∀ {qs:List Rat} {m:Int},m ∣ B->(∀ q∈qs,(q.den:Int) ∣ B)->lcB m qs ∣ B
 | [],_,h,_=>h
 | q::qs,m,h,hq=>lcB_dv (qs:=qs) (Int.coe_lcm_dvd h (hq q List.mem_cons_self)) fun p hp=>hq p (List.mem_cons_of_mem _ hp)
theorem lcB_pos:∀ {qs:List Rat} {m:Int},0 < m->0 < lcB m qs
 | [],_,h=>h
 | q::qs,m,h=>lcB_pos (qs:=qs) (lcm_pos' h (den_p q))
theorem den_dv {q:Rat} {B t:Int} (b0:B≠0) (e:(B:Rat)*q=t):(q.den:Int) ∣ B:=by
 have r0:(B:Rat)≠0:=fun z=>b0 (Rat.intCast_inj.mp (by rw [z]; rfl))
 have:q=Rat.divInt t B:=by
  rw [Rat.divInt_eq_div,<- e]
  grind
 rw [this]
 rw [Rat.den_divInt,if_neg b0,Int.ofNat_dvd_left]
 exact Nat.div_dvd_of_dvd (Nat.gcd_dvd_left _ _)
def F_common_bottom:DSp:=fun ds S k=>∃ (a:Addr) (qs:List Rat) (B:Int),ds=[.ref a]/\S a=some (.lst (qs.map fr))/\0 < B/\Bt 3000 B/\(∀ q∈qs,(q.den:Int) ∣ B)/\k (.int (lcB 1 qs)) S
theorem sc_common_bottom:FnScope ["fractions","bottom","fraction"] ["fractions"] (defScope s_common_bottom):=scm
theorem ok_common_bottom (Fn:Fun K "common_bottom" "common_bottom" s_common_bottom f fd) (c_common_multiple:Own P w K mg base "common_multiple" 2 F_common_multiple):
  FnOk P w K mg base CX0 3 f fd ["fractions"] (spU K F_common_bottom):=by
 refine Fn.okJ sc_common_bottom (fun ds S k h=>?_) (fun cdv A outer s H E hr=>⟨_,(ds_consj (dst_setj (i:=1) sc_common_bottom.nd d_intj) (ds_consj (dst_forEj PassesOwn.never rfl (d_varj 0) (dg_namej (i:=2) sc_common_bottom.nd) (ds_onej (dst_setj (i:=1) sc_common_bottom.nd (dq c_common_multiple hr (da_consj (d_varj 1) (da_consj (d_ixj x_ixE (d_varj 2) d_intj (fun _ _=>rfl)) da_nilj)))))) (ds_onej (dst_retj (d_varj 1))))),fun ds S k h=>?_⟩)
 ·obtain⟨_,_,_,rfl,_⟩:=h
  rfl
 ·obtain⟨a,qs,B,rfl,ha,B0,bB,hq,w⟩:=h
  refine⟨(qs.map fr,some a),by simp only [dItems,ha],?_⟩
  refine loop_ix (fun r L S'=>S'=S/\∃ (rs:List Rat) (m:Int) (l2:Option D),L=[some (.ref a),some (.int m),l2]/\r=rs.map fr/\lcB 1 qs=lcB m rs/\0 < m/\m ∣ B/\∀ q∈rs,(q.den:Int) ∣ B) (fun r L S' ⟨e,_⟩=>by rw [e]; exact ha) ?_ ?_ _ _ _ ⟨rfl,qs,1,none,rfl,rfl,rfl,by decide,Int.one_dvd B,hq⟩
  ·rintro d r L S1 N1 ⟨rfl,rs,m,l2,rfl,er,hm,m0,bm,hr⟩ hN
   cases rs with
   | nil=>cases er
   | cons q rs=>
    cases er
    have hq:=hr q List.mem_cons_self
    exact⟨m,(q.den:Int),rfl,m0,den_p q,(dvd_bt bm (by omega) bB).mono (by decide),(dvd_bt hq (by omega) bB).mono (by decide),hN _ _ ⟨rfl,rs,_,_,rfl,rfl,hm,lcm_pos' m0 (den_p q),Int.coe_lcm_dvd bm hq,fun p hp=>hr p (List.mem_cons_of_mem _ hp)⟩⟩
  ·rintro L S1 ⟨rfl,rs,m,l2,rfl,er,hm,_⟩
   cases rs with
   | nil=>rw [hm] at w; exact w
   | cons _ _=>cases er
def Dn (B:Int) (T:Nat) (c:List (List Int×Rat)):Prop:=∀ p∈c,∃ t:Int,Bt T t/\(B:Rat)*p.2=t
theorem Dn.dv {B:Int} {T:Nat} {c:List (List Int×Rat)} (h:Dn B T c) (b0:B≠0):∀ q∈c.map (·.2),(q.den:Int) ∣ B:=fun q hq=>by
 obtain⟨p,hp,rfl⟩:=List.mem_map.mp hq
 obtain⟨t,_,e⟩:=h p hp
 exact den_dv b0 e
theorem Dn.sz {B:Int} {T n:Nat} {c:List (List Int×Rat)} (h:Dn B T c) (B0:0 < B) (bB:Bt n B) (hT:T<=n):∀ p∈c,Sz n p.2:=fun p hp=>by
 obtain⟨t,bt,e⟩:=h p hp
 have r0:(B:Rat)≠0:=fun z=>by
  have:B=0:=Rat.intCast_inj.mp (by rw [z]; rfl)
  omega
 have:p.2=Rat.divInt t B:=by
  rw [Rat.divInt_eq_div,<- e]
  grind
 rw [this]
 exact Sz.divInt (bt.mono hT) bB (by omega)
def F_tops_over:DSp:=fun ds S k=>∃ (a:Addr) (c:List (List Int×Rat)) (ep:Nat) (B:Int),ds=[.ref a,.int B]/\S a=some (dTo (cvD c) ep)/\(c.map (·.1)).Nodup/\c.length<=100/\(∀ p∈c,Sz 4000 p.2)/\Bt 4000 B/\∀ S' p ep',Ext S S'->S' p=some (dTo (tpD (c.map fun x=>(x.1,topI B x.2))) ep')->k (.ref p) S'
theorem sc_tops_over:FnScope ["curve","bottom","tops","key","fraction"] ["curve","bottom"] (defScope s_tops_over):=scm
theorem ok_tops_over (Fn:Fun K "tops_over" "tops_over" s_tops_over f fd):
  FnOk P w K mg base CX0 1 f fd ["curve","bottom"] (spU K F_tops_over):=by
 refine Fn.okJ sc_tops_over (fun ds S k h=>?_) (fun cdv A outer s H E hr=>⟨_,(ds_consj (dst_setj (i:=2) sc_tops_over.nd d_dnewj) (ds_consj (dst_forIj PassesOwn.never rfl (i_itemsj (d_varj 0)) (dg_seqE (n:=2) rfl (dgs_consj (dg_namej (i:=3) sc_tops_over.nd) (dgs_consj (dg_namej (i:=4) sc_tops_over.nd) dgs_nilj))) (ds_onej (dst_asgj (d_opj o_mul (d_ixj x_ixE (d_varj 4) d_intj (fun _ _=>rfl)) (d_opj o_div (d_varj 1) (d_ixj x_ixE (d_varj 4) d_intj (fun _ _=>rfl)))) (dg_subD hr (d_varj 2) (d_varj 3))))) (ds_onej (dst_retj (d_varj 2))))),fun ds S k h=>?_⟩)
 ·obtain⟨_,_,_,_,rfl,_⟩:=h
  rfl
 ·obtain⟨a,c,ep,B,rfl,ha,nd,hl,hz,bB,w⟩:=h
  refine fun p hp e0=>⟨_,_,put_keep hp ha,?_⟩
  have nap:a≠p:=ne_put ha hp
  refine loop_ix (fun r L S'=>∃ (don rest:List (List Int×Rat)) (e1:Nat) (l2 l3:Option D),c=don++rest/\r=pairsD (cvD rest)/\L=[some (.ref a),some (.int B),some (.ref p),l2,l3]/\Ext S S'/\S' a=some (dTo (cvD c) ep)/\S' p=some (dTo (tpD (don.map fun x=>(x.1,topI B x.2))) e1)) (fun r L S' ⟨_,_,_,_,_,_,_,_,_,h,_⟩=>h) ?_ ?_ _ _ _ ⟨[],c,e0,none,none,rfl,rfl,rfl,Ext.new hp,put_keep hp ha,put_same⟩
  ·rintro d r L S1 N1 ⟨don,rest,e1,l2,l3,ec,er,rfl,x1,a1,p1⟩ hN
   cases rest with
   | nil=>cases er
   | cons q rest=>
    cases er
    have nq:=nd_mid (p:=q) (ec▸nd)
    have hd:don.length < 100:=by have:=congrArg List.length ec; rw [List.length_append,List.length_cons] at this; omega
    have sq:Sz 4000 q.2:=hz q (by rw [ec]; simp)
    have nk:q.1∉(don.map fun x=>(x.1,topI B x.2)).map (·.1):=by rw [List.map_map]; exact nq
    refine⟨([keyD q.1,fr q.2],none),rfl,rfl,rfl,dok (by have:=den_p q.2; omega) sq.den,mok sq.num (bB.le (HM.natAbs_fdiv_le _ _)),_,_,_,p1,rfl,by rw [kvD_len,List.length_map]; exact lim (by omega),fun e2=>hN _ _ ⟨don++[q],rest,e2,_,_,by rw [ec]; simp,rfl,rfl,x1.put hp,by rw [put_ne nap]; exact a1,?_⟩⟩
    refine put_same.trans ?_
    have z:=putT_app (f:=D.int) (x:=topI B q.2) nk
    show some (DO.gen (Gen.dT (putT _ q.1 (D.int (topI B q.2))) e2))=_
    rw [z]
    simp
  ·rintro L S1 ⟨don,rest,e1,l2,l3,ec,er,rfl,x1,a1,p1⟩
   cases rest with
   | cons q rest=>cases er
   | nil=>
    rw [List.append_nil] at ec
    subst ec
    exact w S1 p e1 x1 p1
structure Gp (l:List (List Int×Int)) (g:Int):Prop where
 dv:∀ p∈l,g ∣ p.2
 mx:∀ d:Int,(∀ p∈l,d ∣ p.2)->d ∣ g
 nn:0<=g
theorem Gp.nil:Gp [] 0:=⟨(by simp),(fun d _=>Int.dvd_zero d),Int.le_refl 0⟩
theorem Gp.snoc {l:List (List Int×Int)} {g:Int} {p:List Int×Int} (h:Gp l g):Gp (l++[p]) ((Int.gcd g p.2:Nat):Int):=by
 refine⟨fun q hq=>?_,fun d hd=>Int.dvd_coe_gcd (h.mx d fun q hq=>hd q (List.mem_append_left _ hq)) (hd p (by simp)),by omega⟩
 rcases List.mem_append.mp hq with m | m
 ·exact Int.dvd_trans (Int.gcd_dvd_left ..) (h.dv q m)
 ·have e:q=p:=by simpa using m
  rw [e]
  exact Int.gcd_dvd_right ..
theorem sgn_ok {g x:Int} (h:g ∣ x) (h0:x≠0) (hs:(x < 0->g < 0)/\(0 < x->0 < g)):0 < x.fdiv g:=by
 obtain⟨y,rfl⟩:=h
 have g0:g≠0:=fun z=>h0 (by rw [z,Int.zero_mul])
 rw [Int.mul_fdiv_cancel_left y g0]
 rcases Int.lt_trichotomy (g*y) 0 with c | c | c
 ·have:=hs.1 c
  exact Int.pos_of_mul_neg_left (Int.mul_comm g y▸c) (by omega)
 ·exact absurd c h0
 ·have:=hs.2 c
  exact Int.pos_of_mul_pos_left (Int.mul_comm g y▸c) (by omega)
def F_normal_of_tops:DSp:=fun ds S k=>∃ (a:Addr) (ts:List (List Int×Int)) (ep:Nat),ds=[.ref a]/\S a=some (dTo (tpD ts) ep)/\(ts.map (·.1)).Nodup/\ts.length<=100/\ts≠[]/\(∀ p∈ts,∃ i j,p.1=[i,j])/\(∀ p∈ts,p.2≠0/\Bt 8000 p.2)/\
 ∀ S' p ep' g,Ext S S'->g≠0->(∀ p∈ts,g ∣ p.2)->(∀ d:Int,(∀ p∈ts,d ∣ p.2)->d ∣ g)->(∃ m∈ts,(∀ q∈ts,gtP q.1 m.1=false)/\0 < m.2.fdiv g)->S' p=some (dTo (nmD (ts.map fun x=>(x.1,x.2.fdiv g))) ep')->k (.ref p) S'
theorem sc_normal_of_tops:FnScope ["tops","shared","top","told","key"] ["tops"] (defScope s_normal_of_tops):=scm
theorem ok_normal_of_tops (Fn:Fun K "normal_of_tops" "normal_of_tops" s_normal_of_tops f fd) (c_common_divisor:Own P w K mg base "common_divisor" 1 F_common_divisor) (z_max:mg "max"=none):
  FnOk P w K mg base CX0 2 f fd ["tops"] (spU K F_normal_of_tops):=by
 refine Fn.okJ sc_normal_of_tops (fun ds S k h=>?_) (fun cdv A outer s H E hr=>⟨_,(ds_consj (dst_setj (i:=1) sc_normal_of_tops.nd d_intj) (ds_consj (dst_forIj PassesOwn.never rfl (i_valsj (d_varj 0)) (dg_namej (i:=2) sc_normal_of_tops.nd) (ds_onej (dst_setj (i:=1) sc_normal_of_tops.nd (dq c_common_divisor hr (da_consj (d_varj 1) (da_consj (d_varj 2) da_nilj)))))) (ds_consj (dst_ifj (dt_cmpj o_lt (d_dgetj hr (d_varj 0) (d_callBj (b_maxD hr) rfl z_max bt_max (da_consj (d_varj 0) da_nilj)) (fun _ _=>rfl)) d_intj (nomark _)) (ds_onej (dst_setj (i:=1) sc_normal_of_tops.nd (d_unj o_neg (d_varj 1)))) ds_nilj) (ds_consj (dst_setj (i:=3) sc_normal_of_tops.nd d_dnewj) (ds_consj (dst_forIj PassesOwn.never rfl (i_itemsj (d_varj 0)) (dg_seqE (n:=2) rfl (dgs_consj (dg_namej (i:=4) sc_normal_of_tops.nd) (dgs_consj (dg_namej (i:=2) sc_normal_of_tops.nd) dgs_nilj))) (ds_onej (dst_asgj (d_tupj (da_consj (d_opj o_div (d_varj 2) (d_varj 1)) (da_consj d_intj da_nilj))) (dg_subD hr (d_varj 3) (d_varj 4))))) (ds_onej (dst_retj (d_varj 3)))))))),fun ds S k h=>?_⟩)
 ·obtain⟨_,_,_,rfl,_⟩:=h
  rfl
 ·obtain⟨a,ts,ep,rfl,ha,nd,hl,ne,two,hz,w⟩:=h
  refine⟨_,_,ha,?_⟩
  refine loop_ix (fun r L S'=>S'=S/\∃ (don rest:List (List Int×Int)) (g:Int) (l2:Option D),ts=don++rest/\r=rest.map (fun p=>D.int p.2)/\L=[some (.ref a),some (.int g),l2,none,none]/\Gp don g) (fun r L S' ⟨e,_⟩=>by rw [e]; exact ha) ?_ ?_ _ _ _ ⟨rfl,[],ts,0,none,rfl,by show List.map _ (List.map _ ts)=_; rw [List.map_map]; rfl,rfl,Gp.nil⟩
  ·rintro d r L S1 N1 ⟨rfl,don,rest,g,l2,ec,er,rfl,hg⟩ hN
   cases rest with
   | nil=>cases er
   | cons q rest=>
    cases er
    exact hN _ _ ⟨rfl,don++[q],rest,_,_,by rw [ec]; simp,rfl,rfl,hg.snoc⟩
  ·rintro L S1 ⟨rfl,don,rest,g,l2,ec,er,rfl,hg⟩
   cases rest with
   | cons q rest=>cases er
   | nil=>
    rw [List.append_nil] at ec
    subst ec
    have mk:∀ m∈tpD ts,∃ x∈ts,m=(x.1,D.int x.2):=fun m hm=>by
     obtain⟨x,hx,rfl⟩:=List.mem_map.mp hm
     exact⟨x,hx,rfl⟩
    have rest:∀ g':Int,g'≠0->(∀ p∈ts,g' ∣ p.2)->(∀ d:Int,(∀ p∈ts,d ∣ p.2)->d ∣ g')->(∃ m∈ts,(∀ q∈ts,gtP q.1 m.1=false)/\0 < m.2.fdiv g')->
      (dSeq (dSet 3 dDNew) (dSeq (dForI (srcD (dVar 0) pairsD) (dgSeqE 2 (dgCons (dgName 4) (dgCons (dgName 2) dgNil))) (dAsg (dTup (dCons (dOp dDiv (dVar 2) (dVar 1)) (dCons (dC (D.int 1)) dNil))) (dgSubD (dVar 3) (dVar 4)))) (dRet (dVar 3)))) {nx:=fun _ S'=>k D.non S',rt:=k} [some (D.ref a),some (D.int g'),l2,none,none] S1:=by
     intro g' g0 gd gm gs
     have gb:Bt 8000 g':=by
      obtain⟨m,hm,_⟩:=gs
      exact dvd_bt (gd m hm) (hz m hm).1 (hz m hm).2
     refine fun p hp e0=>⟨_,_,put_keep hp ha,?_⟩
     have nap:a≠p:=ne_put ha hp
     refine loop_ix (fun r L S'=>∃ (don rest:List (List Int×Int)) (e1:Nat) (l2 l3:Option D),ts=don++rest/\r=pairsD (tpD rest)/\L=[some (.ref a),some (.int g'),l2,some (.ref p),l3]/\Ext S1 S'/\S' a=some (dTo (tpD ts) ep)/\S' p=some (dTo (nmD (don.map fun x=>(x.1,x.2.fdiv g'))) e1)) (fun r L S' ⟨_,_,_,_,_,_,_,_,_,h,_⟩=>h) ?_ ?_ _ _ _ ⟨[],ts,e0,l2,none,rfl,rfl,rfl,Ext.new hp,put_keep hp ha,put_same⟩
     ·rintro d r L S2 N1 ⟨don,rest,e1,l2,l3,ec,er,rfl,x1,a1,p1⟩ hN
      cases rest with
      | nil=>cases er
      | cons q rest=>
       cases er
       have nq:=nd_mid (p:=q) (ec▸nd)
       have hd:don.length < 100:=by have:=congrArg List.length ec; rw [List.length_append,List.length_cons] at this; omega
       have nk:q.1∉(don.map fun x=>(x.1,x.2.fdiv g')).map (·.1):=by rw [List.map_map]; exact nq
       refine⟨([keyD q.1,.int q.2],none),rfl,rfl,rfl,dok g0 gb,few,_,_,_,p1,rfl,by rw [kvD_len,List.length_map]; exact lim (by omega),fun e2=>hN _ _ ⟨don++[q],rest,e2,_,_,by rw [ec]; simp,rfl,rfl,x1.put hp,by rw [put_ne nap]; exact a1,?_⟩⟩
       refine put_same.trans ?_
       have z:=putT_app (f:=fun n:Int=>D.tup [.int n,.int 1]) (x:=q.2.fdiv g') nk
       show some (DO.gen (Gen.dT (putT _ q.1 (D.tup [.int (q.2.fdiv g'),.int 1])) e2))=_
       rw [z]
       simp
     ·rintro L S2 ⟨don,rest,e1,l2,l3,ec,er,rfl,x1,a1,p1⟩
      cases rest with
      | cons q rest=>cases er
      | nil=>
       rw [List.append_nil] at ec
       subst ec
       exact w S2 p e1 g' x1 g0 gd gm gs p1
    refine⟨_,_,ha,fun z=>ne (List.map_eq_nil_iff.mp z),fun m hm=>?_,fun m hm mx=>?_⟩
    ·obtain⟨x,hx,rfl⟩:=mk m hm
     exact two x hx
    ·obtain⟨x,hx,rfl⟩:=mk m hm
     have g0:g≠0:=fun z=>by
      have:=hg.dv x hx
      rw [z] at this
      exact(hz x hx).1 (Int.zero_dvd.mp this)
     have mx':∀ q∈ts,gtP q.1 x.1=false:=fun q hq=>mx (q.1,.int q.2) (List.mem_map.mpr ⟨q,hq,rfl⟩)
     have gn:=hg.nn
     refine⟨_,_,x.1,_,ha,rfl,getT_some nd hx,ite_dec (fun neg=>rest (-g) (by omega) (fun p hp=>Int.neg_dvd.mpr (hg.dv p hp)) (fun d hd=>Int.dvd_neg.mpr (hg.mx d hd)) ⟨x,hx,mx',sgn_ok (Int.neg_dvd.mpr (hg.dv x hx)) (hz x hx).1 ⟨fun _=>by omega,fun z=>by omega⟩⟩) (fun pos=>rest g g0 hg.dv hg.mx ⟨x,hx,mx',sgn_ok (hg.dv x hx) (hz x hx).1 ⟨fun z=>absurd z pos,fun _=>by omega⟩⟩)⟩
def F_normal:DSp:=fun ds S k=>∃ (a:Addr) (c:List (List Int×Rat)) (ep:Nat) (B0:Int),ds=[.ref a]/\S a=some (dTo (cvD c) ep)/\(c.map (·.1)).Nodup/\c.length<=100/\c≠[]/\(∀ p∈c,∃ i j,p.1=[i,j])/\(∀ p∈c,p.2≠0)/\0 < B0/\Bt 600 B0/\Dn B0 600 c/\∀ S' p ep' ns,Ext S S'->Nrm c ns->S' p=some (dTo (nmD ns) ep')->k (.ref p) S'
theorem sc_normal:FnScope ["curve"] ["curve"] (defScope s_normal):=scm
theorem ok_normal (Fn:Fun K "normal" "normal" s_normal f fd) (c_normal_of_tops:Own P w K mg base "normal_of_tops" 2 F_normal_of_tops) (c_tops_over:Own P w K mg base "tops_over" 1 F_tops_over) (c_common_bottom:Own P w K mg base "common_bottom" 3 F_common_bottom) (z_len:mg "len"=none) (z_list:mg "list"=none):
  FnOk P w K mg base CX0 4 f fd ["curve"] (spU K F_normal):=by
 refine Fn.okJ sc_normal (fun ds S k h=>?_) (fun cdv A outer s H E hr=>⟨_,(ds_consj (dst_ifj (dt_cmpj o_eq (d_callBj b_lenD rfl z_len bt_len (da_consj (d_varj 0) da_nilj)) d_intj (nomark _)) (ds_onej dst_neverj) ds_nilj) (ds_onej (dst_retj (dq c_normal_of_tops hr (da_consj (dq c_tops_over hr (da_consj (d_varj 0) (da_consj (dq c_common_bottom hr (da_consj (d_listVj rfl rfl z_list (d_varj 0)) da_nilj)) da_nilj))) da_nilj))))),fun ds S k h=>?_⟩)
 ·obtain⟨_,_,_,_,rfl,_⟩:=h
  rfl
 ·obtain⟨a,c,ep,B1,rfl,ha,nd,hl,ne,two,n0,B1p,bB1,hD,w⟩:=h
  have hz:∀ p∈c,p.2≠0/\Sz 600 p.2:=fun p hp=>⟨n0 p hp,hD.sz B1p bB1 (by decide) p hp⟩
  have l0:((cvD c).length:Int)≠0:=by rw [kvD_len]; exact fun z=>ne (List.length_eq_zero_iff.mp (by omega))
  refine⟨_,_,ha,ite_dec (fun z=>absurd z l0) (fun _=>?_)⟩
  refine⟨_,_,ha,fun q hq=>?_⟩
  have x1:Ext S (put S q (.lst ((kvD fr c).map (·.2)))):=Ext.new hq
  have e1:(kvD fr c).map (·.2)=(c.map (·.2)).map fr:=by unfold kvD; rw [List.map_map,List.map_map]; rfl
  have y1:put S q (.lst ((kvD fr c).map (·.2))) q=some (.lst ((c.map (·.2)).map fr)):=by rw [put_same,e1]
  generalize put S q (.lst ((kvD fr c).map (·.2)))=S1 at x1 y1
  have B0:0 < lcB 1 (c.map (·.2)):=lcB_pos (by decide)
  have dvd1:lcB 1 (c.map (·.2)) ∣ B1:=lcB_dv (Int.one_dvd _) (hD.dv (by omega))
  have dv:=(lcB_dvd (qs:=c.map (·.2)) (m:=1)).2
  refine⟨q,_,B1,rfl,y1,B1p,bB1.mono (by decide),hD.dv (by omega),?_⟩
  have bB':Bt 600 (lcB 1 (c.map (·.2))):=dvd_bt dvd1 (by omega) bB1
  clear dvd1
  generalize lcB 1 (c.map (·.2))=B at B0 bB' dv
  have dv':∀ p∈c,(p.2.den:Int) ∣ B:=fun p hp=>dv p.2 (List.mem_map.mpr ⟨p,hp,rfl⟩)
  have top0:∀ p∈c,topI B p.2≠0:=fun p hp z=>by
   have e:=topI_eq (dv' p hp)
   rw [z] at e
   have b0:(B:Rat)≠0:=fun y=>by
    have:B=0:=Rat.intCast_inj.mp (by rw [y]; rfl)
    omega
   have p0:=(hz p hp).1
   have e2:(B:Rat)*p.2=0:=by rw [<- e]; rfl
   rcases Rat.mul_eq_zero.mp e2 with y | y
   ·exact b0 y
   ·exact p0 y
  refine⟨a,c,ep,B,rfl,x1 _ _ ha,nd,by omega,fun p hp=>(hz p hp).2.mono (by decide),bB'.mono (by decide),fun S2 p2 e2 x2 h2=>?_⟩
  have tk:(c.map fun x=>(x.1,topI B x.2)).map (·.1)=c.map (·.1):=by rw [List.map_map]; rfl
  refine⟨p2,_,e2,rfl,h2,by rw [tk]; exact nd,by rw [List.length_map]; omega,fun z=>ne (List.map_eq_nil_iff.mp z),fun p hp=>?_,fun p hp=>?_,fun S3 p3 e3 g x3 g0 gd gm gs h3=>?_⟩
  ·obtain⟨x,hx,rfl⟩:=List.mem_map.mp hp
   exact two x hx
  ·obtain⟨x,hx,rfl⟩:=List.mem_map.mp hp
   exact⟨top0 x hx,(((hz x hx).2.num).mul (bB'.le (HM.natAbs_fdiv_le _ _))).mono (by decide)⟩
  ·have n1:Nrm c (c.map fun p=>(p.1,(topI B p.2).fdiv g)):=nrm_of (by omega) dv' g0 (fun p hp=>gd (p.1,topI B p.2) (List.mem_map.mpr ⟨p,hp,rfl⟩)) (fun d hd=>gm d fun p hp=>by
     obtain⟨x,hx,rfl⟩:=List.mem_map.mp hp
     exact hd x hx) (by
     obtain⟨m,hm,mx,pos⟩:=gs
     obtain⟨x,hx,rfl⟩:=List.mem_map.mp hm
     exact⟨x,hx,fun q hq=>mx (q.1,topI B q.2) (List.mem_map.mpr ⟨q,hq,rfl⟩),pos⟩)
   rw [List.map_map] at h3
   exact w S3 p3 e3 _ ((x1.trans x2).trans x3) n1 h3
theorem mergeT_go {α:Type} {f:α->D}:∀ {rest don:List (List Int×α)},((don++rest).map (·.1)).Nodup->mergeT (kvD f don) (kvD f rest)=kvD f (don++rest)
 | [],don,_=>by rw [List.append_nil]; rfl
 | p::rest,don,nd=>by
  have e:mergeT (kvD f don) (kvD f (p::rest))=mergeT (putT (kvD f don) p.1 (f p.2)) (kvD f rest):=rfl
  rw [e,putT_app (nd_mid nd),mergeT_go (by rw [List.append_assoc]; exact nd),List.append_assoc]
  rfl
theorem mergeT_nd {α:Type} {f:α->D} {l:List (List Int×α)} (h:(l.map (·.1)).Nodup):mergeT [] (kvD f l)=kvD f l:=mergeT_go (f:=f) (don:=[]) h
abbrev ln3 (a b r:Rat):List (List Int×Rat):=[([1,0],a),([0,1],b),([0,0],r)]
theorem dn_of {w m:Nat} {c:List (List Int×Rat)} (hz:∀ p∈c,Sz w p.2) (hl:c.length<=m):∃ B,0 < B/\Bt (1+w*m) B/\Dn B (w+(1+w*m)) c:=by
 have z:=lcB_bt (w:=w) (qs:=c.map (·.2)) (m:=1) (n:=1) (by decide) (by decide) (fun q hq=>by
  obtain⟨p,hp,rfl⟩:=List.mem_map.mp hq
  exact hz p hp)
 have bB:=z.2.mono (show 1+w*(c.map (·.2)).length<=1+w*m by rw [List.length_map]; exact Nat.add_le_add_left (Nat.mul_le_mul_left _ hl) _)
 exact⟨_,z.1,bB,fun p hp=>⟨topI (lcB 1 (c.map (·.2))) p.2,(hz p hp).num.mul (bB.le (HM.natAbs_fdiv_le _ _)),(topI_eq ((lcB_dvd (m:=1)).2 _ (List.mem_map_of_mem hp))).symm⟩⟩
theorem Dn.up {B:Int} {T T':Nat} {c:List (List Int×Rat)} (h:Dn B T c) (hT:T<=T'):Dn B T' c:=fun p hp=>by
 obtain⟨t,bt,e⟩:=h p hp
 exact⟨t,bt.mono hT,e⟩
def F_line_from:DSp:=fun ds S k=>∃ x y a b:Rat,ds=[W x y,W a b]/\Sz 200 x/\Sz 200 y/\Sz 40 a/\Sz 40 b/\∀ S' p ep',Ext S S'->S' p=some (dTo (cvD (nz (ln3 a b (-(x*a+y*b))))) ep')->k (.ref p) S'
theorem sc_line_from:FnScope ["place","across"] ["place","across"] (defScope s_line_from):=scm
theorem ok_line_from (Fn:Fun K "line_from" "line_from" s_line_from f fd) (c_without_noughts:Own P w K mg base "without_noughts" 1 F_without_noughts) (c_negative:Own P w K mg base "negative" 1 F_negative) (c_product_of_ways:Own P w K mg base "product_of_ways" 4 F_product_of_ways):
  FnOk P w K mg base CX0 5 f fd ["place","across"] (spU K F_line_from):=by
 refine Fn.okJ sc_line_from (fun ds S k h=>?_) (fun cdv A outer s H E hr=>⟨_,(ds_onej (dst_retj (dq c_without_noughts hr (da_consj (d_dispj hr (pj_cons (d_tupj (da_consj d_intj (da_consj d_intj da_nilj))) (d_ixj x_ixE (d_varj 1) d_intj (fun _ _=>rfl)) (pj_cons (d_tupj (da_consj d_intj (da_consj d_intj da_nilj))) (d_ixj x_ixE (d_varj 1) d_intj (fun _ _=>rfl)) (pj_cons (d_tupj (da_consj d_intj (da_consj d_intj da_nilj))) (dq c_negative hr (da_consj (dq c_product_of_ways hr (da_consj (d_varj 0) (da_consj (d_varj 1) da_nilj))) da_nilj)) pj_nil)))) da_nilj)))),fun ds S k h=>?_⟩)
 ·obtain⟨_,_,_,_,rfl,_⟩:=h
  rfl
 ·obtain⟨x,y,a,b,rfl,hx,hy,ha,hb,w⟩:=h
  refine fun p hp e0=>⟨few,few,few,x,y,a,b,rfl,hx.mono (by decide),hy.mono (by decide),ha.mono (by decide),hb.mono (by decide),_,rfl,e0,cvD (ln3 a b (-(x*a+y*b))),put_same,rfl,by show 3<=15; decide,fun e1=>?_⟩
  refine⟨p,ln3 a b (-(x*a+y*b)),e1,rfl,by rw [put_same,mergeT_nd (f:=fr) (l:=ln3 a b (-(x*a+y*b))) (by show(([[1,0],[0,1],[0,0]]:List (List Int))).Nodup; decide)],(by show(([[1,0],[0,1],[0,0]]:List (List Int))).Nodup; decide),by show 3<=100; decide,fun S' q e' xx _ hh=>w S' q e' (((Ext.new hp).put hp).trans xx) hh⟩
abbrev cr5 (x y s:Rat):List (List Int×Rat):=[([2,0],1),([0,2],1),([1,0],-(x+x)),([0,1],-(y+y)),([0,0],x*x+y*y - s)]
theorem cr5_nd {x y s:Rat}:((cr5 x y s).map (·.1)).Nodup:=by show(([[2,0],[0,2],[1,0],[0,1],[0,0]]:List (List Int))).Nodup; decide
theorem ln3_nd {a b r:Rat}:((ln3 a b r).map (·.1)).Nodup:=by show(([[1,0],[0,1],[0,0]]:List (List Int))).Nodup; decide
def F_round_about:DSp:=fun ds S k=>∃ x y s:Rat,ds=[W x y,fr s]/\Sz 40 x/\Sz 40 y/\Sz 100 s/\∀ S' p ep',Ext S S'->S' p=some (dTo (cvD (nz (cr5 x y s))) ep')->k (.ref p) S'
theorem sc_round_about:FnScope ["place","square","x","y","rest"] ["place","square"] (defScope s_round_about):=scm
theorem ok_round_about (Fn:Fun K "round_about" "round_about" s_round_about f fd) (c_plus:Own P w K mg base "plus" 3 F_plus) (c_minus:Own P w K mg base "minus" 3 F_minus) (c_product_of_ways:Own P w K mg base "product_of_ways" 4 F_product_of_ways) (c_without_noughts:Own P w K mg base "without_noughts" 1 F_without_noughts) (c_negative:Own P w K mg base "negative" 1 F_negative) (g_ONE:GTup K mg "ONE" [1,1]):
  FnOk P w K mg base CX0 5 f fd ["place","square"] (spU K F_round_about):=by
 refine Fn.okJ sc_round_about (fun ds S k h=>?_) (fun cdv A outer s H E hr=>⟨_,(ds_consj (dst_setj (i:=2) sc_round_about.nd (dq c_plus hr (da_consj (d_ixj x_ixE (d_varj 0) d_intj (fun _ _=>rfl)) (da_consj (d_ixj x_ixE (d_varj 0) d_intj (fun _ _=>rfl)) da_nilj)))) (ds_consj (dst_setj (i:=3) sc_round_about.nd (dq c_plus hr (da_consj (d_ixj x_ixE (d_varj 0) d_intj (fun _ _=>rfl)) (da_consj (d_ixj x_ixE (d_varj 0) d_intj (fun _ _=>rfl)) da_nilj)))) (ds_consj (dst_setj (i:=4) sc_round_about.nd (dq c_minus hr (da_consj (dq c_product_of_ways hr (da_consj (d_varj 0) (da_consj (d_varj 0) da_nilj))) (da_consj (d_varj 1) da_nilj)))) (ds_onej (dst_retj (dq c_without_noughts hr (da_consj (d_dispj hr (pj_cons (d_tupj (da_consj d_intj (da_consj d_intj da_nilj))) (d_gtup g_ONE rfl) (pj_cons (d_tupj (da_consj d_intj (da_consj d_intj da_nilj))) (d_gtup g_ONE rfl) (pj_cons (d_tupj (da_consj d_intj (da_consj d_intj da_nilj))) (dq c_negative hr (da_consj (d_varj 2) da_nilj)) (pj_cons (d_tupj (da_consj d_intj (da_consj d_intj da_nilj))) (dq c_negative hr (da_consj (d_varj 3) da_nilj)) (pj_cons (d_tupj (da_consj d_intj (da_consj d_intj da_nilj))) (d_varj 4) pj_nil)))))) da_nilj))))))),fun ds S k h=>?_⟩)
 ·obtain⟨_,_,_,rfl,_⟩:=h
  rfl
 ·obtain⟨x,y,s,rfl,hx,hy,hs,w⟩:=h
  refine⟨x,x,rfl,hx.mono (by decide),hx.mono (by decide),y,y,rfl,hy.mono (by decide),hy.mono (by decide),x,y,x,y,rfl,hx.mono (by decide),hy.mono (by decide),hx.mono (by decide),hy.mono (by decide),_,s,rfl,(((hx.mul hx).add (hy.mul hy))).mono (by decide),hs.mono (by decide),?_⟩
  refine fun p hp e0=>⟨few,few,few,_,rfl,few,_,rfl,few,e0,cvD (cr5 x y s),put_same,rfl,by show 5<=15; decide,fun e1=>?_⟩
  exact⟨p,cr5 x y s,e1,rfl,by rw [put_same,mergeT_nd (f:=fr) (l:=cr5 x y s) cr5_nd],cr5_nd,by show 5<=100; decide,fun S' q e' xx _ hh=>w S' q e' (((Ext.new hp).put hp).trans xx) hh⟩
theorem nz_mem {l:List (List Int×Rat)} {p:List Int×Rat}:p∈nz l↔p∈l/\p.2≠0:=by
 rw [List.mem_filter]
 simp
theorem nz_len {l:List (List Int×Rat)}:(nz l).length<=l.length:=List.length_filter_le _ _
theorem two3 {a b r:Rat}:∀ p∈ln3 a b r,∃ i j,p.1=[i,j]:=by
 intro p hp
 simp only [List.mem_cons,List.not_mem_nil,or_false] at hp
 rcases hp with rfl | rfl | rfl <;> exact⟨_,_,rfl⟩
theorem two5 {a b r:Rat}:∀ p∈cr5 a b r,∃ i j,p.1=[i,j]:=by
 intro p hp
 simp only [List.mem_cons,List.not_mem_nil,or_false] at hp
 rcases hp with rfl | rfl | rfl | rfl | rfl <;> exact⟨_,_,rfl⟩
theorem all3 {a b r:Rat} {P:Rat->Prop} (ha:P a) (hb:P b) (hr:P r):∀ p∈ln3 a b r,P p.2:=by
 intro p hp
 simp only [List.mem_cons,List.not_mem_nil,or_false] at hp
 rcases hp with rfl | rfl | rfl <;> assumption
theorem sq_or {a b:Rat} (h:a*a+b*b≠0):a≠0\/b≠0:=by
 by_cases z:a=0
 ·refine .inr fun y=>h ?_
  rw [z,y]
  grind
 ·exact .inl z
theorem ln3_ne {a b r:Rat} (h:a*a+b*b≠0):nz (ln3 a b r)≠[]:=by
 rcases sq_or h with z | z
 ·exact List.ne_nil_of_mem (nz_mem.mpr ⟨List.mem_cons_self,z⟩)
 ·exact List.ne_nil_of_mem (nz_mem.mpr ⟨List.mem_cons_of_mem _ List.mem_cons_self,z⟩)
abbrev lnP (x y z v:Rat):List (List Int×Rat):=ln3 (-(v - y)) (z - x) (-(x*-(v - y)+y*(z - x)))
def F_line_through:DSp:=fun ds S k=>∃ x y z v:Rat,ds=[PP x y,PP z v]/\Sz 4 x/\Sz 4 y/\Sz 4 z/\Sz 4 v/\(z - x)*(z - x)+(v - y)*(v - y)≠0/\∀ S' p ep' ns,Ext S S'->Nrm (nz (lnP x y z v)) ns->S' p=some (dTo (nmD ns) ep')->k (.ref p) S'
theorem sc_line_through:FnScope ["one","other","place","way"] ["one","other"] (defScope s_line_through):=scm
theorem ok_line_through (Fn:Fun K "line_through" "line_through" s_line_through f fd) (c_place_of:Own P w K mg base "place_of" 1 F_place_of) (c_plain_way:Own P w K mg base "plain_way" 4 F_plain_way) (c_square_of_unlike:Own P w K mg base "square_of_unlike" 5 F_square_of_unlike) (c_normal:Own P w K mg base "normal" 4 F_normal) (c_line_from:Own P w K mg base "line_from" 5 F_line_from) (c_negative:Own P w K mg base "negative" 1 F_negative):
  FnOk P w K mg base CX0 6 f fd ["one","other"] (spU K F_line_through):=by
 refine Fn.okJ sc_line_through (fun ds S k h=>?_) (fun cdv A outer s H E hr=>⟨_,(ds_consj (dst_setj (i:=2) sc_line_through.nd (dq c_place_of hr (da_consj (d_varj 0) da_nilj))) (ds_consj (dst_setj (i:=3) sc_line_through.nd (dq c_plain_way hr (da_consj (d_varj 2) (da_consj (dq c_place_of hr (da_consj (d_varj 1) da_nilj)) da_nilj)))) (ds_consj (dst_exprj (dq c_square_of_unlike hr (da_consj (d_varj 3) da_nilj))) (ds_onej (dst_retj (dq c_normal hr (da_consj (dq c_line_from hr (da_consj (d_varj 2) (da_consj (d_tupj (da_consj (dq c_negative hr (da_consj (d_ixj x_ixE (d_varj 3) d_intj (fun _ _=>rfl)) da_nilj)) (da_consj (d_ixj x_ixE (d_varj 3) d_intj (fun _ _=>rfl)) da_nilj))) da_nilj))) da_nilj))))))),fun ds S k h=>?_⟩)
 ·obtain⟨_,_,_,_,rfl,_⟩:=h
  rfl
 ·obtain⟨x,y,z,v,rfl,hx,hy,hz,hv,h0,w⟩:=h
  have sa:=hz.sub hx
  have sb:=hv.sub hy
  have sr:=((hx.mul sb.neg).add (hy.mul sa)).neg
  refine⟨x,y,rfl,z,v,rfl,x,y,z,v,rfl,hx.mono (by decide),hy.mono (by decide),hz.mono (by decide),hv.mono (by decide),_,_,rfl,sa.mono (by decide),sb.mono (by decide),h0,?_⟩
  refine⟨_,rfl,few,x,y,_,_,rfl,hx.mono (by decide),hy.mono (by decide),sb.neg.mono (by decide),sa.mono (by decide),fun S1 p1 e1 x1 h1=>?_⟩
  obtain⟨B1,B1p,bB1,hD⟩:=dn_of (w:=30) (m:=3) (c:=nz (lnP x y z v)) (fun p hp=>all3 (P:=Sz 30) (sb.neg.mono (by decide)) (sa.mono (by decide)) (sr.mono (by decide)) p (nz_mem.mp hp).1) nz_len
  refine⟨p1,_,e1,B1,rfl,h1,nd_filter ln3_nd,Nat.le_trans nz_len (by show 3<=100; decide),ln3_ne (by grind),fun p hp=>two3 p (nz_mem.mp hp).1,fun p hp=>(nz_mem.mp hp).2,B1p,bB1.mono (by decide),hD.up (by decide),fun S2 p2 e2 ns x2 hn h2=>w S2 p2 e2 ns (x1.trans x2) hn h2⟩
def FX_square_of_unlike (cNoMeet:Addr):DSpX:=fun ds S _ x=>∃ a b:Rat,ds=[W a b]/\Sz 900 a/\Sz 900 b/\a*a+b*b=0/\x cNoMeet S
theorem okx_square_of_unlike {P:Program} {w:World} {K:Fg} {mg:Str->Option Value} {base:Heap} {f:Addr} {fd:FuncData} {cNoMeet:Addr} (Fn:Fun K "square_of_unlike" "square_of_unlike" s_square_of_unlike f fd) (c_product_of_ways:Own P w K mg base "product_of_ways" 4 F_product_of_ways) (m_NoMeet:mg "NoMeet"=some (.ref cNoMeet)) (q_NoMeet:PySem.W.excIn K cNoMeet [.type "ValueError",.type "Exception",.type "BaseException",.type "object"] "ValueError.__new__"=true):
  FnOk P w K mg base (CXE P w) 5 f fd ["way"] (spX K (FX_square_of_unlike cNoMeet)):=by
 refine Fn.okX sc_square_of_unlike (fun ds S k x h=>?_) (fun cdv A outer s H E ex hr hE=>⟨_,(ds_consj (dst_setj (i:=1) sc_square_of_unlike.nd (dq c_product_of_ways hr (da_consj (d_varj 0) (da_consj (d_varj 0) da_nilj)))) (ds_consj (dst_ifj (dt_cmpj o_eq (d_ixj x_ixE (d_varj 1) d_intj (fun _ _=>rfl)) d_intj (nomark _)) (ds_onej (dst_raisej hE PySem.F.excBase_ValueError q_NoMeet m_NoMeet rfl)) ds_nilj) (ds_onej (dst_retj (d_varj 1))))),fun ds S k h=>?_⟩)
 ·obtain⟨_,_,rfl,_⟩:=h
  rfl
 ·obtain⟨a,b,rfl,ha,hb,h0,w⟩:=h
  exact⟨a,b,a,b,rfl,ha,hb,ha,hb,ite_dec (fun _=>w) (fun z=>absurd (by rw [h0]; rfl) z)⟩
def FX_line_through (cNoMeet:Addr):DSpX:=fun ds S k e=>∃ x y z v:Rat,ds=[PP x y,PP z v]/\Sz 4 x/\Sz 4 y/\Sz 4 z/\Sz 4 v/\(z - x)*(z - x)+(v - y)*(v - y)=0/\e cNoMeet S
theorem okx_line_through {P:Program} {w:World} {K:Fg} {mg:Str->Option Value} {base:Heap} {f:Addr} {fd:FuncData} {cNoMeet:Addr} (Fn:Fun K "line_through" "line_through" s_line_through f fd) (c_plain_way:Own P w K mg base "plain_way" 4 F_plain_way) (c_place_of:Own P w K mg base "place_of" 1 F_place_of) (cx_square_of_unlike:OwnX P w K mg base "square_of_unlike" 5 (FX_square_of_unlike cNoMeet)):
  FnOk P w K mg base (CXE P w) 6 f fd ["one","other"] (spX K (FX_line_through cNoMeet)):=by
 refine Fn.okX sc_line_through (fun ds S k x h=>?_) (fun cdv A outer s H E ex hr hE=>⟨_,(ds_consj (dst_setj (i:=2) sc_line_through.nd (dq c_place_of hr (da_consj (d_varj 0) da_nilj))) (ds_consj (dst_setj (i:=3) sc_line_through.nd (dq c_plain_way hr (da_consj (d_varj 2) (da_consj (dq c_place_of hr (da_consj (d_varj 1) da_nilj)) da_nilj)))) (ds_consj (dst_exprj (d_callXj hE cx_square_of_unlike (hr.mono (by decide)) rfl (da_consj (d_varj 3) da_nilj))) ds_neverj))),fun ds S k h=>?_⟩)
 ·obtain⟨_,_,_,_,rfl,_⟩:=h
  rfl
 ·obtain⟨x,y,z,v,rfl,hx,hy,hz,hv,h0,w⟩:=h
  have sa:=hz.sub hx
  have sb:=hv.sub hy
  exact⟨x,y,rfl,z,v,rfl,x,y,z,v,rfl,hx.mono (by decide),hy.mono (by decide),hz.mono (by decide),hv.mono (by decide),_,_,rfl,sa.mono (by decide),sb.mono (by decide),h0,w⟩
theorem cr5_ne {x y s:Rat}:nz (cr5 x y s)≠[]:=List.ne_nil_of_mem (nz_mem.mpr ⟨List.mem_cons_self,by decide⟩)
theorem all5 {x y s:Rat} {P:Rat->Prop} (h1:P 1) (ha:P (-(x+x))) (hb:P (-(y+y))) (hr:P (x*x+y*y - s)):∀ p∈cr5 x y s,P p.2:=by
 intro p hp
 simp only [List.mem_cons,List.not_mem_nil,or_false] at hp
 rcases hp with rfl | rfl | rfl | rfl | rfl <;> assumption
def F_circle_about:DSp:=fun ds S k=>∃ x y s:Rat,ds=[PP x y,fr s]/\Sz 4 x/\Sz 4 y/\Sz 40 s/\∀ S' p ep' ns,Ext S S'->Nrm (nz (cr5 x y s)) ns->S' p=some (dTo (nmD ns) ep')->k (.ref p) S'
theorem sc_circle_about:FnScope ["middle","square"] ["middle","square"] (defScope s_circle_about):=scm
theorem ok_circle_about (Fn:Fun K "circle_about" "circle_about" s_circle_about f fd) (c_normal:Own P w K mg base "normal" 4 F_normal) (c_round_about:Own P w K mg base "round_about" 5 F_round_about) (c_place_of:Own P w K mg base "place_of" 1 F_place_of):
  FnOk P w K mg base CX0 6 f fd ["middle","square"] (spU K F_circle_about):=by
 refine Fn.okJ sc_circle_about (fun ds S k h=>?_) (fun cdv A outer s H E hr=>⟨_,(ds_onej (dst_retj (dq c_normal hr (da_consj (dq c_round_about hr (da_consj (dq c_place_of hr (da_consj (d_varj 0) da_nilj)) (da_consj (d_varj 1) da_nilj))) da_nilj)))),fun ds S k h=>?_⟩)
 ·obtain⟨_,_,_,rfl,_⟩:=h
  rfl
 ·obtain⟨x,y,s,rfl,hx,hy,hs,w⟩:=h
  refine⟨x,y,rfl,x,y,s,rfl,hx.mono (by decide),hy.mono (by decide),hs.mono (by decide),fun S1 p1 e1 x1 h1=>?_⟩
  have s1:Sz 60 (1:Rat):=⟨by decide,by decide⟩
  obtain⟨B1,B1p,bB1,hD⟩:=dn_of (w:=60) (m:=5) (c:=nz (cr5 x y s)) (fun p hp=>all5 (P:=Sz 60) s1 ((hx.add hx).neg.mono (by decide)) ((hy.add hy).neg.mono (by decide)) ((((hx.mul hx).add (hy.mul hy)).sub hs).mono (by decide)) p (nz_mem.mp hp).1) nz_len
  refine⟨p1,_,e1,B1,rfl,h1,nd_filter cr5_nd,Nat.le_trans nz_len (by show 5<=100; decide),cr5_ne,fun p hp=>two5 p (nz_mem.mp hp).1,fun p hp=>(nz_mem.mp hp).2,B1p,bB1.mono (by decide),hD.up (by decide),fun S2 p2 e2 ns x2 hn h2=>w S2 p2 e2 ns (x1.trans x2) hn h2⟩
set_option maxHeartbeats 4000000
section
variable {α:Type} {f:α->D}
def gA (z:α) (c:List (List Int×α)) (k:List Int):α:=((c.find? fun p=>decide (p.1=k)).map (·.2)).getD z
theorem gA_none {z:α}:∀ {c:List (List Int×α)} {k:List Int},k∉c.map (·.1)->gA z c k=z
 | [],_,_=>rfl
 | p::l,k,h=>by
  rw [List.map_cons,List.mem_cons,not_or] at h
  have e:gA z (p::l) k=gA z l k:=by simp [gA,List.find?_cons,Ne.symm h.1]
  rw [e]
  exact gA_none h.2
theorem gA_mem {z:α}:∀ {c:List (List Int×α)} {k:List Int} {x:α},(c.map (·.1)).Nodup->(k,x)∈c->gA z c k=x
 | [],_,_,_,h=>nomatch h
 | p::l,k,x,nd,h=>by
  rw [List.map_cons,List.nodup_cons] at nd
  rcases List.mem_cons.mp h with e | m
  ·subst e
   simp [gA]
  ·have ne:p.1≠k:=fun z=>nd.1 (List.mem_map.mpr ⟨_,m,z.symm⟩)
   have e:gA z (p::l) k=gA z l k:=by simp [gA,List.find?_cons,ne]
   rw [e]
   exact gA_mem nd.2 m
theorem getT_gA {z:α} {c:List (List Int×α)} {k:List Int}:(getT (kvD f c) k).getD (f z)=f (gA z c k):=by
 induction c with
 | nil=>rfl
 | cons p l ih=>
  by_cases h:p.1=k
  ·simp [getT,kvD,gA,h]
  ·have e1:getT (kvD f (p::l)) k=getT (kvD f l) k:=by simp [getT,kvD,List.find?_cons,h]
   have e2:gA z (p::l) k=gA z l k:=by simp [gA,List.find?_cons,h]
   rw [e1,e2,ih]
theorem key_or {z:α} {c:List (List Int×α)} (k:List Int) (nd:(c.map (·.1)).Nodup):k∉c.map (·.1)\/(k,gA z c k)∈c:=by
 by_cases h:k∈c.map (·.1)
 ·obtain⟨p,hp,rfl⟩:=List.mem_map.mp h
  exact .inr (by rw [gA_mem (x:=p.2) nd hp]; exact hp)
 ·exact .inl h
end
abbrev gR:=gA (0:Rat)
abbrev gI:=gA (0:Int)
theorem putT_set {l:List (List Int×Rat)} {k:List Int} {x:Rat}:∃ l':List (List Int×Rat),putT (cvD l) k (fr x)=cvD l'/\((l.map (·.1)).Nodup->(l'.map (·.1)).Nodup)/\l'.length<=l.length+1/\(∀ p∈l',p∈l\/p=(k,x))/\(k,x)∈l'/\∀ p∈l,p.1≠k->p∈l':=by
 by_cases h:k∈l.map (·.1)
 ·refine⟨l.map fun p=>if p.1=k then(p.1,x) else p,?_,fun nd=>?_,by rw [List.length_map]; omega,fun p hp=>?_,?_,fun p hp n=>?_⟩
  ·unfold putT
   obtain⟨p,hp,e⟩:=List.mem_map.mp h
   have:(getT (cvD l) k).isSome=true:=by
    have:(cvD l).find? (fun p=>decide (p.1=k))≠none:=fun z=>by
     have:=List.find?_eq_none.mp z (p.1,fr p.2) (List.mem_map.mpr ⟨p,hp,rfl⟩)
     simp [e] at this
    unfold getT
    cases hh:(cvD l).find? (fun p=>decide (p.1=k)) with
    | none=>exact absurd hh this
    | some v=>rfl
   rw [if_pos this]
   unfold cvD kvD
   rw [List.map_map,List.map_map]
   refine List.map_congr_left fun p _=>?_
   show(if p.1=k then(p.1,fr x) else(p.1,fr p.2))=_
   show _=((if p.1=k then(p.1,x) else p).1,fr (if p.1=k then(p.1,x) else p).2)
   split <;> rfl
  ·rw [List.map_map]
   have:((fun p:List Int×Rat=>p.1) ∘ fun p=>if p.1=k then(p.1,x) else p)=fun p=>p.1:=by
    funext p
    show(if p.1=k then(p.1,x) else p).1=p.1
    split <;> rfl
   rw [this]
   exact nd
  ·obtain⟨q,hq,rfl⟩:=List.mem_map.mp hp
   by_cases e:q.1=k
   ·rw [if_pos e,e]
    exact .inr rfl
   ·rw [if_neg e]
    exact .inl hq
  ·obtain⟨p,hp,e⟩:=List.mem_map.mp h
   exact List.mem_map.mpr ⟨p,hp,by rw [if_pos e,e]⟩
  ·exact List.mem_map.mpr ⟨p,hp,by rw [if_neg n]⟩
 ·refine⟨l++[(k,x)],putT_app h,fun nd=>?_,by simp,fun p hp=>?_,by simp,fun p hp _=>by simp [hp]⟩
  ·rw [List.map_append,List.nodup_append]
   refine⟨nd,by simp,fun a ha b hb=>?_⟩
   have:b=k:=by simpa using hb
   rw [this]
   exact fun z=>h (z▸ha)
  ·rcases List.mem_append.mp hp with m | m
   ·exact .inl m
   ·exact .inr (by simpa using m)
theorem nodup_len {α:Type} [BEq α] [LawfulBEq α]:∀ {l l':List α},l.Nodup->(∀ x∈l,x∈l')->l.length<=l'.length
 | [],_,_,_=>Nat.zero_le _
 | a::l,l',nd,h=>by
  rw [List.nodup_cons] at nd
  have ma:=h a List.mem_cons_self
  have z:=nodup_len (l:=l) (l':=l'.erase a) nd.2 fun x hx=>(List.mem_erase_of_ne fun e=>nd.1 (by rw [<- e]; exact hx)).mpr (h x (List.mem_cons_of_mem _ hx))
  rw [List.length_erase_of_mem ma] at z
  have:0 < l'.length:=List.length_pos_of_mem ma
  rw [List.length_cons]
  omega
structure Cv (n m:Nat) (b:Int) (c:List (List Int×Rat)):Prop where
 nd:(c.map (·.1)).Nodup
 hl:c.length<=n
 sm:∀ p∈c,∃ i j:Int,p.1=[i,j]/\0<=i/\0<=j/\i<=b/\j<=b
 hz:∀ p∈c,Sz m p.2
theorem Cv.two {n m:Nat} {b:Int} {c:List (List Int×Rat)} (h:Cv n m b c):∀ p∈c,∃ i j,p.1=[i,j]:=fun p hp=>by
 obtain⟨i,j,e,_⟩:=h.sm p hp
 exact⟨i,j,e⟩
theorem Cv.sz {n m:Nat} {b:Int} {c:List (List Int×Rat)} (h:Cv n m b c) (m0:1<=m) (k:List Int):Sz m (gR c k):=by
 rcases key_or (z:=(0:Rat)) k h.nd with x | x
 ·rw [show gR c k=0 from gA_none x]
  exact Sz.mono (m:=1) ⟨by decide,by decide⟩ m0
 ·exact h.hz _ x
theorem Cv.of_gR {n m m':Nat} {b:Int} {c:List (List Int×Rat)} (h:Cv n m b c) (hz:∀ k,Sz m' (gR c k)):Cv n m' b c:=⟨h.nd,h.hl,h.sm,fun p hp=>by
 have:=hz p.1
 rw [show gR c p.1=p.2 from gA_mem h.nd hp] at this
 exact this⟩
theorem Cv.nil {m:Nat} {b:Int}:Cv 0 m b []:=⟨List.nodup_nil,by decide,fun p h=>(nomatch h),fun p h=>(nomatch h)⟩
theorem Cv.mono {n m n' m':Nat} {b b':Int} {c:List (List Int×Rat)} (h:Cv n m b c) (hn:n<=n') (hm:m<=m') (hb:b<=b'):Cv n' m' b' c:=⟨h.nd,Nat.le_trans h.hl hn,fun p hp=>by
 obtain⟨i,j,e,a1,a2,a3,a4⟩:=h.sm p hp
 exact⟨i,j,e,a1,a2,by omega,by omega⟩,fun p hp=>(h.hz p hp).mono hm⟩
theorem Cv.put {n m:Nat} {b:Int} {c:List (List Int×Rat)} (h:Cv n m b c) {i j:Int} {x:Rat} (i0:0<=i) (j0:0<=j) (i1:i<=b) (j1:j<=b) (hx:Sz m x):∃ c',putT (cvD c) [i,j] (fr x)=cvD c'/\Cv (n+1) m b c'/\∀ k,gR c' k=if k=[i,j] then x else gR c k:=by
 obtain⟨c',e,nd,hl,mm,m1,m2⟩:=putT_set (l:=c) (k:=[i,j]) (x:=x)
 have:=h.hl
 have nd':=nd h.nd
 refine⟨c',e,⟨nd',by omega,fun p hp=>?_,fun p hp=>?_⟩,fun k=>?_⟩
 ·rcases mm p hp with q | rfl
  ·exact h.sm p q
  ·exact⟨i,j,rfl,i0,j0,i1,j1⟩
 ·rcases mm p hp with q | rfl
  ·exact h.hz p q
  ·exact hx
 ·by_cases ek:k=[i,j]
  ·rw [if_pos ek,ek]
   exact gA_mem nd' m1
  ·rw [if_neg ek]
   rcases key_or (z:=(0:Rat)) k h.nd with q | q
   ·rw [show gR c k=0 from gA_none q]
    refine gA_none fun z=>?_
    obtain⟨p,hp,rfl⟩:=List.mem_map.mp z
    rcases mm p hp with y | y
    ·exact q (List.mem_map.mpr ⟨p,y,rfl⟩)
    ·exact ek (by rw [y])
   ·exact gA_mem nd' (m2 _ q ek)
theorem gR_nz {c:List (List Int×Rat)} (nd:(c.map (·.1)).Nodup) (k:List Int):gR (nz c) k=gR c k:=by
 rcases key_or (z:=(0:Rat)) k nd with q | q
 ·rw [show gR c k=0 from gA_none q]
  exact gA_none (mem_ff q)
 ·by_cases z:gR c k=0
  ·rw [z]
   refine gA_none fun y=>?_
   obtain⟨p,hp,rfl⟩:=List.mem_map.mp y
   obtain⟨hp,p0⟩:=nz_mem.mp hp
   exact p0 ((gA_mem nd hp).symm.trans z)
  ·exact gA_mem (nd_filter nd) (nz_mem.mpr ⟨q,z⟩)
structure Res (φ:List Int->Rat) (g:List (List Int×Rat)):Prop where
 nd:(g.map (·.1)).Nodup
 two:∀ p∈g,∃ i j,p.1=[i,j]
 n0:∀ p∈g,p.2≠0
 at_:∀ k,gR g k=φ k
theorem Res.mem {φ:List Int->Rat} {g:List (List Int×Rat)} (h:Res φ g) {p:List Int×Rat}:p∈g↔p.2≠0/\φ p.1=p.2:=by
 refine⟨fun hp=>⟨h.n0 p hp,by rw [<- h.at_ p.1]; exact gA_mem h.nd hp⟩,fun⟨n,e⟩=>?_⟩
 rcases key_or (z:=(0:Rat)) p.1 h.nd with q | q
 ·exact absurd (by rw [<- e,<- h.at_ p.1]; exact gA_none q) n
 ·have:gR g p.1=p.2:=by rw [h.at_ p.1,e]
  rw [show gA 0 g p.1=p.2 from this] at q
  exact q
theorem Res.alike {φ:List Int->Rat} {g g':List (List Int×Rat)} (h:Res φ g) (h':Res φ g'):g.length=g'.length/\∀ p∈g',p∈g:=by
 have s1:∀ p∈g',p∈g:=fun p hp=>h.mem.mpr (h'.mem.mp hp)
 have s2:∀ p∈g,p∈g':=fun p hp=>h'.mem.mpr (h.mem.mp hp)
 have l1:=nodup_len h.nd (l':=g'.map (·.1)) fun x hx=>by
  obtain⟨p,hp,rfl⟩:=List.mem_map.mp hx
  exact List.mem_map.mpr ⟨p,s2 p hp,rfl⟩
 have l2:=nodup_len h'.nd (l':=g.map (·.1)) fun x hx=>by
  obtain⟨p,hp,rfl⟩:=List.mem_map.mp hx
  exact List.mem_map.mpr ⟨p,s1 p hp,rfl⟩
 rw [List.length_map,List.length_map] at l1 l2
 exact⟨by omega,s1⟩
theorem Res.of {n m:Nat} {b:Int} {c:List (List Int×Rat)} {φ:List Int->Rat} (h:Cv n m b c) (e:∀ k,gR c k=φ k):Res φ (nz c):=⟨nd_filter h.nd,fun p hp=>h.two p (nz_mem.mp hp).1,fun p hp=>(nz_mem.mp hp).2,fun k=>by rw [gR_nz h.nd]; exact e k⟩
theorem gA_snoc {z:Rat} {l:List (List Int×Rat)} {q:List Int×Rat} (h:q.1∉l.map (·.1)) (k:List Int):gA z (l++[q]) k=if k=q.1 then q.2 else gA z l k:=by
 unfold gA
 rw [List.find?_append]
 by_cases e:k=q.1
 ·rw [if_pos e]
  have:l.find? (fun p=>decide (p.1=k))=none:=by
   rw [List.find?_eq_none]
   intro p hp
   have:p.1≠k:=fun y=>h (List.mem_map.mpr ⟨p,hp,y.trans e⟩)
   simpa using this
  rw [this]
  simp [e]
 ·rw [if_neg e]
  have:([q]:List (List Int×Rat)).find? (fun p=>decide (p.1=k))=none:=by simp [Ne.symm e]
  rw [this]
  simp
theorem putT_setG {α:Type} {f:α->D} {l:List (List Int×α)} {k:List Int} {x:α}:∃ l':List (List Int×α),putT (kvD f l) k (f x)=kvD f l'/\((l.map (·.1)).Nodup->(l'.map (·.1)).Nodup)/\l'.length<=l.length+1/\(∀ p∈l',p∈l\/p=(k,x))/\(k,x)∈l'/\∀ p∈l,p.1≠k->p∈l':=by
 by_cases h:k∈l.map (·.1)
 ·refine⟨l.map fun p=>if p.1=k then(p.1,x) else p,?_,fun nd=>?_,by rw [List.length_map]; omega,fun p hp=>?_,?_,fun p hp n=>?_⟩
  ·unfold putT
   obtain⟨p,hp,e⟩:=List.mem_map.mp h
   have:(getT (kvD f l) k).isSome=true:=by
    have:(kvD f l).find? (fun p=>decide (p.1=k))≠none:=fun z=>by
     have:=List.find?_eq_none.mp z (p.1,f p.2) (List.mem_map.mpr ⟨p,hp,rfl⟩)
     simp [e] at this
    unfold getT
    cases hh:(kvD f l).find? (fun p=>decide (p.1=k)) with
    | none=>exact absurd hh this
    | some v=>rfl
   rw [if_pos this]
   unfold kvD
   rw [List.map_map,List.map_map]
   refine List.map_congr_left fun p _=>?_
   show(if p.1=k then(p.1,f x) else(p.1,f p.2))=_
   show _=((if p.1=k then(p.1,x) else p).1,f (if p.1=k then(p.1,x) else p).2)
   split <;> rfl
  ·rw [List.map_map]
   have:((fun p:List Int×α=>p.1) ∘ fun p=>if p.1=k then(p.1,x) else p)=fun p=>p.1:=by
    funext p
    show(if p.1=k then(p.1,x) else p).1=p.1
    split <;> rfl
   rw [this]
   exact nd
  ·obtain⟨q,hq,rfl⟩:=List.mem_map.mp hp
   by_cases e:q.1=k
   ·rw [if_pos e,e]
    exact .inr rfl
   ·rw [if_neg e]
    exact .inl hq
  ·obtain⟨p,hp,e⟩:=List.mem_map.mp h
   exact List.mem_map.mpr ⟨p,hp,by rw [if_pos e,e]⟩
  ·exact List.mem_map.mpr ⟨p,hp,by rw [if_neg n]⟩
 ·refine⟨l++[(k,x)],putT_app h,fun nd=>?_,by simp,fun p hp=>?_,by simp,fun p hp _=>by simp [hp]⟩
  ·rw [List.map_append,List.nodup_append]
   refine⟨nd,by simp,fun a ha b hb=>?_⟩
   have:b=k:=by simpa using hb
   rw [this]
   exact fun z=>h (z▸ha)
  ·rcases List.mem_append.mp hp with m | m
   ·exact .inl m
   ·exact .inr (by simpa using m)
def addK:List Int->List Int->List Int
 | [i,j],[a,b]=>[i+a,j+b]
 | _,_=>[]
section
variable {α:Type} [Add α] [Mul α] [OfNat α 0]
def tmP (p q:List Int×α) (k:List Int):α:=if addK p.1 q.1=k then p.2*q.2 else 0
def rowF (p:List Int×α) (l:List (List Int×α)) (k:List Int) (s:α):α:=l.foldl (fun s q=>s+tmP p q k) s
def mulF (l l':List (List Int×α)) (k:List Int):α:=l.foldl (fun s p=>rowF p l' k s) 0
theorem rowF_snoc {p q:List Int×α} {l:List (List Int×α)} {k:List Int} {s:α}:rowF p (l++[q]) k s=rowF p l k s+tmP p q k:=by
 unfold rowF
 rw [List.foldl_append]
 rfl
theorem mulF_snoc {p:List Int×α} {l l':List (List Int×α)} {k:List Int}:mulF (l++[p]) l' k=rowF p l' k (mulF l l' k):=by
 unfold mulF
 rw [List.foldl_append]
 rfl
end
structure Ci (b:Int) (c:List (List Int×Int)):Prop where
 nd:(c.map (·.1)).Nodup
 sm:∀ p∈c,∃ i j:Int,p.1=[i,j]/\0<=i/\0<=j/\i<=b/\j<=b
theorem Ci.put {b:Int} {c:List (List Int×Int)} (h:Ci b c) {i j:Int} {x:Int} (i0:0<=i) (j0:0<=j) (i1:i<=b) (j1:j<=b):∃ c',putT (tpD c) [i,j] (D.int x)=tpD c'/\Ci b c'/\c'.length<=c.length+1/\∀ k,gI c' k=if k=[i,j] then x else gI c k:=by
 obtain⟨c',e,nd,hl,mm,m1,m2⟩:=putT_setG (f:=D.int) (l:=c) (k:=[i,j]) (x:=x)
 have nd':=nd h.nd
 refine⟨c',e,⟨nd',fun p hp=>?_⟩,hl,fun k=>?_⟩
 ·rcases mm p hp with q | rfl
  ·exact h.sm p q
  ·exact⟨i,j,rfl,i0,j0,i1,j1⟩
 ·by_cases ek:k=[i,j]
  ·rw [if_pos ek,ek]
   exact gA_mem nd' m1
  ·rw [if_neg ek]
   rcases key_or (z:=(0:Int)) k h.nd with q | q
   ·rw [show gI c k=0 from gA_none q]
    refine gA_none fun z=>?_
    obtain⟨p,hp,rfl⟩:=List.mem_map.mp z
    rcases mm p hp with y | y
    ·exact q (List.mem_map.mpr ⟨p,y,rfl⟩)
    ·exact ek (by rw [y])
   ·exact gA_mem nd' (m2 _ q ek)
theorem rowF_top {X Y:Int} {p:List Int×Rat} {P:Int} {k:List Int} (hP:(P:Rat)=X*p.2):∀ {l:List (List Int×Rat)} {s:Rat} {z:Int},(∀ q∈l,((topI Y q.2:Int):Rat)=Y*q.2)->(z:Rat)=X*Y*s->((rowF (p.1,P) (l.map fun q=>(q.1,topI Y q.2)) k z:Int):Rat)=X*Y*rowF p l k s
 | [],s,z,_,h=>h
 | q::l,s,z,hq,h=>by
  show((rowF (p.1,P) (l.map fun q=>(q.1,topI Y q.2)) k (z+tmP (p.1,P) (q.1,topI Y q.2) k):Int):Rat)=X*Y*rowF p l k (s+tmP p q k)
  refine rowF_top hP (fun r hr=>hq r (List.mem_cons_of_mem _ hr)) ?_
  have e:=hq q List.mem_cons_self
  rw [Rat.intCast_add,h]
  unfold tmP
  dsimp only
  by_cases ek:addK p.1 q.1=k
  ·rw [if_pos ek,if_pos ek,Rat.intCast_mul,e,hP]
   grind
  ·rw [if_neg ek,if_neg ek]
   show X*Y*s+0=_
   grind
theorem mulF_top {X Y:Int} {k:List Int} {l':List (List Int×Rat)} (h':∀ q∈l',((topI Y q.2:Int):Rat)=Y*q.2):∀ {l:List (List Int×Rat)},(∀ q∈l,((topI X q.2:Int):Rat)=X*q.2)->∀ {s:Rat} {z:Int},(z:Rat)=X*Y*s->
  (((l.map fun q=>(q.1,topI X q.2)).foldl (fun s p=>rowF p (l'.map fun q=>(q.1,topI Y q.2)) k s) z:Int):Rat)=X*Y*l.foldl (fun s p=>rowF p l' k s) s
 | [],_,_,_,h=>h
 | p::l,hl,s,z,h=>mulF_top h' (fun r hr=>hl r (List.mem_cons_of_mem _ hr)) (rowF_top (hl p List.mem_cons_self) h' h)
theorem gA_map {α β:Type} {φ:α->β} {z:α} {k:List Int}:∀ {c:List (List Int×α)},gA (φ z) (c.map fun p=>(p.1,φ p.2)) k=φ (gA z c k)
 | []=>rfl
 | p::l=>by
  by_cases h:p.1=k
  ·simp [gA,h]
  ·have e1:gA (φ z) ((p::l).map fun p=>(p.1,φ p.2)) k=gA (φ z) (l.map fun p=>(p.1,φ p.2)) k:=by simp [gA,List.find?_cons,h]
   have e2:gA z (p::l) k=gA z l k:=by simp [gA,List.find?_cons,h]
   rw [e1,e2]
   exact gA_map
theorem Cv.put' {n m:Nat} {b:Int} {c:List (List Int×Rat)} (h:Cv n m b c) {i j:Int} {x:Rat} (i0:0<=i) (j0:0<=j) (i1:i<=b) (j1:j<=b) (hx:Sz m x):∃ c',putT (cvD c) [i,j] (fr x)=cvD c'/\Cv (n+1) m b c'/\∀ p∈c',p∈c\/p=([i,j],x):=by
 obtain⟨c',e,nd,hl,mm,m1,m2⟩:=putT_set (l:=c) (k:=[i,j]) (x:=x)
 have:=h.hl
 refine⟨c',e,⟨nd h.nd,by omega,fun p hp=>?_,fun p hp=>?_⟩,mm⟩
 ·rcases mm p hp with q | rfl
  ·exact h.sm p q
  ·exact⟨i,j,rfl,i0,j0,i1,j1⟩
 ·rcases mm p hp with q | rfl
  ·exact h.hz p q
  ·exact hx
set_option maxHeartbeats 4000000
theorem hash_le6:∀ i∈List.range 7,∀ j∈List.range 7,∀ a∈List.range 7,∀ b∈List.range 7,hashT [(i:Int),(j:Int)]=hashT [(a:Int),(b:Int)]->i=a/\j=b:=by decide +kernel
theorem Cv.hash6 {n m:Nat} {c:List (List Int×Rat)} (h:Cv n m 6 c):((cvD c).map fun p=>hashT p.1).Nodup:=by
 show(List.map (fun p=>hashT p.1) (c.map fun p=>(p.1,fr p.2))).Nodup
 rw [List.map_map]
 have nd:=h.nd
 have sm:=h.sm
 clear h
 induction c with
 | nil=>exact List.nodup_nil
 | cons p l ih=>
  rw [List.map_cons,List.nodup_cons] at nd ⊢
  refine⟨fun z=>nd.1 ?_,ih nd.2 fun q hq=>sm q (List.mem_cons_of_mem _ hq)⟩
  obtain⟨q,hq,e⟩:=List.mem_map.mp z
  obtain⟨i,j,e1,i0,j0,i1,j1⟩:=sm p List.mem_cons_self
  obtain⟨i',j',e2,i0',j0',i1',j1'⟩:=sm q (List.mem_cons_of_mem _ hq)
  have e:hashT q.1=hashT p.1:=e
  rw [e1,e2] at e
  have r:∀ z:Int,0<=z->z<=6->∃ t∈List.range 7,z=(t:Int):=fun z _ _=>⟨z.toNat,List.mem_range.mpr (by omega),by omega⟩
  obtain⟨x1,y1,rfl⟩:=r i i0 i1
  obtain⟨x2,y2,rfl⟩:=r j j0 j1
  obtain⟨x3,y3,rfl⟩:=r i' i0' i1'
  obtain⟨x4,y4,rfl⟩:=r j' j0' j1'
  obtain⟨a,b⟩:=hash_le6 x3 y3 x4 y4 x1 y1 x2 y2 e
  subst a b
  exact List.mem_map.mpr ⟨q,hq,by rw [e1,e2]⟩
theorem Res.congr {φ ψ:List Int->Rat} {g:List (List Int×Rat)} (h:Res φ g) (e:∀ k,φ k=ψ k):Res ψ g:=⟨h.nd,h.two,h.n0,fun k=>by rw [h.at_ k]; exact e k⟩
theorem _root_.HM.Bt.zero {n:Nat}:Bt n 0:=by
 show(0:Int).natAbs < 2 ^ n
 exact Nat.two_pow_pos n
theorem rowF_add {p:List Int×Rat} {l:List (List Int×Rat)} {k:List Int} {s:Rat}:rowF p l k s=s+rowF p l k 0:=by
 induction l generalizing s with
 | nil=>exact(Rat.add_zero s).symm
 | cons q l ih=>
  show rowF p l k (s+tmP p q k)=s+rowF p l k (0+tmP p q k)
  rw [ih,ih (s:=0+tmP p q k),Rat.zero_add,Rat.add_assoc]
def sumF (f:List Int×Rat->Rat) (l:List (List Int×Rat)) (s:Rat):Rat:=l.foldl (fun s p=>s+f p) s
theorem sumF_add {f:List Int×Rat->Rat} {l:List (List Int×Rat)} {s:Rat}:sumF f l s=s+sumF f l 0:=by
 induction l generalizing s with
 | nil=>exact(Rat.add_zero s).symm
 | cons q l ih=>
  show sumF f l (s+f q)=s+sumF f l (0+f q)
  rw [ih,ih (s:=0+f q),Rat.zero_add,Rat.add_assoc]
theorem mulF_sum {l l':List (List Int×Rat)} {k:List Int}:mulF l l' k=sumF (fun p=>rowF p l' k 0) l 0:=by
 unfold mulF sumF
 congr 1
 funext s p
 exact rowF_add
open Classical in
noncomputable def cl (φ:List Int->Rat):List (List Int×Rat):=if h:∃ c,Res φ c then h.choose else []
theorem row_dn {M M':Int} {T T':Nat} {p:List Int×Rat} {k:List Int} (hp:∃ t:Int,Bt T t/\(M:Rat)*p.2=t):∀ {l:List (List Int×Rat)},(∀ q∈l,∃ t:Int,Bt T' t/\(M':Rat)*q.2=t)->∀ {n:Nat} {s:Rat},(∃ t:Int,t.natAbs<=n*2 ^ (T+T')/\((M*M':Int):Rat)*s=t)->∃ t:Int,t.natAbs<=(n+l.length)*2 ^ (T+T')/\((M*M':Int):Rat)*rowF p l k s=t
 | [],_,n,s,h=>by simpa [rowF] using h
 | q::l,hl,n,s,h=>by
  have e:n+(q::l).length=n+1+l.length:=by rw [List.length_cons]; omega
  rw [e]
  refine row_dn (k:=k) hp (l:=l) (fun r hr=>hl r (List.mem_cons_of_mem _ hr)) (n:=n+1) (s:=s+tmP p q k) ?_
  obtain⟨t,ht,et⟩:=h
  obtain⟨a,ba,ea⟩:=hp
  obtain⟨b,bb,eb⟩:=hl q List.mem_cons_self
  unfold tmP
  by_cases z:addK p.1 q.1=k
  ·refine⟨t+a*b,?_,?_⟩
   ·have m:Bt (T+T') (a*b):=ba.mul bb
    unfold Bt at m
    have:=Int.natAbs_add_le t (a*b)
    rw [Nat.add_mul,Nat.one_mul]
    omega
   ·rw [if_pos z,Rat.mul_add,et,Rat.intCast_add,Rat.intCast_mul,Rat.intCast_mul,<- ea,<- eb]
    grind
  ·refine⟨t,?_,?_⟩
   ·rw [Nat.add_mul]
    omega
   ·rw [if_neg z,Rat.add_zero]
    exact et
theorem mul_dn {M M':Int} {T T':Nat} {k:List Int} {l':List (List Int×Rat)} (hl':∀ q∈l',∃ t:Int,Bt T' t/\(M':Rat)*q.2=t):∀ {l:List (List Int×Rat)},(∀ q∈l,∃ t:Int,Bt T t/\(M:Rat)*q.2=t)->∀ {n:Nat} {s:Rat},(∃ t:Int,t.natAbs<=n*2 ^ (T+T')/\((M*M':Int):Rat)*s=t)->∃ t:Int,t.natAbs<=(n+l.length*l'.length)*2 ^ (T+T')/\((M*M':Int):Rat)*l.foldl (fun s p=>rowF p l' k s) s=t
 | [],_,n,s,h=>by simpa using h
 | q::l,hl,n,s,h=>by
  have e:n+(q::l).length*l'.length=n+l'.length+l.length*l'.length:=by rw [List.length_cons,Nat.succ_mul]; omega
  rw [e]
  exact mul_dn hl' (l:=l) (fun r hr=>hl r (List.mem_cons_of_mem _ hr)) (row_dn (k:=k) (hl q List.mem_cons_self) hl' h)
theorem Dn.mono {B:Int} {T T':Nat} {c:List (List Int×Rat)} (h:Dn B T c) (hT:T<=T'):Dn B T' c:=fun p hp=>by
 obtain⟨t,bt,e⟩:=h p hp
 exact⟨t,bt.mono hT,e⟩
theorem rowF_zero {p:List Int×Rat} {k:List Int}:∀ {l:List (List Int×Rat)} {s:Rat},(∀ q∈l,addK p.1 q.1≠k)->rowF p l k s=s
 | [],_,_=>rfl
 | q::l,s,h=>by
  show rowF p l k (s+tmP p q k)=s
  rw [show tmP p q k=0 from if_neg (h q List.mem_cons_self),Rat.add_zero]
  exact rowF_zero fun r hr=>h r (List.mem_cons_of_mem _ hr)
theorem mulF_ne {k:List Int} {l':List (List Int×Rat)}:∀ {l:List (List Int×Rat)} {s:Rat},(∀ p∈l,∀ q∈l',addK p.1 q.1≠k)->l.foldl (fun s p=>rowF p l' k s) s=s
 | [],_,_=>rfl
 | p::l,s,h=>by
  show l.foldl (fun s p=>rowF p l' k s) (rowF p l' k s)=s
  rw [rowF_zero (h p List.mem_cons_self)]
  exact mulF_ne fun r hr=>h r (List.mem_cons_of_mem _ hr)
theorem rowF_sum {p:List Int×Rat} {k:List Int}:∀ {l:List (List Int×Rat)} {s:Rat},rowF p l k s=sumF (fun q=>tmP p q k) l s
 | _,_=>rfl
theorem sumF_congr {f g:List Int×Rat->Rat}:∀ {l:List (List Int×Rat)} {s:Rat},(∀ p∈l,f p=g p)->sumF f l s=sumF g l s
 | [],_,_=>rfl
 | p::l,s,h=>by
  show sumF f l (s+f p)=sumF g l (s+g p)
  rw [h p List.mem_cons_self]
  exact sumF_congr fun q hq=>h q (List.mem_cons_of_mem _ hq)
set_option maxHeartbeats 4000000
def F_curve_plus:DSp:=fun ds S k=>∃ (a b:Addr) (c c':List (List Int×Rat)) (e e':Nat),ds=[.ref a,.ref b]/\S a=some (dTo (cvD c) e)/\S b=some (dTo (cvD c') e')/\Cv 28 900 6 c/\Cv 28 900 6 c'/\∀ S' p ep g,Ext S S'->S p=none->Res (fun k=>gR c k+gR c' k) g->S' p=some (dTo (cvD g) ep)->k (.ref p) S'
theorem sc_curve_plus:FnScope ["one","other","sums","key","fraction"] ["one","other"] (defScope s_curve_plus):=scm
theorem ok_curve_plus (Fn:Fun K "curve_plus" "curve_plus" s_curve_plus f fd) (c_plus:Own P w K mg base "plus" 3 F_plus) (c_without_noughts:Own P w K mg base "without_noughts" 1 F_without_noughts) (z_dict:mg "dict"=none) (g_NOUGHT:GTup K mg "NOUGHT" [0,1]):
  FnOk P w K mg base CX0 4 f fd ["one","other"] (spU K F_curve_plus):=by
 refine Fn.okJ sc_curve_plus (fun ds S k h=>?_) (fun cdv A outer s H E hr=>⟨_,(ds_consj (dst_setj (i:=2) sc_curve_plus.nd (d_callTj (b_dict hr) rfl z_dict bt_dict (da_consj (d_varj 0) da_nilj))) (ds_consj (dst_forIj PassesOwn.never rfl (i_itemsj (d_varj 1)) (dg_seqE (n:=2) rfl (dgs_consj (dg_namej (i:=3) sc_curve_plus.nd) (dgs_consj (dg_namej (i:=4) sc_curve_plus.nd) dgs_nilj))) (ds_onej (dst_asgj (dq c_plus hr (da_consj (d_get2j hr (d_varj 2) (d_varj 3) (d_gtup g_NOUGHT rfl)) (da_consj (d_varj 4) da_nilj))) (dg_subD hr (d_varj 2) (d_varj 3))))) (ds_onej (dst_retj (dq c_without_noughts hr (da_consj (d_varj 2) da_nilj)))))),fun ds S k h=>?_⟩)
 ·obtain⟨_,_,_,_,_,_,rfl,_⟩:=h
  rfl
 ·obtain⟨a,b,c,c',e,e',rfl,ha,hb,hc,hc',w⟩:=h
  refine .inl ⟨_,_,ha,hc.hash6,fun p hp e1=>⟨_,_,put_keep hp hb,?_⟩⟩
  have nbp:b≠p:=ne_put hb hp
  refine loop_ix (fun r L S'=>∃ (don rest f:List (List Int×Rat)) (e3:Nat) (l3 l4:Option D),c'=don++rest/\r=pairsD (cvD rest)/\L=[some (.ref a),some (.ref b),some (.ref p),l3,l4]/\Ext S S'/\S' b=some (dTo (cvD c') e')/\S' p=some (dTo (cvD f) e3)/\Cv (28+don.length) 1801 6 f/\∀ k,gR f k=gR c k+gR don k) (fun r L S' ⟨_,_,_,_,_,_,_,_,_,_,h,_⟩=>h) ?_ ?_ _ _ _ ⟨[],c',c,e1,none,none,rfl,rfl,rfl,Ext.new hp,put_keep hp hb,put_same,hc.mono (by decide) (by decide) (by decide),fun k=>(Rat.add_zero _).symm⟩
  ·rintro d r L S1 N1 ⟨don,rest,f,e3,l3,l4,ec,er,rfl,x1,b1,p1,hf,hg⟩ hN
   cases rest with
   | nil=>cases er
   | cons q rest=>
    cases er
    have mq:q∈c':=by rw [ec]; simp
    have nq:=nd_mid (p:=q) (ec▸hc'.nd)
    have hd:don.length < 28:=by have:=congrArg List.length ec; rw [List.length_append,List.length_cons] at this; have:=hc'.hl; omega
    have s0:Sz 900 (gR f q.1):=by rw [hg,show gR don q.1=0 from gA_none nq,Rat.add_zero]; exact hc.sz (by decide) _
    have sq:=hc'.hz q mq
    obtain⟨i,j,ek,i0,j0,i1,j1⟩:=hc'.sm q mq
    obtain⟨f',ef,hf',gf⟩:=hf.put (i:=i) (j:=j) (x:=gR f q.1+q.2) i0 j0 i1 j1 (s0.add sq)
    rw [<- ek] at ef gf
    refine⟨([keyD q.1,fr q.2],none),rfl,rfl,rfl,⟨_,_,p1⟩,_,_,q.1,p1,rfl,gR f q.1,q.2,congrArg (fun z=>[z,fr q.2]) (getT_gA (f:=fr) (z:=0)),s0.mono (by decide),sq.mono (by decide),_,_,q.1,p1,rfl,by rw [kvD_len]; exact lim (by have:=hf.hl; omega),fun e4=>hN _ _ ⟨don++[q],rest,f',e4,_,_,by rw [ec]; simp,rfl,rfl,x1.put hp,by rw [put_ne nbp]; exact b1,by rw [put_same,ef],by rw [List.length_append]; exact hf',fun k=>?_⟩⟩
    rw [gf k,show gR (don++[q]) k=_ from gA_snoc nq k]
    by_cases e:k=q.1
    ·rw [if_pos e,if_pos e,hg,e,show gR don q.1=0 from gA_none nq,Rat.add_zero]
    ·rw [if_neg e,if_neg e]
     exact hg k
  ·rintro L S1 ⟨don,rest,f,e3,l3,l4,ec,er,rfl,x1,b1,p1,hf,hg⟩
   cases rest with
   | cons q rest=>cases er
   | nil=>
    rw [List.append_nil] at ec
    subst ec
    have:=hf.hl
    have:=hc'.hl
    exact⟨p,f,e3,rfl,p1,hf.nd,by omega,fun S2 q e2 x2 hq h2=>w S2 q e2 (nz f) (x1.trans x2) (x1.none hq) (Res.of hf hg) h2⟩
def F_curve_grown:DSp:=fun ds S k=>∃ (a:Addr) (c:List (List Int×Rat)) (e:Nat) (t:Rat),ds=[.ref a,fr t]/\S a=some (dTo (cvD c) e)/\Cv 28 900 6 c/\Sz 100 t/\∀ S' p ep g,Ext S S'->S p=none->Res (fun k=>gR c k*t) g->Cv 28 1000 6 g->S' p=some (dTo (cvD g) ep)->k (.ref p) S'
theorem sc_curve_grown:FnScope ["curve","by","grown","key","fraction"] ["curve","by"] (defScope s_curve_grown):=scm
theorem ok_curve_grown (Fn:Fun K "curve_grown" "curve_grown" s_curve_grown f fd) (c_times:Own P w K mg base "times" 3 F_times) (c_without_noughts:Own P w K mg base "without_noughts" 1 F_without_noughts):
  FnOk P w K mg base CX0 4 f fd ["curve","by"] (spU K F_curve_grown):=by
 refine Fn.okJ sc_curve_grown (fun ds S k h=>?_) (fun cdv A outer s H E hr=>⟨_,(ds_consj (dst_setj (i:=2) sc_curve_grown.nd d_dnewj) (ds_consj (dst_forIj PassesOwn.never rfl (i_itemsj (d_varj 0)) (dg_seqE (n:=2) rfl (dgs_consj (dg_namej (i:=3) sc_curve_grown.nd) (dgs_consj (dg_namej (i:=4) sc_curve_grown.nd) dgs_nilj))) (ds_onej (dst_asgj (dq c_times hr (da_consj (d_varj 4) (da_consj (d_varj 1) da_nilj))) (dg_subD hr (d_varj 2) (d_varj 3))))) (ds_onej (dst_retj (dq c_without_noughts hr (da_consj (d_varj 2) da_nilj)))))),fun ds S k h=>?_⟩)
 ·obtain⟨_,_,_,_,rfl,_⟩:=h
  rfl
 ·obtain⟨a,c,e,t,rfl,ha,hc,ht,w⟩:=h
  refine fun p hp e0=>⟨_,_,put_keep hp ha,?_⟩
  have nap:a≠p:=ne_put ha hp
  refine loop_ix (fun r L S'=>∃ (don rest f:List (List Int×Rat)) (e3:Nat) (l3 l4:Option D),c=don++rest/\r=pairsD (cvD rest)/\L=[some (.ref a),some (fr t),some (.ref p),l3,l4]/\Ext S S'/\S' a=some (dTo (cvD c) e)/\S' p=some (dTo (cvD f) e3)/\Cv don.length 1000 6 f/\∀ k,gR f k=gR don k*t) (fun r L S' ⟨_,_,_,_,_,_,_,_,_,_,h,_⟩=>h) ?_ ?_ _ _ _ ⟨[],c,[],e0,none,none,rfl,rfl,rfl,Ext.new hp,put_keep hp ha,put_same,Cv.nil,fun k=>(Rat.zero_mul _).symm⟩
  ·rintro d r L S1 N1 ⟨don,rest,f,e3,l3,l4,ec,er,rfl,x1,a1,p1,hf,hg⟩ hN
   cases rest with
   | nil=>cases er
   | cons q rest=>
    cases er
    have mq:q∈c:=by rw [ec]; simp
    have nq:=nd_mid (p:=q) (ec▸hc.nd)
    have hd:don.length < 28:=by have:=congrArg List.length ec; rw [List.length_append,List.length_cons] at this; have:=hc.hl; omega
    have sq:=hc.hz q mq
    obtain⟨i,j,ek,i0,j0,i1,j1⟩:=hc.sm q mq
    obtain⟨f',ef,hf',gf⟩:=hf.put (i:=i) (j:=j) (x:=q.2*t) i0 j0 i1 j1 (sq.mul ht)
    rw [<- ek] at ef gf
    refine⟨([keyD q.1,fr q.2],none),rfl,rfl,rfl,q.2,t,rfl,sq.mono (by decide),ht.mono (by decide),_,_,q.1,p1,rfl,by rw [kvD_len]; exact lim (by have:=hf.hl; omega),fun e4=>hN _ _ ⟨don++[q],rest,f',e4,_,_,by rw [ec]; simp,rfl,rfl,x1.put hp,by rw [put_ne nap]; exact a1,by rw [put_same,ef],by rw [List.length_append]; exact hf',fun k=>?_⟩⟩
    rw [gf k,show gR (don++[q]) k=_ from gA_snoc nq k]
    by_cases e:k=q.1
    ·rw [if_pos e,if_pos e]
    ·rw [if_neg e,if_neg e]
     exact hg k
  ·rintro L S1 ⟨don,rest,f,e3,l3,l4,ec,er,rfl,x1,a1,p1,hf,hg⟩
   cases rest with
   | cons q rest=>cases er
   | nil=>
    rw [List.append_nil] at ec
    subst ec
    have l1:=hf.hl
    have l2:=hc.hl
    have cz:Cv 28 1000 6 (nz f):=⟨nd_filter hf.nd,Nat.le_trans nz_len (by omega),fun p hp=>hf.sm p (nz_mem.mp hp).1,fun p hp=>hf.hz p (nz_mem.mp hp).1⟩
    exact⟨p,f,e3,rfl,p1,hf.nd,by omega,fun S2 q e2 x2 hq h2=>w S2 q e2 (nz f) (x1.trans x2) (x1.none hq) (Res.of hf hg) cz h2⟩
def F_curve_minus:DSp:=fun ds S k=>∃ (a b:Addr) (c c':List (List Int×Rat)) (e e':Nat),ds=[.ref a,.ref b]/\S a=some (dTo (cvD c) e)/\S b=some (dTo (cvD c') e')/\Cv 28 900 6 c/\Cv 28 800 6 c'/\∀ S' p ep g,Ext S S'->S p=none->Res (fun k=>gR c k - gR c' k) g->S' p=some (dTo (cvD g) ep)->k (.ref p) S'
theorem sc_curve_minus:FnScope ["one","other"] ["one","other"] (defScope s_curve_minus):=scm
theorem ok_curve_minus (Fn:Fun K "curve_minus" "curve_minus" s_curve_minus f fd) (c_curve_plus:Own P w K mg base "curve_plus" 4 F_curve_plus) (c_curve_grown:Own P w K mg base "curve_grown" 4 F_curve_grown) (c_negative:Own P w K mg base "negative" 1 F_negative) (g_ONE:GTup K mg "ONE" [1,1]):
  FnOk P w K mg base CX0 5 f fd ["one","other"] (spU K F_curve_minus):=by
 refine Fn.okJ sc_curve_minus (fun ds S k h=>?_) (fun cdv A outer s H E hr=>⟨_,(ds_onej (dst_retj (dq c_curve_plus hr (da_consj (d_varj 0) (da_consj (dq c_curve_grown hr (da_consj (d_varj 1) (da_consj (dq c_negative hr (da_consj (d_gtup g_ONE rfl) da_nilj)) da_nilj))) da_nilj))))),fun ds S k h=>?_⟩)
 ·obtain⟨_,_,_,_,_,_,rfl,_⟩:=h
  rfl
 ·obtain⟨a,b,c,c',e,e',rfl,ha,hb,hc,hc',w⟩:=h
  refine⟨1,rfl,b,c',e',-1,rfl,hb,hc'.mono (by decide) (by decide) (by decide),⟨by decide,by decide⟩,fun S1 p1 e1 g1 x1 n1 r1 v1 h1=>⟨a,p1,c,g1,e,e1,rfl,x1 _ _ ha,h1,hc,v1.of_gR fun k=>?_,fun S2 p2 e2 g2 x2 n2 r2 h2=>w S2 p2 e2 g2 (x1.trans x2) (x1.none n2) ?_ h2⟩⟩
  ·rw [r1.at_ k]
   exact((hc'.sz (by decide) k).mul (show Sz 1 (-1:Rat) from⟨by decide,by decide⟩)).mono (by decide)
  refine⟨r2.nd,r2.two,r2.n0,fun k=>?_⟩
  rw [r2.at_ k,r1.at_ k]
  grind
def F_product_of_tops:DSp:=fun ds S k=>∃ (a b:Addr) (t t':List (List Int×Int)) (e e':Nat),ds=[.ref a,.ref b]/\S a=some (dTo (tpD t) e)/\S b=some (dTo (tpD t') e')/\Ci 3 t/\Ci 3 t'/\t.length<=10/\t'.length<=10/\(∀ p∈t,Bt 500 p.2)/\(∀ p∈t',Bt 500 p.2)/\∀ S' p ep g,Ext S S'->S p=none->Ci 6 g->g.length<=100->(∀ k,gI g k=mulF t t' k)->S' p=some (dTo (tpD g) ep)->k (.ref p) S'
theorem sc_product_of_tops:FnScope ["one","other","sums","mine","top","theirs","other_top","key"] ["one","other"] (defScope s_product_of_tops):=scm
theorem ok_product_of_tops (Fn:Fun K "product_of_tops" "product_of_tops" s_product_of_tops f fd):
  FnOk P w K mg base CX0 1 f fd ["one","other"] (spU K F_product_of_tops):=by
 refine Fn.okJ sc_product_of_tops (fun ds S k h=>?_) (fun cdv A outer s H E hr=>⟨_,(ds_consj (dst_setj (i:=2) sc_product_of_tops.nd d_dnewj) (ds_consj (dst_forIj PassesOwn.never rfl (i_itemsj (d_varj 0)) (dg_seqE (n:=2) rfl (dgs_consj (dg_namej (i:=3) sc_product_of_tops.nd) (dgs_consj (dg_namej (i:=4) sc_product_of_tops.nd) dgs_nilj))) (ds_onej (dst_forIj PassesOwn.never rfl (i_itemsj (d_varj 1)) (dg_seqE (n:=2) rfl (dgs_consj (dg_namej (i:=5) sc_product_of_tops.nd) (dgs_consj (dg_namej (i:=6) sc_product_of_tops.nd) dgs_nilj))) (ds_consj (dst_setj (i:=7) sc_product_of_tops.nd (d_tupj (da_consj (d_opj o_add (d_ixj x_ixE (d_varj 3) d_intj (fun _ _=>rfl)) (d_ixj x_ixE (d_varj 5) d_intj (fun _ _=>rfl))) (da_consj (d_opj o_add (d_ixj x_ixE (d_varj 3) d_intj (fun _ _=>rfl)) (d_ixj x_ixE (d_varj 5) d_intj (fun _ _=>rfl))) da_nilj)))) (ds_onej (dst_asgj (d_opj o_add (d_get2j hr (d_varj 2) (d_varj 7) d_intj) (d_opj o_mul (d_varj 4) (d_varj 6))) (dg_subD hr (d_varj 2) (d_varj 7)))))))) (ds_onej (dst_retj (d_varj 2))))),fun ds S k h=>?_⟩)
 ·obtain⟨_,_,_,_,_,_,rfl,_⟩:=h
  rfl
 ·obtain⟨a,b,t,t',e,e',rfl,ha,hb,ht,ht',hl,hl',bt,bt',w⟩:=h
  refine fun p hp e0=>⟨_,_,put_keep hp ha,?_⟩
  have nap:a≠p:=ne_put ha hp
  have nbp:b≠p:=ne_put hb hp
  refine loop_ix (fun r L S'=>∃ (don rest g:List (List Int×Int)) (e1:Nat) (l3 l4 l5 l6 l7:Option D),t=don++rest/\r=pairsD (tpD rest)/\L=[some (.ref a),some (.ref b),some (.ref p),l3,l4,l5,l6,l7]/\Ext S S'/\S' a=some (dTo (tpD t) e)/\S' b=some (dTo (tpD t') e')/\S' p=some (dTo (tpD g) e1)/\Ci 6 g/\g.length<=10*don.length/\∀ k,gI g k=mulF don t' k) (fun r L S' ⟨_,_,_,_,_,_,_,_,_,_,_,_,_,h,_⟩=>h) ?_ ?_ _ _ _ ⟨[],t,[],e0,none,none,none,none,none,rfl,rfl,rfl,Ext.new hp,put_keep hp ha,put_keep hp hb,put_same,⟨List.nodup_nil,fun p h=>(nomatch h)⟩,by decide,fun k=>rfl⟩
  ·rintro d r L S1 N1 ⟨don,rest,g,e1,l3,l4,l5,l6,l7,ec,er,rfl,x1,a1,b1,p1,hg,gl,gf⟩ hN
   cases rest with
   | nil=>cases er
   | cons q rest=>
    cases er
    have mq:q∈t:=by rw [ec]; simp
    have hd:don.length < 10:=by have:=congrArg List.length ec; rw [List.length_append,List.length_cons] at this; omega
    obtain⟨i,j,ek,i0,j0,i1,j1⟩:=ht.sm q mq
    refine⟨([keyD q.1,.int q.2],none),rfl,rfl,rfl,_,_,b1,?_⟩
    refine loop_ix (fun r L S'=>∃ (don2 rest2 g:List (List Int×Int)) (e1:Nat) (l5 l6 l7:Option D),t'=don2++rest2/\r=pairsD (tpD rest2)/\L=[some (.ref a),some (.ref b),some (.ref p),some (keyD q.1),some (.int q.2),l5,l6,l7]/\Ext S S'/\S' a=some (dTo (tpD t) e)/\S' b=some (dTo (tpD t') e')/\S' p=some (dTo (tpD g) e1)/\Ci 6 g/\g.length<=10*don.length+don2.length/\∀ k,gI g k=rowF q don2 k (mulF don t' k)) (fun r L S' ⟨_,_,_,_,_,_,_,_,_,_,_,_,h,_⟩=>h) ?_ ?_ _ _ _ ⟨[],t',g,e1,_,_,_,rfl,rfl,rfl,x1,a1,b1,p1,hg,by simpa using gl,gf⟩
    ·rintro d r L S2 N2 ⟨don2,rest2,g2,e2,m5,m6,m7,ec2,er2,rfl,x2,a2,b2,p2,hg2,gl2,gf2⟩ hN2
     cases rest2 with
     | nil=>cases er2
     | cons q2 rest2=>
      cases er2
      have mq2:q2∈t':=by rw [ec2]; simp
      have hd2:don2.length < 10:=by have:=congrArg List.length ec2; rw [List.length_append,List.length_cons] at this; omega
      obtain⟨i',j',ek2,i0',j0',i1',j1'⟩:=ht'.sm q2 mq2
      have G:(getT (tpD g2) [i+i',j+j']).getD (D.int 0)=D.int (gI g2 [i+i',j+j']):=getT_gA (f:=D.int) (z:=0)
      obtain⟨g3,eg3,hg3,gl3,gf3⟩:=hg2.put (i:=i+i') (j:=j+j') (x:=gI g2 [i+i',j+j']+q.2*q2.2) (by omega) (by omega) (by omega) (by omega)
      refine⟨([keyD q2.1,.int q2.2],none),rfl,rfl,rfl,?_⟩
      have fin:∀ e4:Nat,N2 [some (.ref a),some (.ref b),some (.ref p),some (keyD q.1),some (.int q.2),some (keyD q2.1),some (.int q2.2),some (.tup [.int (i+i'),.int (j+j')])] (put S2 p (dTo (putT (tpD g2) [i+i',j+j'] (.int (gI g2 [i+i',j+j']+q.2*q2.2))) e4)):=fun e4=>hN2 _ _ ⟨don2++[q2],rest2,g3,e4,_,_,_,by rw [ec2]; simp,rfl,rfl,x2.put hp,by rw [put_ne nap]; exact a2,by rw [put_ne nbp]; exact b2,by rw [put_same,eg3],hg3,by rw [List.length_append]; simp; omega,fun k=>by
       rw [gf3 k,rowF_snoc,<- gf2 k]
       unfold tmP
       rw [ek,ek2]
       show _=gI g2 k+(if [i+i',j+j']=k then q.2*q2.2 else 0)
       by_cases e:k=[i+i',j+j']
       ·rw [if_pos e,if_pos e.symm,e]
       ·rw [if_neg e,if_neg (Ne.symm e),Int.add_zero]⟩
      rw [ek,ek2] at fin ⊢
      refine⟨few,⟨_,_,p2⟩,_,_,[i+i',j+j'],p2,rfl,mok (bt q mq) (bt' q2 mq2),?_⟩
      rw [G]
      exact⟨_,_,[i+i',j+j'],p2,rfl,by rw [kvD_len]; exact lim (by omega),fin⟩
    ·rintro L S2 ⟨don2,rest2,g2,e2,m5,m6,m7,ec2,er2,rfl,x2,a2,b2,p2,hg2,gl2,gf2⟩
     cases rest2 with
     | cons q2 rest2=>cases er2
     | nil=>
      rw [List.append_nil] at ec2
      subst ec2
      exact hN _ _ ⟨don++[q],rest,g2,e2,_,_,_,_,_,by rw [ec]; simp,rfl,rfl,x2,a2,b2,p2,hg2,by rw [List.length_append]; simp; omega,fun k=>by rw [mulF_snoc]; exact gf2 k⟩
  ·rintro L S1 ⟨don,rest,g,e1,l3,l4,l5,l6,l7,ec,er,rfl,x1,a1,b1,p1,hg,gl,gf⟩
   cases rest with
   | cons q rest=>cases er
   | nil=>
    rw [List.append_nil] at ec
    subst ec
    exact w S1 p e1 g x1 hp hg (by omega) gf p1
theorem vals_eq {c:List (List Int×Rat)}:(kvD fr c).map (·.2)=(c.map (·.2)).map fr:=by unfold kvD; rw [List.map_map,List.map_map]; rfl
theorem top_bt {M B:Int} {T:Nat} {q:Rat} (b0:B≠0) (dv:M ∣ B) (e:((topI M q:Int):Rat)=(M:Int)*q) (h:∃ t:Int,Bt T t/\(B:Rat)*q=t):Bt T (topI M q):=by
 obtain⟨t,bt,et⟩:=h
 obtain⟨m,rfl⟩:=dv
 have e2:t=topI M q*m:=by
  refine Rat.intCast_inj.mp ?_
  rw [<- et,Rat.intCast_mul,Rat.intCast_mul,e]
  grind
 by_cases z:t=0
 ·rw [z] at e2
  rcases Int.mul_eq_zero.mp e2.symm with y | y
  ·rw [y]
   exact HM.Bt.zero
  ·exact absurd (by rw [y,Int.mul_zero]) b0
 ·exact dvd_bt ⟨m,e2⟩ z bt
def F_curve_times:DSp:=fun ds S k=>∃ (a b:Addr) (c c':List (List Int×Rat)) (e e':Nat) (B B':Int),ds=[.ref a,.ref b]/\S a=some (dTo (cvD c) e)/\S b=some (dTo (cvD c') e')/\Cv 10 900 3 c/\Cv 10 900 3 c'/\0 < B/\0 < B'/\Bt 300 B/\Bt 300 B'/\Dn B 500 c/\Dn B' 500 c'/\∀ S' p ep g,Ext S S'->S p=none->Res (fun k=>mulF c c' k) g->S' p=some (dTo (cvD g) ep)->k (.ref p) S'
theorem sc_curve_times:FnScope ["one","other","mine","theirs","told","key","top"] ["one","other"] (defScope s_curve_times):=scm
theorem ok_curve_times (Fn:Fun K "curve_times" "curve_times" s_curve_times f fd) (c_common_bottom:Own P w K mg base "common_bottom" 3 F_common_bottom) (c_product_of_tops:Own P w K mg base "product_of_tops" 1 F_product_of_tops) (c_tops_over:Own P w K mg base "tops_over" 1 F_tops_over) (c_ratio:Own P w K mg base "ratio" 2 F_ratio) (c_without_noughts:Own P w K mg base "without_noughts" 1 F_without_noughts) (z_list:mg "list"=none):
  FnOk P w K mg base CX0 4 f fd ["one","other"] (spU K F_curve_times):=by
 refine Fn.okJ sc_curve_times (fun ds S k h=>?_) (fun cdv A outer s H E hr=>⟨_,(ds_consj (dst_setj (i:=2) sc_curve_times.nd (dq c_common_bottom hr (da_consj (d_listVj rfl rfl z_list (d_varj 0)) da_nilj))) (ds_consj (dst_setj (i:=3) sc_curve_times.nd (dq c_common_bottom hr (da_consj (d_listVj rfl rfl z_list (d_varj 1)) da_nilj))) (ds_consj (dst_setj (i:=4) sc_curve_times.nd d_dnewj) (ds_consj (dst_forIj PassesOwn.never rfl (i_itemsj (dq c_product_of_tops hr (da_consj (dq c_tops_over hr (da_consj (d_varj 0) (da_consj (d_varj 2) da_nilj))) (da_consj (dq c_tops_over hr (da_consj (d_varj 1) (da_consj (d_varj 3) da_nilj))) da_nilj)))) (dg_seqE (n:=2) rfl (dgs_consj (dg_namej (i:=5) sc_curve_times.nd) (dgs_consj (dg_namej (i:=6) sc_curve_times.nd) dgs_nilj))) (ds_onej (dst_asgj (dq c_ratio hr (da_consj (d_varj 6) (da_consj (d_opj o_mul (d_varj 2) (d_varj 3)) da_nilj))) (dg_subD hr (d_varj 4) (d_varj 5))))) (ds_onej (dst_retj (dq c_without_noughts hr (da_consj (d_varj 4) da_nilj)))))))),fun ds S k h=>?_⟩)
 ·obtain⟨_,_,_,_,_,_,_,_,rfl,_⟩:=h
  rfl
 ·obtain⟨a,b,c,c',e,e',B1,B2,rfl,ha,hb,hc,hc',B1p,B2p,bB1,bB2,hD,hD',w⟩:=h
  have l1:=hc.hl
  have l2:=hc'.hl
  have M0:0 < lcB 1 (c.map (·.2)):=lcB_pos (by decide)
  have T0:0 < lcB 1 (c'.map (·.2)):=lcB_pos (by decide)
  have dvM:lcB 1 (c.map (·.2)) ∣ B1:=lcB_dv (Int.one_dvd _) (hD.dv (by omega))
  have dvT:lcB 1 (c'.map (·.2)) ∣ B2:=lcB_dv (Int.one_dvd _) (hD'.dv (by omega))
  have bM':Bt 300 (lcB 1 (c.map (·.2))):=dvd_bt dvM (by omega) bB1
  have bT':Bt 300 (lcB 1 (c'.map (·.2))):=dvd_bt dvT (by omega) bB2
  have dM:=(lcB_dvd (qs:=c.map (·.2)) (m:=1)).2
  have dT:=(lcB_dvd (qs:=c'.map (·.2)) (m:=1)).2
  refine⟨_,_,ha,fun q hq=>?_⟩
  have x1:Ext S (put S q (.lst ((kvD fr c).map (·.2)))):=Ext.new hq
  have y1:put S q (.lst ((kvD fr c).map (·.2))) q=some (.lst ((c.map (·.2)).map fr)):=by rw [put_same,vals_eq]
  generalize put S q (.lst ((kvD fr c).map (·.2)))=S1 at x1 y1
  refine⟨q,_,B1,rfl,y1,B1p,bB1.mono (by decide),hD.dv (by omega),?_⟩
  refine⟨_,_,x1 _ _ hb,fun q' hq'=>?_⟩
  have x2:Ext S (put S1 q' (.lst ((kvD fr c').map (·.2)))):=x1.trans (Ext.new hq')
  have y2:put S1 q' (.lst ((kvD fr c').map (·.2))) q'=some (.lst ((c'.map (·.2)).map fr)):=by rw [put_same,vals_eq]
  generalize put S1 q' (.lst ((kvD fr c').map (·.2)))=S2 at x2 y2
  refine⟨q',_,B2,rfl,y2,B2p,bB2.mono (by decide),hD'.dv (by omega),?_⟩
  have tM:∀ p∈c,((topI (lcB 1 (c.map (·.2))) p.2:Int):Rat)=(lcB 1 (c.map (·.2)):Int)*p.2:=fun p hp=>topI_eq (dM p.2 (List.mem_map.mpr ⟨p,hp,rfl⟩))
  have tT:∀ p∈c',((topI (lcB 1 (c'.map (·.2))) p.2:Int):Rat)=(lcB 1 (c'.map (·.2)):Int)*p.2:=fun p hp=>topI_eq (dT p.2 (List.mem_map.mpr ⟨p,hp,rfl⟩))
  have cbM:∀ p∈c,Bt 500 (topI (lcB 1 (c.map (·.2))) p.2):=fun p hp=>top_bt (by omega) dvM (tM p hp) (hD p hp)
  have cbT:∀ p∈c',Bt 500 (topI (lcB 1 (c'.map (·.2))) p.2):=fun p hp=>top_bt (by omega) dvT (tT p hp) (hD' p hp)
  clear dvM dvT
  generalize lcB 1 (c.map (·.2))=M at M0 bM' dM tM cbM ⊢
  generalize lcB 1 (c'.map (·.2))=T at T0 bT' dT tT cbT ⊢
  intro p hp e0
  have x3:Ext S (put S2 p (dTo [] e0)):=x2.trans (Ext.new hp)
  have y3:put S2 p (dTo [] e0) p=some (dTo [] e0):=put_same
  have Sp:=x2.none hp
  generalize put S2 p (dTo [] e0)=S3 at x3 y3 ⊢
  have ci:∀ {c:List (List Int×Rat)} {B:Int},Cv 10 900 3 c->Ci 3 (c.map fun x=>(x.1,topI B x.2)):=fun hc=>⟨by rw [List.map_map]; exact hc.nd,fun p hp=>by
   obtain⟨x,hx,rfl⟩:=List.mem_map.mp hp
   exact hc.sm x hx⟩
  have cb:∀ {c:List (List Int×Rat)} {B:Int},(∀ p∈c,Bt 500 (topI B p.2))->∀ p∈c.map fun x=>(x.1,topI B x.2),Bt 500 p.2:=fun h p hp=>by
   obtain⟨x,hx,rfl⟩:=List.mem_map.mp hp
   exact h x hx
  refine⟨a,c,e,M,rfl,x3 _ _ ha,hc.nd,by omega,fun p hp=>(hc.hz p hp).mono (by decide),bM'.mono (by decide),fun S4 p4 e4 x4 h4=>⟨b,c',e',T,rfl,x4 _ _ (x3 _ _ hb),hc'.nd,by omega,fun p hp=>(hc'.hz p hp).mono (by decide),bT'.mono (by decide),fun S5 p5 e5 x5 h5=>?_⟩⟩
  refine⟨p4,p5,_,_,e4,e5,rfl,x5 _ _ h4,h5,ci hc,ci hc',by rw [List.length_map]; omega,by rw [List.length_map]; omega,cb cbM,cb cbT,fun S6 p6 e6 g x6 n6 hg gl gf h6=>?_⟩
  have y6:=x6 _ _ (x5 _ _ (x4 _ _ y3))
  have X6:=((x3.trans x4).trans x5).trans x6
  have gm:∀ k,((gI g k:Int):Rat)=M*T*mulF c c' k:=fun k=>by
   rw [gf k]
   exact mulF_top tT tM (s:=0) (z:=0) (by show(0:Rat)=_; grind)
  have B0:M*T≠0:=Int.mul_ne_zero (by omega) (by omega)
  have np6:p6≠p:=fun z=>by rw [z] at n6; rw [x5 _ _ (x4 _ _ y3)] at n6; cases n6
  have gk:∀ l:List (List Int×Int),(l.map fun q=>(q.1,Rat.divInt q.2 (M*T))).map (·.1)=l.map (·.1):=fun l=>by rw [List.map_map]; rfl
  refine⟨_,_,h6,?_⟩
  refine loop_ix (fun r L S'=>∃ (don rest:List (List Int×Int)) (e3:Nat) (l5 l6:Option D),g=don++rest/\r=pairsD (tpD rest)/\L=[some (.ref a),some (.ref b),some (.int M),some (.int T),some (.ref p),l5,l6]/\Ext S S'/\S' p6=some (dTo (tpD g) e6)/\S' p=some (dTo (cvD (don.map fun q=>(q.1,Rat.divInt q.2 (M*T)))) e3)) (fun r L S' ⟨_,_,_,_,_,_,_,_,_,h,_⟩=>h) ?_ ?_ _ _ _ ⟨[],g,e0,none,none,rfl,rfl,rfl,X6,h6,y6⟩
  ·rintro d r L S7 N1 ⟨don,rest,e3,l5,l6,ec,er,rfl,x7,g7,p7⟩ hN
   cases rest with
   | nil=>cases er
   | cons q rest=>
    cases er
    have nq:=nd_mid (p:=q) (ec▸hg.nd)
    have hd:don.length < 100:=by have:=congrArg List.length ec; rw [List.length_append,List.length_cons] at this; omega
    refine⟨([keyD q.1,.int q.2],none),rfl,rfl,rfl,mok bM' bT',B0,(bM'.mul bT').mono (by decide),_,_,q.1,p7,rfl,by rw [kvD_len,List.length_map]; exact lim (by omega),fun e8=>hN _ _ ⟨don++[q],rest,e8,_,_,by rw [ec]; simp,rfl,rfl,x7.put Sp,by rw [put_ne np6]; exact g7,?_⟩⟩
    rw [put_same,putT_app (f:=fr) (l:=don.map fun q=>(q.1,Rat.divInt q.2 (M*T))) (k:=q.1) (x:=Rat.divInt q.2 (M*T)) (by rw [gk]; exact nq)]
    simp
  ·rintro L S7 ⟨don,rest,e3,l5,l6,ec,er,rfl,x7,g7,p7⟩
   cases rest with
   | cons q rest=>cases er
   | nil=>
    rw [List.append_nil] at ec
    subst ec
    have nd:((g.map fun q=>(q.1,Rat.divInt q.2 (M*T))).map (·.1)).Nodup:=by rw [gk]; exact hg.nd
    refine⟨p,_,e3,rfl,p7,nd,by rw [List.length_map]; omega,fun S8 q8 e8 x8 n8 h8=>w S8 q8 e8 _ (x7.trans x8) (x7.none n8) ⟨nd_filter nd,fun p hp=>?_,fun p hp=>(nz_mem.mp hp).2,fun k=>?_⟩ h8⟩
    ·obtain⟨x,hx,rfl⟩:=List.mem_map.mp (nz_mem.mp hp).1
     obtain⟨i,j,e,_⟩:=hg.sm x hx
     exact⟨i,j,e⟩
    ·rw [gR_nz nd]
     have z0:Rat.divInt 0 (M*T)=0:=Rat.zero_divInt _
     have e1:=gA_map (φ:=fun n:Int=>Rat.divInt n (M*T)) (z:=0) (k:=k) (c:=g)
     rw [z0] at e1
     refine e1.trans ?_
     show Rat.divInt (gI g k) (M*T)=_
     have b0:((M*T:Int):Rat)≠0:=fun z=>B0 (Rat.intCast_inj.mp (by rw [z]; rfl))
     rw [Rat.divInt_eq_div,gm k]
     rw [Rat.intCast_mul] at b0 ⊢
     grind
def slP (at_:Bool) (p:List Int×Rat):Option (List Int×Rat):=match p.1 with
 | [i,j]=>if at_ then(if 0 < j then some ([i,j - 1],p.2*(j:Rat)) else none) else(if 0 < i then some ([i - 1,j],p.2*(i:Rat)) else none)
 | _=>none
def slL (at_:Bool) (c:List (List Int×Rat)):List (List Int×Rat):=c.filterMap (slP at_)
theorem slL_keys {t:Bool} {c:List (List Int×Rat)} {k:List Int} (h:k∈(slL t c).map (·.1)):∃ i j,k=[i,j]/\(if t then [i,j+1] else [i+1,j])∈c.map (·.1):=by
 obtain⟨x,hx,rfl⟩:=List.mem_map.mp h
 obtain⟨p,hp,e⟩:=List.mem_filterMap.mp hx
 unfold slP at e
 split at e
 ·rename_i i j ep
  cases t with
  | true=>
   simp only [if_true] at e
   split at e
   ·cases e
    exact⟨i,j - 1,rfl,List.mem_map.mpr ⟨p,hp,by rw [ep]; simp⟩⟩
   ·cases e
  | false=>
   simp only [Bool.false_eq_true,if_false] at e
   split at e
   ·cases e
    exact⟨i - 1,j,rfl,List.mem_map.mpr ⟨p,hp,by rw [ep]; simp⟩⟩
   ·cases e
 ·cases e
theorem int_sz5 {z:Int} (h0:0<=z) (h1:z<=20):Sz 5 (z:Rat):=⟨by show Bt 5 z; unfold Bt; omega,by show Bt 5 ((1:Nat):Int); decide⟩
def F_slope:DSp:=fun ds S k=>∃ (a:Addr) (c:List (List Int×Rat)) (ep:Nat) (t:Bool),ds=[.ref a,.int (if t then 1 else 0)]/\S a=some (dTo (cvD c) ep)/\Cv 28 900 6 c/\∀ S' p ep',Ext S S'->S p=none->S' p=some (dTo (cvD (slL t c)) ep')->k (.ref p) S'
theorem sc_slope:FnScope ["curve","at","told","key","fraction","lower"] ["curve","at"] (defScope s_slope):=scm
theorem ok_slope (Fn:Fun K "slope" "slope" s_slope f fd) (c_times:Own P w K mg base "times" 3 F_times):
  FnOk P w K mg base CX0 4 f fd ["curve","at"] (spU K F_slope):=by
 refine Fn.okJ sc_slope (fun ds S k h=>?_) (fun cdv A outer s H E hr=>⟨_,(ds_consj (dst_setj (i:=2) sc_slope.nd d_dnewj) (ds_consj (dst_forIj PassesOwn.never rfl (i_itemsj (d_varj 0)) (dg_seqE (n:=2) rfl (dgs_consj (dg_namej (i:=3) sc_slope.nd) (dgs_consj (dg_namej (i:=4) sc_slope.nd) dgs_nilj))) (ds_onej (dst_ifj (dt_cmpj o_gt (d_ixj x_ixE (d_varj 3) (d_varj 1) (fun _ _=>rfl)) d_intj (nomark _)) (ds_consj (dst_setj (i:=5) sc_slope.nd (d_ifj (dt_cmpj o_eq (d_varj 1) d_intj (nomark _)) (d_tupj (da_consj (d_opj o_sub (d_ixj x_ixE (d_varj 3) d_intj (fun _ _=>rfl)) d_intj) (da_consj (d_ixj x_ixE (d_varj 3) d_intj (fun _ _=>rfl)) da_nilj))) (d_tupj (da_consj (d_ixj x_ixE (d_varj 3) d_intj (fun _ _=>rfl)) (da_consj (d_opj o_sub (d_ixj x_ixE (d_varj 3) d_intj (fun _ _=>rfl)) d_intj) da_nilj))))) (ds_onej (dst_asgj (dq c_times hr (da_consj (d_varj 4) (da_consj (d_tupj (da_consj (d_ixj x_ixE (d_varj 3) (d_varj 1) (fun _ _=>rfl)) (da_consj d_intj da_nilj))) da_nilj))) (dg_subD hr (d_varj 2) (d_varj 5))))) ds_nilj))) (ds_onej (dst_retj (d_varj 2))))),fun ds S k h=>?_⟩)
 ·obtain⟨_,_,_,_,rfl,_⟩:=h
  rfl
 ·obtain⟨a,c,ep,t,rfl,ha,hc,w⟩:=h
  refine fun p hp e0=>⟨_,_,put_keep hp ha,?_⟩
  have nap:a≠p:=ne_put ha hp
  cases t with
  | false=>
   refine loop_ix (fun r L S'=>∃ (don rest:List (List Int×Rat)) (e1:Nat) (l3 l4 l5:Option D),c=don++rest/\r=pairsD (cvD rest)/\L=[some (.ref a),some (.int 0),some (.ref p),l3,l4,l5]/\Ext S S'/\S' a=some (dTo (cvD c) ep)/\S' p=some (dTo (cvD (slL false don)) e1)) (fun r L S' ⟨_,_,_,_,_,_,_,_,_,_,h,_⟩=>h) ?_ ?_ _ _ _ ⟨[],c,e0,none,none,none,rfl,rfl,rfl,Ext.new hp,put_keep hp ha,put_same⟩
   ·rintro d r L S1 N1 ⟨don,rest,e1,l3,l4,l5,ec,er,rfl,x1,a1,p1⟩ hN
    cases rest with
    | nil=>cases er
    | cons q rest=>
     cases er
     have lz:(slL false don).length<=don.length:=List.length_filterMap_le _ _
     have hd:don.length < 100:=by have:=congrArg List.length ec; rw [List.length_append,List.length_cons] at this; have:=hc.hl; omega
     obtain⟨k',v⟩:=q
     have mq:(k',v)∈c:=by rw [ec]; simp
     obtain⟨i,j,ek,i0,j0,i1,j1⟩:=hc.sm (k',v) mq
     have nq:=nd_mid (p:=(k',v)) (ec▸hc.nd)
     have sq:=hc.hz _ mq
     have ek:k'=[i,j]:=ek
     subst ek
     have bi:Sz 5 ((i:Int):Rat):=int_sz5 (by omega) (by omega)
     refine⟨([keyD [i,j],fr v],none),rfl,rfl,rfl,ite_dec (fun h0=>⟨few,few,v,((i:Int):Rat),rfl,sq.mono (by decide),bi.mono (by decide),_,_,[i - 1,j],p1,rfl,by rw [kvD_len]; exact lim (by omega),fun e2=>hN _ _ ⟨don++[([i,j],v)],rest,e2,_,_,_,by rw [ec]; simp,rfl,rfl,x1.put hp,by rw [put_ne nap]; exact a1,?_⟩⟩) (fun h0=>hN _ _ ⟨don++[([i,j],v)],rest,e1,_,_,_,by rw [ec]; simp,rfl,rfl,x1,a1,?_⟩)⟩
     ·have nk:[i - 1,j]∉(slL false don).map (·.1):=fun z=>by
       obtain⟨i',j',e,m⟩:=slL_keys z
       cases e
       refine nq ?_
       simpa using m
      rw [put_same,putT_app (f:=fr) (l:=slL false don) (k:=[i - 1,j]) (x:=v*((i:Int):Rat)) nk]
      have h0:0 < i:=h0
      simp [slL,List.filterMap_append,slP,h0]
     ·rw [p1]
      have h0:¬ 0 < i:=h0
      simp [slL,List.filterMap_append,slP,h0]
   ·rintro L S1 ⟨don,rest,e1,l3,l4,l5,ec,er,rfl,x1,a1,p1⟩
    cases rest with
    | cons q rest=>cases er
    | nil=>
     rw [List.append_nil] at ec
     subst ec
     exact w S1 p e1 x1 hp p1
  | true=>
   refine loop_ix (fun r L S'=>∃ (don rest:List (List Int×Rat)) (e1:Nat) (l3 l4 l5:Option D),c=don++rest/\r=pairsD (cvD rest)/\L=[some (.ref a),some (.int 1),some (.ref p),l3,l4,l5]/\Ext S S'/\S' a=some (dTo (cvD c) ep)/\S' p=some (dTo (cvD (slL true don)) e1)) (fun r L S' ⟨_,_,_,_,_,_,_,_,_,_,h,_⟩=>h) ?_ ?_ _ _ _ ⟨[],c,e0,none,none,none,rfl,rfl,rfl,Ext.new hp,put_keep hp ha,put_same⟩
   ·rintro d r L S1 N1 ⟨don,rest,e1,l3,l4,l5,ec,er,rfl,x1,a1,p1⟩ hN
    cases rest with
    | nil=>cases er
    | cons q rest=>
     cases er
     have lz:(slL true don).length<=don.length:=List.length_filterMap_le _ _
     have hd:don.length < 100:=by have:=congrArg List.length ec; rw [List.length_append,List.length_cons] at this; have:=hc.hl; omega
     obtain⟨k',v⟩:=q
     have mq:(k',v)∈c:=by rw [ec]; simp
     obtain⟨i,j,ek,i0,j0,i1,j1⟩:=hc.sm (k',v) mq
     have nq:=nd_mid (p:=(k',v)) (ec▸hc.nd)
     have sq:=hc.hz _ mq
     have ek:k'=[i,j]:=ek
     subst ek
     have bi:Sz 5 ((j:Int):Rat):=int_sz5 (by omega) (by omega)
     refine⟨([keyD [i,j],fr v],none),rfl,rfl,rfl,ite_dec (fun h0=>⟨few,few,v,((j:Int):Rat),rfl,sq.mono (by decide),bi.mono (by decide),_,_,[i,j - 1],p1,rfl,by rw [kvD_len]; exact lim (by omega),fun e2=>hN _ _ ⟨don++[([i,j],v)],rest,e2,_,_,_,by rw [ec]; simp,rfl,rfl,x1.put hp,by rw [put_ne nap]; exact a1,?_⟩⟩) (fun h0=>hN _ _ ⟨don++[([i,j],v)],rest,e1,_,_,_,by rw [ec]; simp,rfl,rfl,x1,a1,?_⟩)⟩
     ·have nk:[i,j - 1]∉(slL true don).map (·.1):=fun z=>by
       obtain⟨i',j',e,m⟩:=slL_keys z
       cases e
       refine nq ?_
       simpa using m
      rw [put_same,putT_app (f:=fr) (l:=slL true don) (k:=[i,j - 1]) (x:=v*((j:Int):Rat)) nk]
      have h0:0 < j:=h0
      simp [slL,List.filterMap_append,slP,h0]
     ·rw [p1]
      have h0:¬ 0 < j:=h0
      simp [slL,List.filterMap_append,slP,h0]
   ·rintro L S1 ⟨don,rest,e1,l3,l4,l5,ec,er,rfl,x1,a1,p1⟩
    cases rest with
    | cons q rest=>cases er
    | nil=>
     rw [List.append_nil] at ec
     subst ec
     exact w S1 p e1 x1 hp p1
set_option maxHeartbeats 4000000
def imul (U:Int) (x y:Int×Int):Int×Int:=(x.1*y.1+x.2*y.2*U,x.1*y.2+x.2*y.1)
def ipw (U:Int) (x:Int×Int):Nat->Int×Int
 | 0=>(1,0)
 | n+1=>imul U (ipw U x n) x
def iD (x:Int×Int):D:=.tup [.int x.1,.int x.2]
structure B2 (n:Nat) (x:Int×Int):Prop where
 a:Bt n x.1
 b:Bt n x.2
theorem imul_assoc (U:Int) (x y z:Int×Int):imul U (imul U x y) z=imul U x (imul U y z):=by
 unfold imul
 apply Prod.ext <;> dsimp only <;> grind
theorem imul_one (U:Int) (x:Int×Int):imul U x (1,0)=x:=by
 unfold imul
 apply Prod.ext <;> dsimp only <;> grind
theorem one_imul (U:Int) (x:Int×Int):imul U (1,0) x=x:=by
 unfold imul
 apply Prod.ext <;> dsimp only <;> grind
theorem ipw_one (U:Int) (x:Int×Int):ipw U x 1=x:=one_imul U x
theorem ipw_add (U:Int) (x:Int×Int) (m:Nat):∀ n,ipw U x (m+n)=imul U (ipw U x m) (ipw U x n)
 | 0=>(imul_one U _).symm
 | n+1=>by
  show imul U (ipw U x (m+n)) x=imul U (ipw U x m) (imul U (ipw U x n) x)
  rw [ipw_add U x m n,imul_assoc]
theorem ipw_plain (U b:Int):∀ n,ipw U (b,0) n=(b ^ n,0)
 | 0=>by show((1:Int),(0:Int))=_; rw [Int.pow_zero]
 | n+1=>by
  show imul U (ipw U (b,0) n) (b,0)=_
  rw [ipw_plain U b n,Int.pow_succ]
  unfold imul
  apply Prod.ext <;> dsimp only <;> grind
theorem B2.mono {m n:Nat} {x:Int×Int} (h:B2 m x) (hm:m<=n):B2 n x:=⟨h.a.mono hm,h.b.mono hm⟩
theorem B2.mul {m n k:Nat} {U:Int} {x y:Int×Int} (hx:B2 m x) (hy:B2 n y) (hU:Bt k U):B2 (m+n+k+1) (imul U x y):=
 ⟨((hx.a.mul hy.a).add ((hx.b.mul hy.b).mul hU)).mono (by omega),((hx.a.mul hy.b).add (hx.b.mul hy.a)).mono (by omega)⟩
theorem b2_one:B2 1 ((1:Int),(0:Int)):=⟨by decide,by decide⟩
theorem B2.pw {n k:Nat} {U:Int} {x:Int×Int} (hx:B2 n x) (hU:Bt k U):∀ p,B2 (p*(n+k+1)+1) (ipw U x p)
 | 0=>b2_one.mono (by omega)
 | p+1=>((B2.pw hx hU p).mul hx hU).mono (by rw [Nat.add_mul]; omega)
def qpw (u:Rat) (x:Q):Nat->Q
 | 0=>(1,0)
 | n+1=>qm u (qpw u x n) x
def mon (u:Rat) (x y:Q) (k:List Int):Q:=qm u (qpw u x (k.getD 0 0).toNat) (qpw u y (k.getD 1 0).toNat)
def qk (t:Rat) (x:Q):Q:=(t*x.1,t*x.2)
def qval (u:Rat) (x y:Q) (c:List (List Int×Rat)) (s:Q):Q:=c.foldl (fun s p=>qa s (qk p.2 (mon u x y p.1))) s
def qc (x:Int×Int):Q:=((x.1:Rat),(x.2:Rat))
theorem qc_mul (U:Int) (x y:Int×Int):qc (imul U x y)=qm (U:Rat) (qc x) (qc y):=by
 unfold qc imul qm
 apply Prod.ext <;> dsimp only <;> simp only [Rat.intCast_add,Rat.intCast_mul]
theorem qm_k (u s t:Rat) (x y:Q):qm u (qk s x) (qk t y)=qk (s*t) (qm u x y):=by
 unfold qm qk
 apply Prod.ext <;> dsimp only <;> grind
theorem qk_k (s t:Rat) (x:Q):qk s (qk t x)=qk (s*t) x:=by
 unfold qk
 apply Prod.ext <;> dsimp only <;> grind
theorem qk_a (t:Rat) (x y:Q):qk t (qa x y)=qa (qk t x) (qk t y):=by
 unfold qk qa
 apply Prod.ext <;> dsimp only <;> grind
theorem qc_pw {U M:Int} {X:Int×Int} {x:Q} (h:qc X=qk (M:Rat) x):∀ n,qc (ipw U X n)=qk ((M:Rat) ^ n) (qpw (U:Rat) x n)
 | 0=>by
  show(((1:Int):Rat),((0:Int):Rat))=qk ((M:Rat) ^ 0) (1,0)
  rw [Rat.pow_zero]
  unfold qk
  apply Prod.ext <;> dsimp only <;> grind
 | n+1=>by
  show qc (imul U (ipw U X n) X)=qk _ (qm (U:Rat) (qpw (U:Rat) x n) x)
  rw [qc_mul,qc_pw h n,h,qm_k,Rat.pow_succ]
theorem rpow_add (x:Rat) (m:Nat):∀ n,x ^ (m+n)=x ^ m*x ^ n
 | 0=>by rw [Nat.add_zero,Rat.pow_zero,Rat.mul_one]
 | n+1=>by rw [<- Nat.add_assoc,Rat.pow_succ,Rat.pow_succ,rpow_add x m n,Rat.mul_assoc]
theorem qc_told {U M:Int} {X:Int×Int} {x:Q} (h:qc X=qk (M:Rat) x) {m n:Nat} (hn:n<=m):qc (imul U (ipw U X n) (ipw U (M,0) (m - n)))=qk ((M:Rat) ^ m) (qpw (U:Rat) x n):=by
 have e:qc (ipw U (M,0) (m - n))=qk ((M:Rat) ^ (m - n)) (1,0):=by
  rw [ipw_plain]
  unfold qc qk
  apply Prod.ext <;> dsimp only
  ·rw [Rat.intCast_pow]; grind
  ·grind
 have e1:qm (U:Rat) (qpw (U:Rat) x n) (1,0)=qpw (U:Rat) x n:=by
  unfold qm
  apply Prod.ext <;> dsimp only <;> grind
 rw [qc_mul,qc_pw h n,e,qm_k,e1,<- rpow_add,show n+(m - n)=m by omega]
structure Rl (κ:Rat) (x x':Q):Prop where
 a:x'.1=x.1
 b:x.2=κ*x'.2
 z:κ=0->x'.2=0
theorem Rl.mul {κ u U:Rat} {x x' y y':Q} (hU:κ*κ*u=U) (h:Rl κ x x') (h':Rl κ y y'):Rl κ (qm u x y) (qm U x' y'):=by
 obtain⟨a1,b1,z1⟩:=h
 obtain⟨a2,b2,z2⟩:=h'
 unfold qm
 refine⟨?_,?_,fun k0=>?_⟩
 ·show x'.1*y'.1+x'.2*y'.2*U=x.1*y.1+x.2*y.2*u
  rw [a1,a2,b1,b2,<- hU]
  grind
 ·show x.1*y.2+x.2*y.1=κ*(x'.1*y'.2+x'.2*y'.1)
  rw [a1,a2,b1,b2]
  grind
 ·show x'.1*y'.2+x'.2*y'.1=0
  rw [z1 k0,z2 k0]
  grind
theorem Rl.one {κ:Rat}:Rl κ (1,0) (1,0):=⟨rfl,(Rat.mul_zero κ).symm,fun _=>rfl⟩
theorem Rl.zero {κ:Rat}:Rl κ (0,0) (0,0):=⟨rfl,(Rat.mul_zero κ).symm,fun _=>rfl⟩
theorem Rl.pw {κ u U:Rat} {x x':Q} (hU:κ*κ*u=U) (h:Rl κ x x'):∀ n,Rl κ (qpw u x n) (qpw U x' n)
 | 0=>Rl.one
 | n+1=>(Rl.pw hU h n).mul hU h
theorem Rl.add {κ:Rat} {x x' y y':Q} (h:Rl κ x x') (h':Rl κ y y'):Rl κ (qa x y) (qa x' y'):=by
 obtain⟨a1,b1,z1⟩:=h
 obtain⟨a2,b2,z2⟩:=h'
 unfold qa
 refine⟨?_,?_,fun k0=>?_⟩
 ·show x'.1+y'.1=x.1+y.1
  rw [a1,a2]
 ·show x.2+y.2=κ*(x'.2+y'.2)
  rw [b1,b2]
  grind
 ·show x'.2+y'.2=0
  rw [z1 k0,z2 k0]
  grind
theorem Rl.k {κ t:Rat} {x x':Q} (h:Rl κ x x'):Rl κ (qk t x) (qk t x'):=by
 obtain⟨a1,b1,z1⟩:=h
 unfold qk
 refine⟨?_,?_,fun k0=>?_⟩
 ·show t*x'.1=t*x.1
  rw [a1]
 ·show t*x.2=κ*(t*x'.2)
  rw [b1]
  grind
 ·show t*x'.2=0
  rw [z1 k0]
  grind
theorem Rl.mon {κ u U:Rat} {x x' y y':Q} (hU:κ*κ*u=U) (h:Rl κ x x') (h':Rl κ y y') (k:List Int):Rl κ (mon u x y k) (mon U x' y' k):=(h.pw hU _).mul hU (h'.pw hU _)
theorem Rl.val {κ u U:Rat} {x x' y y':Q} (hU:κ*κ*u=U) (h:Rl κ x x') (h':Rl κ y y'):∀ (c:List (List Int×Rat)) {s s':Q},Rl κ s s'->Rl κ (qval u x y c s) (qval U x' y' c s')
 | [],_,_,hs=>hs
 | p::c,s,s',hs=>Rl.val hU h h' c (hs.add ((h.mon hU h' p.1).k (t:=p.2)))
structure SO (κ:Rat) (n:Nat) (x:Q) (X:Int×Int) (M:Int):Prop where
 M0:0 < M
 bM:Bt n M
 bX:B2 n X
 rel:∃ x',Rl κ x x'/\qc X=qk (M:Rat) x'
theorem base_kk {β:Rat} {e u:Rat} (h:β=e*e*u):(ab e*(β.den:Int))*(ab e*(β.den:Int))*u=((β.num*(β.den:Int):Int):Rat):=by
 have d:=den_mulq β
 have s:=ab_sq e
 rw [Rat.intCast_mul,<- d]
 have:((β.den:Int):Rat)*β*((β.den:Int):Rat)=ab e*((β.den:Int):Rat)*(ab e*((β.den:Int):Rat))*u:=by
  rw [h]
  grind
 exact this.symm
theorem ss_rl {κ u U:Rat} {x x':Q} (k0:0<=κ) (hU:κ*κ*u=U) (h:Rl κ x x'):ss x'.2*U=ss x.2*u:=by
 rw [h.b,ss_mul,ss_nonneg k0,<- hU]
 grind
theorem eq_int {n:Nat} {i j:Int}:eqT n (.int i) (.int j)=some (i == j):=by cases n <;> rfl
theorem eq_fr {n:Nat} {p q:Rat}:eqT (n+1) (fr p) (fr q)=some (decide (p=q)):=by
 show eqTs (eqT n) [.int p.num,.int (p.den:Int)] [.int q.num,.int (q.den:Int)]=_
 show(match eqT n (.int p.num) (.int q.num),(match eqT n (.int (p.den:Int)) (.int (q.den:Int)),some true with | some a,some b=>some (a && b) | _,_=>none) with | some a,some b=>some (a && b) | _,_=>none)=_
 rw [eq_int,eq_int]
 show some ((p.num == q.num) && (((p.den:Int) == (q.den:Int)) && true))=_
 congr 1
 rw [Bool.and_true,Bool.eq_iff_iff]
 simp only [Bool.and_eq_true,beq_iff_eq,decide_eq_true_eq]
 exact⟨fun ⟨a,b⟩=>Rat.ext a (by exact_mod_cast b),fun h=>by subst h; exact⟨rfl,rfl⟩⟩
theorem eq_two {n:Nat} {a b c d:D} {p q:Bool} (h1:eqT n a c=some p) (h2:eqT n b d=some q):eqT (n+1) (.tup [a,b]) (.tup [c,d])=some (p && q):=by
 show(match eqT n a c,(match eqT n b d,some true with | some a,some b=>some (a && b) | _,_=>none) with | some a,some b=>some (a && b) | _,_=>none)=_
 rw [h1,h2]
 show some (p && (q && true))=_
 rw [Bool.and_true]
theorem eq_fr' {n:Nat} {q:Rat}:eqT (n+1) (fr q) (fr q)=some true:=by rw [eq_fr,decide_eq_true rfl]
set_option maxHeartbeats 4000000
theorem seq_ifx {c:DT} {t e b2:DS} {M:DEnds} {L:Lo} {S:DH} (P:Lo->DH->Prop) (h2:∀ L S,P L S->b2 M L S) (h1:(∀ L S,P L S->b2 M L S)->dIfS c t e {M with nx:=b2 M} L S):dSeq (dIfS c t e) b2 M L S:=h1 h2
theorem frI (u:Int):D.tup [.int u,.int 1]=fr (u:Rat):=by
 show _=D.tup [.int (u:Rat).num,.int ((u:Rat).den:Int)]
 rw [Rat.num_intCast,Rat.den_intCast]
 rfl
def F_surd_times:DSp:=fun ds S k=>∃ (x y:Int×Int) (U:Int) (n:Nat),ds=[iD x,iD y,.int U]/\B2 n x/\B2 n y/\Bt n U/\n<=1000000/\k (iD (imul U x y)) S
theorem sc_surd_times:FnScope ["one","other","base"] ["one","other","base"] (defScope s_surd_times):=scm
theorem ok_surd_times (Fn:Fun K "surd_times" "surd_times" s_surd_times f fd):
  FnOk P w K mg base CX0 1 f fd ["one","other","base"] (spU K F_surd_times):=by
 refine Fn.okJ sc_surd_times (fun ds S k h=>?_) (fun cdv A outer s H E hr=>⟨_,(ds_onej (dst_retj (d_tupj (da_consj (d_opj o_add (d_opj o_mul (d_ixj x_ixE (d_varj 0) d_intj (fun _ _=>rfl)) (d_ixj x_ixE (d_varj 1) d_intj (fun _ _=>rfl))) (d_opj o_mul (d_opj o_mul (d_ixj x_ixE (d_varj 0) d_intj (fun _ _=>rfl)) (d_ixj x_ixE (d_varj 1) d_intj (fun _ _=>rfl))) (d_varj 2))) (da_consj (d_opj o_add (d_opj o_mul (d_ixj x_ixE (d_varj 0) d_intj (fun _ _=>rfl)) (d_ixj x_ixE (d_varj 1) d_intj (fun _ _=>rfl))) (d_opj o_mul (d_ixj x_ixE (d_varj 0) d_intj (fun _ _=>rfl)) (d_ixj x_ixE (d_varj 1) d_intj (fun _ _=>rfl)))) da_nilj))))),fun ds S k h=>?_⟩)
 ·obtain⟨_,_,_,_,rfl,_⟩:=h
  rfl
 ·obtain⟨x,y,U,n,rfl,hx,hy,hU,hn,w⟩:=h
  exact⟨mok hx.a hy.a (by omega),mok hx.b hy.b (by omega),mok (hx.b.mul hy.b) hU (by omega),mok hx.a hy.b (by omega),mok hx.b hy.a (by omega),few,w⟩
def F_surd_power:DSp:=fun ds S k=>∃ (x:Int×Int) (U:Int) (P:Nat) (n:Nat),ds=[iD x,.int P,.int U]/\B2 n x/\Bt n U/\n<=10000/\P<=12/\k (iD (ipw U x P)) S
theorem sc_surd_power:FnScope ["one","power","base","told"] ["one","power","base"] (defScope s_surd_power):=scm
theorem ok_surd_power (Fn:Fun K "surd_power" "surd_power" s_surd_power f fd) (c_surd_times:Own P w K mg base "surd_times" 1 F_surd_times):
  FnOk P w K mg base CX0 2 f fd ["one","power","base"] (spU K F_surd_power):=by
 refine Fn.okJ sc_surd_power (fun ds S k h=>?_) (fun cdv A outer s H E hr=>⟨_,(ds_consj (dst_setj (i:=3) sc_surd_power.nd (d_tupj (da_consj d_intj (da_consj d_intj da_nilj)))) (ds_consj (dst_whilej PassesOwn.never (dt_cmpj o_gt (d_varj 1) d_intj (nomark _)) (ds_consj (dst_ifj (dt_cmpj o_eq (d_opj o_mod (d_varj 1) d_intj) d_intj (nomark _)) (ds_onej (dst_setj (i:=3) sc_surd_power.nd (dq c_surd_times hr (da_consj (d_varj 3) (da_consj (d_varj 0) (da_consj (d_varj 2) da_nilj)))))) ds_nilj) (ds_consj (dst_setj (i:=1) sc_surd_power.nd (d_opj o_div (d_varj 1) d_intj)) (ds_onej (dst_ifj (dt_cmpj o_gt (d_varj 1) d_intj (nomark _)) (ds_onej (dst_setj (i:=0) sc_surd_power.nd (dq c_surd_times hr (da_consj (d_varj 0) (da_consj (d_varj 0) (da_consj (d_varj 2) da_nilj)))))) ds_nilj))))) (ds_onej (dst_retj (d_varj 3))))),fun ds S k h=>?_⟩)
 ·obtain⟨_,_,_,_,rfl,_⟩:=h
  rfl
 ·obtain⟨x,U,P,n,rfl,hx,hU,hn,hP,w⟩:=h
  refine⟨few,fun m L S'=>S'=S/\∃ p q:Nat,L=[some (iD (ipw U x q)),some (.int (m:Nat)),some (.int U),some (iD (ipw U x p))]/\p+q*m=P/\1<=q,⟨P,rfl,0,1,by rw [ipw_one]; rfl,by omega,by decide⟩,?_⟩
  rintro m L S' ⟨rfl,p,q,rfl,hpq,q1⟩
  have bd:∀ t,t<=12->B2 300000 (ipw U x t):=fun t ht=>(hx.pw hU t).mono (by
   have:t*(n+n+1)<=12*(n+n+1):=Nat.mul_le_mul_right _ ht
   omega)
  have bU':Bt 300000 U:=hU.mono (by omega)
  refine ite_dec (fun h0=>?_) (fun h0=>?_)
  ·have m0:0 < m:=by omega
   have qP:q*1<=q*m:=Nat.mul_le_mul_left _ m0
   refine⟨fun L' S''=>∃ m',m' < m/\S''=S'/\∃ p q:Nat,L'=[some (iD (ipw U x q)),some (.int (m':Nat)),some (.int U),some (iD (ipw U x p))]/\p+q*m'=P/\1<=q,fun _ _ z=>z,?_⟩
   have em:(m:Int).fmod 2=((m % 2:Nat):Int):=by
    rw [Int.fmod_eq_emod_of_nonneg _ (by decide)]
    omega
   have ed:(m:Int).fdiv 2=((m / 2:Nat):Int):=by
    rw [Int.fdiv_eq_ediv_of_nonneg _ (by decide)]
    omega
   have hm2:2*(m / 2)+m % 2=m:=Nat.div_add_mod m 2
   refine seq_ifx (fun L S2=>S2=S'/\∃ p':Nat,L=[some (iD (ipw U x q)),some (.int (m:Nat)),some (.int U),some (iD (ipw U x p'))]/\p'+q*(2*(m / 2))=P) ?_ (fun go=>?_)
   rotate_left
   ·refine⟨by show(2:Int)≠0; decide,?_⟩
    show(if decide ((m:Int).fmod 2=1)=true then _ else _)
    rw [em]
    refine ite_dec (fun h1=>?_) (fun h1=>?_)
    ·have e1:m % 2=1:=by omega
     refine⟨ipw U x p,ipw U x q,U,300000,rfl,bd p (by omega),bd q (by omega),bU',by decide,go _ _ ⟨rfl,p+q,by rw [ipw_add],?_⟩⟩
     have e2:q*(2*(m / 2)+1)=q*m:=by congr 1; omega
     rw [Nat.mul_add] at e2
     omega
    ·have e1:m % 2=0:=by omega
     refine go _ _ ⟨rfl,p,rfl,?_⟩
     have e2:q*(2*(m / 2))=q*m:=by congr 1; omega
     omega
   ·rintro L2 S2 ⟨rfl,p',rfl,hp'⟩
    refine⟨dok (m:=2) (by decide) (by decide),?_⟩
    dsimp only
    rw [ed]
    refine ite_dec (fun h1=>?_) (fun h1=>?_)
    ·have d1:0 < m / 2:=by omega
     have:q*2<=q*(2*(m / 2)):=Nat.mul_le_mul_left _ (by omega)
     refine⟨ipw U x q,ipw U x q,U,300000,rfl,bd q (by omega),bd q (by omega),bU',by decide,m / 2,by omega,rfl,p',q+q,by rw [ipw_add]; rfl,?_,by omega⟩
     rw [<- hp']
     have:(q+q)*(m / 2)=q*(2*(m / 2)):=by rw [<- Nat.mul_assoc]; congr 1; omega
     omega
    ·have d1:m / 2=0:=by omega
     refine⟨m / 2,by omega,rfl,p',q,rfl,?_,q1⟩
     rw [<- hp',d1]
  ·have m0:m=0:=by omega
   subst m0
   have e:p=P:=by omega
   subst e
   exact w
def F_surd_over:DSp:=fun ds S k=>∃ (u a b e:Rat) (s τ:Nat),ds=[N u a b,fr (e*e*u)]/\0 < u/\Sz τ u/\τ<=600/\(b=0\/e≠0)/\Sz s a/\Sz s b/\Sz s e/\1<=s/\s<=830/\∀ X M,SO (ab e*(((e*e*u).den:Int):Rat)) (9*s+2*τ+2) (a,b) X M->k (.tup [iD X,.int M]) S
theorem sc_surd_over:FnScope ["number","base","portion","bottom","surd"] ["number","base"] (defScope s_surd_over):=scm
theorem ok_surd_over (Fn:Fun K "surd_over" "surd_over" s_surd_over f fd) (c_over:Own P w K mg base "over" 3 F_over) (c_share:Own P w K mg base "share" 4 F_share) (c_common_multiple:Own P w K mg base "common_multiple" 2 F_common_multiple):
  FnOk P w K mg base CX0 5 f fd ["number","base"] (spU K F_surd_over):=by
 refine Fn.okJ sc_surd_over (fun ds S k h=>?_) (fun cdv A outer s H E hr=>⟨_,(ds_consj (dst_setj (i:=2) sc_surd_over.nd (dq c_over hr (da_consj (dq c_share hr (da_consj (d_varj 0) (da_consj (d_varj 1) da_nilj))) (da_consj (d_tupj (da_consj (d_ixj x_ixE (d_varj 1) d_intj (fun _ _=>rfl)) (da_consj d_intj da_nilj))) da_nilj)))) (ds_consj (dst_setj (i:=3) sc_surd_over.nd (dq c_common_multiple hr (da_consj (d_ixj x_ixE (d_ixj x_ixE (d_varj 0) d_intj (fun _ _=>rfl)) d_intj (fun _ _=>rfl)) (da_consj (d_ixj x_ixE (d_varj 2) d_intj (fun _ _=>rfl)) da_nilj)))) (ds_consj (dst_setj (i:=4) sc_surd_over.nd (d_tupj (da_consj (d_opj o_mul (d_ixj x_ixE (d_ixj x_ixE (d_varj 0) d_intj (fun _ _=>rfl)) d_intj (fun _ _=>rfl)) (d_opj o_div (d_varj 3) (d_ixj x_ixE (d_ixj x_ixE (d_varj 0) d_intj (fun _ _=>rfl)) d_intj (fun _ _=>rfl)))) (da_consj (d_opj o_mul (d_ixj x_ixE (d_varj 2) d_intj (fun _ _=>rfl)) (d_opj o_div (d_varj 3) (d_ixj x_ixE (d_varj 2) d_intj (fun _ _=>rfl)))) da_nilj)))) (ds_onej (dst_retj (d_tupj (da_consj (d_varj 4) (da_consj (d_varj 3) da_nilj)))))))),fun ds S k h=>?_⟩)
 ·obtain⟨_,_,_,_,_,_,rfl,_⟩:=h
  rfl
 ·obtain⟨u,a,b,e,s,τ,rfl,u0,su,ht6,be,sa,sb,se,s1,s100,w⟩:=h
  have d0:(((e*e*u).den:Int):Rat)≠0:=fun z=>by
   have:=Rat.intCast_inj.mp (show (((e*e*u).den:Int):Rat)=((0:Int):Rat) from z)
   have:=den_p (e*e*u)
   omega
  have sB:=(se.mul se).mul su
  have s1':=sb.div' se.ab
  have sd:Sz (s+s+τ) (((e*e*u).den:Int):Rat):=⟨by rw [Rat.num_intCast]; exact sB.den,by rw [Rat.den_intCast]; exact(show Bt 1 1 by decide).mono (by omega)⟩
  have sP:=s1'.div sd d0
  generalize hP:b / ab e / (((e*e*u).den:Int):Rat)=P at sP
  have dv1:(a.den:Int) ∣ ((Int.lcm (a.den:Int) (P.den:Int):Nat):Int):=Int.dvd_lcm_left _ _
  have dv2:(P.den:Int) ∣ ((Int.lcm (a.den:Int) (P.den:Int):Nat):Int):=Int.dvd_lcm_right _ _
  have M0:=lcm_pos' (den_p a) (den_p P)
  have bM:Bt (5*s+τ+1) ((Int.lcm (a.den:Int) (P.den:Int):Nat):Int):=dvd_bt (x:=(a.den:Int)*(P.den:Int)) (Int.coe_lcm_dvd (Int.dvd_mul_right _ _) (Int.dvd_mul_left _ _)) (by have:=Int.mul_pos (den_p a) (den_p P); omega) ((sa.den.mul sP.den).mono (by omega))
  have bf1:Bt (5*s+τ+1) (((Int.lcm (a.den:Int) (P.den:Int):Nat):Int).fdiv (a.den:Int)):=bM.le (HM.natAbs_fdiv_le _ _)
  have bf2:Bt (5*s+τ+1) (((Int.lcm (a.den:Int) (P.den:Int):Nat):Int).fdiv (P.den:Int)):=bM.le (HM.natAbs_fdiv_le _ _)
  refine⟨u,a,b,e,rfl,u0,be,sb.mono (by omega),se.mono (by omega),su.mono (by omega),few,b / ab e,(((e*e*u).den:Int):Rat),congrArg (fun z=>[fr (b / ab e),z]) (frI _),d0,s1'.mono (by omega),sd.mono (by omega),?_⟩
  rw [hP]
  refine⟨(a.den:Int),(P.den:Int),rfl,den_p a,den_p P,sa.den.mono (by omega),sP.den.mono (by omega),?_⟩
  refine⟨dok (by have:=den_p a; omega) sa.den (by omega),mok sa.num bf1 (by omega),dok (by have:=den_p P; omega) sP.den (by omega),mok sP.num bf2 (by omega),few,few,?_⟩
  refine w (topI _ a,topI _ P) _ ⟨M0,bM.mono (by omega),⟨(sa.num.mul bf1).mono (by omega),(sP.num.mul bf2).mono (by omega)⟩,(a,P),⟨rfl,?_,fun k0=>?_⟩,?_⟩
  ·show b=ab e*_*P
   rw [<- hP]
   rcases be with b0 | e0
   ·rw [b0]
    grind
   ·have:=ab_ne e0
    grind
  ·show P=0
   rw [<- hP]
   rcases be with b0 | e0
   ·rw [b0]
    grind
   ·have:=ab_ne e0
    grind
  ·unfold qc qk
   apply Prod.ext
   ·exact topI_eq dv1
   ·exact topI_eq dv2
abbrev bU (e u:Rat):Int:=(e*e*u).num*((e*e*u).den:Int)
def pwD (U:Int) (X:Int×Int) (M:Int) (mx:Nat) (l:List Int):List (L2.Key×D):=l.map fun n=>(Sum.inl n,iD (imul U (ipw U X n.toNat) (ipw U (M,0) (mx - n.toNat))))
theorem srtN_len (ns:List Int):(srtN ns).length<=7:=by
 unfold srtN PySem.subI PySem.subM
 rw [List.length_map]
 exact Nat.le_trans (List.length_filter_le _ _) (by decide)
theorem putD_pw {U:Int} {X:Int×Int} {M:Int} {mx:Nat} {l:List Int} {n:Int} (h:n∉l):putD (pwD U X M mx l) (.inl n) (iD (imul U (ipw U X n.toNat) (ipw U (M,0) (mx - n.toNat))))=pwD U X M mx (l++[n]):=by
 unfold putD pwD
 rw [if_neg,List.map_append]
 ·rfl
 ·intro z
  obtain⟨x,hx,e⟩:=List.any_eq_true.mp z
  obtain⟨k,hk,rfl⟩:=List.mem_map.mp hx
  simp only [decide_eq_true_eq] at e
  cases e
  exact h hk
theorem valD_pw {U:Int} {X:Int×Int} {M:Int} {mx:Nat} {n:Int}:∀ {l:List Int},n∈l->valD (pwD U X M mx l) (.inl n)=some (iD (imul U (ipw U X n.toNat) (ipw U (M,0) (mx - n.toNat))))
 | k::l,h=>by
  by_cases e:k=n
  ·subst e
   simp [valD,pwD,List.find?_cons]
  ·have h':n∈l:=by
    rcases List.mem_cons.mp h with q | q
    ·exact absurd q.symm e
    ·exact q
   have:=valD_pw (U:=U) (X:=X) (M:=M) (mx:=mx) h'
   simp only [valD,pwD,List.map_cons,List.find?_cons] at this ⊢
   have ne:(decide ((Sum.inl k:L2.Key)=Sum.inl n))=false:=by
    simp
    exact e
   rw [ne]
   exact this
def F_powers_over:DSp:=fun ds S k=>∃ (u a b e:Rat) (s τ:Nat) (q:Addr) (ns:List Int),ds=[N u a b,.ref q,fr (e*e*u)]/\S q=some (.lst (ns.map D.int))/\ns≠[]/\ns.length<=100/\(∀ n∈ns,0<=n/\n < 7)/\0 < u/\Sz τ u/\τ<=600/\(b=0\/e≠0)/\Sz s a/\Sz s b/\Sz s e/\1<=s/\s<=830/\
 ∀ S' p X M mx,Ext S S'->SO (ab e*(((e*e*u).den:Int):Rat)) (9*s+2*τ+2) (a,b) X M->(∀ n∈ns,n.toNat<=mx)->mx < 7->S' p=some (.gen (.dK (pwD (bU e u) X M mx (srtN ns))))->k (.tup [.ref p,.int (M ^ mx)]) S'
theorem sc_powers_over:FnScope ["number","powers","base","found","under","bottom","most","told","power"] ["number","powers","base"] (defScope s_powers_over):=scm
theorem ok_powers_over (Fn:Fun K "powers_over" "powers_over" s_powers_over f fd) (c_surd_over:Own P w K mg base "surd_over" 5 F_surd_over) (c_surd_times:Own P w K mg base "surd_times" 1 F_surd_times) (c_surd_power:Own P w K mg base "surd_power" 2 F_surd_power) (z_max:mg "max"=none) (z_sorted:mg "sorted"=none) (z_set:mg "set"=none):
  FnOk P w K mg base CX0 6 f fd ["number","powers","base"] (spU K F_powers_over):=by
 refine Fn.okJ sc_powers_over (fun ds S k h=>?_) (fun cdv A outer s H E hr=>⟨_,(ds_consj (dst_setj (i:=3) sc_powers_over.nd (dq c_surd_over hr (da_consj (d_varj 0) (da_consj (d_varj 2) da_nilj)))) (ds_consj (dst_setj (i:=4) sc_powers_over.nd (d_opj o_mul (d_ixj x_ixE (d_varj 2) d_intj (fun _ _=>rfl)) (d_ixj x_ixE (d_varj 2) d_intj (fun _ _=>rfl)))) (ds_consj (dst_setj (i:=5) sc_powers_over.nd (d_tupj (da_consj (d_ixj x_ixE (d_varj 3) d_intj (fun _ _=>rfl)) (da_consj d_intj da_nilj)))) (ds_consj (dst_setj (i:=6) sc_powers_over.nd (d_callBj b_maxX rfl z_max bt_max (da_consj (d_varj 1) da_nilj))) (ds_consj (dst_setj (i:=7) sc_powers_over.nd d_knewj) (ds_consj (dst_forEj PassesOwn.never rfl (d_sortSetj rfl rfl z_sorted bt_sorted rfl z_set bt_set (d_varj 1)) (dg_namej (i:=8) sc_powers_over.nd) (ds_onej (dst_asgj (dq c_surd_times hr (da_consj (dq c_surd_power hr (da_consj (d_ixj x_ixE (d_varj 3) d_intj (fun _ _=>rfl)) (da_consj (d_varj 8) (da_consj (d_varj 4) da_nilj)))) (da_consj (dq c_surd_power hr (da_consj (d_varj 5) (da_consj (d_opj o_sub (d_varj 6) (d_varj 8)) (da_consj (d_varj 4) da_nilj)))) (da_consj (d_varj 4) da_nilj)))) (dg_subK hr (d_varj 7) (d_varj 8))))) (ds_onej (dst_retj (d_tupj (da_consj (d_varj 7) (da_consj (d_ixj x_ixE (dq c_surd_power hr (da_consj (d_varj 5) (da_consj (d_varj 6) (da_consj (d_varj 4) da_nilj)))) d_intj (fun _ _=>rfl)) da_nilj))))))))))),fun ds S k h=>?_⟩)
 ·obtain⟨_,_,_,_,_,_,_,_,rfl,_⟩:=h
  rfl
 ·obtain⟨u,a,b,e,s,τ,q,ns,rfl,hq,hne,hl,hb,u0,su,ht6,be,sa,sb,se,s1,s100,w⟩:=h
  have sB:=(se.mul se).mul su
  have bUU:Bt (9*s+2*τ+2) (bU e u):=(sB.num.mul sB.den).mono (by omega)
  refine⟨u,a,b,e,s,τ,rfl,u0,su,ht6,be,sa,sb,se,s1,s100,fun X M so=>⟨mok sB.num sB.den (by omega),few,ns,hq,hne,fun m hm hx p hp=>⟨ns,put_keep hp hq,hb,fun q2 hq2=>⟨((srtN ns).map D.int,some q2),by simp only [dItems,put_same],?_⟩⟩⟩⟩
  have bm:=hb m hm
  have sM:B2 (9*s+2*τ+2) (M,(0:Int)):=⟨so.bM,(show Bt 1 0 by decide).mono (by omega)⟩
  have bd:∀ {x:Int×Int} t,B2 (9*s+2*τ+2) x->t<=7->B2 200000 (ipw (bU e u) x t):=fun t h ht=>(h.pw bUU t).mono (by
   have:t*(9*s+2*τ+2+(9*s+2*τ+2)+1)<=7*(9*s+2*τ+2+(9*s+2*τ+2)+1):=Nat.mul_le_mul_right _ ht
   omega)
  have lt:=srtN_lt ns
  have npq:p≠q2:=fun z=>by rw [<- z,put_same] at hq2; cases hq2
  refine loop_ix (fun r L S'=>∃ (don rest:List Int) (l8:Option D),srtN ns=don++rest/\r=rest.map D.int/\L=[some (N u a b),some (.ref q),some (fr (e*e*u)),some (.tup [iD X,.int M]),some (.int (bU e u)),some (.tup [.int M,.int 0]),some (.int m),some (.ref p),l8]/\Ext S S'/\S' q2=some (.lst ((srtN ns).map D.int))/\S' p=some (.gen (.dK (pwD (bU e u) X M m.toNat don)))) (fun r L S' ⟨_,_,_,_,_,_,_,h,_⟩=>h) ?_ ?_ _ _ _ ⟨[],srtN ns,none,rfl,rfl,rfl,(Ext.new hp).trans (Ext.new hq2),put_same,by rw [put_ne npq,put_same]; rfl⟩
  ·rintro d r L S1 N1 ⟨don,rest,l8,ec,er,rfl,x1,h2,h1⟩ hN
   cases rest with
   | nil=>cases er
   | cons n rest=>
    cases er
    have mn:n∈ns:=(mem_srtN hb).mp (by rw [ec]; simp)
    have bn:=hb n mn
    have nm:=hx n mn
    have dl:don.length < 100:=by
     have l7:(srtN ns).length<=7:=srtN_len ns
     have:=congrArg List.length ec
     rw [List.length_append,List.length_cons] at this
     omega
    have nin:n∉don:=fun z=>by
     rw [ec] at lt
     have:=(List.pairwise_append.mp lt).2.2 n z n (by simp)
     omega
    refine⟨X,bU e u,n.toNat,9*s+2*τ+2,congrArg (fun z=>[iD X,z,.int (bU e u)]) (congrArg D.int (by omega)),so.bX,bUU,by omega,by omega,(M,0),bU e u,m.toNat - n.toNat,9*s+2*τ+2,congrArg (fun z=>[iD (M,0),z,.int (bU e u)]) (congrArg D.int (by omega)),sM,bUU,by omega,by omega,?_⟩
    refine⟨_,_,bU e u,200000,rfl,bd _ so.bX (by omega),bd _ sM (by omega),bUU.mono (by omega),by decide,_,h1,by unfold pwD; rw [List.length_map]; exact lim (by omega),hN _ _ ⟨don++[n],rest,_,by rw [ec]; simp,rfl,rfl,x1.put hp,by rw [put_ne (Ne.symm npq)]; exact h2,?_⟩⟩
    rw [put_same,putD_pw nin]
  ·rintro L S1 ⟨don,rest,l8,ec,er,rfl,x1,h2,h1⟩
   cases rest with
   | cons n rest=>cases er
   | nil=>
    rw [List.append_nil] at ec
    subst ec
    refine⟨(M,0),bU e u,m.toNat,9*s+2*τ+2,congrArg (fun z=>[iD (M,0),z,.int (bU e u)]) (congrArg D.int (by omega)),sM,bUU,by omega,by omega,few,?_⟩
    rw [ipw_plain]
    exact w S1 p X M m.toNat x1 so (fun n hn=>by have:=hx n hn; have:=hb n hn; omega) (by omega) h1
theorem kloop {S:DH} {f:Addr} {c:List (List Int×Rat)} {e1:Nat} {p:Addr} {k:DK} (j:Int) (g:List Int->Int) (hg:∀ x∈c,L2.atI (x.1.map D.int) j=some (.int (g x.1))) (hp:S p=none) (hf:S f=some (dTo (cvD c) e1)) (hl:c.length<=100) (kk:∀ S2,Ext S S2->S2 p=some (.lst ((c.map fun x=>g x.1).map D.int))->k (.ref p) S2):
  ∀ (rest don:List (List Int×Rat)) (l0:Option D) (S1:DH),c=don++rest->Ext S S1->S1 p=some (.lst ((don.map fun x=>g x.1).map D.int))->
   dCLoop (fun S=>S f=some (dTo (cvD c) e1)) p (dgName 0) (bdAll (dOp dIxE (dVar 0) (dC (.int j)))) k (rest.map fun x=>keyD x.1) ((don.map fun x=>g x.1).map D.int) [l0] S1
 | [],don,l0,S1,ec,x1,h1=>by
  rw [List.append_nil] at ec
  subst ec
  exact⟨x1 _ _ hf,kk S1 x1 h1⟩
 | q::rest,don,l0,S1,ec,x1,h1=>by
  have e0:=hg q (by rw [ec]; simp)
  refine⟨x1 _ _ hf,?_⟩
  show(match L2.atI (q.1.map D.int) j with | some c=>_ | none=>False)
  rw [e0]
  refine⟨h1,?_,?_⟩
  ·rw [List.length_map,List.length_map]
   have:=congrArg List.length ec
   rw [List.length_append,List.length_cons] at this
   exact lim (by omega)
  ·have ea:(don.map fun x=>g x.1).map D.int++[D.int (g q.1)]=((don++[q]).map fun x=>g x.1).map D.int:=by simp
   rw [ea]
   exact kloop j g hg hp hf hl kk rest (don++[q]) _ _ (by rw [ec]; simp) (x1.put hp) put_same
theorem qval_snoc {u:Rat} {x y:Q} {c:List (List Int×Rat)} {p:List Int×Rat} {s:Q}:qval u x y (c++[p]) s=qa (qval u x y c s) (qk p.2 (mon u x y p.1)):=by
 unfold qval
 rw [List.foldl_append]
 rfl
theorem outK {c:List (List Int×Rat)}:outD DIt.k (cvD c)=c.map fun x=>keyD x.1:=by show List.map _ (List.map _ c)=_; rw [List.map_map]; rfl
theorem pick_ok (b d:Rat):(b=0\/pick b d≠0)/\(d=0\/pick b d≠0):=by
 unfold pick
 by_cases h:b=0
 ·rw [if_pos h]
  exact⟨.inl h,Classical.em _⟩
 ·rw [if_neg h]
  exact⟨.inr h,.inr h⟩
theorem bt_pow {n:Nat} {M:Int} (h:Bt n M):∀ t,Bt (t*n+1) (M ^ t)
 | 0=>by rw [Int.pow_zero,Nat.zero_mul]; decide
 | t+1=>by rw [Int.pow_succ]; exact((bt_pow h t).mul h).mono (by rw [Nat.add_mul]; omega)
def F_side_over:DSp:=fun ds S k=>∃ (u e:Rat) (x y:Q) (s τ:Nat) (a:Addr) (c:List (List Int×Rat)) (ep:Nat) (B:Int) (nB:Nat),ds=[.ref a,Pq u x y,fr (e*e*u)]/\S a=some (dTo (cvD c) ep)/\Cv 28 900 6 c/\c≠[]/\0 < B/\Bt nB B/\nB<=3000/\(∀ p∈c,(p.2.den:Int) ∣ B)/\0 < u/\Sz τ u/\τ<=600/\(x.2=0\/e≠0)/\(y.2=0\/e≠0)/\Sq s x/\Sq s y/\Sz s e/\1<=s/\s<=830/\
 ∀ S' P M v',Ext S S'->0 < M->Bt (nB+13*(9*s+2*τ+2)) M->Rl (ab e*(((e*e*u).den:Int):Rat)) (qval u x y c (0,0)) v'->qc P=qk (M:Rat) v'->k (.tup [iD P,.int M]) S'
theorem sc_side_over:FnScope ["curve","point","base","xs","ys","bottom","part","portion","key","top","surd"] ["curve","point","base"] (defScope s_side_over):=scm
theorem ok_side_over (Fn:Fun K "side_over" "side_over" s_side_over f fd) (c_powers_over:Own P w K mg base "powers_over" 6 F_powers_over) (c_common_bottom:Own P w K mg base "common_bottom" 3 F_common_bottom) (c_tops_over:Own P w K mg base "tops_over" 1 F_tops_over) (c_surd_times:Own P w K mg base "surd_times" 1 F_surd_times) (z_list:mg "list"=none):
  FnOk P w K mg base CX0 7 f fd ["curve","point","base"] (spU K F_side_over):=by
 refine Fn.okJ sc_side_over (fun ds S k h=>?_) (fun cdv A outer s H E hr=>⟨_,(ds_consj (dst_setj (i:=3) sc_side_over.nd (dq c_powers_over hr (da_consj (d_ixj x_ixE (d_varj 1) d_intj (fun _ _=>rfl)) (da_consj (d_compIj rfl (compSc (N:=["key"]) (cap:=[none]) rfl rfl rfl rfl trivial rfl rfl trivial) (i_keysj (d_varj 0)) (fun _ _ _ _=>(dg_namej (i:=0) (show List.Nodup (["key"]:List Str) from by decide +kernel))) (fun _ _ _ _=>(d_ixj x_ixE (d_varj 0) d_intj (fun _ _=>rfl)))) (da_consj (d_varj 2) da_nilj))))) (ds_consj (dst_setj (i:=4) sc_side_over.nd (dq c_powers_over hr (da_consj (d_ixj x_ixE (d_varj 1) d_intj (fun _ _=>rfl)) (da_consj (d_compIj rfl (compSc (N:=["key"]) (cap:=[none]) rfl rfl rfl rfl trivial rfl rfl trivial) (i_keysj (d_varj 0)) (fun _ _ _ _=>(dg_namej (i:=0) (show List.Nodup (["key"]:List Str) from by decide +kernel))) (fun _ _ _ _=>(d_ixj x_ixE (d_varj 0) d_intj (fun _ _=>rfl)))) (da_consj (d_varj 2) da_nilj))))) (ds_consj (dst_setj (i:=5) sc_side_over.nd (dq c_common_bottom hr (da_consj (d_listVj rfl rfl z_list (d_varj 0)) da_nilj))) (ds_consj (dst_setj (i:=6) sc_side_over.nd d_intj) (ds_consj (dst_setj (i:=7) sc_side_over.nd d_intj) (ds_consj (dst_forIj PassesOwn.never rfl (i_itemsj (dq c_tops_over hr (da_consj (d_varj 0) (da_consj (d_varj 5) da_nilj)))) (dg_seqE (n:=2) rfl (dgs_consj (dg_namej (i:=8) sc_side_over.nd) (dgs_consj (dg_namej (i:=9) sc_side_over.nd) dgs_nilj))) (ds_consj (dst_setj (i:=10) sc_side_over.nd (dq c_surd_times hr (da_consj (d_kgetj hr (d_ixj x_ixE (d_varj 3) d_intj (fun _ _=>rfl)) (d_ixj x_ixE (d_varj 8) d_intj (fun _ _=>rfl)) (fun _ _=>rfl)) (da_consj (d_kgetj hr (d_ixj x_ixE (d_varj 4) d_intj (fun _ _=>rfl)) (d_ixj x_ixE (d_varj 8) d_intj (fun _ _=>rfl)) (fun _ _=>rfl)) (da_consj (d_opj o_mul (d_ixj x_ixE (d_varj 2) d_intj (fun _ _=>rfl)) (d_ixj x_ixE (d_varj 2) d_intj (fun _ _=>rfl))) da_nilj))))) (ds_consj (dst_setj (i:=6) sc_side_over.nd (d_opj o_add (d_varj 6) (d_opj o_mul (d_varj 9) (d_ixj x_ixE (d_varj 10) d_intj (fun _ _=>rfl))))) (ds_onej (dst_setj (i:=7) sc_side_over.nd (d_opj o_add (d_varj 7) (d_opj o_mul (d_varj 9) (d_ixj x_ixE (d_varj 10) d_intj (fun _ _=>rfl))))))))) (ds_onej (dst_retj (d_tupj (da_consj (d_tupj (da_consj (d_varj 6) (da_consj (d_varj 7) da_nilj))) (da_consj (d_opj o_mul (d_opj o_mul (d_varj 5) (d_ixj x_ixE (d_varj 3) d_intj (fun _ _=>rfl))) (d_ixj x_ixE (d_varj 4) d_intj (fun _ _=>rfl))) da_nilj))))))))))),fun ds S k h=>?_⟩)
 ·obtain⟨_,_,_,_,_,_,_,_,_,_,_,rfl,_⟩:=h
  rfl
 ·obtain⟨u,e,x,y,s,τ,a,c,ep,B,nB,rfl,ha,hc,hne,B0,bB,hnB,hdv,u0,su,ht6,bx,by_,sx,sy,se,s1,s100,w⟩:=h
  have key:∀ q∈c,∃ i j:Int,q.1=[i,j]/\(0<=i/\i < 7)/\(0<=j/\j < 7):=fun q hq=>by
   obtain⟨i,j,ek,i0,j0,i1,j1⟩:=hc.sm q hq
   exact⟨i,j,ek,⟨i0,by omega⟩,⟨j0,by omega⟩⟩
  have hl:=hc.hl
  have c0:∀ (g:List Int->Int),(c.map fun x=>g x.1)≠[]:=fun g z=>hne (by simpa using z)
  have b0:∀ n∈c.map (fun x=>x.1.getD 0 0),0<=n/\n < 7:=fun n hn=>by
   obtain⟨q,hq,rfl⟩:=List.mem_map.mp hn
   obtain⟨i,j,ek,hi,hj⟩:=key q hq
   rw [ek]
   exact hi
  have b1:∀ n∈c.map (fun x=>x.1.getD 1 0),0<=n/\n < 7:=fun n hn=>by
   obtain⟨q,hq,rfl⟩:=List.mem_map.mp hn
   obtain⟨i,j,ek,hi,hj⟩:=key q hq
   rw [ek]
   exact hj
  refine⟨_,_,ha,fun p1 hp1=>?_⟩
  rw [outK]
  refine kloop (S:=S) 0 (fun k=>k.getD 0 0) (fun q hq=>by obtain⟨i,j,ek,_⟩:=key q hq; rw [ek]; rfl) hp1 ha (by omega) (fun S1 x1 h1=>?_) c [] none _ rfl (Ext.new hp1) put_same
  refine⟨u,x.1,x.2,e,s,τ,p1,_,rfl,h1,c0 (fun k=>k.getD 0 0),by rw [List.length_map]; omega,b0,u0,su,ht6,bx,sx.a,sx.b,se,s1,s100,fun S2 q1 X MX mx x2 soX hmx mx7 hX=>?_⟩
  have ha2:=x2 _ _ (x1 _ _ ha)
  refine⟨_,_,ha2,fun p2 hp2=>?_⟩
  rw [outK]
  refine kloop (S:=S2) 1 (fun k=>k.getD 1 0) (fun q hq=>by obtain⟨i,j,ek,_⟩:=key q hq; rw [ek]; rfl) hp2 ha2 (by omega) (fun S3 x3 h3=>?_) c [] none _ rfl (Ext.new hp2) put_same
  refine⟨u,y.1,y.2,e,s,τ,p2,_,rfl,h3,c0 (fun k=>k.getD 1 0),by rw [List.length_map]; omega,b1,u0,su,ht6,by_,sy.a,sy.b,se,s1,s100,fun S4 q2 Y MY my x4 soY hmy my7 hY=>?_⟩
  have X4:=(x1.trans x2).trans (x3.trans x4)
  have ha4:=X4 _ _ ha
  have hX4:=x4 _ _ (x3 _ _ hX)
  refine⟨_,_,ha4,fun p3 hp3=>⟨p3,c.map (·.2),B,rfl,?_,B0,bB.mono (by omega),fun q hq=>?_,?_⟩⟩
  ·rw [put_same]
   congr 2
   show List.map _ (List.map _ c)=List.map _ (List.map _ c)
   rw [List.map_map,List.map_map]
   rfl
  ·obtain⟨r,hr,rfl⟩:=List.mem_map.mp hq
   exact hdv r hr
  have X5:Ext S (put S4 p3 (.lst ((cvD c).map (·.2)))):=X4.trans (Ext.new hp3)
  have ha5:put S4 p3 (.lst ((cvD c).map (·.2))) a=_:=put_keep hp3 ha4
  have hX5:put S4 p3 (.lst ((cvD c).map (·.2))) q1=_:=put_keep hp3 hX4
  have hY5:put S4 p3 (.lst ((cvD c).map (·.2))) q2=_:=put_keep hp3 hY
  generalize put S4 p3 (.lst ((cvD c).map (·.2)))=S5 at X5 ha5 hX5 hY5 ⊢
  have Bp:0 < lcB 1 (c.map (·.2)):=lcB_pos (by decide)
  have Bd:lcB 1 (c.map (·.2)) ∣ B:=lcB_dv (Int.one_dvd B) fun q hq=>by
   obtain⟨r,hr,rfl⟩:=List.mem_map.mp hq
   exact hdv r hr
  have Bb:=dvd_bt Bd (by omega) bB
  have Bq:∀ q∈c,(q.2.den:Int) ∣ lcB 1 (c.map (·.2)):=fun q hq=>(lcB_dvd (m:=1)).2 _ (List.mem_map_of_mem hq)
  generalize lcB 1 (c.map (·.2))=Bc at Bp Bd Bb Bq ⊢
  refine⟨a,c,ep,Bc,rfl,ha5,hc.nd,by omega,fun q hq=>(hc.hz q hq).mono (by decide),Bb.mono (by omega),fun S6 pt et x6 ht=>⟨_,_,ht,?_⟩⟩
  have hX6:=x6 _ _ hX5
  have hY6:=x6 _ _ hY5
  have sB:=(se.mul se).mul su
  have bUU:Bt (9*s+2*τ+2) (bU e u):=(sB.num.mul sB.den).mono (by omega)
  have hU:=base_kk (β:=e*e*u) (e:=e) (u:=u) rfl
  obtain⟨x',rx,eX⟩:=soX.rel
  obtain⟨y',ry,eY⟩:=soY.rel
  have bd:∀ {x:Int×Int} {t:Nat},B2 (9*s+2*τ+2) x->t<=7->B2 200000 (ipw (bU e u) x t):=fun {x t} h ht=>(h.pw bUU t).mono (by
   have:t*(9*s+2*τ+2+(9*s+2*τ+2)+1)<=7*(9*s+2*τ+2+(9*s+2*τ+2)+1):=Nat.mul_le_mul_right _ ht
   omega)
  have sMX:B2 (9*s+2*τ+2) (MX,(0:Int)):=⟨soX.bM,(show Bt 1 0 by decide).mono (by omega)⟩
  have sMY:B2 (9*s+2*τ+2) (MY,(0:Int)):=⟨soY.bM,(show Bt 1 0 by decide).mono (by omega)⟩
  have pX:∀ t,mx - t<=7:=fun t=>by omega
  have pY:∀ t,my - t<=7:=fun t=>by omega
  have bX:=bt_pow soX.bM mx
  have bY:=bt_pow soY.bM my
  have bX':Bt (6*(9*s+2*τ+2)+1) (MX ^ mx):=bX.mono (by have:mx*(9*s+2*τ+2)<=6*(9*s+2*τ+2):=Nat.mul_le_mul_right _ (by omega); omega)
  have bY':Bt (6*(9*s+2*τ+2)+1) (MY ^ my):=bY.mono (by have:my*(9*s+2*τ+2)<=6*(9*s+2*τ+2):=Nat.mul_le_mul_right _ (by omega); omega)
  refine loop_ix (fun r L S'=>S'=S6/\∃ (don rest:List (List Int×Rat)) (l8 l9 l10:Option D) (P:Int×Int),c=don++rest/\r=pairsD (tpD (rest.map fun x=>(x.1,topI Bc x.2)))/\L=[some (.ref a),some (Pq u x y),some (fr (e*e*u)),some (.tup [.ref q1,.int (MX ^ mx)]),some (.tup [.ref q2,.int (MY ^ my)]),some (.int Bc),some (.int P.1),some (.int P.2),l8,l9,l10]/\qc P=qk ((Bc:Rat)*((MX:Rat) ^ mx*(MY:Rat) ^ my)) (qval ((bU e u:Int):Rat) x' y' don (0,0))) (fun r L S' ⟨h,_⟩=>by rw [h]; exact ht) ?_ ?_ _ _ _ ⟨rfl,[],c,none,none,none,(0,0),rfl,rfl,rfl,by show(((0:Int):Rat),((0:Int):Rat))=qk _ ((0:Rat),(0:Rat)); unfold qk; apply Prod.ext <;> dsimp only <;> rw [Rat.mul_zero] <;> rfl⟩
  ·rintro d r L S' N1 ⟨rfl,don,rest,l8,l9,l10,P,ec,er,rfl,eP⟩ hN
   cases rest with
   | nil=>cases er
   | cons q rest=>
    cases er
    have mq:q∈c:=by rw [ec]; simp
    obtain⟨i,j,ek,hi,hj⟩:=key q mq
    obtain⟨k0,t0⟩:=q
    have ek:k0=[i,j]:=ek
    subst ek
    have mi:i∈srtN (c.map fun x=>x.1.getD 0 0):=(mem_srtN b0).mpr (List.mem_map.mpr ⟨_,mq,rfl⟩)
    have mj:j∈srtN (c.map fun x=>x.1.getD 1 0):=(mem_srtN b1).mpr (List.mem_map.mpr ⟨_,mq,rfl⟩)
    have li:=hmx i ((mem_srtN b0).mp mi)
    have lj:=hmy j ((mem_srtN b1).mp mj)
    have z1:=(bd soX.bX (show i.toNat<=7 by omega)).mul (bd sMX (pX i.toNat)) bUU
    have z2:=(bd soY.bX (show j.toNat<=7 by omega)).mul (bd sMY (pY j.toNat)) bUU
    have z1':=z1.mono (show 200000+200000+(9*s+2*τ+2)+1<=500000 by omega)
    have z2':=z2.mono (show 200000+200000+(9*s+2*τ+2)+1<=500000 by omega)
    have z3:=z1'.mul z2' bUU
    have bt:Bt (900+nB) (topI Bc t0):=(hc.hz _ mq).num.mul (Bb.le (HM.natAbs_fdiv_le _ _))
    refine⟨([keyD [i,j],.int (topI Bc t0)],none),rfl,rfl,rfl,_,_,hX6,valD_pw mi,_,_,hY6,valD_pw mj,mok sB.num sB.den (by omega),_,_,bU e u,500000,rfl,z1',z2',bUU.mono (by omega),by decide,mok bt z3.a (by omega),mok bt z3.b (by omega),hN _ _ ⟨rfl,don++[([i,j],t0)],rest,_,_,_,(P.1+topI Bc t0*_,P.2+topI Bc t0*_),by rw [ec]; simp,rfl,rfl,?_⟩⟩
    have e1:=qc_told (U:=bU e u) eX li
    have e2:=qc_told (U:=bU e u) eY lj
    have e3:=qc_mul (bU e u) (imul (bU e u) (ipw (bU e u) X i.toNat) (ipw (bU e u) (MX,0) (mx - i.toNat))) (imul (bU e u) (ipw (bU e u) Y j.toNat) (ipw (bU e u) (MY,0) (my - j.toNat)))
    rw [e1,e2,qm_k] at e3
    have e4:qm ((bU e u:Int):Rat) (qpw ((bU e u:Int):Rat) x' i.toNat) (qpw ((bU e u:Int):Rat) y' j.toNat)=mon ((bU e u:Int):Rat) x' y' [i,j]:=rfl
    rw [e4] at e3
    generalize imul (bU e u) (imul (bU e u) (ipw (bU e u) X i.toNat) (ipw (bU e u) (MX,0) (mx - i.toNat))) (imul (bU e u) (ipw (bU e u) Y j.toNat) (ipw (bU e u) (MY,0) (my - j.toNat)))=Zp at e3 ⊢
    have et:=topI_eq (Bq _ mq)
    have et:((topI Bc t0:Int):Rat)=Bc*t0:=et
    rw [qval_snoc,qk_a,<- eP,qk_k]
    show(((P.1+topI Bc t0*Zp.1:Int):Rat),((P.2+topI Bc t0*Zp.2:Int):Rat))=qa (qc P) (qk _ (mon ((bU e u:Int):Rat) x' y' [i,j]))
    have f1:((Zp.1:Int):Rat)=_:=congrArg Prod.fst e3
    have f2:((Zp.2:Int):Rat)=_:=congrArg Prod.snd e3
    unfold qk at f1 f2
    dsimp only at f1 f2
    unfold qa qk qc
    apply Prod.ext <;> dsimp only <;> rw [Rat.intCast_add,Rat.intCast_mul,et]
    ·rw [f1]
     grind
    ·rw [f2]
     grind
  ·rintro L S' ⟨rfl,don,rest,l8,l9,l10,P,ec,er,rfl,eP⟩
   cases rest with
   | cons q rest=>cases er
   | nil=>
    rw [List.append_nil] at ec
    subst ec
    have M0:0 < Bc*MX ^ mx*MY ^ my:=Int.mul_pos (Int.mul_pos Bp (Int.pow_pos soX.M0)) (Int.pow_pos soY.M0)
    refine⟨few,mok Bb bX' (by omega),mok (Bb.mul bX') bY' (by omega),few,w S' P _ _ (X5.trans x6) M0 (((Bb.mul bX').mul bY').mono (by omega)) (rx.val hU ry c Rl.zero) ?_⟩
    have eM:((Bc*MX ^ mx*MY ^ my:Int):Rat)=(Bc:Rat)*((MX:Rat) ^ mx*(MY:Rat) ^ my):=by rw [Rat.intCast_mul,Rat.intCast_mul,Rat.intCast_pow,Rat.intCast_pow,Rat.mul_assoc]
    rw [eP,eM]
def F_value_at:DSp:=fun ds S k=>∃ (u:Rat) (x y:Q) (s τ:Nat) (a:Addr) (c:List (List Int×Rat)) (ep:Nat) (B:Int) (nB:Nat),ds=[.ref a,Pq u x y]/\S a=some (dTo (cvD c) ep)/\Cv 28 900 6 c/\0 < B/\Bt nB B/\nB<=3000/\(∀ p∈c,(p.2.den:Int) ∣ B)/\0 < u/\Sz τ u/\τ<=600/\Sq s x/\Sq s y/\1<=s/\s<=10/\τ<=7/\Sz 900 (qval u x y c (0,0)).2/\∀ S',Ext S S'->k (N u (qval u x y c (0,0)).1 (qval u x y c (0,0)).2) S'
theorem sc_value_at:FnScope ["curve","point","base","found","part"] ["curve","point"] (defScope s_value_at):=scm
theorem ok_value_at (Fn:Fun K "value_at" "value_at" s_value_at f fd) (c_field_base:Own P w K mg base "field_base" 2 F_field_base) (c_side_over:Own P w K mg base "side_over" 7 F_side_over) (c_ratio:Own P w K mg base "ratio" 2 F_ratio) (c_joined:Own P w K mg base "joined" 4 F_joined) (z_len:mg "len"=none) (g_NOUGHT:GTup K mg "NOUGHT" [0,1]):
  FnOk P w K mg base CX0 8 f fd ["curve","point"] (spU K F_value_at):=by
 refine Fn.okJ sc_value_at (fun ds S k h=>?_) (fun cdv A outer s H E hr=>⟨_,(ds_consj (dst_ifj (dt_cmpj o_eq (d_callBj b_lenD rfl z_len bt_len (da_consj (d_varj 0) da_nilj)) d_intj (nomark _)) (ds_onej (dst_retj (d_tupj (da_consj (d_gtup g_NOUGHT rfl) (da_consj (d_gtup g_NOUGHT rfl) da_nilj))))) ds_nilj) (ds_consj (dst_setj (i:=2) sc_value_at.nd (dq c_field_base hr (da_consj (d_ixj x_ixE (d_varj 1) d_intj (fun _ _=>rfl)) (da_consj (d_ixj x_ixE (d_varj 1) d_intj (fun _ _=>rfl)) da_nilj)))) (ds_consj (dst_setj (i:=3) sc_value_at.nd (dq c_side_over hr (da_consj (d_varj 0) (da_consj (d_varj 1) (da_consj (d_varj 2) da_nilj))))) (ds_consj (dst_setj (i:=4) sc_value_at.nd (dq c_ratio hr (da_consj (d_ixj x_ixE (d_ixj x_ixE (d_varj 3) d_intj (fun _ _=>rfl)) d_intj (fun _ _=>rfl)) (da_consj (d_ixj x_ixE (d_varj 3) d_intj (fun _ _=>rfl)) da_nilj)))) (ds_onej (dst_retj (dq c_joined hr (da_consj (d_varj 4) (da_consj (dq c_ratio hr (da_consj (d_ixj x_ixE (d_ixj x_ixE (d_varj 3) d_intj (fun _ _=>rfl)) d_intj (fun _ _=>rfl)) (da_consj (d_ixj x_ixE (d_varj 3) d_intj (fun _ _=>rfl)) da_nilj))) (da_consj (d_tupj (da_consj (d_opj o_mul (d_ixj x_ixE (d_varj 2) d_intj (fun _ _=>rfl)) (d_ixj x_ixE (d_varj 2) d_intj (fun _ _=>rfl))) (da_consj d_intj da_nilj))) da_nilj)))))))))),fun ds S k h=>?_⟩)
 ·obtain⟨_,_,_,_,_,_,_,_,_,_,rfl,_⟩:=h
  rfl
 ·obtain⟨u,x,y,s,τ,a,c,ep,B,nB,rfl,ha,hc,B0,bB,hnB,hdv,u0,su,ht6,sx,sy,s1,s30,ht7,sv,w⟩:=h
  refine⟨_,_,ha,ite_dec (fun h0=>?_) (fun h0=>?_)⟩
  ·have c0:c=[]:=by
    cases c with
    | nil=>rfl
    | cons p c=>exact absurd h0 (by show ¬ (((cvD (p::c)).length:Nat):Int)=0; rw [kvD_len,List.length_cons]; omega)
   subst c0
   have w:=w S (Ext.refl S)
   have w:k (N u 0 0) S:=w
   rw [<- plain_as] at w
   exact⟨few,w⟩
  ·have hne:c≠[]:=fun z=>h0 (by rw [z]; rfl)
   have se:=Sz.pick sx.b sy.b
   refine⟨u,x.1,x.2,y.1,y.2,rfl,u0,?_⟩
   refine⟨u,pick x.2 y.2,x,y,s,τ,a,c,ep,B,nB,rfl,ha,hc,hne,B0,bB,hnB,hdv,u0,su,ht6,(pick_ok _ _).1,(pick_ok _ _).2,sx,sy,se,s1,by omega,fun S1 P M v' x1 M0 bM rl eP=>?_⟩
   have hU:=base_kk (β:=pick x.2 y.2*pick x.2 y.2*u) (e:=pick x.2 y.2) (u:=u) rfl
   have sB:=(se.mul se).mul su
   have d0:=den_p (pick x.2 y.2*pick x.2 y.2*u)
   have m0:(M:Rat)≠0:=fun z=>by
    have:=Rat.intCast_inj.mp (show (M:Rat)=((0:Int):Rat) from z)
    omega
   have dv:∀ {t:Int} {q:Rat},(t:Rat)=M*q->Rat.divInt t M=q:=fun {t q} h=>by
    rw [Rat.divInt_eq_div,h]
    grind
   have q1:(P.1:Rat)=M*v'.1:=congrArg Prod.fst eP
   have q2:(P.2:Rat)=M*v'.2:=congrArg Prod.snd eP
   have bM8:Bt 8000 M:=bM.mono (by omega)
   have sd:Sz (s+s+τ) (((pick x.2 y.2*pick x.2 y.2*u).den:Int):Rat):=⟨by rw [Rat.num_intCast]; exact sB.den,by rw [Rat.den_intCast]; exact(show Bt 1 1 by decide).mono (by omega)⟩
   have sk:=se.ab.mul sd
   have dnn:(0:Rat)<=(((pick x.2 y.2*pick x.2 y.2*u).den:Int):Rat):=Rat.intCast_nonneg.mpr (by omega)
   have k0:=Rat.mul_nonneg (ab_nn (pick x.2 y.2)) dnn
   have sv':Sz 2000 v'.2:=by
    by_cases z:ab (pick x.2 y.2)*(((pick x.2 y.2*pick x.2 y.2*u).den:Int):Rat)=0
    ·rw [rl.z z]
     exact Sz.zero.mono (by decide)
    ·have e:v'.2=(qval u x y c (0,0)).2 / (ab (pick x.2 y.2)*(((pick x.2 y.2*pick x.2 y.2*u).den:Int):Rat)):=by
      rw [rl.b]
      grind
     rw [e]
     exact(sv.div sk z).mono (by omega)
   refine⟨by omega,bM8,?_⟩
   rw [dv q1]
   refine⟨by omega,bM8,?_⟩
   rw [dv q2]
   have bUU:Bt 4000 (bU (pick x.2 y.2) u):=(sB.num.mul sB.den).mono (by omega)
   refine⟨mok sB.num sB.den (by omega),few,v'.1,v'.2,((bU (pick x.2 y.2) u:Int):Rat),congrArg (fun z=>[fr v'.1,fr v'.2,z]) (frI _),sv',⟨by rw [Rat.num_intCast]; exact bUU,by rw [Rat.den_intCast]; decide⟩,?_⟩
   have w:=w S1 x1
   unfold N at w
   rw [<- ss_rl k0 hU rl,<- rl.a] at w
   exact w
theorem eq_i2 {a b:Int}:eqT 8 (.tup [.int a,.int b]) (.tup [.int 0,.int 0])=some (decide (a=0/\b=0)):=by
 rw [eq_two (n:=7) eq_int eq_int]
 congr 1
 by_cases h1:a=0 <;> by_cases h2:b=0 <;> simp [h1,h2]
def F_on_curve:DSp:=fun ds S k=>∃ (u:Rat) (x y:Q) (s τ:Nat) (a:Addr) (c:List (List Int×Rat)) (ep:Nat) (B:Int) (nB:Nat),ds=[.ref a,Pq u x y]/\S a=some (dTo (cvD c) ep)/\Cv 28 900 6 c/\0 < B/\Bt nB B/\nB<=3000/\(∀ p∈c,(p.2.den:Int) ∣ B)/\0 < u/\Sz τ u/\τ<=600/\Sq s x/\Sq s y/\1<=s/\s<=830/\∀ S',Ext S S'->k (.bl (decide (qval u x y c (0,0)=(0,0)))) S'
theorem sc_on_curve:FnScope ["curve","point"] ["curve","point"] (defScope s_on_curve):=scm
theorem ok_on_curve (Fn:Fun K "on_curve" "on_curve" s_on_curve f fd) (c_side_over:Own P w K mg base "side_over" 7 F_side_over) (c_field_base:Own P w K mg base "field_base" 2 F_field_base) (z_len:mg "len"=none):
  FnOk P w K mg base CX0 8 f fd ["curve","point"] (spU K F_on_curve):=by
 refine Fn.okJ sc_on_curve (fun ds S k h=>?_) (fun cdv A outer s H E hr=>⟨_,(ds_consj (dst_ifj (dt_cmpj (o_eqX hr) (d_callBj b_lenD rfl z_len bt_len (da_consj (d_varj 0) da_nilj)) d_intj (nomark _)) (ds_onej (dst_retj d_blj)) ds_nilj) (ds_onej (dst_retj (d_cmpj (o_eqX hr) (d_ixj x_ixE (dq c_side_over hr (da_consj (d_varj 0) (da_consj (d_varj 1) (da_consj (dq c_field_base hr (da_consj (d_ixj x_ixE (d_varj 1) d_intj (fun _ _=>rfl)) (da_consj (d_ixj x_ixE (d_varj 1) d_intj (fun _ _=>rfl)) da_nilj))) da_nilj)))) d_intj (fun _ _=>rfl)) (d_tupj (da_consj d_intj (da_consj d_intj da_nilj))) (nomark _))))),fun ds S k h=>?_⟩)
 ·obtain⟨_,_,_,_,_,_,_,_,_,_,rfl,_⟩:=h
  rfl
 ·obtain⟨u,x,y,s,τ,a,c,ep,B,nB,rfl,ha,hc,B0,bB,hnB,hdv,u0,su,ht6,sx,sy,s1,s100,w⟩:=h
  by_cases hne:c=[]
  ·subst hne
   exact⟨_,_,ha,true,rfl,ite_b (fun _=>w S (Ext.refl S)) (fun z=>by cases z)⟩
  ·have l0:eqT 8 (.int (((cvD c).length:Nat):Int)) (.int 0)=some false:=by
    rw [kvD_len]
    cases c with
    | nil=>exact absurd rfl hne
    | cons p c=>
     show some (decide (((c.length+1:Nat):Int)=0))=some false
     rw [decide_eq_false (by omega)]
   refine⟨_,_,ha,false,l0,ite_b (fun z=>by cases z) (fun _=>?_)⟩
   have se:=Sz.pick sx.b sy.b
   refine⟨u,x.1,x.2,y.1,y.2,rfl,u0,?_⟩
   refine⟨u,pick x.2 y.2,x,y,s,τ,a,c,ep,B,nB,rfl,ha,hc,hne,B0,bB,hnB,hdv,u0,su,ht6,(pick_ok _ _).1,(pick_ok _ _).2,sx,sy,se,s1,by omega,fun S1 P M v' x1 M0 bM rl eP=>⟨few,decide (qval u x y c (0,0)=(0,0)),?_,w S1 x1⟩⟩
   have m0:(M:Rat)≠0:=fun z=>by
    have:=Rat.intCast_inj.mp (show (M:Rat)=((0:Int):Rat) from z)
    omega
   have q1:(P.1:Rat)=M*v'.1:=congrArg Prod.fst eP
   have q2:(P.2:Rat)=M*v'.2:=congrArg Prod.snd eP
   have zz:∀ {t:Int} {q:Rat},(t:Rat)=M*q->(t=0↔q=0):=fun {t q} h=>by
    constructor
    ·intro e
     rw [e] at h
     have h:(0:Rat)=M*q:=h
     grind
    ·intro e
     rw [e,Rat.mul_zero] at h
     exact Rat.intCast_inj.mp (by rw [h]; rfl)
   have i1:=zz q1
   have i2:=zz q2
   have i3:v'.2=0↔(qval u x y c (0,0)).2=0:=by
    have b:=rl.b
    have z:=rl.z
    constructor
    ·intro e
     rw [b,e,Rat.mul_zero]
    ·intro e
     rw [e] at b
     grind
   have fin:(P.1=0/\P.2=0)↔qval u x y c (0,0)=(0,0):=by
    rw [i1,i2,i3,rl.a]
    exact⟨fun h=>Prod.ext h.1 h.2,fun h=>by rw [h]; exact⟨rfl,rfl⟩⟩
   rw [<- decide_eq_decide.mpr fin]
   exact eq_i2
set_option maxHeartbeats 4000000
def keys7:List (List Int):=(List.range 7).flatMap fun(i:Nat)=>(List.range 7).map fun(j:Nat)=>[(i:Int),(j:Int)]
theorem keys7_nd:keys7.Nodup:=by decide +kernel
theorem mem_keys7 {i j:Int} (i0:0<=i) (j0:0<=j) (i1:i<=6) (j1:j<=6):[i,j]∈keys7:=by
 unfold keys7
 rw [List.mem_flatMap]
 refine⟨i.toNat,List.mem_range.mpr (by omega),List.mem_map.mpr ⟨j.toNat,List.mem_range.mpr (by omega),?_⟩⟩
 rw [Int.toNat_of_nonneg i0,Int.toNat_of_nonneg j0]
def qsum (f:α->Q):List α->Q
 | []=>(0,0)
 | a::l=>qa (f a) (qsum f l)
theorem qa_zero (x:Q):qa x (0,0)=x:=by
 unfold qa
 apply Prod.ext <;> dsimp only <;> grind
theorem zero_qa (x:Q):qa (0,0) x=x:=by
 unfold qa
 apply Prod.ext <;> dsimp only <;> grind
theorem qa_assoc (x y z:Q):qa (qa x y) z=qa x (qa y z):=by
 unfold qa
 apply Prod.ext <;> dsimp only <;> grind
theorem qsum_add (f g:α->Q):∀ l:List α,qsum (fun a=>qa (f a) (g a)) l=qa (qsum f l) (qsum g l)
 | []=>(qa_zero _).symm
 | a::l=>by
  show qa (qa (f a) (g a)) (qsum (fun a=>qa (f a) (g a)) l)=qa (qa (f a) (qsum f l)) (qa (g a) (qsum g l))
  rw [qsum_add f g l]
  unfold qa
  apply Prod.ext <;> dsimp only <;> grind
theorem qsum_congr {f g:α->Q}:∀ {l:List α},(∀ a∈l,f a=g a)->qsum f l=qsum g l
 | [],_=>rfl
 | a::l,h=>by
  show qa (f a) (qsum f l)=qa (g a) (qsum g l)
  rw [h a List.mem_cons_self,qsum_congr fun b hb=>h b (List.mem_cons_of_mem _ hb)]
theorem qsum_zero {f:α->Q}:∀ {l:List α},(∀ a∈l,f a=(0,0))->qsum f l=(0,0)
 | [],_=>rfl
 | a::l,h=>by
  show qa (f a) (qsum f l)=_
  rw [h a List.mem_cons_self,qsum_zero fun b hb=>h b (List.mem_cons_of_mem _ hb),qa_zero]
theorem qsum_k (t:Rat) (f:α->Q):∀ l:List α,qsum (fun a=>qk t (f a)) l=qk t (qsum f l)
 | []=>by
  show((0:Rat),(0:Rat))=qk t (0,0)
  unfold qk
  apply Prod.ext <;> dsimp only <;> grind
 | a::l=>by
  show qa (qk t (f a)) (qsum (fun a=>qk t (f a)) l)=qk t (qa (f a) (qsum f l))
  rw [qsum_k t f l,qk_a]
theorem qsum_swap (f:α->β->Q):∀ (l:List α) (m:List β),qsum (fun a=>qsum (fun b=>f a b) m) l=qsum (fun b=>qsum (fun a=>f a b) l) m
 | [],m=>(qsum_zero fun _ _=>rfl).symm
 | a::l,m=>by
  show qa (qsum (fun b=>f a b) m) (qsum (fun a=>qsum (fun b=>f a b) m) l)=qsum (fun b=>qa (f a b) (qsum (fun a=>f a b) l)) m
  rw [qsum_swap f l m,qsum_add]
theorem qsum_one {K:List (List Int)} (nd:K.Nodup) {k0:List Int} (h:k0∈K) (f:List Int->Q):qsum (fun k=>if k0=k then f k else(0,0)) K=f k0:=by
 induction K with
 | nil=>cases h
 | cons a K ih=>
  rw [List.nodup_cons] at nd
  show qa (if k0=a then f a else(0,0)) (qsum (fun k=>if k0=k then f k else(0,0)) K)=f k0
  by_cases e:k0=a
  ·subst e
   rw [if_pos rfl,qsum_zero,qa_zero]
   intro b hb
   rw [if_neg (fun z:k0=b=>nd.1 (by rw [z]; exact hb))]
  ·rw [if_neg e,zero_qa]
   exact ih nd.2 (by
    rcases List.mem_cons.mp h with q | q
    ·exact absurd q e
    ·exact q)
theorem qval_sum {u:Rat} {x y:Q}:∀ {c:List (List Int×Rat)} {s:Q},qval u x y c s=qa s (qsum (fun p=>qk p.2 (mon u x y p.1)) c)
 | [],s=>(qa_zero s).symm
 | p::c,s=>by
  show qval u x y c (qa s (qk p.2 (mon u x y p.1)))=qa s (qa (qk p.2 (mon u x y p.1)) (qsum _ c))
  rw [qval_sum,qa_assoc]
theorem qk_zero (x:Q):qk 0 x=(0,0):=by
 unfold qk
 apply Prod.ext <;> dsimp only <;> grind
def vφ (u:Rat) (x y:Q) (φ:List Int->Rat):Q:=qsum (fun k=>qk (φ k) (mon u x y k)) keys7
theorem sum_keys {w:List Int->Q}:∀ {c:List (List Int×Rat)},(c.map (·.1)).Nodup->(∀ p∈c,p.1∈keys7)->qsum (fun p=>qk p.2 (w p.1)) c=qsum (fun k=>qk (gR c k) (w k)) keys7
 | [],_,_=>(qsum_zero fun k _=>by show qk 0 (w k)=_; exact qk_zero _).symm
 | p::c,nd,hk=>by
  rw [List.map_cons,List.nodup_cons] at nd
  show qa (qk p.2 (w p.1)) (qsum (fun p=>qk p.2 (w p.1)) c)=_
  rw [sum_keys nd.2 fun q hq=>hk q (List.mem_cons_of_mem _ hq)]
  rw [<- qsum_one keys7_nd (hk p List.mem_cons_self) (fun k=>qk p.2 (w k)),<- qsum_add]
  refine qsum_congr fun k _=>?_
  by_cases e:p.1=k
  ·subst e
   rw [if_pos rfl,show gR c p.1=0 from gA_none nd.1,qk_zero,qa_zero]
   congr 1
   show _=((List.find? (fun q=>decide (q.1=p.1)) (p::c)).map (·.2)).getD 0
   rw [List.find?_cons]
   simp
  ·rw [if_neg e,zero_qa]
   congr 1
   show _=((List.find? (fun q=>decide (q.1=k)) (p::c)).map (·.2)).getD 0
   rw [List.find?_cons]
   simp [e]
   rfl
theorem val_of {u:Rat} {x y:Q} {n m:Nat} {c:List (List Int×Rat)} (h:Cv n m 6 c):qval u x y c (0,0)=vφ u x y (gR c):=by
 rw [qval_sum,zero_qa]
 exact sum_keys h.nd fun p hp=>by
  obtain⟨i,j,e,i0,j0,i1,j1⟩:=h.sm p hp
  rw [e]
  exact mem_keys7 i0 j0 i1 j1
theorem vφ_congr {u:Rat} {x y:Q} {φ ψ:List Int->Rat} (h:∀ k,φ k=ψ k):vφ u x y φ=vφ u x y ψ:=qsum_congr fun k _=>by rw [h k]
theorem vφ_add {u:Rat} {x y:Q} {φ ψ:List Int->Rat}:vφ u x y (fun k=>φ k+ψ k)=qa (vφ u x y φ) (vφ u x y ψ):=by
 unfold vφ
 rw [<- qsum_add]
 refine qsum_congr fun k _=>?_
 unfold qk qa
 apply Prod.ext <;> dsimp only <;> grind
theorem vφ_k {u t:Rat} {x y:Q} {φ:List Int->Rat}:vφ u x y (fun k=>φ k*t)=qk t (vφ u x y φ):=by
 unfold vφ
 rw [<- qsum_k]
 refine qsum_congr fun k _=>?_
 unfold qk
 apply Prod.ext <;> dsimp only <;> grind
theorem qm_comm (u:Rat) (x y:Q):qm u x y=qm u y x:=by
 unfold qm
 apply Prod.ext <;> dsimp only <;> grind
theorem qm_assoc (u:Rat) (x y z:Q):qm u (qm u x y) z=qm u x (qm u y z):=by
 unfold qm
 apply Prod.ext <;> dsimp only <;> grind
theorem qm_one (u:Rat) (x:Q):qm u x (1,0)=x:=by
 unfold qm
 apply Prod.ext <;> dsimp only <;> grind
theorem qm_add (u:Rat) (x y z:Q):qm u x (qa y z)=qa (qm u x y) (qm u x z):=by
 unfold qm qa
 apply Prod.ext <;> dsimp only <;> grind
theorem qm_zero (u:Rat) (x:Q):qm u x (0,0)=(0,0):=by
 unfold qm
 apply Prod.ext <;> dsimp only <;> grind
theorem qpw_add (u:Rat) (x:Q) (m:Nat):∀ n,qpw u x (m+n)=qm u (qpw u x m) (qpw u x n)
 | 0=>(qm_one u _).symm
 | n+1=>by
  show qm u (qpw u x (m+n)) x=qm u (qpw u x m) (qm u (qpw u x n) x)
  rw [qpw_add u x m n,qm_assoc]
theorem mon_add {u:Rat} {x y:Q} {i j i' j':Int} (i0:0<=i) (j0:0<=j) (i0':0<=i') (j0':0<=j'):mon u x y [i+i',j+j']=qm u (mon u x y [i,j]) (mon u x y [i',j']):=by
 show qm u (qpw u x (i+i').toNat) (qpw u y (j+j').toNat)=qm u (qm u (qpw u x i.toNat) (qpw u y j.toNat)) (qm u (qpw u x i'.toNat) (qpw u y j'.toNat))
 rw [Int.toNat_add i0 i0',Int.toNat_add j0 j0',qpw_add,qpw_add]
 generalize qpw u x i.toNat=a
 generalize qpw u x i'.toNat=b
 generalize qpw u y j.toNat=c
 generalize qpw u y j'.toNat=d
 unfold qm
 apply Prod.ext <;> dsimp only <;> grind
theorem qm_sum (u:Rat) (x:Q) (f:α->Q):∀ l:List α,qm u x (qsum f l)=qsum (fun a=>qm u x (f a)) l
 | []=>qm_zero u x
 | a::l=>by
  show qm u x (qa (f a) (qsum f l))=qa (qm u x (f a)) (qsum (fun a=>qm u x (f a)) l)
  rw [qm_add,qm_sum u x f l]
theorem qk_sumF (x:Q) (f:List Int×Rat->Rat):∀ (l:List (List Int×Rat)) (s:Rat),qk (sumF f l s) x=qa (qk s x) (qsum (fun p=>qk (f p) x) l)
 | [],s=>(qa_zero _).symm
 | p::l,s=>by
  show qk (sumF f l (s+f p)) x=qa (qk s x) (qa (qk (f p) x) (qsum (fun p=>qk (f p) x) l))
  rw [qk_sumF x f l,<- qa_assoc]
  congr 1
  unfold qk qa
  apply Prod.ext <;> dsimp only <;> grind
theorem mul_sums {l l':List (List Int×Rat)} {k:List Int} {x:Q}:qk (mulF l l' k) x=qsum (fun p=>qsum (fun q=>if addK p.1 q.1=k then qk (p.2*q.2) x else(0,0)) l') l:=by
 rw [mulF_sum,qk_sumF,qk_zero,zero_qa]
 refine qsum_congr fun p _=>?_
 show qk (sumF (fun q=>tmP p q k) l' 0) x=_
 rw [qk_sumF,qk_zero,zero_qa]
 refine qsum_congr fun q _=>?_
 unfold tmP
 split
 ·rfl
 ·exact qk_zero x
theorem val_mul {u:Rat} {x y:Q} {n m n' m':Nat} {c c':List (List Int×Rat)} (h:Cv n m 3 c) (h':Cv n' m' 3 c'):vφ u x y (fun k=>mulF c c' k)=qm u (qval u x y c (0,0)) (qval u x y c' (0,0)):=by
 rw [qval_sum,qval_sum,zero_qa,zero_qa]
 unfold vφ
 rw [qsum_congr fun k _=>mul_sums,qsum_swap,qm_comm,qm_sum]
 refine qsum_congr fun p hp=>?_
 rw [qsum_swap,qm_comm,qm_sum]
 refine qsum_congr fun q hq=>?_
 obtain⟨i,j,e,i0,j0,i1,j1⟩:=h.sm p hp
 obtain⟨i',j',e',i0',j0',i1',j1'⟩:=h'.sm q hq
 rw [e,e']
 show qsum (fun k=>if [i+i',j+j']=k then qk (p.2*q.2) (mon u x y k) else(0,0)) keys7=_
 rw [qsum_one keys7_nd (mem_keys7 (by omega) (by omega) (by omega) (by omega)) (fun k=>qk (p.2*q.2) (mon u x y k)),mon_add i0 j0 i0' j0',qm_k]
theorem qm_nought {u:Rat} (no:NoSq u) {x y:Q}:qm u x y=(0,0)↔(x=(0,0)\/y=(0,0)):=by
 constructor
 ·intro h
  have h1:x.1*y.1+x.2*y.2*u=0:=congrArg Prod.fst h
  have h2:x.1*y.2+x.2*y.1=0:=congrArg Prod.snd h
  by_cases z:y=(0,0)
  ·exact .inr z
  ·have nn:y.1*y.1 - y.2*y.2*u≠0:=fun e=>by
    by_cases y2:y.2=0
    ·rw [y2] at e
     have:y.1=0:=by grind
     exact z (Prod.ext this y2)
    ·exact no (y.1 / y.2) (by grind)
   have e1:x.1*(y.1*y.1 - y.2*y.2*u)=0:=by grind
   have e2:x.2*(y.1*y.1 - y.2*y.2*u)=0:=by grind
   exact .inl (Prod.ext (by grind) (by grind))
 ·rintro(h | h)
  ·rw [h]
   unfold qm
   apply Prod.ext <;> dsimp only <;> grind
  ·rw [h]
   exact qm_zero u x
theorem res_cv {φ:List Int->Rat} {g:List (List Int×Rat)} {B:Int} {T:Nat} (r:Res φ g) (K:List (List Int)) (hK:∀ k,φ k≠0->k∈K) (h6:∀ k∈K,∃ i j:Int,k=[i,j]/\0<=i/\0<=j/\i<=6/\j<=6) (hl:K.length<=28) (B0:0 < B) (bB:Bt 700 B) (hT:T<=700) (dn:∀ k,∃ t:Int,Bt T t/\(B:Rat)*φ k=t):Cv 28 700 6 g/\Dn B T g:=by
 have hd:Dn B T g:=fun p hp=>by
  obtain⟨n,e⟩:=r.mem.mp hp
  obtain⟨t,bt,et⟩:=dn p.1
  exact⟨t,bt,by rw [<- e]; exact et⟩
 have mem:∀ p∈g,p.1∈K:=fun p hp=>by
  obtain⟨n,e⟩:=r.mem.mp hp
  exact hK p.1 (by rw [e]; exact n)
 refine⟨⟨r.nd,?_,fun p hp=>?_,fun p hp=>hd.sz B0 bB hT p hp⟩,hd⟩
 ·have:=nodup_len r.nd (l':=K) fun k hk=>by
   obtain⟨p,hp,rfl⟩:=List.mem_map.mp hk
   exact mem p hp
  rw [List.length_map] at this
  omega
 ·exact h6 _ (mem p hp)
theorem gR_ne {c:List (List Int×Rat)} {k:List Int} (h:gR c k≠0):k∈c.map (·.1):=Classical.byContradiction fun n=>h (gA_none n)
theorem dn_gR {B:Int} {T:Nat} {c:List (List Int×Rat)} (h:Dn B T c) (k:List Int):∃ t:Int,Bt T t/\(B:Rat)*gR c k=t:=by
 by_cases z:gR c k=0
 ·rw [z]
  exact⟨0,by unfold Bt; exact Nat.two_pow_pos T,Rat.mul_zero _⟩
 ·unfold gR gA at z ⊢
  cases q:c.find? fun p=>decide (p.1=k) with
  | none=>rw [q] at z; exact absurd rfl z
  | some r=>exact h r (List.mem_of_find?_eq_some q)
def prodK (c c':List (List Int×Rat)):List (List Int):=c.flatMap fun p=>c'.map fun q=>addK p.1 q.1
theorem prodK_len:∀ {c c':List (List Int×Rat)},(prodK c c').length=c.length*c'.length
 | [],c'=>by simp [prodK]
 | p::c,c'=>by
  have:=prodK_len (c:=c) (c':=c')
  unfold prodK at this ⊢
  rw [List.flatMap_cons,List.length_append,List.length_map,this,List.length_cons,Nat.add_mul]
  omega
theorem res_mul {c c' g:List (List Int×Rat)} {B B':Int} {m m':Nat} (hc:Cv 5 m 3 c) (hc':Cv 5 m' 3 c') (B0:0 < B) (B0':0 < B') (bB:Bt 30 B) (bB':Bt 30 B') (hd:Dn B 60 c) (hd':Dn B' 60 c') (r:Res (fun k=>mulF c c' k) g):Cv 28 700 6 g/\Dn (B*B') 140 g:=by
 refine res_cv r (prodK c c') (fun k hk=>Classical.byContradiction fun n=>hk ?_) (fun k hk=>?_) ?_ (Int.mul_pos B0 B0') ((bB.mul bB').mono (by decide)) (by decide) (fun k=>?_)
 ·exact mulF_ne (s:=0) fun p hp q hq e=>n (List.mem_flatMap.mpr ⟨p,hp,List.mem_map.mpr ⟨q,hq,e⟩⟩)
 ·obtain⟨p,hp,hk⟩:=List.mem_flatMap.mp hk
  obtain⟨q,hq,rfl⟩:=List.mem_map.mp hk
  obtain⟨i,j,e,i0,j0,i1,j1⟩:=hc.sm p hp
  obtain⟨i',j',e',i0',j0',i1',j1'⟩:=hc'.sm q hq
  rw [e,e']
  exact⟨i+i',j+j',rfl,by omega,by omega,by omega,by omega⟩
 ·rw [prodK_len]
  exact Nat.le_trans (Nat.mul_le_mul hc.hl hc'.hl) (by decide)
 ·obtain⟨t,ht,et⟩:=mul_dn (k:=k) hd' hd (n:=0) (s:=0) ⟨0,by simp,by rw [Rat.mul_zero]; rfl⟩
  refine⟨t,?_,et⟩
  have h1:c.length*c'.length<=25:=Nat.mul_le_mul hc.hl hc'.hl
  have h2:(0+c.length*c'.length)*2 ^ (60+60)<=25*2 ^ 120:=Nat.mul_le_mul_right _ (by omega)
  unfold Bt
  exact Nat.lt_of_le_of_lt (Nat.le_trans ht h2) (by decide)
def dφ (t:Bool) (φ:List Int->Rat) (k:List Int):Rat:=match k with
 | [i,j]=>if t then((j+1:Int):Rat)*φ [i,j+1] else((i+1:Int):Rat)*φ [i+1,j]
 | _=>0
theorem gR_cons {p:List Int×Rat} {c:List (List Int×Rat)} {k:List Int}:gR (p::c) k=if p.1=k then p.2 else gR c k:=by
 show((List.find? (fun q=>decide (q.1=k)) (p::c)).map (·.2)).getD 0=_
 rw [List.find?_cons]
 by_cases e:p.1=k
 ·simp [e]
 ·simp [e]
  rfl
theorem gR_sl {t:Bool}:∀ {c:List (List Int×Rat)},(∀ p∈c,∃ i j:Int,p.1=[i,j]/\0<=i/\0<=j)->∀ k,gR (slL t c) k=dφ t (gR c) k
 | [],_,k=>by
  show(0:Rat)=_
  unfold dφ
  split
  ·split <;> (show (0:Rat)=_*0; rw [Rat.mul_zero])
  ·rfl
 | (k0,v)::c,h,k=>by
  obtain⟨i,j,e,i0,j0⟩:=h _ List.mem_cons_self
  have e:k0=[i,j]:=e
  subst e
  have ih:=gR_sl (t:=t) (c:=c) (fun p hp=>h p (List.mem_cons_of_mem _ hp)) k
  cases t with
  | false=>
   by_cases hi:0 < i
   ·have es:slL false (([i,j],v)::c)=([i - 1,j],v*(i:Rat))::slL false c:=by simp [slL,slP,hi]
    rw [es,gR_cons]
    by_cases ek:[i - 1,j]=k
    ·subst ek
     rw [if_pos rfl]
     show _=((i - 1+1:Int):Rat)*gR (([i,j],v)::c) [i - 1+1,j]
     rw [gR_cons,show i - 1+1=i by omega,if_pos rfl,Rat.mul_comm]
    ·rw [if_neg ek,ih]
     unfold dφ
     split
     ·rename_i a b
      simp only [Bool.false_eq_true,if_false]
      rw [gR_cons,if_neg]
      intro z
      cases z
      exact ek (by congr 1; omega)
     ·rfl
   ·have es:slL false (([i,j],v)::c)=slL false c:=by simp [slL,slP,hi]
    rw [es,ih]
    unfold dφ
    split
    ·rename_i a b
     simp only [Bool.false_eq_true,if_false]
     rw [gR_cons]
     split
     ·rename_i z
      cases z
      have a0:a+1=0:=by omega
      rw [a0]
      show((0:Int):Rat)*_=((0:Int):Rat)*_
      rw [show ((0:Int):Rat)=0 from rfl,Rat.zero_mul,Rat.zero_mul]
     ·rfl
    ·rfl
  | true=>
   by_cases hj:0 < j
   ·have es:slL true (([i,j],v)::c)=([i,j - 1],v*(j:Rat))::slL true c:=by simp [slL,slP,hj]
    rw [es,gR_cons]
    by_cases ek:[i,j - 1]=k
    ·subst ek
     rw [if_pos rfl]
     show _=((j - 1+1:Int):Rat)*gR (([i,j],v)::c) [i,j - 1+1]
     rw [gR_cons,show j - 1+1=j by omega,if_pos rfl,Rat.mul_comm]
    ·rw [if_neg ek,ih]
     unfold dφ
     split
     ·rename_i a b
      simp only [if_true]
      rw [gR_cons,if_neg]
      intro z
      cases z
      exact ek (by congr 2; omega)
     ·rfl
   ·have es:slL true (([i,j],v)::c)=slL true c:=by simp [slL,slP,hj]
    rw [es,ih]
    unfold dφ
    split
    ·rename_i a b
     simp only [if_true]
     rw [gR_cons]
     split
     ·rename_i z
      cases z
      have b0:b+1=0:=by omega
      rw [b0]
      show((0:Int):Rat)*_=((0:Int):Rat)*_
      rw [show ((0:Int):Rat)=0 from rfl,Rat.zero_mul,Rat.zero_mul]
     ·rfl
    ·rfl
theorem sl_mem {t:Bool} {c:List (List Int×Rat)} {p:List Int×Rat} (h:p∈slL t c):∃ i j v,([i,j],v)∈c/\((t=false/\0 < i/\p=([i - 1,j],v*(i:Rat)))\/(t=true/\0 < j/\p=([i,j - 1],v*(j:Rat)))):=by
 obtain⟨q,hq,e⟩:=List.mem_filterMap.mp h
 obtain⟨k,v⟩:=q
 unfold slP at e
 split at e
 ·rename_i i j ek
  have ek:k=[i,j]:=ek
  subst ek
  refine⟨i,j,v,hq,?_⟩
  cases t with
  | false=>
   simp only [Bool.false_eq_true,if_false] at e
   split at e
   ·rename_i hi
    cases e
    exact .inl ⟨rfl,hi,rfl⟩
   ·cases e
  | true=>
   simp only [if_true] at e
   split at e
   ·rename_i hi
    cases e
    exact .inr ⟨rfl,hi,rfl⟩
   ·cases e
 ·cases e
theorem sl_nd {t:Bool}:∀ {c:List (List Int×Rat)},(c.map (·.1)).Nodup->((slL t c).map (·.1)).Nodup
 | [],_=>by show([]:List (List Int)).Nodup; exact List.nodup_nil
 | p::c,h=>by
  rw [List.map_cons,List.nodup_cons] at h
  have ih:=sl_nd (t:=t) h.2
  cases e:slP t p with
  | none=>
   have:slL t (p::c)=slL t c:=by unfold slL; rw [List.filterMap_cons,e]
   rw [this]
   exact ih
  | some q=>
   have es:slL t (p::c)=q::slL t c:=by unfold slL; rw [List.filterMap_cons,e]
   rw [es,List.map_cons,List.nodup_cons]
   refine⟨fun m=>h.1 ?_,ih⟩
   obtain⟨i,j,ek,mm⟩:=slL_keys m
   have hq:q∈slL t [p]:=by unfold slL; rw [List.filterMap_cons,e]; exact List.mem_cons_self
   obtain⟨i',j',v',hm,hc⟩:=sl_mem hq
   have hp:p=([i',j'],v'):=(List.mem_singleton.mp hm).symm
   rw [hp]
   rcases hc with ⟨rfl,_,rfl⟩ | ⟨rfl,_,rfl⟩
   ·cases ek
    simpa using mm
   ·cases ek
    simpa using mm
theorem sl_cv {t:Bool} {n m:Nat} {b:Int} {c:List (List Int×Rat)} (h:Cv n m b c) (hb:b<=6):Cv n (m+5) b (slL t c):=⟨sl_nd h.nd,Nat.le_trans (List.length_filterMap_le _ _) h.hl,fun p hp=>by
 obtain⟨i,j,v,hm,hc⟩:=sl_mem hp
 obtain⟨i',j',e,i0,j0,i1,j1⟩:=h.sm _ hm
 have e:[i,j]=[i',j']:=e
 cases e
 rcases hc with ⟨rfl,h0,rfl⟩ | ⟨rfl,h0,rfl⟩
 ·exact⟨_,_,rfl,by omega,by omega,by omega,by omega⟩
 ·exact⟨_,_,rfl,by omega,by omega,by omega,by omega⟩,fun p hp=>by
 obtain⟨i,j,v,hm,hc⟩:=sl_mem hp
 obtain⟨i',j',e,i0,j0,i1,j1⟩:=h.sm _ hm
 have e:[i,j]=[i',j']:=e
 cases e
 rcases hc with ⟨rfl,h0,rfl⟩ | ⟨rfl,h0,rfl⟩
 ·exact(h.hz _ hm).mul (int_sz5 (by omega) (by omega))
 ·exact(h.hz _ hm).mul (int_sz5 (by omega) (by omega))⟩
theorem sl_dn {t:Bool} {n m:Nat} {b:Int} {c:List (List Int×Rat)} {B:Int} {T:Nat} (h:Cv n m b c) (hb:b<=6) (hd:Dn B T c):Dn B (T+5) (slL t c):=fun p hp=>by
 obtain⟨i,j,v,hm,hc⟩:=sl_mem hp
 obtain⟨i',j',e,i0,j0,i1,j1⟩:=h.sm _ hm
 have e:[i,j]=[i',j']:=e
 cases e
 obtain⟨s,bs,es⟩:=hd _ hm
 have es:(B:Rat)*v=s:=es
 rcases hc with ⟨rfl,h0,rfl⟩ | ⟨rfl,h0,rfl⟩
 ·refine⟨s*i,bs.mul (show Bt 5 i by unfold Bt; omega),?_⟩
  rw [Rat.intCast_mul,<- es,Rat.mul_assoc]
 ·refine⟨s*j,bs.mul (show Bt 5 j by unfold Bt; omega),?_⟩
  rw [Rat.intCast_mul,<- es,Rat.mul_assoc]
theorem sl_res {t:Bool} {n m:Nat} {b:Int} {g:List (List Int×Rat)} (h:Cv n m b g) (n0:∀ p∈g,p.2≠0):Res (dφ t (gR g)) (slL t g):=⟨sl_nd h.nd,fun p hp=>by
 obtain⟨i,j,v,hm,hc⟩:=sl_mem hp
 rcases hc with ⟨rfl,h0,rfl⟩ | ⟨rfl,h0,rfl⟩ <;> exact⟨_,_,rfl⟩,fun p hp=>by
 obtain⟨i,j,v,hm,hc⟩:=sl_mem hp
 have v0:v≠0:=n0 _ hm
 have ne:∀ {z:Int},0 < z->((z:Int):Rat)≠0:=fun hz e=>by
  have:=Rat.intCast_inj.mp (show ((_:Int):Rat)=((0:Int):Rat) from e)
  omega
 rcases hc with ⟨rfl,h0,rfl⟩ | ⟨rfl,h0,rfl⟩
 ·have:=ne h0
  show v*_≠0
  grind
 ·have:=ne h0
  show v*_≠0
  grind,gR_sl fun p hp=>by
 obtain⟨i,j,e,i0,j0,_⟩:=h.sm p hp
 exact⟨i,j,e,i0,j0⟩⟩
theorem sumF_plus (f g:List Int×Rat->Rat) (l:List (List Int×Rat)):sumF (fun p=>f p+g p) l 0=sumF f l 0+sumF g l 0:=by
 induction l with
 | nil=>show(0:Rat)=0+0; grind
 | cons p l ih=>
  show sumF _ l (0+(f p+g p))=sumF f l (0+f p)+sumF g l (0+g p)
  rw [sumF_add,sumF_add (s:=0+f p),sumF_add (s:=0+g p),ih]
  grind
theorem sumF_k (t:Rat) (f:List Int×Rat->Rat) (l:List (List Int×Rat)):sumF (fun p=>t*f p) l 0=t*sumF f l 0:=by
 induction l with
 | nil=>show(0:Rat)=t*0; grind
 | cons p l ih=>
  show sumF _ l (0+t*f p)=t*sumF f l (0+f p)
  rw [sumF_add,sumF_add (s:=0+f p),ih]
  grind
theorem sumF_sl {t:Bool} (F:List Int×Rat->Rat):∀ l:List (List Int×Rat),sumF F (slL t l) 0=sumF (fun p=>((slP t p).map F).getD 0) l 0
 | []=>rfl
 | p::l=>by
  show _=sumF _ l (0+((slP t p).map F).getD 0)
  rw [sumF_add (s:=0+((slP t p).map F).getD 0),<- sumF_sl F l]
  cases e:slP t p with
  | none=>
   have:slL t (p::l)=slL t l:=by unfold slL; rw [List.filterMap_cons,e]
   rw [this]
   show _=0+0+_
   grind
  | some q=>
   have:slL t (p::l)=q::slL t l:=by unfold slL; rw [List.filterMap_cons,e]
   rw [this]
   show sumF F (slL t l) (0+F q)=0+F q+_
   rw [sumF_add]
def exK (t:Bool) (k:List Int):Rat:=if t then((k.getD 1 0:Int):Rat) else((k.getD 0 0:Int):Rat)
def upK (t:Bool) (k:List Int):List Int:=match k with
 | [i,j]=>if t then [i,j+1] else [i+1,j]
 | k=>k
theorem two_mul {c c':List (List Int×Rat)} (h:∀ p∈c,∃ i j:Int,p.1=[i,j]) (h':∀ p∈c',∃ i j:Int,p.1=[i,j]) {k:List Int} (hk:∀ m n:Int,k≠[m,n]):mulF c c' k=0:=mulF_ne (s:=0) fun p hp q hq e=>by
 obtain⟨i,j,ep⟩:=h p hp
 obtain⟨a,b,eq⟩:=h' q hq
 rw [ep,eq] at e
 exact hk (i+a) (j+b) e.symm
theorem mul_two {l l':List (List Int×Rat)} {k:List Int}:mulF l l' k=sumF (fun p=>sumF (fun q=>tmP p q k) l' 0) l 0:=by
 rw [mulF_sum]
 exact sumF_congr fun p _=>rowF_sum
theorem sl_left {t:Bool} {i j a b m n:Int} {v w:Rat} (i0:0<=i) (j0:0<=j):((slP t ([i,j],v)).map fun p=>tmP p ([a,b],w) [m,n]).getD 0=exK t [i,j]*tmP ([i,j],v) ([a,b],w) (upK t [m,n]):=by
 cases t with
 | false=>
  show _=((i:Int):Rat)*(if [i+a,j+b]=[m+1,n] then v*w else 0)
  by_cases hi:0 < i
  ·have e:slP false ([i,j],v)=some ([i - 1,j],v*(i:Rat)):=by simp [slP,hi]
   rw [e]
   show(if [i - 1+a,j+b]=[m,n] then v*(i:Rat)*w else 0)=_
   by_cases q:[i+a,j+b]=[m+1,n]
   ·rw [if_pos q,if_pos (by simp at q ⊢; omega)]
    grind
   ·rw [if_neg q,if_neg (fun z=>q (by simp at z ⊢; omega)),Rat.mul_zero]
  ·have e:slP false ([i,j],v)=none:=by simp [slP,hi]
   have z:i=0:=by omega
   rw [e,z]
   show(0:Rat)=((0:Int):Rat)*_
   rw [show ((0:Int):Rat)=0 from rfl,Rat.zero_mul]
 | true=>
  show _=((j:Int):Rat)*(if [i+a,j+b]=[m,n+1] then v*w else 0)
  by_cases hi:0 < j
  ·have e:slP true ([i,j],v)=some ([i,j - 1],v*(j:Rat)):=by simp [slP,hi]
   rw [e]
   show(if [i+a,j - 1+b]=[m,n] then v*(j:Rat)*w else 0)=_
   by_cases q:[i+a,j+b]=[m,n+1]
   ·rw [if_pos q,if_pos (by simp at q ⊢; omega)]
    grind
   ·rw [if_neg q,if_neg (fun z=>q (by simp at z ⊢; omega)),Rat.mul_zero]
  ·have e:slP true ([i,j],v)=none:=by simp [slP,hi]
   have z:j=0:=by omega
   rw [e,z]
   show(0:Rat)=((0:Int):Rat)*_
   rw [show ((0:Int):Rat)=0 from rfl,Rat.zero_mul]
theorem tm_comm {p q:List Int×Rat} {k:List Int} (hp:∃ i j:Int,p.1=[i,j]) (hq:∃ i j:Int,q.1=[i,j]):tmP p q k=tmP q p k:=by
 obtain⟨i,j,e⟩:=hp
 obtain⟨a,b,e'⟩:=hq
 unfold tmP
 rw [e,e']
 show(if [i+a,j+b]=k then _ else _)=(if [a+i,b+j]=k then _ else _)
 rw [Int.add_comm i a,Int.add_comm j b,Rat.mul_comm]
theorem sumF_none {f:List Int×Rat->Rat} {o:Option (List Int×Rat)} {l:List (List Int×Rat)} {F:List Int×Rat->List Int×Rat->Rat}:(o.map fun p=>sumF (fun q=>F p q) l 0).getD 0=sumF (fun q=>(o.map fun p=>F p q).getD 0) l 0:=by
 cases o with
 | none=>
  show(0:Rat)=sumF (fun _=>0) l 0
  induction l with
  | nil=>rfl
  | cons q l ih=>
   show(0:Rat)=sumF (fun _=>0) l (0+0)
   rw [Rat.add_zero]
   exact ih
 | some p=>rfl
theorem sl_mul {t:Bool} {n m n' m':Nat} {b b':Int} {c c':List (List Int×Rat)} (h:Cv n m b c) (h':Cv n' m' b' c') (k:List Int):dφ t (fun k=>mulF c c' k) k=mulF (slL t c) c' k+mulF c (slL t c') k:=by
 have tw:∀ {d:List (List Int×Rat)},(∀ p∈slL t d,∃ i j:Int,p.1=[i,j]):=fun {d} p hp=>by
  obtain⟨i,j,v,hm,hc⟩:=sl_mem hp
  rcases hc with ⟨_,_,rfl⟩ | ⟨_,_,rfl⟩ <;> exact⟨_,_,rfl⟩
 by_cases hk:∃ a b:Int,k=[a,b]
 ·obtain⟨u,v,rfl⟩:=hk
  have e1:mulF (slL t c) c' [u,v]=sumF (fun p=>sumF (fun q=>exK t p.1*tmP p q (upK t [u,v])) c' 0) c 0:=by
   rw [mul_two,sumF_sl]
   refine sumF_congr fun p hp=>?_
   rw [sumF_none (f:=fun _=>0) (F:=fun p q=>tmP p q [u,v])]
   refine sumF_congr fun q hq=>?_
   obtain⟨i,j,e,i0,j0,_⟩:=h.sm p hp
   obtain⟨a,b,e',_⟩:=h'.sm q hq
   obtain⟨p1,p2⟩:=p
   obtain⟨q1,q2⟩:=q
   have e:p1=[i,j]:=e
   have e':q1=[a,b]:=e'
   subst e e'
   exact sl_left i0 j0
  have e2:mulF c (slL t c') [u,v]=sumF (fun p=>sumF (fun q=>exK t q.1*tmP p q (upK t [u,v])) c' 0) c 0:=by
   rw [mul_two]
   refine sumF_congr fun p hp=>?_
   rw [sumF_sl]
   refine sumF_congr fun q hq=>?_
   obtain⟨i,j,e,_⟩:=h.sm p hp
   obtain⟨a,b,e',a0,b0,_⟩:=h'.sm q hq
   obtain⟨p1,p2⟩:=p
   obtain⟨q1,q2⟩:=q
   have e:p1=[i,j]:=e
   have e':q1=[a,b]:=e'
   subst e e'
   have z:=sl_left (t:=t) (i:=a) (j:=b) (a:=i) (b:=j) (m:=u) (n:=v) (v:=q2) (w:=p2) a0 b0
   rw [tm_comm ⟨_,_,rfl⟩ ⟨_,_,rfl⟩] at z
   rw [<- z]
   cases hs:slP t ([a,b],q2) with
   | none=>rfl
   | some r=>
    have hr:r∈slL t [([a,b],q2)]:=by unfold slL; rw [List.filterMap_cons,hs]; exact List.mem_cons_self
    exact tm_comm ⟨_,_,rfl⟩ (tw r hr)
  rw [e1,e2,<- sumF_plus]
  have e3:dφ t (fun k=>mulF c c' k) [u,v]=exK t (upK t [u,v])*mulF c c' (upK t [u,v]):=by
   cases t <;> rfl
  rw [e3,mul_two,<- sumF_k]
  refine sumF_congr fun p hp=>?_
  rw [<- sumF_k,<- sumF_plus]
  refine sumF_congr fun q hq=>?_
  obtain⟨i,j,e,_⟩:=h.sm p hp
  obtain⟨a,b,e',_⟩:=h'.sm q hq
  obtain⟨p1,p2⟩:=p
  obtain⟨q1,q2⟩:=q
  have e:p1=[i,j]:=e
  have e':q1=[a,b]:=e'
  subst e e'
  unfold tmP
  show exK t (upK t [u,v])*(if [i+a,j+b]=upK t [u,v] then p2*q2 else 0)=exK t [i,j]*(if [i+a,j+b]=upK t [u,v] then p2*q2 else 0)+exK t [a,b]*(if [i+a,j+b]=upK t [u,v] then p2*q2 else 0)
  by_cases z:[i+a,j+b]=upK t [u,v]
  ·rw [if_pos z,<- z]
   cases t with
   | false=>
    show((i+a:Int):Rat)*_=(i:Rat)*_+(a:Rat)*_
    rw [Rat.intCast_add]
    grind
   | true=>
    show((j+b:Int):Rat)*_=(j:Rat)*_+(b:Rat)*_
    rw [Rat.intCast_add]
    grind
  ·rw [if_neg z]
   grind
 ·have no:∀ a b:Int,k≠[a,b]:=fun a b e=>hk ⟨a,b,e⟩
  rw [two_mul tw (fun p hp=>let ⟨i,j,e,_⟩:=h'.sm p hp; ⟨i,j,e⟩) no,two_mul (fun p hp=>let ⟨i,j,e,_⟩:=h.sm p hp; ⟨i,j,e⟩) tw no]
  unfold dφ
  split
  ·exact absurd rfl (no _ _)
  ·grind
set_option maxHeartbeats 4000000
def SmL {α:Type} (c c':List α):Prop:=(∀ p∈c,p∈c')/\∀ p∈c',p∈c
theorem keys_len {α:Type} {c c':List (List Int×α)} (nd:(c.map (·.1)).Nodup) (h:∀ p∈c,p∈c'):c.length<=c'.length:=by
 have:=nodup_len nd (l':=c'.map (·.1)) fun x hx=>by
  obtain⟨p,hp,rfl⟩:=List.mem_map.mp hx
  exact List.mem_map.mpr ⟨p,h p hp,rfl⟩
 rw [List.length_map,List.length_map] at this
 exact this
theorem sub_eq {c c':List (List Int×Rat)} (nd:(c.map (·.1)).Nodup) (nd':(c'.map (·.1)).Nodup) (hl:c.length=c'.length) (h:∀ p∈c,p∈c'):∀ p∈c',p∈c:=fun p hp=>by
 refine Classical.byContradiction fun n=>?_
 have n2:p.1∉c.map (·.1):=fun z=>by
  obtain⟨q,hq,e⟩:=List.mem_map.mp z
  have e1:gR c' p.1=p.2:=gA_mem nd' hp
  have e2:gR c' p.1=q.2:=by rw [<- e]; exact gA_mem nd' (h q hq)
  exact n (by rw [show p=q from Prod.ext e.symm (e1.symm.trans e2)]; exact hq)
 have:=keys_len (c:=p::c) (c':=c') (by rw [List.map_cons,List.nodup_cons]; exact⟨n2,nd⟩) fun x hx=>by
  rcases List.mem_cons.mp hx with rfl | m
  ·exact hp
  ·exact h x m
 rw [List.length_cons] at this
 omega
theorem hitd {c':List (List Int×Rat)} (nd':(c'.map (·.1)).Nodup):∀ (c:List (List Int×Rat)),∃ r,HitD (cvD c') (cvD c) r/\(r=true↔∀ p∈c,p∈c')
 | []=>⟨true,rfl,⟨fun _ p h=>(nomatch h),fun _=>rfl⟩⟩
 | p::c=>by
  obtain⟨r,h,e⟩:=hitd nd' c
  rcases key_or (z:=(0:Rat)) p.1 nd' with q | q
  ·exact⟨false,.inl ⟨getT_none q,rfl⟩,⟨fun z=>(nomatch z),fun z=>absurd (List.mem_map.mpr ⟨p,z p List.mem_cons_self,rfl⟩) q⟩⟩
  ·refine⟨_,.inr ⟨_,decide (p.2=gR c' p.1),r,getT_some nd' q,eq_fr (n:=5),h,rfl⟩,?_⟩
   rw [Bool.and_eq_true,decide_eq_true_eq,e]
   refine⟨fun ⟨a,b⟩ x hx=>?_,fun z=>⟨?_,fun x hx=>z x (List.mem_cons_of_mem _ hx)⟩⟩
   ·rcases List.mem_cons.mp hx with rfl | m
    ·have q:(x.1,gR c' x.1)∈c':=q
     rw [<- a] at q
     exact q
    ·exact b x m
   ·exact(gA_mem nd' (z p List.mem_cons_self)).symm
theorem eqr {c c':List (List Int×Rat)} (nd:(c.map (·.1)).Nodup) (nd':(c'.map (·.1)).Nodup):∃ r,EqR (cvD c) (cvD c') r/\(r=true↔SmL c c'):=by
 by_cases hl:c.length=c'.length
 ·obtain⟨r,h,e⟩:=hitd nd' c
  refine⟨r,.inr ⟨by rw [kvD_len,kvD_len,hl],h⟩,?_⟩
  rw [e]
  exact⟨fun z=>⟨z,sub_eq nd nd' hl z⟩,fun z=>z.1⟩
 ·refine⟨false,.inl ⟨by rw [kvD_len,kvD_len]; exact hl,rfl⟩,⟨fun z=>(nomatch z),fun z=>?_⟩⟩
  have a:=keys_len nd z.1
  have b:=keys_len nd' z.2
  omega
def cvN (ns:List (List Int×Int)):List (List Int×Rat):=ns.map fun p=>(p.1,(p.2:Rat))
theorem nm_cv {ns:List (List Int×Int)}:nmD ns=cvD (cvN ns):=by
 show _=List.map _ (List.map _ ns)
 rw [List.map_map]
 rfl
theorem cvN_keys {ns:List (List Int×Int)}:(cvN ns).map (·.1)=ns.map (·.1):=by
 unfold cvN
 rw [List.map_map]
 rfl
theorem cvN_mem {ns:List (List Int×Int)} {k:List Int} {n:Int} (h:(k,n)∈ns):(k,(n:Rat))∈cvN ns:=List.mem_map.mpr ⟨_,h,rfl⟩
theorem cvN_sub {ns ns':List (List Int×Int)} (h:∀ p∈ns,p∈ns'):∀ p∈cvN ns,p∈cvN ns':=fun p hp=>by
 obtain⟨q,hq,rfl⟩:=List.mem_map.mp hp
 exact List.mem_map.mpr ⟨q,h q hq,rfl⟩
theorem nrm_bt {c:List (List Int×Rat)} {ns:List (List Int×Int)} {B:Int} {T:Nat} (h:Nrm c ns) (B0:0 < B) (hd:Dn B T c):∀ p∈ns,Bt T p.2:=by
 obtain⟨t,t0,f1,f2⟩:=h.sc
 have b0:(B:Rat)≠0:=fun z=>by
  have:=Rat.intCast_inj.mp (show (B:Rat)=((0:Int):Rat) from z)
  omega
 generalize hr:(B:Rat) / t=r
 have r0:r≠0:=by
  rw [<- hr]
  intro z
  exact b0 (by grind)
 have key:∀ p∈ns,∃ τ:Int,Bt T τ/\r*(p.2:Rat)=τ:=fun p hp=>by
  obtain⟨q,hq,e⟩:=f1 p hp
  obtain⟨τ,bt,et⟩:=hd _ hq
  refine⟨τ,bt,?_⟩
  have et:(B:Rat)*q=τ:=et
  rw [<- et,e,<- hr]
  grind
 have ex:∀ p∈ns,∃ τ:Int,Bt T τ/\r.num*p.2=τ*(r.den:Int):=fun p hp=>by
  obtain⟨τ,bt,e⟩:=key p hp
  refine⟨τ,bt,Rat.intCast_inj.mp ?_⟩
  rw [Rat.intCast_mul,Rat.intCast_mul,<- e,<- den_mulq r]
  grind
 have dv:∀ p∈ns,(r.den:Int) ∣ p.2:=fun p hp=>by
  obtain⟨τ,_,e⟩:=ex p hp
  have:(r.den:Int) ∣ r.num*p.2:=⟨τ,by rw [e,Int.mul_comm]⟩
  have t1:=Int.natAbs_dvd_natAbs.mpr this
  rw [Int.natAbs_mul] at t1
  have t1:r.den ∣ r.num.natAbs*p.2.natAbs:=t1
  refine Int.natAbs_dvd_natAbs.mp ?_
  show r.den ∣ p.2.natAbs
  exact(Nat.Coprime.symm r.reduced).dvd_of_dvd_mul_left t1
 have one:=h.co (r.den:Int) dv
 have d1:(r.den:Int)=1:=by
  have:=den_p r
  have:=Int.le_of_dvd (by decide) one
  omega
 intro p hp
 obtain⟨τ,bt,e⟩:=ex p hp
 rw [d1,Int.mul_one] at e
 refine bt.le ?_
 rw [<- e,Int.natAbs_mul]
 have:r.num.natAbs≠0:=fun z=>r0 (Rat.num_eq_zero.mp (Int.natAbs_eq_zero.mp z))
 exact Nat.le_mul_of_pos_left _ (by omega)
theorem nrm_cv {c:List (List Int×Rat)} {ns:List (List Int×Int)} {B:Int} {T n m:Nat} (h:Nrm c ns) (hc:Cv n m 6 c) (hn:n<=28) (B0:0 < B) (hd:Dn B T c) (hT:T<=900):Cv 28 900 6 (cvN ns):=by
 have kk:(cvN ns).map (·.1)=c.map (·.1):=by rw [cvN_keys,h.keys]
 refine⟨by rw [kk]; exact hc.nd,?_,fun p hp=>?_,fun p hp=>?_⟩
 ·have:=congrArg List.length kk
  rw [List.length_map,List.length_map] at this
  have:=hc.hl
  omega
 ·have:p.1∈c.map (·.1):=by rw [<- kk]; exact List.mem_map_of_mem hp
  obtain⟨q,hq,e⟩:=List.mem_map.mp this
  rw [<- e]
  exact hc.sm q hq
 ·obtain⟨q,hq,rfl⟩:=List.mem_map.mp hp
  exact⟨by show Bt 900 (q.2:Rat).num; rw [Rat.num_intCast]; exact(nrm_bt h B0 hd q hq).mono hT,by show Bt 900 (((q.2:Rat).den:Nat):Int); rw [Rat.den_intCast]; exact(show Bt 1 1 by decide).mono (by decide)⟩
theorem cvN_dv {ns:List (List Int×Int)}:∀ q∈cvN ns,(q.2.den:Int) ∣ 1:=fun q hq=>by
 obtain⟨p,hp,rfl⟩:=List.mem_map.mp hq
 show(((p.2:Rat).den:Nat):Int) ∣ 1
 rw [Rat.den_intCast]
 exact Int.dvd_refl _
theorem nrm_val {c:List (List Int×Rat)} {ns:List (List Int×Int)} {n m n' m':Nat} (h:Nrm c ns) (hc:Cv n m 6 c) (hv:Cv n' m' 6 (cvN ns)) (u:Rat) (x y:Q):∃ t:Rat,t≠0/\qval u x y (cvN ns) (0,0)=qk t (qval u x y c (0,0)):=by
 obtain⟨t,t0,f1,f2⟩:=h.sc
 refine⟨t,t0,?_⟩
 rw [val_of hc,val_of hv,<- vφ_k]
 refine vφ_congr fun k=>?_
 by_cases z:k∈c.map (·.1)
 ·obtain⟨p,hp,rfl⟩:=List.mem_map.mp z
  obtain⟨i,hi,e⟩:=f2 p hp
  have e1:gR (cvN ns) p.1=(i:Rat):=gA_mem hv.nd (cvN_mem hi)
  have e2:gR c p.1=p.2:=gA_mem hc.nd hp
  rw [e1,e2,e,Rat.mul_comm]
 ·have z2:k∉(cvN ns).map (·.1):=by rw [cvN_keys,h.keys]; exact z
  rw [show gR (cvN ns) k=0 from gA_none z2,show gR c k=0 from gA_none z,Rat.zero_mul]
theorem qk_nought {t:Rat} (t0:t≠0) {x:Q}:qk t x=(0,0)↔x=(0,0):=by
 constructor
 ·intro h
  have h1:t*x.1=0:=congrArg Prod.fst h
  have h2:t*x.2=0:=congrArg Prod.snd h
  exact Prod.ext (by grind) (by grind)
 ·intro h
  rw [h]
  unfold qk
  apply Prod.ext <;> dsimp only <;> grind
theorem qval_nz {u:Rat} {x y:Q}:∀ {c:List (List Int×Rat)} {s:Q},qval u x y (nz c) s=qval u x y c s
 | [],_=>rfl
 | p::c,s=>by
  by_cases z:p.2=0
  ·have e:nz (p::c)=nz c:=by simp [nz,z]
   rw [e,qval_nz]
   show _=qval u x y c (qa s (qk p.2 (mon u x y p.1)))
   rw [z,qk_zero,qa_zero]
  ·have e:nz (p::c)=p::nz c:=by simp [nz,z]
   rw [e]
   exact qval_nz (c:=c) (s:=qa s (qk p.2 (mon u x y p.1)))
theorem mon_x {u:Rat} {x y:Q}:mon u x y [1,0]=x:=by
 show qm u (qm u (1,0) x) (1,0)=x
 unfold qm
 apply Prod.ext <;> dsimp only <;> grind
theorem mon_y {u:Rat} {x y:Q}:mon u x y [0,1]=y:=by
 show qm u (1,0) (qm u (1,0) y)=y
 unfold qm
 apply Prod.ext <;> dsimp only <;> grind
theorem mon_1 {u:Rat} {x y:Q}:mon u x y [0,0]=(1,0):=by
 show qm u (1,0) (1,0)=(1,0)
 unfold qm
 apply Prod.ext <;> dsimp only <;> grind
theorem mon_xx {u:Rat} {x y:Q}:mon u x y [2,0]=qm u x x:=by
 show qm u (qm u (qm u (1,0) x) x) (1,0)=qm u x x
 unfold qm
 apply Prod.ext <;> dsimp only <;> grind
theorem mon_yy {u:Rat} {x y:Q}:mon u x y [0,2]=qm u y y:=by
 show qm u (1,0) (qm u (qm u (1,0) y) y)=qm u y y
 unfold qm
 apply Prod.ext <;> dsimp only <;> grind
theorem val_ln {u a b r:Rat} {x y:Q}:qval u x y (nz (ln3 a b r)) (0,0)=(a*x.1+b*y.1+r,a*x.2+b*y.2):=by
 rw [qval_nz]
 show qa (qa (qa (0,0) (qk a (mon u x y [1,0]))) (qk b (mon u x y [0,1]))) (qk r (mon u x y [0,0]))=_
 rw [mon_x,mon_y,mon_1]
 unfold qa qk
 apply Prod.ext <;> dsimp only <;> grind
theorem val_cr {u m n s:Rat} {x y:Q}:qval u x y (nz (cr5 m n s)) (0,0)=qs (squareQ u (qs x (qo m)) (qs y (qo n))) (s,0):=by
 rw [qval_nz]
 show qa (qa (qa (qa (qa (0,0) (qk 1 (mon u x y [2,0]))) (qk 1 (mon u x y [0,2]))) (qk (-(m+m)) (mon u x y [1,0]))) (qk (-(n+n)) (mon u x y [0,1]))) (qk (m*m+n*n - s) (mon u x y [0,0]))=_
 rw [mon_x,mon_y,mon_1,mon_xx,mon_yy]
 unfold squareQ qa qk qs qm qo
 apply Prod.ext <;> dsimp only <;> grind
theorem ln_cv {m:Nat} {a b r:Rat} (ha:Sz m a) (hb:Sz m b) (hr:Sz m r):Cv 3 m 6 (nz (ln3 a b r)):=⟨nd_filter ln3_nd,nz_len,fun p hp=>by
 have:=(nz_mem.mp hp).1
 simp only [List.mem_cons,List.not_mem_nil,or_false] at this
 rcases this with rfl | rfl | rfl <;> exact⟨_,_,rfl,by decide,by decide,by decide,by decide⟩,fun p hp=>all3 (P:=Sz m) ha hb hr p (nz_mem.mp hp).1⟩
theorem cr_cv {n:Nat} {x y s:Rat} (h1:Sz n 1) (ha:Sz n (-(x+x))) (hb:Sz n (-(y+y))) (hr:Sz n (x*x+y*y - s)):Cv 5 n 6 (nz (cr5 x y s)):=⟨nd_filter cr5_nd,nz_len,fun p hp=>by
 have:=(nz_mem.mp hp).1
 simp only [List.mem_cons,List.not_mem_nil,or_false] at this
 rcases this with rfl | rfl | rfl | rfl | rfl <;> exact⟨_,_,rfl,by decide,by decide,by decide,by decide⟩,fun p hp=>all5 (P:=Sz n) h1 ha hb hr p (nz_mem.mp hp).1⟩
theorem res_eqr {φ:List Int->Rat} {g g':List (List Int×Rat)} (r:Res φ g) (r':Res φ g'):EqR (cvD g) (cvD g') true:=by
 obtain⟨b,h,e⟩:=eqr r.nd r'.nd
 rw [e.mpr ⟨fun p hp=>(r'.alike r).2 p hp,fun p hp=>(r.alike r').2 p hp⟩] at h
 exact h
theorem nrm_eqr {c c':List (List Int×Rat)} {ns ns':List (List Int×Int)} {s:Rat} (h:Nrm c ns) (h':Nrm c' ns') (s0:s≠0) (two:∀ p∈c,∃ i j,p.1=[i,j]) (two':∀ p∈c',∃ i j,p.1=[i,j]) (hc:∀ p∈c,(p.1,s*p.2)∈c') (hc':∀ p∈c',∃ q,(p.1,q)∈c/\p.2=s*q) (nd:(c.map (·.1)).Nodup) (nd':(c'.map (·.1)).Nodup):EqR (nmD ns') (nmD ns) true:=by
 have a:=nrm_uniq h h' s0 two two' hc hc' nd nd'
 have b:=nrm_uniq h' h (s:=s⁻¹) (fun z=>s0 (by grind)) two' two (fun p hp=>by
  obtain⟨q,hq,e⟩:=hc' p hp
  rw [e]
  have:s⁻¹*(s*q)=q:=by grind
  rw [this]
  exact hq) (fun p hp=>⟨s*p.2,hc p hp,by grind⟩) nd' nd
 rw [nm_cv,nm_cv]
 obtain⟨r,hr,e⟩:=eqr (c:=cvN ns') (c':=cvN ns) (by rw [cvN_keys,h'.keys]; exact nd') (by rw [cvN_keys,h.keys]; exact nd)
 rw [e.mpr ⟨cvN_sub a,cvN_sub b⟩] at hr
 exact hr
set_option maxHeartbeats 4000000
def F__law_cell_at:DSp:=fun ds S k=>∃ (ns:List Int) (i:Int),ds=[.rl (List.map D.int ns),.int i]/\0<=i/\∀ c:Int,k (.int c) S
theorem sc__law_cell_at:FnScope ["script","k"] ["script","k"] (defScope s__law_cell_at):=scm
theorem ok__law_cell_at (Fn:Fun K "_law_cell_at" "_law_cell_at" s__law_cell_at f fd) (z_len:mg "len"=none):
  FnOk P w K mg base CX0 1 f fd ["script","k"] (spU K F__law_cell_at):=by
 refine Fn.okJ sc__law_cell_at (fun ds S k h=>?_) (fun cdv A outer s H E hr=>⟨_,(ds_consj (dst_ifj (dt_cmpj o_lt (d_varj 1) (d_callBj b_lenE rfl z_len bt_len (da_consj (d_varj 0) da_nilj)) (nomark _)) (ds_onej (dst_retj (d_ixj x_ixE (d_varj 0) (d_varj 1) (fun _ _=>rfl)))) ds_nilj) (ds_onej (dst_retj d_intj))),fun ds S k h=>?_⟩)
 ·obtain⟨_,_,rfl,_⟩:=h
  rfl
 ·obtain⟨ns,i,rfl,h0,q⟩:=h
  refine ite_dec (fun hl=>?_) (fun _=>q 0)
  obtain⟨n,rfl⟩:=Int.eq_ofNat_of_zero_le h0
  have hn:n < ns.length:=by rw [List.length_map] at hl; omega
  have e:L2.atI (List.map D.int ns) (n:Int)=some (.int ns[n]):=atI_nat (by rw [List.getElem?_map,List.getElem?_eq_getElem hn] <;> rfl)
  exact⟨_,e,q _⟩
def F__law_state:DSp:=fun ds S k=>∃ ns i,ds=[.rl (List.map D.int ns),.int i]/\0<=i/\∀ (p:Addr) (n:Int) (b:Bool),S p=none->(b=false->0<=n/\n < 2147483647)->k (.ref p) (put S p (.lst [.int n,.bl b]))
theorem sc__law_state:FnScope ["script","k","cell"] ["script","k"] (defScope s__law_state):=scm
theorem ok__law_state (Fn:Fun K "_law_state" "_law_state" s__law_state f fd) (c__law_cell_at:Own P w K mg base "_law_cell_at" 1 F__law_cell_at):
  FnOk P w K mg base CX0 2 f fd ["script","k"] (spU K F__law_state):=by
 refine Fn.okJ sc__law_state (fun ds S k h=>?_) (fun cdv A outer s H E hr=>⟨_,(ds_consj (dst_setj (i:=2) sc__law_state.nd (dq c__law_cell_at hr (da_consj (d_varj 0) (da_consj (d_varj 1) da_nilj)))) (ds_consj (dst_ifj (dt_cmpj o_ge (d_varj 2) (d_opj o_pow d_intj d_intj) (nomark _)) (ds_onej (dst_retj (d_lstj (da_consj (d_opj o_sub (d_varj 2) (d_opj o_pow d_intj d_intj)) (da_consj d_blj da_nilj))))) ds_nilj) (ds_onej (dst_retj (d_lstj (da_consj (d_opj o_mod (d_varj 2) d_intj) (da_consj d_blj da_nilj))))))),fun ds S k h=>?_⟩)
 ·obtain⟨_,_,rfl,_⟩:=h
  rfl
 ·obtain⟨ns,i,rfl,h0,q⟩:=h
  have hp:CPow 10 18:=⟨by decide,by decide,by decide⟩
  refine⟨ns,i,rfl,h0,fun c=>⟨hp,ite_dec (fun hl=>⟨hp,few,fun p hn=>?_⟩) (fun hl=>⟨(by show(2147483647:Int)≠0; decide),few,fun p hn=>?_⟩)⟩⟩
  ·exact q p _ _ hn (fun z=>by cases z)
  ·exact q p _ _ hn (fun _=>⟨Int.fmod_nonneg_of_pos _ (by decide),Int.fmod_lt_of_pos _ (by decide)⟩)
def F__law_take:DSp:=fun ds S k=>∃ a m,ds=[.ref a,.int m]/\0 < m/\Bt 200 m/\SOK S a/\∀ r S',0<=r->r < m->Dr a S S'->k (.int r) S'
theorem sc__law_take:FnScope ["state","many","mixed","found"] ["state","many"] (defScope s__law_take):=scm
theorem ok__law_take (Fn:Fun K "_law_take" "_law_take" s__law_take f fd):
  FnOk P w K mg base CX0 1 f fd ["state","many"] (spU K F__law_take):=by
 refine Fn.okJ sc__law_take (fun ds S k h=>?_) (fun cdv A outer s H E hr=>⟨_,(ds_consj (dst_ifj (dt_valj (d_ixj x_ixE (d_varj 0) d_intj (fun _ _=>rfl))) (ds_consj (dst_setj (i:=3) sc__law_take.nd (d_opj o_mod (d_ixj x_ixE (d_varj 0) d_intj (fun _ _=>rfl)) (d_varj 1))) (ds_consj (dst_asgj (d_opj o_div (d_ixj x_ixE (d_varj 0) d_intj (fun _ _=>rfl)) (d_varj 1)) (dg_subE (d_varj 0) d_intj)) (ds_onej (dst_retj (d_varj 3))))) ds_nilj) (ds_consj (dst_asgj (d_opj o_mod (d_opj o_add (d_opj o_mul (d_ixj x_ixE (d_varj 0) d_intj (fun _ _=>rfl)) d_intj) d_intj) d_intj) (dg_subE (d_varj 0) d_intj)) (ds_consj (dst_setj (i:=2) sc__law_take.nd (d_opj o_mod (d_opj o_add (d_opj o_add (d_opj o_mul (d_ixj x_ixE (d_varj 0) d_intj (fun _ _=>rfl)) (d_ixj x_ixE (d_varj 0) d_intj (fun _ _=>rfl))) (d_opj o_mul d_intj (d_ixj x_ixE (d_varj 0) d_intj (fun _ _=>rfl)))) d_intj) d_intj)) (ds_consj (dst_setj (i:=2) sc__law_take.nd (d_opj o_mod (d_opj o_add (d_opj o_mul (d_varj 2) (d_varj 2)) (d_opj o_mul d_intj (d_varj 2))) d_intj)) (ds_onej (dst_retj (d_opj o_mod (d_opj o_div (d_varj 2) d_intj) (d_varj 1)))))))),fun ds S k h=>?_⟩)
 ·obtain⟨_,_,rfl,_⟩:=h
  rfl
 ·obtain⟨a,m,rfl,hm,hb,⟨n,b,hS,hn⟩,q⟩:=h
  have put_dr:∀ (n':Int) (b':Bool),(b'=false->0<=n'/\n' < 2147483647)->Dr a S (put S a (.lst [.int n',.bl b'])):=fun n' b' h'=>
   ⟨⟨n',b',put_same,h'⟩,fun c o z e=>by rw [put_ne z]; exact e⟩
  refine⟨_,_,hS,atI1,?_⟩
  cases b with
  | true=>
   refine⟨_,_,hS,atI0,(show m≠0 by omega),_,_,hS,atI0,dok (by omega) hb,_,_,hS,ixN0,?_⟩
   exact q _ _ (Int.fmod_nonneg_of_pos _ hm) (Int.fmod_lt_of_pos _ hm) (put_dr _ _ fun z=>by cases z)
  | false=>
   obtain⟨n0,n1⟩:=hn rfl
   have b31:=bt31 n0 (by omega)
   refine⟨_,_,hS,atI0,mok (n:=31) b31 (bt31 (by decide) (by decide)),(show (2147483647:Int)≠0 by decide),_,_,hS,ixN0,?_⟩
   have c0:0<=(n*48271+29).fmod 2147483647:=Int.fmod_nonneg_of_pos _ (by decide)
   have c1:(n*48271+29).fmod 2147483647 < 2147483647:=Int.fmod_lt_of_pos _ (by decide)
   have bx:=bt31 c0 (by omega)
   refine⟨_,_,put_same,atI0,_,_,put_same,atI0,mok bx bx,_,_,put_same,atI0,mok (m:=31) (bt31 (by decide) (by decide)) bx,(show (2147483629:Int)≠0 by decide),?_⟩
   have d0:0<=((n*48271+29).fmod 2147483647*(n*48271+29).fmod 2147483647+39373*(n*48271+29).fmod 2147483647+7).fmod 2147483629:=Int.fmod_nonneg_of_pos _ (by decide)
   have d1:((n*48271+29).fmod 2147483647*(n*48271+29).fmod 2147483647+39373*(n*48271+29).fmod 2147483647+7).fmod 2147483629 < 2147483629:=Int.fmod_lt_of_pos _ (by decide)
   have by':=bt31 d0 (by omega)
   refine⟨mok by' by',mok (m:=31) (bt31 (by decide) (by decide)) by',(show (2147483587:Int)≠0 by decide),⟨by decide,by decide +kernel⟩,(show m≠0 by omega),?_⟩
   exact q _ _ (Int.fmod_nonneg_of_pos _ hm) (Int.fmod_lt_of_pos _ hm) (put_dr _ _ fun _=>⟨c0,c1⟩)
theorem gcd_abs (a b:Int):Int.gcd (absI a) (absI b)=Int.gcd a b:=by
 have e:∀ x:Int,(absI x).natAbs=x.natAbs:=fun x=>by unfold absI; split <;> omega
 unfold Int.gcd
 rw [e,e]
def F__law_divisor:DSp:=fun ds S k=>∃ a b,ds=[.int a,.int b]/\k (.int ((Int.gcd a b:Nat):Int)) S
theorem sc__law_divisor:FnScope ["one","other"] ["one","other"] (defScope s__law_divisor):=scm
theorem ok__law_divisor (Fn:Fun K "_law_divisor" "_law_divisor" s__law_divisor f fd) (z_abs:mg "abs"=none):
  FnOk P w K mg base CX0 1 f fd ["one","other"] (spU K F__law_divisor):=by
 refine Fn.okJ sc__law_divisor (fun ds S k h=>?_) (fun cdv A outer s H E hr=>⟨_,(ds_consj (dst_setj (i:=0) sc__law_divisor.nd (d_callBj b_abs rfl z_abs bt_abs (da_consj (d_varj 0) da_nilj))) (ds_consj (dst_setj (i:=1) sc__law_divisor.nd (d_callBj b_abs rfl z_abs bt_abs (da_consj (d_varj 1) da_nilj))) (ds_consj (dst_whilej PassesOwn.never (dt_cmpj o_gt (d_varj 1) d_intj (nomark _)) (ds_onej (dst_parj (i:=0) (j:=1) rfl sc__law_divisor.nd (by decide) (da_consj (d_varj 1) (da_consj (d_opj o_mod (d_varj 0) (d_varj 1)) da_nilj))))) (ds_onej (dst_retj (d_varj 0)))))),fun ds S k h=>?_⟩)
 ·obtain⟨_,_,rfl,_⟩:=h
  rfl
 ·obtain⟨a,b,rfl,q⟩:=h
  refine⟨fun m L S'=>S'=S/\∃ x y,L=[some (.int x),some (.int y)]/\m=y.natAbs/\0<=x/\0<=y/\Int.gcd x y=Int.gcd a b,⟨_,rfl,absI a,absI b,rfl,rfl,absI_nn a,absI_nn b,gcd_abs a b⟩,?_⟩
  rintro m L S' ⟨rfl,x,y,rfl,rfl,hx,hy,e⟩
  refine ite_dec (fun hl=>⟨fun L' S''=>∃ m',m' < y.natAbs/\S''=S'/\∃ x y,L'=[some (.int x),some (.int y)]/\m'=y.natAbs/\0<=x/\0<=y/\Int.gcd x y=Int.gcd a b,fun _ _ z=>z,by omega,?_⟩) (fun hl=>?_)
  ·exact⟨_,fmod_lt x y (by omega),rfl,y,x.fmod y,rfl,rfl,hy,Int.fmod_nonneg_of_pos _ hl,(gcd_fmod x y).trans e⟩
  ·have z:y=0:=by omega
   subst z
   have e2:=gcd_zero x
   rw [e,if_neg (by omega)] at e2
   rw [e2] at q
   exact q
def F__law_ratio:DSp:=fun ds S k=>∃ t b,ds=[.int t,.int b]/\b≠0/\Bt 8000 b/\k (fr (Rat.divInt t b)) S
theorem sc__law_ratio:FnScope ["top","bottom","by"] ["top","bottom"] (defScope s__law_ratio):=scm
theorem ok__law_ratio (Fn:Fun K "_law_ratio" "_law_ratio" s__law_ratio f fd) (c__law_divisor:Own P w K mg base "_law_divisor" 1 F__law_divisor):
  FnOk P w K mg base CX0 2 f fd ["top","bottom"] (spU K F__law_ratio):=by
 refine Fn.okJ sc__law_ratio (fun ds S k h=>?_) (fun cdv A outer s H E hr=>⟨_,(ds_consj (dst_setj (i:=2) sc__law_ratio.nd (dq c__law_divisor hr (da_consj (d_varj 0) (da_consj (d_varj 1) da_nilj)))) (ds_consj (dst_ifj (dt_cmpj o_lt (d_varj 1) d_intj (nomark _)) (ds_onej (dst_setj (i:=2) sc__law_ratio.nd (d_opj o_sub d_intj (d_varj 2)))) ds_nilj) (ds_onej (dst_retj (d_tupj (da_consj (d_opj o_div (d_varj 0) (d_varj 2)) (da_consj (d_opj o_div (d_varj 1) (d_varj 2)) da_nilj))))))),fun ds S k h=>?_⟩)
 ·obtain⟨_,_,rfl,_⟩:=h
  rfl
 ·obtain⟨t,b,rfl,h0,hb,q⟩:=h
  have hg:=gcd_bt (t:=t) h0 hb
  have hs:=shr_ne (t:=t) h0
  have e1:=div_num (t:=t) h0
  have e2:=div_den (t:=t) h0
  have qq:k (.tup [.int (t.fdiv (shr t b)),.int (b.fdiv (shr t b))]) S:=by rw [e1,e2]; exact q
  unfold shr at qq hs
  refine⟨t,b,rfl,ite_dec (fun hl=>?_) (fun hl=>?_)⟩
  ·rw [if_pos hl] at qq hs
   rw [<- Int.zero_sub] at qq hs
   have hd:∀ x:Int,CDivB x (0 - ((Int.gcd t b:Nat):Int)):=fun x=>dok hs (by rw [Int.zero_sub]; exact hg.neg)
   exact⟨hd _,hd _,few,qq⟩
  ·rw [if_neg hl] at qq hs
   exact⟨dok hs hg,dok hs hg,few,qq⟩
def F__law_times:DSp:=fun ds S k=>∃ (a b c d:Int) (q:Rat),ds=[pr a b,pr c d]/\b*d≠0/\Bt 4000 a/\Bt 4000 b/\Bt 4000 c/\Bt 4000 d/\Rat.divInt (a*c) (b*d)=q/\k (fr q) S
theorem sc__law_times:FnScope ["one","other"] ["one","other"] (defScope s__law_times):=scm
theorem ok__law_times (Fn:Fun K "_law_times" "_law_times" s__law_times f fd) (c__law_ratio:Own P w K mg base "_law_ratio" 2 F__law_ratio):
  FnOk P w K mg base CX0 3 f fd ["one","other"] (spU K F__law_times):=by
 refine Fn.okJ sc__law_times (fun ds S k h=>?_) (fun cdv A outer s H E hr=>⟨_,(ds_onej (dst_retj (dq c__law_ratio hr (da_consj (d_opj o_mul (d_ixj x_ixE (d_varj 0) d_intj (fun _ _=>rfl)) (d_ixj x_ixE (d_varj 1) d_intj (fun _ _=>rfl))) (da_consj (d_opj o_mul (d_ixj x_ixE (d_varj 0) d_intj (fun _ _=>rfl)) (d_ixj x_ixE (d_varj 1) d_intj (fun _ _=>rfl))) da_nilj))))),fun ds S k h=>?_⟩)
 ·obtain⟨_,_,_,_,_,rfl,_⟩:=h
  rfl
 ·obtain⟨a,b,c,d,_,rfl,h0,h1,h2,h3,h4,rfl,q⟩:=h
  exact⟨mok h1 h3,mok h2 h4,_,_,rfl,h0,(h2.mul h4).mono (by decide),q⟩
def F__law_small:DSp:=fun ds S k=>∃ a,ds=[.ref a]/\SOK S a/\∀ q S',Sz 4 q->Dr a S S'->k (fr q) S'
theorem sc__law_small:FnScope ["state"] ["state"] (defScope s__law_small):=scm
theorem ok__law_small (Fn:Fun K "_law_small" "_law_small" s__law_small f fd) (c__law_ratio:Own P w K mg base "_law_ratio" 2 F__law_ratio) (c__law_take:Own P w K mg base "_law_take" 1 F__law_take):
  FnOk P w K mg base CX0 3 f fd ["state"] (spU K F__law_small):=by
 refine Fn.okJ sc__law_small (fun ds S k h=>?_) (fun cdv A outer s H E hr=>⟨_,(ds_onej (dst_retj (dq c__law_ratio hr (da_consj (d_opj o_sub (dq c__law_take hr (da_consj (d_varj 0) (da_consj d_intj da_nilj))) d_intj) (da_consj (d_opj o_add d_intj (d_ixj x_ixE (d_lstj (da_consj d_intj (da_consj d_intj (da_consj (dq c__law_take hr (da_consj (d_varj 0) (da_consj d_intj da_nilj))) da_nilj)))) (dq c__law_take hr (da_consj (d_varj 0) (da_consj d_intj da_nilj))) (fun _ _=>rfl))) da_nilj))))),fun ds S k h=>?_⟩)
 ·obtain⟨_,rfl,_⟩:=h
  rfl
 ·obtain⟨a,rfl,hS,q⟩:=h
  refine⟨a,19,rfl,by decide,by decide,hS,fun r1 S1 h1 h1' d1=>⟨a,6,rfl,by decide,by decide,d1.1,fun r2 S2 h2 h2' d2=>⟨few,fun p hp=>⟨a,3,rfl,by decide,by decide,d2.1.new hp,fun r3 S3 h3 h3' d3=>?_⟩⟩⟩⟩
  have hp3:=d3.2 p _ (d2.1.ne hp) put_same
  obtain⟨c,hc,hm⟩:=atI_mem (ds:=[.int 0,.int 0,.int r2]) h3 h3'
  have hc2:∃ s:Int,c=.int s/\0<=s/\s < 6:=by
   simp only [List.mem_cons,List.not_mem_nil,or_false] at hm
   rcases hm with rfl | rfl | rfl
   ·exact⟨0,rfl,by decide,by decide⟩
   ·exact⟨0,rfl,by decide,by decide⟩
   ·exact⟨r2,rfl,h2,h2'⟩
  obtain⟨s,rfl,s0,s1⟩:=hc2
  have b1:Bt 4 (r1 - 9):=by unfold Bt; omega
  have b2:Bt 4 (1+s):=by unfold Bt; omega
  exact⟨_,_,hp3,hc,_,_,rfl,by omega,b2.mono (by decide),q _ _ (Sz.divInt b1 b2 (by omega)) (d1.trans (d2.trans ((Dr.new d2.1 hp).trans d3)))⟩
def F__law_open:DSp:=fun ds S k=>∃ a,ds=[.ref a]/\SOK S a/\∀ u S',u∈Unders->Dr a S S'->k (.int u) S'
theorem sc__law_open:FnScope ["state"] ["state"] (defScope s__law_open):=scm
theorem ok__law_open (Fn:Fun K "_law_open" "_law_open" s__law_open f fd) (c__law_take:Own P w K mg base "_law_take" 1 F__law_take):
  FnOk P w K mg base CX0 2 f fd ["state"] (spU K F__law_open):=by
 refine Fn.okJ sc__law_open (fun ds S k h=>?_) (fun cdv A outer s H E hr=>⟨_,(ds_onej (dst_retj (d_ixj x_ixE (d_lstj (da_consj d_intj (da_consj d_intj (da_consj d_intj (da_consj d_intj (da_consj d_intj (da_consj d_intj (da_consj d_intj (da_consj d_intj (da_consj d_intj (da_consj d_intj da_nilj))))))))))) (dq c__law_take hr (da_consj (d_varj 0) (da_consj d_intj da_nilj))) (fun _ _=>rfl)))),fun ds S k h=>?_⟩)
 ·obtain⟨_,rfl,_⟩:=h
  rfl
 ·obtain⟨a,rfl,hS,q⟩:=h
  refine⟨few,fun p hp=>⟨a,10,rfl,by decide,by decide,hS.new hp,fun r S1 h1 h1' d1=>?_⟩⟩
  have hp1:=d1.2 p _ (hS.ne hp) put_same
  obtain⟨c,hc,hm⟩:=atI_mem (ds:=Unders.map D.int) h1 h1'
  obtain⟨u,hu,rfl⟩:=List.mem_map.mp hm
  exact⟨_,_,hp1,hc,q u S1 hu ((Dr.new hS hp).trans d1)⟩
theorem asN_ss (q:Rat) (u:Int):Rat.divInt (q.num*(absI q.num*u)) ((q.den:Int)*(q.den:Int))=ss q*u:=by
 have h:=rat_num_den q
 have hd:=rat_den_ne q
 rw [Rat.divInt_eq_div,Rat.intCast_mul,Rat.intCast_mul,Rat.intCast_mul,Rat.intCast_natCast]
 unfold ss ab absI
 by_cases hq:q < 0
 ·rw [if_pos hq,if_pos ((num_neg_iff q).mpr hq),Rat.intCast_neg]; grind
 ·rw [if_neg hq,if_neg (fun z=>hq ((num_neg_iff q).mp z))]; grind
theorem unders_fd {u:Int} (h:u∈Unders):Fd (u:Rat):=by
 obtain⟨h1,h2,h3⟩:=unders_no h
 refine⟨by exact_mod_cast h2,h1,?_,?_⟩
 ·rw [Rat.num_intCast]; unfold Bt; omega
 ·rw [Rat.den_intCast]; decide
def F__law_as_number:DSp:=fun ds S k=>∃ (p q:Rat) (u:Int),ds=[.tup [fr p,fr q],.int u]/\Sz 900 q/\Bt 7 u/\k (N (u:Rat) p q) S
theorem sc__law_as_number:FnScope ["pair","under","size"] ["pair","under"] (defScope s__law_as_number):=scm
theorem ok__law_as_number (Fn:Fun K "_law_as_number" "_law_as_number" s__law_as_number f fd) (c__law_times:Own P w K mg base "_law_times" 3 F__law_times) (z_abs:mg "abs"=none):
  FnOk P w K mg base CX0 4 f fd ["pair","under"] (spU K F__law_as_number):=by
 refine Fn.okJ sc__law_as_number (fun ds S k h=>?_) (fun cdv A outer s H E hr=>⟨_,(ds_consj (dst_setj (i:=2) sc__law_as_number.nd (d_tupj (da_consj (d_opj o_mul (d_callBj b_abs rfl z_abs bt_abs (da_consj (d_ixj x_ixE (d_ixj x_ixE (d_varj 0) d_intj (fun _ _=>rfl)) d_intj (fun _ _=>rfl)) da_nilj)) (d_varj 1)) (da_consj (d_ixj x_ixE (d_ixj x_ixE (d_varj 0) d_intj (fun _ _=>rfl)) d_intj (fun _ _=>rfl)) da_nilj)))) (ds_onej (dst_retj (d_tupj (da_consj (d_ixj x_ixE (d_varj 0) d_intj (fun _ _=>rfl)) (da_consj (dq c__law_times hr (da_consj (d_ixj x_ixE (d_varj 0) d_intj (fun _ _=>rfl)) (da_consj (d_varj 2) da_nilj))) da_nilj)))))),fun ds S k h=>?_⟩)
 ·obtain⟨_,_,_,rfl,_⟩:=h
  rfl
 ·obtain⟨p,q,u,rfl,h1,h2,w⟩:=h
  exact⟨mok (absI_bt h1.num) h2,few,_,_,_,_,_,rfl,den_mul_ne q q,h1.num.mono (by decide),h1.den.mono (by decide),((absI_bt h1.num).mul h2).mono (by decide),h1.den.mono (by decide),asN_ss q u,few,w⟩
def F__law_both:DSp:=fun ds S k=>∃ a,ds=[.ref a]/\SOK S a/\∀ p q S',Sz 4 p->Sz 4 q->Dr a S S'->k (.tup [fr p,fr q]) S'
theorem sc__law_both:FnScope ["state"] ["state"] (defScope s__law_both):=scm
theorem ok__law_both (Fn:Fun K "_law_both" "_law_both" s__law_both f fd) (c__law_take:Own P w K mg base "_law_take" 1 F__law_take) (c__law_small:Own P w K mg base "_law_small" 3 F__law_small):
  FnOk P w K mg base CX0 4 f fd ["state"] (spU K F__law_both):=by
 refine Fn.okJ sc__law_both (fun ds S k h=>?_) (fun cdv A outer s H E hr=>⟨_,(ds_consj (dst_ifj (dt_cmpj o_eq (dq c__law_take hr (da_consj (d_varj 0) (da_consj d_intj da_nilj))) d_intj (nomark _)) (ds_onej (dst_retj (d_tupj (da_consj (dq c__law_small hr (da_consj (d_varj 0) da_nilj)) (da_consj (d_tupj (da_consj d_intj (da_consj d_intj da_nilj))) da_nilj))))) ds_nilj) (ds_onej (dst_retj (d_tupj (da_consj (dq c__law_small hr (da_consj (d_varj 0) da_nilj)) (da_consj (dq c__law_small hr (da_consj (d_varj 0) da_nilj)) da_nilj)))))),fun ds S k h=>?_⟩)
 ·obtain⟨_,rfl,_⟩:=h
  rfl
 ·obtain⟨a,rfl,hS,w⟩:=h
  refine⟨a,2,rfl,by decide,by decide,hS,fun r S1 _ _ d1=>ite_dec (fun _=>⟨a,rfl,d1.1,fun p S2 hp d2=>⟨few,few,?_⟩⟩) (fun _=>⟨a,rfl,d1.1,fun p S2 hp d2=>⟨a,rfl,d2.1,fun q S3 hq d3=>⟨few,w p q S3 hp hq (d1.trans (d2.trans d3))⟩⟩⟩)⟩
  exact w p 0 S2 hp (Sz.zero.mono (by decide)) (d1.trans d2)
def B (x:Q):D:=.tup [fr x.1,fr x.2]
def BP (x y:Q):D:=.tup [B x,B y]
theorem int_sz {n:Nat} {u:Int} (h:Bt n u) (hn:1<=n):Sz n (u:Rat):=by
 refine⟨by rw [Rat.num_intCast]; exact h,?_⟩
 rw [Rat.den_intCast]
 exact(show Bt 1 1 by decide).mono hn
theorem SOK.set {a q:Addr} {S:DH} {o:DO} (h:SOK S a) (z:q≠a):SOK (put S q o) a:=by
 obtain⟨n,b,e,w⟩:=h
 exact⟨n,b,by rw [put_ne (Ne.symm z)]; exact e,w⟩
set_option maxHeartbeats 4000000
def F__law_both_point:DSp:=fun ds S k=>∃ a,ds=[.ref a]/\SOK S a/\∀ (x y:Q) S',Sq 4 x->Sq 4 y->Dr a S S'->k (BP x y) S'
theorem sc__law_both_point:FnScope ["state"] ["state"] (defScope s__law_both_point):=scm
theorem ok__law_both_point (Fn:Fun K "_law_both_point" "_law_both_point" s__law_both_point f fd) (c__law_both:Own P w K mg base "_law_both" 4 F__law_both):
  FnOk P w K mg base CX0 5 f fd ["state"] (spU K F__law_both_point):=by
 refine Fn.okJ sc__law_both_point (fun ds S k h=>?_) (fun cdv A outer s H E hr=>⟨_,(ds_onej (dst_retj (d_tupj (da_consj (dq c__law_both hr (da_consj (d_varj 0) da_nilj)) (da_consj (dq c__law_both hr (da_consj (d_varj 0) da_nilj)) da_nilj))))),fun ds S k h=>?_⟩)
 ·obtain⟨_,rfl,_⟩:=h
  rfl
 ·obtain⟨a,rfl,hS,w⟩:=h
  exact⟨a,rfl,hS,fun p q S1 hp hq d1=>⟨a,rfl,d1.1,fun r s S2 hr hs d2=>⟨few,w (p,q) (r,s) S2 ⟨hp,hq⟩ ⟨hr,hs⟩ (d1.trans d2)⟩⟩⟩
def F__law_as_point:DSp:=fun ds S k=>∃ (x y:Q) (u:Int),ds=[BP x y,.int u]/\Bt 7 u/\Sq 900 x/\Sq 900 y/\k (Pq u x y) S
theorem sc__law_as_point:FnScope ["point","under"] ["point","under"] (defScope s__law_as_point):=scm
theorem ok__law_as_point (Fn:Fun K "_law_as_point" "_law_as_point" s__law_as_point f fd) (c__law_as_number:Own P w K mg base "_law_as_number" 4 F__law_as_number):
  FnOk P w K mg base CX0 5 f fd ["point","under"] (spU K F__law_as_point):=by
 refine Fn.okJ sc__law_as_point (fun ds S k h=>?_) (fun cdv A outer s H E hr=>⟨_,(ds_onej (dst_retj (d_tupj (da_consj (dq c__law_as_number hr (da_consj (d_ixj x_ixE (d_varj 0) d_intj (fun _ _=>rfl)) (da_consj (d_varj 1) da_nilj))) (da_consj (dq c__law_as_number hr (da_consj (d_ixj x_ixE (d_varj 0) d_intj (fun _ _=>rfl)) (da_consj (d_varj 1) da_nilj))) da_nilj))))),fun ds S k h=>?_⟩)
 ·obtain⟨_,_,_,rfl,_⟩:=h
  rfl
 ·obtain⟨x,y,u,rfl,hu,hx,hy,w⟩:=h
  exact⟨_,_,u,rfl,hx.b,hu,_,_,u,rfl,hy.b,hu,few,w⟩
set_option maxHeartbeats 4000000
theorem two_fd:Fd ((2:Int):Rat):=unders_fd (by decide)
theorem pp_as {u x y:Rat}:PP x y=Pq u (qo x) (qo y):=by
 unfold PP Pq qo
 rw [plain_as (u:=u),plain_as (u:=u)]
theorem no_mul {a s:Rat} (no:NoSq s) (ha:a≠0):NoSq (a*a*s):=fun r e=>no (r / a) (by
 have h:r / a*a=r:=Rat.div_mul_cancel ha
 generalize r / a=t at h
 subst h
 have:a*a*(t*t - s)=0:=by grind
 have h2:a*a≠0:=by grind
 grind)
theorem mk_no {p a s:Rat} (s0:0 < s) (no:NoSq s):mkD p (ss a*s)=N s p a:=by
 by_cases ha:a=0
 ·subst ha
  rw [show ss 0*s=0 by unfold ss; grind,mkD_zero]
  exact plain_as
 ·rw [mkD_no (by rw [ab_ss s0]; exact no_mul no ha)]
  rfl
theorem mk_sq {p a ρ:Rat} (r0:0 < ρ):mkD p (ss a*(ρ*ρ))=.tup [fr (p+a*ρ),fr 0]:=by
 have s0:0 < ρ*ρ:=Rat.mul_pos r0 r0
 have n1:0<=ab a*ρ:=Rat.mul_nonneg (ab_nn a) (Rat.le_of_lt r0)
 have n2:ab a*ρ*(ab a*ρ)=ab (ss a*(ρ*ρ)):=by
  rw [ab_ss s0]
  unfold ab
  split <;> grind
 rw [mkD_root n1 n2]
 have e:sg (ab a*ρ) (ss a*(ρ*ρ))=a*ρ:=by
  have h:=sgR_ss (b:=a) s0
  unfold sg ab
  rcases tri a with z | z | z
  ·have:¬ ss a*(ρ*ρ) < 0:=fun q=>by rw [sgR_neg q,sgR_pos z] at h; exact absurd h (by decide)
   rw [if_neg this,if_neg (by grind)]
  ·have:ss a*(ρ*ρ) < 0:=by
    have:sgR (ss a*(ρ*ρ))=-1:=by rw [h,sgR_neg z]
    unfold sgR at this
    split at this
    ·exact absurd this (by decide)
    ·split at this
     ·assumption
     ·exact absurd this (by decide)
   rw [if_pos this,if_pos z]; grind
  ·subst z
   split <;> grind
 rw [e]
theorem MP_no {x y a b s:Rat} (s0:0 < s) (no:NoSq s):MP x y a b s=Pq s (x,a) (y,b):=by
 unfold MP
 rw [mk_no s0 no,mk_no s0 no]
 rfl
theorem MP_sq {x y a b ρ:Rat} (r0:0 < ρ):MP x y a b (ρ*ρ)=PP (x+a*ρ) (y+b*ρ):=by
 unfold MP
 rw [mk_sq r0,mk_sq r0]
 rfl
theorem sq_orM {s:Rat} (s0:0 < s):NoSq s\/∃ ρ,0 < ρ/\ρ*ρ=s:=by
 by_cases h:∃ r,r*r=s
 ·obtain⟨r,e⟩:=h
  right
  rcases tri r with z | z | z
  ·exact⟨r,z,e⟩
  ·exact⟨-r,by grind,by grind⟩
  ·subst z; grind
 ·exact .inl fun r e=>h ⟨r,e⟩
structure Pt (κ:Bool) (u:Rat) (X Y:Q) (d:D):Prop where
 fd:Fd u
 eq:d=Pq u X Y
 x:Wy κ 830 250 10 X
 y:Wy κ 830 250 10 Y
theorem sq_pos {b:Rat} (h:b≠0):0 < b*b:=by
 rcases tri b with z | z | z
 ·exact Rat.mul_pos z z
 ·have:=Rat.mul_pos (show 0 < -b by grind) (show 0 < -b by grind); grind
 ·exact absurd z h
theorem sq2_b {b u:Rat} (u0:0 < u) (h:b≠0):sq2 0 b u=sgR b:=sq2_n (by
 have:=Rat.mul_pos (sq_pos h) u0
 grind)
theorem sq2_a {a u:Rat}:sq2 a 0 u=sgR a:=by
 unfold sq2
 split
 ·rfl
 ·rename_i h
  have:a=0:=by
   rcases tri a with z | z | z
   ·have:=Rat.mul_pos z z; grind
   ·have:=Rat.mul_pos (show 0 < -a by grind) (show 0 < -a by grind); grind
   ·exact z
  rw [this]
theorem A_pos {a b:Rat} (h:a*a+b*b≠0):0 < a*a+b*b:=by
 have:=rat_sq_nonneg a
 have:=rat_sq_nonneg b
 grind
structure Sgn (σ:Rat):Prop where
 sq:σ*σ=1
 sz:Sz 1 σ
theorem sgn1:Sgn 1:=⟨by decide +kernel,⟨by decide,by decide⟩⟩
theorem sgn2:Sgn (-1):=⟨by decide +kernel,⟨by decide,by decide⟩⟩
set_option maxHeartbeats 4000000
theorem line_no {x y z v m n s T A M E σ:Rat} (hσ:σ*σ=1) (hA:A=(z - x)*(z - x)+(v - y)*(v - y)) (hM:M=(m - x)*(m - x)+(n - y)*(n - y)) (hT:T*A=(z - x)*(m - x)+(v - y)*(n - y)) (hE:E*A=T*T*A - (M - s)):
  sideQ E (qo x) (qo y) (qo z) (qo v) (x+(z - x)*T,σ*-(z - x)) (y+(v - y)*T,σ*-(v - y))=(0,0)/\squareQ E (qs (x+(z - x)*T,σ*-(z - x)) (qo m)) (qs (y+(v - y)*T,σ*-(v - y)) (qo n))=(s,0):=by
 simp only [squareQ,sideQ,qa,qm,qs,qo]
 refine⟨Prod.ext ?_ ?_,Prod.ext ?_ ?_⟩ <;> dsimp only <;> grind
theorem line_sq {u x y z v m n s T A M ρ σ:Rat} (hσ:σ*σ=1) (hA:A=(z - x)*(z - x)+(v - y)*(v - y)) (hM:M=(m - x)*(m - x)+(n - y)*(n - y)) (hT:T*A=(z - x)*(m - x)+(v - y)*(n - y)) (hE:ρ*ρ*A=T*T*A - (M - s)):
  sideQ u (qo x) (qo y) (qo z) (qo v) (qo (x+(z - x)*T+σ*-(z - x)*ρ)) (qo (y+(v - y)*T+σ*-(v - y)*ρ))=(0,0)/\squareQ u (qs (qo (x+(z - x)*T+σ*-(z - x)*ρ)) (qo m)) (qs (qo (y+(v - y)*T+σ*-(v - y)*ρ)) (qo n))=(s,0):=by
 simp only [squareQ,sideQ,qa,qm,qs,qo]
 refine⟨Prod.ext ?_ ?_,Prod.ext ?_ ?_⟩ <;> dsimp only <;> grind
theorem far_no {x y z v s T A E σ:Rat} (hσ:σ*σ=1) (hA:A=(z - x)*(z - x)+(v - y)*(v - y)) (hT:T=0) (hE:E*A=s):
  squareQ E (qs (qo z) (x+(z - x)*T,σ*-(z - x))) (qs (qo v) (y+(v - y)*T,σ*-(v - y)))=(A+s,σ*(A+A)):=by
 subst hT
 simp only [squareQ,qa,qm,qs,qo]
 refine Prod.ext ?_ ?_ <;> dsimp only <;> grind
theorem far_sq {u x y z v T A ρ σ:Rat} (hσ:σ*σ=1) (hA:A=(z - x)*(z - x)+(v - y)*(v - y)) (hT:T=0):
  squareQ u (qs (qo z) (qo (x+(z - x)*T+σ*-(z - x)*ρ))) (qs (qo v) (qo (y+(v - y)*T+σ*-(v - y)*ρ)))=(A*((1+σ*ρ)*(1+σ*ρ)),0):=by
 subst hT
 simp only [squareQ,qa,qm,qs,qo]
 refine Prod.ext ?_ ?_ <;> dsimp only <;> grind
def lT (x y z v m n:Rat):Rat:=((z - x)*(m - x)+(v - y)*(n - y)) / ((z - x)*(z - x)+(v - y)*(v - y))
def lE (x y z v m n s:Rat):Rat:=lT x y z v m n*lT x y z v m n - (((m - x)*(m - x)+(n - y)*(n - y)) - s) / ((z - x)*(z - x)+(v - y)*(v - y))
noncomputable def lL (x y z v m n s:Rat):List D:=bothL (x+(z - x)*lT x y z v m n) (y+(v - y)*lT x y z v m n) (-(z - x)) (-(v - y)) (lE x y z v m n s)
structure LPf (x y z v m n s:Rat) (κ:Bool) (u:Rat) (X Y:Q) (d:D):Prop where
 pt:Pt κ u X Y d
 side:sideQ u (qo x) (qo y) (qo z) (qo v) X Y=(0,0)
 sq:squareQ u (qs X (qo m)) (qs Y (qo n))=(s,0)
def LP (x y z v m n s:Rat) (d:D):Prop:=∃ κ u X Y,LPf x y z v m n s κ u X Y d
structure LLf (z v:Rat) (κ:Bool) (u:Rat) (X Y X' Y':Q) (d e:D):Prop where
 pd:Pt κ u X Y d
 pe:Pt κ u X' Y' e
 a1:Sz 940 (squareQ u (qs (qo z) X) (qs (qo v) Y)).1
 b1:Sz 400 (squareQ u (qs (qo z) X) (qs (qo v) Y)).2
 a2:Sz 940 (squareQ u (qs (qo z) X') (qs (qo v) Y')).1
 b2:Sz 400 (squareQ u (qs (qo z) X') (qs (qo v) Y')).2
 less:sq2 ((squareQ u (qs (qo z) X') (qs (qo v) Y')).1 - (squareQ u (qs (qo z) X) (qs (qo v) Y)).1) ((squareQ u (qs (qo z) X') (qs (qo v) Y')).2 - (squareQ u (qs (qo z) X) (qs (qo v) Y)).2) u=-1
def LL (z v:Rat) (d e:D):Prop:=∃ κ u X Y X' Y',LLf z v κ u X Y X' Y' d e
section
variable {x y s z v m n:Rat}
theorem lT_eq (h0:(z - x)*(z - x)+(v - y)*(v - y)≠0):lT x y z v m n*((z - x)*(z - x)+(v - y)*(v - y))=(z - x)*(m - x)+(v - y)*(n - y):=Rat.div_mul_cancel h0
theorem lE_eq (h0:(z - x)*(z - x)+(v - y)*(v - y)≠0):lE x y z v m n s*((z - x)*(z - x)+(v - y)*(v - y))=lT x y z v m n*lT x y z v m n*((z - x)*(z - x)+(v - y)*(v - y)) - (((m - x)*(m - x)+(n - y)*(n - y)) - s):=by
 have h:(((m - x)*(m - x)+(n - y)*(n - y)) - s) / ((z - x)*(z - x)+(v - y)*(v - y))*((z - x)*(z - x)+(v - y)*(v - y))=((m - x)*(m - x)+(n - y)*(n - y)) - s:=Rat.div_mul_cancel h0
 unfold lE
 generalize (((m - x)*(m - x)+(n - y)*(n - y)) - s) / ((z - x)*(z - x)+(v - y)*(v - y))=q at h ⊢
 grind
theorem LP_no {σ:Rat} (hσ:Sgn σ) (hx:Sz 4 x) (hy:Sz 4 y) (hz:Sz 4 z) (hv:Sz 4 v) (hm:Sz 4 m) (hn:Sz 4 n) (hs:Sz 60 s) (h0:(z - x)*(z - x)+(v - y)*(v - y)≠0) (e0:0 < lE x y z v m n s) (no:NoSq (lE x y z v m n s)):
  LPf x y z v m n s false (lE x y z v m n s) (x+(z - x)*lT x y z v m n,σ*-(z - x)) (y+(v - y)*lT x y z v m n,σ*-(v - y)) (Pq (lE x y z v m n s) (x+(z - x)*lT x y z v m n,σ*-(z - x)) (y+(v - y)*lT x y z v m n,σ*-(v - y))):=by
 have sa:=hz.sub hx
 have sb:=hv.sub hy
 have sc:=hm.sub hx
 have sd:=hn.sub hy
 have sA:=(sa.mul sa).add (sb.mul sb)
 have st:=((sa.mul sc).add (sb.mul sd)).div sA h0
 have se:Sz 600 (lE x y z v m n s):=((st.mul st).sub ((((sc.mul sc).add (sd.mul sd)).sub hs).div sA h0)).mono (by decide)
 obtain⟨f1,f2⟩:=line_no (E:=lE x y z v m n s) hσ.sq rfl rfl (lT_eq (m:=m) (n:=n) h0) (lE_eq (s:=s) (m:=m) (n:=n) h0)
 exact⟨⟨⟨e0,no,se⟩,rfl,⟨(hx.add (sa.mul st)).mono (by decide),(hσ.sz.mul sa.neg).mono (by decide)⟩,⟨(hy.add (sb.mul st)).mono (by decide),(hσ.sz.mul sb.neg).mono (by decide)⟩⟩,f1,f2⟩
theorem LP_sq {σ ρ:Rat} (hσ:Sgn σ) (hx:Sz 4 x) (hy:Sz 4 y) (hz:Sz 4 z) (hv:Sz 4 v) (hm:Sz 4 m) (hn:Sz 4 n) (hs:Sz 60 s) (h0:(z - x)*(z - x)+(v - y)*(v - y)≠0) (eρ:ρ*ρ=lE x y z v m n s):
  LPf x y z v m n s true ((2:Int):Rat) (qo (x+(z - x)*lT x y z v m n+σ*-(z - x)*ρ)) (qo (y+(v - y)*lT x y z v m n+σ*-(v - y)*ρ)) (PP (x+(z - x)*lT x y z v m n+σ*-(z - x)*ρ) (y+(v - y)*lT x y z v m n+σ*-(v - y)*ρ)):=by
 have sa:=hz.sub hx
 have sb:=hv.sub hy
 have sc:=hm.sub hx
 have sd:=hn.sub hy
 have sA:=(sa.mul sa).add (sb.mul sb)
 have st:=((sa.mul sc).add (sb.mul sd)).div sA h0
 have se:Sz 284 (lE x y z v m n s):=((st.mul st).sub ((((sc.mul sc).add (sd.mul sd)).sub hs).div sA h0)).mono (by decide)
 have sρ:Sz 284 ρ:=se.root eρ
 have he:=lE_eq (s:=s) (m:=m) (n:=n) h0
 rw [<- eρ] at he
 obtain⟨f1,f2⟩:=line_sq (u:=((2:Int):Rat)) hσ.sq rfl rfl (lT_eq (m:=m) (n:=n) h0) he
 exact⟨⟨two_fd,pp_as,⟨rfl,((hx.add (sa.mul st)).add ((hσ.sz.mul sa.neg).mul sρ)).mono (by decide)⟩,⟨rfl,((hy.add (sb.mul st)).add ((hσ.sz.mul sb.neg).mul sρ)).mono (by decide)⟩⟩,f1,f2⟩
theorem lL_cases (hx:Sz 4 x) (hy:Sz 4 y) (hz:Sz 4 z) (hv:Sz 4 v) (hm:Sz 4 m) (hn:Sz 4 n) (hs:Sz 60 s) (s0:0 < s) (h0:(z - x)*(z - x)+(v - y)*(v - y)≠0):
  (lL x y z v m n s=[]/\¬ (m=x/\n=y))\/(∃ d,lL x y z v m n s=[d]/\LP x y z v m n s d/\¬ (m=x/\n=y))\/∃ d e,lL x y z v m n s=[d,e]/\LP x y z v m n s d/\LP x y z v m n s e/\(m=x/\n=y->LL z v d e):=by
 have sa:=hz.sub hx
 have sb:=hv.sub hy
 have sA:=(sa.mul sa).add (sb.mul sb)
 have hA:=A_pos h0
 have two:Sz 2 (2:Rat):=⟨by decide,by decide⟩
 have cC:m=x/\n=y->lT x y z v m n=0/\lE x y z v m n s*((z - x)*(z - x)+(v - y)*(v - y))=s:=fun⟨e1,e2⟩=>by
  subst e1 e2
  have h1:lT m n z v m n=0:=by
   have t1:=lT_eq (m:=m) (n:=n) h0
   generalize lT m n z v m n=t at*
   generalize (z - m)*(z - m)+(v - n)*(v - n)=A at*
   grind
  refine⟨h1,?_⟩
  rw [lE_eq h0,h1]
  grind
 have pos:m=x/\n=y->0 < lE x y z v m n s:=fun c=>by
  obtain⟨_,h2⟩:=cC c
  rcases tri (lE x y z v m n s) with q | q | q
  ·exact q
  ·have:=Rat.mul_pos (show 0 < -lE x y z v m n s by grind) hA
   grind
  ·rw [q] at h2; grind
 rcases tri (lE x y z v m n s) with e0 | e0 | e0
 ·have nn:¬ lE x y z v m n s < 0:=by grind
  have nz:lE x y z v m n s≠0:=by grind
  have eL:lL x y z v m n s=[MP (x+(z - x)*lT x y z v m n) (y+(v - y)*lT x y z v m n) (-(z - x)) (-(v - y)) (lE x y z v m n s),MP (x+(z - x)*lT x y z v m n) (y+(v - y)*lT x y z v m n) (- -(z - x)) (- -(v - y)) (lE x y z v m n s)]:=by
   unfold lL bothL; rw [if_neg nn,if_neg nz]
  refine .inr (.inr ⟨_,_,eL,?_⟩)
  rcases sq_orM e0 with no | ⟨ρ,r0,eρ⟩
  ·rw [MP_no e0 no,MP_no e0 no]
   have c1:=LP_no sgn1 hx hy hz hv hm hn hs h0 e0 no
   have c2:=LP_no sgn2 hx hy hz hv hm hn hs h0 e0 no
   have o1:∀ q:Rat,1*-q=-q:=fun q=>by grind
   have o2:∀ q:Rat,-1*-q=- -q:=fun q=>by grind
   refine⟨?_,?_,fun c=>?_⟩
   ·simp only [o1] at c1; exact⟨_,_,_,_,c1⟩
   ·simp only [o2] at c2; exact⟨_,_,_,_,c2⟩
   ·obtain⟨hT,hE⟩:=cC c
    have g1:=far_no (x:=x) (y:=y) sgn1.sq rfl hT hE
    have g2:=far_no (x:=x) (y:=y) sgn2.sq rfl hT hE
    simp only [o1] at g1 c1
    simp only [o2] at g2 c2
    have s1:=(sA.add hs)
    have s2:=sA.add sA
    refine⟨_,_,_,_,_,_,c1.pt,c2.pt,?_,?_,?_,?_,?_⟩
    ·rw [g1]; exact s1.mono (by decide)
    ·rw [g1]; exact(sgn1.sz.mul s2).mono (by decide)
    ·rw [g2]; exact s1.mono (by decide)
    ·rw [g2]; exact(sgn2.sz.mul s2).mono (by decide)
    ·rw [g1,g2]
     dsimp only
     generalize (z - x)*(z - x)+(v - y)*(v - y)=A at*
     rw [show A+s - (A+s)=0 by grind,sq2_b e0 (by grind)]
     exact sgR_neg (by grind)
  ·have m1:=MP_sq (x:=x+(z - x)*lT x y z v m n) (y:=y+(v - y)*lT x y z v m n) (a:=-(z - x)) (b:=-(v - y)) r0
   have m2:=MP_sq (x:=x+(z - x)*lT x y z v m n) (y:=y+(v - y)*lT x y z v m n) (a:=- -(z - x)) (b:=- -(v - y)) r0
   rw [eρ] at m1 m2
   rw [m1,m2]
   have c1:=LP_sq (ρ:=ρ) sgn1 hx hy hz hv hm hn hs h0 eρ
   have c2:=LP_sq (ρ:=ρ) sgn2 hx hy hz hv hm hn hs h0 eρ
   have o1:∀ q:Rat,1*-q=-q:=fun q=>by grind
   have o2:∀ q:Rat,-1*-q=- -q:=fun q=>by grind
   refine⟨?_,?_,fun c=>?_⟩
   ·simp only [o1] at c1; exact⟨_,_,_,_,c1⟩
   ·simp only [o2] at c2; exact⟨_,_,_,_,c2⟩
   ·obtain⟨hT,hE⟩:=cC c
    have g1:=far_sq (u:=((2:Int):Rat)) (ρ:=ρ) (x:=x) (y:=y) (z:=z) (v:=v) sgn1.sq rfl hT
    have g2:=far_sq (u:=((2:Int):Rat)) (ρ:=ρ) (x:=x) (y:=y) (z:=z) (v:=v) sgn2.sq rfl hT
    simp only [o1] at g1 c1
    simp only [o2] at g2 c2
    have sc:=hm.sub hx
    have sd:=hn.sub hy
    have st:=((sa.mul sc).add (sb.mul sd)).div sA h0
    have se:Sz 284 (lE x y z v m n s):=((st.mul st).sub ((((sc.mul sc).add (sd.mul sd)).sub hs).div sA h0)).mono (by decide)
    have sρ:Sz 284 ρ:=se.root eρ
    have q1:=sgn1.sz.add (sgn1.sz.mul sρ)
    have q2:=sgn1.sz.add (sgn2.sz.mul sρ)
    refine⟨_,_,_,_,_,_,c1.pt,c2.pt,?_,?_,?_,?_,?_⟩
    ·rw [g1]; exact(sA.mul (q1.mul q1)).mono (by decide)
    ·rw [g1]; exact Sz.zero.mono (by decide)
    ·rw [g2]; exact(sA.mul (q2.mul q2)).mono (by decide)
    ·rw [g2]; exact Sz.zero.mono (by decide)
    ·rw [g1,g2]
     dsimp only
     generalize (z - x)*(z - x)+(v - y)*(v - y)=A at*
     rw [show (0:Rat) - 0=0 by grind,sq2_a]
     refine sgR_neg ?_
     have:=Rat.mul_pos hA r0
     grind
 ·refine .inl ⟨if_pos e0,fun c=>?_⟩
  have:=pos c
  grind
 ·refine .inr (.inl ⟨PP (x+(z - x)*lT x y z v m n) (y+(v - y)*lT x y z v m n),?_,?_,fun c=>?_⟩)
  ·unfold lL bothL; rw [if_neg (by rw [e0]; decide),if_pos e0]
  ·have c:=LP_sq (σ:=1) (ρ:=0) sgn1 hx hy hz hv hm hn hs h0 (by rw [e0]; decide +kernel)
   have o1:∀ p q:Rat,p+1*-q*0=p:=fun p q=>by grind
   simp only [o1] at c
   exact⟨_,_,_,_,c⟩
  ·have:=pos c
   grind
end
def F_line_meets:DSp:=fun ds S k=>∃ x y z v m n s:Rat,ds=[PP x y,PP z v,PP m n,fr s]/\Sz 4 x/\Sz 4 y/\Sz 4 z/\Sz 4 v/\Sz 4 m/\Sz 4 n/\Sz 60 s/\(z - x)*(z - x)+(v - y)*(v - y)≠0/\∀ S' p,Ext S S'->S' p=none->k (.ref p) (put S' p (.lst (lL x y z v m n s)))
theorem sc_line_meets:FnScope ["one","other","middle","square","start","way","apart","to_middle","along","beyond","against"] ["one","other","middle","square"] (defScope s_line_meets):=scm
theorem ok_line_meets (Fn:Fun K "line_meets" "line_meets" s_line_meets f fd) (c_place_of:Own P w K mg base "place_of" 1 F_place_of) (c_plain_way:Own P w K mg base "plain_way" 4 F_plain_way) (c_square_of_unlike:Own P w K mg base "square_of_unlike" 5 F_square_of_unlike) (c_over:Own P w K mg base "over" 3 F_over) (c_product_of_ways:Own P w K mg base "product_of_ways" 4 F_product_of_ways) (c_minus:Own P w K mg base "minus" 3 F_minus) (c_negative:Own P w K mg base "negative" 1 F_negative) (c_both_moved:Own P w K mg base "both_moved" 6 F_both_moved) (c_times:Own P w K mg base "times" 3 F_times) (c_moved:Own P w K mg base "moved" 4 F_moved):
  FnOk P w K mg base CX0 7 f fd ["one","other","middle","square"] (spU K F_line_meets):=by
 refine Fn.okJ sc_line_meets (fun ds S k h=>?_) (fun cdv A outer s H E hr=>⟨_,(ds_consj (dst_setj (i:=4) sc_line_meets.nd (dq c_place_of hr (da_consj (d_varj 0) da_nilj))) (ds_consj (dst_setj (i:=5) sc_line_meets.nd (dq c_plain_way hr (da_consj (d_varj 4) (da_consj (dq c_place_of hr (da_consj (d_varj 1) da_nilj)) da_nilj)))) (ds_consj (dst_setj (i:=6) sc_line_meets.nd (dq c_square_of_unlike hr (da_consj (d_varj 5) da_nilj))) (ds_consj (dst_setj (i:=7) sc_line_meets.nd (dq c_plain_way hr (da_consj (d_varj 4) (da_consj (dq c_place_of hr (da_consj (d_varj 2) da_nilj)) da_nilj)))) (ds_consj (dst_setj (i:=8) sc_line_meets.nd (dq c_over hr (da_consj (dq c_product_of_ways hr (da_consj (d_varj 5) (da_consj (d_varj 7) da_nilj))) (da_consj (d_varj 6) da_nilj)))) (ds_consj (dst_setj (i:=9) sc_line_meets.nd (dq c_over hr (da_consj (dq c_minus hr (da_consj (dq c_product_of_ways hr (da_consj (d_varj 7) (da_consj (d_varj 7) da_nilj))) (da_consj (d_varj 3) da_nilj))) (da_consj (d_varj 6) da_nilj)))) (ds_consj (dst_setj (i:=10) sc_line_meets.nd (d_tupj (da_consj (dq c_negative hr (da_consj (d_ixj x_ixE (d_varj 5) d_intj (fun _ _=>rfl)) da_nilj)) (da_consj (dq c_negative hr (da_consj (d_ixj x_ixE (d_varj 5) d_intj (fun _ _=>rfl)) da_nilj)) da_nilj)))) (ds_onej (dst_retj (dq c_both_moved hr (da_consj (dq c_moved hr (da_consj (d_varj 4) (da_consj (d_varj 5) (da_consj (d_varj 8) da_nilj)))) (da_consj (d_varj 10) (da_consj (dq c_minus hr (da_consj (dq c_times hr (da_consj (d_varj 8) (da_consj (d_varj 8) da_nilj))) (da_consj (d_varj 9) da_nilj))) da_nilj))))))))))))),fun ds S k h=>?_⟩)
 ·obtain⟨_,_,_,_,_,_,_,rfl,_⟩:=h
  rfl
 ·obtain⟨x,y,z,v,m,n,s,rfl,hx,hy,hz,hv,hm,hn,hs,h0,w⟩:=h
  have sa:=hz.sub hx
  have sb:=hv.sub hy
  have sc:=hm.sub hx
  have sd:=hn.sub hy
  have sA:=(sa.mul sa).add (sb.mul sb)
  have sp:=(sa.mul sc).add (sb.mul sd)
  have st:=sp.div sA h0
  have sM:=(sc.mul sc).add (sd.mul sd)
  have sB:=(sM.sub hs).div sA h0
  have sE:=(st.mul st).sub sB
  have sX:=hx.add (sa.mul st)
  have sY:=hy.add (sb.mul st)
  refine⟨x,y,rfl,z,v,rfl,x,y,z,v,rfl,hx.mono (by decide),hy.mono (by decide),hz.mono (by decide),hv.mono (by decide),_,_,rfl,sa.mono (by decide),sb.mono (by decide),h0,?_⟩
  refine⟨m,n,rfl,x,y,m,n,rfl,hx.mono (by decide),hy.mono (by decide),hm.mono (by decide),hn.mono (by decide),?_⟩
  refine⟨_,_,_,_,rfl,sa.mono (by decide),sb.mono (by decide),sc.mono (by decide),sd.mono (by decide),_,_,rfl,h0,sp.mono (by decide),sA.mono (by decide),?_⟩
  refine⟨_,_,_,_,rfl,sc.mono (by decide),sd.mono (by decide),sc.mono (by decide),sd.mono (by decide),_,s,rfl,sM.mono (by decide),hs.mono (by decide),_,_,rfl,h0,(sM.sub hs).mono (by decide),sA.mono (by decide),?_⟩
  refine⟨_,rfl,_,rfl,few,_,_,_,_,_,rfl,hx.mono (by decide),hy.mono (by decide),sa.mono (by decide),sb.mono (by decide),st.mono (by decide),?_⟩
  refine⟨_,_,rfl,st.mono (by decide),st.mono (by decide),_,_,rfl,(st.mul st).mono (by decide),sB.mono (by decide),?_⟩
  exact⟨_,_,_,_,_,rfl,sX.mono (by decide),sY.mono (by decide),sa.neg.mono (by decide),sb.neg.mono (by decide),sE.mono (by decide),w⟩
set_option maxHeartbeats 4000000
theorem divpos {a b:Int} (a0:0 < a) (b0:0 < b):0 < Rat.divInt a b:=by
 rw [Rat.divInt_eq_div,Rat.div_def]
 exact Rat.mul_pos (by exact_mod_cast a0) (Rat.inv_pos.mpr (by exact_mod_cast b0))
def F__law_plain:DSp:=fun ds S k=>∃ q:Rat,ds=[fr q]/\k (.tup [fr q,fr 0]) S
theorem sc__law_plain:FnScope ["fraction"] ["fraction"] (defScope s__law_plain):=scm
theorem ok__law_plain (Fn:Fun K "_law_plain" "_law_plain" s__law_plain f fd):
  FnOk P w K mg base CX0 1 f fd ["fraction"] (spU K F__law_plain):=by
 refine Fn.okJ sc__law_plain (fun ds S k h=>?_) (fun cdv A outer s H E hr=>⟨_,(ds_onej (dst_retj (d_tupj (da_consj (d_varj 0) (da_consj (d_tupj (da_consj d_intj (da_consj d_intj da_nilj))) da_nilj))))),fun ds S k h=>?_⟩)
 ·obtain⟨_,rfl,_⟩:=h
  rfl
 ·obtain⟨q,rfl,w⟩:=h
  exact⟨few,few,w⟩
def F__law_plain_point:DSp:=fun ds S k=>∃ a,ds=[.ref a]/\SOK S a/\∀ x y S',Sz 4 x->Sz 4 y->Dr a S S'->k (PP x y) S'
theorem sc__law_plain_point:FnScope ["state"] ["state"] (defScope s__law_plain_point):=scm
theorem ok__law_plain_point (Fn:Fun K "_law_plain_point" "_law_plain_point" s__law_plain_point f fd) (c__law_plain:Own P w K mg base "_law_plain" 1 F__law_plain) (c__law_small:Own P w K mg base "_law_small" 3 F__law_small):
  FnOk P w K mg base CX0 4 f fd ["state"] (spU K F__law_plain_point):=by
 refine Fn.okJ sc__law_plain_point (fun ds S k h=>?_) (fun cdv A outer s H E hr=>⟨_,(ds_onej (dst_retj (d_tupj (da_consj (dq c__law_plain hr (da_consj (dq c__law_small hr (da_consj (d_varj 0) da_nilj)) da_nilj)) (da_consj (dq c__law_plain hr (da_consj (dq c__law_small hr (da_consj (d_varj 0) da_nilj)) da_nilj)) da_nilj))))),fun ds S k h=>?_⟩)
 ·obtain⟨_,rfl,_⟩:=h
  rfl
 ·obtain⟨a,rfl,hS,w⟩:=h
  exact⟨a,rfl,hS,fun x S1 hx d1=>⟨x,rfl,a,rfl,d1.1,fun y S2 hy d2=>⟨y,rfl,few,w x y S2 hx hy (d1.trans d2)⟩⟩⟩
def F__law_above:DSp:=fun ds S k=>∃ a,ds=[.ref a]/\SOK S a/\∀ q S',Sz 4 q->0 < q->Dr a S S'->k (fr q) S'
theorem sc__law_above:FnScope ["state"] ["state"] (defScope s__law_above):=scm
theorem ok__law_above (Fn:Fun K "_law_above" "_law_above" s__law_above f fd) (c__law_ratio:Own P w K mg base "_law_ratio" 2 F__law_ratio) (c__law_take:Own P w K mg base "_law_take" 1 F__law_take):
  FnOk P w K mg base CX0 3 f fd ["state"] (spU K F__law_above):=by
 refine Fn.okJ sc__law_above (fun ds S k h=>?_) (fun cdv A outer s H E hr=>⟨_,(ds_onej (dst_retj (dq c__law_ratio hr (da_consj (d_opj o_add d_intj (dq c__law_take hr (da_consj (d_varj 0) (da_consj d_intj da_nilj)))) (da_consj (d_opj o_add d_intj (d_ixj x_ixE (d_lstj (da_consj d_intj (da_consj d_intj (da_consj (dq c__law_take hr (da_consj (d_varj 0) (da_consj d_intj da_nilj))) da_nilj)))) (dq c__law_take hr (da_consj (d_varj 0) (da_consj d_intj da_nilj))) (fun _ _=>rfl))) da_nilj))))),fun ds S k h=>?_⟩)
 ·obtain⟨_,rfl,_⟩:=h
  rfl
 ·obtain⟨a,rfl,hS,q⟩:=h
  refine⟨a,12,rfl,by decide,by decide,hS,fun r1 S1 h1 h1' d1=>⟨a,6,rfl,by decide,by decide,d1.1,fun r2 S2 h2 h2' d2=>⟨few,fun p hp=>⟨a,3,rfl,by decide,by decide,d2.1.new hp,fun r3 S3 h3 h3' d3=>?_⟩⟩⟩⟩
  have hp3:=d3.2 p _ (d2.1.ne hp) put_same
  obtain⟨c,hc,hm⟩:=atI_mem (ds:=[.int 0,.int 0,.int r2]) h3 h3'
  have hc2:∃ s:Int,c=.int s/\0<=s/\s < 6:=by
   simp only [List.mem_cons,List.not_mem_nil,or_false] at hm
   rcases hm with rfl | rfl | rfl
   ·exact⟨0,rfl,by decide,by decide⟩
   ·exact⟨0,rfl,by decide,by decide⟩
   ·exact⟨r2,rfl,h2,h2'⟩
  obtain⟨s,rfl,s0,s1⟩:=hc2
  have b1:Bt 4 (1+r1):=by unfold Bt; omega
  have b2:Bt 4 (1+s):=by unfold Bt; omega
  exact⟨_,_,hp3,hc,_,_,rfl,by omega,b2.mono (by decide),q _ _ (Sz.divInt b1 b2 (by omega)) (divpos (by omega) (by omega)) (d1.trans (d2.trans ((Dr.new d2.1 hp).trans d3)))⟩
theorem Dr.putN {a p:Addr} {S T:DH} {o:DO} (d:Dr a S T) (hp:S p=none) (n:p≠a):Dr a S (put T p o):=⟨d.1.set n,fun b u nb e=>by
 rw [put_ne (fun z=>by rw [z,hp] at e; cases e)]
 exact d.2 b u nb e⟩
theorem Dr.keep {a p:Addr} {S S':DH} {o:DO} (h:Dr a S S') (n:p≠a) (e:S p=some o):S' p=some o:=h.2 p o n e
def F__law_curve:DSp:=fun ds S k=>∃ (a:Addr) (m n:Int),ds=[.ref a,.int m,.int n]/\m=3/\n=5/\SOK S a/\∀ S' p ep c,Dr a S S'->S p=none->Cv 5 4 3 c->(∀ p∈c,p.2≠0)->S' p=some (dTo (cvD c) ep)->k (.ref p) S'
theorem sc__law_curve:FnScope ["state","most","many","found","turn","number"] ["state","most","many"] (defScope s__law_curve):=scm
theorem ok__law_curve (Fn:Fun K "_law_curve" "_law_curve" s__law_curve f fd) (c__law_take:Own P w K mg base "_law_take" 1 F__law_take) (c__law_small:Own P w K mg base "_law_small" 3 F__law_small) (z_range:mg "range"=none):
  FnOk P w K mg base CX0 4 f fd ["state","most","many"] (spU K F__law_curve):=by
 refine Fn.okJ sc__law_curve (fun ds S k h=>?_) (fun cdv A outer s H E hr=>⟨_,(ds_consj (dst_setj (i:=3) sc__law_curve.nd d_dnewj) (ds_consj (dst_forRj PassesOwn.never rfl rfl z_range (da_consj (dq c__law_take hr (da_consj (d_varj 0) (da_consj (d_opj o_add (d_varj 2) d_intj) da_nilj))) da_nilj) (dg_namej (i:=4) sc__law_curve.nd) (ds_consj (dst_setj (i:=5) sc__law_curve.nd (dq c__law_small hr (da_consj (d_varj 0) da_nilj))) (ds_onej (dst_ifj (dt_cmpj o_ne (d_ixj x_ixE (d_varj 5) d_intj (fun _ _=>rfl)) d_intj (nomark _)) (ds_onej (dst_asgj (d_varj 5) (dg_subD hr (d_varj 3) (d_tupj (da_consj (dq c__law_take hr (da_consj (d_varj 0) (da_consj (d_opj o_add (d_varj 1) d_intj) da_nilj))) (da_consj (dq c__law_take hr (da_consj (d_varj 0) (da_consj (d_opj o_add (d_varj 1) d_intj) da_nilj))) da_nilj)))))) ds_nilj)))) (ds_onej (dst_retj (d_varj 3))))),fun ds S k h=>?_⟩)
 ·obtain⟨_,_,_,rfl,_⟩:=h
  rfl
 ·obtain⟨a,m,n,rfl,rfl,rfl,hS,w⟩:=h
  intro p hp e0
  have np:p≠a:=hS.ne hp
  refine⟨a,5+1,rfl,by decide,by decide,hS.new hp,fun r1 S1 h1 h1' d1=>⟨⟨by omega,by omega⟩,?_⟩⟩
  refine loop_ix (fun r L S'=>∃ l4 l5 ep n c,L=[some (.ref a),some (.int 3),some (.int 5),some (.ref p),l4,l5]/\Cv n 4 3 c/\(∀ p∈c,p.2≠0)/\r.length+n<=5/\S' p=some (dTo (cvD c) ep)/\Dr a S S') (fun _ _ _ _=>trivial) ?_ ?_ _ _ _ ⟨_,_,e0,0,[],rfl,Cv.nil,fun p h=>(nomatch h),by rw [List.length_map,List.length_range]; omega,d1.keep np put_same,(Dr.new hS hp).trans d1⟩
  ·rintro d r L S' N1 ⟨l4,l5,ep,n,c,rfl,hc,nz0,hl,hh,dd⟩ hN1
   have hl:r.length+1+n<=5:=hl
   refine⟨a,rfl,dd.1,fun x S2 zx d2=>ite_ne (fun h0=>?_) (fun h0=>hN1 _ _ ⟨_,_,ep,n,c,rfl,hc,nz0,by omega,d2.keep np hh,dd.trans d2⟩)⟩
   have x0:x≠0:=fun z=>h0 (by rw [z]; rfl)
   refine⟨a,3+1,rfl,by decide,by decide,d2.1,fun i T3 i0 i1 g3=>⟨a,3+1,rfl,by decide,by decide,g3.1,fun j T4 j0 j1 g4=>⟨few,_,_,[i,j],g4.keep np (g3.keep np (d2.keep np hh)),rfl,by rw [kvD_len]; exact lim (by have:=hc.hl; omega),fun e6=>?_⟩⟩⟩
   obtain⟨c',ec,hc',mm⟩:=hc.put' (i:=i) (j:=j) (x:=x) i0 j0 (by omega) (by omega) zx
   refine hN1 _ _ ⟨_,_,e6,n+1,c',rfl,hc',fun q hq=>?_,by omega,by rw [put_same,ec],(dd.trans (d2.trans (g3.trans g4))).putN hp np⟩
   rcases mm q hq with y | rfl
   ·exact nz0 q y
   ·exact x0
  ·rintro L S' ⟨l4,l5,ep,n,c,rfl,hc,nz0,hl,hh,dd⟩
   exact w S' p ep c dd hp (hc.mono (by have:0+n<=5:=hl; omega) (by decide) (by decide)) nz0 hh
structure Oq (M:Int) (T:Nat) (x:Q):Prop where
 a:∃ t:Int,Bt T t/\(M:Rat)*x.1=t
 b:∃ t:Int,Bt T t/\(M:Rat)*x.2=t
theorem wsq {M t:Int} {n:Nat} {g:Rat} (M0:0 < M) (hM:Bt n M) (ht:Bt n t) (e:(M:Rat)*g=t):Sz n g:=by
 have r0:(M:Rat)≠0:=fun z=>by
  have:M=0:=Rat.intCast_inj.mp (by rw [z]; rfl)
  omega
 have:g=Rat.divInt t M:=by
  rw [Rat.divInt_eq_div,<- e]
  grind
 rw [this]
 exact Sz.divInt ht hM (by omega)
theorem Oq.sq {M:Int} {T n:Nat} {x:Q} (h:Oq M T x) (M0:0 < M) (bM:Bt n M) (hT:T<=n):Sq n x:=by
 obtain⟨⟨t1,b1,e1⟩,⟨t2,b2,e2⟩⟩:=h
 exact⟨wsq M0 bM (b1.mono hT) e1,wsq M0 bM (b2.mono hT) e2⟩
theorem Oq.mono {M:Int} {T T':Nat} {x:Q} (h:Oq M T x) (hT:T<=T'):Oq M T' x:=by
 obtain⟨⟨t1,b1,e1⟩,⟨t2,b2,e2⟩⟩:=h
 exact⟨⟨t1,b1.mono hT,e1⟩,⟨t2,b2.mono hT,e2⟩⟩
theorem Oq.mul {M M' u:Int} {T T':Nat} {x y:Q} (hu:Bt 7 u) (h:Oq M T x) (h':Oq M' T' y):Oq (M*M') (T+T'+8) (qm (u:Rat) x y):=by
 obtain⟨⟨t1,b1,e1⟩,⟨t2,b2,e2⟩⟩:=h
 obtain⟨⟨s1,c1,f1⟩,⟨s2,c2,f2⟩⟩:=h'
 refine⟨⟨t1*s1+t2*s2*u,((b1.mul c1).add ((b2.mul c2).mul hu)).mono (by omega),?_⟩,⟨t1*s2+t2*s1,((b1.mul c2).add (b2.mul c1)).mono (by omega),?_⟩⟩
 ·show((M*M':Int):Rat)*(x.1*y.1+x.2*y.2*(u:Rat))=_
  rw [Rat.intCast_add,Rat.intCast_mul,Rat.intCast_mul,Rat.intCast_mul,Rat.intCast_mul,<- e1,<- e2,<- f1,<- f2]
  grind
 ·show((M*M':Int):Rat)*(x.1*y.2+x.2*y.1)=_
  rw [Rat.intCast_add,Rat.intCast_mul,Rat.intCast_mul,Rat.intCast_mul,<- e1,<- e2,<- f1,<- f2]
  grind
theorem Oq.one:Oq 1 1 (1,0):=⟨⟨1,by decide,by show((1:Int):Rat)*1=((1:Int):Rat); grind⟩,⟨0,by decide,by show((1:Int):Rat)*0=((0:Int):Rat); grind⟩⟩
theorem Oq.pw {M u:Int} {T:Nat} {x:Q} (hu:Bt 7 u) (h:Oq M T x):∀ n,Oq (M ^ n) (n*(T+8)+1) (qpw (u:Rat) x n)
 | 0=>by rw [Int.pow_zero]; exact Oq.one.mono (by omega)
 | n+1=>by rw [Int.pow_succ]; exact((Oq.pw hu h n).mul hu h).mono (by rw [Nat.add_mul]; omega)
theorem Oq.up {M M' m:Int} {T s:Nat} {x:Q} (h:Oq M T x) (e:M'=M*m) (hm:Bt s m):Oq M' (T+s) x:=by
 obtain⟨⟨t1,b1,e1⟩,⟨t2,b2,e2⟩⟩:=h
 subst e
 refine⟨⟨t1*m,b1.mul hm,?_⟩,⟨t2*m,b2.mul hm,?_⟩⟩
 ·rw [Rat.intCast_mul,Rat.intCast_mul,<- e1]
  grind
 ·rw [Rat.intCast_mul,Rat.intCast_mul,<- e2]
  grind
theorem Oq.add {M:Int} {T T':Nat} {x y:Q} (h:Oq M T x) (h':Oq M T' y) (le:T'<=T):Oq M (T+1) (qa x y):=by
 obtain⟨⟨t1,b1,e1⟩,⟨t2,b2,e2⟩⟩:=h
 obtain⟨⟨s1,c1,f1⟩,⟨s2,c2,f2⟩⟩:=h'
 refine⟨⟨t1+s1,(b1.add c1).mono (by omega),?_⟩,⟨t2+s2,(b2.add c2).mono (by omega),?_⟩⟩
 ·show(M:Rat)*(x.1+y.1)=_
  rw [Rat.intCast_add,<- e1,<- f1]
  grind
 ·show(M:Rat)*(x.2+y.2)=_
  rw [Rat.intCast_add,<- e2,<- f2]
  grind
theorem Oq.k {M B t:Int} {T s:Nat} {x:Q} {p:Rat} (h:Oq M T x) (ht:Bt s t) (e:(B:Rat)*p=t):Oq (B*M) (s+T) (qk p x):=by
 obtain⟨⟨t1,b1,e1⟩,⟨t2,b2,e2⟩⟩:=h
 refine⟨⟨t*t1,ht.mul b1,?_⟩,⟨t*t2,ht.mul b2,?_⟩⟩
 ·show((B*M:Int):Rat)*(p*x.1)=_
  rw [Rat.intCast_mul,Rat.intCast_mul,<- e1,<- e]
  grind
 ·show((B*M:Int):Rat)*(p*x.2)=_
  rw [Rat.intCast_mul,Rat.intCast_mul,<- e2,<- e]
  grind
theorem Oq.zero {M:Int} {T:Nat}:Oq M T (0,0):=⟨⟨0,by unfold Bt; exact Nat.two_pow_pos T,Rat.mul_zero _⟩,⟨0,by unfold Bt; exact Nat.two_pow_pos T,Rat.mul_zero _⟩⟩
theorem Oq.of {x:Q} (h:Sq 4 x):Oq ((x.1.den:Int)*(x.2.den:Int)) 8 x:=by
 refine⟨⟨x.1.num*(x.2.den:Int),h.a.num.mul h.b.den,?_⟩,⟨(x.1.den:Int)*x.2.num,h.a.den.mul h.b.num,?_⟩⟩
 ·rw [Rat.intCast_mul,Rat.intCast_mul,<- den_mulq x.1]
  grind
 ·rw [Rat.intCast_mul,Rat.intCast_mul,<- den_mulq x.2]
  grind
abbrev mD (x:Q):Int:=(x.1.den:Int)*(x.2.den:Int)
theorem mD_pos (x:Q):0 < mD x:=Int.mul_pos (den_p x.1) (den_p x.2)
theorem mD_bt {x:Q} (h:Sq 4 x):Bt 8 (mD x):=h.a.den.mul h.b.den
abbrev M3 (x y:Q):Int:=mD x ^ 3*mD y ^ 3
theorem M3_pos (x y:Q):0 < M3 x y:=Int.mul_pos (Int.pow_pos (mD_pos x)) (Int.pow_pos (mD_pos y))
theorem M3_bt {x y:Q} (hx:Sq 4 x) (hy:Sq 4 y):Bt 50 (M3 x y):=((bt_pow (mD_bt hx) 3).mul (bt_pow (mD_bt hy) 3)).mono (by decide)
theorem mon_oq {u:Int} {x y:Q} (hu:Bt 7 u) (hx:Sq 4 x) (hy:Sq 4 y) {i j:Int} (i0:0<=i) (i1:i<=3) (j0:0<=j) (j1:j<=3):Oq (M3 x y) 160 (mon (u:Rat) x y [i,j]):=by
 have h1:=(Oq.of hx).pw hu i.toNat
 have h2:=(Oq.of hy).pw hu j.toNat
 have h3:=h1.mul hu h2
 have b1:=bt_pow (mD_bt hx) (3 - i.toNat)
 have b2:=bt_pow (mD_bt hy) (3 - j.toNat)
 have e1:mD x ^ i.toNat*mD x ^ (3 - i.toNat)=mD x ^ 3:=by rw [<- Int.pow_add]; congr 1; omega
 have e2:mD y ^ j.toNat*mD y ^ (3 - j.toNat)=mD y ^ 3:=by rw [<- Int.pow_add]; congr 1; omega
 refine(h3.up (M':=M3 x y) (m:=mD x ^ (3 - i.toNat)*mD y ^ (3 - j.toNat)) ?_ (b1.mul b2)).mono ?_
 ·unfold M3
  rw [<- e1,<- e2]
  grind
 ·have:i.toNat<=3:=by omega
  have:j.toNat<=3:=by omega
  omega
theorem val_oq {u B:Int} {x y:Q} {T:Nat} (hu:Bt 7 u) (hx:Sq 4 x) (hy:Sq 4 y):∀ (c:List (List Int×Rat)) {s:Q} {n:Nat},(∀ p∈c,∃ i j:Int,p.1=[i,j]/\0<=i/\0<=j/\i<=3/\j<=3)->Dn B T c->Oq (B*M3 x y) (T+160+n) s->Oq (B*M3 x y) (T+160+n+c.length) (qval (u:Rat) x y c s)
 | [],_,_,_,_,hs=>hs
 | p::c,s,n,hk,hd,hs=>by
  obtain⟨i,j,ek,i0,j0,i1,j1⟩:=hk p List.mem_cons_self
  obtain⟨t,bt,et⟩:=hd p List.mem_cons_self
  have h1:=(mon_oq hu hx hy i0 i1 j0 j1).k bt et
  rw [<- ek] at h1
  have h2:=hs.add h1 (by omega)
  have:=val_oq hu hx hy c (n:=n+1) (fun q hq=>hk q (List.mem_cons_of_mem _ hq)) (fun q hq=>hd q (List.mem_cons_of_mem _ hq)) h2
  exact this.mono (by rw [List.length_cons]; omega)
theorem dItems_put {S:DH} {a:Addr} {ds:List D}:dItems (put S a (.lst ds)) (.ref a)=some (ds,some a):=by simp only [dItems,put_same]
theorem Cv.lcd {c:List (List Int×Rat)} (h:Cv 5 4 3 c):∃ B,0 < B/\Bt 21 B/\Dn B 25 c:=by
 have z:=lcB_bt (w:=4) (qs:=c.map (·.2)) (m:=1) (n:=1) (by decide) (by decide) (fun q hq=>by
  obtain⟨p,hp,rfl⟩:=List.mem_map.mp hq
  exact h.hz p hp)
 have hl:=h.hl
 have bB:=z.2.mono (show 1+4*(c.map (·.2)).length<=21 by rw [List.length_map]; omega)
 refine⟨lcB 1 (c.map (·.2)),z.1,bB,fun p hp=>⟨topI (lcB 1 (c.map (·.2))) p.2,((h.hz p hp).num.mul (bB.le (HM.natAbs_fdiv_le _ _))).mono (by decide),?_⟩⟩
 exact(topI_eq ((lcB_dvd (m:=1)).2 _ (List.mem_map_of_mem hp))).symm
set_option maxHeartbeats 4000000
theorem eq_bl (b:Bool):DL.eqT 8 (.bl b) (.bl b)=some true:=by cases b <;> rfl
theorem sm3 {m:Nat} {c:List (List Int×Rat)} (h:Cv 5 m 3 c):∀ p∈c,∃ i j:Int,p.1=[i,j]/\0<=i/\0<=j/\i<=3/\j<=3:=fun p hp=>h.sm p hp
theorem sv_of {c:List (List Int×Rat)} {u B:Int} {x y:Q} (hc:Cv 5 4 3 c) (bu:Bt 7 u) (hx:Sq 4 x) (hy:Sq 4 y) (p1:0 < B) (b1:Bt 21 B) (d1:Dn B 25 c):Sq 190 (qval (u:Rat) x y c (0,0)):=
 (val_oq (T:=25) bu hx hy c (s:=(0,0)) (n:=0) (sm3 hc) d1 Oq.zero).sq (Int.mul_pos p1 (M3_pos x y)) ((b1.mul (M3_bt hx hy)).mono (by decide)) (by have:=hc.hl; omega)
theorem sum_cv {c c' g:List (List Int×Rat)} {B B':Int} {m m':Nat} (hc:Cv 5 m 3 c) (hc':Cv 5 m' 3 c') (B0:0 < B) (B0':0 < B') (bB:Bt 30 B) (bB':Bt 30 B') (hd:Dn B 60 c) (hd':Dn B' 60 c') (r:Res (fun k=>gR c k+gR c' k) g):Cv 28 700 6 g/\Dn (B*B') 140 g:=by
 refine res_cv r (c.map (·.1)++c'.map (·.1)) (fun k hk=>?_) (fun k hk=>?_) ?_ (Int.mul_pos B0 B0') ((bB.mul bB').mono (by decide)) (by decide) (fun k=>?_)
 ·rw [List.mem_append]
  by_cases z:gR c k=0
  ·refine .inr (gR_ne fun z'=>hk ?_)
   show gR c k+gR c' k=0
   rw [z,z',Rat.add_zero]
  ·exact .inl (gR_ne z)
 ·rcases List.mem_append.mp hk with m | m
  ·obtain⟨p,hp,rfl⟩:=List.mem_map.mp m
   obtain⟨i,j,e,a1,a2,a3,a4⟩:=hc.sm p hp
   exact⟨i,j,e,a1,a2,by omega,by omega⟩
  ·obtain⟨p,hp,rfl⟩:=List.mem_map.mp m
   obtain⟨i,j,e,a1,a2,a3,a4⟩:=hc'.sm p hp
   exact⟨i,j,e,a1,a2,by omega,by omega⟩
 ·rw [List.length_append,List.length_map,List.length_map]
  have:=hc.hl
  have:=hc'.hl
  omega
 ·obtain⟨t,bt,et⟩:=dn_gR hd k
  obtain⟨t',bt',et'⟩:=dn_gR hd' k
  refine⟨t*B'+B*t',((bt.mul bB').add (bB.mul bt')).mono (by decide),?_⟩
  rw [Rat.intCast_add,Rat.intCast_mul,Rat.intCast_mul,Rat.intCast_mul,<- et,<- et']
  grind
def F__law_values:DSp:=fun ds S k=>∃ (a b:Addr) (c c':List (List Int×Rat)) (e e':Nat) (x y:Q) (u:Int),ds=[.ref a,.ref b,Pq (u:Rat) x y]/\S a=some (dTo (cvD c) e)/\S b=some (dTo (cvD c') e')/\Cv 5 4 3 c/\Cv 5 4 3 c'/\u∈Unders/\Sq 4 x/\Sq 4 y/\∀ S',Ext S S'->k (.bl true) S'
theorem sc__law_values:FnScope ["one","other","point","either","mine","theirs"] ["one","other","point"] (defScope s__law_values):=scm
theorem ok__law_values (Fn:Fun K "_law_values" "_law_values" s__law_values f fd) (c_value_at:Own P w K mg base "value_at" 8 F_value_at) (c_curve_plus:Own P w K mg base "curve_plus" 4 F_curve_plus) (c_root_plus:Own P w K mg base "root_plus" 5 F_root_plus) (c_curve_times:Own P w K mg base "curve_times" 4 F_curve_times) (c_root_times:Own P w K mg base "root_times" 5 F_root_times) (c_on_curve:Own P w K mg base "on_curve" 8 F_on_curve):
  FnOk P w K mg base CX0 9 f fd ["one","other","point"] (spU K F__law_values):=by
 refine Fn.okJ sc__law_values (fun ds S k h=>?_) (fun cdv A outer s H E hr=>⟨_,(ds_consj (dst_parj (i:=4) (j:=5) rfl sc__law_values.nd (by decide) (da_consj (dq c_value_at hr (da_consj (d_varj 0) (da_consj (d_varj 2) da_nilj))) (da_consj (dq c_value_at hr (da_consj (d_varj 1) (da_consj (d_varj 2) da_nilj))) da_nilj))) (ds_consj (dst_ifj (dt_cmpj (o_neX hr) (dq c_value_at hr (da_consj (dq c_curve_plus hr (da_consj (d_varj 0) (da_consj (d_varj 1) da_nilj))) (da_consj (d_varj 2) da_nilj))) (dq c_root_plus hr (da_consj (d_varj 4) (da_consj (d_varj 5) da_nilj))) (nomark _)) (ds_onej (dst_retj d_blj)) ds_nilj) (ds_consj (dst_ifj (dt_cmpj (o_neX hr) (dq c_value_at hr (da_consj (dq c_curve_times hr (da_consj (d_varj 0) (da_consj (d_varj 1) da_nilj))) (da_consj (d_varj 2) da_nilj))) (dq c_root_times hr (da_consj (d_varj 4) (da_consj (d_varj 5) da_nilj))) (nomark _)) (ds_onej (dst_retj d_blj)) ds_nilj) (ds_consj (dst_setj (i:=3) sc__law_values.nd (d_orj (dq c_on_curve hr (da_consj (d_varj 0) (da_consj (d_varj 2) da_nilj))) (d_onej (dq c_on_curve hr (da_consj (d_varj 1) (da_consj (d_varj 2) da_nilj)))))) (ds_onej (dst_retj (d_cmpj (o_eqX hr) (dq c_on_curve hr (da_consj (dq c_curve_times hr (da_consj (d_varj 0) (da_consj (d_varj 1) da_nilj))) (da_consj (d_varj 2) da_nilj))) (d_varj 3) (nomark _)))))))),fun ds S k h=>?_⟩)
 ·obtain⟨_,_,_,_,_,_,_,_,_,rfl,_⟩:=h
  rfl
 ·obtain⟨a,b,c,c',e,e',x,y,u,rfl,ha,hb,hc,hc',hu,hx,hy,w⟩:=h
  obtain⟨_,u0,u1⟩:=unders_no hu
  have bu:Bt 7 u:=by unfold Bt; omega
  have fd:=unders_fd hu
  have su:Sz 7 (u:Rat):=int_sz bu (by decide)
  obtain⟨B1,p1,b1,d1⟩:=hc.lcd
  obtain⟨B2,p2,b2,d2⟩:=hc'.lcd
  have sv1:=sv_of hc bu hx hy p1 b1 d1
  have sv2:=sv_of hc' bu hx hy p2 b2 d2
  have cv1:=hc.mono (n':=28) (m':=900) (b':=6) (by decide) (by decide) (by decide)
  have cv2:=hc'.mono (n':=28) (m':=900) (b':=6) (by decide) (by decide) (by decide)
  have cw1:=hc.mono (n':=10) (m':=900) (b':=3) (by decide) (by decide) (by decide)
  have cw2:=hc'.mono (n':=10) (m':=900) (b':=3) (by decide) (by decide) (by decide)
  have dv1:∀ q∈c,(q.2.den:Int) ∣ B1:=fun q hq=>d1.dv (by omega) _ (List.mem_map_of_mem hq)
  have dv2:∀ q∈c',(q.2.den:Int) ∣ B2:=fun q hq=>d2.dv (by omega) _ (List.mem_map_of_mem hq)
  refine⟨(u:Rat),x,y,4,7,a,c,e,B1,21,rfl,ha,cv1,p1,b1,by decide,dv1,fd.pos,su,by decide,hx,hy,by decide,by decide,by decide,sv1.b.mono (by decide),fun S1 x1=>?_⟩
  refine⟨(u:Rat),x,y,4,7,b,c',e',B2,21,rfl,x1 _ _ hb,cv2,p2,b2,by decide,dv2,fd.pos,su,by decide,hx,hy,by decide,by decide,by decide,sv2.b.mono (by decide),fun S2 x2=>?_⟩
  have X2:=x1.trans x2
  refine⟨a,b,c,c',e,e',rfl,X2 _ _ ha,X2 _ _ hb,cv1,cv2,fun S3 p3 e3 g3 x3 n3 r3 h3=>?_⟩
  obtain⟨cv3,dn3⟩:=sum_cv hc hc' p1 p2 (b1.mono (by decide)) (b2.mono (by decide)) (d1.mono (by decide)) (d2.mono (by decide)) r3
  have ev3:qval (u:Rat) x y g3 (0,0)=qa (qval (u:Rat) x y c (0,0)) (qval (u:Rat) x y c' (0,0)):=by rw [val_of cv3,vφ_congr (fun k=>r3.at_ k),vφ_add,<- val_of cv1,<- val_of cv2]
  refine⟨(u:Rat),x,y,4,7,p3,g3,e3,B1*B2,60,rfl,h3,cv3.mono (by decide) (by decide) (by decide),Int.mul_pos p1 p2,(b1.mul b2).mono (by decide),by decide,(fun q hq=>dn3.dv (by have:=Int.mul_pos p1 p2; omega) _ (List.mem_map_of_mem hq)),fd.pos,su,by decide,hx,hy,by decide,by decide,by decide,by rw [ev3]; exact(sv1.b.add sv2.b).mono (by decide),fun S4 x4=>?_⟩
  rw [ev3]
  refine⟨(u:Rat),_,_,_,_,rfl,fd,sv1.a.mono (by decide),sv2.a.mono (by decide),sv1.b.mono (by decide),sv2.b.mono (by decide),(sv1.b.add sv2.b).mono (by decide),?_⟩
  refine⟨_,eq_two (n:=7) eq_fr' eq_fr',ite_nb (fun z=>by cases z) (fun _=>?_)⟩
  have X4:=X2.trans (x3.trans x4)
  refine⟨a,b,c,c',e,e',B1,B2,rfl,X4 _ _ ha,X4 _ _ hb,cw1,cw2,p1,p2,b1.mono (by decide),b2.mono (by decide),d1.mono (by decide),d2.mono (by decide),fun S5 p5 e5 g5 x5 n5 r5 h5=>?_⟩
  obtain⟨cv5,dn5⟩:=res_mul hc hc' p1 p2 (b1.mono (by decide)) (b2.mono (by decide)) (d1.mono (by decide)) (d2.mono (by decide)) r5
  have ev5:qval (u:Rat) x y g5 (0,0)=qm (u:Rat) (qval (u:Rat) x y c (0,0)) (qval (u:Rat) x y c' (0,0)):=by rw [val_of cv5,vφ_congr (fun k=>r5.at_ k),val_mul hc hc']
  refine⟨(u:Rat),x,y,4,7,p5,g5,e5,B1*B2,60,rfl,h5,cv5.mono (by decide) (by decide) (by decide),Int.mul_pos p1 p2,(b1.mul b2).mono (by decide),by decide,(fun q hq=>dn5.dv (by have:=Int.mul_pos p1 p2; omega) _ (List.mem_map_of_mem hq)),fd.pos,su,by decide,hx,hy,by decide,by decide,by decide,by rw [ev5]; exact((sv1.a.mul sv2.b).add (sv1.b.mul sv2.a)).mono (by decide),fun S6 x6=>?_⟩
  rw [ev5]
  refine⟨(u:Rat),_,_,_,_,rfl,fd,⟨sv1.a.mono (by decide),sv1.b.mono (by decide)⟩,⟨sv2.a.mono (by decide),sv2.b.mono (by decide)⟩,?_⟩
  refine⟨_,eq_two (n:=7) eq_fr' eq_fr',ite_nb (fun z=>by cases z) (fun _=>?_)⟩
  have X6:=X4.trans (x5.trans x6)
  have nn:=qm_nought fd.no (x:=qval (u:Rat) x y c (0,0)) (y:=qval (u:Rat) x y c' (0,0))
  refine⟨(u:Rat),x,y,4,7,a,c,e,B1,21,rfl,X6 _ _ ha,cv1,p1,b1,by decide,dv1,fd.pos,su,by decide,hx,hy,by decide,by decide,fun S7 x7=>ite_dec (fun z1=>?_) (fun z1=>?_)⟩
  ·have X7:=X6.trans x7
   refine⟨a,b,c,c',e,e',B1,B2,rfl,X7 _ _ ha,X7 _ _ hb,cw1,cw2,p1,p2,b1.mono (by decide),b2.mono (by decide),d1.mono (by decide),d2.mono (by decide),fun T1 pt1 et1 gt1 xt1 nt1 rt1 ht1=>?_⟩
   obtain⟨cvt1,dnt1⟩:=res_mul hc hc' p1 p2 (b1.mono (by decide)) (b2.mono (by decide)) (d1.mono (by decide)) (d2.mono (by decide)) rt1
   have evt:qval (u:Rat) x y gt1 (0,0)=qm (u:Rat) (qval (u:Rat) x y c (0,0)) (qval (u:Rat) x y c' (0,0)):=by rw [val_of cvt1,vφ_congr (fun k=>rt1.at_ k),val_mul hc hc']
   refine⟨(u:Rat),x,y,4,7,pt1,gt1,et1,B1*B2,60,rfl,ht1,cvt1.mono (by decide) (by decide) (by decide),Int.mul_pos p1 p2,(b1.mul b2).mono (by decide),by decide,(fun q hq=>dnt1.dv (by have:=Int.mul_pos p1 p2; omega) _ (List.mem_map_of_mem hq)),fd.pos,su,by decide,hx,hy,by decide,by decide,fun T9 x9=>?_⟩
   rw [evt]
   rw [decide_eq_true (nn.mpr (.inl z1))]
   exact⟨true,eq_bl _,w _ (X7.trans (xt1.trans x9))⟩
  ·have X7:=X6.trans x7
   refine⟨(u:Rat),x,y,4,7,b,c',e',B2,21,rfl,X7 _ _ hb,cv2,p2,b2,by decide,dv2,fd.pos,su,by decide,hx,hy,by decide,by decide,fun S8 x8=>?_⟩
   have X8:=X7.trans x8
   refine⟨a,b,c,c',e,e',B1,B2,rfl,X8 _ _ ha,X8 _ _ hb,cw1,cw2,p1,p2,b1.mono (by decide),b2.mono (by decide),d1.mono (by decide),d2.mono (by decide),fun T2 pt2 et2 gt2 xt2 nt2 rt2 ht2=>?_⟩
   obtain⟨cvt2,dnt2⟩:=res_mul hc hc' p1 p2 (b1.mono (by decide)) (b2.mono (by decide)) (d1.mono (by decide)) (d2.mono (by decide)) rt2
   have evt:qval (u:Rat) x y gt2 (0,0)=qm (u:Rat) (qval (u:Rat) x y c (0,0)) (qval (u:Rat) x y c' (0,0)):=by rw [val_of cvt2,vφ_congr (fun k=>rt2.at_ k),val_mul hc hc']
   refine⟨(u:Rat),x,y,4,7,pt2,gt2,et2,B1*B2,60,rfl,ht2,cvt2.mono (by decide) (by decide) (by decide),Int.mul_pos p1 p2,(b1.mul b2).mono (by decide),by decide,(fun q hq=>dnt2.dv (by have:=Int.mul_pos p1 p2; omega) _ (List.mem_map_of_mem hq)),fd.pos,su,by decide,hx,hy,by decide,by decide,fun T9 x9=>?_⟩
   rw [evt]
   have eb:decide (qm (u:Rat) (qval (u:Rat) x y c (0,0)) (qval (u:Rat) x y c' (0,0))=(0,0))=decide (qval (u:Rat) x y c' (0,0)=(0,0)):=decide_eq_decide.mpr ⟨fun h=>(nn.mp h).resolve_left z1,fun h=>nn.mpr (.inr h)⟩
   rw [eb]
   exact⟨true,eq_bl _,w _ (X8.trans (xt2.trans x9))⟩
def F__law_slopes:DSp:=fun ds S k=>∃ (a b:Addr) (c c':List (List Int×Rat)) (e e':Nat),ds=[.ref a,.ref b]/\S a=some (dTo (cvD c) e)/\S b=some (dTo (cvD c') e')/\Cv 5 4 3 c/\Cv 5 4 3 c'/\∀ S',Ext S S'->k (.bl true) S'
theorem sc__law_slopes:FnScope ["one","other","at","due"] ["one","other"] (defScope s__law_slopes):=scm
theorem ok__law_slopes (Fn:Fun K "_law_slopes" "_law_slopes" s__law_slopes f fd) (c_curve_plus:Own P w K mg base "curve_plus" 4 F_curve_plus) (c_curve_times:Own P w K mg base "curve_times" 4 F_curve_times) (c_slope:Own P w K mg base "slope" 4 F_slope) (c_curve_minus:Own P w K mg base "curve_minus" 5 F_curve_minus):
  FnOk P w K mg base CX0 6 f fd ["one","other"] (spU K F__law_slopes):=by
 refine Fn.okJ sc__law_slopes (fun ds S k h=>?_) (fun cdv A outer s H E hr=>⟨_,(ds_consj (dst_forEj PassesOwn.never rfl (d_tupj (da_consj d_intj (da_consj d_intj da_nilj))) (dg_namej (i:=2) sc__law_slopes.nd) (ds_consj (dst_setj (i:=3) sc__law_slopes.nd (dq c_curve_plus hr (da_consj (dq c_curve_times hr (da_consj (dq c_slope hr (da_consj (d_varj 0) (da_consj (d_varj 2) da_nilj))) (da_consj (d_varj 1) da_nilj))) (da_consj (dq c_curve_times hr (da_consj (d_varj 0) (da_consj (dq c_slope hr (da_consj (d_varj 1) (da_consj (d_varj 2) da_nilj))) da_nilj))) da_nilj)))) (ds_onej (dst_ifj (WJ.pt (dw_orj (dt_cmpj (o_neA hr) (dq c_slope hr (da_consj (dq c_curve_times hr (da_consj (d_varj 0) (da_consj (d_varj 1) da_nilj))) (da_consj (d_varj 2) da_nilj))) (d_varj 3) (nomark _)) (dw_or1j (dt_cmpj (o_neA hr) (dq c_curve_minus hr (da_consj (d_varj 3) (da_consj (d_varj 3) da_nilj))) d_dnewj (nomark _))))) (ds_onej (dst_retj d_blj)) ds_nilj)))) (ds_onej (dst_retj d_blj))),fun ds S k h=>?_⟩)
 ·obtain⟨_,_,_,_,_,_,rfl,_⟩:=h
  rfl
 ·obtain⟨a,b,c,c',e,e',rfl,ha,hb,hc,hc',w⟩:=h
  obtain⟨B1,p1,b1,d1⟩:=hc.lcd
  obtain⟨B2,p2,b2,d2⟩:=hc'.lcd
  have cv1:=hc.mono (n':=28) (m':=900) (b':=6) (by decide) (by decide) (by decide)
  have cv2:=hc'.mono (n':=28) (m':=900) (b':=6) (by decide) (by decide) (by decide)
  have cw1:=hc.mono (n':=10) (m':=900) (b':=3) (by decide) (by decide) (by decide)
  have cw2:=hc'.mono (n':=10) (m':=900) (b':=3) (by decide) (by decide) (by decide)
  have X0:=Ext.refl S
  refine⟨few,_,rfl,trivial,?_⟩
  refine⟨a,c,e,false,rfl,(X0 _ _ ha),cv1,fun S1 q1 f1 x1 n1 h1=>?_⟩
  have X1:=X0.trans x1
  refine⟨q1,b,slL false c,c',f1,e',B1,B2,rfl,h1,X1 _ _ hb,(sl_cv hc (by decide)).mono (by decide) (by decide) (by decide),cw2,p1,p2,b1.mono (by decide),b2.mono (by decide),(sl_dn hc (by decide) d1).mono (by decide),d2.mono (by decide),fun S2 q2 f2 g2 x2 n2 r2 h2=>?_⟩
  have X2:=X1.trans x2
  refine⟨b,c',e',false,rfl,X2 _ _ hb,cv2,fun S3 q3 f3 x3 n3 h3=>?_⟩
  have X3:=X2.trans x3
  refine⟨a,q3,c,slL false c',e,f3,B1,B2,rfl,X3 _ _ ha,h3,cw1,(sl_cv hc' (by decide)).mono (by decide) (by decide) (by decide),p1,p2,b1.mono (by decide),b2.mono (by decide),d1.mono (by decide),(sl_dn hc' (by decide) d2).mono (by decide),fun S4 q4 f4 g4 x4 n4 r4 h4=>?_⟩
  have X4:=X3.trans x4
  obtain⟨cg2,_⟩:=res_mul (sl_cv (t:=false) hc (by decide)) hc' p1 p2 (b1.mono (by decide)) (b2.mono (by decide)) ((sl_dn hc (by decide) d1).mono (by decide)) (d2.mono (by decide)) r2
  obtain⟨cg4,_⟩:=res_mul hc (sl_cv (t:=false) hc' (by decide)) p1 p2 (b1.mono (by decide)) (b2.mono (by decide)) (d1.mono (by decide)) ((sl_dn hc' (by decide) d2).mono (by decide)) r4
  refine⟨q2,q4,g2,g4,f2,f4,rfl,x4 _ _ (x3 _ _ h2),h4,cg2.mono (by decide) (by decide) (by decide),cg4.mono (by decide) (by decide) (by decide),fun S5 q5 f5 g5 x5 n5 r5 h5=>?_⟩
  have X5:=X4.trans x5
  refine⟨a,b,c,c',e,e',B1,B2,rfl,X5 _ _ ha,X5 _ _ hb,cw1,cw2,p1,p2,b1.mono (by decide),b2.mono (by decide),d1.mono (by decide),d2.mono (by decide),fun S6 q6 f6 g6 x6 n6 r6 h6=>?_⟩
  obtain⟨cg6,_⟩:=res_mul hc hc' p1 p2 (b1.mono (by decide)) (b2.mono (by decide)) (d1.mono (by decide)) (d2.mono (by decide)) r6
  refine⟨q6,g6,f6,false,rfl,h6,cg6.mono (by decide) (by decide) (by decide),fun S7 q7 f7 x7 n7 h7=>?_⟩
  have X7:=X5.trans (x6.trans x7)
  have h57:=x7 _ _ (x6 _ _ h5)
  have rs:=sl_res (t:=false) cg6 r6.n0
  have e6:gR g6=fun k=>mulF c c' k:=funext fun k=>r6.at_ k
  rw [e6] at rs
  have rs5:Res (dφ false fun k=>mulF c c' k) g5:=r5.congr fun k=>by rw [show gR g2 k=_ from r2.at_ k,show gR g4 k=_ from r4.at_ k,sl_mul hc hc']
  have cs:=sl_cv (t:=false) cg6 (by decide)
  have cg5:Cv 28 705 6 g5:=⟨rs5.nd,by rw [(rs5.alike rs).1]; exact cs.hl,fun p hp=>cs.sm p ((rs.alike rs5).2 p hp),fun p hp=>cs.hz p ((rs.alike rs5).2 p hp)⟩
  refine .inl ⟨_,_,_,_,true,h7,h57,res_eqr rs rs5,iteF ?_⟩
  refine⟨q5,q5,g5,g5,f5,f5,rfl,h57,h57,cg5.mono (by decide) (by decide) (by decide),cg5.mono (by decide) (by decide) (by decide),fun S8 q8 f8 g8 x8 n8 r8 h8=>?_⟩
  have g80:g8=[]:=by
   cases g8 with
   | nil=>rfl
   | cons p g8=>
    obtain⟨m,e⟩:=r8.mem.mp (List.mem_cons_self (a:=p) (l:=g8))
    exact absurd (by rw [<- e]; show gR g5 p.1 - gR g5 p.1=0; grind) m
  subst g80
  refine fun q9 hq9 f9=>.inl ⟨_,_,_,_,true,put_keep hq9 h8,put_same,.inr ⟨rfl,rfl⟩,iteF ?_⟩
  have X9:Ext S (put S8 q9 (dTo [] f9)):=(X7.trans x8).trans (Ext.new hq9)
  have X0:=X9
  refine⟨trivial,?_⟩
  clear X1 X2 X3 X4 X5 X7
  refine⟨a,c,e,true,rfl,(X0 _ _ ha),cv1,fun S1 q1 f1 x1 n1 h1=>?_⟩
  have X1:=X0.trans x1
  refine⟨q1,b,slL true c,c',f1,e',B1,B2,rfl,h1,X1 _ _ hb,(sl_cv hc (by decide)).mono (by decide) (by decide) (by decide),cw2,p1,p2,b1.mono (by decide),b2.mono (by decide),(sl_dn hc (by decide) d1).mono (by decide),d2.mono (by decide),fun S2 q2 f2 g2 x2 n2 r2 h2=>?_⟩
  have X2:=X1.trans x2
  refine⟨b,c',e',true,rfl,X2 _ _ hb,cv2,fun S3 q3 f3 x3 n3 h3=>?_⟩
  have X3:=X2.trans x3
  refine⟨a,q3,c,slL true c',e,f3,B1,B2,rfl,X3 _ _ ha,h3,cw1,(sl_cv hc' (by decide)).mono (by decide) (by decide) (by decide),p1,p2,b1.mono (by decide),b2.mono (by decide),d1.mono (by decide),(sl_dn hc' (by decide) d2).mono (by decide),fun S4 q4 f4 g4 x4 n4 r4 h4=>?_⟩
  have X4:=X3.trans x4
  obtain⟨cg2,_⟩:=res_mul (sl_cv (t:=true) hc (by decide)) hc' p1 p2 (b1.mono (by decide)) (b2.mono (by decide)) ((sl_dn hc (by decide) d1).mono (by decide)) (d2.mono (by decide)) r2
  obtain⟨cg4,_⟩:=res_mul hc (sl_cv (t:=true) hc' (by decide)) p1 p2 (b1.mono (by decide)) (b2.mono (by decide)) (d1.mono (by decide)) ((sl_dn hc' (by decide) d2).mono (by decide)) r4
  refine⟨q2,q4,g2,g4,f2,f4,rfl,x4 _ _ (x3 _ _ h2),h4,cg2.mono (by decide) (by decide) (by decide),cg4.mono (by decide) (by decide) (by decide),fun S5 q5 f5 g5 x5 n5 r5 h5=>?_⟩
  have X5:=X4.trans x5
  refine⟨a,b,c,c',e,e',B1,B2,rfl,X5 _ _ ha,X5 _ _ hb,cw1,cw2,p1,p2,b1.mono (by decide),b2.mono (by decide),d1.mono (by decide),d2.mono (by decide),fun S6 q6 f6 g6 x6 n6 r6 h6=>?_⟩
  obtain⟨cg6,_⟩:=res_mul hc hc' p1 p2 (b1.mono (by decide)) (b2.mono (by decide)) (d1.mono (by decide)) (d2.mono (by decide)) r6
  refine⟨q6,g6,f6,true,rfl,h6,cg6.mono (by decide) (by decide) (by decide),fun S7 q7 f7 x7 n7 h7=>?_⟩
  have X7:=X5.trans (x6.trans x7)
  have h57:=x7 _ _ (x6 _ _ h5)
  have rs:=sl_res (t:=true) cg6 r6.n0
  have e6:gR g6=fun k=>mulF c c' k:=funext fun k=>r6.at_ k
  rw [e6] at rs
  have rs5:Res (dφ true fun k=>mulF c c' k) g5:=r5.congr fun k=>by rw [show gR g2 k=_ from r2.at_ k,show gR g4 k=_ from r4.at_ k,sl_mul hc hc']
  have cs:=sl_cv (t:=true) cg6 (by decide)
  have cg5:Cv 28 705 6 g5:=⟨rs5.nd,by rw [(rs5.alike rs).1]; exact cs.hl,fun p hp=>cs.sm p ((rs.alike rs5).2 p hp),fun p hp=>cs.hz p ((rs.alike rs5).2 p hp)⟩
  refine .inl ⟨_,_,_,_,true,h7,h57,res_eqr rs rs5,iteF ?_⟩
  refine⟨q5,q5,g5,g5,f5,f5,rfl,h57,h57,cg5.mono (by decide) (by decide) (by decide),cg5.mono (by decide) (by decide) (by decide),fun S8 q8 f8 g8 x8 n8 r8 h8=>?_⟩
  have g80:g8=[]:=by
   cases g8 with
   | nil=>rfl
   | cons p g8=>
    obtain⟨m,e⟩:=r8.mem.mp (List.mem_cons_self (a:=p) (l:=g8))
    exact absurd (by rw [<- e]; show gR g5 p.1 - gR g5 p.1=0; grind) m
  subst g80
  refine fun q9 hq9 f9=>.inl ⟨_,_,_,_,true,put_keep hq9 h8,put_same,.inr ⟨rfl,rfl⟩,iteF ?_⟩
  have X9:Ext S (put S8 q9 (dTo [] f9)):=(X7.trans x8).trans (Ext.new hq9)
  exact⟨trivial,w _ X9⟩
def F__law_normals:DSp:=fun ds S k=>∃ (a:Addr) (c:List (List Int×Rat)) (ep:Nat) (x y:Q) (u:Int) (t:Rat),ds=[.ref a,Pq (u:Rat) x y,fr t]/\S a=some (dTo (cvD c) ep)/\Cv 5 4 3 c/\(∀ p∈c,p.2≠0)/\u∈Unders/\Sq 4 x/\Sq 4 y/\Sz 4 t/\∀ S',Ext S S'->k (.bl true) S'
theorem sc__law_normals:FnScope ["curve","point","by","found"] ["curve","point","by"] (defScope s__law_normals):=scm
theorem ok__law_normals (Fn:Fun K "_law_normals" "_law_normals" s__law_normals f fd) (c_normal:Own P w K mg base "normal" 4 F_normal) (c_curve_grown:Own P w K mg base "curve_grown" 4 F_curve_grown) (c_on_curve:Own P w K mg base "on_curve" 8 F_on_curve):
  FnOk P w K mg base CX0 9 f fd ["curve","point","by"] (spU K F__law_normals):=by
 refine Fn.okJ sc__law_normals (fun ds S k h=>?_) (fun cdv A outer s H E hr=>⟨_,(ds_consj (dst_ifj (WJ.pt (dw_orj (dt_cmpj (o_eqDD hr) (d_varj 0) d_dnewj (nomark _)) (dw_or1j (dt_cmpj (o_eqA hr) (d_ixj x_ixE (d_varj 2) d_intj (fun _ _=>rfl)) d_intj (nomark _))))) (ds_onej (dst_retj d_blj)) ds_nilj) (ds_consj (dst_setj (i:=3) sc__law_normals.nd (dq c_normal hr (da_consj (d_varj 0) da_nilj))) (ds_consj (dst_ifj (WJ.pt (dw_orj (dt_cmpj (o_neA hr) (dq c_normal hr (da_consj (d_varj 3) da_nilj)) (d_varj 3) (nomark _)) (dw_or1j (dt_cmpj (o_neA hr) (dq c_normal hr (da_consj (dq c_curve_grown hr (da_consj (d_varj 0) (da_consj (d_varj 2) da_nilj))) da_nilj)) (d_varj 3) (nomark _))))) (ds_onej (dst_retj d_blj)) ds_nilj) (ds_onej (dst_retj (d_cmpj (o_eqA hr) (dq c_on_curve hr (da_consj (d_varj 3) (da_consj (d_varj 1) da_nilj))) (dq c_on_curve hr (da_consj (d_varj 0) (da_consj (d_varj 1) da_nilj))) (nomark _))))))),fun ds S k h=>?_⟩)
 ·obtain⟨_,_,_,_,_,_,_,rfl,_⟩:=h
  rfl
 ·obtain⟨a,c,ep,x,y,u,t,rfl,ha,hc,n0,hu,hx,hy,ht,w⟩:=h
  obtain⟨_,u0,u1⟩:=unders_no hu
  have bu:Bt 7 u:=by unfold Bt; omega
  have fd:=unders_fd hu
  have su:Sz 7 (u:Rat):=int_sz bu (by decide)
  obtain⟨B1,p1,b1,d1⟩:=hc.lcd
  have cv1:=hc.mono (n':=28) (m':=900) (b':=6) (by decide) (by decide) (by decide)
  have dv1:∀ q∈c,(q.2.den:Int) ∣ B1:=fun q hq=>d1.dv (by omega) _ (List.mem_map_of_mem hq)
  refine fun q0 hq0 f0=>?_
  have x0:Ext S (put S q0 (dTo [] f0)):=Ext.new hq0
  have ha0:=x0 _ _ ha
  have hq:put S q0 (dTo [] f0) q0=some (dTo [] f0):=put_same
  generalize put S q0 (dTo [] f0)=S0 at x0 ha0 hq ⊢
  by_cases hne:c=[]
  ·subst hne
   exact⟨_,_,_,_,true,ha0,hq,.inr ⟨rfl,rfl⟩,ite_b (fun _=>w _ x0) (fun z=>by cases z)⟩
  refine⟨_,_,_,_,false,ha0,hq,.inl ⟨by rw [kvD_len]; exact fun z=>hne (List.length_eq_zero_iff.mp z),rfl⟩,ite_b (fun z=>by cases z) (fun _=>?_)⟩
  refine⟨_,eq_int,ite_b (fun _=>w _ x0) (fun tz=>?_)⟩
  have t0:t≠0:=fun z=>by rw [z] at tz; cases tz
  have two:∀ p∈c,∃ i j,p.1=[i,j]:=fun p hp=>let ⟨i,j,e,_⟩:=hc.sm p hp; ⟨i,j,e⟩
  have hl:=hc.hl
  refine⟨a,c,ep,B1,rfl,ha0,hc.nd,by omega,hne,two,n0,p1,b1.mono (by decide),d1.mono (by decide),fun S2 p2 e2 ns x2 hn h2=>?_⟩
  have cvn:=nrm_cv hn cv1 (by decide) p1 d1 (by decide)
  have h2':S2 p2=some (dTo (cvD (cvN ns)) e2):=by rw [<- nm_cv]; exact h2
  obtain⟨τ,τ0,f1,f2⟩:=hn.sc
  have kl:(cvN ns).length=c.length:=by
   have:=congrArg List.length (show (cvN ns).map (·.1)=c.map (·.1) by rw [cvN_keys,hn.keys])
   rw [List.length_map,List.length_map] at this
   exact this
  have two2:∀ p∈cvN ns,∃ i j,p.1=[i,j]:=fun p hp=>let ⟨i,j,e,_⟩:=cvn.sm p hp; ⟨i,j,e⟩
  have mm:∀ p∈c,(p.1,τ*p.2)∈cvN ns:=fun p hp=>by
   obtain⟨n,hm,e⟩:=f2 p hp
   rw [<- e]
   exact cvN_mem hm
  have mm':∀ p∈cvN ns,∃ q,(p.1,q)∈c/\p.2=τ*q:=fun p hp=>by
   obtain⟨r,hr,rfl⟩:=List.mem_map.mp hp
   exact f1 r hr
  have nn0:∀ p∈cvN ns,p.2≠0:=fun p hp=>by
   obtain⟨q,hm,e⟩:=mm' p hp
   have:=n0 _ hm
   rw [e]
   grind
  have dn2:Dn 1 25 (cvN ns):=fun p hp=>by
   obtain⟨r,hr,rfl⟩:=List.mem_map.mp hp
   exact⟨r.2,nrm_bt hn p1 d1 r hr,by show((1:Int):Rat)*(r.2:Rat)=_; grind⟩
  refine⟨p2,cvN ns,e2,1,rfl,h2',cvn.nd,by omega,fun z=>hne (List.length_eq_zero_iff.mp (by rw [<- kl,z]; rfl)),two2,nn0,by decide,by decide,dn2.mono (by decide),fun S3 p3 e3 ns3 x3 hn3 h3=>?_⟩
  refine .inl ⟨_,_,_,_,true,h3,x3 _ _ h2,nrm_eqr hn hn3 τ0 two two2 mm mm' hc.nd cvn.nd,iteF ?_⟩
  have X3:=x0.trans (x2.trans x3)
  refine⟨a,c,ep,t,rfl,X3 _ _ ha,cv1,ht.mono (by decide),fun S4 p4 e4 g4 x4 n4 r4 cv4 h4=>?_⟩
  have m4:∀ p∈c,(p.1,t*p.2)∈g4:=fun p hp=>by
   have v0:=n0 p hp
   have e1:gR c p.1=p.2:=gA_mem hc.nd hp
   exact r4.mem.mpr ⟨by show t*p.2≠0; grind,by show gR c p.1*t=t*p.2; rw [e1,Rat.mul_comm]⟩
  have m4':∀ p∈g4,∃ q,(p.1,q)∈c/\p.2=t*q:=fun p hp=>by
   obtain⟨m,e⟩:=r4.mem.mp hp
   have e:gR c p.1*t=p.2:=e
   have g0:gR c p.1≠0:=fun z=>m (by rw [<- e,z,Rat.zero_mul])
   obtain⟨q,hq,eq⟩:=List.mem_map.mp (gR_ne g0)
   have e1:gR c q.1=q.2:=gA_mem hc.nd hq
   exact⟨q.2,by rw [<- eq]; exact hq,by rw [<- e,<- eq,e1,Rat.mul_comm]⟩
  have g4n:g4≠[]:=fun z=>by
   cases c with
   | nil=>exact hne rfl
   | cons p c=>
    have:=m4 p List.mem_cons_self
    rw [z] at this
    cases this
  have dn4:Dn (B1*(t.den:Int)) 60 g4:=fun p hp=>by
   obtain⟨q,hm,e⟩:=m4' p hp
   obtain⟨s,bs,es⟩:=d1 _ hm
   have es:(B1:Rat)*q=s:=es
   refine⟨s*t.num,(bs.mul ht.num).mono (by decide),?_⟩
   rw [Rat.intCast_mul,Rat.intCast_mul,<- es,e,<- den_mulq t]
   grind
  have l4:=cv4.hl
  refine⟨p4,g4,e4,B1*(t.den:Int),rfl,h4,r4.nd,by omega,g4n,r4.two,r4.n0,Int.mul_pos p1 (den_p t),(b1.mul ht.den).mono (by decide),dn4.mono (by decide),fun S5 p5 e5 ns5 x5 hn5 h5=>?_⟩
  refine .inl ⟨_,_,_,_,true,h5,x5 _ _ (x4 _ _ (x3 _ _ h2)),nrm_eqr hn hn5 t0 two r4.two m4 m4' hc.nd r4.nd,iteF ?_⟩
  have X5:=X3.trans (x4.trans x5)
  obtain⟨σ,σ0,ev⟩:=nrm_val hn cv1 cvn (u:Rat) x y
  refine⟨(u:Rat),x,y,4,7,p2,cvN ns,e2,1,1,rfl,x5 _ _ (x4 _ _ (x3 _ _ h2')),cvn,(by decide),(by decide),by decide,cvN_dv,fd.pos,su,by decide,hx,hy,by decide,by decide,fun S6 x6=>?_⟩
  refine⟨(u:Rat),x,y,4,7,a,c,ep,B1,21,rfl,x6 _ _ (X5 _ _ ha),cv1,p1,b1,by decide,dv1,fd.pos,su,by decide,hx,hy,by decide,by decide,fun S7 x7=>?_⟩
  have eb:decide (qval (u:Rat) x y (cvN ns) (0,0)=(0,0))=decide (qval (u:Rat) x y c (0,0)=(0,0)):=decide_eq_decide.mpr (by rw [ev]; exact qk_nought σ0)
  rw [eb]
  exact⟨true,eq_bl _,w _ (X5.trans (x6.trans x7))⟩
set_option maxHeartbeats 4000000
theorem sok_ext {S S':DH} {a:Addr} (h:SOK S a) (x:Ext S S'):SOK S' a:=by
 obtain⟨n,b,e,w⟩:=h
 exact⟨n,b,x _ _ e,w⟩
theorem PP_eq {x y:Rat}:PP x y=Pq 2 (qo x) (qo y):=by
 unfold PP Pq qo
 rw [<- plain_as,<- plain_as]
theorem wy_sq {κ:Bool} {X:Q} (h:Wy κ 830 250 10 X):Sq 830 X:=by
 cases κ with
 | false=>exact⟨h.1.mono (by decide),h.2.mono (by decide)⟩
 | true=>exact⟨h.2,by rw [h.1]; exact Sz.zero.mono (by decide)⟩
theorem lnP_neg {x y z v:Rat}:∀ p∈nz (lnP x y z v),(p.1,-1*p.2)∈nz (lnP z v x y):=fun p hp=>by
 obtain⟨hm,h0⟩:=nz_mem.mp hp
 refine nz_mem.mpr ⟨?_,by show -1*p.2≠0; grind⟩
 simp only [List.mem_cons,List.not_mem_nil,or_false] at hm ⊢
 rcases hm with rfl | rfl | rfl
 ·exact .inl (Prod.ext rfl (by show -1*-(v - y)=-(y - v); grind))
 ·exact .inr (.inl (Prod.ext rfl (by show -1*(z - x)=x - z; grind)))
 ·exact .inr (.inr (Prod.ext rfl (by show -1*-(x*-(v - y)+y*(z - x))=-(z*-(y - v)+v*(x - z)); grind)))
theorem eq_pp {x y z v:Rat}:eqT 8 (PP x y) (PP z v)=some (decide (x=z) && decide (y=v)):=by
 have:=eq_two (n:=7) (eq_two (n:=6) (eq_fr (n:=5) (p:=x) (q:=z)) (eq_fr' (n:=5) (q:=0))) (eq_two (n:=6) (eq_fr (n:=5) (p:=y) (q:=v)) (eq_fr' (n:=5) (q:=0)))
 rw [Bool.and_true,Bool.and_true] at this
 exact this
theorem unlike_sq {x y z v:Rat} (h:(decide (x=z) && decide (y=v))=false):(z - x)*(z - x)+(v - y)*(v - y)≠0:=fun e=>by
 have s1:0<=(z - x)*(z - x):=by
  rw [<- ab_sq]
  exact Rat.mul_nonneg (ab_nn _) (ab_nn _)
 have s2:0<=(v - y)*(v - y):=by
  rw [<- ab_sq]
  exact Rat.mul_nonneg (ab_nn _) (ab_nn _)
 have z1:(z - x)*(z - x)=0:=by grind
 have z2:(v - y)*(v - y)=0:=by grind
 have e1:x=z:=by grind
 have e2:y=v:=by grind
 rw [decide_eq_true e1,decide_eq_true e2] at h
 cases h
def F_law:DSp:=fun ds _ k=>∃ ns:List Int,ds=[.rl (List.map D.int ns)]/\ns.length<=63/\∀ S',k (.bl true) S'
theorem sc_law:FnScope ["script","k","state","under","point","square","one","other","first","second","middle","line","meet"] ["script"] (defScope s_law):=scm
theorem ok_law (Fn:Fun K "law" "law" s_law f fd) (c__law_state:Own P w K mg base "_law_state" 2 F__law_state) (c__law_open:Own P w K mg base "_law_open" 2 F__law_open) (c__law_curve:Own P w K mg base "_law_curve" 4 F__law_curve) (c__law_as_point:Own P w K mg base "_law_as_point" 5 F__law_as_point) (c__law_both_point:Own P w K mg base "_law_both_point" 5 F__law_both_point) (c__law_slopes:Own P w K mg base "_law_slopes" 6 F__law_slopes) (c__law_values:Own P w K mg base "_law_values" 9 F__law_values) (c__law_normals:Own P w K mg base "_law_normals" 9 F__law_normals) (c__law_small:Own P w K mg base "_law_small" 3 F__law_small) (c__law_plain_point:Own P w K mg base "_law_plain_point" 4 F__law_plain_point) (c__law_above:Own P w K mg base "_law_above" 3 F__law_above) (c_line_through:Own P w K mg base "line_through" 6 F_line_through) (c_on_curve:Own P w K mg base "on_curve" 8 F_on_curve) (c_line_meets:Own P w K mg base "line_meets" 7 F_line_meets) (c_circle_about:Own P w K mg base "circle_about" 6 F_circle_about) (z_range:mg "range"=none) (z_max:mg "max"=none) (z_min:mg "min"=none) (z_len:mg "len"=none):
  FnOk P w K mg base CX0 10 f fd ["script"] (spU K F_law):=by
 refine Fn.okJ sc_law (fun ds S k h=>?_) (fun cdv A outer s H E hr=>⟨_,(ds_consj (dst_forRj PassesOwn.never rfl rfl z_range (da_consj (d_callBj b_max rfl z_max bt_max (da_consj d_intj (da_consj (d_callBj b_min rfl z_min bt_min (da_consj (d_callBj b_lenE rfl z_len bt_len (da_consj (d_varj 0) da_nilj)) (da_consj d_intj da_nilj))) da_nilj))) da_nilj) (dg_namej (i:=1) sc_law.nd) (ds_consj (dst_setj (i:=2) sc_law.nd (dq c__law_state hr (da_consj (d_varj 0) (da_consj (d_varj 1) da_nilj)))) (ds_consj (dst_setj (i:=3) sc_law.nd (dq c__law_open hr (da_consj (d_varj 2) da_nilj))) (ds_consj (dst_parj (i:=6) (j:=7) rfl sc_law.nd (by decide) (da_consj (dq c__law_curve hr (da_consj (d_varj 2) (da_consj d_intj (da_consj d_intj da_nilj)))) (da_consj (dq c__law_curve hr (da_consj (d_varj 2) (da_consj d_intj (da_consj d_intj da_nilj)))) da_nilj))) (ds_consj (dst_setj (i:=4) sc_law.nd (dq c__law_as_point hr (da_consj (dq c__law_both_point hr (da_consj (d_varj 2) da_nilj)) (da_consj (d_varj 3) da_nilj)))) (ds_consj (dst_ifj (WJ.pt (dw_orj (dt_notj (dt_valj (dq c__law_values hr (da_consj (d_varj 6) (da_consj (d_varj 7) (da_consj (d_varj 4) da_nilj)))))) (dw_or1j (dt_notj (dt_valj (dq c__law_slopes hr (da_consj (d_varj 6) (da_consj (d_varj 7) da_nilj)))))))) (ds_onej (dst_retj d_blj)) ds_nilj) (ds_consj (dst_ifj (dt_notj (dt_valj (dq c__law_normals hr (da_consj (d_varj 6) (da_consj (d_varj 4) (da_consj (dq c__law_small hr (da_consj (d_varj 2) da_nilj)) da_nilj)))))) (ds_onej (dst_retj d_blj)) ds_nilj) (ds_consj (dst_asgj (d_compRj rfl (compSc (N:=["turn","state"]) (cap:=[none,some 2]) rfl rfl rfl rfl ⟨rfl,trivial⟩ rfl rfl ⟨⟨rfl,.inl rfl,.inl rfl⟩,trivial⟩) rfl z_range (da_consj d_intj da_nilj) (fun _ _ _ _=>(dg_namej (i:=0) (show List.Nodup (["turn","state"]:List Str) from by decide +kernel))) (fun _ _ _ _=>(dq c__law_plain_point hr (da_consj (d_varj 1) da_nilj)))) (dg_seqE (n:=3) rfl (dgs_consj (dg_namej (i:=8) sc_law.nd) (dgs_consj (dg_namej (i:=9) sc_law.nd) (dgs_consj (dg_namej (i:=10) sc_law.nd) dgs_nilj))))) (ds_consj (dst_setj (i:=5) sc_law.nd (dq c__law_above hr (da_consj (d_varj 2) da_nilj))) (ds_onej (dst_ifj (dt_cmpj (o_neA hr) (d_varj 8) (d_varj 9) (nomark _)) (ds_consj (dst_setj (i:=11) sc_law.nd (dq c_line_through hr (da_consj (d_varj 8) (da_consj (d_varj 9) da_nilj)))) (ds_consj (dst_ifj (WJ.pt (dw_orj (dt_notj (dt_valj (dq c_on_curve hr (da_consj (d_varj 11) (da_consj (d_varj 8) da_nilj))))) (dw_orj (dt_notj (dt_valj (dq c_on_curve hr (da_consj (d_varj 11) (da_consj (d_varj 9) da_nilj))))) (dw_or1j (dt_cmpj (o_neA hr) (d_varj 11) (dq c_line_through hr (da_consj (d_varj 9) (da_consj (d_varj 8) da_nilj))) (nomark _)))))) (ds_onej (dst_retj d_blj)) ds_nilj) (ds_onej (dst_forEj PassesOwn.never rfl (dq c_line_meets hr (da_consj (d_varj 8) (da_consj (d_varj 9) (da_consj (d_varj 10) (da_consj (d_varj 5) da_nilj))))) (dg_namej (i:=12) sc_law.nd) (ds_onej (dst_ifj (WJ.pt (dw_orj (dt_notj (dt_valj (dq c_on_curve hr (da_consj (d_varj 11) (da_consj (d_varj 12) da_nilj))))) (dw_or1j (dt_notj (dt_valj (dq c_on_curve hr (da_consj (dq c_circle_about hr (da_consj (d_varj 10) (da_consj (d_varj 5) da_nilj))) (da_consj (d_varj 12) da_nilj)))))))) (ds_onej (dst_retj d_blj)) ds_nilj)))))) ds_nilj))))))))))) (ds_onej (dst_retj d_blj))),fun ds S k h=>?_⟩)
 ·obtain⟨_,rfl,_⟩:=h
  rfl
 ·obtain⟨ns,rfl,hl,w⟩:=h
  have hb:∀ z:Int,0<=z->z<=63->-(2 ^ 62)<=z/\z < 2 ^ 62:=fun z _ _=>by omega
  refine⟨hb _ (by split <;> (try split) <;> omega) (by rw [List.length_map]; split <;> (try split) <;> omega),?_⟩
  refine loop_all (P:=fun d=>∃ i:Int,d=.int i/\0<=i) (fun L _=>∃ r1 r2 r3 r4 r5 r6 r7 r8 r9 r10 r11 r12,L=[some (.rl (List.map D.int ns)),r1,r2,r3,r4,r5,r6,r7,r8,r9,r10,r11,r12]) (fun _ _ _=>trivial) ?_ (fun L S' _=>w S') _ ?_ _ _ ⟨_,_,_,_,_,_,_,_,_,_,_,_,rfl⟩
  ·rintro d L S1 N1 ⟨i,rfl,hi⟩ ⟨r1,r2,r3,r4,r5,r6,r7,r8,r9,r10,r11,r12,rfl⟩ hN
   refine⟨ns,i,rfl,hi,fun p n b hp hnb=>?_⟩
   have hS:SOK (put S1 p (.lst [.int n,.bl b])) p:=⟨n,b,put_same,hnb⟩
   refine⟨p,rfl,hS,fun u S2 hu d2=>⟨p,3,5,rfl,rfl,rfl,d2.1,fun S3 pc ec c d3 nc hc nz0 hh=>⟨p,3,5,rfl,rfl,rfl,d3.1,fun S4 pc' ec' c' d4 nc' hc' nz0' hh'=>⟨p,rfl,d4.1,fun x y S5 hx hy d5=>?_⟩⟩⟩⟩
   obtain⟨_,u0,u1⟩:=unders_no hu
   have bu:Bt 7 u:=by unfold Bt; omega
   have m9:∀ {z:Q},Sq 4 z->Sq 900 z:=fun h=>⟨h.a.mono (by decide),h.b.mono (by decide)⟩
   have npc:pc≠p:=d2.1.ne nc
   have npc':pc'≠p:=d3.1.ne nc'
   have h5:=d5.keep npc (d4.keep npc hh)
   have h5':=d5.keep npc' hh'
   refine⟨x,y,u,rfl,bu,m9 hx,m9 hy,?_⟩
   refine⟨pc,pc',c,c',ec,ec',x,y,u,rfl,h5,h5',hc,hc',hu,hx,hy,fun S6 x6=>iteF ?_⟩
   refine⟨pc,pc',c,c',ec,ec',rfl,x6 _ _ h5,x6 _ _ h5',hc,hc',fun S7 x7=>iteF ?_⟩
   have X7:=x6.trans x7
   refine⟨p,rfl,sok_ext d5.1 X7,fun t S8 ht d8=>?_⟩
   have n8:S7 p≠none:=by obtain⟨_,_,e,_⟩:=sok_ext d5.1 X7; rw [e]; simp
   refine⟨pc,c,ec,x,y,u,t,rfl,d8.keep npc (X7 _ _ h5),hc,nz0,hu,hx,hy,ht,fun S9 x9=>iteF ?_⟩
   have k9:=sok_ext d8.1 x9
   refine⟨⟨by decide,by decide⟩,fun q hq=>?_⟩
   have nq:q≠p:=k9.ne hq
   refine⟨trivial,p,rfl,k9.new hq,fun x1 y1 T1 hx1 hy1 g1=>⟨g1.keep nq put_same,lim (by show 0<=100; decide),?_⟩⟩
   refine⟨trivial,p,rfl,g1.1.set nq,fun x2 y2 T2 hx2 hy2 g2=>⟨g2.keep nq put_same,lim (by show 1<=100; decide),?_⟩⟩
   refine⟨trivial,p,rfl,g2.1.set nq,fun m n' T3 hm hn' g3=>⟨g3.keep nq put_same,lim (by show 2<=100; decide),?_⟩⟩
   refine⟨trivial,([PP x1 y1,PP x2 y2,PP m n'],some q),dItems_put,rfl,rfl,p,rfl,g3.1.set nq,fun sq T4 hsq sq0 g4=>?_⟩
   refine⟨_,eq_pp,ite_nb (fun un=>?_) (fun _=>hN _ _ ⟨_,_,_,_,_,_,_,_,_,_,_,_,rfl⟩)⟩
   have un:=unlike_sq un
   have two0:(0:Rat) < 2:=by decide
   have stwo:Sz 7 (2:Rat):=⟨by decide,by decide⟩
   have sa:=hx2.sub hx1
   have sb:=hy2.sub hy1
   have sr:=((hx1.mul sb.neg).add (hy1.mul sa)).neg
   have lcv:=ln_cv (m:=30) (sb.neg.mono (by decide)) (sa.mono (by decide)) (sr.mono (by decide))
   obtain⟨BL,BL0,bBL,dBL⟩:=dn_of (w:=30) (m:=3) lcv.hz lcv.hl
   refine⟨x1,y1,x2,y2,rfl,hx1,hy1,hx2,hy2,un,fun S10 pl el nl xl hnl hl=>?_⟩
   have cvl:=nrm_cv hnl lcv (by decide) BL0 dBL (by decide)
   have hl':S10 pl=some (dTo (cvD (cvN nl)) el):=by rw [<- nm_cv]; exact hl
   have s4:∀ {z:Rat},Sz 4 z->Sq 4 (qo z):=fun h=>⟨h,Sz.zero.mono (by decide)⟩
   have onl:∀ (v:Rat) (X Y:Q),sideQ v (qo x1) (qo y1) (qo x2) (qo y2) X Y=(0,0)->qval v X Y (cvN nl) (0,0)=(0,0):=fun v X Y h=>by
    obtain⟨t',t0',ev⟩:=nrm_val hnl lcv cvl v X Y
    rw [ev]
    refine(qk_nought t0').mpr ?_
    rw [val_ln,<- h]
    unfold sideQ qs qm qo
    apply Prod.ext <;> dsimp only <;> grind
   have o1:qval 2 (qo x1) (qo y1) (cvN nl) (0,0)=(0,0):=onl _ _ _ (by unfold sideQ qs qm qo; apply Prod.ext <;> dsimp only <;> grind)
   have o2:qval 2 (qo x2) (qo y2) (cvN nl) (0,0)=(0,0):=onl _ _ _ (by unfold sideQ qs qm qo; apply Prod.ext <;> dsimp only <;> grind)
   refine⟨2,qo x1,qo y1,4,7,pl,cvN nl,el,1,1,by rw [PP_eq],hl',cvl,by decide,by decide,by decide,cvN_dv,two0,stwo,by decide,s4 hx1,s4 hy1,by decide,by decide,fun S11 x11=>?_⟩
   rw [decide_eq_true o1]
   refine iteF ?_
   refine⟨2,qo x2,qo y2,4,7,pl,cvN nl,el,1,1,by rw [PP_eq],x11 _ _ hl',cvl,by decide,by decide,by decide,cvN_dv,two0,stwo,by decide,s4 hx2,s4 hy2,by decide,by decide,fun S12 x12=>?_⟩
   rw [decide_eq_true o2]
   refine iteF ?_
   refine⟨x2,y2,x1,y1,rfl,hx2,hy2,hx1,hy1,by grind,fun S13 pk ek nk xk hnk hk=>?_⟩
   refine .inl ⟨_,_,_,_,true,xk _ _ (x12 _ _ (x11 _ _ hl)),hk,nrm_eqr hnk hnl (s:=-1) (by decide) (fun p hp=>two3 p (nz_mem.mp hp).1) (fun p hp=>two3 p (nz_mem.mp hp).1) lnP_neg (fun p hp=>⟨-1*p.2,lnP_neg p hp,by grind⟩) (nd_filter ln3_nd) (nd_filter ln3_nd),iteF ?_⟩
   have hl13:=xk _ _ (x12 _ _ (x11 _ _ hl'))
   refine⟨x1,y1,x2,y2,m,n',sq,rfl,hx1,hy1,hx2,hy2,hm,hn',hsq.mono (by decide),un,fun S14 pm x14 hpm=>⟨(lL x1 y1 x2 y2 m n' sq,some pm),dItems_put,?_⟩⟩
   have hl14:=put_keep (o:=.lst (lL x1 y1 x2 y2 m n' sq)) hpm (x14 _ _ hl13)
   have y14:put S14 pm (.lst (lL x1 y1 x2 y2 m n' sq)) pm=some (.lst (lL x1 y1 x2 y2 m n' sq)):=put_same
   generalize put S14 pm (.lst (lL x1 y1 x2 y2 m n' sq))=S15 at hl14 y14 ⊢
   refine loop_all (P:=fun d=>LP x1 y1 x2 y2 m n' sq d) (fun L S'=>Ext S15 S'/\∃ r12,L=[some (.rl (List.map D.int ns)),some (.int i),some (.ref p),some (.int u),some (Pq u x y),some (fr sq),some (.ref pc),some (.ref pc'),some (PP x1 y1),some (PP x2 y2),some (PP m n'),some (.ref pl),r12]) (fun L S' h=>h.1 _ _ y14) ?_ (fun L S' h=>?_) _ ?_ _ _ ⟨Ext.refl _,_,rfl⟩
   ·rintro d L S16 N2 ⟨κ,v,X,Y,lp⟩ ⟨x16,r12,rfl⟩ hN2
    have fdv:=lp.pt.fd
    have o3:=onl v X Y lp.side
    refine⟨v,X,Y,830,600,pl,cvN nl,el,1,1,by rw [lp.pt.eq],x16 _ _ hl14,cvl,by decide,by decide,by decide,cvN_dv,fdv.pos,fdv.sz,by decide,wy_sq lp.pt.x,wy_sq lp.pt.y,by decide,by decide,fun S17 x17=>?_⟩
    rw [decide_eq_true o3]
    refine iteF ?_
    have ccv:=cr_cv (n:=60) (x:=m) (y:=n') (s:=sq) ⟨by decide,by decide⟩ ((hm.add hm).neg.mono (by decide)) ((hn'.add hn').neg.mono (by decide)) ((((hm.mul hm).add (hn'.mul hn')).sub hsq).mono (by decide))
    obtain⟨BC,BC0,bBC,dBC⟩:=dn_of (w:=60) (m:=5) ccv.hz ccv.hl
    refine⟨m,n',sq,rfl,hm,hn',hsq.mono (by decide),fun S18 pr er nr x18 hnr hr=>?_⟩
    have cvr:=nrm_cv hnr ccv (by decide) BC0 dBC (by decide)
    have hr':S18 pr=some (dTo (cvD (cvN nr)) er):=by rw [<- nm_cv]; exact hr
    have o4:qval v X Y (cvN nr) (0,0)=(0,0):=by
     obtain⟨t',t0',ev⟩:=nrm_val hnr ccv cvr v X Y
     rw [ev]
     refine(qk_nought t0').mpr ?_
     rw [val_cr,lp.sq]
     unfold qs
     apply Prod.ext <;> dsimp only <;> grind
    refine⟨v,X,Y,830,600,pr,cvN nr,er,1,1,by rw [lp.pt.eq],hr',cvr,by decide,by decide,by decide,cvN_dv,fdv.pos,fdv.sz,by decide,wy_sq lp.pt.x,wy_sq lp.pt.y,by decide,by decide,fun S19 x19=>?_⟩
    rw [decide_eq_true o4]
    exact iteF (hN2 _ _ ⟨x16.trans (x17.trans (x18.trans x19)),_,rfl⟩)
   ·obtain⟨_,r12,rfl⟩:=h
    exact hN _ _ ⟨_,_,_,_,_,_,_,_,_,_,_,_,rfl⟩
   ·intro d hd
    rcases lL_cases hx1 hy1 hx2 hy2 hm hn' (hsq.mono (by decide)) sq0 un with ⟨e,_⟩ | ⟨d1,e,lp,_⟩ | ⟨d1,d2,e,lp,lp',_⟩
    ·rw [e] at hd
     cases hd
    ·rw [e] at hd
     rw [List.mem_singleton.mp hd]
     exact lp
    ·rw [e] at hd
     simp only [List.mem_cons,List.not_mem_nil,or_false] at hd
     rcases hd with rfl | rfl
     ·exact lp
     ·exact lp'
  ·intro d hd
   obtain⟨z,_,rfl⟩:=List.mem_map.mp hd
   exact⟨_,rfl,by omega⟩
theorem law_ask (ns:List Int) (h:ns.length<=63):F_law [.rl (List.map D.int ns)] (fun _=>none) (fun d _=>d=.bl true):=⟨ns,rfl,h,fun _=>rfl⟩
end My
def PySem.W.Fast.tw16860545727925348413:Unit:=()
def PySem.W.Fast.tw10699398516929722074:Unit:=()
def PySem.W.Fast.tw4023784057040220850:Unit:=()
def PySem.W.Fast.tw8229438797499242337:Unit:=()
def PySem.W.Fast.tw17433786451845834240:Unit:=()
def PySem.W.Fast.tw7432048675542088013:Unit:=()
def PySem.W.Fast.tw10554765132952419356:Unit:=()
def PySem.W.Fast.tw8901418139486365898:Unit:=()
def PySem.W.Fast.tw5404961309432503238:Unit:=()
def PySem.W.Fast.tw7138502911155151169:Unit:=()
def PySem.W.Fast.tw12546344161433803079:Unit:=()
def PySem.W.Fast.tw1252293317258270890:Unit:=()
def PySem.W.Fast.tw2204087587149063903:Unit:=()
def PySem.W.Fast.tw11695278074942645030:Unit:=()
def PySem.W.Fast.tw14016957746244442182:Unit:=()
def PySem.W.Fast.tw8945915049503794728:Unit:=()
def PySem.W.Fast.tw8530698588309481163:Unit:=()
def PySem.W.Fast.tw9788516825121137809:Unit:=()
namespace My
open PySem PySem.Spec PyProof.Rows L2 DL HM
set_option maxHeartbeats 4000000
theorem all_mk {l:PySem.W.OpenLaw} {w:World} {K:Fg} {h:Heap} {mg:Str->Option Value} {fa:Addr} (X:K.In h) (G:h.Ns mainGlobals mg) (hfa:mg "law"=some (.ref fa))
  {f1 f2 f3 f4 f5 f6 f7 f8 f9 f10 f11 f12 f13 f14 f15 f16 f17 f18 f19 f20 f21 f22 f23 f24 f25 f26 f27 f28 f29 f30 f31 f32 f33 f34 f35 f36 f37 f38 f39 f40 f41 f42 f43 f44 f45 f46 f47 f48 f49 f50 f51 f52 f53 f54 f55 f56 f57 f58 f59 f60 f61 f62 f63 f64 f65 f66 f67 f68 f69 f70 f71:Addr} {od1 an1 od2 an2 od3 an3 od4 an4 od5 an5 od6 an6 od7 an7 od8 an8 od9 an9 od10 an10 od11 an11 od12 an12 od13 an13 od14 an14 od15 an15 od16 an16 od17 an17 od18 an18 od19 an19 od20 an20 od21 an21 od22 an22 od23 an23 od24 an24 od25 an25 od26 an26 od27 an27 od28 an28 od29 an29 od30 an30 od31 an31 od32 an32 od33 an33 od34 an34 od35 an35 od36 an36 od37 an37 od38 an38 od39 an39 od40 an40 od41 an41 od42 an42 od43 an43 od44 an44 od45 an45 od46 an46 od47 an47 od48 an48 od49 an49 od50 an50 od51 an51 od52 an52 od53 an53 od54 an54 od55 an55 od56 an56 od57 an57 od58 an58 od59 an59 od60 an60 od61 an61 od62 an62 od63 an63 od64 an64 od65 an65 od66 an66 od67 an67 od68 an68 od69 an69 od70 an70 od71 an71:Option Addr} {sl1 sl2 sl3 sl4 sl5 sl6 sl7 sl8 sl9 sl10 sl11 sl12 sl13 sl14 sl15 sl16 sl17 sl18 sl19 sl20 sl21 sl22 sl23 sl24 sl25 sl26 sl27 sl28 sl29 sl30 sl31 sl32 sl33 sl34 sl35 sl36 sl37 sl38 sl39 sl40 sl41 sl42 sl43 sl44 sl45 sl46 sl47 sl48 sl49 sl50 sl51 sl52 sl53 sl54 sl55 sl56 sl57 sl58 sl59 sl60 sl61 sl62 sl63 sl64 sl65 sl66 sl67 sl68 sl69 sl70 sl71:Array (Option Value)} {oc1 kV1 dc1 pm1 cd1 ct1 oc2 kV2 dc2 pm2 cd2 ct2 oc3 kV3 dc3 pm3 cd3 ct3 oc4 kV4 dc4 pm4 cd4 ct4 oc5 kV5 dc5 pm5 cd5 ct5 oc6 kV6 dc6 pm6 cd6 ct6 oc7 kV7 dc7 pm7 cd7 ct7 oc8 kV8 dc8 pm8 cd8 ct8 oc9 kV9 dc9 pm9 cd9 ct9 oc10 kV10 dc10 pm10 cd10 ct10 oc11 kV11 dc11 pm11 cd11 ct11 oc12 kV12 dc12 pm12 cd12 ct12 oc13 kV13 dc13 pm13 cd13 ct13 oc14 kV14 dc14 pm14 cd14 ct14 oc15 kV15 dc15 pm15 cd15 ct15 oc16 kV16 dc16 pm16 cd16 ct16 oc17 kV17 dc17 pm17 cd17 ct17 oc18 kV18 dc18 pm18 cd18 ct18 oc19 kV19 dc19 pm19 cd19 ct19 oc20 kV20 dc20 pm20 cd20 ct20 oc21 kV21 dc21 pm21 cd21 ct21 oc22 kV22 dc22 pm22 cd22 ct22 oc23 kV23 dc23 pm23 cd23 ct23 oc24 kV24 dc24 pm24 cd24 ct24 oc25 kV25 dc25 pm25 cd25 ct25 oc26 kV26 dc26 pm26 cd26 ct26 oc27 kV27 dc27 pm27 cd27 ct27 oc28 kV28 dc28 pm28 cd28 ct28 oc29 kV29 dc29 pm29 cd29 ct29 oc30 kV30 dc30 pm30 cd30 ct30 oc31 kV31 dc31 pm31 cd31 ct31 oc32 kV32 dc32 pm32 cd32 ct32 oc33 kV33 dc33 pm33 cd33 ct33 oc34 kV34 dc34 pm34 cd34 ct34 oc35 kV35 dc35 pm35 cd35 ct35 oc36 kV36 dc36 pm36 cd36 ct36 oc37 kV37 dc37 pm37 cd37 ct37 oc38 kV38 dc38 pm38 cd38 ct38 oc39 kV39 dc39 pm39 cd39 ct39 oc40 kV40 dc40 pm40 cd40 ct40 oc41 kV41 dc41 pm41 cd41 ct41 oc42 kV42 dc42 pm42 cd42 ct42 oc43 kV43 dc43 pm43 cd43 ct43 oc44 kV44 dc44 pm44 cd44 ct44 oc45 kV45 dc45 pm45 cd45 ct45 oc46 kV46 dc46 pm46 cd46 ct46 oc47 kV47 dc47 pm47 cd47 ct47 oc48 kV48 dc48 pm48 cd48 ct48 oc49 kV49 dc49 pm49 cd49 ct49 oc50 kV50 dc50 pm50 cd50 ct50 oc51 kV51 dc51 pm51 cd51 ct51 oc52 kV52 dc52 pm52 cd52 ct52 oc53 kV53 dc53 pm53 cd53 ct53 oc54 kV54 dc54 pm54 cd54 ct54 oc55 kV55 dc55 pm55 cd55 ct55 oc56 kV56 dc56 pm56 cd56 ct56 oc57 kV57 dc57 pm57 cd57 ct57 oc58 kV58 dc58 pm58 cd58 ct58 oc59 kV59 dc59 pm59 cd59 ct59 oc60 kV60 dc60 pm60 cd60 ct60 oc61 kV61 dc61 pm61 cd61 ct61 oc62 kV62 dc62 pm62 cd62 ct62 oc63 kV63 dc63 pm63 cd63 ct63 oc64 kV64 dc64 pm64 cd64 ct64 oc65 kV65 dc65 pm65 cd65 ct65 oc66 kV66 dc66 pm66 cd66 ct66 oc67 kV67 dc67 pm67 cd67 ct67 oc68 kV68 dc68 pm68 cd68 ct68 oc69 kV69 dc69 pm69 cd69 ct69 oc70 kV70 dc70 pm70 cd70 ct70 oc71 kV71 dc71 pm71 cd71 ct71:Value}
  {p_NOUGHT:Addr} {od_NOUGHT:Option Addr} {sl_NOUGHT:Array (Option Value)} {n_NOUGHT:Nat} {t0_NOUGHT t1_NOUGHT:Tok}
  {p_ONE:Addr} {od_ONE:Option Addr} {sl_ONE:Array (Option Value)} {n_ONE:Nat} {t0_ONE t1_ONE:Tok}
  {cNoMeet:Addr}
  (a1:PySem.W.nsIn K mainGlobals "common_divisor"=some (some (.ref f1))) (l1:K.lookup f1=some ⟨oc1,od1,.func (PySem.W.fnOf "common_divisor" "common_divisor" (defArgs s_common_divisor) (defBody s_common_divisor) (defScope s_common_divisor) .none kV1 dc1 pm1 an1 cd1 ct1),sl1⟩) (e1:PySem.W.codeIn K cd1 "common_divisor"=true) (k1:PySem.W.keepIn K (.ref f1)=true)
  (a2:PySem.W.nsIn K mainGlobals "ratio"=some (some (.ref f2))) (l2:K.lookup f2=some ⟨oc2,od2,.func (PySem.W.fnOf "ratio" "ratio" (defArgs s_ratio) (defBody s_ratio) (defScope s_ratio) .none kV2 dc2 pm2 an2 cd2 ct2),sl2⟩) (e2:PySem.W.codeIn K cd2 "ratio"=true) (k2:PySem.W.keepIn K (.ref f2)=true)
  (a3:PySem.W.nsIn K mainGlobals "plus"=some (some (.ref f3))) (l3:K.lookup f3=some ⟨oc3,od3,.func (PySem.W.fnOf "plus" "plus" (defArgs s_plus) (defBody s_plus) (defScope s_plus) .none kV3 dc3 pm3 an3 cd3 ct3),sl3⟩) (e3:PySem.W.codeIn K cd3 "plus"=true) (k3:PySem.W.keepIn K (.ref f3)=true)
  (a4:PySem.W.nsIn K mainGlobals "minus"=some (some (.ref f4))) (l4:K.lookup f4=some ⟨oc4,od4,.func (PySem.W.fnOf "minus" "minus" (defArgs s_minus) (defBody s_minus) (defScope s_minus) .none kV4 dc4 pm4 an4 cd4 ct4),sl4⟩) (e4:PySem.W.codeIn K cd4 "minus"=true) (k4:PySem.W.keepIn K (.ref f4)=true)
  (a5:PySem.W.nsIn K mainGlobals "times"=some (some (.ref f5))) (l5:K.lookup f5=some ⟨oc5,od5,.func (PySem.W.fnOf "times" "times" (defArgs s_times) (defBody s_times) (defScope s_times) .none kV5 dc5 pm5 an5 cd5 ct5),sl5⟩) (e5:PySem.W.codeIn K cd5 "times"=true) (k5:PySem.W.keepIn K (.ref f5)=true)
  (a6:PySem.W.nsIn K mainGlobals "over"=some (some (.ref f6))) (l6:K.lookup f6=some ⟨oc6,od6,.func (PySem.W.fnOf "over" "over" (defArgs s_over) (defBody s_over) (defScope s_over) .none kV6 dc6 pm6 an6 cd6 ct6),sl6⟩) (e6:PySem.W.codeIn K cd6 "over"=true) (k6:PySem.W.keepIn K (.ref f6)=true)
  (a7:PySem.W.nsIn K mainGlobals "negative"=some (some (.ref f7))) (l7:K.lookup f7=some ⟨oc7,od7,.func (PySem.W.fnOf "negative" "negative" (defArgs s_negative) (defBody s_negative) (defScope s_negative) .none kV7 dc7 pm7 an7 cd7 ct7),sl7⟩) (e7:PySem.W.codeIn K cd7 "negative"=true) (k7:PySem.W.keepIn K (.ref f7)=true)
  (a8:PySem.W.nsIn K mainGlobals "without_sign"=some (some (.ref f8))) (l8:K.lookup f8=some ⟨oc8,od8,.func (PySem.W.fnOf "without_sign" "without_sign" (defArgs s_without_sign) (defBody s_without_sign) (defScope s_without_sign) .none kV8 dc8 pm8 an8 cd8 ct8),sl8⟩) (e8:PySem.W.codeIn K cd8 "without_sign"=true) (k8:PySem.W.keepIn K (.ref f8)=true)
  (a9:PySem.W.nsIn K mainGlobals "whole_root"=some (some (.ref f9))) (l9:K.lookup f9=some ⟨oc9,od9,.func (PySem.W.fnOf "whole_root" "whole_root" (defArgs s_whole_root) (defBody s_whole_root) (defScope s_whole_root) .none kV9 dc9 pm9 an9 cd9 ct9),sl9⟩) (e9:PySem.W.codeIn K cd9 "whole_root"=true) (k9:PySem.W.keepIn K (.ref f9)=true)
  (a10:PySem.W.nsIn K mainGlobals "square_root_or_none"=some (some (.ref f10))) (l10:K.lookup f10=some ⟨oc10,od10,.func (PySem.W.fnOf "square_root_or_none" "square_root_or_none" (defArgs s_square_root_or_none) (defBody s_square_root_or_none) (defScope s_square_root_or_none) .none kV10 dc10 pm10 an10 cd10 ct10),sl10⟩) (e10:PySem.W.codeIn K cd10 "square_root_or_none"=true) (k10:PySem.W.keepIn K (.ref f10)=true)
  (a11:PySem.W.nsIn K mainGlobals "root_in"=some (some (.ref f11))) (l11:K.lookup f11=some ⟨oc11,od11,.func (PySem.W.fnOf "root_in" "root_in" (defArgs s_root_in) (defBody s_root_in) (defScope s_root_in) .none kV11 dc11 pm11 an11 cd11 ct11),sl11⟩) (e11:PySem.W.codeIn K cd11 "root_in"=true) (k11:PySem.W.keepIn K (.ref f11)=true)
  (a12:PySem.W.nsIn K mainGlobals "is_plain"=some (some (.ref f12))) (l12:K.lookup f12=some ⟨oc12,od12,.func (PySem.W.fnOf "is_plain" "is_plain" (defArgs s_is_plain) (defBody s_is_plain) (defScope s_is_plain) .none kV12 dc12 pm12 an12 cd12 ct12),sl12⟩) (e12:PySem.W.codeIn K cd12 "is_plain"=true) (k12:PySem.W.keepIn K (.ref f12)=true)
  (a13:PySem.W.nsIn K mainGlobals "with_sign_of"=some (some (.ref f13))) (l13:K.lookup f13=some ⟨oc13,od13,.func (PySem.W.fnOf "with_sign_of" "with_sign_of" (defArgs s_with_sign_of) (defBody s_with_sign_of) (defScope s_with_sign_of) .none kV13 dc13 pm13 an13 cd13 ct13),sl13⟩) (e13:PySem.W.codeIn K cd13 "with_sign_of"=true) (k13:PySem.W.keepIn K (.ref f13)=true)
  (a14:PySem.W.nsIn K mainGlobals "made"=some (some (.ref f14))) (l14:K.lookup f14=some ⟨oc14,od14,.func (PySem.W.fnOf "made" "made" (defArgs s_made) (defBody s_made) (defScope s_made) .none kV14 dc14 pm14 an14 cd14 ct14),sl14⟩) (e14:PySem.W.codeIn K cd14 "made"=true) (k14:PySem.W.keepIn K (.ref f14)=true)
  (a15:PySem.W.nsIn K mainGlobals "field_base"=some (some (.ref f15))) (l15:K.lookup f15=some ⟨oc15,od15,.func (PySem.W.fnOf "field_base" "field_base" (defArgs s_field_base) (defBody s_field_base) (defScope s_field_base) .none kV15 dc15 pm15 an15 cd15 ct15),sl15⟩) (e15:PySem.W.codeIn K cd15 "field_base"=true) (k15:PySem.W.keepIn K (.ref f15)=true)
  (a16:PySem.W.nsIn K mainGlobals "share"=some (some (.ref f16))) (l16:K.lookup f16=some ⟨oc16,od16,.func (PySem.W.fnOf "share" "share" (defArgs s_share) (defBody s_share) (defScope s_share) .none kV16 dc16 pm16 an16 cd16 ct16),sl16⟩) (e16:PySem.W.codeIn K cd16 "share"=true) (k16:PySem.W.keepIn K (.ref f16)=true)
  (a17:PySem.W.nsIn K mainGlobals "joined"=some (some (.ref f17))) (l17:K.lookup f17=some ⟨oc17,od17,.func (PySem.W.fnOf "joined" "joined" (defArgs s_joined) (defBody s_joined) (defScope s_joined) .none kV17 dc17 pm17 an17 cd17 ct17),sl17⟩) (e17:PySem.W.codeIn K cd17 "joined"=true) (k17:PySem.W.keepIn K (.ref f17)=true)
  (a18:PySem.W.nsIn K mainGlobals "root_plus"=some (some (.ref f18))) (l18:K.lookup f18=some ⟨oc18,od18,.func (PySem.W.fnOf "root_plus" "root_plus" (defArgs s_root_plus) (defBody s_root_plus) (defScope s_root_plus) .none kV18 dc18 pm18 an18 cd18 ct18),sl18⟩) (e18:PySem.W.codeIn K cd18 "root_plus"=true) (k18:PySem.W.keepIn K (.ref f18)=true)
  (a19:PySem.W.nsIn K mainGlobals "root_times"=some (some (.ref f19))) (l19:K.lookup f19=some ⟨oc19,od19,.func (PySem.W.fnOf "root_times" "root_times" (defArgs s_root_times) (defBody s_root_times) (defScope s_root_times) .none kV19 dc19 pm19 an19 cd19 ct19),sl19⟩) (e19:PySem.W.codeIn K cd19 "root_times"=true) (k19:PySem.W.keepIn K (.ref f19)=true)
  (a20:PySem.W.nsIn K mainGlobals "plain_point"=some (some (.ref f20))) (l20:K.lookup f20=some ⟨oc20,od20,.func (PySem.W.fnOf "plain_point" "plain_point" (defArgs s_plain_point) (defBody s_plain_point) (defScope s_plain_point) .none kV20 dc20 pm20 an20 cd20 ct20),sl20⟩) (e20:PySem.W.codeIn K cd20 "plain_point"=true) (k20:PySem.W.keepIn K (.ref f20)=true)
  (a21:PySem.W.nsIn K mainGlobals "place_of"=some (some (.ref f21))) (l21:K.lookup f21=some ⟨oc21,od21,.func (PySem.W.fnOf "place_of" "place_of" (defArgs s_place_of) (defBody s_place_of) (defScope s_place_of) .none kV21 dc21 pm21 an21 cd21 ct21),sl21⟩) (e21:PySem.W.codeIn K cd21 "place_of"=true) (k21:PySem.W.keepIn K (.ref f21)=true)
  (a22:PySem.W.nsIn K mainGlobals "plain_way"=some (some (.ref f22))) (l22:K.lookup f22=some ⟨oc22,od22,.func (PySem.W.fnOf "plain_way" "plain_way" (defArgs s_plain_way) (defBody s_plain_way) (defScope s_plain_way) .none kV22 dc22 pm22 an22 cd22 ct22),sl22⟩) (e22:PySem.W.codeIn K cd22 "plain_way"=true) (k22:PySem.W.keepIn K (.ref f22)=true)
  (a23:PySem.W.nsIn K mainGlobals "product_of_ways"=some (some (.ref f23))) (l23:K.lookup f23=some ⟨oc23,od23,.func (PySem.W.fnOf "product_of_ways" "product_of_ways" (defArgs s_product_of_ways) (defBody s_product_of_ways) (defScope s_product_of_ways) .none kV23 dc23 pm23 an23 cd23 ct23),sl23⟩) (e23:PySem.W.codeIn K cd23 "product_of_ways"=true) (k23:PySem.W.keepIn K (.ref f23)=true)
  (a24:PySem.W.nsIn K mainGlobals "moved"=some (some (.ref f24))) (l24:K.lookup f24=some ⟨oc24,od24,.func (PySem.W.fnOf "moved" "moved" (defArgs s_moved) (defBody s_moved) (defScope s_moved) .none kV24 dc24 pm24 an24 cd24 ct24),sl24⟩) (e24:PySem.W.codeIn K cd24 "moved"=true) (k24:PySem.W.keepIn K (.ref f24)=true)
  (a25:PySem.W.nsIn K mainGlobals "moved_by_root"=some (some (.ref f25))) (l25:K.lookup f25=some ⟨oc25,od25,.func (PySem.W.fnOf "moved_by_root" "moved_by_root" (defArgs s_moved_by_root) (defBody s_moved_by_root) (defScope s_moved_by_root) .none kV25 dc25 pm25 an25 cd25 ct25),sl25⟩) (e25:PySem.W.codeIn K cd25 "moved_by_root"=true) (k25:PySem.W.keepIn K (.ref f25)=true)
  (a26:PySem.W.nsIn K mainGlobals "both_moved"=some (some (.ref f26))) (l26:K.lookup f26=some ⟨oc26,od26,.func (PySem.W.fnOf "both_moved" "both_moved" (defArgs s_both_moved) (defBody s_both_moved) (defScope s_both_moved) .none kV26 dc26 pm26 an26 cd26 ct26),sl26⟩) (e26:PySem.W.codeIn K cd26 "both_moved"=true) (k26:PySem.W.keepIn K (.ref f26)=true)
  (a27:PySem.W.nsIn K mainGlobals "square_of_unlike"=some (some (.ref f27))) (l27:K.lookup f27=some ⟨oc27,od27,.func (PySem.W.fnOf "square_of_unlike" "square_of_unlike" (defArgs s_square_of_unlike) (defBody s_square_of_unlike) (defScope s_square_of_unlike) .none kV27 dc27 pm27 an27 cd27 ct27),sl27⟩) (e27:PySem.W.codeIn K cd27 "square_of_unlike"=true) (k27:PySem.W.keepIn K (.ref f27)=true)
  (a28:PySem.W.nsIn K mainGlobals "without_noughts"=some (some (.ref f28))) (l28:K.lookup f28=some ⟨oc28,od28,.func (PySem.W.fnOf "without_noughts" "without_noughts" (defArgs s_without_noughts) (defBody s_without_noughts) (defScope s_without_noughts) .none kV28 dc28 pm28 an28 cd28 ct28),sl28⟩) (e28:PySem.W.codeIn K cd28 "without_noughts"=true) (k28:PySem.W.keepIn K (.ref f28)=true)
  (a29:PySem.W.nsIn K mainGlobals "common_multiple"=some (some (.ref f29))) (l29:K.lookup f29=some ⟨oc29,od29,.func (PySem.W.fnOf "common_multiple" "common_multiple" (defArgs s_common_multiple) (defBody s_common_multiple) (defScope s_common_multiple) .none kV29 dc29 pm29 an29 cd29 ct29),sl29⟩) (e29:PySem.W.codeIn K cd29 "common_multiple"=true) (k29:PySem.W.keepIn K (.ref f29)=true)
  (a30:PySem.W.nsIn K mainGlobals "common_bottom"=some (some (.ref f30))) (l30:K.lookup f30=some ⟨oc30,od30,.func (PySem.W.fnOf "common_bottom" "common_bottom" (defArgs s_common_bottom) (defBody s_common_bottom) (defScope s_common_bottom) .none kV30 dc30 pm30 an30 cd30 ct30),sl30⟩) (e30:PySem.W.codeIn K cd30 "common_bottom"=true) (k30:PySem.W.keepIn K (.ref f30)=true)
  (a31:PySem.W.nsIn K mainGlobals "tops_over"=some (some (.ref f31))) (l31:K.lookup f31=some ⟨oc31,od31,.func (PySem.W.fnOf "tops_over" "tops_over" (defArgs s_tops_over) (defBody s_tops_over) (defScope s_tops_over) .none kV31 dc31 pm31 an31 cd31 ct31),sl31⟩) (e31:PySem.W.codeIn K cd31 "tops_over"=true) (k31:PySem.W.keepIn K (.ref f31)=true)
  (a32:PySem.W.nsIn K mainGlobals "normal_of_tops"=some (some (.ref f32))) (l32:K.lookup f32=some ⟨oc32,od32,.func (PySem.W.fnOf "normal_of_tops" "normal_of_tops" (defArgs s_normal_of_tops) (defBody s_normal_of_tops) (defScope s_normal_of_tops) .none kV32 dc32 pm32 an32 cd32 ct32),sl32⟩) (e32:PySem.W.codeIn K cd32 "normal_of_tops"=true) (k32:PySem.W.keepIn K (.ref f32)=true)
  (a33:PySem.W.nsIn K mainGlobals "normal"=some (some (.ref f33))) (l33:K.lookup f33=some ⟨oc33,od33,.func (PySem.W.fnOf "normal" "normal" (defArgs s_normal) (defBody s_normal) (defScope s_normal) .none kV33 dc33 pm33 an33 cd33 ct33),sl33⟩) (e33:PySem.W.codeIn K cd33 "normal"=true) (k33:PySem.W.keepIn K (.ref f33)=true)
  (a34:PySem.W.nsIn K mainGlobals "line_from"=some (some (.ref f34))) (l34:K.lookup f34=some ⟨oc34,od34,.func (PySem.W.fnOf "line_from" "line_from" (defArgs s_line_from) (defBody s_line_from) (defScope s_line_from) .none kV34 dc34 pm34 an34 cd34 ct34),sl34⟩) (e34:PySem.W.codeIn K cd34 "line_from"=true) (k34:PySem.W.keepIn K (.ref f34)=true)
  (a35:PySem.W.nsIn K mainGlobals "round_about"=some (some (.ref f35))) (l35:K.lookup f35=some ⟨oc35,od35,.func (PySem.W.fnOf "round_about" "round_about" (defArgs s_round_about) (defBody s_round_about) (defScope s_round_about) .none kV35 dc35 pm35 an35 cd35 ct35),sl35⟩) (e35:PySem.W.codeIn K cd35 "round_about"=true) (k35:PySem.W.keepIn K (.ref f35)=true)
  (a36:PySem.W.nsIn K mainGlobals "line_through"=some (some (.ref f36))) (l36:K.lookup f36=some ⟨oc36,od36,.func (PySem.W.fnOf "line_through" "line_through" (defArgs s_line_through) (defBody s_line_through) (defScope s_line_through) .none kV36 dc36 pm36 an36 cd36 ct36),sl36⟩) (e36:PySem.W.codeIn K cd36 "line_through"=true) (k36:PySem.W.keepIn K (.ref f36)=true)
  (a37:PySem.W.nsIn K mainGlobals "circle_about"=some (some (.ref f37))) (l37:K.lookup f37=some ⟨oc37,od37,.func (PySem.W.fnOf "circle_about" "circle_about" (defArgs s_circle_about) (defBody s_circle_about) (defScope s_circle_about) .none kV37 dc37 pm37 an37 cd37 ct37),sl37⟩) (e37:PySem.W.codeIn K cd37 "circle_about"=true) (k37:PySem.W.keepIn K (.ref f37)=true)
  (a38:PySem.W.nsIn K mainGlobals "curve_plus"=some (some (.ref f38))) (l38:K.lookup f38=some ⟨oc38,od38,.func (PySem.W.fnOf "curve_plus" "curve_plus" (defArgs s_curve_plus) (defBody s_curve_plus) (defScope s_curve_plus) .none kV38 dc38 pm38 an38 cd38 ct38),sl38⟩) (e38:PySem.W.codeIn K cd38 "curve_plus"=true) (k38:PySem.W.keepIn K (.ref f38)=true)
  (a39:PySem.W.nsIn K mainGlobals "curve_grown"=some (some (.ref f39))) (l39:K.lookup f39=some ⟨oc39,od39,.func (PySem.W.fnOf "curve_grown" "curve_grown" (defArgs s_curve_grown) (defBody s_curve_grown) (defScope s_curve_grown) .none kV39 dc39 pm39 an39 cd39 ct39),sl39⟩) (e39:PySem.W.codeIn K cd39 "curve_grown"=true) (k39:PySem.W.keepIn K (.ref f39)=true)
  (a40:PySem.W.nsIn K mainGlobals "curve_minus"=some (some (.ref f40))) (l40:K.lookup f40=some ⟨oc40,od40,.func (PySem.W.fnOf "curve_minus" "curve_minus" (defArgs s_curve_minus) (defBody s_curve_minus) (defScope s_curve_minus) .none kV40 dc40 pm40 an40 cd40 ct40),sl40⟩) (e40:PySem.W.codeIn K cd40 "curve_minus"=true) (k40:PySem.W.keepIn K (.ref f40)=true)
  (a41:PySem.W.nsIn K mainGlobals "product_of_tops"=some (some (.ref f41))) (l41:K.lookup f41=some ⟨oc41,od41,.func (PySem.W.fnOf "product_of_tops" "product_of_tops" (defArgs s_product_of_tops) (defBody s_product_of_tops) (defScope s_product_of_tops) .none kV41 dc41 pm41 an41 cd41 ct41),sl41⟩) (e41:PySem.W.codeIn K cd41 "product_of_tops"=true) (k41:PySem.W.keepIn K (.ref f41)=true)
  (a42:PySem.W.nsIn K mainGlobals "curve_times"=some (some (.ref f42))) (l42:K.lookup f42=some ⟨oc42,od42,.func (PySem.W.fnOf "curve_times" "curve_times" (defArgs s_curve_times) (defBody s_curve_times) (defScope s_curve_times) .none kV42 dc42 pm42 an42 cd42 ct42),sl42⟩) (e42:PySem.W.codeIn K cd42 "curve_times"=true) (k42:PySem.W.keepIn K (.ref f42)=true)
  (a43:PySem.W.nsIn K mainGlobals "slope"=some (some (.ref f43))) (l43:K.lookup f43=some ⟨oc43,od43,.func (PySem.W.fnOf "slope" "slope" (defArgs s_slope) (defBody s_slope) (defScope s_slope) .none kV43 dc43 pm43 an43 cd43 ct43),sl43⟩) (e43:PySem.W.codeIn K cd43 "slope"=true) (k43:PySem.W.keepIn K (.ref f43)=true)
  (a44:PySem.W.nsIn K mainGlobals "surd_times"=some (some (.ref f44))) (l44:K.lookup f44=some ⟨oc44,od44,.func (PySem.W.fnOf "surd_times" "surd_times" (defArgs s_surd_times) (defBody s_surd_times) (defScope s_surd_times) .none kV44 dc44 pm44 an44 cd44 ct44),sl44⟩) (e44:PySem.W.codeIn K cd44 "surd_times"=true) (k44:PySem.W.keepIn K (.ref f44)=true)
  (a45:PySem.W.nsIn K mainGlobals "surd_power"=some (some (.ref f45))) (l45:K.lookup f45=some ⟨oc45,od45,.func (PySem.W.fnOf "surd_power" "surd_power" (defArgs s_surd_power) (defBody s_surd_power) (defScope s_surd_power) .none kV45 dc45 pm45 an45 cd45 ct45),sl45⟩) (e45:PySem.W.codeIn K cd45 "surd_power"=true) (k45:PySem.W.keepIn K (.ref f45)=true)
  (a46:PySem.W.nsIn K mainGlobals "surd_over"=some (some (.ref f46))) (l46:K.lookup f46=some ⟨oc46,od46,.func (PySem.W.fnOf "surd_over" "surd_over" (defArgs s_surd_over) (defBody s_surd_over) (defScope s_surd_over) .none kV46 dc46 pm46 an46 cd46 ct46),sl46⟩) (e46:PySem.W.codeIn K cd46 "surd_over"=true) (k46:PySem.W.keepIn K (.ref f46)=true)
  (a47:PySem.W.nsIn K mainGlobals "powers_over"=some (some (.ref f47))) (l47:K.lookup f47=some ⟨oc47,od47,.func (PySem.W.fnOf "powers_over" "powers_over" (defArgs s_powers_over) (defBody s_powers_over) (defScope s_powers_over) .none kV47 dc47 pm47 an47 cd47 ct47),sl47⟩) (e47:PySem.W.codeIn K cd47 "powers_over"=true) (k47:PySem.W.keepIn K (.ref f47)=true)
  (a48:PySem.W.nsIn K mainGlobals "side_over"=some (some (.ref f48))) (l48:K.lookup f48=some ⟨oc48,od48,.func (PySem.W.fnOf "side_over" "side_over" (defArgs s_side_over) (defBody s_side_over) (defScope s_side_over) .none kV48 dc48 pm48 an48 cd48 ct48),sl48⟩) (e48:PySem.W.codeIn K cd48 "side_over"=true) (k48:PySem.W.keepIn K (.ref f48)=true)
  (a49:PySem.W.nsIn K mainGlobals "value_at"=some (some (.ref f49))) (l49:K.lookup f49=some ⟨oc49,od49,.func (PySem.W.fnOf "value_at" "value_at" (defArgs s_value_at) (defBody s_value_at) (defScope s_value_at) .none kV49 dc49 pm49 an49 cd49 ct49),sl49⟩) (e49:PySem.W.codeIn K cd49 "value_at"=true) (k49:PySem.W.keepIn K (.ref f49)=true)
  (a50:PySem.W.nsIn K mainGlobals "on_curve"=some (some (.ref f50))) (l50:K.lookup f50=some ⟨oc50,od50,.func (PySem.W.fnOf "on_curve" "on_curve" (defArgs s_on_curve) (defBody s_on_curve) (defScope s_on_curve) .none kV50 dc50 pm50 an50 cd50 ct50),sl50⟩) (e50:PySem.W.codeIn K cd50 "on_curve"=true) (k50:PySem.W.keepIn K (.ref f50)=true)
  (a51:PySem.W.nsIn K mainGlobals "_law_cell_at"=some (some (.ref f51))) (l51:K.lookup f51=some ⟨oc51,od51,.func (PySem.W.fnOf "_law_cell_at" "_law_cell_at" (defArgs s__law_cell_at) (defBody s__law_cell_at) (defScope s__law_cell_at) .none kV51 dc51 pm51 an51 cd51 ct51),sl51⟩) (e51:PySem.W.codeIn K cd51 "_law_cell_at"=true) (k51:PySem.W.keepIn K (.ref f51)=true)
  (a52:PySem.W.nsIn K mainGlobals "_law_state"=some (some (.ref f52))) (l52:K.lookup f52=some ⟨oc52,od52,.func (PySem.W.fnOf "_law_state" "_law_state" (defArgs s__law_state) (defBody s__law_state) (defScope s__law_state) .none kV52 dc52 pm52 an52 cd52 ct52),sl52⟩) (e52:PySem.W.codeIn K cd52 "_law_state"=true) (k52:PySem.W.keepIn K (.ref f52)=true)
  (a53:PySem.W.nsIn K mainGlobals "_law_take"=some (some (.ref f53))) (l53:K.lookup f53=some ⟨oc53,od53,.func (PySem.W.fnOf "_law_take" "_law_take" (defArgs s__law_take) (defBody s__law_take) (defScope s__law_take) .none kV53 dc53 pm53 an53 cd53 ct53),sl53⟩) (e53:PySem.W.codeIn K cd53 "_law_take"=true) (k53:PySem.W.keepIn K (.ref f53)=true)
  (a54:PySem.W.nsIn K mainGlobals "_law_divisor"=some (some (.ref f54))) (l54:K.lookup f54=some ⟨oc54,od54,.func (PySem.W.fnOf "_law_divisor" "_law_divisor" (defArgs s__law_divisor) (defBody s__law_divisor) (defScope s__law_divisor) .none kV54 dc54 pm54 an54 cd54 ct54),sl54⟩) (e54:PySem.W.codeIn K cd54 "_law_divisor"=true) (k54:PySem.W.keepIn K (.ref f54)=true)
  (a55:PySem.W.nsIn K mainGlobals "_law_ratio"=some (some (.ref f55))) (l55:K.lookup f55=some ⟨oc55,od55,.func (PySem.W.fnOf "_law_ratio" "_law_ratio" (defArgs s__law_ratio) (defBody s__law_ratio) (defScope s__law_ratio) .none kV55 dc55 pm55 an55 cd55 ct55),sl55⟩) (e55:PySem.W.codeIn K cd55 "_law_ratio"=true) (k55:PySem.W.keepIn K (.ref f55)=true)
  (a56:PySem.W.nsIn K mainGlobals "_law_times"=some (some (.ref f56))) (l56:K.lookup f56=some ⟨oc56,od56,.func (PySem.W.fnOf "_law_times" "_law_times" (defArgs s__law_times) (defBody s__law_times) (defScope s__law_times) .none kV56 dc56 pm56 an56 cd56 ct56),sl56⟩) (e56:PySem.W.codeIn K cd56 "_law_times"=true) (k56:PySem.W.keepIn K (.ref f56)=true)
  (a57:PySem.W.nsIn K mainGlobals "_law_small"=some (some (.ref f57))) (l57:K.lookup f57=some ⟨oc57,od57,.func (PySem.W.fnOf "_law_small" "_law_small" (defArgs s__law_small) (defBody s__law_small) (defScope s__law_small) .none kV57 dc57 pm57 an57 cd57 ct57),sl57⟩) (e57:PySem.W.codeIn K cd57 "_law_small"=true) (k57:PySem.W.keepIn K (.ref f57)=true)
  (a58:PySem.W.nsIn K mainGlobals "_law_open"=some (some (.ref f58))) (l58:K.lookup f58=some ⟨oc58,od58,.func (PySem.W.fnOf "_law_open" "_law_open" (defArgs s__law_open) (defBody s__law_open) (defScope s__law_open) .none kV58 dc58 pm58 an58 cd58 ct58),sl58⟩) (e58:PySem.W.codeIn K cd58 "_law_open"=true) (k58:PySem.W.keepIn K (.ref f58)=true)
  (a59:PySem.W.nsIn K mainGlobals "_law_as_number"=some (some (.ref f59))) (l59:K.lookup f59=some ⟨oc59,od59,.func (PySem.W.fnOf "_law_as_number" "_law_as_number" (defArgs s__law_as_number) (defBody s__law_as_number) (defScope s__law_as_number) .none kV59 dc59 pm59 an59 cd59 ct59),sl59⟩) (e59:PySem.W.codeIn K cd59 "_law_as_number"=true) (k59:PySem.W.keepIn K (.ref f59)=true)
  (a60:PySem.W.nsIn K mainGlobals "_law_both"=some (some (.ref f60))) (l60:K.lookup f60=some ⟨oc60,od60,.func (PySem.W.fnOf "_law_both" "_law_both" (defArgs s__law_both) (defBody s__law_both) (defScope s__law_both) .none kV60 dc60 pm60 an60 cd60 ct60),sl60⟩) (e60:PySem.W.codeIn K cd60 "_law_both"=true) (k60:PySem.W.keepIn K (.ref f60)=true)
  (a61:PySem.W.nsIn K mainGlobals "_law_both_point"=some (some (.ref f61))) (l61:K.lookup f61=some ⟨oc61,od61,.func (PySem.W.fnOf "_law_both_point" "_law_both_point" (defArgs s__law_both_point) (defBody s__law_both_point) (defScope s__law_both_point) .none kV61 dc61 pm61 an61 cd61 ct61),sl61⟩) (e61:PySem.W.codeIn K cd61 "_law_both_point"=true) (k61:PySem.W.keepIn K (.ref f61)=true)
  (a62:PySem.W.nsIn K mainGlobals "_law_as_point"=some (some (.ref f62))) (l62:K.lookup f62=some ⟨oc62,od62,.func (PySem.W.fnOf "_law_as_point" "_law_as_point" (defArgs s__law_as_point) (defBody s__law_as_point) (defScope s__law_as_point) .none kV62 dc62 pm62 an62 cd62 ct62),sl62⟩) (e62:PySem.W.codeIn K cd62 "_law_as_point"=true) (k62:PySem.W.keepIn K (.ref f62)=true)
  (a63:PySem.W.nsIn K mainGlobals "line_meets"=some (some (.ref f63))) (l63:K.lookup f63=some ⟨oc63,od63,.func (PySem.W.fnOf "line_meets" "line_meets" (defArgs s_line_meets) (defBody s_line_meets) (defScope s_line_meets) .none kV63 dc63 pm63 an63 cd63 ct63),sl63⟩) (e63:PySem.W.codeIn K cd63 "line_meets"=true) (k63:PySem.W.keepIn K (.ref f63)=true)
  (a64:PySem.W.nsIn K mainGlobals "_law_plain"=some (some (.ref f64))) (l64:K.lookup f64=some ⟨oc64,od64,.func (PySem.W.fnOf "_law_plain" "_law_plain" (defArgs s__law_plain) (defBody s__law_plain) (defScope s__law_plain) .none kV64 dc64 pm64 an64 cd64 ct64),sl64⟩) (e64:PySem.W.codeIn K cd64 "_law_plain"=true) (k64:PySem.W.keepIn K (.ref f64)=true)
  (a65:PySem.W.nsIn K mainGlobals "_law_plain_point"=some (some (.ref f65))) (l65:K.lookup f65=some ⟨oc65,od65,.func (PySem.W.fnOf "_law_plain_point" "_law_plain_point" (defArgs s__law_plain_point) (defBody s__law_plain_point) (defScope s__law_plain_point) .none kV65 dc65 pm65 an65 cd65 ct65),sl65⟩) (e65:PySem.W.codeIn K cd65 "_law_plain_point"=true) (k65:PySem.W.keepIn K (.ref f65)=true)
  (a66:PySem.W.nsIn K mainGlobals "_law_above"=some (some (.ref f66))) (l66:K.lookup f66=some ⟨oc66,od66,.func (PySem.W.fnOf "_law_above" "_law_above" (defArgs s__law_above) (defBody s__law_above) (defScope s__law_above) .none kV66 dc66 pm66 an66 cd66 ct66),sl66⟩) (e66:PySem.W.codeIn K cd66 "_law_above"=true) (k66:PySem.W.keepIn K (.ref f66)=true)
  (a67:PySem.W.nsIn K mainGlobals "_law_curve"=some (some (.ref f67))) (l67:K.lookup f67=some ⟨oc67,od67,.func (PySem.W.fnOf "_law_curve" "_law_curve" (defArgs s__law_curve) (defBody s__law_curve) (defScope s__law_curve) .none kV67 dc67 pm67 an67 cd67 ct67),sl67⟩) (e67:PySem.W.codeIn K cd67 "_law_curve"=true) (k67:PySem.W.keepIn K (.ref f67)=true)
  (a68:PySem.W.nsIn K mainGlobals "_law_values"=some (some (.ref f68))) (l68:K.lookup f68=some ⟨oc68,od68,.func (PySem.W.fnOf "_law_values" "_law_values" (defArgs s__law_values) (defBody s__law_values) (defScope s__law_values) .none kV68 dc68 pm68 an68 cd68 ct68),sl68⟩) (e68:PySem.W.codeIn K cd68 "_law_values"=true) (k68:PySem.W.keepIn K (.ref f68)=true)
  (a69:PySem.W.nsIn K mainGlobals "_law_slopes"=some (some (.ref f69))) (l69:K.lookup f69=some ⟨oc69,od69,.func (PySem.W.fnOf "_law_slopes" "_law_slopes" (defArgs s__law_slopes) (defBody s__law_slopes) (defScope s__law_slopes) .none kV69 dc69 pm69 an69 cd69 ct69),sl69⟩) (e69:PySem.W.codeIn K cd69 "_law_slopes"=true) (k69:PySem.W.keepIn K (.ref f69)=true)
  (a70:PySem.W.nsIn K mainGlobals "_law_normals"=some (some (.ref f70))) (l70:K.lookup f70=some ⟨oc70,od70,.func (PySem.W.fnOf "_law_normals" "_law_normals" (defArgs s__law_normals) (defBody s__law_normals) (defScope s__law_normals) .none kV70 dc70 pm70 an70 cd70 ct70),sl70⟩) (e70:PySem.W.codeIn K cd70 "_law_normals"=true) (k70:PySem.W.keepIn K (.ref f70)=true)
  (a71:PySem.W.nsIn K mainGlobals "law"=some (some (.ref f71))) (l71:K.lookup f71=some ⟨oc71,od71,.func (PySem.W.fnOf "law" "law" (defArgs s_law) (defBody s_law) (defScope s_law) .none kV71 dc71 pm71 an71 cd71 ct71),sl71⟩) (e71:PySem.W.codeIn K cd71 "law"=true) (k71:PySem.W.keepIn K (.ref f71)=true)
  (ag_NOUGHT:PySem.W.nsIn K mainGlobals "NOUGHT"=some (some (.ref p_NOUGHT))) (lg_NOUGHT:K.lookup p_NOUGHT=some ⟨.type "tuple",od_NOUGHT,.seq #[.int 0 t0_NOUGHT,.int 1 t1_NOUGHT] n_NOUGHT,sl_NOUGHT⟩)
  (ag_ONE:PySem.W.nsIn K mainGlobals "ONE"=some (some (.ref p_ONE))) (lg_ONE:K.lookup p_ONE=some ⟨.type "tuple",od_ONE,.seq #[.int 1 t0_ONE,.int 1 t1_ONE] n_ONE,sl_ONE⟩)
  (ac_NoMeet:PySem.W.nsIn K mainGlobals "NoMeet"=some (some (.ref cNoMeet)))
  (eq_NoMeet:PySem.W.excIn K cNoMeet [.type "ValueError",.type "Exception",.type "BaseException",.type "object"] "ValueError.__new__"=true)
  (y_abs:PySem.W.nsIn K mainGlobals "abs"=some none) (y_zip:PySem.W.nsIn K mainGlobals "zip"=some none) (y_max:PySem.W.nsIn K mainGlobals "max"=some none) (y_len:PySem.W.nsIn K mainGlobals "len"=some none) (y_list:PySem.W.nsIn K mainGlobals "list"=some none) (y_dict:PySem.W.nsIn K mainGlobals "dict"=some none) (y_sorted:PySem.W.nsIn K mainGlobals "sorted"=some none) (y_set:PySem.W.nsIn K mainGlobals "set"=some none) (y_range:PySem.W.nsIn K mainGlobals "range"=some none) (y_min:PySem.W.nsIn K mainGlobals "min"=some none):
  ∃ fd:FuncData,(∀ (s:Shared) (v:Value),BindsTo s fd ⟨[v],[]⟩ [("script",v)])/\∀ base:Heap,K.In base->base.Ns mainGlobals mg->FnOk l.prog w K mg base CX0 10 fa fd ["script"] (spU K F_law):=by
 have e:=hfa.symm.trans (PySem.W.mg_of X G a71)
 cases e
 have z_abs:=PySem.W.mg_none_of X G y_abs
 have z_zip:=PySem.W.mg_none_of X G y_zip
 have z_max:=PySem.W.mg_none_of X G y_max
 have z_len:=PySem.W.mg_none_of X G y_len
 have z_list:=PySem.W.mg_none_of X G y_list
 have z_dict:=PySem.W.mg_none_of X G y_dict
 have z_sorted:=PySem.W.mg_none_of X G y_sorted
 have z_set:=PySem.W.mg_none_of X G y_set
 have z_range:=PySem.W.mg_none_of X G y_range
 have z_min:=PySem.W.mg_none_of X G y_min
 have m_NoMeet:=PySem.W.mg_of X G ac_NoMeet
 have g_NOUGHT:GTup K mg "NOUGHT" [0,1]:=⟨p_NOUGHT,_,_,_,PySem.W.mg_of X G ag_NOUGHT,lg_NOUGHT,rfl,rfl,Nat.le_of_ble_eq_true rfl,.cons ⟨_,rfl⟩ (.cons ⟨_,rfl⟩ (.nil))⟩
 have g_ONE:GTup K mg "ONE" [1,1]:=⟨p_ONE,_,_,_,PySem.W.mg_of X G ag_ONE,lg_ONE,rfl,rfl,Nat.le_of_ble_eq_true rfl,.cons ⟨_,rfl⟩ (.cons ⟨_,rfl⟩ (.nil))⟩
 have F1:=fun_mk (st:=s_common_divisor) l1 e1 k1
 have b1:=F1.binds (ps:=["one","other"]) fun _ _ _ _ _ _ us hl=>match us,hl with | [_,_],_=>rfl
 have F2:=fun_mk (st:=s_ratio) l2 e2 k2
 have b2:=F2.binds (ps:=["top","bottom"]) fun _ _ _ _ _ _ us hl=>match us,hl with | [_,_],_=>rfl
 have F3:=fun_mk (st:=s_plus) l3 e3 k3
 have b3:=F3.binds (ps:=["one","other"]) fun _ _ _ _ _ _ us hl=>match us,hl with | [_,_],_=>rfl
 have F4:=fun_mk (st:=s_minus) l4 e4 k4
 have b4:=F4.binds (ps:=["one","other"]) fun _ _ _ _ _ _ us hl=>match us,hl with | [_,_],_=>rfl
 have F5:=fun_mk (st:=s_times) l5 e5 k5
 have b5:=F5.binds (ps:=["one","other"]) fun _ _ _ _ _ _ us hl=>match us,hl with | [_,_],_=>rfl
 have F6:=fun_mk (st:=s_over) l6 e6 k6
 have b6:=F6.binds (ps:=["one","other"]) fun _ _ _ _ _ _ us hl=>match us,hl with | [_,_],_=>rfl
 have F7:=fun_mk (st:=s_negative) l7 e7 k7
 have b7:=F7.binds (ps:=["one"]) fun _ _ _ _ _ _ us hl=>match us,hl with | [_],_=>rfl
 have F8:=fun_mk (st:=s_without_sign) l8 e8 k8
 have b8:=F8.binds (ps:=["one"]) fun _ _ _ _ _ _ us hl=>match us,hl with | [_],_=>rfl
 have F9:=fun_mk (st:=s_whole_root) l9 e9 k9
 have b9:=F9.binds (ps:=["number"]) fun _ _ _ _ _ _ us hl=>match us,hl with | [_],_=>rfl
 have F10:=fun_mk (st:=s_square_root_or_none) l10 e10 k10
 have b10:=F10.binds (ps:=["number"]) fun _ _ _ _ _ _ us hl=>match us,hl with | [_],_=>rfl
 have F11:=fun_mk (st:=s_root_in) l11 e11 k11
 have b11:=F11.binds (ps:=["one"]) fun _ _ _ _ _ _ us hl=>match us,hl with | [_],_=>rfl
 have F12:=fun_mk (st:=s_is_plain) l12 e12 k12
 have b12:=F12.binds (ps:=["one"]) fun _ _ _ _ _ _ us hl=>match us,hl with | [_],_=>rfl
 have F13:=fun_mk (st:=s_with_sign_of) l13 e13 k13
 have b13:=F13.binds (ps:=["one","other"]) fun _ _ _ _ _ _ us hl=>match us,hl with | [_,_],_=>rfl
 have F14:=fun_mk (st:=s_made) l14 e14 k14
 have b14:=F14.binds (ps:=["part","under"]) fun _ _ _ _ _ _ us hl=>match us,hl with | [_,_],_=>rfl
 have F15:=fun_mk (st:=s_field_base) l15 e15 k15
 have b15:=F15.binds (ps:=["one","other"]) fun _ _ _ _ _ _ us hl=>match us,hl with | [_,_],_=>rfl
 have F16:=fun_mk (st:=s_share) l16 e16 k16
 have b16:=F16.binds (ps:=["one","base"]) fun _ _ _ _ _ _ us hl=>match us,hl with | [_,_],_=>rfl
 have F17:=fun_mk (st:=s_joined) l17 e17 k17
 have b17:=F17.binds (ps:=["part","portion","base"]) fun _ _ _ _ _ _ us hl=>match us,hl with | [_,_,_],_=>rfl
 have F18:=fun_mk (st:=s_root_plus) l18 e18 k18
 have b18:=F18.binds (ps:=["one","other"]) fun _ _ _ _ _ _ us hl=>match us,hl with | [_,_],_=>rfl
 have F19:=fun_mk (st:=s_root_times) l19 e19 k19
 have b19:=F19.binds (ps:=["one","other"]) fun _ _ _ _ _ _ us hl=>match us,hl with | [_,_],_=>rfl
 have F20:=fun_mk (st:=s_plain_point) l20 e20 k20
 have b20:=F20.binds (ps:=["place"]) fun _ _ _ _ _ _ us hl=>match us,hl with | [_],_=>rfl
 have F21:=fun_mk (st:=s_place_of) l21 e21 k21
 have b21:=F21.binds (ps:=["point"]) fun _ _ _ _ _ _ us hl=>match us,hl with | [_],_=>rfl
 have F22:=fun_mk (st:=s_plain_way) l22 e22 k22
 have b22:=F22.binds (ps:=["one","other"]) fun _ _ _ _ _ _ us hl=>match us,hl with | [_,_],_=>rfl
 have F23:=fun_mk (st:=s_product_of_ways) l23 e23 k23
 have b23:=F23.binds (ps:=["one","other"]) fun _ _ _ _ _ _ us hl=>match us,hl with | [_,_],_=>rfl
 have F24:=fun_mk (st:=s_moved) l24 e24 k24
 have b24:=F24.binds (ps:=["place","way","by"]) fun _ _ _ _ _ _ us hl=>match us,hl with | [_,_,_],_=>rfl
 have F25:=fun_mk (st:=s_moved_by_root) l25 e25 k25
 have b25:=F25.binds (ps:=["place","way","square"]) fun _ _ _ _ _ _ us hl=>match us,hl with | [_,_,_],_=>rfl
 have F26:=fun_mk (st:=s_both_moved) l26 e26 k26
 have b26:=F26.binds (ps:=["place","way","square"]) fun _ _ _ _ _ _ us hl=>match us,hl with | [_,_,_],_=>rfl
 have F27:=fun_mk (st:=s_square_of_unlike) l27 e27 k27
 have b27:=F27.binds (ps:=["way"]) fun _ _ _ _ _ _ us hl=>match us,hl with | [_],_=>rfl
 have F28:=fun_mk (st:=s_without_noughts) l28 e28 k28
 have b28:=F28.binds (ps:=["sums"]) fun _ _ _ _ _ _ us hl=>match us,hl with | [_],_=>rfl
 have F29:=fun_mk (st:=s_common_multiple) l29 e29 k29
 have b29:=F29.binds (ps:=["one","other"]) fun _ _ _ _ _ _ us hl=>match us,hl with | [_,_],_=>rfl
 have F30:=fun_mk (st:=s_common_bottom) l30 e30 k30
 have b30:=F30.binds (ps:=["fractions"]) fun _ _ _ _ _ _ us hl=>match us,hl with | [_],_=>rfl
 have F31:=fun_mk (st:=s_tops_over) l31 e31 k31
 have b31:=F31.binds (ps:=["curve","bottom"]) fun _ _ _ _ _ _ us hl=>match us,hl with | [_,_],_=>rfl
 have F32:=fun_mk (st:=s_normal_of_tops) l32 e32 k32
 have b32:=F32.binds (ps:=["tops"]) fun _ _ _ _ _ _ us hl=>match us,hl with | [_],_=>rfl
 have F33:=fun_mk (st:=s_normal) l33 e33 k33
 have b33:=F33.binds (ps:=["curve"]) fun _ _ _ _ _ _ us hl=>match us,hl with | [_],_=>rfl
 have F34:=fun_mk (st:=s_line_from) l34 e34 k34
 have b34:=F34.binds (ps:=["place","across"]) fun _ _ _ _ _ _ us hl=>match us,hl with | [_,_],_=>rfl
 have F35:=fun_mk (st:=s_round_about) l35 e35 k35
 have b35:=F35.binds (ps:=["place","square"]) fun _ _ _ _ _ _ us hl=>match us,hl with | [_,_],_=>rfl
 have F36:=fun_mk (st:=s_line_through) l36 e36 k36
 have b36:=F36.binds (ps:=["one","other"]) fun _ _ _ _ _ _ us hl=>match us,hl with | [_,_],_=>rfl
 have F37:=fun_mk (st:=s_circle_about) l37 e37 k37
 have b37:=F37.binds (ps:=["middle","square"]) fun _ _ _ _ _ _ us hl=>match us,hl with | [_,_],_=>rfl
 have F38:=fun_mk (st:=s_curve_plus) l38 e38 k38
 have b38:=F38.binds (ps:=["one","other"]) fun _ _ _ _ _ _ us hl=>match us,hl with | [_,_],_=>rfl
 have F39:=fun_mk (st:=s_curve_grown) l39 e39 k39
 have b39:=F39.binds (ps:=["curve","by"]) fun _ _ _ _ _ _ us hl=>match us,hl with | [_,_],_=>rfl
 have F40:=fun_mk (st:=s_curve_minus) l40 e40 k40
 have b40:=F40.binds (ps:=["one","other"]) fun _ _ _ _ _ _ us hl=>match us,hl with | [_,_],_=>rfl
 have F41:=fun_mk (st:=s_product_of_tops) l41 e41 k41
 have b41:=F41.binds (ps:=["one","other"]) fun _ _ _ _ _ _ us hl=>match us,hl with | [_,_],_=>rfl
 have F42:=fun_mk (st:=s_curve_times) l42 e42 k42
 have b42:=F42.binds (ps:=["one","other"]) fun _ _ _ _ _ _ us hl=>match us,hl with | [_,_],_=>rfl
 have F43:=fun_mk (st:=s_slope) l43 e43 k43
 have b43:=F43.binds (ps:=["curve","at"]) fun _ _ _ _ _ _ us hl=>match us,hl with | [_,_],_=>rfl
 have F44:=fun_mk (st:=s_surd_times) l44 e44 k44
 have b44:=F44.binds (ps:=["one","other","base"]) fun _ _ _ _ _ _ us hl=>match us,hl with | [_,_,_],_=>rfl
 have F45:=fun_mk (st:=s_surd_power) l45 e45 k45
 have b45:=F45.binds (ps:=["one","power","base"]) fun _ _ _ _ _ _ us hl=>match us,hl with | [_,_,_],_=>rfl
 have F46:=fun_mk (st:=s_surd_over) l46 e46 k46
 have b46:=F46.binds (ps:=["number","base"]) fun _ _ _ _ _ _ us hl=>match us,hl with | [_,_],_=>rfl
 have F47:=fun_mk (st:=s_powers_over) l47 e47 k47
 have b47:=F47.binds (ps:=["number","powers","base"]) fun _ _ _ _ _ _ us hl=>match us,hl with | [_,_,_],_=>rfl
 have F48:=fun_mk (st:=s_side_over) l48 e48 k48
 have b48:=F48.binds (ps:=["curve","point","base"]) fun _ _ _ _ _ _ us hl=>match us,hl with | [_,_,_],_=>rfl
 have F49:=fun_mk (st:=s_value_at) l49 e49 k49
 have b49:=F49.binds (ps:=["curve","point"]) fun _ _ _ _ _ _ us hl=>match us,hl with | [_,_],_=>rfl
 have F50:=fun_mk (st:=s_on_curve) l50 e50 k50
 have b50:=F50.binds (ps:=["curve","point"]) fun _ _ _ _ _ _ us hl=>match us,hl with | [_,_],_=>rfl
 have F51:=fun_mk (st:=s__law_cell_at) l51 e51 k51
 have b51:=F51.binds (ps:=["script","k"]) fun _ _ _ _ _ _ us hl=>match us,hl with | [_,_],_=>rfl
 have F52:=fun_mk (st:=s__law_state) l52 e52 k52
 have b52:=F52.binds (ps:=["script","k"]) fun _ _ _ _ _ _ us hl=>match us,hl with | [_,_],_=>rfl
 have F53:=fun_mk (st:=s__law_take) l53 e53 k53
 have b53:=F53.binds (ps:=["state","many"]) fun _ _ _ _ _ _ us hl=>match us,hl with | [_,_],_=>rfl
 have F54:=fun_mk (st:=s__law_divisor) l54 e54 k54
 have b54:=F54.binds (ps:=["one","other"]) fun _ _ _ _ _ _ us hl=>match us,hl with | [_,_],_=>rfl
 have F55:=fun_mk (st:=s__law_ratio) l55 e55 k55
 have b55:=F55.binds (ps:=["top","bottom"]) fun _ _ _ _ _ _ us hl=>match us,hl with | [_,_],_=>rfl
 have F56:=fun_mk (st:=s__law_times) l56 e56 k56
 have b56:=F56.binds (ps:=["one","other"]) fun _ _ _ _ _ _ us hl=>match us,hl with | [_,_],_=>rfl
 have F57:=fun_mk (st:=s__law_small) l57 e57 k57
 have b57:=F57.binds (ps:=["state"]) fun _ _ _ _ _ _ us hl=>match us,hl with | [_],_=>rfl
 have F58:=fun_mk (st:=s__law_open) l58 e58 k58
 have b58:=F58.binds (ps:=["state"]) fun _ _ _ _ _ _ us hl=>match us,hl with | [_],_=>rfl
 have F59:=fun_mk (st:=s__law_as_number) l59 e59 k59
 have b59:=F59.binds (ps:=["pair","under"]) fun _ _ _ _ _ _ us hl=>match us,hl with | [_,_],_=>rfl
 have F60:=fun_mk (st:=s__law_both) l60 e60 k60
 have b60:=F60.binds (ps:=["state"]) fun _ _ _ _ _ _ us hl=>match us,hl with | [_],_=>rfl
 have F61:=fun_mk (st:=s__law_both_point) l61 e61 k61
 have b61:=F61.binds (ps:=["state"]) fun _ _ _ _ _ _ us hl=>match us,hl with | [_],_=>rfl
 have F62:=fun_mk (st:=s__law_as_point) l62 e62 k62
 have b62:=F62.binds (ps:=["point","under"]) fun _ _ _ _ _ _ us hl=>match us,hl with | [_,_],_=>rfl
 have F63:=fun_mk (st:=s_line_meets) l63 e63 k63
 have b63:=F63.binds (ps:=["one","other","middle","square"]) fun _ _ _ _ _ _ us hl=>match us,hl with | [_,_,_,_],_=>rfl
 have F64:=fun_mk (st:=s__law_plain) l64 e64 k64
 have b64:=F64.binds (ps:=["fraction"]) fun _ _ _ _ _ _ us hl=>match us,hl with | [_],_=>rfl
 have F65:=fun_mk (st:=s__law_plain_point) l65 e65 k65
 have b65:=F65.binds (ps:=["state"]) fun _ _ _ _ _ _ us hl=>match us,hl with | [_],_=>rfl
 have F66:=fun_mk (st:=s__law_above) l66 e66 k66
 have b66:=F66.binds (ps:=["state"]) fun _ _ _ _ _ _ us hl=>match us,hl with | [_],_=>rfl
 have F67:=fun_mk (st:=s__law_curve) l67 e67 k67
 have b67:=F67.binds (ps:=["state","most","many"]) fun _ _ _ _ _ _ us hl=>match us,hl with | [_,_,_],_=>rfl
 have F68:=fun_mk (st:=s__law_values) l68 e68 k68
 have b68:=F68.binds (ps:=["one","other","point"]) fun _ _ _ _ _ _ us hl=>match us,hl with | [_,_,_],_=>rfl
 have F69:=fun_mk (st:=s__law_slopes) l69 e69 k69
 have b69:=F69.binds (ps:=["one","other"]) fun _ _ _ _ _ _ us hl=>match us,hl with | [_,_],_=>rfl
 have F70:=fun_mk (st:=s__law_normals) l70 e70 k70
 have b70:=F70.binds (ps:=["curve","point","by"]) fun _ _ _ _ _ _ us hl=>match us,hl with | [_,_,_],_=>rfl
 have F71:=fun_mk (st:=s_law) l71 e71 k71
 have b71:=F71.binds (ps:=["script"]) fun _ _ _ _ _ _ us hl=>match us,hl with | [_],_=>rfl
 refine⟨PySem.W.fnOf "law" "law" (defArgs s_law) (defBody s_law) (defScope s_law) .none kV71 dc71 pm71 an71 cd71 ct71,fun s v=>.of_eq rfl,fun base _ _=>?_⟩
 have c_common_divisor:Own l.prog w K mg base "common_divisor" 1 F_common_divisor:=Own.mk' F1 (ok_common_divisor F1 z_abs) (PySem.W.mg_of X G a1) b1
 have c_ratio:Own l.prog w K mg base "ratio" 2 F_ratio:=Own.mk' F2 (ok_ratio F2 c_common_divisor) (PySem.W.mg_of X G a2) b2
 have c_plus:Own l.prog w K mg base "plus" 3 F_plus:=Own.mk' F3 (ok_plus F3 c_ratio) (PySem.W.mg_of X G a3) b3
 have c_minus:Own l.prog w K mg base "minus" 3 F_minus:=Own.mk' F4 (ok_minus F4 c_ratio) (PySem.W.mg_of X G a4) b4
 have c_times:Own l.prog w K mg base "times" 3 F_times:=Own.mk' F5 (ok_times F5 c_ratio) (PySem.W.mg_of X G a5) b5
 have c_over:Own l.prog w K mg base "over" 3 F_over:=Own.mk' F6 (ok_over F6 c_ratio) (PySem.W.mg_of X G a6) b6
 have c_negative:Own l.prog w K mg base "negative" 1 F_negative:=Own.mk' F7 (ok_negative F7) (PySem.W.mg_of X G a7) b7
 have c_without_sign:Own l.prog w K mg base "without_sign" 1 F_without_sign:=Own.mk' F8 (ok_without_sign F8 z_abs) (PySem.W.mg_of X G a8) b8
 have c_whole_root:Own l.prog w K mg base "whole_root" 1 F_whole_root:=Own.mk' F9 (ok_whole_root F9) (PySem.W.mg_of X G a9) b9
 have c_square_root_or_none:Own l.prog w K mg base "square_root_or_none" 2 F_square_root_or_none:=Own.mk' F10 (ok_square_root_or_none F10 c_whole_root) (PySem.W.mg_of X G a10) b10
 have c_root_in:Own l.prog w K mg base "root_in" 3 F_root_in:=Own.mk' F11 (ok_root_in F11 c_square_root_or_none) (PySem.W.mg_of X G a11) b11
 have c_is_plain:Own l.prog w K mg base "is_plain" 1 F_is_plain:=Own.mk' F12 (ok_is_plain F12) (PySem.W.mg_of X G a12) b12
 have c_with_sign_of:Own l.prog w K mg base "with_sign_of" 2 F_with_sign_of:=Own.mk' F13 (ok_with_sign_of F13 c_negative) (PySem.W.mg_of X G a13) b13
 have c_made:Own l.prog w K mg base "made" 4 F_made:=Own.mk' F14 (ok_made F14 c_root_in c_without_sign c_plus c_with_sign_of g_NOUGHT) (PySem.W.mg_of X G a14) b14
 have c_field_base:Own l.prog w K mg base "field_base" 2 F_field_base:=Own.mk' F15 (ok_field_base F15 c_without_sign c_is_plain) (PySem.W.mg_of X G a15) b15
 have c_share:Own l.prog w K mg base "share" 4 F_share:=Own.mk' F16 (ok_share F16 c_is_plain c_root_in c_over c_without_sign c_with_sign_of g_NOUGHT) (PySem.W.mg_of X G a16) b16
 have c_joined:Own l.prog w K mg base "joined" 4 F_joined:=Own.mk' F17 (ok_joined F17 c_times c_with_sign_of) (PySem.W.mg_of X G a17) b17
 have c_root_plus:Own l.prog w K mg base "root_plus" 5 F_root_plus:=Own.mk' F18 (ok_root_plus F18 c_field_base c_plus c_share c_joined) (PySem.W.mg_of X G a18) b18
 have c_root_times:Own l.prog w K mg base "root_times" 5 F_root_times:=Own.mk' F19 (ok_root_times F19 c_field_base c_share c_plus c_times c_joined) (PySem.W.mg_of X G a19) b19
 have c_plain_point:Own l.prog w K mg base "plain_point" 1 F_plain_point:=Own.mk' F20 (ok_plain_point F20 g_NOUGHT) (PySem.W.mg_of X G a20) b20
 have c_place_of:Own l.prog w K mg base "place_of" 1 F_place_of:=Own.mk' F21 (ok_place_of F21) (PySem.W.mg_of X G a21) b21
 have c_plain_way:Own l.prog w K mg base "plain_way" 4 F_plain_way:=Own.mk' F22 (ok_plain_way F22 c_minus) (PySem.W.mg_of X G a22) b22
 have c_product_of_ways:Own l.prog w K mg base "product_of_ways" 4 F_product_of_ways:=Own.mk' F23 (ok_product_of_ways F23 c_plus c_times) (PySem.W.mg_of X G a23) b23
 have c_moved:Own l.prog w K mg base "moved" 4 F_moved:=Own.mk' F24 (ok_moved F24 c_plus c_times) (PySem.W.mg_of X G a24) b24
 have c_moved_by_root:Own l.prog w K mg base "moved_by_root" 5 F_moved_by_root:=Own.mk' F25 (ok_moved_by_root F25 c_times c_made c_with_sign_of z_zip) (PySem.W.mg_of X G a25) b25
 have c_both_moved:Own l.prog w K mg base "both_moved" 6 F_both_moved:=Own.mk' F26 (ok_both_moved F26 c_plain_point c_negative c_moved_by_root) (PySem.W.mg_of X G a26) b26
 have c_square_of_unlike:Own l.prog w K mg base "square_of_unlike" 5 F_square_of_unlike:=Own.mk' F27 (ok_square_of_unlike F27 c_product_of_ways) (PySem.W.mg_of X G a27) b27
 have cx_square_of_unlike:OwnX l.prog w K mg base "square_of_unlike" 5 (FX_square_of_unlike cNoMeet):=OwnX.mk' F27 (okx_square_of_unlike F27 c_product_of_ways m_NoMeet eq_NoMeet) (PySem.W.mg_of X G a27) b27
 have c_without_noughts:Own l.prog w K mg base "without_noughts" 1 F_without_noughts:=Own.mk' F28 (ok_without_noughts F28) (PySem.W.mg_of X G a28) b28
 have c_common_multiple:Own l.prog w K mg base "common_multiple" 2 F_common_multiple:=Own.mk' F29 (ok_common_multiple F29 c_common_divisor) (PySem.W.mg_of X G a29) b29
 have c_common_bottom:Own l.prog w K mg base "common_bottom" 3 F_common_bottom:=Own.mk' F30 (ok_common_bottom F30 c_common_multiple) (PySem.W.mg_of X G a30) b30
 have c_tops_over:Own l.prog w K mg base "tops_over" 1 F_tops_over:=Own.mk' F31 (ok_tops_over F31) (PySem.W.mg_of X G a31) b31
 have c_normal_of_tops:Own l.prog w K mg base "normal_of_tops" 2 F_normal_of_tops:=Own.mk' F32 (ok_normal_of_tops F32 c_common_divisor z_max) (PySem.W.mg_of X G a32) b32
 have c_normal:Own l.prog w K mg base "normal" 4 F_normal:=Own.mk' F33 (ok_normal F33 c_normal_of_tops c_tops_over c_common_bottom z_len z_list) (PySem.W.mg_of X G a33) b33
 have c_line_from:Own l.prog w K mg base "line_from" 5 F_line_from:=Own.mk' F34 (ok_line_from F34 c_without_noughts c_negative c_product_of_ways) (PySem.W.mg_of X G a34) b34
 have c_round_about:Own l.prog w K mg base "round_about" 5 F_round_about:=Own.mk' F35 (ok_round_about F35 c_plus c_minus c_product_of_ways c_without_noughts c_negative g_ONE) (PySem.W.mg_of X G a35) b35
 have c_line_through:Own l.prog w K mg base "line_through" 6 F_line_through:=Own.mk' F36 (ok_line_through F36 c_place_of c_plain_way c_square_of_unlike c_normal c_line_from c_negative) (PySem.W.mg_of X G a36) b36
 have cx_line_through:OwnX l.prog w K mg base "line_through" 6 (FX_line_through cNoMeet):=OwnX.mk' F36 (okx_line_through F36 c_plain_way c_place_of cx_square_of_unlike) (PySem.W.mg_of X G a36) b36
 have c_circle_about:Own l.prog w K mg base "circle_about" 6 F_circle_about:=Own.mk' F37 (ok_circle_about F37 c_normal c_round_about c_place_of) (PySem.W.mg_of X G a37) b37
 have c_curve_plus:Own l.prog w K mg base "curve_plus" 4 F_curve_plus:=Own.mk' F38 (ok_curve_plus F38 c_plus c_without_noughts z_dict g_NOUGHT) (PySem.W.mg_of X G a38) b38
 have c_curve_grown:Own l.prog w K mg base "curve_grown" 4 F_curve_grown:=Own.mk' F39 (ok_curve_grown F39 c_times c_without_noughts) (PySem.W.mg_of X G a39) b39
 have c_curve_minus:Own l.prog w K mg base "curve_minus" 5 F_curve_minus:=Own.mk' F40 (ok_curve_minus F40 c_curve_plus c_curve_grown c_negative g_ONE) (PySem.W.mg_of X G a40) b40
 have c_product_of_tops:Own l.prog w K mg base "product_of_tops" 1 F_product_of_tops:=Own.mk' F41 (ok_product_of_tops F41) (PySem.W.mg_of X G a41) b41
 have c_curve_times:Own l.prog w K mg base "curve_times" 4 F_curve_times:=Own.mk' F42 (ok_curve_times F42 c_common_bottom c_product_of_tops c_tops_over c_ratio c_without_noughts z_list) (PySem.W.mg_of X G a42) b42
 have c_slope:Own l.prog w K mg base "slope" 4 F_slope:=Own.mk' F43 (ok_slope F43 c_times) (PySem.W.mg_of X G a43) b43
 have c_surd_times:Own l.prog w K mg base "surd_times" 1 F_surd_times:=Own.mk' F44 (ok_surd_times F44) (PySem.W.mg_of X G a44) b44
 have c_surd_power:Own l.prog w K mg base "surd_power" 2 F_surd_power:=Own.mk' F45 (ok_surd_power F45 c_surd_times) (PySem.W.mg_of X G a45) b45
 have c_surd_over:Own l.prog w K mg base "surd_over" 5 F_surd_over:=Own.mk' F46 (ok_surd_over F46 c_over c_share c_common_multiple) (PySem.W.mg_of X G a46) b46
 have c_powers_over:Own l.prog w K mg base "powers_over" 6 F_powers_over:=Own.mk' F47 (ok_powers_over F47 c_surd_over c_surd_times c_surd_power z_max z_sorted z_set) (PySem.W.mg_of X G a47) b47
 have c_side_over:Own l.prog w K mg base "side_over" 7 F_side_over:=Own.mk' F48 (ok_side_over F48 c_powers_over c_common_bottom c_tops_over c_surd_times z_list) (PySem.W.mg_of X G a48) b48
 have c_value_at:Own l.prog w K mg base "value_at" 8 F_value_at:=Own.mk' F49 (ok_value_at F49 c_field_base c_side_over c_ratio c_joined z_len g_NOUGHT) (PySem.W.mg_of X G a49) b49
 have c_on_curve:Own l.prog w K mg base "on_curve" 8 F_on_curve:=Own.mk' F50 (ok_on_curve F50 c_side_over c_field_base z_len) (PySem.W.mg_of X G a50) b50
 have c__law_cell_at:Own l.prog w K mg base "_law_cell_at" 1 F__law_cell_at:=Own.mk' F51 (ok__law_cell_at F51 z_len) (PySem.W.mg_of X G a51) b51
 have c__law_state:Own l.prog w K mg base "_law_state" 2 F__law_state:=Own.mk' F52 (ok__law_state F52 c__law_cell_at) (PySem.W.mg_of X G a52) b52
 have c__law_take:Own l.prog w K mg base "_law_take" 1 F__law_take:=Own.mk' F53 (ok__law_take F53) (PySem.W.mg_of X G a53) b53
 have c__law_divisor:Own l.prog w K mg base "_law_divisor" 1 F__law_divisor:=Own.mk' F54 (ok__law_divisor F54 z_abs) (PySem.W.mg_of X G a54) b54
 have c__law_ratio:Own l.prog w K mg base "_law_ratio" 2 F__law_ratio:=Own.mk' F55 (ok__law_ratio F55 c__law_divisor) (PySem.W.mg_of X G a55) b55
 have c__law_times:Own l.prog w K mg base "_law_times" 3 F__law_times:=Own.mk' F56 (ok__law_times F56 c__law_ratio) (PySem.W.mg_of X G a56) b56
 have c__law_small:Own l.prog w K mg base "_law_small" 3 F__law_small:=Own.mk' F57 (ok__law_small F57 c__law_ratio c__law_take) (PySem.W.mg_of X G a57) b57
 have c__law_open:Own l.prog w K mg base "_law_open" 2 F__law_open:=Own.mk' F58 (ok__law_open F58 c__law_take) (PySem.W.mg_of X G a58) b58
 have c__law_as_number:Own l.prog w K mg base "_law_as_number" 4 F__law_as_number:=Own.mk' F59 (ok__law_as_number F59 c__law_times z_abs) (PySem.W.mg_of X G a59) b59
 have c__law_both:Own l.prog w K mg base "_law_both" 4 F__law_both:=Own.mk' F60 (ok__law_both F60 c__law_take c__law_small) (PySem.W.mg_of X G a60) b60
 have c__law_both_point:Own l.prog w K mg base "_law_both_point" 5 F__law_both_point:=Own.mk' F61 (ok__law_both_point F61 c__law_both) (PySem.W.mg_of X G a61) b61
 have c__law_as_point:Own l.prog w K mg base "_law_as_point" 5 F__law_as_point:=Own.mk' F62 (ok__law_as_point F62 c__law_as_number) (PySem.W.mg_of X G a62) b62
 have c_line_meets:Own l.prog w K mg base "line_meets" 7 F_line_meets:=Own.mk' F63 (ok_line_meets F63 c_place_of c_plain_way c_square_of_unlike c_over c_product_of_ways c_minus c_negative c_both_moved c_times c_moved) (PySem.W.mg_of X G a63) b63
 have c__law_plain:Own l.prog w K mg base "_law_plain" 1 F__law_plain:=Own.mk' F64 (ok__law_plain F64) (PySem.W.mg_of X G a64) b64
 have c__law_plain_point:Own l.prog w K mg base "_law_plain_point" 4 F__law_plain_point:=Own.mk' F65 (ok__law_plain_point F65 c__law_plain c__law_small) (PySem.W.mg_of X G a65) b65
 have c__law_above:Own l.prog w K mg base "_law_above" 3 F__law_above:=Own.mk' F66 (ok__law_above F66 c__law_ratio c__law_take) (PySem.W.mg_of X G a66) b66
 have c__law_curve:Own l.prog w K mg base "_law_curve" 4 F__law_curve:=Own.mk' F67 (ok__law_curve F67 c__law_take c__law_small z_range) (PySem.W.mg_of X G a67) b67
 have c__law_values:Own l.prog w K mg base "_law_values" 9 F__law_values:=Own.mk' F68 (ok__law_values F68 c_value_at c_curve_plus c_root_plus c_curve_times c_root_times c_on_curve) (PySem.W.mg_of X G a68) b68
 have c__law_slopes:Own l.prog w K mg base "_law_slopes" 6 F__law_slopes:=Own.mk' F69 (ok__law_slopes F69 c_curve_plus c_curve_times c_slope c_curve_minus) (PySem.W.mg_of X G a69) b69
 have c__law_normals:Own l.prog w K mg base "_law_normals" 9 F__law_normals:=Own.mk' F70 (ok__law_normals F70 c_normal c_curve_grown c_on_curve) (PySem.W.mg_of X G a70) b70
 exact ok_law F71 c__law_state c__law_open c__law_curve c__law_as_point c__law_both_point c__law_slopes c__law_values c__law_normals c__law_small c__law_plain_point c__law_above c_line_through c_on_curve c_line_meets c_circle_about z_range z_max z_min z_len
theorem walk {l:PySem.W.OpenLaw} {q:Program} {loose:List Str} {XP:(Str->Option Value)->Heap->Prop} {YP:World->Heap->Prop} {d:DefRec} {K:Params->Fg} (hn:l.most=some 63) (hdf:d.params.defaults=[])
  (hY:∀ (w:World) (h:Heap),YP w h->(K w.params).In h)
  (F:∀ (w:World) (mg:Str->Option Value) (fa:Addr) (h:Heap),(K w.params).In h->h.Ns mainGlobals mg->mg d.name=some (.ref fa)->
   ∃ fd:FuncData,(∀ (s:Shared) (u:Value),BindsTo s fd ⟨[u],[]⟩ [("script",u)])/\∀ base:Heap,(K w.params).In base->base.Ns mainGlobals mg->FnOk l.prog w (K w.params) mg base CX0 10 fa fd ["script"] (spU (K w.params) F_law)):
  PySem.W.WalkO q loose XP YP l.row.toRowW d [] (fun f vs=>PySem.call f vs):=
 L2.walk_of (n:=63) (k:=10) (x:="script") (CX:=fun _=>CX0) (sp:=fun w=>spU (K w.params) F_law) hn (by decide) hdf ⟨rfl,by decide,by decide⟩ hY F
  (fun w H a ns hl ho hS=>DL.law_up ho hS (law_ask ns hl)) fun _ _ _ _ _ z=>z
end My
open PySem PySem.W PyProof.Rows
set_option maxRecDepth 100000 in
set_option maxHeartbeats 0 in
theorem PySem.Challenge.cw_hingedraw_k67_whole_curves_and_points_holds : PySem.Challenge.rw_hingedraw_k67_whole_curves_and_points.Holds := by
 w_on; o_law; k_head; (case hw=>w_witness2)
 k_fill
 refine My.walk (l := PySem.Challenge.rw_hingedraw_k67_whole_curves_and_points) rfl rfl (fun w h Y => PySem.W.kIn_of Y) ?F
 case F=>
  intro w mg fa h KX G hmg
  refine' My.all_mk KX G hmg ?a1 ?l1 ?e1 ?k1 ?a2 ?l2 ?e2 ?k2 ?a3 ?l3 ?e3 ?k3 ?a4 ?l4 ?e4 ?k4 ?a5 ?l5 ?e5 ?k5 ?a6 ?l6 ?e6 ?k6 ?a7 ?l7 ?e7 ?k7 ?a8 ?l8 ?e8 ?k8 ?a9 ?l9 ?e9 ?k9 ?a10 ?l10 ?e10 ?k10 ?a11 ?l11 ?e11 ?k11 ?a12 ?l12 ?e12 ?k12 ?a13 ?l13 ?e13 ?k13 ?a14 ?l14 ?e14 ?k14 ?a15 ?l15 ?e15 ?k15 ?a16 ?l16 ?e16 ?k16 ?a17 ?l17 ?e17 ?k17 ?a18 ?l18 ?e18 ?k18 ?a19 ?l19 ?e19 ?k19 ?a20 ?l20 ?e20 ?k20 ?a21 ?l21 ?e21 ?k21 ?a22 ?l22 ?e22 ?k22 ?a23 ?l23 ?e23 ?k23 ?a24 ?l24 ?e24 ?k24 ?a25 ?l25 ?e25 ?k25 ?a26 ?l26 ?e26 ?k26 ?a27 ?l27 ?e27 ?k27 ?a28 ?l28 ?e28 ?k28 ?a29 ?l29 ?e29 ?k29 ?a30 ?l30 ?e30 ?k30 ?a31 ?l31 ?e31 ?k31 ?a32 ?l32 ?e32 ?k32 ?a33 ?l33 ?e33 ?k33 ?a34 ?l34 ?e34 ?k34 ?a35 ?l35 ?e35 ?k35 ?a36 ?l36 ?e36 ?k36 ?a37 ?l37 ?e37 ?k37 ?a38 ?l38 ?e38 ?k38 ?a39 ?l39 ?e39 ?k39 ?a40 ?l40 ?e40 ?k40 ?a41 ?l41 ?e41 ?k41 ?a42 ?l42 ?e42 ?k42 ?a43 ?l43 ?e43 ?k43 ?a44 ?l44 ?e44 ?k44 ?a45 ?l45 ?e45 ?k45 ?a46 ?l46 ?e46 ?k46 ?a47 ?l47 ?e47 ?k47 ?a48 ?l48 ?e48 ?k48 ?a49 ?l49 ?e49 ?k49 ?a50 ?l50 ?e50 ?k50 ?a51 ?l51 ?e51 ?k51 ?a52 ?l52 ?e52 ?k52 ?a53 ?l53 ?e53 ?k53 ?a54 ?l54 ?e54 ?k54 ?a55 ?l55 ?e55 ?k55 ?a56 ?l56 ?e56 ?k56 ?a57 ?l57 ?e57 ?k57 ?a58 ?l58 ?e58 ?k58 ?a59 ?l59 ?e59 ?k59 ?a60 ?l60 ?e60 ?k60 ?a61 ?l61 ?e61 ?k61 ?a62 ?l62 ?e62 ?k62 ?a63 ?l63 ?e63 ?k63 ?a64 ?l64 ?e64 ?k64 ?a65 ?l65 ?e65 ?k65 ?a66 ?l66 ?e66 ?k66 ?a67 ?l67 ?e67 ?k67 ?a68 ?l68 ?e68 ?k68 ?a69 ?l69 ?e69 ?k69 ?a70 ?l70 ?e70 ?k70 ?a71 ?l71 ?e71 ?k71 ?ag_NOUGHT ?lg_NOUGHT ?ag_ONE ?lg_ONE ?ac_NoMeet ?eq_NoMeet ?y_abs ?y_zip ?y_max ?y_len ?y_list ?y_dict ?y_sorted ?y_set ?y_range ?y_min
  (case a1=>k_is)
  (case l1=>k_is)
  (case e1=>k_is)
  (case k1=>k_is)
  (case a2=>k_is)
  (case l2=>k_is)
  (case e2=>k_is)
  (case k2=>k_is)
  (case a3=>k_is)
  (case l3=>k_is)
  (case e3=>k_is)
  (case k3=>k_is)
  (case a4=>k_is)
  (case l4=>k_is)
  (case e4=>k_is)
  (case k4=>k_is)
  (case a5=>k_is)
  (case l5=>k_is)
  (case e5=>k_is)
  (case k5=>k_is)
  (case a6=>k_is)
  (case l6=>k_is)
  (case e6=>k_is)
  (case k6=>k_is)
  (case a7=>k_is)
  (case l7=>k_is)
  (case e7=>k_is)
  (case k7=>k_is)
  (case a8=>k_is)
  (case l8=>k_is)
  (case e8=>k_is)
  (case k8=>k_is)
  (case a9=>k_is)
  (case l9=>k_is)
  (case e9=>k_is)
  (case k9=>k_is)
  (case a10=>k_is)
  (case l10=>k_is)
  (case e10=>k_is)
  (case k10=>k_is)
  (case a11=>k_is)
  (case l11=>k_is)
  (case e11=>k_is)
  (case k11=>k_is)
  (case a12=>k_is)
  (case l12=>k_is)
  (case e12=>k_is)
  (case k12=>k_is)
  (case a13=>k_is)
  (case l13=>k_is)
  (case e13=>k_is)
  (case k13=>k_is)
  (case a14=>k_is)
  (case l14=>k_is)
  (case e14=>k_is)
  (case k14=>k_is)
  (case a15=>k_is)
  (case l15=>k_is)
  (case e15=>k_is)
  (case k15=>k_is)
  (case a16=>k_is)
  (case l16=>k_is)
  (case e16=>k_is)
  (case k16=>k_is)
  (case a17=>k_is)
  (case l17=>k_is)
  (case e17=>k_is)
  (case k17=>k_is)
  (case a18=>k_is)
  (case l18=>k_is)
  (case e18=>k_is)
  (case k18=>k_is)
  (case a19=>k_is)
  (case l19=>k_is)
  (case e19=>k_is)
  (case k19=>k_is)
  (case a20=>k_is)
  (case l20=>k_is)
  (case e20=>k_is)
  (case k20=>k_is)
  (case a21=>k_is)
  (case l21=>k_is)
  (case e21=>k_is)
  (case k21=>k_is)
  (case a22=>k_is)
  (case l22=>k_is)
  (case e22=>k_is)
  (case k22=>k_is)
  (case a23=>k_is)
  (case l23=>k_is)
  (case e23=>k_is)
  (case k23=>k_is)
  (case a24=>k_is)
  (case l24=>k_is)
  (case e24=>k_is)
  (case k24=>k_is)
  (case a25=>k_is)
  (case l25=>k_is)
  (case e25=>k_is)
  (case k25=>k_is)
  (case a26=>k_is)
  (case l26=>k_is)
  (case e26=>k_is)
  (case k26=>k_is)
  (case a27=>k_is)
  (case l27=>k_is)
  (case e27=>k_is)
  (case k27=>k_is)
  (case a28=>k_is)
  (case l28=>k_is)
  (case e28=>k_is)
  (case k28=>k_is)
  (case a29=>k_is)
  (case l29=>k_is)
  (case e29=>k_is)
  (case k29=>k_is)
  (case a30=>k_is)
  (case l30=>k_is)
  (case e30=>k_is)
  (case k30=>k_is)
  (case a31=>k_is)
  (case l31=>k_is)
  (case e31=>k_is)
  (case k31=>k_is)
  (case a32=>k_is)
  (case l32=>k_is)
  (case e32=>k_is)
  (case k32=>k_is)
  (case a33=>k_is)
  (case l33=>k_is)
  (case e33=>k_is)
  (case k33=>k_is)
  (case a34=>k_is)
  (case l34=>k_is)
  (case e34=>k_is)
  (case k34=>k_is)
  (case a35=>k_is)
  (case l35=>k_is)
  (case e35=>k_is)
  (case k35=>k_is)
  (case a36=>k_is)
  (case l36=>k_is)
  (case e36=>k_is)
  (case k36=>k_is)
  (case a37=>k_is)
  (case l37=>k_is)
  (case e37=>k_is)
  (case k37=>k_is)
  (case a38=>k_is)
  (case l38=>k_is)
  (case e38=>k_is)
  (case k38=>k_is)
  (case a39=>k_is)
  (case l39=>k_is)
  (case e39=>k_is)
  (case k39=>k_is)
  (case a40=>k_is)
  (case l40=>k_is)
  (case e40=>k_is)
  (case k40=>k_is)
  (case a41=>k_is)
  (case l41=>k_is)
  (case e41=>k_is)
  (case k41=>k_is)
  (case a42=>k_is)
  (case l42=>k_is)
  (case e42=>k_is)
  (case k42=>k_is)
  (case a43=>k_is)
  (case l43=>k_is)
  (case e43=>k_is)
  (case k43=>k_is)
  (case a44=>k_is)
  (case l44=>k_is)
  (case e44=>k_is)
  (case k44=>k_is)
  (case a45=>k_is)
  (case l45=>k_is)
  (case e45=>k_is)
  (case k45=>k_is)
  (case a46=>k_is)
  (case l46=>k_is)
  (case e46=>k_is)
  (case k46=>k_is)
  (case a47=>k_is)
  (case l47=>k_is)
  (case e47=>k_is)
  (case k47=>k_is)
  (case a48=>k_is)
  (case l48=>k_is)
  (case e48=>k_is)
  (case k48=>k_is)
  (case a49=>k_is)
  (case l49=>k_is)
  (case e49=>k_is)
  (case k49=>k_is)
  (case a50=>k_is)
  (case l50=>k_is)
  (case e50=>k_is)
  (case k50=>k_is)
  (case a51=>k_is)
  (case l51=>k_is)
  (case e51=>k_is)
  (case k51=>k_is)
  (case a52=>k_is)
  (case l52=>k_is)
  (case e52=>k_is)
  (case k52=>k_is)
  (case a53=>k_is)
  (case l53=>k_is)
  (case e53=>k_is)
  (case k53=>k_is)
  (case a54=>k_is)
  (case l54=>k_is)
  (case e54=>k_is)
  (case k54=>k_is)
  (case a55=>k_is)
  (case l55=>k_is)
  (case e55=>k_is)
  (case k55=>k_is)
  (case a56=>k_is)
  (case l56=>k_is)
  (case e56=>k_is)
  (case k56=>k_is)
  (case a57=>k_is)
  (case l57=>k_is)
  (case e57=>k_is)
  (case k57=>k_is)
  (case a58=>k_is)
  (case l58=>k_is)
  (case e58=>k_is)
  (case k58=>k_is)
  (case a59=>k_is)
  (case l59=>k_is)
  (case e59=>k_is)
  (case k59=>k_is)
  (case a60=>k_is)
  (case l60=>k_is)
  (case e60=>k_is)
  (case k60=>k_is)
  (case a61=>k_is)
  (case l61=>k_is)
  (case e61=>k_is)
  (case k61=>k_is)
  (case a62=>k_is)
  (case l62=>k_is)
  (case e62=>k_is)
  (case k62=>k_is)
  (case a63=>k_is)
  (case l63=>k_is)
  (case e63=>k_is)
  (case k63=>k_is)
  (case a64=>k_is)
  (case l64=>k_is)
  (case e64=>k_is)
  (case k64=>k_is)
  (case a65=>k_is)
  (case l65=>k_is)
  (case e65=>k_is)
  (case k65=>k_is)
  (case a66=>k_is)
  (case l66=>k_is)
  (case e66=>k_is)
  (case k66=>k_is)
  (case a67=>k_is)
  (case l67=>k_is)
  (case e67=>k_is)
  (case k67=>k_is)
  (case a68=>k_is)
  (case l68=>k_is)
  (case e68=>k_is)
  (case k68=>k_is)
  (case a69=>k_is)
  (case l69=>k_is)
  (case e69=>k_is)
  (case k69=>k_is)
  (case a70=>k_is)
  (case l70=>k_is)
  (case e70=>k_is)
  (case k70=>k_is)
  (case a71=>k_is)
  (case l71=>k_is)
  (case e71=>k_is)
  (case k71=>k_is)
  (case ag_NOUGHT=>k_is)
  (case lg_NOUGHT=>k_is)
  (case ag_ONE=>k_is)
  (case lg_ONE=>k_is)
  (case ac_NoMeet=>k_is)
  (case eq_NoMeet=>kernel_rfl)
  (case y_abs=>k_is)
  (case y_zip=>k_is)
  (case y_max=>k_is)
  (case y_len=>k_is)
  (case y_list=>k_is)
  (case y_dict=>k_is)
  (case y_sorted=>k_is)
  (case y_set=>k_is)
  (case y_range=>k_is)
  (case y_min=>k_is)
