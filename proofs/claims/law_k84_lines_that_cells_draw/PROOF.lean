import PyProof.Rows.All
import Wide.All
import OpenK.AllK
import Wide.FinOn
import Lean
import PyProof.EqAt
import PyProof.EqKinds
import PyProof.TupleCall
import PySem.Challenge.RW_hingedraw_k84_lines_that_cells_draw
set_option Elab.async false
set_option linter.all false
set_option maxRecDepth 100000
set_option Elab.async false
set_option linter.all false
set_option maxRecDepth 100000
namespace L2
open PySem PySem.Spec PyProof.Rows
abbrev Key:=Sum Int Str
def keyIs:Key->Value->Bool
 | .inl k,v=>Value.isInt k v
 | .inr x,v=>Value.isStrOf x v
def keyH (w:World):Key->Int
 | .inl k=>hashInt k
 | .inr x=>hashStr w x
theorem keyIs_shape:∀ {k:Key} {v:Value},keyIs k v=true->(∃ i t,k=Sum.inl i/\v=Value.int i t)\/(∃ x t,k=Sum.inr x/\v=Value.str x t)
 | .inl i,v,h=>by
  obtain⟨t,e⟩:=Value.isInt_shape (k:=i) (v:=v) h
  exact .inl ⟨i,t,rfl,e⟩
 | .inr x,v,h=>by
  obtain⟨t,e⟩:=Value.isStrOf_shape (x:=x) (v:=v) h
  exact .inr ⟨x,t,rfl,e⟩
theorem key_ll (a b:Int):decide ((Sum.inl a:Key)=Sum.inl b)=(a == b):=by
 by_cases e:a=b
 ·subst e; simp
 ·have h:¬ (Sum.inl a:Key)=Sum.inl b:=fun q=>e (Sum.inl.inj q)
  rw [decide_eq_false h]
  exact(beq_eq_false_iff_ne.mpr e).symm
theorem key_rr (a b:Str):decide ((Sum.inr a:Key)=Sum.inr b)=decide (a=b):=by
 by_cases e:a=b
 ·subst e; simp
 ·have h:¬ (Sum.inr a:Key)=Sum.inr b:=fun q=>e (Sum.inr.inj q)
  rw [decide_eq_false h,decide_eq_false e]
theorem key_lr (a:Int) (b:Str):decide ((Sum.inl a:Key)=Sum.inr b)=false:=decide_eq_false (fun q=>nomatch q)
theorem key_rl (a:Str) (b:Int):decide ((Sum.inr a:Key)=Sum.inl b)=false:=decide_eq_false (fun q=>nomatch q)
def mixKind (prog:Program) (w:World):PySem.KeyKind prog w Key where
 is:=keyIs
 hash:=keyH w
 inj:=fun v a b ha hb=>by
  rcases keyIs_shape ha with ⟨i,t,rfl,rfl⟩ | ⟨x,t,rfl,rfl⟩
  ·rcases keyIs_shape hb with ⟨j,u,rfl,e⟩ | ⟨y,u,rfl,e⟩
   ·injection e with e1 _; rw [e1]
   ·exact nomatch e
  ·rcases keyIs_shape hb with ⟨j,u,rfl,e⟩ | ⟨y,u,rfl,e⟩
   ·exact nomatch e
   ·injection e with e1 _; rw [e1]
 byValue:=fun k v h=>by
  rcases keyIs_shape h with ⟨i,t,rfl,rfl⟩ | ⟨x,t,rfl,rfl⟩ <;> rfl
 pyHash:=fun hv h=>by
  rcases keyIs_shape hv with ⟨i,t,rfl,rfl⟩ | ⟨x,t,rfl,rfl⟩
  ·exact wpAny_pyHash_int h
  ·exact wpAny_pyHash_str h
 eqBool:=fun hu hv h=>by
  rcases keyIs_shape hu with ⟨i,t,rfl,rfl⟩ | ⟨x,t,rfl,rfl⟩
  ·rcases keyIs_shape hv with ⟨j,u,rfl,rfl⟩ | ⟨y,u,rfl,rfl⟩
   ·rw [key_ll] at h; exact wpAny_eqBool_int h
   ·rw [key_lr] at h; exact SeqAt.EqAt.int_str i t y u _ _ _ _ h
  ·rcases keyIs_shape hv with ⟨j,u,rfl,rfl⟩ | ⟨y,u,rfl,rfl⟩
   ·rw [key_rl] at h; exact SeqAt.EqAt.str_int x t j u _ _ _ _ h
   ·rw [key_rr] at h; exact wpAny_eqBool_str h
 «strs»:=fun k x t v h=>by
  rcases keyIs_shape h with ⟨i,u,rfl,e⟩ | ⟨y,u,rfl,e⟩
  ·exact nomatch e
  ·injection e with e1 _
   subst e1
   cases v <;> rfl
inductive V where
 | non | bl (b:Bool) | int (i:Int) | str (x:Str) | byt (b:Array UInt8) | flt (b:UInt64) | ref (a:Addr) | ty (n:String)
 deriving DecidableEq
def RelV:V->Value->Prop
 | .non,u=>u=Value.none
 | .bl b,u=>u=Value.bool b
 | .int i,u=>∃ t,u=Value.int i t
 | .str x,u=>∃ t,u=Value.str x t
 | .byt b,u=>∃ t,u=Value.bytes b t
 | .flt b,u=>∃ t,u=Value.float b t
 | .ref a,u=>u=Value.ref a
 | .ty n,u=>u=Value.type n
abbrev Vals:List V->List Value->Prop:=Paired RelV
theorem Vals.length {xs:List V} {us:List Value} (r:Vals xs us):xs.length=us.length:=Paired.length r
theorem Vals.get:∀ {xs:List V} {us:List Value} {i:Nat} {x:V},Vals xs us->xs[i]?=some x->∃ u,us[i]?=some u/\RelV x u
 | _,_,_,_,.nil,e=>by simp at e
 | _,_,0,_,.cons r _,e=>by simp at e; subst e; exact⟨_,rfl,r⟩
 | _,_,i+1,x,.cons _ t,e=>by
  obtain⟨u,h1,h2⟩:=Vals.get (i:=i) (x:=x) t (by simpa using e)
  exact⟨u,by simpa using h1,h2⟩
theorem Vals.set {x:V} {u:Value} (r:RelV x u):∀ {xs:List V} {us:List Value} (i:Nat),Vals xs us->Vals (xs.set i x) (us.set i u)
 | _,_,_,.nil=>.nil
 | _,_,0,.cons _ t=>.cons r t
 | _,_,i+1,.cons q t=>.cons q (Vals.set r i t)
theorem Vals.append:∀ {xs ys:List V} {us ws:List Value},Vals xs us->Vals ys ws->Vals (xs++ys) (us++ws)
 | _,_,_,_,.nil,s=>s
 | _,_,_,_,.cons r t,s=>.cons r (Vals.append t s)
theorem Vals.take:∀ {xs:List V} {us:List Value} (n:Nat),Vals xs us->Vals (xs.take n) (us.take n)
 | _,_,0,_=>.nil
 | _,_,_+1,.nil=>.nil
 | _,_,n+1,.cons r t=>.cons r (Vals.take n t)
theorem Vals.drop:∀ {xs:List V} {us:List Value} (n:Nat),Vals xs us->Vals (xs.drop n) (us.drop n)
 | _,_,0,r=>r
 | _,_,_+1,.nil=>.nil
 | _,_,n+1,.cons _ t=>Vals.drop n t
def RelO:Option V->Option Value->Prop
 | some v,some u=>RelV v u
 | none,none=>True
 | _,_=>False
def KV {κ:Type}:List (κ×V)->List (κ×Value)->Prop:=Paired fun(p:κ×V) (q:κ×Value)=>p.1=q.1/\RelV p.2 q.2
def kV:Key->V
 | .inl i=>.int i
 | .inr x=>.str x
inductive HO where
 | lst (xs:List V)
 | tup (xs:List V)
 | dK (kvs:List (Key×V)) | dT (kvs:List (List Key×V))
 | set (S:Int->Bool) (n:Nat)
 | ins (C dx:Addr) (fs:List (Str×V))
 | own (x:Addr)
 | xd (fs:List (Str×V))
 | met (f x:Addr)
 | rng (lo hi:Int)
 | frz (o:Obj) (u:HO)
 | tbl (ps:Array Value)
 | ext (φ:Heap->Prop)
abbrev Hp:=Addr->Option HO
def upd (H:Hp) (a:Addr) (o:HO):Hp:=fun b=>if b=a then some o else H b
theorem upd_same {H:Hp} {a:Addr} {o:HO}:upd H a o a=some o:=by unfold upd; rw [if_pos rfl]
theorem upd_ne {H:Hp} {a b:Addr} {o:HO} (h:b≠a):upd H a o b=H b:=by unfold upd; rw [if_neg h]
theorem ne_of_none {H:Hp} {a b:Addr} {o:HO} (h:H a=some o) (h':H b=none):a≠b:=by
 intro e; subst e; rw [h] at h'; cases h'
section
variable (P:Program) (w:World)
def ObjOk (H:Hp) (h:Heap) (a:Addr):HO->Prop
 | .lst xs=>xs.length<=sizeLine/\∃ (its:List Value) (n:Nat),Vals xs its/\h.get? a=some {cls:=.type "list",data:=.seq its.toArray n}
 | .tup xs=>xs.length<=sizeLine/\∃ its:List Value,Vals xs its/\IsTup h a its.toArray
 | .dK kvs=>kvs.length<=sizeLine/\(a == sysModules)=false/\∃ vs,KV kvs vs/\h.DictOf (mixKind P w) a vs
 | .dT kvs=>kvs.length<=sizeLine/\(a == sysModules)=false/\∃ xs:List (List Key×Addr×Value),
   Paired (fun (p:List Key×V) (q:List Key×Addr×Value)=>p.1=q.1/\H q.2.1=some (.tup (p.1.map kV))/\RelV p.2 q.2.2) kvs xs/\
   ∃ o es ep,h.get? a=some o/\o.ExactDict/\o.data=.dict es ep/\es.toList=xs.map (entryOfKey (tupleKind (mixKind P w)))/\(xs.map (·.1)).Nodup
 | .set S n=>h.SetOf (intKind P w) a S n
 | .ins C dx fs=>H dx=some (.own a)/\fs.length<=1000/\dx≠a/\h.get? a=some (PySem.W.instObj C dx)/\
   ∃ mA,h.Ns1 dx mA/\(∀ f,RelO (fs.lookup f) (mA f))/\PySem.Within mA (fs.map (·.1))
 | .own _=>∃ o,h.get? a=some o
 | .xd fs=>∃ mA,h.Ns1 a mA/\∀ f,RelO (fs.lookup f) (mA f)
 | .rng lo hi=>∃ t u v,h.get? a=some {cls:=.type "range",data:=.fields #[.int lo t,.int hi u,.int 1 v]}
 | .frz o u=>h.get? a=some o/\ObjOk H h a u
 | .tbl ps=>h.get? a=some {cls:=.none,data:=.fields ps}
 | .met f x=>h.get? a=some (PySem.W.methodObj (.ref f) (.ref x))
 | .ext φ=>φ h/\(∃ o,h.get? a=some o)/\∀ h1 h2:Heap,φ h1->(∀ o,h1.get? a=some o->h2.get? a=some o)->φ h2
def HOk (H:Hp) (h:Heap):Prop:=∀ a o,H a=some o->ObjOk P w H h a o
end
section
variable {P:Program} {w:World} {H H':Hp} {h h':Heap} {a:Addr} {o:HO}
theorem ObjOk.lt (x:ObjOk P w H h a o):a < h.objs.size:=by
 cases o with
 | lst xs=>obtain⟨_,_,_,_,e⟩:=x; exact Heap.lt_size e
 | tup xs=>obtain⟨_,_,_,p⟩:=x; exact p.lt
 | dK kvs=>obtain⟨_,_,_,_,o,_,_,e,_⟩:=x; exact Heap.lt_size e
 | dT kvs=>obtain⟨_,_,_,_,o,_,_,e,_⟩:=x; exact Heap.lt_size e
 | set S n=>obtain⟨o,_,_,_,e,_⟩:=x; exact Heap.lt_size e
 | ins C dx fs=>obtain⟨_,_,_,e,_⟩:=x; exact Heap.lt_size e
 | own y=>obtain⟨_,e⟩:=x; exact Heap.lt_size e
 | xd fs=>obtain⟨_,⟨_,_,_,e,_⟩,_⟩:=x; exact Heap.lt_size e
 | rng lo hi=>obtain⟨_,_,_,e⟩:=x; exact Heap.lt_size e
 | frz ob u=>obtain⟨e,_⟩:=x; exact Heap.lt_size e
 | tbl ps=>exact Heap.lt_size (show h.get? a=some _ from x)
 | met f y=>exact Heap.lt_size (show h.get? a=some _ from x)
 | ext φ=>obtain⟨_,⟨_,e⟩,_⟩:=x; exact Heap.lt_size e
theorem Paired.mapP {α β:Type} {F G:α->β->Prop}:∀ {l₁:List α} {l₂:List β},Paired F l₁ l₂->(∀ a b,F a b->G a b)->Paired G l₁ l₂
 | _,_,.nil,_=>.nil
 | _,_,.cons r t,f=>.cons (f _ _ r) (Paired.mapP t f)
theorem ObjOk.stay (x:ObjOk P w H h a o) (k:∀ b u,(b=a\/H b=some (.own a))->h.get? b=some u->h'.get? b=some u)
  (ho:∀ b,H b=some (.own a)->H' b=some (.own a)) (ht:∀ b xs,H b=some (.tup xs)->H' b=some (.tup xs)):ObjOk P w H' h' a o:=by
 induction o with
 | lst xs=>obtain⟨z,its,n,r,e⟩:=x; exact⟨z,its,n,r,k _ _ (.inl rfl) e⟩
 | tup xs=>obtain⟨z,its,r,ob,e,c⟩:=x; exact⟨z,its,r,ob,k _ _ (.inl rfl) e,c⟩
 | dK kvs=>obtain⟨z,y,vs,r,ob,es,ep,e,c⟩:=x; exact⟨z,y,vs,r,ob,es,ep,k _ _ (.inl rfl) e,c⟩
 | dT kvs=>
  obtain⟨z,y,xs,r,ob,es,ep,e,c⟩:=x
  exact⟨z,y,xs,Paired.mapP r fun p q z=>⟨z.1,ht _ _ z.2.1,z.2.2⟩,ob,es,ep,k _ _ (.inl rfl) e,c⟩
 | set S n=>obtain⟨ob,es,ep,t,e,c⟩:=x; exact⟨ob,es,ep,t,k _ _ (.inl rfl) e,c⟩
 | ins C dx fs=>
  obtain⟨d,z,ne,e,mA,⟨od,es,ep,e2,c⟩,r⟩:=x
  exact⟨ho _ d,z,ne,k _ _ (.inl rfl) e,mA,⟨od,es,ep,k _ _ (.inr d) e2,c⟩,r⟩
 | own y=>obtain⟨ob,e⟩:=x; exact⟨ob,k _ _ (.inl rfl) e⟩
 | xd fs=>obtain⟨mA,⟨od,es,ep,e,c⟩,r⟩:=x; exact⟨mA,⟨od,es,ep,k _ _ (.inl rfl) e,c⟩,r⟩
 | rng lo hi=>obtain⟨t,u,v,e⟩:=x; exact⟨t,u,v,k _ _ (.inl rfl) e⟩
 | frz ob u ih=>obtain⟨e,q⟩:=x; exact⟨k _ _ (.inl rfl) e,ih q⟩
 | tbl ps=>
  have e:h.get? a=some {cls:=.none,data:=.fields ps}:=x
  show h'.get? a=some {cls:=.none,data:=.fields ps}
  exact k a _ (.inl rfl) e
 | met f y=>
  have e:h.get? a=some (PySem.W.methodObj (.ref f) (.ref y)):=x
  show h'.get? a=some (PySem.W.methodObj (.ref f) (.ref y))
  exact k a _ (.inl rfl) e
 | ext φ=>obtain⟨p,⟨o,e⟩,st⟩:=x; exact⟨st _ _ p fun o q=>k _ _ (.inl rfl) q,⟨o,k _ _ (.inl rfl) e⟩,st⟩
theorem HOk.lt (x:HOk P w H h) (e:H a=some o):a < h.objs.size:=(x a o e).lt
theorem HOk.fresh (x:HOk P w H h) (e:h.objs.size<=a):H a=none:=by
 cases q:H a with
 | none=>rfl
 | some u=>exact absurd (Nat.lt_of_lt_of_le (x.lt q) e) (Nat.lt_irrefl _)
theorem HOk.kept (x:HOk P w H h) (k:∀ b u,h.get? b=some u->h'.get? b=some u):HOk P w H h':=fun a o e=>
 (x a o e).stay (fun b u _ q=>k b u q) (fun _ q=>q) fun _ _ q=>q
theorem HOk.laid (x:HOk P w H h) (k:∀ b u,h.get? b=some u->h'.get? b=some u) (hp:h.objs.size<=a) (new:ObjOk P w (upd H a o) h' a o):HOk P w (upd H a o) h':=fun b u e=>by
 have hn:=x.fresh hp
 by_cases hb:b=a
 ·subst hb; rw [upd_same] at e; cases e; exact new
 ·rw [upd_ne hb] at e
  exact(x b u e).stay (fun c v _ q=>k c v q) (fun c q=>by rw [upd_ne (ne_of_none q hn)]; exact q) fun c xs q=>by rw [upd_ne (ne_of_none q hn)]; exact q
end
def Rd (H:Hp) (a:Addr) (u:HO):Prop:=H a=some u\/∃ o,H a=some (.frz o u)
theorem Rd.ok {P:Program} {w:World} {H:Hp} {h:Heap} {a:Addr} {u:HO} (r:Rd H a u) (x:HOk P w H h):ObjOk P w H h a u:=by
 rcases r with r | ⟨o,r⟩
 ·exact x a u r
 ·obtain⟨_,q⟩:=x a _ r
  exact q
def Mut:Option HO->Prop
 | some (.lst _)=>True
 | some (.dK _)=>True
 | some (.dT _)=>True
 | some (.set _ _)=>True
 | some (.ins _ _ _)=>True
 | some (.ext _)=>True
 | _=>False
section
variable {P:Program} {w:World} {H:Hp} {h h':Heap} {x e:Addr} {o':HO}
theorem HOk.write (ok:HOk P w H h) (mu:Mut (H x)) (he:e=x\/H e=some (.own x)) (k:∀ b u,b≠e->h.get? b=some u->h'.get? b=some u) (heo:∃ u,h'.get? e=some u)
  (new:ObjOk P w (upd H x o') h' x o'):HOk P w (upd H x o') h':=fun b u q=>by
 have nown:∀ c y,H c=some (.own y)->c≠x:=fun c y r z=>by subst z; rw [r] at mu; exact mu
 have ntup:∀ c xs,H c=some (.tup xs)->c≠x:=fun c xs r z=>by subst z; rw [r] at mu; exact mu
 by_cases hb:b=x
 ·subst hb; rw [upd_same] at q; cases q; exact new
 ·rw [upd_ne hb] at q
  by_cases hbe:b=e
  ·have q':H b=some (.own x):=by
    rcases he with z | z
    ·exact absurd (hbe.trans z) hb
    ·rw [hbe]; exact z
   rw [q] at q'; cases q'
   obtain⟨v,hv⟩:=heo
   exact⟨v,by rw [hbe]; exact hv⟩
  ·refine(ok b u q).stay (fun c v hc r=>k c v ?_ r) (fun c r=>by rw [upd_ne (nown c b r)]; exact r) fun c xs r=>by rw [upd_ne (ntup c xs r)]; exact r
   rcases hc with rfl | hc
   ·exact hbe
   ·rintro rfl
    rcases he with z | z
    ·exact nown c b hc z
    ·rw [hc] at z; cases z; exact hb rfl
end
structure Un (fs ex:List Addr) (H H':Hp) (h h':Heap):Prop where
 keep:∀ b o,h.get? b=some o->H b=none->b∉fs->b∉ex->h'.get? b=some o
 slot:∀ b o,h.get? b=some o->H b=none->b∈fs->b∉ex->∃ sl,h'.get? b=some {o with slots:=sl}
 free:∀ b o,h.get? b=some o->H b=none->b∉ex->H' b=none
 there:∀ b o,h.get? b=some o->b∉ex->∃ o',h'.get? b=some o'
 tups:∀ b xs,H b=some (.tup xs)->H' b=some (.tup xs)
 frzs:∀ b o u,H b=some (.frz o u)->H' b=some (.frz o u)
 tbls:∀ b ps,H b=some (.tbl ps)->∃ more,H' b=some (.tbl (ps++more))
section
variable {fs fs' ex ex':List Addr} {H H1 H2:Hp} {h h1 h2 h':Heap} {a x e:Addr} {o:HO}
theorem Un.any (u:Un fs ex H H1 h h1) {b:Addr} {ob:Obj} (q:h.get? b=some ob) (n:H b=none) (hx:b∉ex):∃ sl,h1.get? b=some {ob with slots:=sl}:=by
 by_cases hb:b∈fs
 ·exact u.slot b ob q n hb hx
 ·exact⟨ob.slots,u.keep b ob q n hb hx⟩
theorem Un.trans (a:Un fs ex H H1 h h1) (b:Un fs ex H1 H2 h1 h2):Un fs ex H H2 h h2 where
 keep:=fun c ob q n hc hx=>b.keep c ob (a.keep c ob q n hc hx) (a.free c ob q n hx) hc hx
 slot:=fun c ob q n hc hx=>by
  obtain⟨sl,e1⟩:=a.slot c ob q n hc hx
  obtain⟨sl',e2⟩:=b.slot c _ e1 (a.free c ob q n hx) hc hx
  exact⟨sl',e2⟩
 free:=fun c ob q n hx=>by
  obtain⟨o',e1⟩:=a.there c ob q hx
  exact b.free c o' e1 (a.free c ob q n hx) hx
 there:=fun c ob q hx=>by
  obtain⟨o',e1⟩:=a.there c ob q hx
  exact b.there c o' e1 hx
 tups:=fun c xs q=>b.tups c xs (a.tups c xs q)
 frzs:=fun c ob xs q=>b.frzs c ob xs (a.frzs c ob xs q)
 tbls:=fun c ps q=>by
  obtain⟨m1,e1⟩:=a.tbls c ps q
  obtain⟨m2,e2⟩:=b.tbls c _ e1
  exact⟨m1++m2,by rw [e2,Array.append_assoc]⟩
theorem Un.kept (k:∀ b u,h.get? b=some u->h'.get? b=some u):Un fs ex H H h h':=
 ⟨fun b ob q _ _ _=>k b ob q,fun b ob q _ _ _=>⟨ob.slots,k b ob q⟩,fun _ _ _ n _=>n,fun b ob q _=>⟨ob,k b ob q⟩,fun _ _ q=>q,fun _ _ _ q=>q,fun _ ps q=>⟨#[],by rw [q]; simp⟩⟩
theorem Un.refl:Un fs ex H H h h:=Un.kept fun _ _ q=>q
theorem Un.laid (k:∀ b u,h.get? b=some u->h'.get? b=some u) (hp:h.objs.size<=a) (hn:H a=none):Un fs ex H (upd H a o) h h' where
 keep:=fun b u q _ _ _=>k b u q
 slot:=fun b u q _ _ _=>⟨u.slots,k b u q⟩
 free:=fun b u q n _=>by rw [upd_ne (Nat.ne_of_lt (Nat.lt_of_lt_of_le (Heap.lt_size q) hp))]; exact n
 there:=fun b u q _=>⟨u,k b u q⟩
 tups:=fun b xs q=>by rw [upd_ne (ne_of_none q hn)]; exact q
 frzs:=fun b u xs q=>by rw [upd_ne (ne_of_none q hn)]; exact q
 tbls:=fun b ps q=>⟨#[],by rw [upd_ne (ne_of_none q hn),q]; simp⟩
theorem Un.write (mu:Mut (H x)) (he:e=x\/H e=some (.own x)) (k:∀ b u,b≠e->h.get? b=some u->h'.get? b=some u) (heo:∃ u,h'.get? e=some u):Un fs ex H (upd H x o) h h':=by
 have hx:∀ b,H b=none->b≠x:=fun b n z=>by subst z; rw [n] at mu; exact mu
 have hb:∀ b,H b=none->b≠e:=fun b n z=>by
  subst z
  rcases he with r | r
  ·exact hx b n r
  ·rw [n] at r; cases r
 have hm:∀ b u,H b=some u->¬ Mut (some u)->b≠x:=fun b u q nm z=>by subst z; rw [q] at mu; exact nm mu
 refine⟨fun b u q n _ _=>k b u (hb b n) q,fun b u q n _ _=>⟨u.slots,k b u (hb b n) q⟩,fun b u q n _=>by rw [upd_ne (hx b n)]; exact n,fun b u q _=>?_,
  fun b xs q=>by rw [upd_ne (hm b _ q fun z=>z)]; exact q,fun b u xs q=>by rw [upd_ne (hm b _ q fun z=>z)]; exact q,fun b ps q=>⟨#[],by rw [upd_ne (hm b _ q fun z=>z),q]; simp⟩⟩
 by_cases hbe:b=e
 ·subst hbe; exact heo
 ·exact⟨u,k b u hbe q⟩
end
def trk (h:Heap) (H:Hp):List Addr:=(List.range h.objs.size).filter fun a=>(H a).isSome
def hidT (h:Heap) (H:Hp):Heap:=PySem.W.hideAll h (trk h H)
theorem hidT_size (h:Heap) (H:Hp):(hidT h H).objs.size=h.objs.size:=PySem.W.hideAll_size _ _
theorem hidT_get {h:Heap} {H:Hp} {b:Addr} {o:Obj} (e:h.get? b=some o) (n:H b=none):(hidT h H).get? b=some o:=
 PySem.W.hideAll_get _ e fun hm=>by
  have q:(H b).isSome=true:=(List.mem_filter.mp hm).2
  rw [n] at q; simp at q
theorem of_hidT {h:Heap} {H:Hp} {b:Addr} {o:Obj} (e:(hidT h H).get? b=some o):h.get? b=some o/\H b=none:=by
 have e':h.get? b=some o:=PySem.W.of_hideAll (trk h H) e
 refine⟨e',?_⟩
 cases q:H b with
 | none=>rfl
 | some x=>
  have hm:b∈trk h H:=List.mem_filter.mpr ⟨List.mem_range.mpr (Heap.lt_size e'),by simp [q]⟩
  have z:(hidT h H).get? b=none:=PySem.W.hideAll_none (trk h H) hm
  rw [z] at e; cases e
def allNews (g h:Heap) (L:Addr):List (Addr×Obj):=(List.range h.objs.size).filterMap fun a=>if a=L\/(g.get? a).isSome=true then none else(h.get? a).map fun o=>(a,o)
def rest (g h:Heap) (L d:Addr):List (Addr×Obj):=(allNews g h L).filter fun p=>decide (p.1≠d)
structure Mod (K:PySem.W.Frag) (mg:Str->Option Value) (base:Heap):Prop where
 kin:K.In base
 glob:base.Ns mainGlobals mg
 blt:∃ mb,base.Ns builtinsNs mb/\∀ x:Str,x≠"__name__"->mb x=bootBuiltins x
 nolimit:base.NoLimit
structure Cx where
 prog:Program
 w:World
 K:PySem.W.Frag
 mg:Str->Option Value
 base:Heap
 A:Around
 N:List Str
 s₀:Shared
 H₀:Hp
 env:Env
 outer:List Env
 stack:List Env
 ex:List Addr
 fn:Str->Bool
 calm:Bool
 pn:List (Addr×Obj)
 xe:Value->Shared->Prop
def frs (l:List Env):List Addr:=l.filterMap (·.frame)
abbrev Cx.fs (X:Cx):List Addr:=frs X.outer
def Vis (sc:Scope) (x:Str):Prop:=sc.names.lookup x=some .local\/sc.names.lookup x=some .cell\/sc.names.lookup x=some .free
def Loc (sc:Scope) (x:Str):Prop:=sc.names.lookup x=some .local\/sc.names.lookup x=some .cell
def Look (env:Env) (h:Heap) (m:Str->Option Value) (x:Str) (u:Value):Prop:=
 (env.kindOf x=some .local/\m x=some u)\/((env.kindOf x=some .cell\/env.kindOf x=some .free)/\∃ c,env.cells.lookup x=some c/\h.IsCell c (some u))
structure Cx.Ok (X:Cx):Prop where
 mod:Mod X.K X.mg X.base
 kind:X.env.scope.kind=.function
 glob:X.env.globals=mainGlobals
 blt:X.env.builtins=builtinsNs
 above:X.s₀.heap.objs.size<=X.env.locals
 inj:∀ x y c,X.env.cells.lookup x=some c->X.env.cells.lookup y=some c->x=y
 has:∀ x,(X.env.kindOf x=some .cell\/X.env.kindOf x=some .free)->∃ c,X.env.cells.lookup x=some c
 cab:∀ x c,X.fn x=true->X.env.cells.lookup x=some c->X.s₀.heap.objs.size<=c
 hd:X.calm=true->X.A.handled=none
 frames:X.A.frames=some X.stack
 stk:X.stack=X.outer\/(X.stack=X.env::X.outer/\X.env.frame=some X.env.locals)
 exf:∀ b∈X.ex,b≠X.env.locals/\∀ x c,X.env.cells.lookup x=some c->c≠b
 bs:∀ b o,X.base.get? b=some o->X.s₀.heap.get? b=some o/\X.H₀ b=none
 bsz:X.base.objs.size<=X.s₀.heap.objs.size
 noex:∀ b o,X.base.get? b=some o->b∉X.ex
 exfs:∀ b∈X.ex,b∉X.fs
 funs:X.s₀.heap.FunFrames X.base X.outer
 frf:∀ b∈X.fs,X.H₀ b=none
structure Inv (X:Cx) (pins:List (Addr×Obj)) (σ:List (Option V)) (H:Hp) (s:Shared):Prop where
 ok:X.Ok
 os:s.os=X.s₀.os
 bare:AllBare s.gens
 base:Un X.fs X.ex X.H₀ H X.s₀.heap s.heap
 loc:∃ m,s.heap.Ns X.env.locals m/\∀ (i:Nat) (x:Str) (v:V),X.N[i]?=some x->σ[i]?=some (some v)->Vis X.env.scope x->∃ u,RelV v u/\Look X.env s.heap m x u
 cell:∀ x c,X.env.cells.lookup x=some c->∃ v,s.heap.IsCell c v
 free:H X.env.locals=none
 freeC:∀ x c,X.env.cells.lookup x=some c->H c=none
 pin:∀ p∈X.pn++pins,s.heap.get? p.1=some p.2/\H p.1=none/\p.1≠X.env.locals/\p.1∉X.fs/\∀ v,p.2.data≠.cell v
 hok:HOk X.prog X.w H s.heap
 len:σ.length=X.N.length
section
variable {X:Cx} {pins:List (Addr×Obj)} {σ:List (Option V)} {H H':Hp} {s:Shared} {h':Heap}
theorem Cx.Ok.nofr (ok:X.Ok) {b:Addr} {o:Obj} (e:X.base.get? b=some o):b∉X.fs:=fun hb=>by
 have:=(ok.funs.mem hb).1
 rw [e] at this; cases this
theorem Inv.bs (I:Inv X pins σ H s):∀ b o,X.base.get? b=some o->s.heap.get? b=some o/\H b=none:=fun b o e=>
 ⟨I.base.keep b o (I.ok.bs b o e).1 (I.ok.bs b o e).2 (I.ok.nofr e) (I.ok.noex b o e),I.base.free b o (I.ok.bs b o e).1 (I.ok.bs b o e).2 (I.ok.noex b o e)⟩
theorem Inv.bk (I:Inv X pins σ H s):∀ b o,X.base.get? b=some o->s.heap.get? b=some o:=fun b o e=>(I.bs b o e).1
theorem Inv.mod (I:Inv X pins σ H s):Mod X.K X.mg X.base:=I.ok.mod
theorem Inv.kIn (I:Inv X pins σ H s):X.K.In s.heap:=I.ok.mod.kin.keeps I.bk
theorem Inv.lt (I:Inv X pins σ H s):X.env.locals < s.heap.objs.size:=let ⟨_,hn,_⟩:=I.loc; hn.lt
theorem Inv.sz (I:Inv X pins σ H s):X.s₀.heap.objs.size<=s.heap.objs.size:=Nat.le_trans I.ok.above (Nat.le_of_lt I.lt)
theorem Inv.nofs (I:Inv X pins σ H s) {a:Addr} (h:s.heap.objs.size<=a):a∉X.fs:=fun hb=>by
 obtain⟨_,o,ho,_⟩:=I.ok.funs.mem hb
 exact absurd (Nat.lt_of_lt_of_le (Heap.lt_size ho) (Nat.le_trans I.sz h)) (Nat.lt_irrefl _)
theorem Inv.cne (I:Inv X pins σ H s):∀ x c,X.env.cells.lookup x=some c->c≠X.env.locals:=fun x c e z=>by
 obtain⟨v,o,ho,hd⟩:=I.cell x c e
 obtain⟨m,⟨o',es,ep,ho',hd',_⟩,_⟩:=I.loc
 rw [z,ho'] at ho; cases ho; rw [hd'] at hd; cases hd
theorem Inv.funs (I:Inv X pins σ H s):s.heap.FunFrames X.base X.outer:=by
 have all:∀ (l:List Env),(∀ b∈frs l,b∈X.fs)->X.s₀.heap.FunFrames X.base l->s.heap.FunFrames X.base l:=by
  intro l
  induction l with
  | nil=>intro _ _; trivial
  | cons env r ih=>
   intro hs hl
   obtain⟨hk,⟨L,o,hf,hn,ho,hd⟩,hr⟩:=hl
   have hL:L∈X.fs:=hs L (by unfold frs; rw [List.filterMap_cons,hf]; exact List.mem_cons_self)
   obtain⟨sl,e⟩:=I.base.slot L o ho (I.ok.frf L hL) hL fun z=>I.ok.exfs L z hL
   exact⟨hk,⟨L,_,hf,hn,e,hd⟩,ih (fun b hb=>hs b (by unfold frs; rw [List.filterMap_cons,hf]; exact List.mem_cons_of_mem _ hb)) hr⟩
 exact all X.outer (fun _ hb=>hb) I.ok.funs
theorem Inv.stack (I:Inv X pins σ H s):s.heap.FunFrames X.base X.stack:=by
 rcases I.ok.stk with e | ⟨e,hf⟩
 ·rw [e]; exact I.funs
 ·rw [e]
  obtain⟨m,hn,_⟩:=I.loc
  refine .cons (by rw [I.ok.kind]; decide) hf hn ?_ I.funs
  exact Heap.get?_none_of_le (Nat.le_trans I.ok.bsz I.ok.above)
theorem Inv.stkSub (I:Inv X pins σ H s):∀ b∈frs X.stack,b∈X.env.locals::X.fs:=fun b hb=>by
 rcases I.ok.stk with e | ⟨e,hf⟩
 ·rw [e] at hb; exact List.mem_cons_of_mem _ hb
 ·rw [e] at hb
  unfold frs at hb
  rw [List.filterMap_cons,hf] at hb
  exact hb
theorem Inv.stkFree (I:Inv X pins σ H s):∀ b∈frs X.stack,H b=none:=fun b hb=>by
 rcases List.mem_cons.mp (I.stkSub b hb) with e | hb
 ·rw [e]; exact I.free
 ·obtain⟨_,o,ho,_⟩:=I.ok.funs.mem hb
  exact I.base.free b o ho (I.ok.frf b hb) fun z=>I.ok.exfs b z hb
theorem Inv.step {g':Array GenState} {t':Nat} {d':Drawn} {ch:List Addr} (I:Inv X pins σ H s)
  (hch:∀ b∈ch,(b∈X.ex\/X.s₀.heap.objs.size<=b)/\b≠X.env.locals/\(∀ x c,X.env.cells.lookup x=some c->c≠b)/\∀ p∈X.pn++pins,p.1≠b)
  (keep:∀ b o,b≠X.env.locals->b∉X.fs->b∉ch->s.heap.get? b=some o->H b=none->h'.get? b=some o)
  (slot:∀ b o,b≠X.env.locals->b∈X.fs->b∉ch->s.heap.get? b=some o->H b=none->∃ sl,h'.get? b=some {o with slots:=sl}) (free:∀ b o,b∉ch->s.heap.get? b=some o->H b=none->H' b=none)
  (there:∀ b o,b∉ch->s.heap.get? b=some o->∃ o',h'.get? b=some o')
  (tups:∀ b xs,H b=some (.tup xs)->H' b=some (.tup xs)) (frzs:∀ b o u,H b=some (.frz o u)->H' b=some (.frz o u)) (tbls:∀ b ps,H b=some (.tbl ps)->∃ more,H' b=some (.tbl (ps++more)))
  (ns:∀ m,s.heap.Ns X.env.locals m->h'.Ns X.env.locals m) (hok:HOk X.prog X.w H' h') (hg:AllBare g'):
  Inv X pins σ H' {s with heap:=h',gens:=g',drawn:=d',toks:=t'}:=by
 have neL:∀ b o,X.s₀.heap.get? b=some o->b≠X.env.locals:=fun b o e=>Nat.ne_of_lt (Nat.lt_of_lt_of_le (Heap.lt_size e) I.ok.above)
 have neC:∀ b o,X.s₀.heap.get? b=some o->b∉X.ex->b∉ch:=fun b o e hx hb=>by
  rcases(hch b hb).1 with z | z
  ·exact hx z
  ·exact absurd (Nat.lt_of_lt_of_le (Heap.lt_size e) z) (Nat.lt_irrefl _)
 have cellK:∀ x c,X.env.cells.lookup x=some c->∀ v,s.heap.IsCell c v->h'.IsCell c v:=fun x c e v ⟨o,ho,hd⟩=>by
  have nch:c∉ch:=fun z=>(hch c z).2.2.1 x c e rfl
  by_cases hc:c∈X.fs
  ·obtain⟨sl,q⟩:=slot c o (I.cne x c e) hc nch ho (I.freeC x c e)
   exact⟨_,q,hd⟩
  ·exact⟨o,keep c o (I.cne x c e) hc nch ho (I.freeC x c e),hd⟩
 refine⟨I.ok,I.os,hg,⟨fun b o e n hb hx=>?_,fun b o e n hb hx=>?_,fun b o e n hx=>?_,fun b o e hx=>?_,fun b xs e=>tups b xs (I.base.tups b xs e),fun b o xs e=>frzs b o xs (I.base.frzs b o xs e),fun b ps e=>?_⟩,?_,fun x c e=>?_,?_,fun x c e=>?_,fun p hp=>?_,hok,I.len⟩
 ·exact keep b o (neL b o e) hb (neC b o e hx) (I.base.keep b o e n hb hx) (I.base.free b o e n hx)
 ·obtain⟨sl,e1⟩:=I.base.slot b o e n hb hx
  obtain⟨sl',e2⟩:=slot b _ (neL b o e) hb (neC b o e hx) e1 (I.base.free b o e n hx)
  exact⟨sl',e2⟩
 ·obtain⟨o',e1⟩:=I.base.there b o e hx
  exact free b o' (neC b o e hx) e1 (I.base.free b o e n hx)
 ·obtain⟨o',e1⟩:=I.base.there b o e hx
  exact there b o' (neC b o e hx) e1
 ·obtain⟨m1,e1⟩:=I.base.tbls b ps e
  obtain⟨m2,e2⟩:=tbls b _ e1
  exact⟨m1++m2,by rw [e2,Array.append_assoc]⟩
 ·obtain⟨m,hn,hl⟩:=I.loc
  refine⟨m,ns m hn,fun i x v e1 e2 e3=>?_⟩
  obtain⟨u,r,l⟩:=hl i x v e1 e2 e3
  refine⟨u,r,?_⟩
  rcases l with l | ⟨k,c,e,z⟩
  ·exact .inl l
  ·exact .inr ⟨k,c,e,cellK x c e _ z⟩
 ·obtain⟨v,z⟩:=I.cell x c e
  exact⟨v,cellK x c e v z⟩
 ·obtain⟨m,⟨o,_,_,ho,_⟩,_⟩:=I.loc
  exact free _ o (fun z=>(hch _ z).2.1 rfl) ho I.free
 ·obtain⟨v,o,ho,hd⟩:=I.cell x c e
  exact free c o (fun z=>(hch c z).2.2.1 x c e rfl) ho (I.freeC x c e)
 ·obtain⟨e,n,ne,nf,d⟩:=I.pin p hp
  have nch:p.1∉ch:=fun z=>(hch p.1 z).2.2.2 p hp rfl
  exact⟨keep p.1 p.2 ne nf nch e n,free p.1 p.2 nch e n,ne,nf,d⟩
theorem Inv.un {t':Nat} (I:Inv X pins σ H s) (u:Un X.fs [] H H' s.heap h') (hok:HOk X.prog X.w H' h'):Inv X pins σ H' {s with heap:=h',toks:=t'}:=by
 obtain⟨m,⟨o,es,ep,ho,r⟩,_⟩:=id I.loc
 obtain⟨sl,hL⟩:=u.any ho I.free (by simp)
 exact I.step (g':=s.gens) (d':=s.drawn) (ch:=[]) (fun _ z=>nomatch z) (fun b o _ hb _ e n=>u.keep b o e n hb (by simp)) (fun b o _ hb _ e n=>u.slot b o e n hb (by simp)) (fun b o _ e n=>u.free b o e n (by simp)) (fun b o _ e=>u.there b o e (by simp)) u.tups u.frzs u.tbls (fun m' hm=>by
  obtain⟨o',es',ep',ho',r'⟩:=hm
  rw [ho] at ho'; cases ho'
  exact⟨_,es',ep',hL,r'⟩) hok I.bare
theorem Inv.call {g':Array GenState} {t':Nat} {d':Drawn} {ch:List Addr} (I:Inv X pins σ H s) (u:Un (frs X.stack) ch H H' s.heap h') (hok:HOk X.prog X.w H' h') (hg:AllBare g')
  (hch:∀ b∈ch,(b∈X.ex\/X.s₀.heap.objs.size<=b)/\b≠X.env.locals/\(∀ x c,X.env.cells.lookup x=some c->c≠b)/\∀ p∈X.pn++pins,p.1≠b):
  Inv X pins σ H' {s with heap:=h',gens:=g',drawn:=d',toks:=t'}:=by
 obtain⟨m,⟨o,es,ep,ho,r⟩,_⟩:=id I.loc
 obtain⟨sl,hL⟩:=u.any ho I.free fun z=>(hch _ z).2.1 rfl
 exact I.step (ch:=ch) hch (fun b o hL hb hc e n=>u.keep b o e n (fun z=>(List.mem_cons.mp (I.stkSub b z)).elim hL hb) hc) (fun b o _ _ hc e n=>u.any e n hc) (fun b o hc e n=>u.free b o e n hc) (fun b o hc e=>u.there b o e hc) u.tups u.frzs u.tbls (fun m' hm=>by
  obtain⟨o',es',ep',ho',r'⟩:=hm
  rw [ho] at ho'; cases ho'
  exact⟨_,es',ep',hL,r'⟩) hok hg
theorem Inv.turned {t':Nat} {it:Addr} (I:Inv X pins σ H s) (k:∀ b o,b≠it->s.heap.get? b=some o->h'.get? b=some o) (hn:H it=none) (hL:it≠X.env.locals)
  (h1:it∈X.ex\/X.s₀.heap.objs.size<=it) (h2:∀ x c,X.env.cells.lookup x=some c->c≠it) (h3:∀ p∈X.pn++pins,p.1≠it):Inv X pins σ H {s with heap:=h',toks:=t'}:=by
 have nit:∀ b u,H b=some u->b≠it:=fun b u e z=>by rw [z,hn] at e; cases e
 refine I.step (g':=s.gens) (d':=s.drawn) (ch:=[it]) (fun b hb=>?_) (fun b o _ _ hc e _=>k b o (fun z=>hc (by simp [z])) e) (fun b o _ _ hc e _=>⟨o.slots,k b o (fun z=>hc (by simp [z])) e⟩) (fun _ _ _ _ n=>n)
  (fun b o hc e=>⟨o,k b o (fun z=>hc (by simp [z])) e⟩) (fun _ _ e=>e) (fun _ _ _ e=>e) (fun b ps e=>⟨#[],by rw [e]; simp⟩) (fun m hm=>?_) (fun b u e=>?_) I.bare
 ·have e:b=it:=by simpa using hb
  subst e
  exact⟨h1,hL,h2,h3⟩
 ·obtain⟨o,es,ep,ho,r⟩:=hm
  exact⟨o,es,ep,k _ o (Ne.symm hL) ho,r⟩
 ·refine(I.hok b u e).stay (fun c v hc q=>k c v ?_ q) (fun _ q=>q) fun _ _ q=>q
  rcases hc with z | z
  ·rw [z]; exact nit b u e
  ·exact nit c _ z
theorem Inv.tok (I:Inv X pins σ H s) (t:Nat):Inv X pins σ H {s with toks:=t}:=I.un (h':=s.heap) (t':=t) Un.refl I.hok
theorem Inv.kept {t':Nat} (I:Inv X pins σ H s) (k:∀ b u,s.heap.get? b=some u->h'.get? b=some u):Inv X pins σ H {s with heap:=h',toks:=t'}:=I.un (Un.kept k) (I.hok.kept k)
theorem Inv.laid {a:Addr} {o:HO} {t':Nat} (I:Inv X pins σ H s) (k:∀ b u,s.heap.get? b=some u->h'.get? b=some u) (hp:s.heap.objs.size<=a) (new:ObjOk X.prog X.w (upd H a o) h' a o):
  Inv X pins σ (upd H a o) {s with heap:=h',toks:=t'}:=I.un (Un.laid k hp (I.hok.fresh hp)) (I.hok.laid k hp new)
theorem Inv.write {x e:Addr} {o:HO} {t':Nat} (I:Inv X pins σ H s) (mu:Mut (H x)) (he:e=x\/H e=some (.own x)) (k:∀ b u,b≠e->s.heap.get? b=some u->h'.get? b=some u) (heo:∃ u,h'.get? e=some u)
  (new:ObjOk X.prog X.w (upd H x o) h' x o):Inv X pins σ (upd H x o) {s with heap:=h',toks:=t'}:=I.un (Un.write mu he k heo) (I.hok.write mu he k heo new)
theorem Inv.pins_of {pins':List (Addr×Obj)} (I:Inv X pins σ H s) (h:∀ p∈pins',s.heap.get? p.1=some p.2/\H p.1=none/\p.1≠X.env.locals/\p.1∉X.fs/\∀ v,p.2.data≠.cell v):Inv X pins' σ H s:=
 ⟨I.ok,I.os,I.bare,I.base,I.loc,I.cell,I.free,I.freeC,fun p hp=>(List.mem_append.mp hp).elim (fun z=>I.pin p (List.mem_append_left _ z)) (h p),I.hok,I.len⟩
theorem nodup_ix {N:List Str} (hN:N.Nodup) {i j:Nat} {x:Str} (a:N[i]?=some x) (b:N[j]?=some x):i=j:=by
 obtain⟨h1,e1⟩:=List.getElem?_eq_some_iff.mp a
 obtain⟨h2,e2⟩:=List.getElem?_eq_some_iff.mp b
 exact(List.getElem_inj hN).mp (e1.trans e2.symm)
theorem store_ok2 {M:Model} {A:Around} {E:Value->Shared->Prop} {i:Nat} {x:Str} {v:V} {u:Value} {Q:Unit->Shared->Prop} (I:Inv X pins σ H s) (hN:X.N.Nodup) (hi:X.N[i]?=some x) (hx:Loc X.env.scope x) (r:RelV v u)
  (h:∀ s',Inv X pins (σ.set i (some v)) H s'->(∃ a,Heap.SameBut a s.heap s'.heap/\(a=X.env.locals\/X.env.cells.lookup x=some a))->Q () s') (hf:X.fn x=true\/X.env.scope.names.lookup x=some .local:=by first | exact .inl rfl | exact .inr rfl | assumption):wpAny M A (storeName X.env x u) Q E s:=by
 obtain⟨m,hn,hl⟩:=id I.loc
 have hcls:(X.env.scope.kind == .class || (X.env.scope.kind == .module && X.env.locals != X.env.globals))=false:=by rw [I.ok.kind]; rfl
 have hiσ:i < σ.length:=by rw [I.len]; exact(List.getElem?_eq_some_iff.mp hi).1
 have cne:=I.cne
 have tracked:∀ {a:Addr} {h':Heap},(∃ o,s.heap.get? a=some o/\H a=none)->Heap.SameBut a s.heap h'->HOk X.prog X.w H h':=fun {a h'} ha hs b ob e=>by
  obtain⟨_,_,hfree⟩:=ha
  refine(I.hok b ob e).stay (fun c w' hc q=>(hs.2 c ?_).trans q) (fun _ q=>q) fun _ _ q=>q
  rintro rfl
  rcases hc with rfl | hc
  ·rw [hfree] at e; cases e
  ·rw [hfree] at hc; cases hc
 rcases hx with hk | hk
 ·refine wpAny_storeName_local hk hn (fun h' hn' hs=>?_) hcls
  obtain⟨oL,_,_,hoL,_⟩:=id hn
  refine h _ ⟨I.ok,I.os,I.bare,⟨fun b o e n hb hx=>?_,fun b o e n hb hx=>?_,I.base.free,fun b o e hx=>?_,I.base.tups,I.base.frzs,I.base.tbls⟩,⟨_,hn',fun j y v' e1 e2 e3=>?_⟩,fun y c e=>?_,I.free,I.freeC,fun p hp=>?_,tracked ⟨oL,hoL,I.free⟩ hs,by simpa using I.len⟩ ⟨_,hs,.inl rfl⟩
  ·exact(hs.2 b (Nat.ne_of_lt (Nat.lt_of_lt_of_le (Heap.lt_size e) I.ok.above))).trans (I.base.keep b o e n hb hx)
  ·obtain⟨sl,e1⟩:=I.base.slot b o e n hb hx
   exact⟨sl,(hs.2 b (Nat.ne_of_lt (Nat.lt_of_lt_of_le (Heap.lt_size e) I.ok.above))).trans e1⟩
  ·obtain⟨o',e1⟩:=I.base.there b o e hx
   exact⟨o',(hs.2 b (Nat.ne_of_lt (Nat.lt_of_lt_of_le (Heap.lt_size e) I.ok.above))).trans e1⟩
  ·by_cases hj:j=i
   ·subst hj
    rw [hi] at e1; cases e1
    rw [List.getElem?_set_self hiσ] at e2
    cases e2
    exact⟨u,r,.inl ⟨hk,by simp⟩⟩
   ·rw [List.getElem?_set_ne (Ne.symm hj)] at e2
    obtain⟨u',r',q⟩:=hl j y v' e1 e2 e3
    refine⟨u',r',?_⟩
    rcases q with ⟨k,e⟩ | ⟨k,c,e,z⟩
    ·refine .inl ⟨k,?_⟩
     have:y≠x:=fun e=>hj (nodup_ix hN e1 (e▸hi))
     simp [this,e]
    ·exact .inr ⟨k,c,e,z.sameBut hs (cne y c e)⟩
  ·obtain⟨w',z⟩:=I.cell y c e
   exact⟨w',z.sameBut hs (cne y c e)⟩
  ·obtain⟨e,n,ne,nf,d⟩:=I.pin p hp
   exact⟨(hs.2 p.1 ne).trans e,n,ne,nf,d⟩
 ·have hfn:X.fn x=true:=by
   rcases hf with z | z
   ·exact z
   ·rw [z] at hk; cases hk
  obtain⟨c,hc⟩:=I.ok.has x (.inl hk)
  obtain⟨w',z⟩:=I.cell x c hc
  refine wpAny_storeName_cell I.ok.kind hk hc z (fun h' hc' hs=>?_)
  obtain⟨oc,hoc,hocd⟩:=id z
  refine h {s with heap:=h'} ⟨I.ok,I.os,I.bare,⟨fun b o e n hb hx=>?_,fun b o e n hb hx=>?_,I.base.free,fun b o e hx=>?_,I.base.tups,I.base.frzs,I.base.tbls⟩,⟨m,hn.sameBut hs (Ne.symm (cne x c hc)),fun j y v' e1 e2 e3=>?_⟩,fun y c' e=>?_,I.free,I.freeC,fun p hp=>?_,tracked ⟨oc,hoc,I.freeC x c hc⟩ hs,by simpa using I.len⟩ ⟨c,hs,.inr hc⟩
  ·exact(hs.2 b (Nat.ne_of_lt (Nat.lt_of_lt_of_le (Heap.lt_size e) (I.ok.cab x c hfn hc)))).trans (I.base.keep b o e n hb hx)
  ·obtain⟨sl,e1⟩:=I.base.slot b o e n hb hx
   exact⟨sl,(hs.2 b (Nat.ne_of_lt (Nat.lt_of_lt_of_le (Heap.lt_size e) (I.ok.cab x c hfn hc)))).trans e1⟩
  ·obtain⟨o',e1⟩:=I.base.there b o e hx
   exact⟨o',(hs.2 b (Nat.ne_of_lt (Nat.lt_of_lt_of_le (Heap.lt_size e) (I.ok.cab x c hfn hc)))).trans e1⟩
  ·by_cases hj:j=i
   ·subst hj
    rw [hi] at e1; cases e1
    rw [List.getElem?_set_self hiσ] at e2
    cases e2
    exact⟨u,r,.inr ⟨.inl hk,c,hc,hc'⟩⟩
   ·rw [List.getElem?_set_ne (Ne.symm hj)] at e2
    obtain⟨u',r',q⟩:=hl j y v' e1 e2 e3
    refine⟨u',r',?_⟩
    rcases q with q | ⟨k,c',e,z'⟩
    ·exact .inl q
    ·refine .inr ⟨k,c',e,z'.sameBut hs ?_⟩
     rintro rfl
     exact hj (nodup_ix hN e1 (I.ok.inj _ _ _ e hc▸hi))
  ·by_cases hcc:c'=c
   ·subst hcc; exact⟨_,hc'⟩
   ·obtain⟨w2,z2⟩:=I.cell y c' e
    exact⟨w2,z2.sameBut hs hcc⟩
  ·obtain⟨e,n,ne,nf,d⟩:=I.pin p hp
   refine⟨(hs.2 p.1 ?_).trans e,n,ne,nf,d⟩
   intro q
   rw [q,hoc] at e
   have q':oc=p.2:=Option.some.inj e
   exact d w' (by rw [<- q']; exact hocd)
theorem store_ok {M:Model} {A:Around} {E:Value->Shared->Prop} {i:Nat} {x:Str} {v:V} {u:Value} {Q:Unit->Shared->Prop} (I:Inv X pins σ H s) (hN:X.N.Nodup) (hi:X.N[i]?=some x) (hx:Loc X.env.scope x) (r:RelV v u)
  (h:∀ s',Inv X pins (σ.set i (some v)) H s'->Q () s') (hf:X.fn x=true\/X.env.scope.names.lookup x=some .local:=by first | exact .inl rfl | exact .inr rfl | assumption):wpAny M A (storeName X.env x u) Q E s:=
 store_ok2 I hN hi hx r (fun s' I' _=>h s' I') hf
theorem Inv.call' {s':Shared} {ch:List Addr} (I:Inv X pins σ H s) (ho:s'.os=s.os) (u:Un (frs X.stack) ch H H' s.heap s'.heap) (hok:HOk X.prog X.w H' s'.heap) (hg:AllBare s'.gens)
  (hch:∀ b∈ch,(b∈X.ex\/X.s₀.heap.objs.size<=b)/\b≠X.env.locals/\(∀ x c,X.env.cells.lookup x=some c->c≠b)/\∀ p∈X.pn++pins,p.1≠b):Inv X pins σ H' s':=by
 obtain⟨h',g',d',t',o'⟩:=s'
 have e:o'=s.os:=ho
 subst e
 exact I.call (g':=g') (t':=t') (d':=d') u hok hg hch
end
abbrev XK:=Value->Option Addr->Hp->Prop
abbrev St:=List (Option V)
abbrev VK:=V->Hp->Prop
abbrev TE:=St->Hp->VK->Prop
abbrev TT:=St->Hp->(Bool->Hp->Prop)->Prop
abbrev TA:=St->Hp->(List V->Hp->Prop)->Prop
structure Ends where
 nx:St->Hp->Prop
 rt:VK
 bk:St->Hp->Prop:=fun _ _=>False
 ct:St->Hp->Prop:=fun _ _=>False
abbrev TS:=Ends->St->Hp->Prop
def EP (X:Cx) (pins:List (Addr×Obj)) (σ:St) (Q:VK) (u:Value) (s':Shared):Prop:=∃ v H',Inv X pins σ H' s'/\RelV v u/\Q v H'
def TP (X:Cx) (pins:List (Addr×Obj)) (σ:St) (Q:Bool->Hp->Prop) (b:Bool) (s':Shared):Prop:=∃ H',Inv X pins σ H' s'/\Q b H'
def AP (X:Cx) (pins:List (Addr×Obj)) (σ:St) (Q:List V->Hp->Prop) (us:List Value) (s':Shared):Prop:=∃ vs H',Inv X pins σ H' s'/\Vals vs us/\Q vs H'
def SP (X:Cx) (pins:List (Addr×Obj)) (D:Ends) (f:Flow) (s':Shared):Prop:=
 match f with
 | .next=>∃ σ' H',Inv X pins σ' H' s'/\D.nx σ' H'
 | .brk=>∃ σ' H',Inv X pins σ' H' s'/\D.bk σ' H'
 | .cont=>∃ σ' H',Inv X pins σ' H' s'/\D.ct σ' H'
 | .ret u=>∃ v σ' H',Inv X pins σ' H' s'/\RelV v u/\D.rt v H'
def PE (X:Cx) (e:Expr) (t:TE):Prop:=
 ∀ (pins:List (Addr×Obj)) (s:Shared) (σ:St) (H:Hp) (Q:VK),Inv X pins σ H s->t σ H Q->wpAny (model X.prog X.w) X.A (eval e X.env) (EP X pins σ Q) X.xe s
def PT (X:Cx) (e:Expr) (t:TT):Prop:=
 ∀ (pins:List (Addr×Obj)) (s:Shared) (σ:St) (H:Hp) (Q:Bool->Hp->Prop),Inv X pins σ H s->t σ H Q->wpAny (model X.prog X.w) X.A (isTrue e X.env (eval e X.env)) (TP X pins σ Q) X.xe s
def PW (X:Cx) (e:Expr) (t:TT):Prop:=
 ∀ (whole:Sem Value) (pins:List (Addr×Obj)) (s:Shared) (σ:St) (H:Hp) (Q:Bool->Hp->Prop),Inv X pins σ H s->t σ H Q->wpAny (model X.prog X.w) X.A (isTrue e X.env whole) (TP X pins σ Q) X.xe s
theorem PW.pt {X:Cx} {e:Expr} {t:TT} (h:PW X e t):PT X e t:=h _
def PA (X:Cx) (es:List Expr) (t:TA):Prop:=
 ∀ (pos:Pos) (pins:List (Addr×Obj)) (s:Shared) (σ:St) (H:Hp) (Q:List V->Hp->Prop),Inv X pins σ H s->t σ H Q->wpAny (model X.prog X.w) X.A (spliced (backTo pos (starEach es X.env))) (AP X pins σ Q) X.xe s
def PS (X:Cx) (st:Stmt) (t:TS):Prop:=
 ∀ (pins:List (Addr×Obj)) (s:Shared) (σ:St) (H:Hp) (D:Ends),Inv X pins σ H s->t D σ H->wpAny (model X.prog X.w) X.A (exec st X.env) (SP X pins D) X.xe s
def PSs (X:Cx) (st:List Stmt) (t:TS):Prop:=
 ∀ (pins:List (Addr×Obj)) (s:Shared) (σ:St) (H:Hp) (D:Ends),Inv X pins σ H s->t D σ H->wpAny (model X.prog X.w) X.A (execs st X.env) (SP X pins D) X.xe s
theorem thn {α:Type} {t:Sem α} {Q Q':α->Shared->Prop} {M:Model} {A:Around} {E:Value->Shared->Prop} {s:Shared} (h:wpAny M A t Q E s) (hQ:∀ a s,Q a s->Q' a s):wpAny M A t Q' E s:=wpAny_mono h hQ fun _ _ x=>x
section
variable {X:Cx}
def tVar (i:Nat):TE:=fun σ H Q=>∃ v,σ[i]?=some (some v)/\Q v H
def tC (v:V):TE:=fun _ H Q=>Q v H
theorem pe_var {i:Nat} {x:Str} {pos:Pos} (hN:X.N[i]?=some x) (hv:Vis X.env.scope x) (hd:(x == ("__debug__":Str))=false:=by decide) (hcd:(x == ("__classdict__":Str))=false:=by decide):PE X (.Name x pos) (tVar i):=by
 intro pins s σ H Q I h
 obtain⟨v,e,h⟩:=h
 obtain⟨m,hn,hl⟩:=I.loc
 obtain⟨u,r,l⟩:=hl i x v hN e hv
 have fin:EP X pins σ Q u s:=⟨v,H,I,r,h⟩
 rcases l with ⟨hk,hm⟩ | ⟨hk,c,hc,hcell⟩
 ·exact wpAny_Name (wpAny_loadName_local I.ok.kind hk hn hm fin) hd
 ·rcases hk with hk | hk
  ·exact wpAny_Name (wpAny_loadName_cell I.ok.kind hk hc hcell fin) hd
  ·exact wpAny_Name (wpAny_loadName_free I.ok.kind hk hc hcell fin hcd) hd
theorem pe_int {i j pos}:PE X (.Constant (.int i) j pos) (tC (.int i)):=fun _ _ _ H _ I h=>wpAny_Constant_int ⟨.int i,H,I.tok _,⟨_,rfl⟩,h⟩
theorem pe_bl {b j pos}:PE X (.Constant (.bool b) j pos) (tC (.bl b)):=fun _ _ _ H _ I h=>Constant_bool ⟨.bl b,H,I,rfl,h⟩
theorem pe_non {j pos}:PE X (.Constant .none j pos) (tC .non):=fun _ _ _ H _ I h=>Constant_none ⟨.non,H,I,rfl,h⟩
def Gl (X:Cx) (x:Str):Prop:=X.env.kindOf x=some .globalImplicit
theorem ld_glob {E:Value->Shared->Prop} {pins:List (Addr×Obj)} {s:Shared} {σ:St} {H:Hp} {x:Str} {u:Value} {pos:Pos} {Q:Value->Shared->Prop} (I:Inv X pins σ H s) (hg:Gl X x) (hm:X.mg x=some u) (h:Q u s)
  (hd:(x == ("__debug__":Str))=false:=by decide):wpAny (model X.prog X.w) X.A (eval (.Name x pos) X.env) Q E s:=
 Calls.Name_function_global I.ok.kind hg (Calls.loadGlobal_global (by rw [I.ok.glob]; exact I.mod.glob.keeps I.bk) hm h) hd
theorem ld_blt {E:Value->Shared->Prop} {pins:List (Addr×Obj)} {s:Shared} {σ:St} {H:Hp} {x:Str} {u:Value} {pos:Pos} {Q:Value->Shared->Prop} (I:Inv X pins σ H s) (hg:Gl X x) (hm:X.mg x=none) (hv:bootBuiltins x=some u) (h:Q u s)
  (hn:x≠"__name__":=by decide) (hd:(x == ("__debug__":Str))=false:=by decide):wpAny (model X.prog X.w) X.A (eval (.Name x pos) X.env) Q E s:=by
 obtain⟨mb,h1,h2⟩:=I.mod.blt
 exact Calls.Name_function_global I.ok.kind hg (Calls.loadGlobal_builtin (by rw [I.ok.glob]; exact I.mod.glob.keeps I.bk) hm (by rw [I.ok.blt]; exact h1.keeps I.bk) ((h2 x hn).trans hv) h) hd
theorem pe_glob {x:Str} {v:V} {u:Value} {pos:Pos} (hg:Gl X x) (hm:X.mg x=some u) (r:RelV v u) (hd:(x == ("__debug__":Str))=false:=by decide):PE X (.Name x pos) (tC v):=
 fun _ _ _ H _ I h=>ld_glob I hg hm ⟨v,H,I,r,h⟩ hd
theorem pe_bltn {x:Str} {v:V} {u:Value} {pos:Pos} (hg:Gl X x) (hm:X.mg x=none) (hv:bootBuiltins x=some u) (r:RelV v u) (hn:x≠"__name__":=by decide) (hd:(x == ("__debug__":Str))=false:=by decide):PE X (.Name x pos) (tC v):=
 fun _ _ _ H _ I h=>ld_blt I hg hm hv ⟨v,H,I,r,h⟩ hn hd
variable {a b:Expr} {ta tb:TE} {pos:Pos}
def tB (t:TE):TT:=fun σ H Q=>t σ H fun x H1=>∃ c,x=.bl c/\Q c H1
theorem pt_val {e:Expr} {t:TE} (h:PE X e t) (he:∀ whole,isTrue e X.env whole=(do let v <- whole; standAt e.pos; holding [v] (truthy v)):=by intro _; rfl):PT X e (tB t):=by
 intro pins s σ H Q I hw
 refine isTrue_plain (thn (h pins s σ H _ I hw) fun v s1 ⟨x,H1,I1,r1,q1⟩=>?_) (he _)
 obtain⟨d,rfl,q⟩:=q1
 cases r1
 exact wpAny_truthy_bool ⟨H1,I1,q⟩
variable {tA tB':TT} {rest:List Expr}
def tAnd (t u:TT):TT:=fun σ H Q=>t σ H fun c H1=>if c=true then u σ H1 Q else Q false H1
def tOr (t u:TT):TT:=fun σ H Q=>t σ H fun c H1=>if c=true then Q true H1 else u σ H1 Q
def tNot (t:TT):TT:=fun σ H Q=>t σ H fun c H1=>Q (!c) H1
theorem pw_and1 (ha:PT X a tA):PW X (.BoolOp .And [a] pos) tA:=by
 intro wh pins s σ H Q I h
 refine isTrue_and (thn (ha pins s σ H Q I h) fun c s1 e=>?_)
 cases c with
 | true=>exact isTrue_and_nil e
 | false=>exact e
theorem pw_or1 (ha:PT X a tA):PW X (.BoolOp .Or [a] pos) tA:=by
 intro wh pins s σ H Q I h
 refine isTrue_or (thn (ha pins s σ H Q I h) fun c s1 e=>?_)
 cases c with
 | false=>exact isTrue_or_nil e
 | true=>exact e
theorem pw_and (ha:PT X a tA) (hb:PW X (.BoolOp .And (b::rest) pos) tB'):PW X (.BoolOp .And (a::b::rest) pos) (tAnd tA tB'):=by
 intro wh pins s σ H Q I h
 refine isTrue_and (thn (ha pins s σ H _ I h) fun c s1 ⟨H1,I1,q1⟩=>?_)
 cases c with
 | true=>exact hb wh pins s1 σ H1 Q I1 q1
 | false=>exact⟨H1,I1,q1⟩
theorem pw_or (ha:PT X a tA) (hb:PW X (.BoolOp .Or (b::rest) pos) tB'):PW X (.BoolOp .Or (a::b::rest) pos) (tOr tA tB'):=by
 intro wh pins s σ H Q I h
 refine isTrue_or (thn (ha pins s σ H _ I h) fun c s1 ⟨H1,I1,q1⟩=>?_)
 cases c with
 | true=>exact⟨H1,I1,q1⟩
 | false=>exact hb wh pins s1 σ H1 Q I1 q1
theorem pt_not (ha:PT X a tA):PT X (.UnaryOp .Not a pos) (tNot tA):=by
 intro pins s σ H Q I h
 exact isTrue_not (ha pins s σ H (fun c H1=>Q (!c) H1) I h)
def tAndV (ta tb:TE):TE:=fun σ H Q=>ta σ H fun x H1=>∃ c,x=.bl c/\if c=true then tb σ H1 Q else Q (.bl false) H1
def tOrV (ta tb:TE):TE:=fun σ H Q=>ta σ H fun x H1=>∃ c,x=.bl c/\if c=true then Q (.bl true) H1 else tb σ H1 Q
def tNotV (ta:TE):TE:=fun σ H Q=>ta σ H fun x H1=>∃ c,x=.bl c/\Q (.bl (!c)) H1
theorem pe_one {op} {t:TE} (h:PE X a t):PE X (.BoolOp op [a] pos) t:=fun pins s σ H Q I hw=>BoolOp_one (h pins s σ H Q I hw)
theorem pe_and (ha:PE X a ta) (hb:PE X (.BoolOp .And (b::rest) pos) tb):PE X (.BoolOp .And (a::b::rest) pos) (tAndV ta tb):=by
 intro pins s σ H Q I h
 refine BoolOp_and (thn (ha pins s σ H _ I h) fun v s1 ⟨x,H1,I1,r1,q1⟩=>?_)
 obtain⟨c,rfl,q1⟩:=q1
 cases r1
 refine wpAny_truthy_bool ?_
 cases c with
 | true=>exact hb pins s1 σ H1 Q I1 q1
 | false=>exact⟨.bl false,H1,I1,rfl,q1⟩
theorem pe_or (ha:PE X a ta) (hb:PE X (.BoolOp .Or (b::rest) pos) tb):PE X (.BoolOp .Or (a::b::rest) pos) (tOrV ta tb):=by
 intro pins s σ H Q I h
 refine BoolOp_or (thn (ha pins s σ H _ I h) fun v s1 ⟨x,H1,I1,r1,q1⟩=>?_)
 obtain⟨c,rfl,q1⟩:=q1
 cases r1
 refine wpAny_truthy_bool ?_
 cases c with
 | false=>exact hb pins s1 σ H1 Q I1 q1
 | true=>exact⟨.bl true,H1,I1,rfl,q1⟩
theorem pe_not (ha:PE X a ta):PE X (.UnaryOp .Not a pos) (tNotV ta):=by
 intro pins s σ H Q I h
 refine UnaryOp_ (thn (ha pins s σ H _ I h) fun v s1 ⟨x,H1,I1,r1,q1⟩=>?_)
 obtain⟨c,rfl,q1⟩:=q1
 cases r1
 exact not_of (wpAny_truthy_bool ⟨.bl (!c),H1,I1,rfl,q1⟩)
def tIf (t:TT) (ta tb:TE):TE:=fun σ H Q=>t σ H fun c H1=>if c=true then ta σ H1 Q else tb σ H1 Q
theorem pe_ifExp {c:Expr} (hc:PT X c tA) (ha:PE X a ta) (hb:PE X b tb):PE X (.IfExp c a b pos) (tIf tA ta tb):=by
 intro pins s σ H Q I h
 refine wpAny_IfExp (thn (hc pins s σ H _ I h) fun d s1 ⟨H1,I1,q1⟩=>?_)
 cases d with
 | true=>exact ha pins s1 σ H1 Q I1 q1
 | false=>exact hb pins s1 σ H1 Q I1 q1
end
def SqL (K:PySem.W.Frag) (H:Hp) (a:Addr) (xs:List V):Prop:=
 Rd H a (.lst xs)\/
  ∃ (o:Obj) (its:Array Value) (n:Nat),K.lookup a=some o/\o.cls=.type "list"/\o.dict=none/\o.data=.seq its n/\its.size<=sizeLine/\Vals xs its.toList
def SqT (K:PySem.W.Frag) (H:Hp) (a:Addr) (xs:List V):Prop:=
 Rd H a (.tup xs)\/
  ∃ (o:Obj) (its:Array Value) (n:Nat),K.lookup a=some o/\o.cls=.type "tuple"/\o.data=.seq its n/\its.size<=sizeLine/\Vals xs its.toList
def absV:Value->Option V
 | .none=>some .non
 | .bool b=>some (.bl b)
 | .int i _=>some (.int i)
 | .str x _=>some (.str x)
 | .bytes b _=>some (.byt b)
 | .float b _=>some (.flt b)
 | .ref a=>some (.ref a)
 | .type n=>some (.ty n)
 | _=>none
theorem RelV.abs {x:V} {u:Value} (r:RelV x u):absV u=some x:=by
 cases x with
 | non=>cases r; rfl
 | bl _=>cases r; rfl
 | int _=>obtain⟨t,rfl⟩:=r; rfl
 | str _=>obtain⟨t,rfl⟩:=r; rfl
 | byt _=>obtain⟨t,rfl⟩:=r; rfl
 | flt _=>obtain⟨t,rfl⟩:=r; rfl
 | ref _=>cases r; rfl
 | ty _=>cases r; rfl
theorem RelV.inj {x y:V} {u:Value} (r:RelV x u) (q:RelV y u):x=y:=Option.some.inj (r.abs.symm.trans q.abs)
theorem Vals.inj:∀ {xs ys:List V} {us:List Value},Vals xs us->Vals ys us->xs=ys
 | _,_,_,.nil,.nil=>rfl
 | _,_,_,.cons r t,.cons r' t'=>by rw [r.inj r',Vals.inj t t']
section
variable {X:Cx} {pins:List (Addr×Obj)} {σ:St} {H:Hp} {s:Shared} {a:Addr} {xs ys:List V}
theorem SqL.of {K:PySem.W.Frag} (h:H a=some (.lst xs)):SqL K H a xs:=.inl (.inl h)
theorem SqT.of {K:PySem.W.Frag} (h:H a=some (.tup xs)):SqT K H a xs:=.inl (.inl h)
theorem Inv.list (I:Inv X pins σ H s) (h:SqL X.K H a xs):∃ its:List Value,Vals xs its/\PlainL s.heap a its.toArray/\xs.length<=sizeLine:=by
 rcases h with h | ⟨o,its,n,hk,hc,hd,hs,hz,r⟩
 ·obtain⟨z,its,n,r,e⟩:=h.ok I.hok
  exact⟨its,r,⟨_,n,e,rfl,rfl,rfl⟩,z⟩
 ·refine⟨its.toList,r,⟨o,n,I.kIn a o hk,hc,hd,by simpa using hs⟩,?_⟩
  have e:=r.length
  simp only [Array.length_toList] at e
  omega
theorem Inv.tuple (I:Inv X pins σ H s) (h:SqT X.K H a xs):∃ its:List Value,Vals xs its/\IsTup s.heap a its.toArray/\xs.length<=sizeLine:=by
 rcases h with h | ⟨o,its,n,hk,hc,hs,hz,r⟩
 ·obtain⟨z,its,r,p⟩:=h.ok I.hok
  exact⟨its,r,p,z⟩
 ·refine⟨its.toList,r,⟨o,I.kIn a o hk,hc,n,by simpa using hs⟩,?_⟩
  have e:=r.length
  simp only [Array.length_toList] at e
  omega
theorem Inv.list_inj (I:Inv X pins σ H s) (h:SqL X.K H a xs) (h':SqL X.K H a ys):xs=ys:=by
 obtain⟨its,r,⟨o,n,e,_,_,d⟩,_⟩:=I.list h
 obtain⟨its',r',⟨o',n',e',_,_,d'⟩,_⟩:=I.list h'
 rw [e] at e'; cases e'
 rw [d] at d'
 injection d' with d1 _
 have:its=its':=by simpa using congrArg Array.toList d1
 subst this
 exact r.inj r'
theorem Inv.tuple_inj (I:Inv X pins σ H s) (h:SqT X.K H a xs) (h':SqT X.K H a ys):xs=ys:=by
 obtain⟨its,r,⟨o,e,_,n,d⟩,_⟩:=I.tuple h
 obtain⟨its',r',⟨o',e',_,n',d'⟩,_⟩:=I.tuple h'
 rw [e] at e'; cases e'
 rw [d] at d'
 injection d' with d1 _
 have:its=its':=by simpa using congrArg Array.toList d1
 subst this
 exact r.inj r'
end
abbrev Cx.wish (X:Cx) (E:Value->Shared->Prop):Cx:={X with xe:=E}
abbrev Cx.nox (X:Cx):Cx:=X.wish fun _ _=>False
theorem Cx.Ok.wish {X:Cx} (ok:X.Ok) (E:Value->Shared->Prop):(X.wish E).Ok:=
 ⟨ok.mod,ok.kind,ok.glob,ok.blt,ok.above,ok.inj,ok.has,ok.cab,ok.hd,ok.frames,ok.stk,ok.exf,ok.bs,ok.bsz,ok.noex,ok.exfs,ok.funs,ok.frf⟩
theorem Cx.Ok.unwish {X:Cx} {E:Value->Shared->Prop} (ok:(X.wish E).Ok):X.Ok:=
 ⟨ok.mod,ok.kind,ok.glob,ok.blt,ok.above,ok.inj,ok.has,ok.cab,ok.hd,ok.frames,ok.stk,ok.exf,ok.bs,ok.bsz,ok.noex,ok.exfs,ok.funs,ok.frf⟩
section
variable {X:Cx} {pins:List (Addr×Obj)} {σ:St} {H:Hp} {s:Shared} {E:Value->Shared->Prop}
theorem Inv.wish (I:Inv X pins σ H s) (E:Value->Shared->Prop):Inv (X.wish E) pins σ H s:=⟨I.ok.wish E,I.os,I.bare,I.base,I.loc,I.cell,I.free,I.freeC,I.pin,I.hok,I.len⟩
theorem Inv.unwish (I:Inv (X.wish E) pins σ H s):Inv X pins σ H s:=⟨I.ok.unwish,I.os,I.bare,I.base,I.loc,I.cell,I.free,I.freeC,I.pin,I.hok,I.len⟩
theorem SP.unwish {D:Ends} {f:Flow} {s':Shared} (h:SP (X.wish E) pins D f s'):SP X pins D f s':=by
 cases f with
 | next=>obtain⟨σ',H',I,q⟩:=h; exact⟨σ',H',I.unwish,q⟩
 | brk=>obtain⟨σ',H',I,q⟩:=h; exact⟨σ',H',I.unwish,q⟩
 | cont=>obtain⟨σ',H',I,q⟩:=h; exact⟨σ',H',I.unwish,q⟩
 | ret u=>obtain⟨v,σ',H',I,r,q⟩:=h; exact⟨v,σ',H',I.unwish,r,q⟩
theorem PSs.nox {st:List Stmt} {t:TS} (h:PSs X.nox st t):PSs X st t:=fun pins s σ H D I hw=>
 wpAny_mono (h pins s σ H D (I.wish _) hw) (fun _ _ q=>q.unwish) fun _ _ z=>False.elim z
end
section
variable {X:Cx} {st:Stmt} {rest:List Stmt} {t u:TS} {e:Expr} {te:TE} {pos:Pos}
def tNext:TS:=fun D σ H=>D.nx σ H
def tSeq (t u:TS):TS:=fun D σ H=>t {D with nx:=u D} σ H
theorem pss_nil:PSs X [] tNext:=fun _ _ σ H _ I h=>wpAny_execs_nil ⟨σ,H,I,h⟩
theorem pss_cons (h1:PS X st t) (h2:PSs X rest u):PSs X (st::rest) (tSeq t u):=by
 intro pins s σ H D I h
 refine wpAny_execs_cons (thn (h1 pins s σ H {D with nx:=u D} I h) fun f s1 q=>?_)
 cases f with
 | next=>
  obtain⟨σ',H',I',q⟩:=q
  exact h2 pins s1 σ' H' D I' q
 | ret v=>exact q
 | brk=>exact q
 | cont=>exact q
theorem pss_one (h1:PS X st t):PSs X [st] t:=by
 intro pins s σ H D I h
 refine wpAny_execs_cons (thn (h1 pins s σ H D I h) fun f s1 q=>?_)
 cases f with
 | next=>exact wpAny_execs_nil q
 | ret v=>exact q
 | brk=>exact q
 | cont=>exact q
theorem Inv.quiet {pins:List (Addr×Obj)} {σ:St} {H:Hp} {s:Shared} (I:Inv X pins σ H s):interactive X.env=false:=by simp [interactive,I.ok.kind]
def tRet (te:TE):TS:=fun D σ H=>te σ H D.rt
theorem ps_ret (he:PE X e te):PS X (.Return (some e) pos) (tRet te):=by
 intro pins s σ H D I h
 exact wpAny_Return_some (thn (he pins s σ H _ I h) fun v s1 ⟨x,H1,I1,r1,q1⟩=>⟨x,σ,H1,I1,r1,q1⟩)
def tIfS (c:TT) (t u:TS):TS:=fun D σ H=>c σ H fun b H1=>if b=true then t D σ H1 else u D σ H1
theorem ps_if {c:Expr} {a b:List Stmt} {tc:TT} (hc:PT X c tc) (ha:PSs X a t) (hb:PSs X b u):PS X (.If c a b pos) (tIfS tc t u):=by
 intro pins s σ H D I h
 refine wpAny_If (thn (hc pins s σ H _ I h) fun d s1 ⟨H1,I1,q1⟩=>?_)
 cases d with
 | true=>exact ha pins s1 σ H1 D I1 q1
 | false=>exact hb pins s1 σ H1 D I1 q1
def tNever:TS:=fun _ _ _=>False
theorem ps_never:PS X st tNever:=fun _ _ _ _ _ _ h=>h.elim
theorem pss_never {sts:List Stmt}:PSs X sts tNever:=fun _ _ _ _ _ _ h=>h.elim
end
abbrev TG:=V->St->Hp->(St->Hp->Prop)->Prop
abbrev TGs:=List V->St->Hp->(St->Hp->Prop)->Prop
def PG (X:Cx) (target:Expr) (t:TG):Prop:=
 ∀ (pins:List (Addr×Obj)) (s:Shared) (σ:St) (H:Hp) (v:V) (u:Value) (Q:St->Hp->Prop),Inv X pins σ H s->RelV v u->t v σ H Q->
  wpAny (model X.prog X.w) X.A (assign target X.env u) (fun _ s'=>∃ σ' H',Inv X pins σ' H' s'/\Q σ' H') X.xe s
def PGs (X:Cx) (ts:List Expr) (t:TGs):Prop:=
 ∀ (pins:List (Addr×Obj)) (s:Shared) (σ:St) (H:Hp) (vs:List V) (us:List Value) (Q:St->Hp->Prop),Inv X pins σ H s->Vals vs us->t vs σ H Q->
  wpAny (model X.prog X.w) X.A (assignInOrder ((assignEach ts X.env).map (·.2)) us) (fun _ s'=>∃ σ' H',Inv X pins σ' H' s'/\Q σ' H') X.xe s
abbrev TSet:=V->V->V->Hp->(Hp->Prop)->Prop
def PSet (X:Cx) (t:TSet):Prop:=
 ∀ (pins:List (Addr×Obj)) (s:Shared) (σ:St) (H:Hp) (o i v:V) (ov iv u:Value) (Q:Hp->Prop),Inv X pins σ H s->RelV o ov->RelV i iv->RelV v u->t o i v H Q->
  wpAny (model X.prog X.w) X.A (setItem ov iv u) (fun _ s'=>∃ H',Inv X pins σ H' s'/\Q H') X.xe s
section
variable {X:Cx} {pos:Pos}
def gName (i:Nat):TG:=fun v σ H Q=>Q (σ.set i (some v)) H
theorem pg_name {i:Nat} {x:Str} (hN:X.N.Nodup) (hi:X.N[i]?=some x) (hx:Loc X.env.scope x) (hf:X.fn x=true\/X.env.scope.names.lookup x=some .local:=by first | exact .inl rfl | exact .inr rfl | assumption):PG X (.Name x pos) (gName i):=by
 intro pins s σ H v u Q I r h
 exact wpAny_assign_Name (store_ok I hN hi hx r (fun s' I'=>⟨_,H,I',h⟩) hf)
def gNil:TGs:=fun vs σ H Q=>vs=[]/\Q σ H
def gCons (t:TG) (u:TGs):TGs:=fun vs σ H Q=>∃ v r,vs=v::r/\t v σ H fun σ' H'=>u r σ' H' Q
theorem pgs_nil:PGs X [] gNil:=by
 intro pins s σ H vs us Q I r h
 obtain⟨e,h⟩:=h
 subst e
 cases r
 exact assignInOrder_nil ⟨σ,H,I,h⟩
theorem pgs_cons {e:Expr} {es:List Expr} {t:TG} {u:TGs} (h1:PG X e t) (h2:PGs X es u)
  (hs:(assignEach (e::es) X.env).map (·.2)=assign e X.env::(assignEach es X.env).map (·.2):=by rfl):PGs X (e::es) (gCons t u):=by
 intro pins s σ H vs us Q I r h
 obtain⟨v,vr,e1,h⟩:=h
 subst e1
 cases r with
 | cons r rr=>
  rw [hs]
  refine assignInOrder_cons (thn (h1 pins s σ H _ _ _ I r h) fun _ s1 ⟨σ1,H1,I1,q1⟩=>?_)
  exact h2 pins s1 σ1 H1 _ _ Q I1 rr q1
def gTup (K:PySem.W.Frag) (n:Nat) (t:TGs):TG:=fun v σ H Q=>∃ a xs,v=.ref a/\SqT K H a xs/\xs.length=n/\t xs σ H Q
theorem pg_tup {es:List Expr} {k:Nat} {t:TGs} {n:Nat} (hc:X.calm=true) (h:PGs X es t)
  (hn:(assignEach es X.env).length=n:=by rfl) (hst:(assignEach es X.env).findIdx? (·.1)=none:=by rfl):PG X (.Tuple es k pos) (gTup X.K n t):=by
 intro pins s σ H v u Q I r hw
 obtain⟨a,xs,e1,hq,hl,hw⟩:=hw
 subst e1
 cases r
 obtain⟨its,rv,ht,hz⟩:=I.tuple hq
 refine assign_Tuple_tuple (I.ok.hd hc) ht (by simp [hn,<- hl,rv.length]) hst fun h' hx=>?_
 have I1:Inv X pins σ H {s with heap:=h'}:=I.kept (t':=s.toks) fun b o e=>hx b o (Nat.ne_of_lt (Heap.lt_size e)) e
 exact h pins _ σ H xs _ Q I1 (by simpa using rv) hw
def gSub (to ti:TE) (t:TSet):TG:=fun v σ H Q=>to σ H fun o H1=>ti σ H1 fun i H2=>t o i v H2 fun H3=>Q σ H3
theorem pg_sub {o i:Expr} {to ti:TE} {t:TSet} (ho:PE X o to) (hi:PE X i ti) (hs:PSet X t)
  (ha:∀ v,assign (.Subscript o i pos) X.env v=(do
   let ov <- holding [v] (eval o X.env)
   let iv <- holding [v,ov] (eval i X.env)
   standAt pos
   holding [v,ov,iv] (setItem ov iv v)
   release [v,ov,iv] []):=by intro _; rfl):PG X (.Subscript o i pos) (gSub to ti t):=by
 intro pins s σ H v u Q I r h
 rw [ha]
 refine wpAny_bind (wpAny_holding (thn (ho pins s σ H _ I h) fun ov s1 ⟨x,H1,I1,r1,q1⟩=>?_))
 refine wpAny_bind (wpAny_holding (thn (hi pins s1 σ H1 _ I1 q1) fun iv s2 ⟨y,H2,I2,r2,q2⟩=>?_))
 refine wpAny_bind (wpAny_standAt (wpAny_bind (wpAny_holding (thn (hs pins s2 σ H2 x y v ov iv u _ I2 r1 r2 r q2) fun _ s3 ⟨H3,I3,q3⟩=>?_))))
 exact wpAny_release ⟨σ,H3,I3,q3⟩
def tAsg (te:TE) (g:TG):TS:=fun D σ H=>te σ H fun x H1=>g x σ H1 D.nx
theorem ps_asg {tg e:Expr} {te:TE} {g:TG} (he:PE X e te) (hg:PG X tg g) (hs:swapsWithSole [tg] e pos.line X.env=pure false:=by rfl) (hw:swappedStores [tg] e X.env=pure none:=by rfl)
  (h1:(assignEach [tg] X.env).map (·.2)=[assign tg X.env]:=by rfl):PS X (.Assign [tg] e pos) (tAsg te g):=by
 intro pins s σ H D I h
 refine wpAny_Assign_stores (thn (he pins s σ H _ I h) fun v s1 ⟨x,H1,I1,r1,q1⟩=>?_) hs hw
 rw [h1]
 exact thn (hg pins s1 σ H1 x v _ I1 r1 q1) fun _ s2 q=>q
theorem ps_set {i:Nat} {x:Str} {e:Expr} {te:TE} {pos':Pos} (hN:X.N.Nodup) (hi:X.N[i]?=some x) (hx:Loc X.env.scope x) (he:PE X e te) (hs:swapsWith e (some (.Name x pos')) pos.line X.env=pure false:=by rfl) (hf:X.fn x=true\/X.env.scope.names.lookup x=some .local:=by first | exact .inl rfl | exact .inr rfl | assumption):
  PS X (.Assign [.Name x pos'] e pos) (tAsg te (gName i)):=by
 intro pins s σ H D I h
 refine wpAny_Assign_Name (thn (he pins s σ H _ I h) fun v s1 ⟨y,H1,I1,r1,q1⟩=>?_) hs
 exact store_ok I1 hN hi hx r1 (fun s2 I2=>⟨_,H1,I2,q1⟩) hf
def tPar (i j:Nat) (ta:TA):TS:=fun D σ H=>ta σ H fun vs H1=>∃ v w,vs=[v,w]/\D.nx ((σ.set i (some v)).set j (some w)) H1
theorem ps_par {i j:Nat} {x y:Str} {a b:Expr} {ta:TA} {px py pt:Pos} {kt k2 pt2} (hc:X.calm=true) (hN:X.N.Nodup) (hi:X.N[i]?=some x) (hj:X.N[j]?=some y) (hij:i≠j)
  (hx:X.env.scope.names.lookup x=some .local) (hy:X.env.scope.names.lookup y=some .local) (ha:PA X [a,b] ta)
  (hw:swappedStores [.Tuple [.Name x px,.Name y py] kt pt] (.Tuple [a,b] k2 pt2) X.env=pure (some [x,y]))
  (hs:swapsWithSole [.Tuple [.Name x px,.Name y py] kt pt] (.Tuple [a,b] k2 pt2) pos.line X.env=pure false:=by rfl):
  PS X (.Assign [.Tuple [.Name x px,.Name y py] kt pt] (.Tuple [a,b] k2 pt2) pos) (tPar i j ta):=by
 intro pins s σ H D I h
 rw [exec_Assign_arm]
 refine wpAny_bind (wpAny_standAt ?_)
 rw [hs]
 refine wpAny_bind (wpAny_pure ?_)
 rw [if_neg (by decide)]
 refine wpAny_bind (Tuple_ (thn (ha _ pins s σ H _ I h) fun us s1 ⟨vs,H1,I1,r1,q1⟩=>?_))
 obtain⟨v,w,e1,q1⟩:=q1
 subst e1
 obtain⟨u1,u2,rfl,rv,rw'⟩:∃ u1 u2,us=[u1,u2]/\RelV v u1/\RelV w u2:=by
  cases r1 with
  | cons p q=>
   cases q with
   | cons p' q'=>
    cases q'
    exact⟨_,_,rfl,p,p'⟩
 refine wpAny_newObj_type ?_ (by show 2<=sizeLine; decide)
 have I2:Inv X pins σ H1 {s1 with heap:=s1.heap.push {cls:=.type "tuple",data:=.seq [u1,u2].toArray}}:=I1.kept (t':=s1.toks) fun b o e=>Heap.get?_push_of_some _ e
 rw [hw]
 refine wpAny_bind (wpAny_pure ?_)
 show wpAny (model X.prog X.w) X.A (do rule "assign.swapped-stores"; let items <- unpackItems (.ref s1.heap.objs.size) 2 none; assignInOrder [fun v=>bindName X.env y v,fun v=>bindName X.env x v] items.reverse; pure Flow.next) _ _ _
 refine wpAny_bind (wpAny_rule (wpAny_bind (unpackItems_tuple (items:=#[u1,u2]) (I.ok.hd hc) (IsTup.new s1.heap _) fun h' hx'=>?_)))
 have I3:=I2.kept (h':=h') (t':=s1.toks) fun b o e=>hx' b o (Nat.ne_of_lt (Heap.lt_size e)) e
 show wpAny _ _ (assignInOrder [fun v=>bindName X.env y v,fun v=>bindName X.env x v] [u2,u1] >>= fun _=>pure Flow.next) _ _ _
 refine wpAny_bind (assignInOrder_cons (wpAny_bindName (store_ok I3 hN hj (.inl hy) rw' (fun s2 I4=>?_) (.inr hy))))
 refine assignInOrder_cons (wpAny_bindName (store_ok I4 hN hi (.inl hx) rv (fun s3 I5=>assignInOrder_nil (wpAny_pure ?_)) (.inr hx)))
 rw [List.set_comm _ _ (Ne.symm hij)] at I5
 exact⟨_,H1,I5,q1⟩
end
section
variable {X:Cx} {pos:Pos}
def tWhile (c:TT) (tb:TS):TS:=fun D σ H=>∃ W:Nat->St->Hp->Prop,(∃ m,W m σ H)/\∀ m σ H,W m σ H->
 c σ H fun b H1=>if b=true then ∃ N:St->Hp->Prop,(∀ σ' H',N σ' H'->∃ m',m' < m/\W m' σ' H')/\tb {D with nx:=N,ct:=N,bk:=D.nx} σ H1 else D.nx σ H1
theorem ps_while {c:Expr} {body:List Stmt} {tc:TT} {tb:TS} (hp:PassesOwn (model X.prog X.w) X.A X.env X.xe) (hc:PT X c tc) (hb:PSs X body tb):PS X (.While c body [] pos) (tWhile tc tb):=by
 intro pins s σ H D I h
 obtain⟨W,⟨m0,w0⟩,turn⟩:=h
 refine wpAny_While (codeAny_whileLoop (fun n s'=>∃ σ' H',Inv X pins σ' H' s'/\W n σ' H') ?_ m0 ⟨σ,H,I,w0⟩)
 rintro n s1 ⟨σ1,H1,I1,w1⟩
 refine wpAny_passesOwn hp (thn (hc pins s1 σ1 H1 _ I1 (turn n σ1 H1 w1)) fun b s2 ⟨H2,I2,q2⟩=>?_)
 cases b with
 | true=>
  obtain⟨N,hN,q2⟩:=q2
  rw [if_pos rfl]
  refine wpAny_passesOwn hp (thn (hb pins s2 σ1 H2 _ I2 q2) fun f s3 q3=>?_)
  cases f with
  | next=>
   obtain⟨σ3,H3,I3,n3⟩:=q3
   obtain⟨m',hm,w3⟩:=hN σ3 H3 n3
   exact⟨m',hm,σ3,H3,I3,w3⟩
  | cont=>
   obtain⟨σ3,H3,I3,n3⟩:=q3
   obtain⟨m',hm,w3⟩:=hN σ3 H3 n3
   exact⟨m',hm,σ3,H3,I3,w3⟩
  | brk=>exact q3
  | ret v=>exact q3
 | false=>
  rw [if_neg Bool.false_ne_true]
  exact wpAny_execs_nil ⟨σ1,H2,I2,q2⟩
end
structure It where
 go:Nat->Hp->Prop
 yld:Nat->Hp->V->Hp->Prop
 stop:Nat->Hp->Prop
def FpOk (X:Cx) (pins:List (Addr×Obj)) (H:Hp) (b:Addr):Prop:=
 H b=none/\b≠X.env.locals/\b∉X.fs/\(b∈X.ex\/X.s₀.heap.objs.size<=b)/\(∀ x c,X.env.cells.lookup x=some c->c≠b)/\∀ p∈X.pn++pins,p.1≠b
theorem Inv.fpOk {X:Cx} {pins:List (Addr×Obj)} {σ:St} {H H':Hp} {s:Shared} {b:Addr} (I:Inv X pins σ H s) (hb:s.heap.objs.size<=b) (hn:H' b=none):FpOk X pins H' b:=by
 refine⟨hn,Nat.ne_of_gt (Nat.lt_of_lt_of_le I.lt hb),I.nofs hb,.inr (Nat.le_trans I.sz hb),fun x c e z=>?_,fun p hp z=>?_⟩
 ·obtain⟨v,q⟩:=I.cell x c e
  exact absurd (Nat.lt_of_lt_of_le q.lt (by rw [z]; exact hb)) (Nat.lt_irrefl _)
 ·exact absurd (Nat.lt_of_lt_of_le (Heap.lt_size (I.pin p hp).1) (by rw [z]; exact hb)) (Nat.lt_irrefl _)
structure Turn (P:Program) (w:World) (K:PySem.W.Frag) (tg:Expr) (J:It) (fp:List Addr) (it:Addr) (tn:Nat->Heap->Prop):Prop where
 mem:it∈fp
 obj:∀ i h,tn i h->∀ b∈fp,∃ o,h.get? b=some o/\∀ v,o.data≠.cell v
 keep:∀ i h h',tn i h->(∀ b∈fp,∀ o,h.get? b=some o->h'.get? b=some o)->tn i h'
 item:∀ (X:Cx),X.prog=P->X.w=w->X.K=K->X.calm=true->∀ (i:Nat) (pins:List (Addr×Obj)) (s:Shared) (σ:St) (H:Hp) (E:Value->Shared->Prop),Inv X pins σ H s->(∀ b∈fp,FpOk X pins H b)->tn i s.heap->J.go i H->
  wpAny (model P w) X.A (pyNext (.ref it)) (fun r s1=>∃ u,r=some u/\
   wpAny (model P w) X.A (letOwnedTupleGo tg (.ref it) u) (fun _ s2=>∃ x H',Inv X pins σ H' s2/\RelV x u/\J.yld i H x H'/\tn (i+1) s2.heap/\∀ b∈fp,H' b=none) E s1) E s
 done:∀ (X:Cx),X.prog=P->X.w=w->X.K=K->X.calm=true->∀ (i:Nat) (pins:List (Addr×Obj)) (s:Shared) (σ:St) (H:Hp) (E:Value->Shared->Prop),Inv X pins σ H s->(∀ b∈fp,FpOk X pins H b)->tn i s.heap->J.stop i H->
  wpAny (model P w) X.A (pyNext (.ref it)) (fun r s1=>r=none/\Inv X pins σ H s1) E s
 self:∀ (A:Around) (i:Nat) (s:Shared) (Q:Value->Shared->Prop) (E:Value->Shared->Prop),tn i s.heap->Q (.ref it) s->wpAny (model P w) A (pyIter (.ref it)) Q E s
abbrev TI:=St->Hp->(It->Hp->Prop)->Prop
def PIE (X:Cx) (pins:List (Addr×Obj)) (σ:St) (tg:Expr) (R:It->Hp->Prop) (itv:Value) (s2:Shared):Prop:=
 ∃ (it:Addr) (fp:List Addr) (tn:Nat->Heap->Prop) (J:It) (H':Hp),itv=.ref it/\Inv X pins σ H' s2/\Turn X.prog X.w X.K tg J fp it tn/\tn 0 s2.heap/\(∀ b∈fp,FpOk X pins H' b)/\R J H'
def PI (X:Cx) (tg iter:Expr) (wi:TI):Prop:=
 ∀ (pins:List (Addr×Obj)) (s:Shared) (σ:St) (H:Hp) (R:It->Hp->Prop),Inv X pins σ H s->wi σ H R->
  wpAny (model X.prog X.w) X.A (eval iter X.env) (fun v s1=>wpAny (model X.prog X.w) X.A (pyIter v) (PIE X pins σ tg R) X.xe s1) X.xe s
theorem go_of {M:Model} {A:Around} {E:Value->Shared->Prop} {s:Shared} {tg:Expr} {it:Addr} {u:Value} {o:Obj} {n:String} {vs:Array Value} {Q:Unit->Shared->Prop} (ho:s.heap.get? it=some o) (hc:o.cls=.type n) (hd:o.data=.fields vs)
  (hn:["enumerate","zip","dict_itemiterator","dict_reverseitemiterator","odict_iterator","itertools.zip_longest","itertools.pairwise"].contains n=false) (hQ:Q () s):wpAny M A (letOwnedTupleGo tg (.ref it) u) Q E s:=by
 unfold letOwnedTupleGo
 cases tg <;> first
  | exact wpAny_pure hQ
  | (cases u <;> first
    | exact wpAny_pure hQ
    | (refine wpAny_bind (wpAny_load ho ?_)
       rw [hc,hd]
       show wpAny M A (if (["enumerate","zip","dict_itemiterator","dict_reverseitemiterator","odict_iterator","itertools.zip_longest","itertools.pairwise"].contains n && vs[0]? == some (rawInt _))=true then _ else _) Q E s
       rw [if_neg (by intro h; rw [hn,Bool.false_and] at h; cases h)]
       exact wpAny_pure hQ))
def Itl (K:PySem.W.Frag) (a:Addr):It:=
 ⟨fun i H=>∃ xs x,SqL K H a xs/\xs[i]?=some x,fun i H x H'=>H'=H/\∀ xs,SqL K H a xs->xs[i]?=some x,fun i H=>∃ xs,SqL K H a xs/\xs.length<=i⟩
def Itt (K:PySem.W.Frag) (a:Addr):It:=
 ⟨fun i H=>∃ xs x,SqT K H a xs/\xs[i]?=some x,fun i H x H'=>H'=H/\∀ xs,SqT K H a xs->xs[i]?=some x,fun i H=>∃ xs,SqT K H a xs/\xs.length<=i⟩
def Itr (lo:Int) (n:Nat):It:=⟨fun i _=>i < n,fun i H x H'=>H'=H/\x=.int (lo+i),fun i _=>n<=i⟩
theorem turn_list {P:Program} {w:World} {K:PySem.W.Frag} {tg:Expr} (a it:Addr):Turn P w K tg (Itl K a) [it] it (fun i h=>h.IsListIter it a i) where
 mem:=by simp
 obj:=fun i h st b hb=>by
  have e:b=it:=by simpa using hb
  subst e
  obtain⟨o,e,c,d⟩:=st
  exact⟨o,e,fun v z=>by rw [d] at z; cases z⟩
 keep:=fun i h h' st k=>st.at fun o e=>k it (by simp) o e
 item:=by
  intro X hP hw hK hc i pins s σ H E I hf st hg
  subst hP hw hK
  obtain⟨xs,x,hq,hx⟩:=hg
  obtain⟨its,rv,p,hz⟩:=I.list hq
  obtain⟨u,hu,ru⟩:=rv.get hx
  obtain⟨f0,f1,f2,f3,f4,f5⟩:=hf it (by simp)
  refine wpAny_pyNext_list_item st p.isList (x:=u) (by simpa using hu) fun h' st' sb=>?_
  have I1:Inv X pins σ H {s with heap:=h'}:=I.turned (t':=s.toks) (fun b o hb e=>(sb.2 b hb).trans e) f0 f1 f3 f4 f5
  obtain⟨o,e,c,d⟩:=id st'
  exact⟨u,rfl,go_of (s:={s with heap:=h'}) e c d (by decide) ⟨x,H,I1,ru,⟨rfl,fun ys hy=>by rw [I.list_inj hy hq]; exact hx⟩,st',fun b hb=>(hf b hb).1⟩⟩
 done:=by
  intro X hP hw hK hc i pins s σ H E I hf st hg
  subst hP hw hK
  obtain⟨xs,hq,hx⟩:=hg
  obtain⟨its,rv,p,hz⟩:=I.list hq
  obtain⟨f0,f1,f2,f3,f4,f5⟩:=hf it (by simp)
  have hl:=rv.length
  exact wpAny_pyNext_list_end (I.ok.hd hc) st p.isList (by simp; omega) fun h' eb=>⟨rfl,I.turned (t':=s.toks) (fun b o hb e=>eb b o hb e) f0 f1 f3 f4 f5⟩
 self:=fun _ _ _ _ _ st h=>wpAny_pyIter_listiter st h
theorem turn_tuple {P:Program} {w:World} {K:PySem.W.Frag} {tg:Expr} (a it:Addr):Turn P w K tg (Itt K a) [it] it (fun i h=>h.IsTupleIter it a i) where
 mem:=by simp
 obj:=fun i h st b hb=>by
  have e:b=it:=by simpa using hb
  subst e
  obtain⟨o,e,c,d⟩:=st
  exact⟨o,e,fun v z=>by rw [d] at z; cases z⟩
 keep:=fun i h h' st k=>st.at fun o e=>k it (by simp) o e
 item:=by
  intro X hP hw hK hc i pins s σ H E I hf st hg
  subst hP hw hK
  obtain⟨xs,x,hq,hx⟩:=hg
  obtain⟨its,rv,p,hz⟩:=I.tuple hq
  obtain⟨u,hu,ru⟩:=rv.get hx
  obtain⟨f0,f1,f2,f3,f4,f5⟩:=hf it (by simp)
  refine wpAny_pyNext_tuple_item st (show s.heap.IsTuple a its.toArray from p) (x:=u) (by simpa using hu) fun h' st' sb=>?_
  have I1:Inv X pins σ H {s with heap:=h'}:=I.turned (t':=s.toks) (fun b o hb e=>(sb.2 b hb).trans e) f0 f1 f3 f4 f5
  obtain⟨o,e,c,d⟩:=id st'
  exact⟨u,rfl,go_of (s:={s with heap:=h'}) e c d (by decide) ⟨x,H,I1,ru,⟨rfl,fun ys hy=>by rw [I.tuple_inj hy hq]; exact hx⟩,st',fun b hb=>(hf b hb).1⟩⟩
 done:=by
  intro X hP hw hK hc i pins s σ H E I hf st hg
  subst hP hw hK
  obtain⟨xs,hq,hx⟩:=hg
  obtain⟨its,rv,p,hz⟩:=I.tuple hq
  obtain⟨f0,f1,f2,f3,f4,f5⟩:=hf it (by simp)
  have hl:=rv.length
  exact wpAny_pyNext_tuple_end (I.ok.hd hc) st (show s.heap.IsTuple a its.toArray from p) (by simp; omega) fun h' eb=>⟨rfl,I.turned (t':=s.toks) (fun b o hb e=>eb b o hb e) f0 f1 f3 f4 f5⟩
 self:=fun _ _ _ _ _ st h=>wpAny_pyIter_tupleiter st h
theorem turn_range {P:Program} {w:World} {K:PySem.W.Frag} {tg:Expr} (it:Addr) (lo:Int) (n:Nat):Turn P w K tg (Itr lo n) [it] it (fun i h=>IsRangeIter h it (lo+(i:Nat)*1) ((n:Int) - (i:Nat)) 1) where
 mem:=by simp
 obj:=fun i h st b hb=>by
  have e:b=it:=by simpa using hb
  subst e
  exact⟨_,st,fun v z=>by
   have z':Data.fields _=Data.cell v:=z
   cases z'⟩
 keep:=fun i h h' st k=>k it (by simp) _ st
 item:=by
  intro X hP hw hK hc i pins s σ H E I hf st hg
  subst hP hw hK
  obtain⟨f0,f1,f2,f3,f4,f5⟩:=hf it (by simp)
  have W:=Walks.range (prog:=X.prog) (w:=X.w) (I.ok.hd hc) it lo 1 n
  refine W.item i s _ _ hg st fun v h' tk hv st' kk=>?_
  obtain⟨t,rfl⟩:=hv
  have I1:Inv X pins σ H {s with heap:=h',toks:=tk}:=I.turned (fun b o hb e=>kk b o (by simpa using hb) e) f0 f1 f3 f4 f5
  refine⟨_,rfl,go_of (s:={s with heap:=h',toks:=tk}) (n:="range_iterator") st' rfl rfl (by decide) ⟨.int (lo+i),H,I1,⟨t,?_⟩,⟨rfl,rfl⟩,st',fun b hb=>(hf b hb).1⟩⟩
  rw [Int.mul_one]
 done:=by
  intro X hP hw hK hc i pins s σ H E I hf st hg
  subst hP hw hK
  obtain⟨f0,f1,f2,f3,f4,f5⟩:=hf it (by simp)
  exact wpAny_pyNext_range_end (I.ok.hd hc) st (by have:n<=i:=hg; omega) fun h' eb=>⟨rfl,I.turned (t':=s.toks) (fun b o hb e=>eb b o hb e) f0 f1 f3 f4 f5⟩
 self:=fun _ _ _ _ _ st h=>wpAny_pyIter_rangeiter st h
section
variable {X:Cx} {tg:Expr}
theorem range_it {pins:List (Addr×Obj)} {σ:St} {H:Hp} {s:Shared} {R:It->Hp->Prop} {E:Value->Shared->Prop} {lo hi:Int} {t u v:Tok} {tk:Nat} (I:Inv X pins σ H s) (h1:-(2 ^ 62)<=lo) (h2:lo < 2 ^ 62) (h3:-(2 ^ 62)<=hi) (h4:hi < 2 ^ 62)
  (q:R (Itr lo (hi - lo).toNat) H):wpAny (model X.prog X.w) X.A (pyIter (.ref s.heap.objs.size)) (PIE X pins σ tg R) E {s with heap:=s.heap.push {cls:=.type "range",data:=.fields #[.int lo t,.int hi u,.int 1 v]},toks:=tk}:=by
 refine wpAny_pyIter_range (IsRange.new ..) (small_one h1 h2 h3 h4) ?_
 have I1:Inv X pins σ H {s with heap:=s.heap.push {cls:=.type "range",data:=.fields #[.int lo t,.int hi u,.int 1 v]},toks:=tk}:=I.kept fun b o e=>Heap.get?_push_of_some _ e
 refine⟨(s.heap.push {cls:=.type "range",data:=.fields #[.int lo t,.int hi u,.int 1 v]}).objs.size,[(s.heap.push {cls:=.type "range",data:=.fields #[.int lo t,.int hi u,.int 1 v]}).objs.size],_,_,H,rfl,
  I1.kept (t':=tk) fun b o e=>Heap.get?_push_of_some _ e,turn_range _ lo (hi - lo).toNat,?_,fun b hb=>?_,q⟩
 ·have e1:lo+((0:Nat):Int)*1=lo:=by simp
  have e2:(((hi - lo).toNat:Nat):Int) - ((0:Nat):Int)=Builtin.Range.rangeSize lo hi 1:=by rw [rangeSize_one]; split <;> omega
  show IsRangeIter _ _ (lo+((0:Nat):Int)*1) ((((hi - lo).toNat:Nat):Int) - ((0:Nat):Int)) 1
  rw [e1,e2]
  exact Heap.get?_push_size _ rfl
 ·have e:b=(s.heap.push {cls:=.type "range",data:=.fields #[.int lo t,.int hi u,.int 1 v]}).objs.size:=by simpa using hb
  subst e
  exact I1.fpOk (Nat.le_refl _) (I1.hok.fresh (Nat.le_refl _))
def iRng1 (ta:TA):TI:=fun σ H R=>ta σ H fun vs H1=>∃ j:Int,vs=[.int j]/\-(2 ^ 62)<=j/\j < 2 ^ 62/\R (Itr 0 j.toNat) H1
theorem pi_range1 {a:Expr} {ta:TA} {p pos:Pos} (hg:Gl X "range") (hm:X.mg "range"=none) (ha:PA X [a] ta) (hs:starEach [a] X.env=[(false,eval a X.env)]:=by rfl):PI X tg (.Call (.Name "range" p) [a] [] pos) (iRng1 ta):=by
 intro pins s σ H R I h
 refine Call_ (ld_blt I hg hm boot_range (PyProof.Rows.callWith_type1 (thn (ha pos pins s σ H _ I h) fun us s1 ⟨vs,H1,I1,r1,q1⟩=>?_) hs rfl))
 obtain⟨j,e,q1,q2,q⟩:=q1
 subst e
 cases r1 with
 | cons r rr=>
  cases rr
  obtain⟨t,rfl⟩:=r
  exact call_range_1 (range_it I1 (by omega) (by omega) q1 q2 (by simpa using q))
def tFor (wi:TI) (g:TG) (tb:TS):TS:=fun D σ H=>wi σ H fun J H1=>∃ W:Nat->Nat->St->Hp->Prop,(∃ m,W 0 m σ H1)/\∀ i m σ H,W i m σ H->
 (J.stop i H/\D.nx σ H)\/(J.go i H/\∃ N:St->Hp->Prop,(∀ σ' H',N σ' H'->∃ m',m' < m/\W (i+1) m' σ' H')/\∀ x H',J.yld i H x H'->g x σ H' fun σ2 H2=>tb {D with nx:=N,ct:=N,bk:=D.nx} σ2 H2)
def pinsAt (fp:List Addr) (h:Heap):List (Addr×Obj):=fp.filterMap fun b=>(h.get? b).map fun o=>(b,o)
theorem mem_pinsAt {fp:List Addr} {h:Heap} {b:Addr} {o:Obj} (hb:b∈fp) (e:h.get? b=some o):(b,o)∈pinsAt fp h:=List.mem_filterMap.mpr ⟨b,hb,by rw [e]; rfl⟩
theorem of_pinsAt {fp:List Addr} {h:Heap} {p:Addr×Obj} (hp:p∈pinsAt fp h):p.1∈fp/\h.get? p.1=some p.2:=by
 obtain⟨b,hb,e⟩:=List.mem_filterMap.mp hp
 cases q:h.get? b with
 | none=>rw [q] at e; cases e
 | some o=>
  rw [q] at e
  have e':(b,o)=p:=Option.some.inj e
  subst e'
  exact⟨hb,q⟩
theorem Inv.pinned {pins:List (Addr×Obj)} {σ:St} {H:Hp} {s:Shared} {fp:List Addr} (I:Inv X pins σ H s) (hf:∀ b∈fp,FpOk X pins H b) (ho:∀ b∈fp,∃ o,s.heap.get? b=some o/\∀ v,o.data≠.cell v):Inv X (pins++pinsAt fp s.heap) σ H s:=
 I.pins_of fun p hp=>(List.mem_append.mp hp).elim (fun z=>I.pin p (List.mem_append_right _ z)) fun z=>by
  obtain⟨hb,e⟩:=of_pinsAt z
  obtain⟨f0,f1,f2,_⟩:=hf p.1 hb
  obtain⟨o,e',d⟩:=ho p.1 hb
  rw [e] at e'; cases e'
  exact⟨e,f0,f1,f2,d⟩
theorem Inv.unpinned {pins pl:List (Addr×Obj)} {σ:St} {H:Hp} {s:Shared} (I:Inv X (pins++pl) σ H s):Inv X pins σ H s:=I.pins_of fun p hp=>I.pin p (List.mem_append_right _ (List.mem_append_left _ hp))
theorem ps_for {iter:Expr} {body:List Stmt} {wi:TI} {g:TG} {tb:TS} {pos:Pos} (hp:PassesOwn (model X.prog X.w) X.A X.env X.xe) (hc:X.calm=true) (hi:PI X tg iter wi) (hg:PG X tg g) (hb:PSs X body tb)
  (hs:∀ x,foldedSetIterable iter X.env x=pure x:=by intro _; rfl):PS X (.For tg iter body [] pos) (tFor wi g tb):=by
 intro pins s σ H D I h
 refine wpAny_For (thn (hi pins s σ H _ I h) fun v s1 h1=>thn h1 fun itv s2 h2=>?_) hs
 obtain⟨it,fp,tn,J,H2,e,I2,T,st2,f2,W,⟨m0,w0⟩,turn⟩:=h2
 subst e
 have stat:∀ {H':Hp},(∀ b∈fp,H' b=none)->∀ b∈fp,FpOk X pins H' b:=fun hn b hb=>⟨hn b hb,(f2 b hb).2⟩
 refine codeAny_forLoop_any (fun n s'=>∃ i σ' H',Inv X pins σ' H' s'/\tn i s'.heap/\(∀ b∈fp,H' b=none)/\W i n σ' H') ?_ m0 ⟨0,σ,H2,I2,st2,fun b hb=>(f2 b hb).1,w0⟩
 rintro n s3 ⟨i,σ3,H3,I3,st3,fr3,w3⟩
 rcases turn i n σ3 H3 w3 with ⟨stop,qn⟩ | ⟨go,N,hN,step⟩
 ·refine wpAny_passesOwn hp (thn (T.done X rfl rfl rfl hc i pins s3 σ3 H3 X.xe I3 (stat fr3) st3 stop) fun r s4 ⟨hr,I4⟩=>?_)
  subst hr
  exact wpAny_execs_nil ⟨σ3,H3,I4,qn⟩
 ·refine wpAny_passesOwn hp (thn (T.item X rfl rfl rfl hc i pins s3 σ3 H3 X.xe I3 (stat fr3) st3 go) fun r s4 ⟨u,hr,h4⟩=>?_)
  subst hr
  refine wpAny_passesOwn hp (thn h4 fun _ s5 ⟨x,H5,I5,r5,y5,st5,fr5⟩=>?_)
  have I5':=I5.pinned (stat fr5) (T.obj _ _ st5)
  refine wpAny_passesOwn hp (thn (hg _ s5 σ3 H5 x u _ I5' r5 (step x H5 y5)) fun _ s6 ⟨σ6,H6,I6,q6⟩=>?_)
  refine wpAny_passesOwn hp (thn (hb _ s6 σ6 H6 _ I6 q6) fun f s7 q7=>?_)
  have again:∀ {σ7:St} {H7:Hp},Inv X (pins++pinsAt fp s5.heap) σ7 H7 s7->N σ7 H7->∃ m,m < n/\∃ i σ' H',Inv X pins σ' H' s7/\tn i s7.heap/\(∀ b∈fp,H' b=none)/\W i m σ' H':=fun {σ7 H7} I7 n7=>by
   obtain⟨m',hm,w7⟩:=hN σ7 H7 n7
   refine⟨m',hm,i+1,σ7,H7,I7.unpinned,T.keep _ _ _ st5 fun b hb o e=>(I7.pin (b,o) (List.mem_append_right _ (List.mem_append_right _ (mem_pinsAt hb e)))).1,fun b hb=>?_,w7⟩
   obtain⟨o,e,d⟩:=T.obj _ _ st5 b hb
   exact(I7.pin (b,o) (List.mem_append_right _ (List.mem_append_right _ (mem_pinsAt hb e)))).2.1
  cases f with
  | next=>obtain⟨σ7,H7,I7,n7⟩:=q7; exact again I7 n7
  | cont=>obtain⟨σ7,H7,I7,n7⟩:=q7; exact again I7 n7
  | brk=>obtain⟨σ7,H7,I7,q7⟩:=q7; exact⟨σ7,H7,I7.unpinned,q7⟩
  | ret v=>obtain⟨x7,σ7,H7,I7,r7,q7⟩:=q7; exact⟨x7,σ7,H7,I7.unpinned,r7,q7⟩
end
abbrev R2:=V->V->Hp->VK->Prop
def OpR (X:Cx) (f:Value->Value->Sem Value) (r:R2):Prop:=
 ∀ (pins:List (Addr×Obj)) (s:Shared) (σ:St) (H:Hp) (x y:V) (v u:Value) (Q:VK),Inv X pins σ H s->RelV x v->RelV y u->r x y H Q->
  wpAny (model X.prog X.w) X.A (f v u) (EP X pins σ Q) X.xe s
def UnR (X:Cx) (f:Value->Sem Value) (r:V->Hp->VK->Prop):Prop:=
 ∀ (pins:List (Addr×Obj)) (s:Shared) (σ:St) (H:Hp) (x:V) (v:Value) (Q:VK),Inv X pins σ H s->RelV x v->r x H Q->
  wpAny (model X.prog X.w) X.A (f v) (EP X pins σ Q) X.xe s
def CallR (X:Cx) (f:Value) (r:List V->Hp->VK->Prop):Prop:=
 ∀ (pins:List (Addr×Obj)) (s:Shared) (σ:St) (H:Hp) (xs:List V) (us:List Value) (Q:VK),Inv X pins σ H s->Vals xs us->r xs H Q->
  wpAny (model X.prog X.w) X.A (call f us) (EP X pins σ Q) X.xe s
def tOp (r:R2) (ta tb:TE):TE:=fun σ H Q=>ta σ H fun x H1=>tb σ H1 fun y H2=>r x y H2 Q
def tUn (r:V->Hp->VK->Prop) (ta:TE):TE:=fun σ H Q=>ta σ H fun x H1=>r x H1 Q
def rI (C:Int->Int->Prop) (g:Int->Int->V):R2:=fun x y H Q=>∃ i j,x=.int i/\y=.int j/\C i j/\Q (g i j) H
def rI0 (g:Int->Int->V):R2:=fun x y H Q=>∃ i j,x=.int i/\y=.int j/\Q (g i j) H
def rU (g:Int->V):V->Hp->VK->Prop:=fun x H Q=>∃ i,x=.int i/\Q (g i) H
section
variable {X:Cx} {a b c:Expr} {ta tb tc:TE} {pos:Pos}
theorem binT (ha:PE X a ta) (hb:PE X b tb) {pins:List (Addr×Obj)} {s:Shared} {σ:St} {H:Hp} {R:V->V->Hp->Prop} (I:Inv X pins σ H s)
  (h:ta σ H fun x H1=>tb σ H1 fun y H2=>R x y H2) {Q:Value->Shared->Prop} {f:Value->Value->Sem Value}
  (hf:∀ v u s2 x y H2,Inv X pins σ H2 s2->RelV x v->RelV y u->R x y H2->wpAny (model X.prog X.w) X.A (f v u) Q X.xe s2):
  wpAny (model X.prog X.w) X.A (eval a X.env) (fun v s₁=>wpAny (model X.prog X.w) X.A (eval b X.env) (fun u s₂=>wpAny (model X.prog X.w) X.A (f v u) Q X.xe s₂) X.xe s₁) X.xe s:=by
 refine thn (ha pins s σ H _ I h) fun v s1 ⟨x,H1,I1,r1,q1⟩=>?_
 refine thn (hb pins s1 σ H1 _ I1 q1) fun u s2 ⟨y,H2,I2,r2,q2⟩=>?_
 exact hf v u s2 x y H2 I2 r1 r2 q2
theorem pe_op {op:Operator} {r:R2} (ho:OpR X (binaryOp op) r) (ha:PE X a ta) (hb:PE X b tb):PE X (.BinOp a op b pos) (tOp r ta tb):=by
 intro pins s σ H Q I h
 exact wpAny_BinOp (binT ha hb I h fun v u s2 x y H2 I2 rx ry q=>ho pins s2 σ H2 x y v u Q I2 rx ry q)
theorem pe_un {op:UnaryOp} {r:V->Hp->VK->Prop} (ho:UnR X (unaryOp op) r) (ha:PE X a ta):PE X (.UnaryOp op a pos) (tUn r ta):=by
 intro pins s σ H Q I h
 exact UnaryOp_ (thn (ha pins s σ H _ I h) fun v s1 ⟨x,H1,I1,r1,q1⟩=>ho pins s1 σ H1 x v Q I1 r1 q1)
theorem opI {f:Value->Value->Sem Value} {C:Int->Int->Prop} {g:Int->Int->Int}
  (rule:∀ (i j:Int) (t u:Tok) (s:Shared) (Q:Value->Shared->Prop) (E:Value->Shared->Prop),C i j->Q (.int (g i j) s.toks) {s with toks:=s.toks+1}->wpAny (model X.prog X.w) X.A (f (.int i t) (.int j u)) Q E s):
  OpR X f (rI C fun i j=>.int (g i j)):=by
 intro pins s σ H x y v u Q I rx ry h
 obtain⟨i,j,rfl,rfl,hc,q⟩:=h
 obtain⟨t,rfl⟩:=rx
 obtain⟨t',rfl⟩:=ry
 exact rule i j t t' s _ _ hc ⟨.int (g i j),H,I.tok _,⟨_,rfl⟩,q⟩
theorem opI0 {f:Value->Value->Sem Value} {g:Int->Int->Int}
  (rule:∀ (i j:Int) (t u:Tok) (s:Shared) (Q:Value->Shared->Prop) (E:Value->Shared->Prop),Q (.int (g i j) s.toks) {s with toks:=s.toks+1}->wpAny (model X.prog X.w) X.A (f (.int i t) (.int j u)) Q E s):
  OpR X f (rI0 fun i j=>.int (g i j)):=by
 intro pins s σ H x y v u Q I rx ry h
 obtain⟨i,j,rfl,rfl,q⟩:=h
 obtain⟨t,rfl⟩:=rx
 obtain⟨t',rfl⟩:=ry
 exact rule i j t t' s _ _ ⟨.int (g i j),H,I.tok _,⟨_,rfl⟩,q⟩
theorem opB0 {f:Value->Value->Sem Value} {g:Int->Int->Bool}
  (rule:∀ (i j:Int) (t u:Tok) (s:Shared) (Q:Value->Shared->Prop) (E:Value->Shared->Prop),Q (.bool (g i j)) s->wpAny (model X.prog X.w) X.A (f (.int i t) (.int j u)) Q E s):
  OpR X f (rI0 fun i j=>.bl (g i j)):=by
 intro pins s σ H x y v u Q I rx ry h
 obtain⟨i,j,rfl,rfl,q⟩:=h
 obtain⟨t,rfl⟩:=rx
 obtain⟨t',rfl⟩:=ry
 exact rule i j t t' s _ _ ⟨.bl (g i j),H,I,rfl,q⟩
def CPow (i j:Int):Prop:=0<=j/\j<=1000000/\i.natAbs < 2 ^ 64
theorem op_add:OpR X (binaryOp .Add) (rI0 fun i j=>.int (i+j)):=opI0 fun _ _ _ _ _ _ _ q=>add_int q
theorem op_sub:OpR X (binaryOp .Sub) (rI0 fun i j=>.int (i - j)):=opI0 fun _ _ _ _ _ _ _ q=>sub_int q
theorem op_modN:OpR X (binaryOp .Mod) (rI (fun _ j=>j≠0) fun i j=>.int (i.fmod j)):=opI fun _ _ _ _ _ _ _ hc q=>mod_int' hc q
theorem op_pow:OpR X (binaryOp .Pow) (rI CPow fun i j=>.int (i ^ j.toNat)):=opI fun _ _ _ _ _ _ _ hc q=>pow_int_small hc.1 hc.2.1 hc.2.2 q
theorem op_shl:OpR X (binaryOp .LShift) (rI CPow fun i j=>.int (i*2 ^ j.toNat)):=opI fun _ _ _ _ _ _ _ hc q=>lshift_int_small hc.1 hc.2.1 hc.2.2 q
theorem unI {f:Value->Sem Value} {g:Int->Int}
  (rule:∀ (i:Int) (t:Tok) (s:Shared) (Q:Value->Shared->Prop) (E:Value->Shared->Prop),Q (.int (g i) s.toks) {s with toks:=s.toks+1}->wpAny (model X.prog X.w) X.A (f (.int i t)) Q E s):
  UnR X f (rU fun i=>.int (g i)):=by
 intro pins s σ H x v Q I rx h
 obtain⟨i,rfl,q⟩:=h
 obtain⟨t,rfl⟩:=rx
 exact rule i t s _ _ ⟨.int (g i),H,I.tok _,⟨_,rfl⟩,q⟩
theorem un_neg:UnR X (unaryOp .USub) (rU fun i=>.int (-i)):=unI fun _ _ _ _ _ q=>neg_int q
end
def scal:V->V->Bool
 | .non,.non=>true | .non,.int _=>true | .int _,.non=>true | .non,.bl _=>true | .bl _,.non=>true | .non,.str _=>true | .str _,.non=>true
 | .int _,.int _=>true | .bl _,.bl _=>true | .str _,.str _=>true | .byt _,.byt _=>true
 | .int _,.str _=>true | .str _,.int _=>true | .bl _,.str _=>true | .str _,.bl _=>true
 | _,_=>false
def rEq:R2:=fun x y H Q=>scal x y=true/\Q (.bl (decide (x=y))) H
def rNe:R2:=fun x y H Q=>scal x y=true/\Q (.bl (!decide (x=y))) H
theorem dec_int {i j:Int}:decide (V.int i=V.int j)=(i == j):=by
 rw [Bool.eq_iff_iff]
 simp
theorem dec_bl {i j:Bool}:decide (V.bl i=V.bl j)=(i == j):=by
 rw [Bool.eq_iff_iff]
 simp
theorem dec_str {i j:Str}:decide (V.str i=V.str j)=(i == j):=by
 rw [Bool.eq_iff_iff]
 simp
theorem dec_byt {i j:Array UInt8}:decide (V.byt i=V.byt j)=(i.toList == j.toList):=by
 rw [Bool.eq_iff_iff]
 cases i
 cases j
 simp
section
variable {X:Cx} {a b c:Expr} {ta tb tc:TE} {pos:Pos}
theorem fin_bl {pins:List (Addr×Obj)} {σ:St} {H:Hp} {s:Shared} {Q:VK} {k k':Bool} (I:Inv X pins σ H s) (q:Q (.bl k) H) (e:k=k'):EP X pins σ Q (.bool k') s:=by
 subst e
 exact⟨.bl k,H,I,rfl,q⟩
theorem op_eq:OpR X (compareOp .Eq) rEq:=by
 intro pins s σ H x y v u Q I rx ry h
 obtain⟨hs,q⟩:=h
 cases x with
 | non=>
  cases rx
  cases y with
  | non=>cases ry; exact PySem.EqNone.eq_none_none (fin_bl I q (by simp))
  | bl j=>cases ry; exact PySem.EqNone.eq_none_bool (fin_bl I q (by simp))
  | int j=>obtain⟨t',rfl⟩:=ry; exact PySem.EqNone.eq_none_int (fin_bl I q (by simp))
  | str j=>obtain⟨t',rfl⟩:=ry; exact PySem.EqNone.eq_none_str (fin_bl I q (by simp))
  | _=>exact absurd (show false=true from hs) Bool.false_ne_true
 | bl i=>
  cases rx
  cases y with
  | non=>cases ry; exact PySem.EqNone.eq_bool_none (fin_bl I q (by simp))
  | bl j=>cases ry; exact eq_bool (fin_bl I q dec_bl)
  | str j=>obtain⟨t',rfl⟩:=ry; exact PySem.EqMixed.eq_bool_str (fin_bl I q (by simp))
  | _=>exact absurd (show false=true from hs) Bool.false_ne_true
 | int i=>
  obtain⟨t,rfl⟩:=rx
  cases y with
  | non=>cases ry; exact PySem.EqNone.eq_int_none (fin_bl I q (by simp))
  | int j=>obtain⟨t',rfl⟩:=ry; exact eq_int (fin_bl I q dec_int)
  | str j=>obtain⟨t',rfl⟩:=ry; exact PySem.EqMixed.eq_int_str (fin_bl I q (by simp))
  | _=>exact absurd (show false=true from hs) Bool.false_ne_true
 | str i=>
  obtain⟨t,rfl⟩:=rx
  cases y with
  | non=>cases ry; exact PySem.EqNone.eq_str_none (fin_bl I q (by simp))
  | bl j=>cases ry; exact PySem.EqMixed.eq_str_bool (fin_bl I q (by simp))
  | int j=>obtain⟨t',rfl⟩:=ry; exact PySem.EqMixed.eq_str_int (fin_bl I q (by simp))
  | str j=>obtain⟨t',rfl⟩:=ry; exact eq_str (fin_bl I q dec_str)
  | _=>exact absurd (show false=true from hs) Bool.false_ne_true
 | byt i=>
  obtain⟨t,rfl⟩:=rx
  cases y with
  | byt j=>obtain⟨t',rfl⟩:=ry; exact PySem.W.eq_bytes (fin_bl I q dec_byt)
  | _=>exact absurd (show false=true from hs) Bool.false_ne_true
 | _=>cases y <;> exact absurd (show false=true from hs) Bool.false_ne_true
theorem op_ne:OpR X (compareOp .NotEq) rNe:=by
 intro pins s σ H x y v u Q I rx ry h
 obtain⟨hs,q⟩:=h
 cases x with
 | non=>
  cases rx
  cases y with
  | non=>cases ry; exact PySem.EqNone.ne_none_none (fin_bl I q (by simp))
  | bl j=>cases ry; exact PySem.EqNone.ne_none_bool (fin_bl I q (by simp))
  | int j=>obtain⟨t',rfl⟩:=ry; exact PySem.EqNone.ne_none_int (fin_bl I q (by simp))
  | str j=>obtain⟨t',rfl⟩:=ry; exact PySem.EqNone.ne_none_str (fin_bl I q (by simp))
  | _=>exact absurd (show false=true from hs) Bool.false_ne_true
 | bl i=>
  cases rx
  cases y with
  | non=>cases ry; exact PySem.EqNone.ne_bool_none (fin_bl I q (by simp))
  | bl j=>cases ry; exact ne_bool (fin_bl I q (congrArg not dec_bl))
  | str j=>obtain⟨t',rfl⟩:=ry; exact PySem.EqMixed.ne_bool_str (fin_bl I q (by simp))
  | _=>exact absurd (show false=true from hs) Bool.false_ne_true
 | int i=>
  obtain⟨t,rfl⟩:=rx
  cases y with
  | non=>cases ry; exact PySem.EqNone.ne_int_none (fin_bl I q (by simp))
  | int j=>obtain⟨t',rfl⟩:=ry; exact ne_int (fin_bl I q (congrArg not dec_int))
  | str j=>obtain⟨t',rfl⟩:=ry; exact PySem.EqMixed.ne_int_str (fin_bl I q (by simp))
  | _=>exact absurd (show false=true from hs) Bool.false_ne_true
 | str i=>
  obtain⟨t,rfl⟩:=rx
  cases y with
  | non=>cases ry; exact PySem.EqNone.ne_str_none (fin_bl I q (by simp))
  | bl j=>cases ry; exact PySem.EqMixed.ne_str_bool (fin_bl I q (by simp))
  | int j=>obtain⟨t',rfl⟩:=ry; exact PySem.EqMixed.ne_str_int (fin_bl I q (by simp))
  | str j=>obtain⟨t',rfl⟩:=ry; exact ne_str (fin_bl I q (congrArg not dec_str))
  | _=>exact absurd (show false=true from hs) Bool.false_ne_true
 | byt i=>
  obtain⟨t,rfl⟩:=rx
  cases y with
  | byt j=>obtain⟨t',rfl⟩:=ry; exact PySem.W.ne_bytes (fin_bl I q (congrArg not dec_byt))
  | _=>exact absurd (show false=true from hs) Bool.false_ne_true
 | _=>cases y <;> exact absurd (show false=true from hs) Bool.false_ne_true
theorem op_lt:OpR X (compareOp .Lt) (rI0 fun i j=>.bl (decide (i < j))):=opB0 fun _ _ _ _ _ _ _ q=>lt_int q
theorem op_le:OpR X (compareOp .LtE) (rI0 fun i j=>.bl (decide (i<=j))):=opB0 fun _ _ _ _ _ _ _ q=>le_int q
theorem op_gt:OpR X (compareOp .Gt) (rI0 fun i j=>.bl (decide (j < i))):=opB0 fun _ _ _ _ _ _ _ q=>gt_int q
theorem op_ge:OpR X (compareOp .GtE) (rI0 fun i j=>.bl (decide (j<=i))):=opB0 fun _ _ _ _ _ _ _ q=>ge_int q
theorem op_isN:OpR X (compareOp .Is) (fun x y H Q=>y=.non/\Q (.bl (decide (x=.non))) H):=by
 intro pins s σ H x y v u Q I rx ry h
 obtain⟨rfl,q⟩:=h
 cases ry
 refine is_none_gen (fin_bl I q ?_)
 cases x <;> first
  | (cases rx; rfl)
  | (obtain ⟨t,rfl⟩:=rx; rfl)
theorem nomark (b:Expr) {op:CmpOp} (h:op≠.In:=by decide) (h2:op≠.NotIn:=by decide):behindInMarks op b=false:=by
 have e1:(op == CmpOp.In)=false:=by cases op <;> first | rfl | exact absurd rfl h
 have e2:(op == CmpOp.NotIn)=false:=by cases op <;> first | rfl | exact absurd rfl h2
 cases b <;> simp [behindInMarks,e1,e2]
theorem pe_cmpR {op:CmpOp} {r:R2} (ho:OpR X (compareOp op) r) (ha:PE X a ta) (hb:PE X b tb) (hm:behindInMarks op b=false):PE X (.Compare a [op] [b] pos) (tOp r ta tb):=by
 intro pins s σ H Q I h
 exact wpAny_Compare1 (binT ha hb I h fun v u s2 x y H2 I2 rx ry q=>ho pins s2 σ H2 x y v u Q I2 rx ry q) hm
def tTest (t:TE):TT:=fun σ H Q=>t σ H fun x H'=>∃ k,x=.bl k/\Q k H'
theorem pt_cmpR {op:CmpOp} {r:R2} (ho:OpR X (compareOp op) r) (ha:PE X a ta) (hb:PE X b tb) (hm:behindInMarks op b=false):PT X (.Compare a [op] [b] pos) (tTest (tOp r ta tb)):=by
 intro pins s σ H Q I h
 refine wpAny_isTrue_Compare1 (thn (ha pins s σ H _ I h) fun v s1 ⟨x,H1,I1,r1,q1⟩=>thn (hb pins s1 σ H1 _ I1 q1) fun u s2 ⟨y,H2,I2,r2,q2⟩=>
  thn (ho pins s2 σ H2 x y v u _ I2 r1 r2 q2) fun c s3 ⟨z,H3,I3,r3,k,e,q3⟩=>?_) hm
 subst e
 cases r3
 exact wpAny_truthy_bool ⟨H3,I3,q3⟩
theorem line63:(sizeLine:Nat) < 2 ^ 63:=by rw [sizeLine_eq]; decide
theorem op_add_str:OpR X (binaryOp .Add) (fun x y H Q=>∃ i j,x=.str i/\y=.str j/\i.length+j.length<=sizeLine/\Q (.str (i++j)) H):=by
 intro pins s σ H x y v u Q I rx ry h
 obtain⟨i,j,rfl,rfl,hz,q⟩:=h
 obtain⟨t,rfl⟩:=rx
 obtain⟨t',rfl⟩:=ry
 exact add_str (fun t' tk=>⟨.str (i++j),H,I.tok _,⟨_,rfl⟩,q⟩) hz
theorem vals1 {x:V} {us:List Value} (r:Vals [x] us):∃ u,us=[u]/\RelV x u:=by
 cases r with
 | cons r1 r2=>cases r2; exact⟨_,rfl,r1⟩
theorem vals2 {x y:V} {us:List Value} (r:Vals [x,y] us):∃ u w',us=[u,w']/\RelV x u/\RelV y w':=by
 cases r with
 | cons r1 r2=>
  cases r2 with
  | cons r3 r4=>cases r4; exact⟨_,_,rfl,r1,r3⟩
theorem call_abs:CallR X (.builtin "abs") (fun xs H Q=>∃ i,xs=[.int i]/\Q (.int (if i < 0 then -i else i)) H):=by
 intro pins s σ H xs us Q I r h
 obtain⟨i,rfl,q⟩:=h
 obtain⟨u,rfl,t,rfl⟩:=vals1 r
 exact call_abs_int fun u tk=>⟨.int (if i < 0 then -i else i),H,I.tok _,⟨_,rfl⟩,q⟩
theorem call_max2 (hc:X.calm=true):CallR X (.builtin "max") (fun xs H Q=>∃ i j,xs=[.int i,.int j]/\Q (.int (if j > i then j else i)) H):=by
 intro pins s σ H xs us Q I r h
 obtain⟨i,j,rfl,q⟩:=h
 obtain⟨u,w',rfl,⟨t,rfl⟩,⟨t',rfl⟩⟩:=vals2 r
 refine max_two_ints (I.ok.hd hc) fun h' tk k=>⟨_,H,I.kept k,?_,q⟩
 by_cases hj:j > i
 ·rw [if_pos hj,if_pos hj]; exact⟨_,rfl⟩
 ·rw [if_neg hj,if_neg hj]; exact⟨_,rfl⟩
theorem call_min2 (hc:X.calm=true):CallR X (.builtin "min") (fun xs H Q=>∃ i j,xs=[.int i,.int j]/\Q (.int (if j < i then j else i)) H):=by
 intro pins s σ H xs us Q I r h
 obtain⟨i,j,rfl,q⟩:=h
 obtain⟨u,w',rfl,⟨t,rfl⟩,⟨t',rfl⟩⟩:=vals2 r
 refine min_two_ints (I.ok.hd hc) fun h' tk k=>⟨_,H,I.kept k,?_,q⟩
 by_cases hj:j < i
 ·rw [if_pos hj,if_pos hj]; exact⟨_,rfl⟩
 ·rw [if_neg hj,if_neg hj]; exact⟨_,rfl⟩
end
structure Room (k:Nat) (A:Around):Prop where
 hd:A.handled=none
 dp:A.depth+3*k+5 < recursionLimit
 un:A.units+16*k+200 < cLine
theorem Room.mono {j k:Nat} {A:Around} (r:Room k A) (h:j<=k):Room j A:=⟨r.hd,by have:=r.dp; omega,by have:=r.un; omega⟩
theorem Room.deeper {k:Nat} {A:Around} (r:Room (k+1) A) (env:Env):Room k (A.deeper env):=
 ⟨r.hd,by have:=r.dp; show A.depth+1+3*k+5 < _; omega,by have:=r.un; show A.units+3+16*k+200 < _; omega⟩
theorem Room.depth {k:Nat} {A:Around} (r:Room k A):A.depth < recursionLimit:=by have:=r.dp; omega
theorem Room.units {k:Nat} {A:Around} (r:Room k A):A.units+64 < cLine:=by have:=r.un; omega
def tNil:TA:=fun _ H Q=>Q [] H
def tCons (ta:TE) (tr:TA):TA:=fun σ H Q=>ta σ H fun x H1=>tr σ H1 fun xs H2=>Q (x::xs) H2
section
variable {X:Cx} {e:Expr} {es:List Expr} {te:TE} {t:TA} {pos:Pos}
theorem pa_nil:PA X [] tNil:=fun _ _ _ _ H Q I h=>Calls.spliced_nil ⟨[],H,I,.nil,h⟩
theorem pa_cons (ha:PE X e te) (hr:PA X es t) (hs:starEach (e::es) X.env=(false,eval e X.env)::starEach es X.env:=by rfl):PA X (e::es) (tCons te t):=by
 intro pos pins s σ H Q I h
 rw [hs]
 show wpAny _ _ (spliced ((false,eval e X.env)::backTo pos (starEach es X.env))) _ _ s
 refine Calls.spliced_cons (thn (ha pins s σ H _ I h) fun u s1 ⟨x,H1,I1,r1,q1⟩=>?_)
 exact thn (hr pos pins s1 σ H1 _ I1 q1) fun us s2 ⟨xs,H2,I2,r2,q2⟩=>⟨x::xs,H2,I2,.cons r1 r2,q2⟩
def tTup (t:TA):TE:=fun σ H Q=>t σ H fun xs H1=>xs.length<=sizeLine/\∀ p,H1 p=none->Q (.ref p) (upd H1 p (.tup xs))
def tLst (t:TA):TE:=fun σ H Q=>t σ H fun xs H1=>xs.length<=sizeLine/\∀ p,H1 p=none->Q (.ref p) (upd H1 p (.lst xs))
theorem pe_tup {x1} (h:PA X es t):PE X (.Tuple es x1 pos) (tTup t):=by
 intro pins s σ H Q I hq
 refine wpAny_Tuple_spliced (thn (h pos pins s σ H _ I hq) fun us s1 ⟨xs,H1,I1,r,z,q⟩=>⟨by rw [<- r.length]; exact z,?_⟩)
 have hf:H1 s1.heap.objs.size=none:=I1.hok.fresh (Nat.le_refl _)
 refine⟨.ref s1.heap.objs.size,upd H1 s1.heap.objs.size (.tup xs),I1.laid (t':=s1.toks) (fun b u e=>Heap.get?_push_of_some _ e) (Nat.le_refl _) ?_,rfl,q _ hf⟩
 exact⟨z,us,r,⟨_,Heap.get?_push_size _ rfl,rfl,_,rfl⟩⟩
theorem pe_lst (h:PA X es t):PE X (.List es pos) (tLst t):=by
 intro pins s σ H Q I hq
 refine wpAny_List_spliced (thn (h pos pins s σ H _ I hq) fun us s1 ⟨xs,H1,I1,r,z,q⟩=>⟨by rw [<- r.length]; exact z,?_⟩)
 have hf:H1 s1.heap.objs.size=none:=I1.hok.fresh (Nat.le_refl _)
 refine⟨.ref s1.heap.objs.size,upd H1 s1.heap.objs.size (.lst xs),I1.laid (t':=s1.toks) (fun b u e=>Heap.get?_push_of_some _ e) (Nat.le_refl _) ?_,rfl,q _ hf⟩
 exact⟨z,us,0,r,Heap.get?_push_size _ rfl⟩
end
abbrev Sp:=List V->Hp->VK->XK->Prop
abbrev CXT:=List Env->Hp->Shared->XK->Value->Shared->Prop
structure Env0 (P:Program) (w:World) (K:PySem.W.Frag) (mg:Str->Option Value) (base:Heap) (A:Around) (outer:List Env) (s:Shared) (H:Hp):Prop where
 frames:A.frames=some outer
 mod:Mod K mg base
 bs:∀ b o,base.get? b=some o->s.heap.get? b=some o/\H b=none
 bsz:base.objs.size<=s.heap.objs.size
 funs:s.heap.FunFrames base outer
 frf:∀ b∈frs outer,H b=none
 hok:HOk P w H s.heap
 bare:AllBare s.gens
def CE (outer:List Env) (P:Program) (w:World) (H:Hp) (s:Shared) (Q:VK) (u:Value) (s':Shared):Prop:=
 ∃ v H',s'.os=s.os/\AllBare s'.gens/\Un (frs outer) [] H H' s.heap s'.heap/\HOk P w H' s'.heap/\RelV v u/\Q v H'
def CR (CX:CXT) (outer:List Env) (P:Program) (w:World) (H:Hp) (s:Shared) (Q:VK) (E:XK) (r:Result) (s':Shared):Prop:=
 match r with
 | .ok (.ret u)=>CE outer P w H s Q u s'
 | .ok _=>False
 | .error e=>CX outer H s E e s'
structure FnOk (P:Program) (w:World) (K:PySem.W.Frag) (mg:Str->Option Value) (base:Heap) (CX:CXT) (k:Nat) (f:Addr) (fd:FuncData) (ps:List Str) (sp:Sp):Prop where
 len:∀ vs H Q E,sp vs H Q E->vs.length=ps.length
 run:∀ (A:Around) (outer:List Env) (s:Shared) (H:Hp) (args:Args) (us:List Value) (vs:List V) (Q:VK) (E:XK),Room k A->Env0 P w K mg base A outer s H->BindsTo s fd args (ps.zip us)->Vals vs us->sp vs H Q E->
  codeAny (model P w) A (.call (.ref f) args) (CR CX outer P w H s Q E) s
section
variable {X:Cx} {pins:List (Addr×Obj)} {σ:St} {H:Hp} {s s':Shared}
theorem Inv.env0 (I:Inv X pins σ H s):Env0 X.prog X.w X.K X.mg X.base X.A X.stack s H:=
 ⟨I.ok.frames,I.ok.mod,I.bs,Nat.le_trans I.ok.bsz I.sz,I.stack,I.stkFree,I.hok,I.bare⟩
theorem Inv.after {Q:VK} {u:Value} (I:Inv X pins σ H s) (h:CE X.stack X.prog X.w H s Q u s'):EP X pins σ Q u s':=by
 obtain⟨v,H',os,bare,un,hok,r,q⟩:=h
 obtain⟨hh,g,d,t,os'⟩:=s'
 obtain rfl:os'=s.os:=os
 exact⟨v,H',I.call (h':=hh) (g':=g) (d':=d) (t':=t) (ch:=[]) un hok bare (fun b z=>absurd z (by simp)),r,q⟩
end
def tCall (sp:Sp) (dvs:List V) (E:XK) (t:TA):TE:=fun σ H Q=>t σ H fun vs H1=>sp (vs++dvs) H1 Q E
def Binds (K:PySem.W.Frag) (fd:FuncData) (ps:List Str) (ds:List Value):Prop:=
 ∀ (s:Shared) (us:List Value),K.In s.heap->(us++ds).length=ps.length->BindsTo s fd ⟨us,[]⟩ (ps.zip (us++ds))
theorem Binds.all {K:PySem.W.Frag} {fd:FuncData} {ps:List Str} (h:∀ us:List Value,us.length=ps.length->bindArgs fd ⟨us,[]⟩=pure (ps.zip us)):Binds K fd ps []:=fun s us _ hl=>by
 rw [List.append_nil] at hl ⊢
 exact .of_eq (h us hl)
def Passes (CX:CXT) (X:Cx) (E:XK):Prop:=∀ (pins:List (Addr×Obj)) (σ:St) (H:Hp) (s:Shared) (e:Value) (s':Shared),Inv X pins σ H s->CX X.stack H s E e s'->X.xe e s'
section
variable {X:Cx} {CX:CXT} {k:Nat} {f C:Addr} {fd:FuncData} {ps:List Str} {sp:Sp} {dvs:List V} {ds:List Value} {E:XK} {x m:Str} {p pos apos:Pos} {e o:Expr} {es:List Expr} {ta:TE} {t:TA}
theorem run_fn {pins:List (Addr×Obj)} {σ:St} {H:Hp} {s:Shared} {Q:VK} {us:List Value} {vs:List V} (F:FnOk X.prog X.w X.K X.mg X.base CX k f fd ps sp) (hr:Room k X.A) (hb:Binds X.K fd ps ds) (hd:Vals dvs ds) (hx:Passes CX X E)
  (I:Inv X pins σ H s) (r:Vals vs us) (h:sp (vs++dvs) H Q E):wpAny (model X.prog X.w) X.A (call (.ref f) us) (EP X pins σ Q) X.xe s:=by
 have r2:Vals (vs++dvs) (us++ds):=r.append hd
 have hl:(us++ds).length=ps.length:=by rw [<- r2.length]; exact F.len _ _ _ _ h
 refine wpAny_call (codeAny_mono (F.run X.A X.stack s H ⟨us,[]⟩ (us++ds) (vs++dvs) Q E hr I.env0 (hb s us I.kIn hl) r2 h) fun r s' hq=>?_)
 cases r with
 | error e=>exact hx pins σ H s e s' I hq
 | ok fl=>
  cases fl with
  | ret u=>exact I.after hq
  | next=>exact False.elim hq
  | brk=>exact False.elim hq
  | cont=>exact False.elim hq
theorem pe_call (F:FnOk X.prog X.w X.K X.mg X.base CX k f fd ps sp) (hr:Room k X.A) (hg:Gl X x) (hm:X.mg x=some (.ref f)) (hk:PySem.W.keepIn X.K (.ref f)=true) (hb:Binds X.K fd ps ds) (hd:Vals dvs ds) (hx:Passes CX X E)
  (ha:PA X (e::es) t) (hdb:(x == ("__debug__":Str))=false:=by decide) (he:starEach (e::es) X.env=(false,eval e X.env)::starEach es X.env:=by rfl) (hpl:(backTo pos (starEach es X.env)).any (·.1)=false:=by rfl):
  PE X (.Call (.Name x p) (e::es) [] pos) (tCall sp dvs E t):=by
 intro pins s σ H Q I h
 refine wpAny_Call_Name_kw (ld_glob I hg hm ?_ hdb)
 refine PySem.W.callWith_K (h₀:=X.base) I.ok.mod.kin hk (thn (ha pos pins s σ H _ I h) fun us s1 ⟨vs,H1,I1,r,q⟩=>⟨I1.kIn,?_⟩) he hpl
 exact run_fn F hr hb hd hx I1 r q
end
structure FnScope (N P:List Str) (sc:Scope):Prop where
 kind:sc.kind=.function
 co:sc.isCoroutine=false
 gen:sc.isGenerator=false
 nd:N.Nodup
 pre:N.take P.length=P
 par:∀ x∈P,sc.names.lookup x=some .local\/sc.names.lookup x=some .cell
 nofree:∀ y∈sc.names,y.2≠.free
theorem bindL_out {kindOf:Str->Option NameKind} {x:Str}:∀ {binds:List (Str×Value)} {m:Str->Option Value},(∀ v,(x,v)∉binds)->bindL kindOf binds m x=m x
 | [],_,_=>rfl
 | (n,v)::r,m,h=>by
  unfold bindL
  rw [bindL_out fun w hw=>h w (List.mem_cons_of_mem _ hw)]
  split
  ·have:x≠n:=by rintro rfl; exact h v List.mem_cons_self
   simp [this]
  ·rfl
theorem bindC_out {kindOf:Str->Option NameKind} {x:Str}:∀ {binds:List (Str×Value)} {m:Str->Option Value},(∀ v,(x,v)∉binds)->bindC kindOf binds m x=m x
 | [],_,_=>rfl
 | (n,v)::r,m,h=>by
  unfold bindC
  rw [bindC_out fun w hw=>h w (List.mem_cons_of_mem _ hw)]
  split
  ·rfl
  ·have:x≠n:=by rintro rfl; exact h v List.mem_cons_self
   simp [this]
theorem bindL_get {kindOf:Str->Option NameKind} {x:Str} {v:Value}:∀ {P:List Str} {vs:List Value} {i:Nat} {m:Str->Option Value},P.Nodup->P[i]?=some x->vs[i]?=some v->kindOf x=some .local->
  bindL kindOf (P.zip vs) m x=some v
 | [],_,_,_,_,h,_,_=>by simp at h
 | _::_,[],_,_,_,_,h,_=>by simp at h
 | p::P,w::vs,0,m,nd,h1,h2,hk=>by
  simp at h1 h2; subst h1; subst h2
  show bindL kindOf ((p,w)::P.zip vs) m p=_
  unfold bindL
  rw [bindL_out fun v hv=>(List.nodup_cons.mp nd).1 (List.of_mem_zip hv).1,if_pos hk]
  simp
 | p::P,w::vs,i+1,m,nd,h1,h2,hk=>by
  show bindL kindOf ((p,w)::P.zip vs) m x=_
  unfold bindL
  exact bindL_get (i:=i) (List.nodup_cons.mp nd).2 (by simpa using h1) (by simpa using h2) hk
theorem bindC_get {kindOf:Str->Option NameKind} {x:Str} {v:Value}:∀ {P:List Str} {vs:List Value} {i:Nat} {m:Str->Option Value},P.Nodup->P[i]?=some x->vs[i]?=some v->kindOf x≠some .local->
  bindC kindOf (P.zip vs) m x=some v
 | [],_,_,_,_,h,_,_=>by simp at h
 | _::_,[],_,_,_,_,h,_=>by simp at h
 | p::P,w::vs,0,m,nd,h1,h2,hk=>by
  simp at h1 h2; subst h1; subst h2
  show bindC kindOf ((p,w)::P.zip vs) m p=_
  unfold bindC
  rw [bindC_out fun v hv=>(List.nodup_cons.mp nd).1 (List.of_mem_zip hv).1,if_neg hk]
  simp
 | p::P,w::vs,i+1,m,nd,h1,h2,hk=>by
  show bindC kindOf ((p,w)::P.zip vs) m x=_
  unfold bindC
  exact bindC_get (i:=i) (List.nodup_cons.mp nd).2 (by simpa using h1) (by simpa using h2) hk
def start (N:List Str) (vs:List V):St:=vs.map some++List.replicate (N.length - vs.length) none
def cxOf (CX:CXT) (P:Program) (w:World) (K:PySem.W.Frag) (mg:Str->Option Value) (base:Heap) (N:List Str) (qual:Str) (scope:Scope) (f:Addr) (cd:Value) (A:Around) (outer:List Env) (s:Shared) (H:Hp) (E:XK):Cx where
 prog:=P
 w:=w
 K:=K
 mg:=mg
 base:=base
 A:=A.deeper (envOfC qual scope s.heap.objs.size f cd)
 N:=N
 s₀:=s
 H₀:=H
 env:=envOfC qual scope s.heap.objs.size f cd
 outer:=outer
 stack:=envOfC qual scope s.heap.objs.size f cd::outer
 ex:=[]
 calm:=true
 fn:=fun _=>true
 pn:=[]
 xe:=fun e s'=>wpAny (model P w) (A.deeper (envOfC qual scope s.heap.objs.size f cd)) (leaving (envOfC qual scope s.heap.objs.size f cd) e) (fun _ s''=>CX outer H s E e s'') (fun e' s''=>CX outer H s E e' s'') s'
theorem cell_has {sc:Scope} {n:Nat} {x:Str} (h:sc.names.lookup x=some .cell):∃ c,(cellsFrom n sc.names []).lookup x=some c:=by
 have q:=PySem.W.cellsFrom_some sc.names n [] (.inl h)
 exact Option.isSome_iff_exists.mp q
theorem inv_start {CX:CXT} {P:Program} {w:World} {K:PySem.W.Frag} {mg:Str->Option Value} {base:Heap} {N ps:List Str} {qual:Str} {scope:Scope} {f:Addr} {cd:Value} {A:Around} {outer:List Env} {s s1:Shared} {H:Hp} {E:XK} {us:List Value} {vs:List V}
  (S:FnScope N ps scope) (hd:A.handled=none) (e0:Env0 P w K mg base A outer s H) (hl:vs.length=ps.length) (r:Vals vs us)
  (x:InCallC s s.heap.objs.size (bindL (envOfC qual scope s.heap.objs.size f cd).kindOf (ps.zip us) fun _=>none) (cellsFrom (s.heap.objs.size+1) scope.names []) (bindC (envOfC qual scope s.heap.objs.size f cd).kindOf (ps.zip us) fun _=>none) s1):
  Inv (cxOf CX P w K mg base N qual scope f cd A outer s H E) [] (start N vs) H s1:=by
 have hpl:ps.length<=N.length:=by have:=congrArg List.length S.pre; rw [List.length_take] at this; omega
 obtain⟨h1,tk,rfl,hk⟩:=x.done
 have noA:∀ b:Addr,b∉(cxOf CX P w K mg base N qual scope f cd A outer s H E).ex:=fun b z=>absurd (show b∈([]:List Addr) from z) (by simp)
 refine⟨⟨e0.mod,S.kind,rfl,rfl,Nat.le_refl _,fun y z c h1 h2=>?_,fun y hy=>?_,fun y c _ h=>?_,fun _=>hd,Around.frames_deeper e0.frames,.inr ⟨rfl,rfl⟩,fun b z=>absurd z (noA b),e0.bs,e0.bsz,fun b _ _=>noA b,fun b z=>absurd z (noA b),e0.funs,e0.frf⟩,
  rfl,e0.bare,Un.kept hk,⟨_,x.toInCall.ns,fun i y v h1 h2 h3=>?_⟩,fun y c h=>⟨_,x.cell y c h⟩,e0.hok.fresh (Nat.le_refl _),fun y c h=>?_,fun p hp=>absurd (show p∈([]:List (Addr×Obj)) from hp) (by simp),e0.hok.kept hk,?_⟩
 ·exact name_of_addr x.apart (PySem.mem_of_lookup h1) (PySem.mem_of_lookup h2)
 ·have hy:scope.names.lookup y=some .cell\/scope.names.lookup y=some .free:=hy
  rcases hy with hy | hy
  ·exact cell_has hy
  ·exact absurd rfl (S.nofree _ (PySem.mem_of_lookup hy))
 ·exact Nat.le_of_lt (x.above y c (PySem.mem_of_lookup h))
 ·have hi:i < vs.length:=by
   unfold start at h2
   by_cases hi:i < vs.length
   ·exact hi
   ·rw [List.getElem?_append_right (by simpa using hi)] at h2
    rw [List.getElem?_replicate] at h2
    split at h2 <;> cases h2
  have ha:vs[i]?=some v:=by
   unfold start at h2
   rw [List.getElem?_append_left (by simpa using hi),List.getElem?_map] at h2
   cases e:vs[i]? with
   | none=>rw [e] at h2; cases h2
   | some a=>rw [e] at h2; cases h2; rfl
  obtain⟨u,hu,rv⟩:=r.get ha
  have hp:ps[i]?=some y:=by
   rw [<- S.pre,List.getElem?_take_of_lt (by omega)]; exact h1
  have ndP:ps.Nodup:=by rw [<- S.pre]; exact S.nd.sublist (List.take_sublist _ _)
  refine⟨u,rv,?_⟩
  rcases S.par y (List.mem_of_getElem? hp) with k | k
  ·exact .inl ⟨k,bindL_get ndP hp hu k⟩
  ·obtain⟨c,e⟩:=cell_has (n:=s.heap.objs.size+1) k
   refine .inr ⟨.inl k,c,e,?_⟩
   have q:=x.cell y c e
   rw [bindC_get ndP hp hu (by show scope.names.lookup y≠_; rw [k]; decide)] at q
   exact q
 ·exact e0.hok.fresh (Nat.le_of_lt (x.above y c (PySem.mem_of_lookup h)))
 ·unfold start
  show _=N.length
  rw [List.length_append,List.length_map,List.length_replicate]
  omega
theorem fn_of {CX:CXT} {P:Program} {w:World} {K:PySem.W.Frag} {mg:Str->Option Value} {base:Heap} {k:Nat} {f:Addr} {name qual:Str} {params:Arguments} {body:List Stmt} {scope:Scope} {dV kV doc pm cdv ct oc:Value} {an od:Option Addr}
  {osl:Array (Option Value)} {N ps:List Str} {sp:Sp} (lk:K.lookup f=some ⟨oc,od,.func (PySem.W.fnOf name qual params body scope dV kV doc pm an cdv ct),osl⟩) (hcd:PySem.W.codeIn K cdv qual=true) (S:FnScope N ps scope)
  (len:∀ vs H Q E,sp vs H Q E->vs.length=ps.length)
  (hbody:∀ (A:Around) (outer:List Env) (s:Shared) (H:Hp) (vs:List V) (Q:VK) (E:XK),Room k (A.deeper (envOfC qual scope s.heap.objs.size f cdv))->sp vs H Q E->
   ∃ t,PSs (cxOf CX P w K mg base N qual scope f cdv A outer s H E) body t/\t {nx:=fun _ H'=>Q .non H',rt:=Q} (start N vs) H):
  FnOk P w K mg base CX (k+1) f (PySem.W.fnOf name qual params body scope dV kV doc pm an cdv ct) ps sp:=by
 refine⟨len,fun A outer s H args us vs Q E hr e0 hb r hsp=>?_⟩
 have hl:=len _ _ _ _ hsp
 have KX:K.In s.heap:=e0.mod.kin.keeps fun b o e=>(e0.bs b o e).1
 have lim:s.heap.NoLimit:=e0.mod.nolimit.keeps fun b o e=>(e0.bs b o e).1
 have hkind:∀ y∈ps.zip us,scope.names.lookup y.1=some .local\/(scope.names.lookup y.1=some .cell/\((cellsFrom (s.heap.objs.size+1) scope.names []).lookup y.1).isSome=true):=fun⟨n,v⟩ hy=>by
  rcases S.par n (List.of_mem_zip hy).1 with q | q
  ·exact .inl q
  ·exact .inr ⟨q,PySem.W.cellsFrom_some _ _ _ (.inl q)⟩
 refine codeAny_call_function hr.depth (KX _ _ lk) rfl S.co S.gen rfl (PySem.W.codeRec_of KX hcd) (hb _ _ _ _ ?_)
 refine wpAny_newFunctionEnv_cells S.kind hkind fun env he s1 x=>?_
 subst he
 refine⟨lim.keeps x.toInCall.keep,codeAny_func ?_⟩
 obtain⟨t,ht,hq⟩:=hbody A outer s H vs Q E (hr.deeper _) hsp
 have I:Inv (cxOf CX P w K mg base N qual scope f cdv A outer s H E) [] (start N vs) H s1:=inv_start S hr.hd e0 hl r x
 refine wpAny_mono (ht [] s1 (start N vs) H _ I hq) (fun fl s' hs=>?_) fun e s' hs=>hs
 have fin:∀ {σ':St} {H':Hp} {v:V} {u:Value},Inv (cxOf CX P w K mg base N qual scope f cdv A outer s H E) [] σ' H' s'->RelV v u->Q v H'->CE outer P w H s Q u s':=
  fun {σ' H' v u} J rv q=>⟨v,H',J.os,J.bare,J.base,J.hok,rv,q⟩
 cases fl with
 | ret u=>
  obtain⟨v,σ',H',J,rv,q⟩:=hs
  exact fin J rv q
 | next=>
  obtain⟨σ',H',J,q⟩:=hs
  exact fin (v:=V.non) (u:=Value.none) J rfl q
 | brk=>
  obtain⟨_,_,_,q⟩:=hs
  exact False.elim q
 | cont=>
  obtain⟨_,_,_,q⟩:=hs
  exact False.elim q
section
variable {X:Cx} {x:Str} {p pos:Pos} {e:Expr} {es:List Expr} {t:TA} {id T:String} {r:List V->Hp->VK->Prop}
def tCB (r:List V->Hp->VK->Prop) (t:TA):TE:=fun σ H Q=>t σ H fun vs H1=>r vs H1 Q
theorem pe_callB (hc:CallR X (.builtin id) r) (hg:Gl X x) (hm:X.mg x=none) (hv:bootBuiltins x=some (.builtin id)) (ha:PA X (e::es) t) (hn:x≠"__name__":=by decide) (hdb:(x == ("__debug__":Str))=false:=by decide)
  (he:starEach (e::es) X.env=(false,eval e X.env)::starEach es X.env:=by rfl) (hpl:(backTo pos (starEach es X.env)).any (·.1)=false:=by rfl):PE X (.Call (.Name x p) (e::es) [] pos) (tCB r t):=by
 intro pins s σ H Q I h
 refine wpAny_Call_Name_kw (ld_blt I hg hm hv ?_ hn hdb)
 exact PyProof.Rows.callWith_builtin1 (thn (ha pos pins s σ H _ I h) fun us s1 ⟨vs,H1,I1,r1,q1⟩=>hc pins s1 σ H1 vs us Q I1 r1 q1) he hpl
theorem pe_callTy (hc:CallR X (.type T) r) (hg:Gl X x) (hm:X.mg x=none) (hv:bootBuiltins x=some (.type T)) (ha:PA X (e::es) t) (hn:x≠"__name__":=by decide) (hdb:(x == ("__debug__":Str))=false:=by decide)
  (he:starEach (e::es) X.env=(false,eval e X.env)::starEach es X.env:=by rfl) (hpl:(backTo pos (starEach es X.env)).any (·.1)=false:=by rfl):PE X (.Call (.Name x p) (e::es) [] pos) (tCB r t):=by
 intro pins s σ H Q I h
 refine wpAny_Call_Name_kw (ld_blt I hg hm hv ?_ hn hdb)
 exact PyProof.Rows.callWith_type1 (thn (ha pos pins s σ H _ I h) fun us s1 ⟨vs,H1,I1,r1,q1⟩=>hc pins s1 σ H1 vs us Q I1 r1 q1) he hpl
end
end L2
namespace HT
open PySem PyProof.Rows
section
variable {prog:Program} {w:World} {A:Around} {E:Value->Shared->Prop} {s:Shared}
theorem cat_tup {t b:Addr} {vs ws:List Value} {Q:Value->Shared->Prop} (ht:IsTup s.heap t vs.toArray) (hb:IsTup s.heap b ws.toArray) (hv:vs≠[])
  (h1:ws=[]->Q (.ref t) s) (h2:ws≠[]->Q (.ref s.heap.objs.size) {s with heap:=s.heap.push {cls:=.type "tuple",data:=.seq (vs++ws).toArray}})
  (hsz:vs.length+ws.length<=sizeLine):wpAny (model prog w) A (binaryOp .Add (.ref t) (.ref b)) Q E s:=by
 obtain⟨⟨cls,dd,data,sl⟩,ho,hc,n,hd⟩:=id ht
 obtain⟨⟨cls2,dd2,data2,sl2⟩,ho2,hc2,n2,hd2⟩:=id hb
 simp only at hc hd hc2 hd2
 subst hc hd hc2 hd2
 have e:vs.toArray++ws.toArray=(vs++ws).toArray:=by simp
 by_cases hw:ws=[]
 ·exact concat_meets ⟨_,ho,rfl⟩ ⟨_,ho2,rfl⟩ noFill_tuple_add seq_tuple_add PySem.F.slot_tuple_add PySem.F.entry_tuple_add (PySem.F.args_tuple_add_2 _ _)
   (tuple_addW1 t b vs.toArray ws.toArray n n2 dd dd2 sl sl2 (by simpa using hv) (by simp [hw])) ⟨ho,ho2,h1 hw⟩
 ·refine concat_meets ⟨_,ho,rfl⟩ ⟨_,ho2,rfl⟩ noFill_tuple_add seq_tuple_add PySem.F.slot_tuple_add PySem.F.entry_tuple_add (PySem.F.args_tuple_add_2 _ _)
   (tuple_addW2 t b vs.toArray ws.toArray n n2 dd dd2 sl sl2 (by simpa using hv) (by simpa using hw) (by rw [List.size_toArray,List.size_toArray]; exact hsz)) ⟨ho,ho2,?_⟩
  rw [e]
  exact h2 hw
def sIx (n d:Nat):Option Int->Nat
 | none=>d
 | some v=>if v < 0 then(v+(n:Int)).toNat else min v.toNat n
theorem sIx_le (n d:Nat) (hd:d<=n) (o:Option Int):sIx n d o<=n:=by
 cases o with
 | none=>exact hd
 | some v=>
  show(if v < 0 then(v+(n:Int)).toNat else min v.toNat n)<=n
  by_cases hv:v < 0
  ·rw [if_pos hv]; omega
  ·rw [if_neg hv]; exact Nat.min_le_right _ _
theorem clip_eq (v:Int) (n d:Nat):(if v < 0 then max (v+(n:Int)) 0 else min v (n:Int))=((sIx n d (some v):Nat):Int):=by
 show(if v < 0 then max (v+(n:Int)) 0 else min v (n:Int))=(((if v < 0 then(v+(n:Int)).toNat else min v.toNat n):Nat):Int)
 by_cases hv:v < 0
 ·simp only [if_pos hv]; omega
 ·simp only [if_neg hv]; omega
theorem adjust_gen (lo hi:Option Int) (n:Nat):Builtin.Slice.sliceAdjust lo hi 1 (n:Int)=(((sIx n 0 lo:Nat):Int),((sIx n n hi:Nat):Int)):=by
 have h1:¬ ((1:Int) < 0):=by omega
 unfold Builtin.Slice.sliceAdjust
 simp only [h1,if_false]
 refine Prod.ext ?_ ?_
 ·cases lo with
  | none=>rfl
  | some v=>exact clip_eq v n 0
 ·cases hi with
  | none=>rfl
  | some v=>exact clip_eq v n n
theorem places_gen (i j:Nat):Builtin.Slice.slicePlaces (i:Int) (j:Int) 1=j - i:=by
 unfold Builtin.Slice.slicePlaces
 have h1:(1:Int) > 0:=by omega
 simp only [h1,if_true,Int.ediv_one]
 split <;> omega
theorem slicePart_ {v:Value} {o:Option Int} {Q:Option Int->Shared->Prop} (p:IsPart v o) (h:Q o s):wpAny (model prog w) A (Builtin.Slice.slicePartIndex v) Q E s:=by
 cases p with
 | none=>exact slicePart_none h
 | int i t=>exact slicePart_int h
theorem sliceApplied_gen {sl:Addr} {vl vu:Value} {lo hi:Option Int} {n:Nat} {Q:Int×Int×Nat->Shared->Prop} (hs:s.heap.IsSliceOf sl vl vu .none) (pl:IsPart vl lo) (pu:IsPart vu hi)
  (h:Q (((sIx n 0 lo:Nat):Int),1,sIx n n hi - sIx n 0 lo) s):wpAny (model prog w) A (Builtin.Slice.sliceApplied (.ref sl) (pure (n:Int))) Q E s:=by
 obtain⟨os,hos,hcs,hds⟩:=id hs
 unfold Builtin.Slice.sliceApplied Builtin.Slice.sliceFields
 refine wpAny_bind (wpAny_bind (wpAny_field hos hds (x:=vl) rfl (wpAny_bind (wpAny_field hos hds (x:=vu) rfl (wpAny_bind (wpAny_field hos hds (x:=.none) rfl (wpAny_pure ?_)))))))
 refine wpAny_bind (slicePart_none ?_)
 show wpAny _ _ (if ((1:Int) == 0)=true then _ else _) _ _ s
 rw [if_neg (by decide)]
 refine wpAny_bind (slicePart_ pl (wpAny_bind (slicePart_ pu (wpAny_bind (wpAny_pure ?_)))))
 show wpAny _ _ (match Builtin.Slice.sliceAdjust lo hi 1 (n:Int) with | (lo,hi)=>pure (lo,(1:Int),Builtin.Slice.slicePlaces lo hi 1)) _ _ s
 rw [adjust_gen lo hi n]
 show wpAny _ _ (pure (((sIx n 0 lo:Nat):Int),(1:Int),Builtin.Slice.slicePlaces ((sIx n 0 lo:Nat):Int) ((sIx n n hi:Nat):Int) 1)) _ _ s
 rw [places_gen]
 exact wpAny_pure h
theorem pick_gen (xs:Array Value) (i k:Nat):((List.range k).filterMap fun(m:Nat)=>xs[((i:Int)+(m:Int)*1).toNat]?).toArray=((xs.toList.drop i).take k).toArray:=by
 have e:(fun (m:Nat)=>xs[((i:Int)+(m:Int)*1).toNat]?)=fun m=>xs[i+m]?:=by
  funext m
  have:((i:Int)+(m:Int)*1).toNat=i+m:=by omega
  rw [this]
 rw [e]
 have:=pick_run xs i k
 rw [List.filterMap_map] at this
 have e2:((fun x=>xs[x]?) ∘ fun x=>i+x)=fun m=>xs[i+m]?:=rfl
 rw [e2] at this
 rw [this]
theorem getItem_tuple_cut {t sl:Addr} {items:Array Value} {vl vu:Value} {lo hi:Option Int} {Q:Value->Shared->Prop} (ht:IsTup s.heap t items) (hs:s.heap.IsSliceOf sl vl vu .none) (pl:IsPart vl lo) (pu:IsPart vu hi)
  (hw:¬ (sIx items.size 0 lo=0/\sIx items.size items.size hi=items.size))
  (h:Q (.ref s.heap.objs.size) {s with heap:=s.heap.push {cls:=.type "tuple",data:=.seq ((items.toList.drop (sIx items.size 0 lo)).take (sIx items.size items.size hi - sIx items.size 0 lo)).toArray}})
  (hsz:items.size<=sizeLine):wpAny (model prog w) A (getItem (.ref t) (.ref sl)) Q E s:=by
 have htake:sizeOk (.seq ((items.toList.drop (sIx items.size 0 lo)).take (sIx items.size items.size hi - sIx items.size 0 lo)).toArray):=by
  show((items.toList.drop (sIx items.size 0 lo)).take (sIx items.size items.size hi - sIx items.size 0 lo)).toArray.size<=sizeLine
  rw [List.size_toArray,List.length_take,List.length_drop,Array.length_toList]
  omega
 have hj:sIx items.size items.size hi<=items.size:=sIx_le _ _ (Nat.le_refl _) hi
 obtain⟨os,hos,hcs,hds⟩:=id hs
 have hTs:s.TypeIs (.ref sl) "slice":=⟨os,hos,hcs⟩
 unfold getItem
 try with_reducible refine wpAny_holding ?_
 first | refine wpAny_bind (wpAny_pure ?_) | skip
 refine wpAny_bind (wpAny_sequenceKey ht.typeIs (by decide) ?_)
 refine wpAny_bind (wpAny_callSpecial?_slot (name:=Str.ofString "__getitem__") ht.typeIs PyProof.Rows.slot_tuple_getitem
  (wpAny_call_entry PyProof.Rows.slot_tuple_getitem ht.typeIs entry_tuple_getitem ?_ (args_tuple_getitem _ _)))
 show wpAny _ _ (Builtin.Tuple.tupleItemsOf (.ref t) >>= _) _ _ s
 refine wpAny_bind (tupleItemsOf_ ht ?_)
 refine wpAny_bind (wpAny_typeOf hTs ?_)
 rw [if_pos (by decide)]
 refine wpAny_bind (sliceApplied_gen hs pl pu ?_)
 have hno:¬ ((((sIx items.size 0 lo:Nat):Int) == 0 && (1:Int) == 1 && (sIx items.size items.size hi - sIx items.size 0 lo) == items.size)=true):=by
  intro q
  rw [Bool.and_eq_true,Bool.and_eq_true] at q
  have q1:((sIx items.size 0 lo:Nat):Int)=0:=eq_of_beq q.1.1
  have q2:sIx items.size items.size hi - sIx items.size 0 lo=items.size:=eq_of_beq q.2
  exact hw ⟨by omega,by omega⟩
 show wpAny _ _ (if (((sIx items.size 0 lo:Nat):Int) == 0 && (1:Int) == 1 && (sIx items.size items.size hi - sIx items.size 0 lo) == items.size)=true then _ else _) _ _ s
 rw [if_neg hno,pick_gen]
 first
  | exact wpAny_bind (m:=Builtin.Tuple.tupleExact _) (wpAny_newObj_type (wpAny_pure ⟨_,rfl,wpAny_pure h⟩) htake)
  | exact wpAny_bind (m:=Builtin.Tuple.tupleExact _) (wpAny_newObj_type (wpAny_bind (wpAny_pure (wpAny_pure ⟨_,rfl,wpAny_pure h⟩))) htake)
  | exact wpAny_bind (wpAny_bind (m:=Builtin.Tuple.tupleExact _) (wpAny_newObj_type (wpAny_pure (wpAny_pure ⟨_,rfl,wpAny_pure h⟩)) htake))
  | exact wpAny_bind (wpAny_bind (m:=Builtin.Tuple.tupleExact _) (wpAny_newObj_type (wpAny_pure ⟨_,rfl,wpAny_pure h⟩) htake))
end
end HT
namespace L2
open PySem PySem.Spec PyProof.Rows
abbrev TO:=St->Hp->(Option Int->Hp->Prop)->Prop
def PO (X:Cx) (e:Option Expr) (t:TO):Prop:=
 ∀ (pins:List (Addr×Obj)) (s:Shared) (σ:St) (H:Hp) (Q:Option Int->Hp->Prop),Inv X pins σ H s->t σ H Q->
  wpAny (model X.prog X.w) X.A (evalPart e X.env) (fun u s'=>∃ o H',Inv X pins σ H' s'/\IsPart u o/\Q o H') X.xe s
def tNoPart:TO:=fun _ H Q=>Q none H
def tPart (t:TE):TO:=fun σ H Q=>t σ H fun x H1=>∃ i,x=.int i/\Q (some i) H1
section
variable {X:Cx} {e:Expr} {te:TE} {lo hi:Option Expr} {tl th:TO} {pos p2:Pos}
theorem po_none:PO X none tNoPart:=by
 intro pins s σ H Q I h
 rw [evalPart_none]
 exact wpAny_pure ⟨none,H,I,.none,h⟩
theorem po_some (h:PE X e te):PO X (some e) (tPart te):=by
 intro pins s σ H Q I hw
 rw [evalPart_some]
 refine thn (h pins s σ H _ I hw) fun u s1 ⟨x,H1,I1,r1,q1⟩=>?_
 obtain⟨i,rfl,q⟩:=q1
 obtain⟨t,rfl⟩:=r1
 exact⟨some i,H1,I1,.int i t,q⟩
def SlR (X:Cx) (r:V->Option Int->Option Int->Hp->VK->Prop):Prop:=
 ∀ (pins:List (Addr×Obj)) (s:Shared) (σ:St) (H:Hp) (x:V) (v vl vu:Value) (lo hi:Option Int) (sl:Addr) (Q:VK),Inv X pins σ H s->RelV x v->s.heap.IsSliceOf sl vl vu .none->IsPart vl lo->IsPart vu hi->r x lo hi H Q->
  ∃ T id,typeLookup (.type T) "__getitem__"=pure (some (.builtin id))/\s.TypeIs v T/\wpAny (model X.prog X.w) X.A (getItem v (.ref sl)) (EP X pins σ Q) X.xe s
theorem SlR.or {r r':V->Option Int->Option Int->Hp->VK->Prop} (h:SlR X r) (h':SlR X r'):SlR X (fun x lo hi H Q=>r x lo hi H Q\/r' x lo hi H Q):=by
 intro pins s σ H x v vl vu lo hi sl Q I rx hs pl pu q
 rcases q with q | q
 ·exact h pins s σ H x v vl vu lo hi sl Q I rx hs pl pu q
 ·exact h' pins s σ H x v vl vu lo hi sl Q I rx hs pl pu q
def tSl (r:V->Option Int->Option Int->Hp->VK->Prop) (te:TE) (tl th:TO):TE:=fun σ H Q=>te σ H fun x H1=>tl σ H1 fun l H2=>th σ H2 fun u H3=>r x l u H3 Q
theorem pe_slice {r:V->Option Int->Option Int->Hp->VK->Prop} (hr:SlR X r) (he:PE X e te) (hl:PO X lo tl) (hu:PO X hi th):PE X (.Subscript e (.Slice lo hi none p2) pos) (tSl r te tl th):=by
 intro pins s σ H Q I h
 refine Subscript_ (thn (he pins s σ H _ I h) fun v s1 ⟨x,H1,I1,r1,q1⟩=>?_)
 refine wpAny_Slice (thn (hl pins s1 σ H1 _ I1 q1) fun vl s2 ⟨l,H2,I2,pl,q2⟩=>thn (hu pins s2 σ H2 _ I2 q2) fun vu s3 ⟨u,H3,I3,pu,q3⟩=>?_)
 rw [evalPart_none]
 refine wpAny_pure ?_
 have I4:Inv X pins σ H3 {s3 with heap:=s3.heap.push {cls:=.type "slice",data:=.fields #[vl,vu,.none]}}:=I3.kept (t':=s3.toks) fun b ob q=>Heap.get?_push_of_some _ q
 obtain⟨T,id,hT,ht,hg⟩:=hr pins {s3 with heap:=s3.heap.push {cls:=.type "slice",data:=.fields #[vl,vu,.none]}} σ H3 x v vl vu l u s3.heap.objs.size Q I4 r1 (Heap.IsSliceOf.new ..) pl pu q3
 show wpAny (model X.prog X.w) X.A (subscriptTail e (.Slice lo hi none p2) v (.ref s3.heap.objs.size)) (EP X pins σ Q) X.xe {s3 with heap:=s3.heap.push {cls:=.type "slice",data:=.fields #[vl,vu,.none]}}
 exact tail_any (ops:=[.ref s3.heap.objs.size,v]) ht hT hg (by with_unfolding_all rfl)
def cutV (xs:List V) (lo hi:Option Int):List V:=(xs.drop (HT.sIx xs.length 0 lo)).take (HT.sIx xs.length xs.length hi - HT.sIx xs.length 0 lo)
theorem cutV_length (xs:List V) (lo hi:Option Int):(cutV xs lo hi).length<=xs.length:=by
 unfold cutV
 rw [List.length_take,List.length_drop]
 omega
def rSlT (K:PySem.W.Frag):V->Option Int->Option Int->Hp->VK->Prop:=fun x lo hi H Q=>∃ a xs,x=.ref a/\SqT K H a xs/\
 ¬ (HT.sIx xs.length 0 lo=0/\HT.sIx xs.length xs.length hi=xs.length)/\∀ p,H p=none->Q (.ref p) (upd H p (.tup (cutV xs lo hi)))
theorem sl_tup:SlR X (rSlT X.K):=by
 intro pins s σ H x v vl vu lo hi sl Q I rx hs pl pu h
 obtain⟨a,xs,rfl,hx,hw,q⟩:=h
 cases rx
 obtain⟨its,r,ht,hz⟩:=I.tuple hx
 have hlen:its.toArray.size=xs.length:=by rw [List.size_toArray]; exact r.length.symm
 refine⟨"tuple",_,PyProof.Rows.slot_tuple_getitem.lookup,ht.typeIs,?_⟩
 refine HT.getItem_tuple_cut ht hs pl pu (by rw [hlen]; exact hw) ?_ (by rw [hlen]; exact hz)
 rw [hlen]
 refine⟨.ref s.heap.objs.size,_,I.laid (t':=s.toks) (o:=.tup (cutV xs lo hi)) (fun b ob q=>Heap.get?_push_of_some _ q) (Nat.le_refl _) ?_,rfl,q _ (I.hok.fresh (Nat.le_refl _))⟩
 exact⟨Nat.le_trans (cutV_length xs lo hi) hz,_,(r.drop (HT.sIx xs.length 0 lo)).take (HT.sIx xs.length xs.length hi - HT.sIx xs.length 0 lo),IsTup.new _ _⟩
def rCatT (K:PySem.W.Frag):R2:=fun x y H Q=>∃ a b xs ys,x=.ref a/\y=.ref b/\SqT K H a xs/\SqT K H b ys/\xs≠[]/\xs.length+ys.length<=sizeLine/\
 (ys=[]->Q (.ref a) H)/\(ys≠[]->∀ p,H p=none->Q (.ref p) (upd H p (.tup (xs++ys))))
theorem Vals.nil_iff {xs:List V} {us:List Value} (r:Vals xs us):us=[]↔xs=[]:=by
 cases r with
 | nil=>simp
 | cons _ _=>simp
theorem op_catT:OpR X (binaryOp .Add) (rCatT X.K):=by
 intro pins s σ H x y v u Q I rx ry h
 obtain⟨a,b,xs,ys,rfl,rfl,ha,hb,hx,hz,q1,q2⟩:=h
 cases rx
 cases ry
 obtain⟨its,r1,p1,_⟩:=I.tuple ha
 obtain⟨its2,r2,p2,_⟩:=I.tuple hb
 refine HT.cat_tup p1 p2 (fun z=>hx (r1.nil_iff.mp z)) (fun z=>⟨.ref a,H,I,rfl,q1 (r2.nil_iff.mp z)⟩) (fun z=>?_) (by rw [<- r1.length,<- r2.length]; exact hz)
 refine⟨.ref s.heap.objs.size,_,I.laid (t':=s.toks) (o:=.tup (xs++ys)) (fun b ob q=>Heap.get?_push_of_some _ q) (Nat.le_refl _) ?_,rfl,q2 (fun w=>z (r2.nil_iff.mpr w)) _ (I.hok.fresh (Nat.le_refl _))⟩
 exact⟨by rw [List.length_append]; exact hz,_,r1.append r2,IsTup.new _ _⟩
end
def ixN (n:Nat) (i:Int):Option Nat:=if 0<=i then(if i < n then some i.toNat else none) else if -(n:Int)<=i then some (i+n).toNat else none
def atI {α:Type} (xs:List α) (i:Int):Option α:=(ixN xs.length i).bind fun j=>xs[j]?
theorem ixN_seq {n:Nat} {i:Int} {j:Nat} (h:ixN n i=some j):seqIndex? i n=some j/\j < n/\-(n:Int)<=i/\i < n:=by
 unfold ixN at h
 by_cases h0:0<=i
 ·rw [if_pos h0] at h
  by_cases h1:i < n
  ·rw [if_pos h1] at h
   have e:i.toNat=j:=Option.some.inj h
   exact⟨by rw [seqIndex_of h0 h1,e],by omega,by omega,h1⟩
  ·rw [if_neg h1] at h; cases h
 ·rw [if_neg h0] at h
  by_cases h1:-(n:Int)<=i
  ·rw [if_pos h1] at h
   have e:(i+n).toNat=j:=Option.some.inj h
   exact⟨by rw [seqIndex_neg (by omega) h1,e],by omega,h1,by omega⟩
  ·rw [if_neg h1] at h; cases h
theorem atI_get {α:Type} {xs:List α} {i:Int} {v:α} (h:atI xs i=some v):∃ j,seqIndex? i xs.length=some j/\xs[j]?=some v/\j < xs.length/\-(xs.length:Int)<=i/\i < xs.length:=by
 unfold atI at h
 cases e:ixN xs.length i with
 | none=>rw [e] at h; cases h
 | some j=>
  rw [e] at h
  obtain⟨h1,h2,h3,h4⟩:=ixN_seq e
  exact⟨j,h1,h,h2,h3,h4⟩
theorem atI_nat {α:Type} {xs:List α} {j:Nat} {v:α} (h:xs[j]?=some v):atI xs (j:Int)=some v:=by
 have hj:j < xs.length:=(List.getElem?_eq_some_iff.mp h).1
 have e:ixN xs.length (j:Int)=some j:=by
  unfold ixN
  rw [if_pos (by omega),if_pos (by omega)]; simp
 unfold atI; rw [e]; exact h
def PlainIx (b:Expr):Prop:=∀ o i,subscripted b false o i=operate [o,i] (getItem o i)
def IxR (X:Cx) (r:R2):Prop:=
 ∀ (value slice:Expr) (pins:List (Addr×Obj)) (s:Shared) (σ:St) (H:Hp) (x y:V) (v u:Value) (Q:VK),Inv X pins σ H s->RelV x v->RelV y u->r x y H Q->
  subscripted slice false v u=operate [v,u] (getItem v u)->wpAny (model X.prog X.w) X.A (subscriptTail value slice v u) (EP X pins σ Q) X.xe s
def MtR (X:Cx) (id:String) (r:V->List V->Hp->VK->Prop):Prop:=
 ∀ (pins:List (Addr×Obj)) (s:Shared) (σ:St) (H:Hp) (x:V) (xs:List V) (v:Value) (us:List Value) (Q:VK),Inv X pins σ H s->RelV x v->Vals xs us->r x xs H Q->
  wpAny (model X.prog X.w) X.A (call (.builtin id) (v::us)) (EP X pins σ Q) X.xe s
section
variable {X:Cx} {a b:Expr} {ta tb:TE} {pos:Pos}
theorem pe_ix {r:R2} (hr:IxR X r) (ha:PE X a ta) (hb:PE X b tb) (hs:PlainIx b):PE X (.Subscript a b pos) (tOp r ta tb):=by
 intro pins s σ H Q I h
 exact Subscript_ (binT ha hb I h fun v u s2 x y H2 I2 rx ry q=>hr a b pins s2 σ H2 x y v u Q I2 rx ry q (hs _ _))
def rIxL (K:PySem.W.Frag):R2:=fun x y H Q=>∃ p xs i v,x=.ref p/\y=.int i/\SqL K H p xs/\atI xs i=some v/\Q v H
def rIxT (K:PySem.W.Frag):R2:=fun x y H Q=>∃ p xs i v,x=.ref p/\y=.int i/\SqT K H p xs/\atI xs i=some v/\Q v H
theorem ix_list:IxR X (rIxL X.K):=by
 intro value slice pins s σ H x y v u Q I rx ry h hs
 obtain⟨p,xs,i,z,rfl,rfl,hq,he,q⟩:=h
 cases rx
 obtain⟨t,rfl⟩:=ry
 obtain⟨its,r,pl,hz⟩:=I.list hq
 obtain⟨j,h1,h2,h3,h4,h5⟩:=atI_get he
 obtain⟨w,ew,rw'⟩:=r.get h2
 have hl:=r.length
 have hn:=line63
 have fin:EP X pins σ Q w s:=⟨z,H,I,rw',q⟩
 by_cases h0:0<=i
 ·have hj:i.toNat=j:=by
   rw [seqIndex_of h0 h5] at h1
   exact Option.some.inj h1
  exact item_listR pl.isList h0 (by omega) (by rw [hj]; simpa using ew) fin hs
 ·have hj:(i+(its.toArray.size:Int)).toNat=j:=by
   rw [seqIndex_neg (by omega) h4] at h1
   rw [List.size_toArray,<- hl]
   exact Option.some.inj h1
  exact subscriptTail_builtinR (x:=w) pl.isList.typeIs slot_list_getitem.lookup
   (wpAny_getItem_list_neg (Q:=fun r s'=>r=w/\EP X pins σ Q r s') pl.isList (by omega) (by rw [List.size_toArray] <;> omega) (by omega) (by rw [hj]; simpa using ew) ⟨rfl,fin⟩) hs
theorem ix_tup:IxR X (rIxT X.K):=by
 intro value slice pins s σ H x y v u Q I rx ry h hs
 obtain⟨p,xs,i,z,rfl,rfl,hq,he,q⟩:=h
 cases rx
 obtain⟨t,rfl⟩:=ry
 obtain⟨its,r,pl,hz⟩:=I.tuple hq
 obtain⟨j,h1,h2,h3,h4,h5⟩:=atI_get he
 obtain⟨w,ew,rw'⟩:=r.get h2
 have hl:=r.length
 have hn:=line63
 have fin:EP X pins σ Q w s:=⟨z,H,I,rw',q⟩
 exact subscriptTail_builtinR (x:=w) pl.typeIs slot_tuple_getitem.lookup
  (getItem_tuple (j:=j) (Q:=fun r s'=>r=w/\EP X pins σ Q r s') pl (by omega) (by omega) (by rw [List.size_toArray,<- hl]; exact h1) (by simpa using ew) ⟨rfl,fin⟩) hs
theorem mapSeq_set (its:List Value) (n j:Nat) (u:Value):Obj.mapSeq (·.setIfInBounds j u) {cls:=.type "list",data:=.seq its.toArray n}={cls:=.type "list",data:=.seq (its.set j u).toArray n}:=by
 simp [Obj.mapSeq]
theorem Inv.lst {pins:List (Addr×Obj)} {σ:St} {H:Hp} {s:Shared} {p:Addr} {xs:List V} (I:Inv X pins σ H s) (h:H p=some (.lst xs)):
  ∃ (its:List Value) (n:Nat),Vals xs its/\s.heap.get? p=some {cls:=.type "list",data:=.seq its.toArray n}/\xs.length<=sizeLine:=by
 obtain⟨z,its,n,r,e⟩:=I.hok p _ h
 exact⟨its,n,r,e,z⟩
theorem Inv.lstUpd {pins:List (Addr×Obj)} {σ:St} {H:Hp} {s:Shared} {p:Addr} {xs ys:List V} {its its':List Value} {n n':Nat} {f:Obj->Obj} (I:Inv X pins σ H s) (h:H p=some (.lst xs))
  (ho:s.heap.get? p=some {cls:=.type "list",data:=.seq its.toArray n}) (hf:f {cls:=.type "list",data:=.seq its.toArray n}={cls:=.type "list",data:=.seq its'.toArray n'}) (r:Vals ys its') (hz:ys.length<=sizeLine) (t:Nat):
  Inv X pins σ (upd H p (.lst ys)) {s with heap:=s.heap.update p f,toks:=t}:=by
 have e:(s.heap.update p f).get? p=some {cls:=.type "list",data:=.seq its'.toArray n'}:=by
  rw [Heap.get?_update_self f ho (by rw [hf] <;> rfl),hf]
 refine I.write (x:=p) (e:=p) (by rw [h]; trivial) (.inl rfl) (fun b u hb q=>(Heap.get?_update_other _ _ (Ne.symm hb)).trans q) ⟨_,e⟩ ?_
 exact⟨hz,its',n',r,e⟩
def rSetL:V->V->V->Hp->(Hp->Prop)->Prop:=fun o i v H Q=>∃ p xs k j,o=.ref p/\i=.int k/\H p=some (.lst xs)/\ixN xs.length k=some j/\Q (upd H p (.lst (xs.set j v)))
theorem set_list:PSet X rSetL:=by
 intro pins s σ H o i v ov iv u Q I ro ri rv h
 obtain⟨p,xs,k,j,rfl,rfl,hp,hj,q⟩:=h
 cases ro
 obtain⟨t,rfl⟩:=ri
 obtain⟨its,n,r,ho,hz⟩:=I.lst hp
 obtain⟨h1,h2,h3,h4⟩:=ixN_seq hj
 have hl:=r.length
 have hn:=line63
 have I':Inv X pins σ (upd H p (.lst (xs.set j v))) {s with heap:=s.heap.update p (Obj.mapSeq (·.setIfInBounds j u))}:=
  I.lstUpd hp ho (mapSeq_set its n j u) (r.set rv j) (by rw [List.length_set]; exact hz) s.toks
 by_cases h0:0<=k
 ·have hk:k.toNat=j:=by
   rw [seqIndex_of h0 h4] at h1
   exact Option.some.inj h1
  exact PySem.W.ki_setAt ho h0 (by omega) (by rw [List.size_toArray,<- hl]; exact h4) (by rw [hk]; exact⟨_,I',q⟩)
 ·have hk:(k+(its.toArray.size:Int)).toNat=j:=by
   rw [seqIndex_neg (by omega) h3] at h1
   rw [List.size_toArray,<- hl]
   exact Option.some.inj h1
  exact PySem.W.ki_setBack ho (by omega) (by rw [List.size_toArray,<- hl]; exact h3) (by omega) (by rw [hk]; exact⟨_,I',q⟩)
theorem slice_bounds (lo hi:Option Int) (n:Nat):(sliceBounds lo hi none n).1=((HT.sIx n 0 lo:Nat):Int)/\(sliceBounds lo hi none n).2.1=((HT.sIx n n hi:Nat):Int)/\(sliceBounds lo hi none n).2.2=1:=by
 refine⟨?_,?_,rfl⟩
 ·cases lo with
  | none=>simp [sliceBounds,HT.sIx]
  | some i=>
   simp only [sliceBounds,HT.sIx,Option.getD_none,show(1:Int) > 0 by decide,if_true]
   by_cases h:i < 0
   ·simp only [h,if_true] <;> omega
   ·simp only [h,if_false] <;> omega
 ·cases hi with
  | none=>simp [sliceBounds,HT.sIx]
  | some i=>
   simp only [sliceBounds,HT.sIx,Option.getD_none,show(1:Int) > 0 by decide,if_true]
   by_cases h:i < 0
   ·simp only [h,if_true] <;> omega
   ·simp only [h,if_false] <;> omega
theorem slicePick_cut (its:List Value) (lo hi:Option Int):slicePick its.toArray lo hi none=((its.drop (HT.sIx its.length 0 lo)).take (HT.sIx its.length its.length hi - HT.sIx its.length 0 lo)).toArray:=by
 obtain⟨h1,h2,h3⟩:=slice_bounds lo hi its.toArray.size
 unfold slicePick
 rw [h1,h2,h3]
 simp only [sliceRange_one,pick_run,List.size_toArray] <;> rfl
def rSlL (K:PySem.W.Frag):V->Option Int->Option Int->Hp->VK->Prop:=fun x lo hi H Q=>∃ a xs,x=.ref a/\SqL K H a xs/\∀ p,H p=none->Q (.ref p) (upd H p (.lst (cutV xs lo hi)))
theorem sl_list:SlR X (rSlL X.K):=by
 intro pins s σ H x v vl vu lo hi sl Q I rx hs pl pu h
 obtain⟨a,xs,rfl,hx,q⟩:=h
 cases rx
 obtain⟨its,r,ht,hz⟩:=I.list hx
 have hlen:=r.length
 refine⟨"list",_,slot_list_getitem.lookup,ht.isList.typeIs,?_⟩
 refine wpAny_getItem_list_slice ht.isList hs pl pu .none (by simp) ?_ (by rw [List.size_toArray] <;> omega)
 rw [slicePick_cut,<- hlen]
 refine⟨.ref s.heap.objs.size,_,I.laid (t':=s.toks) (o:=.lst (cutV xs lo hi)) (fun b ob q=>Heap.get?_push_of_some _ q) (Nat.le_refl _) ?_,rfl,q _ (I.hok.fresh (Nat.le_refl _))⟩
 exact⟨Nat.le_trans (cutV_length xs lo hi) hz,_,0,(r.drop (HT.sIx xs.length 0 lo)).take (HT.sIx xs.length xs.length hi - HT.sIx xs.length 0 lo),Heap.get?_push_size _ rfl⟩
theorem call_len_seq:CallR X (.builtin "len") (fun xs H Q=>∃ p ys,xs=[.ref p]/\(SqL X.K H p ys\/SqT X.K H p ys)/\Q (.int ys.length) H):=by
 intro pins s σ H xs us Q I r h
 obtain⟨p,ys,rfl,hq,q⟩:=h
 obtain⟨u,rfl,rx⟩:=vals1 r
 cases rx
 have hn:=line63
 rcases hq with hq | hq
 ·obtain⟨its,r',pl,hz⟩:=I.list hq
  have hlen:=r'.length
  exact Calls.call_len_list pl.isList (by simp only [List.size_toArray] <;> omega) ⟨.int ys.length,H,I.tok _,⟨s.toks+1,by rw [List.size_toArray,hlen]⟩,q⟩
 ·obtain⟨its,r',pl,hz⟩:=I.tuple hq
  have hlen:=r'.length
  exact len_tuple pl (by simp only [List.size_toArray] <;> omega) ⟨.int ys.length,H,I.tok _,⟨s.toks+1,by rw [List.size_toArray,hlen]⟩,q⟩
def tyV (K:PySem.W.Frag) (T:String) (x:V) (H:Hp):Prop:=match x with
 | .str _=>T="str"
 | .int _=>T="int"
 | .ref p=>(T="list"/\∃ xs,SqL K H p xs)\/(T="tuple"/\∃ o,K.lookup p=some o/\o.cls=.type "tuple"/\o.dict=none)\/
   (T="dict"/\((∃ kvs,H p=some (.dK kvs))\/∃ kvs,H p=some (.dT kvs)))\/(T="set"/\∃ S n,H p=some (.set S n))
 | _=>False
theorem tyV_is {pins:List (Addr×Obj)} {σ:St} {H:Hp} {s:Shared} {T:String} {x:V} {v:Value} (I:Inv X pins σ H s) (r:RelV x v) (ty:tyV X.K T x H):
  s.TypeIs v T/\∀ a,v=.ref a->∃ ob,s.heap.get? a=some ob/\ob.dict=none:=by
 cases x with
 | str z=>
  obtain⟨t,rfl⟩:=r
  cases (show T="str" from ty)
  exact⟨typeIs_str s z t,fun _ e=>nomatch e⟩
 | int i=>
  obtain⟨t,rfl⟩:=r
  cases (show T="int" from ty)
  exact⟨typeIs_int s i t,fun _ e=>nomatch e⟩
 | ref p=>
  cases r
  rcases ty with ⟨rfl,xs,hq⟩ | ⟨rfl,o,hk,hc,hd⟩ | ⟨rfl,hk⟩ | ⟨rfl,S,n,hk⟩
  ·obtain⟨its,_,pl,_⟩:=I.list hq
   refine⟨pl.isList.typeIs,fun a e=>?_⟩
   cases e
   obtain⟨o,n,e,c,hd,_⟩:=pl
   exact⟨o,e,hd⟩
  ·refine⟨⟨o,I.kIn p o hk,hc⟩,fun a e=>?_⟩
   cases e
   exact⟨o,I.kIn _ o hk,hd⟩
  ·have z:∃ o,s.heap.get? p=some o/\o.ExactDict:=by
    rcases hk with ⟨kvs,hk⟩ | ⟨kvs,hk⟩
    ·obtain⟨_,_,_,_,o,_,_,e,ex,_⟩:=I.hok p _ hk
     exact⟨o,e,ex⟩
    ·obtain⟨_,_,_,_,o,_,_,e,ex,_⟩:=I.hok p _ hk
     exact⟨o,e,ex⟩
   obtain⟨o,e,ex⟩:=z
   refine⟨⟨o,e,ex.1⟩,fun a e2=>?_⟩
   cases e2
   exact⟨o,e,ex.2.1⟩
  ·obtain⟨o,_,_,_,e,ex,_⟩:=I.hok p _ hk
   refine⟨⟨o,e,ex.1⟩,fun a e2=>?_⟩
   cases e2
   exact⟨o,e,ex.2.1⟩
 | _=>exact False.elim ty
def tBM0 (K:PySem.W.Frag) (T:String) (r:V->List V->Hp->VK->Prop) (to:TE):TE:=fun σ H Q=>to σ H fun x H1=>tyV K T x H1/\r x [] H1 Q
variable {o e:Expr} {es:List Expr} {to:TE} {t:TA} {name:Str} {apos cpos:Pos} {T id:String} {r:V->List V->Hp->VK->Prop}
theorem pe_bm0 (pa:PlainAttrs T) (slot:Slot T name id) (hty:typeOf (.builtin id)=pure (.type "method_descriptor")) (hm:MtR X id r) (ho:PE X o to)
  (hbase:attributeBase o name X.env (eval o X.env)=eval o X.env:=by rfl) (hline:(apos.endLine == cpos.line)=true:=by rfl):PE X (.Call (.Attribute o name apos) [] [] cpos) (tBM0 X.K T r to):=by
 intro pins s σ H Q I h
 refine wpAny_Call_method0_late hbase hline (thn (ho pins s σ H _ I h) fun v s1 ⟨x,H1,I1,r1,ty,q1⟩=>?_)
 obtain⟨h1,h2⟩:=tyV_is I1 r1 ty
 exact⟨T,id,pa,slot,hty,h1,h2,Calls.callWith_builtin rfl (PySem.evalArgs_none (hm pins s1 σ H1 x [] v [] Q I1 r1 .nil q1))⟩
end
def MtM (X:Cx) (id:String) (r:V->List V->Hp->VK->Prop):Prop:=
 ∀ (pins:List (Addr×Obj)) (s:Shared) (σ:St) (H:Hp) (x:V) (xs:List V) (v:Value) (us:List Value) (Q:VK),Inv X pins σ H s->RelV x v->Vals xs us->r x xs H Q->
  wpAny (model X.prog X.w) X.A (call (.builtin id) (v::us)) (EP X pins σ Q) X.xe s
theorem Vals.one:∀ {x:V} {us:List Value},Vals [x] us->∃ u,us=[u]/\RelV x u
 | _,_,.cons r .nil=>⟨_,rfl,r⟩
section
variable {X:Cx} {pins:List (Addr×Obj)} {σ:St} {H:Hp} {s:Shared} {l b:Addr} {xs ys zs:List V}
theorem Inv.lset {its its':List Value} {n:Nat} {f:Array Value->Array Value} {t':Nat} (I:Inv X pins σ H s) (hH:H l=some (.lst xs))
  (e:s.heap.get? l=some {cls:=.type "list",data:=.seq its.toArray n}) (hf:f its.toArray=its'.toArray) (hv:Vals ys its') (hz:ys.length<=sizeLine):
  Inv X pins σ (upd H l (.lst ys)) {s with heap:=s.heap.update l (Obj.mapSeq f),toks:=t'}:=by
 have q:=PySem.IsL.update e f
 rw [hf] at q
 refine I.write (x:=l) (e:=l) (by rw [hH]; exact trivial) (.inl rfl) (fun b' u hb hu=>(Heap.get?_update_other s.heap (Obj.mapSeq f) (Ne.symm hb)).trans hu) ⟨_,q⟩ ?_
 exact⟨hz,its',_,hv,q⟩
theorem Inv.lnew {its:List Value} {t':Nat} (I:Inv X pins σ H s) (hv:Vals ys its) (hz:ys.length<=sizeLine):
  Inv X pins σ (upd H s.heap.objs.size (.lst ys)) {s with heap:=s.heap.push {cls:=.type "list",data:=.seq its.toArray},toks:=t'}:=
 I.laid (fun _ _ q=>Heap.get?_push_of_some _ q) (Nat.le_refl _) ⟨hz,its,0,hv,Heap.get?_push_size _ rfl⟩
theorem Inv.fresh (I:Inv X pins σ H s):H s.heap.objs.size=none:=I.hok.fresh (Nat.le_refl _)
theorem Inv.lstM (I:Inv X pins σ H s) (hH:H l=some (.lst xs)):xs.length<=sizeLine/\∃ (its:List Value) (n:Nat),Vals xs its/\xs.length=its.length/\s.heap.get? l=some {cls:=.type "list",data:=.seq its.toArray n}:=by
 obtain⟨z,its,n,r,e⟩:=I.hok l _ hH
 exact⟨z,its,n,r,r.length,e⟩
end
section
variable {X:Cx}
def rAppend:V->List V->Hp->VK->Prop:=fun x vs H Q=>∃ l xs y,x=.ref l/\vs=[y]/\H l=some (.lst xs)/\xs.length < sizeLine/\Q .non (upd H l (.lst (xs++[y])))
theorem mt_append:MtM X "list.append" rAppend:=by
 intro pins s σ H x vs v us Q I rx rv h
 obtain⟨l,xs,y,rfl,rfl,hH,hz,q⟩:=h
 cases rx
 obtain⟨u,rfl,ru⟩:=rv.one
 obtain⟨z,its,n,r,hl,e⟩:=I.lstM hH
 refine call_meets F.slot_list_append ⟨_,e,rfl⟩ F.entry_list_append (F.args_list_append_2 _ _) (PySem.list_append l its.toArray n u (by rw [List.size_toArray]; omega)) ⟨e,?_⟩
 refine⟨.non,_,I.lset (its':=its++[u]) hH e (by simp) (r.append (.cons ru .nil)) ?_,rfl,q⟩
 rw [List.length_append,List.length_singleton]
 omega
def rCat:R2:=fun x y H Q=>∃ l b xs zs,x=.ref l/\y=.ref b/\H l=some (.lst xs)/\H b=some (.lst zs)/\xs.length+zs.length<=sizeLine/\∀ p,H p=none->Q (.ref p) (upd H p (.lst (xs++zs)))
theorem op_cat:OpR X (binaryOp .Add) rCat:=by
 intro pins s σ H x y v u Q I rx ry h
 obtain⟨l,b,xs,zs,rfl,rfl,hH,hB,hz,q⟩:=h
 cases rx
 cases ry
 obtain⟨z,its,n,r,hl,e⟩:=I.lstM hH
 obtain⟨z2,its2,n2,r2,hl2,e2⟩:=I.lstM hB
 refine PySem.P.add_list e e2 ?_ (by rw [List.size_toArray,List.size_toArray]; omega)
 have ea:its.toArray++its2.toArray=(its++its2).toArray:=by simp
 rw [ea]
 exact⟨.ref _,_,I.lnew (t':=s.toks) (r.append r2) (by rw [List.length_append]; omega),rfl,q _ I.fresh⟩
end
section
variable {X:Cx} {pins:List (Addr×Obj)} {σ:St} {H:Hp} {s:Shared} {a:Addr} {y v:V} {u r:Value} {o:Option V} {A:Around} {E:Value->Shared->Prop}
theorem Inv.big (I:Inv X pins σ H s):sysModules < s.heap.objs.size:=by
 have h:mainGlobals < s.heap.objs.size:=(I.mod.glob.keeps I.bk).lt
 exact Nat.lt_trans (by decide) h
theorem d_write {h':Heap} {t':Nat} {ob:HO} (I:Inv X pins σ H s) (mu:Mut (H a)) (hs:Heap.SameBut a s.heap h') (he:∃ q,h'.get? a=some q) (new:ObjOk X.prog X.w (upd H a ob) h' a ob):
  Inv X pins σ (upd H a ob) {s with heap:=h',toks:=t'}:=
 I.write (x:=a) (e:=a) mu (.inl rfl) (fun b q hb z=>(hs.2 b hb).trans z) he new
end
def NoSl (i:Expr):Prop:=∀ ov iv,subscripted i false ov iv=operate [ov,iv] (getItem ov iv)
theorem subD_of {prog:Program} {w:World} {A:Around} {E:Value->Shared->Prop} {s:Shared} {env:Env} {value slice:Expr} {pos:Pos} {T id:String} {Q:Value->Shared->Prop}
  (hl:typeLookup (.type T) "__getitem__"=pure (some (.builtin id))) (hs:NoSl slice)
  (h:wpAny (model prog w) A (eval value env) (fun o s₁=>wpAny (model prog w) A (eval slice env) (fun i s₂=>s₂.TypeIs o T/\wpAny (model prog w) A (getItem o i) Q E s₂) E s₁) E s):
  wpAny (model prog w) A (eval (.Subscript value slice pos) env) Q E s:=by
 refine Subscript_ (wpAny_mono h (fun o s₁ h₁=>wpAny_mono h₁ (fun i s₂ h₂=>?_) fun _ _ x=>x) fun _ _ x=>x)
 obtain⟨hT,h₂⟩:=h₂
 unfold subscriptTail
 refine wpAny_bind ?_
 rw [getitemInPython_of_ne hT.not_modules]
 refine wpAny_bind (wpAny_specialOf hT hl ?_)
 have fin:wpAny (model prog w) A (subscripted slice false o i) (fun r s₃=>wpAny (model prog w) A (letTemporaryGo value o r >>= fun _=>pure r) Q E s₃) E s₂:=by
  rw [hs o i]
  exact wpAny_operating (wpAny_mono h₂ (fun r s₃ h₃=>wpAny_bind (wpAny_letTemporaryGo (wpAny_pure h₃))) fun _ _ x=>x)
 first
  | exact wpAny_pure (wpAny_bind fin)
  | exact wpAny_bind (wpAny_pure (wpAny_bind fin))
  | exact wpAny_bind fin
abbrev VV:List (V×V)->List (Value×Value)->Prop:=Paired fun p q=>RelV p.1 q.1/\RelV p.2 q.2
structure M2 (X:Cx) (o:Expr) (m:Str) (apos:Pos) (e f:Expr) (cpos:Pos):Prop where
 base:attributeBase o m X.env (eval o X.env)=eval o X.env
 few:((backTo cpos (starEach [e,f] X.env)).all (fun x=>!x.1) && (backToKw cpos (keywordEach [] X.env)).all (fun x=>x.1.isSome)
  && decide (([e,f]:List Expr).length+([]:List Keyword).length+(if ([]:List Keyword).isEmpty then 0 else 1) < 30))=true
 line:(apos.endLine == cpos.line)=true
 trees:backTo cpos (starEach [e,f] X.env)=[(false,eval e X.env),(false,eval f X.env)]
def IsD (H:Hp) (a:Addr):Prop:=(∃ kvs,Rd H a (.dK kvs))\/∃ kvs,Rd H a (.dT kvs)
end L2
namespace Att
open PySem PySem.W PySem.Calls PyProof.Rows
theorem ints_of_wellAll {P:Params} {h:Heap}:∀ (ns:List Int) (vs:List Value),WellAll P h vs (ns.map WData.int)->IntsAre vs ns:=by
 intro ns
 induction ns with
 | nil=>
  intro vs w
  rw [List.map_nil] at w
  cases w
  exact .nil
 | cons n ns ih=>
  intro vs w
  rw [List.map_cons] at w
  cases w with
  | cons a b=>
   cases a
   exact .cons _ _ (ih _ b)
theorem script_of {l:OpenLaw} {n:Nat} (hn:l.most=some n) {P:Params} {h:Heap} {args:List WData} {vals:List Value}
  (hpre:l.row.toRowW.claim.pre args=true) (hwl:WellAll P h vals args):
  ∃ a vs ns,vals=[Value.ref a]/\args=[WData.list (ns.map WData.int)]/\h.get? a=some {cls:=.type "list",data:=.seq vs.toArray}/\IntsAre vs ns/\ns.length<=n:=by
 have hsh:WShape.hasAll [] args [.list .int]=true:=(pre_splitW hpre).1
 have hc:l.pre.holds [] {args:=args}=true:=(pre_splitW hpre).2
 obtain⟨d,r,rfl,h1,h2⟩:=hasAllW_cons hsh
 obtain rfl:=hasAllW_nil h2
 obtain⟨xs,rfl,h3⟩:=hasW_list h1
 obtain⟨ns,rfl⟩:=items_int h3
 have hlen:ns.length<=n:=by
  unfold OpenLaw.pre at hc
  have h4:(WTm.not (.lt (.lit (.int (n:Int))) (.len (.arg 0)))).holds [] {args:=[.list (ns.map .int)]}=true:=by
   have h4:=(holds_andW hc).1
   rw [hn] at h4
   exact h4
  have h5:=condW_of h4 (w_not (w_lt w_lit (w_len_list (w_arg rfl))))
  rw [List.length_map] at h5
  refine Nat.le_of_not_lt fun q=>?_
  have q':(n:Int) < ((ns.length:Nat):Int):=by omega
  first
   | (rw [decide_eq_true q'] at h5; exact absurd h5 (by decide))
   | (simp at h5; omega)
 cases hwl with
 | cons w1 w2=>
  cases w2
  cases w1 with
  | list ho hall=>exact⟨_,_,ns,rfl,rfl,ho,ints_of_wellAll ns _ hall,hlen⟩
theorem post_true (l:OpenLaw) (args:List WData):l.row.toRowW.claim.post args (.bool true) args=true:=
 postW_of (r:=l.row.toRowW) (X:=(true == true))
  (show WShape.has [] (.bool true) .bool=true by first | rfl | decide | simp [WShape.has,WShape.arms,WShape.armsAll])
  (show (WTm.eq .res (.lit (.bool true))).value [] {args:=args,res:=some (.bool true),after:=args}=some (.bool (true == true)) from w_eq_bool (w_res rfl) w_lit) rfl
theorem attach_call {l:OpenLaw} {n:Nat} {q:Program} {loose:List Str} {XP:(Str->Option Value)->Heap->Prop} {YP:World->Heap->Prop} {d:DefRec}
  (hn:l.most=some n) (hdf:d.params.defaults=[])
  (call:∀ (w:World) (s₀ s₁:Shared) (mg mb:Str->Option Value) (fa:Addr) (o:Obj) (pm cd doc:Value) (a:Addr) (vs:List Value) (ns:List Int),
   Ground q loose [] XP w s₀ mg mb s₁.heap->YP w s₁.heap->
   s₁.heap.get? fa=some o->o.data=.func (docDef d.name d.params d.body d.scope pm cd doc)->s₁.heap.CodeRec cd d.name->mg d.name=some (.ref fa)->
   s₁.heap.get? a=some {cls:=.type "list",data:=.seq vs.toArray}->IntsAre vs ns->ns.length<=n->s₁.gens=#[]->
   codeAny (model l.prog w) callerA (.call (.ref fa) ⟨[.ref a],[]⟩) (fun r s'=>r=.ok (.ret (.bool true))/\OldK s₁.heap s'.heap/\s'.os=s₁.os/\AllBare s'.gens) s₁):
  WalkO q loose XP YP l.row.toRowW d [] (fun f vs=>PySem.call f vs):=by
 intro w s₀ s₁ mg mb G Y fa o pm cd doc dV kV ho hd hcd hD hmg hg args vals as hpre hlay hrd hwl hlo
 obtain rfl:dV=.none:=Dflts.none hD hdf
 obtain rfl:kV=.none:=Dflts.noKw hD
 obtain⟨a,vs,ns,rfl,rfl,hobj,hints,hlen⟩:=script_of hn hpre hwl
 refine enter_call (codeAny_mono (call w s₀ s₁ mg mb fa o pm cd doc a vs ns G Y ho (fd_plain hd) hcd hmg hobj hints hlen hg) fun r s' hq=>?_)
 obtain⟨rfl,h2,h3,h4⟩:=hq
 exact⟨.inl ⟨.bool true,.bool true,[],rfl,fun _=>rfl,.bool true,post_true l _,fun _=>⟨List.Pairwise.nil,fun _ hm=>(nomatch hm)⟩⟩,h2,h3,h4⟩
section
variable {prog:Program} {w:World} {A:Around} {E:Value->Shared->Prop} {s:Shared} {K:Frag}
def ledger (h:Heap) (L d:Addr):List (Addr×Obj):=(List.range h.objs.size).filterMap fun a=>if a=L\/a=d then none else(h.get? a).map fun o=>(a,o)
end
end Att
namespace L2
open PySem PySem.Spec PyProof.Rows
theorem vals_ints:∀ {vs:List Value} {ns:List Int},IntsAre vs ns->Vals (ns.map V.int) vs
 | _,_,.nil=>.nil
 | _,_,.cons n t h=>.cons ⟨t,rfl⟩ (vals_ints h)
abbrev KOf {K:PySem.W.Frag} {h:Heap} (_:K.In h):PySem.W.Frag:=K
def defArgs (s:Stmt):Arguments:=match s with
 | .FunctionDef _ a _ _ _ _ _ _ _ _=>a
 | _=>{posonlyargs:=[],args:=[],vararg:=none,kwonlyargs:=[],kw_defaults:=[],kwarg:=none,defaults:=[]}
def defBody (s:Stmt):List Stmt:=match s with
 | .FunctionDef _ _ b _ _ _ _ _ _ _=>b
 | _=>[]
def defScope (s:Stmt):Scope:=match s with
 | .FunctionDef _ _ _ _ _ _ sc _ _ _=>sc
 | _=>{kind:=.function,names:=[],isGenerator:=false,isCoroutine:=false}
abbrev CX0:CXT:=fun _ _ _ _ _ _=>False
abbrev E0:XK:=fun _ _ _=>False
theorem pass0 {X:Cx}:Passes CX0 X E0:=fun _ _ _ _ _ _ _ h=>h.elim
structure Fun (K:PySem.W.Frag) (x qual:Str) (st:Stmt) (f:Addr) (fd:FuncData):Prop where
 ex:∃ (oc:Value) (od:Option Addr) (kV doc pm:Value) (an:Option Addr) (cdv ct:Value) (osl:Array (Option Value)),
  fd=PySem.W.fnOf x qual (defArgs st) (defBody st) (defScope st) .none kV doc pm an cdv ct/\K.lookup f=some ⟨oc,od,.func fd,osl⟩/\PySem.W.codeIn K cdv qual=true
 kp:PySem.W.keepIn K (.ref f)=true
section
variable {P:Program} {w:World} {K:PySem.W.Frag} {mg:Str->Option Value} {base:Heap}
theorem Fun.ok {x qual:Str} {st:Stmt} {f:Addr} {fd:FuncData} {N ps:List Str} {k:Nat} {sp:Sp} (F:Fun K x qual st f fd) (S:FnScope N ps (defScope st)) (len:∀ vs H Q E,sp vs H Q E->vs.length=ps.length)
  (hbody:∀ (cdv:Value) (A:Around) (outer:List Env) (s:Shared) (H:Hp) (vs:List V) (Q:VK) (E:XK),Room k (A.deeper (envOfC qual (defScope st) s.heap.objs.size f cdv))->sp vs H Q E->
   ∃ t,PSs (cxOf CX0 P w K mg base N qual (defScope st) f cdv A outer s H E).nox (defBody st) t/\t {nx:=fun _ H'=>Q .non H',rt:=Q} (start N vs) H):FnOk P w K mg base CX0 (k+1) f fd ps sp:=by
 obtain⟨oc,od,kV,doc,pm,an,cdv,ct,osl,rfl,lk,hcd⟩:=F.ex
 refine fn_of lk hcd S len fun A outer s H vs Q E hr hsp=>?_
 obtain⟨t,h,q⟩:=hbody cdv A outer s H vs Q E hr hsp
 exact⟨t,h.nox,q⟩
theorem Fun.binds {x qual:Str} {st:Stmt} {f:Addr} {fd:FuncData} {ps:List Str} (F:Fun K x qual st f fd)
  (h:∀ (kV doc pm:Value) (an:Option Addr) (cdv ct:Value) (us:List Value),us.length=ps.length->bindArgs (PySem.W.fnOf x qual (defArgs st) (defBody st) (defScope st) .none kV doc pm an cdv ct) ⟨us,[]⟩=pure (ps.zip us)):Binds K fd ps []:=by
 obtain⟨oc,od,kV,doc,pm,an,cdv,ct,osl,rfl,lk,hcd⟩:=F.ex
 exact .all (h kV doc pm an cdv ct)
theorem fun_mk {x qual:Str} {st:Stmt} {f:Addr} {oc:Value} {od an:Option Addr} {osl:Array (Option Value)} {kV doc pm cdv ct:Value} (l:K.lookup f=some ⟨oc,od,.func (PySem.W.fnOf x qual (defArgs st) (defBody st) (defScope st) .none kV doc pm an cdv ct),osl⟩)
  (c:PySem.W.codeIn K cdv qual=true) (k:PySem.W.keepIn K (.ref f)=true):Fun K x qual st f (PySem.W.fnOf x qual (defArgs st) (defBody st) (defScope st) .none kV doc pm an cdv ct):=⟨⟨oc,od,kV,doc,pm,an,cdv,ct,osl,rfl,l,c⟩,k⟩
end
theorem iteF {A B:Prop} (h:B):if false=true then A else B:=by
 rw [if_neg Bool.false_ne_true]
 exact h
theorem iteT {A B:Prop} (h:A):if true=true then A else B:=by
 rw [if_pos rfl]
 exact h
end L2
set_option linter.all false
namespace HM
theorem gcd_fmod (a b:Int):Int.gcd b (a.fmod b)=Int.gcd a b:=by
 have h:=Int.gcd_sub_mul_right_right b a (a.fdiv b)
 rw [Int.fmod_def,Int.mul_comm b,h,Int.gcd_comm]
theorem fmod_lt (a b:Int) (h:b≠0):(a.fmod b).natAbs < b.natAbs:=by
 rcases Int.lt_or_gt_of_ne h with hb | hb
 ·have e:a.fmod b=-((-a).fmod (-b)):=by rw [Int.neg_fmod_neg,Int.neg_neg]
  have h1:=Int.fmod_nonneg_of_pos (-a) (show 0 < -b by omega)
  have h2:=Int.fmod_lt_of_pos (-a) (show 0 < -b by omega)
  omega
 ·have h1:=Int.fmod_nonneg_of_pos a hb
  have h2:=Int.fmod_lt_of_pos a hb
  omega
theorem gcd_zero (a:Int):((Int.gcd a 0:Nat):Int)=if a < 0 then -a else a:=by
 rw [Int.gcd_zero_right]
 split <;> omega
def shr (t b:Int):Int:=if b < 0 then -((Int.gcd t b:Nat):Int) else((Int.gcd t b:Nat):Int)
theorem shr_ne {t b:Int} (h:b≠0):shr t b≠0:=by
 have h1:Int.gcd t b≠0:=fun e=>h (Int.gcd_eq_zero_iff.mp e).2
 unfold shr
 split <;> omega
theorem div_num {t b:Int} (h:b≠0):t.fdiv (shr t b)=(Rat.divInt t b).num:=by
 have hg:((Int.gcd t b:Nat):Int) ∣ t:=Int.gcd_dvd_left t b
 rw [Rat.num_divInt,Int.gcd_comm b t]
 unfold shr
 rcases Int.lt_or_gt_of_ne h with hb | hb
 ·rw [if_pos hb,Int.sign_eq_neg_one_of_neg hb,Int.fdiv_eq_ediv_of_dvd (Int.neg_dvd.mpr hg),Int.ediv_neg,Int.neg_mul,Int.one_mul,Int.neg_ediv_of_dvd hg]
 ·rw [if_neg (by omega),Int.sign_eq_one_of_pos hb,Int.fdiv_eq_ediv_of_dvd hg,Int.one_mul]
theorem div_den {t b:Int} (h:b≠0):b.fdiv (shr t b)=((Rat.divInt t b).den:Int):=by
 have hg:((Int.gcd t b:Nat):Int) ∣ b:=Int.gcd_dvd_right t b
 rw [Rat.den_divInt,Int.gcd_comm b t,if_neg h]
 unfold shr
 rcases Int.lt_or_gt_of_ne h with hb | hb
 ·rw [if_pos hb,Int.fdiv_eq_ediv_of_dvd (Int.neg_dvd.mpr hg),Int.ediv_neg,Int.natCast_ediv]
  rw [show ((b.natAbs:Nat):Int)=-b by omega,Int.neg_ediv_of_dvd hg]
 ·rw [if_neg (by omega),Int.fdiv_eq_ediv_of_dvd hg,Int.natCast_ediv]
  rw [show ((b.natAbs:Nat):Int)=b by omega]
theorem add_of (a b:Rat):Rat.divInt (a.num*b.den+b.num*a.den) (a.den*b.den)=a+b:=by
 rw [Rat.add_def',Rat.mkRat_eq_div,Rat.divInt_eq_div]; simp [Rat.intCast_natCast]
theorem sub_of (a b:Rat):Rat.divInt (a.num*b.den - b.num*a.den) (a.den*b.den)=a - b:=by
 rw [Rat.sub_def',Rat.mkRat_eq_div,Rat.divInt_eq_div]; simp [Rat.intCast_natCast]
theorem mul_of (a b:Rat):Rat.divInt (a.num*b.num) (a.den*b.den)=a*b:=by
 rw [Rat.mul_def',Rat.mkRat_eq_div,Rat.divInt_eq_div]; simp [Rat.intCast_natCast]
theorem div_of (a b:Rat):Rat.divInt (a.num*b.den) (a.den*b.num)=a / b:=by
 rw [Rat.div_def,<- Rat.num_divInt_den b,Rat.inv_divInt]
 conv=>rhs; rw [<- Rat.num_divInt_den a]
 rw [Rat.divInt_mul_divInt,Rat.num_divInt_den]
def isqN:Nat->Nat
 | 0=>0
 | n+1=>if (isqN n+1)*(isqN n+1)<=n+1 then isqN n+1 else isqN n
theorem isqN_spec:∀ n,isqN n*isqN n<=n/\n < (isqN n+1)*(isqN n+1)
 | 0=>by decide
 | n+1=>by
  obtain⟨h1,h2⟩:=isqN_spec n
  unfold isqN
  split
  ·rename_i h
   refine⟨h,?_⟩
   have:(isqN n+1+1)*(isqN n+1+1)=(isqN n+1)*(isqN n+1)+2*(isqN n+1)+1:=by grind
   omega
  ·rename_i h
   exact⟨Nat.le_succ_of_le h1,Nat.lt_of_not_le h⟩
def isq (n:Int):Int:=(isqN n.toNat:Nat)
structure Rt (n r:Int):Prop where
 nn:0<=r
 le:r*r<=n
 lt:n < (r+1)*(r+1)
theorem isq_rt {n:Int} (h:0<=n):Rt n (isq n):=by
 obtain⟨h1,h2⟩:=isqN_spec n.toNat
 refine⟨by unfold isq; omega,?_,?_⟩
 ·unfold isq
  have:((isqN n.toNat*isqN n.toNat:Nat):Int)<=(n.toNat:Int):=Int.ofNat_le.mpr h1
  rw [Int.natCast_mul] at this
  omega
 ·unfold isq
  have:((n.toNat:Nat):Int) < (((isqN n.toNat+1)*(isqN n.toNat+1):Nat):Int):=Int.ofNat_lt.mpr h2
  rw [Int.natCast_mul,Int.natCast_add] at this
  rw [show ((n.toNat:Nat):Int)=n by omega] at this
  exact this
theorem sq_mono {a b:Int} (ha:0<=a) (h:a<=b):a*a<=b*b:=Int.mul_le_mul h h ha (by omega)
theorem Rt.le_of {n r x:Int} (h:Rt n r) (hx:x*x<=n):x<=r:=by
 apply Int.not_lt.mp
 intro hl
 have:=sq_mono (a:=r+1) (b:=x) (by have:=h.nn; omega) (by omega)
 have:=h.lt
 omega
theorem Rt.uniq {n r q:Int} (h:Rt n r) (h':Rt n q):r=q:=Int.le_antisymm (h'.le_of h.le) (h.le_of h'.le)
theorem isq_eq {n r:Int} (h:Rt n r):isq n=r:=(isq_rt (Int.le_trans (by have:=sq_mono (Int.le_refl 0) h.nn; omega) h.le)).uniq h
theorem isq_sq {n x:Int} (e:x*x=n):isq n*isq n=n:=by
 have h:Rt n x.natAbs:=by
  refine⟨by omega,?_,?_⟩
  ·rw [Int.natAbs_mul_self' x]; omega
  ·have:((x.natAbs:Int)+1)*((x.natAbs:Int)+1)=(x.natAbs:Int)*(x.natAbs:Int)+2*x.natAbs+1:=by grind
   rw [Int.natAbs_mul_self' x] at this
   omega
 rw [isq_eq h,Int.natAbs_mul_self' x]
 exact e
theorem newton_ge {n g r:Int} (hg:0 < g) (hr:0<=r) (h:r*r<=n):r<=(g+n / g) / 2:=by
 apply Int.not_lt.mp
 intro hl
 have h1:g+n / g+1<=2*r:=by omega
 have hn:0<=n:=by have:=sq_mono (Int.le_refl 0) hr; omega
 have hq:0<=n / g:=Int.ediv_nonneg hn (by omega)
 have h2:=sq_mono (a:=g+n / g+1) (b:=2*r) (by omega) h1
 have h3:n < (n / g+1)*g:=by
  have:=Int.lt_ediv_add_one_mul_self n hg
  exact this
 have h4:0<=(g - (n / g+1))*(g - (n / g+1)):=by
  rw [<- Int.natAbs_mul_self' (g - (n / g+1))]; exact Int.natCast_nonneg _
 generalize n / g=q at*
 grind
theorem newton_lt {n g r:Int} (hn:0<=n) (h:Rt n r) (hg:r < g):(g+n / g) / 2 < g:=by
 have h0:=h.nn
 have h1:n / g < r+1:=by
  apply Int.ediv_lt_of_lt_mul (by omega)
  have:=h.lt
  have h2:(r+1)*(r+1)<=(r+1)*g:=Int.mul_le_mul_of_nonneg_left (by omega) (by omega)
  omega
 omega
def Bt (n:Nat) (x:Int):Prop:=x.natAbs < 2 ^ n
theorem two_pow_le {m n:Nat} (h:m<=n):2 ^ m<=2 ^ n:=Nat.pow_le_pow_right (by decide) h
theorem Bt.mono {m n:Nat} {x:Int} (h:Bt m x) (hm:m<=n):Bt n x:=Nat.lt_of_lt_of_le h (two_pow_le hm)
theorem Bt.mul {m n:Nat} {x y:Int} (hx:Bt m x) (hy:Bt n y):Bt (m+n) (x*y):=by
 unfold Bt at*
 rw [Int.natAbs_mul,Nat.pow_add]
 exact Nat.mul_lt_mul'' hx hy
theorem Bt.add {m n:Nat} {x y:Int} (hx:Bt m x) (hy:Bt n y):Bt (max m n+1) (x+y):=by
 have h1:=hx.mono (Nat.le_max_left m n)
 have h2:=hy.mono (Nat.le_max_right m n)
 unfold Bt at*
 have:=Int.natAbs_add_le x y
 rw [Nat.pow_succ]
 omega
theorem Bt.neg {m:Nat} {x:Int} (hx:Bt m x):Bt m (-x):=by unfold Bt at *; omega
theorem Bt.sub {m n:Nat} {x y:Int} (hx:Bt m x) (hy:Bt n y):Bt (max m n+1) (x - y):=by
 rw [Int.sub_eq_add_neg]; exact hx.add hy.neg
theorem Bt.le {m:Nat} {x y:Int} (hx:Bt m x) (h:y.natAbs<=x.natAbs):Bt m y:=Nat.lt_of_le_of_lt h hx
structure Sz (n:Nat) (q:Rat):Prop where
 num:Bt n q.num
 den:Bt n q.den
theorem Sz.mono {m n:Nat} {q:Rat} (h:Sz m q) (hm:m<=n):Sz n q:=⟨h.num.mono hm,h.den.mono hm⟩
theorem natAbs_fdiv_le:∀ a b:Int,(a.fdiv b).natAbs<=a.natAbs
 | .ofNat 0,b=>by
  have e:Int.fdiv (.ofNat 0) b=0:=Int.zero_fdiv b
  rw [e]; exact Nat.zero_le _
 | .ofNat (k+1),.ofNat j=>Nat.div_le_self (k+1) j
 | .ofNat (k+1),.negSucc j=>Nat.succ_le_succ (Nat.div_le_self k (j+1))
 | .negSucc _,.ofNat 0=>Nat.zero_le _
 | .negSucc k,.ofNat (j+1)=>Nat.succ_le_succ (Nat.div_le_self k (j+1))
 | .negSucc k,.negSucc j=>Nat.div_le_self (k+1) (j+1)
theorem Sz.divInt {n:Nat} {t b:Int} (ht:Bt n t) (hb:Bt n b) (h:b≠0):Sz n (Rat.divInt t b):=
 ⟨by rw [<- div_num h]; exact ht.le (natAbs_fdiv_le _ _),by rw [<- div_den h]; exact hb.le (natAbs_fdiv_le _ _)⟩
theorem den_ne (q:Rat):(q.den:Int)≠0:=by have:=q.den_nz; omega
theorem den_mul_ne (p q:Rat):(p.den:Int)*q.den≠0:=Int.mul_ne_zero (den_ne p) (den_ne q)
theorem Sz.add {m n:Nat} {a b:Rat} (ha:Sz m a) (hb:Sz n b):Sz (m+n+1) (a+b):=by
 rw [<- add_of]
 refine .divInt ?_ ?_ (den_mul_ne a b)
 ·exact((ha.num.mul hb.den).add (hb.num.mul ha.den)).mono (by omega)
 ·exact(ha.den.mul hb.den).mono (by omega)
theorem Sz.sub {m n:Nat} {a b:Rat} (ha:Sz m a) (hb:Sz n b):Sz (m+n+1) (a - b):=by
 rw [<- sub_of]
 refine .divInt ?_ ?_ (den_mul_ne a b)
 ·exact((ha.num.mul hb.den).sub (hb.num.mul ha.den)).mono (by omega)
 ·exact(ha.den.mul hb.den).mono (by omega)
theorem Sz.mul {m n:Nat} {a b:Rat} (ha:Sz m a) (hb:Sz n b):Sz (m+n) (a*b):=by
 rw [<- mul_of]
 exact .divInt (ha.num.mul hb.num) (ha.den.mul hb.den) (den_mul_ne a b)
theorem num_ne {q:Rat} (h:q≠0):q.num≠0:=fun e=>h (Rat.num_eq_zero.mp e)
theorem Sz.div {m n:Nat} {a b:Rat} (ha:Sz m a) (hb:Sz n b) (h:b≠0):Sz (m+n) (a / b):=by
 rw [<- div_of]
 exact .divInt (ha.num.mul hb.den) (ha.den.mul hb.num) (Int.mul_ne_zero (den_ne a) (num_ne h))
theorem Sz.neg {m:Nat} {a:Rat} (ha:Sz m a):Sz m (-a):=⟨by rw [Rat.neg_num]; exact ha.num.neg,by rw [Rat.neg_den]; exact ha.den⟩
theorem sq_num (r:Rat):(r*r).num=r.num*r.num:=by
 have h:=Rat.num_pow r 2
 rw [show r ^ 2=r*r by grind,show r.num ^ 2=r.num*r.num by grind] at h
 exact h
theorem sq_den (r:Rat):(r*r).den=r.den*r.den:=by
 have h:=Rat.den_pow r 2
 rw [show r ^ 2=r*r by grind,show r.den ^ 2=r.den*r.den by grind] at h
 exact h
def NoSq (u:Rat):Prop:=∀ r:Rat,r*r≠u
theorem isq_le {n:Int} (h:0<=n):isq n<=n:=by
 have rt:=isq_rt h
 have h0:=rt.nn
 have h1:=rt.le
 rcases Int.lt_or_le (isq n) 1 with h2 | h2
 ·omega
 ·have:isq n*1<=isq n*isq n:=Int.mul_le_mul_of_nonneg_left h2 h0
  omega
theorem isq_bt {n:Int} {m:Nat} (h:0<=n) (hb:Bt m n):Bt m (isq n):=hb.le (by have:=isq_le h; have:=(isq_rt h).nn; omega)
theorem isq_zero:isq 0=0:=by decide
structure Gd (n g:Int):Prop where
 pos:0 < g
 ge:isq n<=g
 bt:Bt 2002 g
theorem fdiv2 (a:Int) {b:Int} (h:0 < b):a.fdiv b=a / b:=Int.fdiv_eq_ediv_of_nonneg a (by omega)
theorem Gd.next {n g:Int} (h0:1<=n) (h:Gd n g) (hl:(g+n.fdiv g).fdiv 2 < g):Gd n ((g+n.fdiv g).fdiv 2):=by
 have rt:=isq_rt (n:=n) (by omega)
 have r1:1<=isq n:=rt.le_of (by omega)
 rw [fdiv2 _ (by decide),fdiv2 _ h.pos] at hl ⊢
 have h1:=newton_ge h.pos rt.nn rt.le
 exact⟨by omega,h1,h.bt.le (by have:=h.pos; omega)⟩
theorem Gd.last {n g:Int} (h0:1<=n) (h:Gd n g) (hl:¬ (g+n.fdiv g).fdiv 2 < g):g=isq n:=by
 have rt:=isq_rt (n:=n) (by omega)
 rw [fdiv2 _ (by decide),fdiv2 _ h.pos] at hl
 have h1:=h.ge
 rcases Int.lt_or_le (isq n) g with h2 | h2
 ·exact absurd (newton_lt (by omega) rt h2) hl
 ·omega
theorem Gd.first {n:Int} {b:Nat} (h0:1<=n) (hn:n.natAbs < 2 ^ b) (hb:b<=4000):Gd n ((1:Int)*2 ^ ((((b:Nat):Int)+1).fdiv 2).toNat):=by
 have e:((((b:Nat):Int)+1).fdiv 2).toNat=(b+1) / 2:=by rw [fdiv2 _ (by decide)]; omega
 rw [e,Int.one_mul]
 have hp:(0:Int) < 2 ^ ((b+1) / 2):=Int.pow_pos (by decide)
 have rt:=isq_rt (n:=n) (by omega)
 refine⟨hp,?_,?_⟩
 ·apply Int.not_lt.mp
  intro hl
  have h1:=sq_mono (Int.le_of_lt hp) (Int.le_of_lt hl)
  have h2:=rt.le
  have h3:(2:Int) ^ ((b+1) / 2)*2 ^ ((b+1) / 2)=2 ^ ((b+1) / 2+(b+1) / 2):=(Int.pow_add _ _ _).symm
  have h4:2 ^ b<=2 ^ ((b+1) / 2+(b+1) / 2):=two_pow_le (by omega)
  have h5:((2 ^ ((b+1) / 2+(b+1) / 2):Nat):Int)=(2:Int) ^ ((b+1) / 2+(b+1) / 2):=by rw [Int.natCast_pow]; rfl
  have h6:((2 ^ b:Nat):Int)<=((2 ^ ((b+1) / 2+(b+1) / 2):Nat):Int):=Int.ofNat_le.mpr h4
  have h7:(n.natAbs:Int) < ((2 ^ b:Nat):Int):=Int.ofNat_lt.mpr hn
  rw [h3] at h1
  rw [h5] at h6
  omega
 ·unfold Bt
  rw [Int.natAbs_pow]
  exact Nat.pow_lt_pow_right (by decide) (by omega)
abbrev absI (a:Int):Int:=if a < 0 then -a else a
theorem absI_nn (a:Int):0<=absI a:=by unfold absI; split <;> omega
theorem rat_sq_nonneg (r:Rat):0<=r*r:=by
 rcases Rat.le_total (a:=0) (b:=r) with h | h
 ·exact Rat.mul_nonneg h h
 ·have:0<=-r:=by grind
  have:=Rat.mul_nonneg this this
  grind
theorem rat_num_den (w:Rat):(w.num:Rat)=w*(w.den:Rat):=by
 have h:=Rat.num_divInt_den w
 rw [Rat.divInt_eq_div,Rat.intCast_natCast] at h
 have hd:(w.den:Rat)≠0:=by
  have:=w.den_nz
  exact fun e=>this (by exact_mod_cast e)
 grind
theorem rat_den_ne (w:Rat):(w.den:Rat)≠0:=by
 have:=w.den_nz
 exact fun e=>this (by exact_mod_cast e)
theorem gcd_red (q:Rat):Int.gcd q.num (q.den:Int)=1:=by
 have:=q.reduced
 unfold Nat.Coprime at this
 simpa [Int.gcd] using this
def ab (b:Rat):Rat:=if b < 0 then -b else b
theorem ab_nn (b:Rat):0<=ab b:=by unfold ab; split <;> grind
theorem ab_sq (b:Rat):ab b*ab b=b*b:=by unfold ab; split <;> grind
def ss (b:Rat):Rat:=b*ab b
theorem num_neg_iff (q:Rat):q.num < 0↔q < 0:=by
 have:=Rat.num_nonneg (q:=q)
 constructor
 ·intro h
  apply Rat.not_le.mp
  intro h2
  have:=this.mpr h2
  omega
 ·intro h
  apply Int.not_le.mp
  intro h2
  exact absurd (this.mp h2) (Rat.not_le.mpr h)
theorem ab_num (q:Rat):(ab q).num=absI q.num:=by
 unfold ab absI
 by_cases h:q < 0
 ·rw [if_pos h,if_pos ((num_neg_iff q).mpr h),Rat.neg_num]
 ·rw [if_neg h,if_neg (fun e=>h ((num_neg_iff q).mp e))]
theorem ab_den (q:Rat):(ab q).den=q.den:=by
 unfold ab
 split
 ·exact Rat.neg_den _
 ·rfl
theorem isq_self {x:Int} (h:0<=x):isq (x*x)=x:=isq_eq ⟨h,Int.le_refl _,by grind⟩
theorem ss_zero {b u:Rat} (hu:0 < u):ss b*u=0↔b=0:=by
 unfold ss ab
 constructor
 ·intro h
  have hu':u≠0:=by grind
  split at h <;> grind
 ·intro h
  subst h
  grind
theorem ss_ab {b u:Rat} (hu:0 < u):ab (ss b*u)=b*b*u:=by
 have h2:=rat_sq_nonneg b
 have h3:=Rat.mul_nonneg h2 (Rat.le_of_lt hu)
 unfold ss
 by_cases h:b < 0
 ·have e:b*ab b*u=-(b*b*u):=by unfold ab; rw [if_pos h]; grind
  rw [e]
  have hp:0 < b*b*u:=by
   have h4:0 < -b:=by grind
   have h5:=Rat.mul_pos h4 h4
   have h6:=Rat.mul_pos h5 hu
   grind
  unfold ab
  rw [if_pos (by grind)]
  grind
 ·have e:b*ab b*u=b*b*u:=by unfold ab; rw [if_neg h]
  rw [e]
  unfold ab
  rw [if_neg (by grind)]
theorem ss_neg {b u:Rat} (hu:0 < u):ss b*u < 0↔b < 0:=by
 have h2:=rat_sq_nonneg b
 have h3:=Rat.mul_nonneg h2 (Rat.le_of_lt hu)
 unfold ss ab
 constructor
 ·intro h
  split at h
  ·assumption
  ·exfalso; grind
 ·intro h
  rw [if_pos h]
  have h4:0 < -b:=by grind
  have h5:=Rat.mul_pos h4 h4
  have h6:=Rat.mul_pos h5 hu
  grind
theorem ss_mul (a b:Rat):ss (a*b)=ss a*ss b:=by
 have e:ab (a*b)=ab a*ab b:=by
  unfold ab
  by_cases ha:a < 0 <;> by_cases hb:b < 0
  ·have:=Rat.mul_pos (show 0 < -a by grind) (show 0 < -b by grind)
   rw [if_neg (by grind),if_pos ha,if_pos hb]; grind
  ·rw [if_pos ha,if_neg hb]
   by_cases h0:b=0
   ·subst h0; grind
   ·have:=Rat.mul_pos (show 0 < -a by grind) (show 0 < b by grind)
    rw [if_pos (by grind)]; grind
  ·rw [if_neg ha,if_pos hb]
   by_cases h0:a=0
   ·subst h0; grind
   ·have:=Rat.mul_pos (show 0 < a by grind) (show 0 < -b by grind)
    rw [if_pos (by grind)]; grind
  ·have:=Rat.mul_nonneg (show 0<=a by grind) (show 0<=b by grind)
   rw [if_neg (by grind),if_neg ha,if_neg hb]
 unfold ss
 rw [e]
 grind
theorem ss_negate (b:Rat):ss (-b)=-ss b:=by
 unfold ss ab
 by_cases h:b < 0
 ·rw [if_neg (by grind),if_pos h]; grind
 ·by_cases h0:b=0
  ·subst h0; grind
  ·rw [if_pos (by grind),if_neg h]; grind
theorem ss_nonneg {b:Rat} (h:0<=b):ss b=b*b:=by unfold ss ab; rw [if_neg (by grind)]
def sg (p q:Rat):Rat:=if q < 0 then -p else p
def sgR (q:Rat):Int:=if 0 < q then 1 else if q < 0 then -1 else 0
theorem sgR_pos {q:Rat} (h:0 < q):sgR q=1:=if_pos h
theorem sgR_neg {q:Rat} (h:q < 0):sgR q=-1:=by unfold sgR; rw [if_neg (by grind),if_pos h]
theorem sgR_zero:sgR 0=0:=by decide
theorem tri (q:Rat):0 < q\/q < 0\/q=0:=by
 rcases Rat.le_total (a:=0) (b:=q) with h | h
 ·by_cases e:q=0
  ·exact .inr (.inr e)
  ·exact .inl (by grind)
 ·by_cases e:q=0
  ·exact .inr (.inr e)
  ·exact .inr (.inl (by grind))
def sq2 (a b u:Rat):Int:=if 0 < a*a - b*b*u then sgR a else sgR b
theorem sq2_p {a b u:Rat} (h:0 < a*a - b*b*u):sq2 a b u=sgR a:=if_pos h
theorem div_nn {x y:Rat} (hx:0<=x) (hy:0<=y):0<=x / y:=by
 by_cases h:y=0
 ·subst h
  rw [show x / 0=0 by grind]
  exact Rat.le_refl
 ·apply Rat.not_lt.mp
  intro hl
  have h1:=Rat.mul_pos (show 0 < -(x / y) by grind) (show 0 < y by grind)
  have h2:x / y*y=x:=by grind
  grind
theorem ss_of_zero:ss 0=0:=by unfold ss; grind
theorem num_nn {q:Rat} (h:0<=q):0<=q.num:=Rat.num_nonneg.mpr h
theorem root_of_sq {q r:Rat} (h0:0<=r) (e:r*r=q):isq q.num=r.num/\isq (q.den:Int)=(r.den:Int):=by
 subst e
 rw [sq_num,sq_den]
 refine⟨isq_self (num_nn h0),?_⟩
 rw [Int.natCast_mul]
 exact isq_self (by omega)
theorem sq_of_root {q:Rat} (h0:0<=q) (s1:isq q.num*isq q.num=q.num) (s2:isq (q.den:Int)*isq (q.den:Int)=(q.den:Int)):∃ r:Rat,0<=r/\r*r=q:=by
 have n1:=(isq_rt (num_nn h0)).nn
 have n2:=(isq_rt (n:=(q.den:Int)) (by omega)).nn
 generalize isq q.num=x at s1 n1
 generalize isq (q.den:Int)=y at s2 n2
 have t1:(x:Rat)*x=(q.num:Rat):=by
  have:=congrArg (fun z:Int=>(z:Rat)) s1
  simpa [Rat.intCast_mul] using this
 have t2:(y:Rat)*y=(q.den:Rat):=by
  have:=congrArg (fun z:Int=>(z:Rat)) s2
  simpa [Rat.intCast_mul,Rat.intCast_natCast] using this
 have hd:=rat_den_ne q
 have hy0:(y:Rat)≠0:=by intro e; rw [e] at t2; exact hd (by grind)
 have hwn:=rat_num_den q
 have x0:(0:Rat)<=x:=by exact_mod_cast n1
 have y0:(0:Rat)<=y:=by exact_mod_cast n2
 refine⟨(x:Rat) / y,?_,by grind⟩
 exact div_nn x0 y0
theorem ab_ne {e:Rat} (h:e≠0):ab e≠0:=by unfold ab; split <;> grind
theorem ab_pos {e:Rat} (h:e≠0):0 < ab e:=by have:=ab_nn e; have:=ab_ne h; grind
theorem nn_eq {r s:Rat} (hr:0<=r) (hs:0<=s) (e:r*r=s*s):r=s:=by
 by_cases h:r+s=0
 ·grind
 ·have:(r - s)*(r+s)=0:=by grind
  grind
theorem share_root {b e u r:Rat} (u0:0 < u) (he:e≠0) (hr:0<=r) (h:r*r=(b*b*u) / (e*e*u)):r=ab b / ab e:=by
 have u1:u≠0:=by grind
 have e1:=ab_sq e
 have b1:=ab_sq b
 have e2:=ab_ne he
 apply nn_eq hr (div_nn (ab_nn b) (ab_nn e))
 rw [h]
 have:ab b / ab e*(ab b / ab e)=(ab b*ab b) / (ab e*ab e):=by grind
 rw [this,e1,b1]
 grind
theorem share_sq {b e u:Rat} (u0:0 < u) (he:e≠0):(ab b / ab e)*(ab b / ab e)=(b*b*u) / (e*e*u):=by
 have u1:u≠0:=by grind
 have e1:=ab_sq e
 have b1:=ab_sq b
 have e2:=ab_ne he
 have:ab b / ab e*(ab b / ab e)=(ab b*ab b) / (ab e*ab e):=by grind
 rw [this,e1,b1]
 grind
theorem share_sg {b e u:Rat} (u0:0 < u):sg (ab b / ab e) (ss b*u)=b / ab e:=by
 unfold sg
 by_cases h:b < 0
 ·rw [if_pos ((ss_neg u0).mpr h)]
  unfold ab
  rw [if_pos h]
  grind
 ·rw [if_neg (fun z=>h ((ss_neg u0).mp z))]
  unfold ab
  rw [if_neg h]
theorem ss_div {x y:Rat} (hy:0 < y):ss (x / y)=ss x / (y*y):=by
 have h1:x / y=x*(1 / y):=by grind
 have h2:0<=1 / y:=div_nn (by decide) (Rat.le_of_lt hy)
 rw [h1,ss_mul,ss_nonneg h2]
 grind
theorem join_ss {x e u:Rat} (he:e≠0):ss (x / ab e)*(e*e*u)=ss x*u:=by
 have e1:=ab_sq e
 rw [ss_div (ab_pos he),e1]
 grind
theorem sg_ss (p base:Rat):sg (p*p*base) p=ss p*base:=by
 unfold sg ss ab
 by_cases h:p < 0
 ·rw [if_pos h,if_pos h]; grind
 ·rw [if_neg h,if_neg h]
def pick (b d:Rat):Rat:=if b=0 then d else b
theorem pick_b {b d:Rat}:b=0\/pick b d≠0:=by
 unfold pick
 by_cases h:b=0
 ·exact .inl h
 ·rw [if_neg h]; exact .inr h
theorem pick_d {b d:Rat}:d=0\/pick b d≠0:=by
 unfold pick
 by_cases h:b=0
 ·rw [if_pos h]
  by_cases h2:d=0
  ·exact .inl h2
  ·exact .inr h2
 ·rw [if_neg h]; exact .inr h
theorem pick_zero {b d:Rat} (h:pick b d=0):b=0/\d=0:=by
 unfold pick at h
 by_cases h2:b=0
 ·rw [if_pos h2] at h; exact⟨h2,h⟩
 ·rw [if_neg h2] at h; exact absurd h h2
theorem plus_join {b d u:Rat}:ss (b / ab (pick b d)+d / ab (pick b d))*(pick b d*pick b d*u)=ss (b+d)*u:=by
 by_cases h:pick b d=0
 ·obtain⟨rfl,rfl⟩:=pick_zero h
  rw [h]
  have:ss ((0:Rat)+0)=0:=by rw [show (0:Rat)+0=0 by grind]; exact ss_of_zero
  rw [this]
  grind
 ·rw [<- join_ss (x:=b+d) h]
  congr 2
  have:=ab_ne h
  grind
theorem ab_ss {b u:Rat} (u0:0 < u):ab (ss b*u)=b*b*u:=ss_ab u0
theorem Sz.ab {n:Nat} {q:Rat} (h:Sz n q):Sz n (HM.ab q):=by
 unfold HM.ab
 split
 ·exact h.neg
 ·exact h
theorem Sz.ss {n:Nat} {q:Rat} (h:Sz n q):Sz (n+n) (HM.ss q):=h.mul h.ab
theorem Sz.sg {n:Nat} {p q:Rat} (h:Sz n p):Sz n (HM.sg p q):=by
 unfold HM.sg
 split
 ·exact h.neg
 ·exact h
theorem Sz.zero:Sz 1 0:=⟨by show(0:Int).natAbs < 2 ^ 1; decide,by show((1:Nat):Int).natAbs < 2 ^ 1; decide⟩
theorem Sz.pick {n:Nat} {b d:Rat} (hb:Sz n b) (hd:Sz n d):Sz n (HM.pick b d):=by
 unfold HM.pick
 split
 ·exact hd
 ·exact hb
theorem Sz.div' {m n:Nat} {a b:Rat} (ha:Sz m a) (hb:Sz n b):Sz (m+n+1) (a / b):=by
 by_cases h:b=0
 ·subst h
  rw [show a / 0=0 by grind]
  exact Sz.zero.mono (by omega)
 ·exact(ha.div hb h).mono (by omega)
theorem sgI_num (q:Rat):(if q.num=0 then(0:Int) else if q.num > 0 then 1 else -1)=sgR q:=by
 rcases tri q with h | h | h
 ·have:=num_nn (Rat.le_of_lt h)
  have n0:q.num≠0:=num_ne (by grind)
  rw [if_neg n0,if_pos (by omega),sgR_pos h]
 ·have:=(num_neg_iff q).mpr h
  rw [if_neg (by omega),if_neg (by omega),sgR_neg h]
 ·subst h; decide
theorem sgR_ss {b u:Rat} (u0:0 < u):sgR (ss b*u)=sgR b:=by
 rcases tri b with h | h | h
 ·have:=Rat.mul_pos (Rat.mul_pos h (ab_pos (show b≠0 by grind))) u0
  unfold ss
  rw [sgR_pos h,sgR_pos this]
 ·rw [sgR_neg h,sgR_neg ((ss_neg u0).mpr h)]
 ·subst h
  rw [ss_of_zero,show(0:Rat)*u=0 by grind]
theorem num_pos_iff (q:Rat):q.num > 0↔0 < q:=by
 constructor
 ·intro h
  rcases tri q with h1 | h1 | h1
  ·exact h1
  ·have:=(num_neg_iff q).mpr h1; omega
  ·subst h1; exact absurd h (by decide)
 ·intro h
  have:=num_nn (Rat.le_of_lt h)
  have n0:q.num≠0:=num_ne (by grind)
  omega
end HM
namespace L2
open PySem PySem.Spec PyProof.Rows
theorem compTurn_if0 (elt target iter:Expr) (scope:Scope) (pos:Pos) (it acc:Value) (env:Env):
  compTurn (.ListComp elt [⟨target,iter,[],0⟩] scope pos) 0 it acc env=(standAt iter.pos >>= fun _=>pyNext it >>= fun r=>match r with
   | none=>pure (.done .next)
   | some v=>letOwnedTupleGo target it v >>= fun _=>assign target env v >>= fun _=>
    (eval elt env >>= fun x=>call (.builtin "list.append") [acc,x] >>= fun _=>pure ()) >>= fun _=>
     again (.compLoop (.ListComp elt [⟨target,iter,[],0⟩] scope pos) 0 it acc env)):=by rfl
section
variable {prog:Program} {w:World} {A:Around} {R:Result->Shared->Prop} {s:Shared}
abbrev NoE:Value->Shared->Prop:=fun _ _=>False
theorem noE {α:Type} {M:Model} {A:Around} {t:Sem α} {Q:α->Shared->Prop} {E:Value->Shared->Prop} {s:Shared} (h:wpAny M A t Q NoE s):wpAny M A t Q E s:=wpAny_mono h (fun _ _ q=>q) fun _ _ z=>z.elim
theorem compLoop_if0 {elt target iter:Expr} {scope:Scope} {pos:Pos} {it acc:Value} {env:Env} (I:Nat->Shared->Prop)
  (turn:∀ n s,I n s->wpAny (model prog w) A (pyNext it) (fun r s1=>match r with
   | none=>R (.ok .next) s1
   | some v=>wpAny (model prog w) A (letOwnedTupleGo target it v) (fun _ s2=>wpAny (model prog w) A (assign target env v) (fun _ s3=>wpAny (model prog w) A (eval elt env) (fun x s4=>
     wpAny (model prog w) A (call (.builtin "list.append") [acc,x]) (fun _ s5=>∃ m,m < n/\I m s5) NoE s4) NoE s3) NoE s2) NoE s1) NoE s)
  (n:Nat) (h:I n s):codeAny (model prog w) A (.compLoop (.ListComp elt [⟨target,iter,[],0⟩] scope pos) 0 it acc env) R s:=by
 refine codeAny_loop rfl I (fun n s hI=>?_) n h
 show wpAny _ _ ((compTurn (.ListComp elt [⟨target,iter,[],0⟩] scope pos) 0 it acc env).onRaise (fun x=>do noteFrame x env; theTreesLotGoes x)) _ _ s
 refine wpAny_noted ?_
 rw [compTurn_if0]
 refine wpAny_bind (wpAny_standAt (wpAny_bind (noE (wpAny_mono (turn n s hI) (fun r s1 h1=>?_) fun _ _ z=>z))))
 cases r with
 | none=>exact wpAny_pure h1
 | some v=>
  exact wpAny_bind (noE (thn h1 fun _ s2 h2=>wpAny_bind (noE (thn h2 fun _ s3 h3=>wpAny_bind (wpAny_bind (noE (thn h3 fun x s4 h4=>wpAny_bind (noE (thn h4 fun _ s5 h5=>wpAny_pure (wpAny_pure ⟨rfl,h5⟩))))))))))
theorem wpAny_forIn_one {M:Model} {A:Around} {E:Value->Shared->Prop} {c:Expr} {env:Env} {Q:Bool->Shared->Prop} {s:Shared} (h:wpAny M A (PySem.isTrue c env (eval c env)) Q E s):
  wpAny M A (forIn [c] true fun c r=>if r=true then do let ok <- PySem.isTrue c env (eval c env); pure (ForInStep.yield ok) else pure (ForInStep.yield r)) Q E s:=by
 rw [List.forIn_cons]
 refine wpAny_bind ?_
 rw [if_pos rfl]
 refine wpAny_bind (thn h fun ok s1 q=>wpAny_pure ?_)
 show wpAny M A (forIn [] ok _) Q E s1
 rw [List.forIn_nil]
 exact wpAny_pure q
theorem compLoop_if1 {elt target iter c:Expr} {scope:Scope} {pos:Pos} {it acc:Value} {env:Env} (I:Nat->Shared->Prop)
  (turn:∀ n s,I n s->wpAny (model prog w) A (pyNext it) (fun r s1=>match r with
   | none=>R (.ok .next) s1
   | some v=>wpAny (model prog w) A (letOwnedTupleGo target it v) (fun _ s2=>wpAny (model prog w) A (assign target env v) (fun _ s3=>wpAny (model prog w) A (isTrue c env (eval c env)) (fun b s3'=>
     if b=true then wpAny (model prog w) A (eval elt env) (fun x s4=>wpAny (model prog w) A (call (.builtin "list.append") [acc,x]) (fun _ s5=>∃ m,m < n/\I m s5) NoE s4) NoE s3'
     else ∃ m,m < n/\I m s3') NoE s3) NoE s2) NoE s1) NoE s)
  (n:Nat) (h:I n s):codeAny (model prog w) A (.compLoop (.ListComp elt [⟨target,iter,[c],0⟩] scope pos) 0 it acc env) R s:=by
 refine codeAny_loop rfl I (fun n s hI=>?_) n h
 show wpAny _ _ ((compTurn (.ListComp elt [⟨target,iter,[c],0⟩] scope pos) 0 it acc env).onRaise (fun x=>do noteFrame x env; theTreesLotGoes x)) _ _ s
 refine wpAny_noted ?_
 rw [compTurn_list]
 refine wpAny_bind (wpAny_standAt (wpAny_bind (noE (wpAny_mono (turn n s hI) (fun r s1 h1=>?_) fun _ _ z=>z))))
 cases r with
 | none=>exact wpAny_pure h1
 | some v=>
  refine wpAny_bind (noE (thn h1 fun _ s2 h2=>wpAny_bind (noE (thn h2 fun _ s3 h3=>wpAny_bind (wpAny_forIn_one (noE (thn h3 fun b s3' h3'=>?_)))))))
  cases b with
  | true=>
   rw [if_pos rfl] at h3' ⊢
   exact wpAny_bind (wpAny_bind (noE (thn h3' fun x s4 h4=>wpAny_bind (noE (thn h4 fun _ s5 h5=>wpAny_pure (wpAny_pure ⟨rfl,h5⟩))))))
  | false=>
   rw [if_neg Bool.false_ne_true] at h3' ⊢
   exact wpAny_pure ⟨rfl,h3'⟩
end
def cxC (X:Cx) (scope:Scope) (cl:List (Str×Addr)) (N:List Str) (s0:Shared) (H0:Hp) (ex:List Addr) (C:Addr):Cx where
 prog:=X.prog
 w:=X.w
 K:=X.K
 mg:=X.mg
 base:=X.base
 A:=X.A
 N:=N
 s₀:=s0
 H₀:=H0
 env:=compEnvC scope cl C X.env
 outer:=X.stack
 stack:=X.stack
 ex:=ex
 fn:=fun _=>false
 calm:=X.calm
 pn:=[]
 xe:=NoE
structure CompSc (X:Cx) (scope:Scope) (cl:List (Str×Addr)) (N:List Str) (cap:List (Option Nat)):Prop where
 kind:scope.kind=.function
 clos:closureFor scope X.env=pure cl
 nocell:(scope.names.all fun y=>y.2 != NameKind.cell)=true
 names:(scope.names.all fun y=>y.2 != NameKind.local || scope.names.lookup y.1 == some NameKind.local)=true
 sub:∀ p∈cl,X.env.cells.lookup p.1=some p.2
 has:((relabel scope X.env).names.all fun y=>(y.2 != NameKind.cell && y.2 != NameKind.free) || (cl.lookup y.1).isSome)=true
 len:cap.length=N.length
 caps:∀ (i j:Nat) (x:Str),cap[i]?=some (some j)->N[i]?=some x->X.N[j]?=some x/\(X.env.scope.names.lookup x=some .cell\/X.env.scope.names.lookup x=some .free)/\((relabel scope X.env).names.lookup x=some .cell\/(relabel scope X.env).names.lookup x=some .free)
def capSt (cap:List (Option Nat)) (σ:St):St:=cap.map fun o=>match o with
 | some j=>(σ[j]?).join
 | none=>none
theorem capSt_get {cap:List (Option Nat)} {σ:St} {i:Nat} {v:V} (h:(capSt cap σ)[i]?=some (some v)):∃ j,cap[i]?=some (some j)/\σ[j]?=some (some v):=by
 unfold capSt at h
 rw [List.getElem?_map] at h
 cases e:cap[i]? with
 | none=>rw [e] at h; cases h
 | some o=>
  rw [e] at h
  cases o with
  | none=>cases h
  | some j=>
   refine⟨j,rfl,?_⟩
   have h:(σ[j]?).join=some v:=Option.some.inj h
   cases e2:σ[j]? with
   | none=>rw [e2] at h; cases h
   | some q=>rw [e2] at h; exact congrArg some h
theorem lookup_sub {X:Cx} {cl:List (Str×Addr)} (h:∀ p∈cl,X.env.cells.lookup p.1=some p.2) {x:Str} {c:Addr} (e:cl.lookup x=some c):X.env.cells.lookup x=some c:=h (x,c) (PySem.mem_of_lookup e)
theorem inv_comp {X:Cx} {scope:Scope} {cl:List (Str×Addr)} {N:List Str} {cap:List (Option Nat)} (Sc:CompSc X scope cl N cap) {pins:List (Addr×Obj)} {σ:St} {H:Hp} {s:Shared} {fp:List Addr} (I:Inv X pins σ H s)
  (hf:∀ b∈fp,FpOk X pins H b) (ho:∀ b∈fp,∃ o,s.heap.get? b=some o) {h1 h1':Heap} {m:Str->Option Value} {tk:Nat} {ob:Obj}
  (hD:s.heap.push {cls:=.type "list",data:=.seq ([]:List Value).toArray}=h1') (hns:h1.Ns h1'.objs.size m) (hsb:Heap.SameBut h1'.objs.size (h1'.push ob) h1):
  Inv (cxC X scope cl N {s with heap:=h1'} (upd H s.heap.objs.size (.lst [])) fp h1'.objs.size) [] (capSt cap σ) (upd H s.heap.objs.size (.lst [])) {s with heap:=h1,toks:=tk}/\
   Un (frs X.stack) fp H (upd H s.heap.objs.size (.lst [])) s.heap h1':=by
 have hC:h1'.objs.size=s.heap.objs.size+1:=by rw [<- hD,Heap.size_push]
 have k1:∀ b o,s.heap.get? b=some o->h1'.get? b=some o:=fun b o e=>by rw [<- hD]; exact Heap.get?_push_of_some _ e
 have k2:∀ b o,h1'.get? b=some o->h1.get? b=some o:=fun b o e=>(hsb.2 b (Nat.ne_of_lt (Heap.lt_size e))).trans (Heap.get?_push_of_some _ e)
 have hHn:H s.heap.objs.size=none:=I.hok.fresh (Nat.le_refl _)
 have neD:∀ b o,s.heap.get? b=some o->b≠s.heap.objs.size:=fun b o e=>Nat.ne_of_lt (Heap.lt_size e)
 have un1:Un (frs X.stack) fp H (upd H s.heap.objs.size (.lst [])) s.heap h1':=Un.laid k1 (Nat.le_refl _) hHn
 have new:ObjOk X.prog X.w (upd H s.heap.objs.size (.lst [])) h1' s.heap.objs.size (.lst []):=⟨Nat.zero_le _,[],0,.nil,by rw [<- hD]; exact Heap.get?_push_size _ rfl⟩
 have hok1:HOk X.prog X.w (upd H s.heap.objs.size (.lst [])) h1':=I.hok.laid k1 (Nat.le_refl _) new
 have fsub:∀ b∈fp,b∉frs X.stack:=fun b hb z=>by
  obtain⟨_,f1,f2,_⟩:=hf b hb
  rcases List.mem_cons.mp (I.stkSub b z) with e | e
  ·exact f1 e
  ·exact f2 e
 have cellK:∀ x c,cl.lookup x=some c->∃ v,s.heap.IsCell c v:=fun x c e=>I.cell x c (lookup_sub Sc.sub e)
 refine⟨⟨⟨I.ok.mod,?_,I.ok.glob,I.ok.blt,Nat.le_refl _,fun x y c e1 e2=>I.ok.inj x y c (lookup_sub Sc.sub e1) (lookup_sub Sc.sub e2),fun x hx=>?_,fun x c z=>(by cases z),I.ok.hd,I.ok.frames,.inl rfl,fun b hb=>⟨?_,fun x c e=>?_⟩,fun b o e=>⟨?_,?_⟩,?_,fun b o e hb=>?_,fsub,?_,fun b hb=>?_⟩,
  rfl,I.bare,Un.kept k2,⟨m,hns,fun i x v e1 e2 e3=>?_⟩,fun x c e=>?_,?_,fun x c e=>?_,fun p hp=>absurd hp (by simp [cxC]),hok1.kept k2,?_⟩,un1⟩
 ·exact Sc.kind
 ·have hx:(relabel scope X.env).names.lookup x=some .cell\/(relabel scope X.env).names.lookup x=some .free:=hx
  have ha:=List.all_eq_true.mp Sc.has
  show ∃ c,cl.lookup x=some c
  rcases hx with hx | hx
  ·have:=ha _ (PySem.mem_of_lookup hx)
   exact Option.isSome_iff_exists.mp (by simpa using this)
  ·have:=ha _ (PySem.mem_of_lookup hx)
   exact Option.isSome_iff_exists.mp (by simpa using this)
 ·obtain⟨o,e⟩:=ho b hb
  have:=Heap.lt_size e
  show b≠h1'.objs.size
  rw [hC]
  exact Nat.ne_of_lt (Nat.lt_succ_of_lt this)
 ·exact(hf b hb).2.2.2.2.1 x c (lookup_sub Sc.sub e)
 ·exact k1 b o (I.bk b o e)
 ·show upd H s.heap.objs.size (.lst []) b=none
  rw [upd_ne (neD b o (I.bk b o e))]
  exact(I.bs b o e).2
 ·show X.base.objs.size<=h1'.objs.size
  rw [hC]
  exact Nat.le_succ_of_le (Nat.le_trans I.ok.bsz I.sz)
 ·obtain⟨_,_,_,f3,_⟩:=hf b hb
  rcases f3 with f3 | f3
  ·exact I.ok.noex b o e f3
  ·have q1:=Heap.lt_size e
   have q2:=I.ok.bsz
   exact absurd (Nat.lt_of_lt_of_le q1 (Nat.le_trans q2 f3)) (Nat.lt_irrefl _)
 ·exact I.stack.of_keeps fun b o e _=>⟨o,k1 b o e,rfl⟩
 ·show upd H s.heap.objs.size (.lst []) b=none
  obtain⟨_,o,e,_⟩:=I.stack.mem hb
  rw [upd_ne (neD b o e)]
  exact I.stkFree b hb
 ·obtain⟨j,c1,c2⟩:=capSt_get e2
  obtain⟨d1,d2,d3⟩:=Sc.caps i j x c1 e1
  obtain⟨m0,_,l0⟩:=I.loc
  obtain⟨u,ru,lk⟩:=l0 j x v d1 c2 (d2.elim (fun z=>.inr (.inl z)) fun z=>.inr (.inr z))
  refine⟨u,ru,.inr ⟨d3,?_⟩⟩
  rcases lk with ⟨z,_⟩ | ⟨_,c,z1,z2⟩
  ·have z:X.env.scope.names.lookup x=some .local:=z
   rcases d2 with q | q <;> (rw [q] at z; cases z)
  ·have ha:=List.all_eq_true.mp Sc.has
   have hs:∃ c',cl.lookup x=some c':=by
    rcases d3 with q | q
    ·exact Option.isSome_iff_exists.mp (by simpa using ha _ (PySem.mem_of_lookup q))
    ·exact Option.isSome_iff_exists.mp (by simpa using ha _ (PySem.mem_of_lookup q))
   obtain⟨c',q⟩:=hs
   have q2:=lookup_sub Sc.sub q
   rw [z1] at q2
   cases q2
   obtain⟨o,e,d⟩:=z2
   exact⟨c,q,o,k2 _ _ (k1 _ _ e),d⟩
 ·obtain⟨v,o,e1,d⟩:=cellK x c e
  exact⟨v,o,k2 _ _ (k1 _ _ e1),d⟩
 ·show upd H s.heap.objs.size (.lst []) h1'.objs.size=none
  rw [hC,upd_ne (Nat.succ_ne_self _)]
  exact I.hok.fresh (Nat.le_succ _)
 ·obtain⟨v,o,e1,d⟩:=cellK x c e
  show upd H s.heap.objs.size (.lst []) c=none
  rw [upd_ne (neD c o e1)]
  exact I.freeC x c (lookup_sub Sc.sub e)
 ·show(capSt cap σ).length=N.length
  unfold capSt
  rw [List.length_map]
  exact Sc.len
def tComp (cap:List (Option Nat)) (wi:TI) (g:TG) (te:TE):TE:=fun σ H Q=>wi σ H fun J H1=>∀ D,H1 D=none->∃ W:Nat->Nat->St->Hp->Prop,(∃ m,W 0 m (capSt cap σ) (upd H1 D (.lst [])))/\∀ i m σ' H',W i m σ' H'->
 (J.stop i H'/\Q (.ref D) H')\/(J.go i H'/\∃ N:St->Hp->Prop,(∀ σ2 H2,N σ2 H2->∃ m',m' < m/\W (i+1) m' σ2 H2)/\∀ x H2,J.yld i H' x H2->g x σ' H2 fun σ3 H3=>te σ3 H3 fun v H4=>∃ ys,H4 D=some (.lst ys)/\ys.length < sizeLine/\N σ3 (upd H4 D (.lst (ys++[v]))))
def tCompIf (cap:List (Option Nat)) (wi:TI) (g:TG) (tc:TT) (te:TE):TE:=fun σ H Q=>wi σ H fun J H1=>∀ D,H1 D=none->∃ W:Nat->Nat->St->Hp->Prop,(∃ m,W 0 m (capSt cap σ) (upd H1 D (.lst [])))/\∀ i m σ' H',W i m σ' H'->
 (J.stop i H'/\Q (.ref D) H')\/(J.go i H'/\∃ N:St->Hp->Prop,(∀ σ2 H2,N σ2 H2->∃ m',m' < m/\W (i+1) m' σ2 H2)/\∀ x H2,J.yld i H' x H2->g x σ' H2 fun σ3 H3=>tc σ3 H3 fun b H3'=>if b=true then te σ3 H3' fun v H4=>∃ ys,H4 D=some (.lst ys)/\ys.length < sizeLine/\N σ3 (upd H4 D (.lst (ys++[v]))) else N σ3 H3')
section
variable {X:Cx} {elt tg iter c:Expr} {scope:Scope} {cl:List (Str×Addr)} {N:List Str} {cap:List (Option Nat)} {pos:Pos} {wi:TI} {g:TG} {te:TE} {tc:TT}
theorem comp_out (Sc:CompSc X scope cl N cap) {pins:List (Addr×Obj)} {σ σ3:St} {H2 H3:Hp} {s2 s4:Shared} {fp:List Addr} {h1':Heap} {C:Addr} (I2:Inv X pins σ H2 s2) (f2:∀ b∈fp,FpOk X pins H2 b) {H1:Hp}
  (un3:Un (frs X.stack) fp H2 H1 s2.heap h1') (I4:Inv (cxC X scope cl N {s2 with heap:=h1'} H1 fp C) [] σ3 H3 s4) {h':Heap} (hC:s2.heap.objs.size<=C) (sb:Heap.SameBut C s4.heap h'):Inv X pins σ H3 {s4 with heap:=h'}:=by
 have u:Un (frs X.stack) fp H2 H3 s2.heap s4.heap:=un3.trans I4.base
 have ne:∀ b o,s2.heap.get? b=some o->b≠C:=fun b o e=>Nat.ne_of_lt (Nat.lt_of_lt_of_le (Heap.lt_size e) hC)
 have u':Un (frs X.stack) fp H2 H3 s2.heap h':=⟨fun b o e n hb hx=>(sb.2 b (ne b o e)).trans (u.keep b o e n hb hx),fun b o e n hb hx=>by
   obtain⟨sl,q⟩:=u.slot b o e n hb hx
   exact⟨sl,(sb.2 b (ne b o e)).trans q⟩,u.free,fun b o e hx=>by
   obtain⟨o',q⟩:=u.there b o e hx
   exact⟨o',(sb.2 b (ne b o e)).trans q⟩,u.tups,u.frzs,u.tbls⟩
 have hok:HOk X.prog X.w H3 h':=fun b ob e=>by
  refine(I4.hok b ob e).stay (fun c w' hc q=>(sb.2 c ?_).trans q) (fun _ q=>q) fun _ _ q=>q
  rintro rfl
  have hfree:H3 c=none:=I4.free
  rcases hc with rfl | hc
  ·rw [hfree] at e; cases e
  ·rw [hfree] at hc; cases hc
 refine I2.call' (s':={s4 with heap:=h'}) (ch:=fp) I4.os u' hok I4.bare fun b hb=>?_
 obtain⟨_,f1,_,f3,f4,f5⟩:=f2 b hb
 exact⟨f3,f1,f4,f5⟩
theorem comp_fp {s0:Shared} {H0:Hp} {C:Addr} {fp:List Addr} {σ:St} {H:Hp} {s:Shared} (I:Inv (cxC X scope cl N s0 H0 fp C) [] σ H s) (hn:∀ b∈fp,H b=none):∀ b∈fp,FpOk (cxC X scope cl N s0 H0 fp C) [] H b:=fun b hb=>
 ⟨hn b hb,(I.ok.exf b hb).1,I.ok.exfs b hb,.inl hb,(I.ok.exf b hb).2,fun p hp=>absurd hp (by simp [cxC])⟩
theorem pe_comp (hc:X.calm=true) (Sc:CompSc X scope cl N cap) (hi:PI X tg iter wi) (hg:∀ s0 H0 ex C,PG (cxC X scope cl N s0 H0 ex C) tg g) (he:∀ s0 H0 ex C,PE (cxC X scope cl N s0 H0 ex C) elt te)
  (hs:∀ x,foldedSetIterable iter X.env x=pure x:=by intro _; rfl):PE X (.ListComp elt [⟨tg,iter,[],0⟩] scope pos) (tComp cap wi g te):=by
 intro pins s σ H Q I h
 rw [eval_ListComp]
 have hcell:∀ y∈scope.names,y.2≠.cell:=fun y hy=>by simpa using List.all_eq_true.mp Sc.nocell y hy
 have hnames:∀ y∈scope.names,y.2=.local->scope.names.lookup y.1=some .local:=fun y hy e=>by
  have:=List.all_eq_true.mp Sc.names y hy
  rw [e] at this
  simpa using this
 refine wpAny_comprehension_free (use:=none) rfl hs Sc.clos Sc.kind hnames (thn (hi pins s σ H _ I h) fun v s1 h1=>thn h1 fun itv s2 h2=>?_)
 obtain⟨it,fp,tn,J,H2,e,I2,T,st2,f2,hW⟩:=h2
 subst e
 refine wpAny_newObj_type (wpAny_newFunctionEnv hcell (by intro y hy; simp at hy) (fun h1 hns hsb=>?_) Sc.kind)
 obtain⟨W,⟨m0,w0⟩,turn⟩:=hW s2.heap.objs.size I2.fresh
 dsimp only at hns hsb ⊢
 generalize hD:s2.heap.push {cls:=.type "list",dict:=none,data:=.seq ([]:List Value).toArray}=h1' at hns hsb ⊢
 obtain⟨I3,un3⟩:=inv_comp (tk:=s2.toks+([]:List (Str×Value)).length) Sc I2 f2 (fun b hb=>let ⟨o,e,_⟩:=T.obj 0 _ st2 b hb; ⟨o,e⟩) hD hns hsb
 have hC:s2.heap.objs.size<=h1'.objs.size:=by rw [<- hD,Heap.size_push]; exact Nat.le_succ _
 have k1:∀ b o,s2.heap.get? b=some o->h1.get? b=some o:=fun b o e=>by
  have e1:h1'.get? b=some o:=by rw [<- hD]; exact Heap.get?_push_of_some _ e
  exact(hsb.2 b (Nat.ne_of_lt (Heap.lt_size e1))).trans (Heap.get?_push_of_some _ e1)
 have st3:tn 0 h1:=T.keep 0 _ _ st2 fun b _ o e=>k1 b o e
 have fr3:∀ b∈fp,(upd H2 s2.heap.objs.size (.lst [])) b=none:=fun b hb=>by
  obtain⟨o,e,_⟩:=T.obj 0 _ st2 b hb
  rw [upd_ne (Nat.ne_of_lt (Heap.lt_size e))]
  exact(f2 b hb).1
 have loop:∀ s3:Shared,s3={s2 with heap:=h1,toks:=s2.toks+([]:List (Str×Value)).length}->
   codeAny (model X.prog X.w) X.A (.compLoop (.ListComp elt [⟨tg,iter,[],0⟩] scope pos) 0 (.ref it) (.ref s2.heap.objs.size) (compEnvC scope cl h1'.objs.size X.env))
    (compPost (model X.prog X.w) X.A X.xe none (EP X pins σ Q) (.ref s2.heap.objs.size) h1'.objs.size) s3:=by
  rintro s3 rfl
  refine compLoop_if0 (fun n s'=>∃ i σ' H',Inv (cxC X scope cl N {s2 with heap:=h1'} (upd H2 s2.heap.objs.size (.lst [])) fp h1'.objs.size) [] σ' H' s'/\tn i s'.heap/\(∀ b∈fp,H' b=none)/\W i n σ' H') ?_ m0 ⟨0,_,_,I3,st3,fr3,w0⟩
  rintro n s3 ⟨i,σ3,H3,I3,st3,fr3,w3⟩
  rcases turn i n σ3 H3 w3 with ⟨stop,qn⟩ | ⟨go,Nn,hN,step⟩
  ·refine thn (T.done (cxC X scope cl N {s2 with heap:=h1'} (upd H2 s2.heap.objs.size (.lst [])) fp h1'.objs.size) rfl rfl rfl hc i [] s3 σ3 H3 NoE I3 (comp_fp I3 fr3) st3 stop) fun r s4 ⟨hr,I4⟩=>?_
   subst hr
   obtain⟨m,hm,_⟩:=I4.loc
   exact⟨m,hm,fun h' sb=>⟨.ref _,H3,comp_out Sc I2 f2 un3 I4 hC sb,rfl,qn⟩⟩
  ·refine thn (T.item (cxC X scope cl N {s2 with heap:=h1'} (upd H2 s2.heap.objs.size (.lst [])) fp h1'.objs.size) rfl rfl rfl hc i [] s3 σ3 H3 NoE I3 (comp_fp I3 fr3) st3 go) fun r s4 ⟨u,hr,h4⟩=>?_
   subst hr
   refine thn h4 fun _ s5 ⟨x,H5,I5,r5,y5,st5,fr5⟩=>?_
   have I5':=I5.pinned (comp_fp I5 fr5) (T.obj _ _ st5)
   refine thn (hg _ _ _ _ _ s5 σ3 H5 x u _ I5' r5 (step x H5 y5)) fun _ s6 ⟨σ6,H6,I6,q6⟩=>?_
   refine thn (he _ _ _ _ _ s6 σ6 H6 _ I6 q6) fun uv s7 ⟨v,H7,I7,r7,ys,hy,hl,q7⟩=>?_
   refine thn (mt_append (X:=cxC X scope cl N {s2 with heap:=h1'} (upd H2 s2.heap.objs.size (.lst [])) fp h1'.objs.size) _ s7 σ6 H7 (.ref s2.heap.objs.size) [v] (.ref s2.heap.objs.size) [uv] (fun _ H8=>Nn σ6 H8) I7 rfl (.cons r7 .nil) ⟨_,ys,v,rfl,rfl,hy,hl,q7⟩) fun _ s8 ⟨_,H8,I8,_,n8⟩=>?_
   obtain⟨m',hm,w8⟩:=hN σ6 H8 n8
   refine⟨m',hm,i+1,σ6,H8,I8.unpinned,T.keep _ _ _ st5 fun b hb o e=>(I8.pin (b,o) (List.mem_append_right _ (List.mem_append_right _ (mem_pinsAt hb e)))).1,fun b hb=>?_,w8⟩
   obtain⟨o,e,d⟩:=T.obj _ _ st5 b hb
   exact(I8.pin (b,o) (List.mem_append_right _ (List.mem_append_right _ (mem_pinsAt hb e)))).2.1
 exact codeAny_compStart_list (loop _ rfl) (T.self _ 0 _ _ _ st3 (loop _ rfl))
theorem pe_compIf (hc:X.calm=true) (Sc:CompSc X scope cl N cap) (hi:PI X tg iter wi) (hg:∀ s0 H0 ex C,PG (cxC X scope cl N s0 H0 ex C) tg g) (hcnd:∀ s0 H0 ex C,PT (cxC X scope cl N s0 H0 ex C) c tc) (he:∀ s0 H0 ex C,PE (cxC X scope cl N s0 H0 ex C) elt te)
  (hs:∀ x,foldedSetIterable iter X.env x=pure x:=by intro _; rfl):PE X (.ListComp elt [⟨tg,iter,[c],0⟩] scope pos) (tCompIf cap wi g tc te):=by
 intro pins s σ H Q I h
 rw [eval_ListComp]
 have hcell:∀ y∈scope.names,y.2≠.cell:=fun y hy=>by simpa using List.all_eq_true.mp Sc.nocell y hy
 have hnames:∀ y∈scope.names,y.2=.local->scope.names.lookup y.1=some .local:=fun y hy e=>by
  have:=List.all_eq_true.mp Sc.names y hy
  rw [e] at this
  simpa using this
 refine wpAny_comprehension_free (use:=none) rfl hs Sc.clos Sc.kind hnames (thn (hi pins s σ H _ I h) fun v s1 h1=>thn h1 fun itv s2 h2=>?_)
 obtain⟨it,fp,tn,J,H2,e,I2,T,st2,f2,hW⟩:=h2
 subst e
 refine wpAny_newObj_type (wpAny_newFunctionEnv hcell (by intro y hy; simp at hy) (fun h1 hns hsb=>?_) Sc.kind)
 obtain⟨W,⟨m0,w0⟩,turn⟩:=hW s2.heap.objs.size I2.fresh
 dsimp only at hns hsb ⊢
 generalize hD:s2.heap.push {cls:=.type "list",dict:=none,data:=.seq ([]:List Value).toArray}=h1' at hns hsb ⊢
 obtain⟨I3,un3⟩:=inv_comp (tk:=s2.toks+([]:List (Str×Value)).length) Sc I2 f2 (fun b hb=>let ⟨o,e,_⟩:=T.obj 0 _ st2 b hb; ⟨o,e⟩) hD hns hsb
 have hC:s2.heap.objs.size<=h1'.objs.size:=by rw [<- hD,Heap.size_push]; exact Nat.le_succ _
 have k1:∀ b o,s2.heap.get? b=some o->h1.get? b=some o:=fun b o e=>by
  have e1:h1'.get? b=some o:=by rw [<- hD]; exact Heap.get?_push_of_some _ e
  exact(hsb.2 b (Nat.ne_of_lt (Heap.lt_size e1))).trans (Heap.get?_push_of_some _ e1)
 have st3:tn 0 h1:=T.keep 0 _ _ st2 fun b _ o e=>k1 b o e
 have fr3:∀ b∈fp,(upd H2 s2.heap.objs.size (.lst [])) b=none:=fun b hb=>by
  obtain⟨o,e,_⟩:=T.obj 0 _ st2 b hb
  rw [upd_ne (Nat.ne_of_lt (Heap.lt_size e))]
  exact(f2 b hb).1
 have loop:∀ s3:Shared,s3={s2 with heap:=h1,toks:=s2.toks+([]:List (Str×Value)).length}->
   codeAny (model X.prog X.w) X.A (.compLoop (.ListComp elt [⟨tg,iter,[c],0⟩] scope pos) 0 (.ref it) (.ref s2.heap.objs.size) (compEnvC scope cl h1'.objs.size X.env))
    (compPost (model X.prog X.w) X.A X.xe none (EP X pins σ Q) (.ref s2.heap.objs.size) h1'.objs.size) s3:=by
  rintro s3 rfl
  refine compLoop_if1 (fun n s'=>∃ i σ' H',Inv (cxC X scope cl N {s2 with heap:=h1'} (upd H2 s2.heap.objs.size (.lst [])) fp h1'.objs.size) [] σ' H' s'/\tn i s'.heap/\(∀ b∈fp,H' b=none)/\W i n σ' H') ?_ m0 ⟨0,_,_,I3,st3,fr3,w0⟩
  rintro n s3 ⟨i,σ3,H3,I3,st3,fr3,w3⟩
  rcases turn i n σ3 H3 w3 with ⟨stop,qn⟩ | ⟨go,Nn,hN,step⟩
  ·refine thn (T.done (cxC X scope cl N {s2 with heap:=h1'} (upd H2 s2.heap.objs.size (.lst [])) fp h1'.objs.size) rfl rfl rfl hc i [] s3 σ3 H3 NoE I3 (comp_fp I3 fr3) st3 stop) fun r s4 ⟨hr,I4⟩=>?_
   subst hr
   obtain⟨m,hm,_⟩:=I4.loc
   exact⟨m,hm,fun h' sb=>⟨.ref _,H3,comp_out Sc I2 f2 un3 I4 hC sb,rfl,qn⟩⟩
  ·refine thn (T.item (cxC X scope cl N {s2 with heap:=h1'} (upd H2 s2.heap.objs.size (.lst [])) fp h1'.objs.size) rfl rfl rfl hc i [] s3 σ3 H3 NoE I3 (comp_fp I3 fr3) st3 go) fun r s4 ⟨u,hr,h4⟩=>?_
   subst hr
   refine thn h4 fun _ s5 ⟨x,H5,I5,r5,y5,st5,fr5⟩=>?_
   have I5':=I5.pinned (comp_fp I5 fr5) (T.obj _ _ st5)
   refine thn (hg _ _ _ _ _ s5 σ3 H5 x u _ I5' r5 (step x H5 y5)) fun _ s6 ⟨σ6,H6,I6,q6⟩=>?_
   have again:∀ {s8:Shared} {H8:Hp},Inv (cxC X scope cl N {s2 with heap:=h1'} (upd H2 s2.heap.objs.size (.lst [])) fp h1'.objs.size) ([]++pinsAt fp s5.heap) σ6 H8 s8->Nn σ6 H8->
     ∃ m,m < n/\∃ i σ' H',Inv (cxC X scope cl N {s2 with heap:=h1'} (upd H2 s2.heap.objs.size (.lst [])) fp h1'.objs.size) [] σ' H' s8/\tn i s8.heap/\(∀ b∈fp,H' b=none)/\W i m σ' H':=fun {s8 H8} I8 n8=>by
    obtain⟨m',hm,w8⟩:=hN σ6 H8 n8
    refine⟨m',hm,i+1,σ6,H8,I8.unpinned,T.keep _ _ _ st5 fun b hb o e=>(I8.pin (b,o) (List.mem_append_right _ (List.mem_append_right _ (mem_pinsAt hb e)))).1,fun b hb=>?_,w8⟩
    obtain⟨o,e,d⟩:=T.obj _ _ st5 b hb
    exact(I8.pin (b,o) (List.mem_append_right _ (List.mem_append_right _ (mem_pinsAt hb e)))).2.1
   refine thn (hcnd _ _ _ _ _ s6 σ6 H6 _ I6 q6) fun b s6' ⟨H6',I6',q6'⟩=>?_
   cases b with
   | true=>
    rw [if_pos rfl] at q6' ⊢
    refine thn (he _ _ _ _ _ s6' σ6 H6' _ I6' q6') fun uv s7 ⟨v,H7,I7,r7,ys,hy,hl,q7⟩=>?_
    refine thn (mt_append (X:=cxC X scope cl N {s2 with heap:=h1'} (upd H2 s2.heap.objs.size (.lst [])) fp h1'.objs.size) _ s7 σ6 H7 (.ref s2.heap.objs.size) [v] (.ref s2.heap.objs.size) [uv] (fun _ H8=>Nn σ6 H8) I7 rfl (.cons r7 .nil) ⟨_,ys,v,rfl,rfl,hy,hl,q7⟩) fun _ s8 ⟨_,H8,I8,_,n8⟩=>?_
    exact again I8 n8
   | false=>
    rw [if_neg Bool.false_ne_true] at q6' ⊢
    exact again I6' q6'
 exact codeAny_compStart_list (loop _ rfl) (T.self _ 0 _ _ _ st3 (loop _ rfl))
end
end L2
namespace DL
open PySem PySem.Spec PyProof.Rows L2
abbrev Fg:=PySem.W.Frag
inductive Ty where
 | non | bool | int | str | tup | lst | dic | verr
def Ty.name:Ty->String
 | .non=>"NoneType" | .bool=>"bool" | .int=>"int" | .str=>"str" | .tup=>"tuple" | .lst=>"list" | .dic=>"dict" | .verr=>"ValueError"
inductive D where
 | non | bl (b:Bool) | int (i:Int) | str (x:Str) | tup (ds:List D) | rl (ds:List D) | ref (a:Addr) | ty (n:Ty)
def SqF (K:Fg) (H:Hp) (a:Addr) (xs:List V):Prop:=
 (∃ o,H a=some (.frz o (.lst xs)))\/∃ (o:Obj) (its:Array Value) (n:Nat),K.lookup a=some o/\o.cls=.type "list"/\o.dict=none/\o.data=.seq its n/\its.size<=sizeLine/\Vals xs its.toList
theorem SqF.sq {K:Fg} {H:Hp} {a:Addr} {xs:List V} (h:SqF K H a xs):SqL K H a xs:=by
 rcases h with h | h
 ·exact .inl (.inr h)
 ·exact .inr h
mutual
def IsD (K:Fg) (H:Hp):D->V->Prop
 | .non,v=>v=.non
 | .bl b,v=>v=.bl b
 | .int i,v=>v=.int i
 | .str x,v=>v=.str x
 | .tup ds,v=>∃ a xs,v=.ref a/\SqT K H a xs/\IsDs K H ds xs
 | .rl ds,v=>∃ a xs,v=.ref a/\SqF K H a xs/\IsDs K H ds xs
 | .ref a,v=>v=.ref a
 | .ty n,v=>v=.ty n.name
def IsDs (K:Fg) (H:Hp):List D->List V->Prop
 | [],vs=>vs=[]
 | d::ds,vs=>∃ v r,vs=v::r/\IsD K H d v/\IsDs K H ds r
end
def Imm:HO->Prop
 | .tup _=>True
 | .frz _ _=>True
 | _=>False
def Kp (H H':Hp):Prop:=∀ a o,H a=some o->Imm o->H' a=some o
theorem Kp.refl (H:Hp):Kp H H:=fun _ _ h _=>h
theorem Kp.trans {H H1 H2:Hp} (a:Kp H H1) (b:Kp H1 H2):Kp H H2:=fun c o h i=>b c o (a c o h i) i
theorem Kp.tup {K:Fg} {H H':Hp} {a:Addr} {xs:List V} (k:Kp H H') (h:SqT K H a xs):SqT K H' a xs:=by
 rcases h with (h | ⟨o,h⟩) | h
 ·exact .inl (.inl (k _ _ h trivial))
 ·exact .inl (.inr ⟨o,k _ _ h trivial⟩)
 ·exact .inr h
theorem Kp.fro {K:Fg} {H H':Hp} {a:Addr} {xs:List V} (k:Kp H H') (h:SqF K H a xs):SqF K H' a xs:=by
 rcases h with ⟨o,h⟩ | h
 ·exact .inl ⟨o,k _ _ h trivial⟩
 ·exact .inr h
theorem Kp.new {H:Hp} {p:Addr} {o:HO} (h:H p=none):Kp H (upd H p o):=fun b u e _=>by rw [upd_ne (ne_of_none e h)]; exact e
theorem Kp.mut {H:Hp} {p:Addr} {o u:HO} (h:H p=some u) (n:¬ Imm u):Kp H (upd H p o):=fun b z e i=>by
 rw [upd_ne (fun q=>by subst q; rw [h] at e; cases e; exact n i)]; exact e
mutual
theorem IsD.kp {K:Fg} {H H':Hp} (k:Kp H H'):∀ {d:D} {v:V},IsD K H d v->IsD K H' d v
 | .non,_,h=>by unfold IsD at *; exact h
 | .bl _,_,h=>by unfold IsD at *; exact h
 | .int _,_,h=>by unfold IsD at *; exact h
 | .str _,_,h=>by unfold IsD at *; exact h
 | .ref _,_,h=>by unfold IsD at *; exact h
 | .ty _,_,h=>by unfold IsD at *; exact h
 | .tup ds,_,h=>by
  unfold IsD at*
  obtain⟨a,xs,e,t,r⟩:=h
  exact⟨a,xs,e,k.tup t,IsDs.kp k r⟩
 | .rl ds,_,h=>by
  unfold IsD at*
  obtain⟨a,xs,e,t,r⟩:=h
  exact⟨a,xs,e,k.fro t,IsDs.kp k r⟩
theorem IsDs.kp {K:Fg} {H H':Hp} (k:Kp H H'):∀ {ds:List D} {vs:List V},IsDs K H ds vs->IsDs K H' ds vs
 | [],_,h=>by unfold IsDs at *; exact h
 | d::ds,_,h=>by
  unfold IsDs at*
  obtain⟨v,r,e,h1,h2⟩:=h
  exact⟨v,r,e,IsD.kp k h1,IsDs.kp k h2⟩
end
section
variable {K:Fg} {H:Hp}
theorem isInt {i:Int} {v:V}:IsD K H (.int i) v↔v=.int i:=by unfold IsD; exact Iff.rfl
theorem isBl {b:Bool} {v:V}:IsD K H (.bl b) v↔v=.bl b:=by unfold IsD; exact Iff.rfl
theorem isStr {b:Str} {v:V}:IsD K H (.str b) v↔v=.str b:=by unfold IsD; exact Iff.rfl
theorem isNon {v:V}:IsD K H .non v↔v=.non:=by unfold IsD; exact Iff.rfl
theorem isRef {a:Addr} {v:V}:IsD K H (.ref a) v↔v=.ref a:=by unfold IsD; exact Iff.rfl
theorem isTy {a:Ty} {v:V}:IsD K H (.ty a) v↔v=.ty a.name:=by unfold IsD; exact Iff.rfl
theorem isTup {ds:List D} {v:V}:IsD K H (.tup ds) v↔∃ a xs,v=.ref a/\SqT K H a xs/\IsDs K H ds xs:=by unfold IsD; exact Iff.rfl
theorem isRl {ds:List D} {v:V}:IsD K H (.rl ds) v↔∃ a xs,v=.ref a/\SqF K H a xs/\IsDs K H ds xs:=by unfold IsD; exact Iff.rfl
theorem isNil {vs:List V}:IsDs K H [] vs↔vs=[]:=by unfold IsDs; exact Iff.rfl
theorem isCons {d:D} {ds:List D} {vs:List V}:IsDs K H (d::ds) vs↔∃ v r,vs=v::r/\IsD K H d v/\IsDs K H ds r:=by
 constructor
 ·intro h; unfold IsDs at h; exact h
 ·intro h; unfold IsDs; exact h
theorem IsDs.nil:IsDs K H [] []:=isNil.mpr rfl
theorem IsDs.cons {d:D} {ds:List D} {v:V} {vs:List V} (h1:IsD K H d v) (h2:IsDs K H ds vs):IsDs K H (d::ds) (v::vs):=isCons.mpr ⟨v,vs,rfl,h1,h2⟩
theorem IsDs.length:∀ {ds:List D} {vs:List V},IsDs K H ds vs->ds.length=vs.length
 | [],_,h=>by rw [isNil.mp h]; rfl
 | d::ds,_,h=>by
  obtain⟨v,r,rfl,_,h2⟩:=isCons.mp h
  rw [List.length_cons,List.length_cons,IsDs.length h2]
theorem IsDs.get:∀ {ds:List D} {vs:List V} {i:Nat} {d:D},IsDs K H ds vs->ds[i]?=some d->∃ v,vs[i]?=some v/\IsD K H d v
 | [],_,_,_,_,e=>by simp at e
 | c::ds,_,0,d,h,e=>by
  obtain⟨v,r,rfl,h1,h2⟩:=isCons.mp h
  simp at e
  subst e
  exact⟨v,rfl,h1⟩
 | c::ds,_,i+1,d,h,e=>by
  obtain⟨v,r,rfl,h1,h2⟩:=isCons.mp h
  obtain⟨u,q1,q2⟩:=IsDs.get (i:=i) (d:=d) h2 (by simpa using e)
  exact⟨u,by simpa using q1,q2⟩
theorem IsDs.set:∀ {ds:List D} {vs:List V} {d:D} {v:V} (i:Nat),IsDs K H ds vs->IsD K H d v->IsDs K H (ds.set i d) (vs.set i v)
 | [],_,_,_,_,h,_=>by rw [isNil.mp h]; exact IsDs.nil
 | c::ds,_,d,v,0,h,hd=>by
  obtain⟨u,r,rfl,h1,h2⟩:=isCons.mp h
  exact IsDs.cons hd h2
 | c::ds,_,d,v,i+1,h,hd=>by
  obtain⟨u,r,rfl,h1,h2⟩:=isCons.mp h
  exact IsDs.cons h1 (IsDs.set i h2 hd)
theorem IsDs.append:∀ {ds es:List D} {vs us:List V},IsDs K H ds vs->IsDs K H es us->IsDs K H (ds++es) (vs++us)
 | [],_,_,_,h,h'=>by rw [isNil.mp h]; exact h'
 | c::ds,_,_,_,h,h'=>by
  obtain⟨u,r,rfl,h1,h2⟩:=isCons.mp h
  exact IsDs.cons h1 (IsDs.append h2 h')
theorem IsDs.drop:∀ {ds:List D} {vs:List V} (n:Nat),IsDs K H ds vs->IsDs K H (ds.drop n) (vs.drop n)
 | _,_,0,h=>h
 | [],_,n+1,h=>by rw [isNil.mp h]; exact IsDs.nil
 | c::ds,_,n+1,h=>by
  obtain⟨u,r,rfl,h1,h2⟩:=isCons.mp h
  exact IsDs.drop n h2
theorem IsDs.take:∀ {ds:List D} {vs:List V} (n:Nat),IsDs K H ds vs->IsDs K H (ds.take n) (vs.take n)
 | _,_,0,h=>by simpa using IsDs.nil
 | [],_,n+1,h=>by rw [isNil.mp h]; exact IsDs.nil
 | c::ds,_,n+1,h=>by
  obtain⟨u,r,rfl,h1,h2⟩:=isCons.mp h
  exact IsDs.cons h1 (IsDs.take n h2)
end
def hashT (ks:List Int):Int:=reduceHash (Builtin.Tuple.tupleHashOf (ks.map hashInt))
def eT (x:List Int×Addr×Value):DictEntry:=⟨hashT x.1,.ref x.2.1,x.2.2⟩
def dxO (es:Array DictEntry) (ep:Nat):Obj:={cls:=.type "dict",dict:=none,data:=.dict es ep,slots:=#[]}
def DxP (a:Addr) (xs:List (List Int×Addr×Value)) (ep:Nat):Heap->Prop:=fun h=>(a == sysModules)=false/\xs.length<=sizeLine/\(xs.map (·.1)).Nodup/\h.get? a=some (dxO (xs.map eT).toArray ep)
inductive Gen where
 | dT (kvs:List (List Int×D)) (ep:Nat)
 | dK (kvs:List (Key×D))
abbrev KtR (K:Fg) (H:Hp):List (List Int×D)->List (List Int×Addr×Value)->Prop:=Paired fun p q=>p.1=q.1/\SqT K H q.2.1 (p.1.map V.int)/\∃ v,RelV v q.2.2/\IsD K H p.2 v
def GObj (K:Fg) (H:Hp) (a:Addr):Gen->Prop
 | .dT kvs ep=>∃ xs,H a=some (.ext (DxP a xs ep))/\KtR K H kvs xs
 | .dK kvs=>∃ ys,H a=some (.dK ys)/\Paired (fun (p:Key×D) (q:Key×V)=>p.1=q.1/\IsD K H p.2 q.2) kvs ys
theorem KtR.kp {K:Fg} {H H':Hp} {kvs:List (List Int×D)} {xs:List (List Int×Addr×Value)} (r:KtR K H kvs xs) (k:Kp H H'):KtR K H' kvs xs:=
 Paired.mapP r fun _ _ ⟨a,b,v,c,d⟩=>⟨a,k.tup b,v,c,d.kp k⟩
theorem GObj.there {K:Fg} {H:Hp} {a:Addr} {g:Gen} (h:GObj K H a g):∃ o,H a=some o/\¬ Imm o:=by
 cases g with
 | dT kvs ep=>obtain⟨xs,e,_⟩:=h; exact⟨_,e,fun z=>z⟩
 | dK kvs=>obtain⟨xs,e,_⟩:=h; exact⟨_,e,fun z=>z⟩
theorem GObj.step {K:Fg} {H H':Hp} {a:Addr} {g:Gen} (h:GObj K H a g) (k:Kp H H') (s:H' a=H a):GObj K H' a g:=by
 cases g with
 | dT kvs ep=>obtain⟨xs,e,r⟩:=h; exact⟨xs,s.trans e,r.kp k⟩
 | dK kvs=>obtain⟨xs,e,r⟩:=h; exact⟨xs,s.trans e,Paired.mapP r fun _ _ z=>⟨z.1,z.2.kp k⟩⟩
inductive DO where
 | lst (ds:List D)
 | dic
 | exc (C:Addr)
 | fn (φ:Hp->Prop)
 | tbl (ψ:Hp->Array Value->Prop)
 | gen (g:Gen)
abbrev DH:=Addr->Option DO
def put (S:DH) (a:Addr) (o:DO):DH:=fun b=>if b=a then some o else S b
theorem put_same {S:DH} {a:Addr} {o:DO}:put S a o a=some o:=by unfold put; rw [if_pos rfl]
theorem put_ne {S:DH} {a b:Addr} {o:DO} (h:b≠a):put S a o b=S b:=by unfold put; rw [if_neg h]
theorem put_put {S:DH} {a:Addr} {o u:DO}:put (put S a o) a u=put S a u:=by funext b; unfold put; split <;> rfl
theorem ne_put {S:DH} {a p:Addr} {o:DO} (h:S a=some o) (h':S p=none):a≠p:=by intro e; subst e; rw [h] at h'; cases h'
def DObj (K:Fg) (H:Hp) (a:Addr):DO->Prop
 | .lst ds=>∃ xs,H a=some (.lst xs)/\IsDs K H ds xs
 | .dic=>∃ kvs,H a=some (.dK kvs)
 | .exc C=>∃ o u,H a=some (.frz o u)/\o.cls=.ref C
 | .fn φ=>(∃ o u,H a=some (.frz o u))/\∀ H',Kp H H'->φ H'
 | .tbl ψ=>∃ ps,H a=some (.tbl ps)/\∀ H',Kp H H'->ψ H' ps
 | .gen g=>GObj K H a g
def Hs (K:Fg) (H:Hp) (S:DH):Prop:=∀ a o,S a=some o->DObj K H a o
section
variable {K:Fg} {H H':Hp} {S:DH} {p:Addr}
theorem Hs.lst {ds:List D} (h:Hs K H S) (e:S p=some (.lst ds)):∃ xs,H p=some (.lst xs)/\IsDs K H ds xs:=h p _ e
theorem Hs.free (h:Hs K H S) (e:H p=none):S p=none:=by
 cases q:S p with
 | none=>rfl
 | some o=>
  have z:=h p o q
  cases o with
  | lst ds=>obtain⟨xs,z,_⟩:=z; rw [e] at z; cases z
  | dic=>obtain⟨xs,z⟩:=z; rw [e] at z; cases z
  | exc C=>obtain⟨_,_,z,_⟩:=z; rw [e] at z; cases z
  | fn φ=>obtain⟨⟨_,_,z⟩,_⟩:=z; rw [e] at z; cases z
  | tbl ψ=>obtain⟨_,z,_⟩:=z; rw [e] at z; cases z
  | gen g=>obtain⟨_,z,_⟩:=GObj.there z; rw [e] at z; cases z
theorem Hs.step (h:Hs K H S) (k:Kp H H') (s:∀ a o,S a=some o->H' a=H a):Hs K H' S:=fun a o e=>by
 have z:=h a o e
 cases o with
 | lst ds=>obtain⟨xs,z,r⟩:=z; exact⟨xs,by rw [s a _ e]; exact z,r.kp k⟩
 | dic=>obtain⟨xs,z⟩:=z; exact⟨xs,by rw [s a _ e]; exact z⟩
 | exc C=>obtain⟨x,y,z,r⟩:=z; exact⟨x,y,by rw [s a _ e]; exact z,r⟩
 | fn φ=>obtain⟨⟨x,y,z⟩,r⟩:=z; exact⟨⟨x,y,by rw [s a _ e]; exact z⟩,fun H2 k2=>r H2 (k.trans k2)⟩
 | tbl ψ=>obtain⟨ps,z,r⟩:=z; exact⟨ps,by rw [s a _ e]; exact z,fun H2 k2=>r H2 (k.trans k2)⟩
 | gen g=>exact GObj.step z k (s a _ e)
theorem Hs.new {o:HO} (h:Hs K H S) (e:H p=none):Hs K (upd H p o) S:=h.step (Kp.new e) fun a u q=>by
 rw [upd_ne]; intro z; subst z; rw [h.free e] at q; cases q
theorem Hs.newL {xs:List V} {ds:List D} (h:Hs K H S) (e:H p=none) (r:IsDs K H ds xs):Hs K (upd H p (.lst xs)) (put S p (.lst ds)):=fun a o q=>by
 by_cases z:a=p
 ·subst z
  rw [put_same] at q
  cases q
  exact⟨xs,upd_same,r.kp (Kp.new e)⟩
 ·rw [put_ne z] at q
  exact(h.new e) a o q
theorem Hs.setL {xs ys:List V} {ds:List D} (h:Hs K H S) (e:H p=some (.lst xs)) (r:IsDs K H ds ys):Hs K (upd H p (.lst ys)) (put S p (.lst ds)):=fun a o q=>by
 have k:Kp H (upd H p (.lst ys)):=Kp.mut e (fun z=>z)
 by_cases z:a=p
 ·subst z
  rw [put_same] at q
  cases q
  exact⟨ys,upd_same,r.kp k⟩
 ·rw [put_ne z] at q
  have w:=h a o q
  cases o with
  | lst ds=>obtain⟨xs,w,r⟩:=w; exact⟨xs,by rw [upd_ne z]; exact w,r.kp k⟩
  | dic=>obtain⟨xs,w⟩:=w; exact⟨xs,by rw [upd_ne z]; exact w⟩
  | exc C=>obtain⟨x,y,w,r⟩:=w; exact⟨x,y,by rw [upd_ne z]; exact w,r⟩
  | fn φ=>obtain⟨⟨x,y,w⟩,r⟩:=w; exact⟨⟨x,y,by rw [upd_ne z]; exact w⟩,fun H2 k2=>r H2 (k.trans k2)⟩
  | tbl ψ=>obtain⟨ps,w,r⟩:=w; exact⟨ps,by rw [upd_ne z]; exact w,fun H2 k2=>r H2 (k.trans k2)⟩
  | gen g=>exact GObj.step w k (upd_ne z)
end
abbrev Lo:=List (Option D)
def Lc (K:Fg) (H:Hp):Lo->L2.St->Prop
 | [],σ=>σ=[]
 | none::L,σ=>∃ x r,σ=x::r/\Lc K H L r
 | some d::L,σ=>∃ v r,σ=some v::r/\IsD K H d v/\Lc K H L r
section
variable {K:Fg} {H H':Hp}
theorem Lc.kp (k:Kp H H'):∀ {L:Lo} {σ:L2.St},Lc K H L σ->Lc K H' L σ
 | [],_,h=>h
 | none::L,_,h=>by
  obtain⟨x,r,e,h⟩:=h
  exact⟨x,r,e,Lc.kp k h⟩
 | some d::L,_,h=>by
  obtain⟨v,r,e,h1,h⟩:=h
  exact⟨v,r,e,h1.kp k,Lc.kp k h⟩
theorem Lc.get:∀ {L:Lo} {σ:L2.St} {i:Nat} {d:D},Lc K H L σ->L[i]?=some (some d)->∃ v,σ[i]?=some (some v)/\IsD K H d v
 | [],_,_,_,_,e=>by simp at e
 | none::L,_,0,_,_,e=>by simp at e
 | some c::L,_,0,d,h,e=>by
  obtain⟨v,r,rfl,h1,h⟩:=h
  simp at e
  subst e
  exact⟨v,rfl,h1⟩
 | none::L,_,i+1,d,h,e=>by
  obtain⟨x,r,rfl,h⟩:=h
  obtain⟨u,q1,q2⟩:=Lc.get (i:=i) (d:=d) h (by simpa using e)
  exact⟨u,by simpa using q1,q2⟩
 | some c::L,_,i+1,d,h,e=>by
  obtain⟨v,r,rfl,_,h⟩:=h
  obtain⟨u,q1,q2⟩:=Lc.get (i:=i) (d:=d) h (by simpa using e)
  exact⟨u,by simpa using q1,q2⟩
theorem Lc.set {d:D} {v:V} (hd:IsD K H d v):∀ {L:Lo} {σ:L2.St} (i:Nat),Lc K H L σ->Lc K H (L.set i (some d)) (σ.set i (some v))
 | [],_,_,h=>by
  have e:_=[]:=h
  subst e
  exact rfl
 | none::L,_,0,h=>by
  obtain⟨x,r,rfl,h⟩:=h
  exact⟨v,r,rfl,hd,h⟩
 | some c::L,_,0,h=>by
  obtain⟨x,r,rfl,_,h⟩:=h
  exact⟨v,r,rfl,hd,h⟩
 | none::L,_,i+1,h=>by
  obtain⟨x,r,rfl,h⟩:=h
  exact⟨x,r.set i (some v),rfl,Lc.set hd i h⟩
 | some c::L,_,i+1,h=>by
  obtain⟨x,r,rfl,h1,h⟩:=h
  exact⟨x,r.set i (some v),rfl,h1,Lc.set hd i h⟩
theorem Lc.none:∀ (n:Nat),Lc K H (List.replicate n .none) (List.replicate n .none)
 | 0=>rfl
 | n+1=>⟨_,_,rfl,Lc.none n⟩
theorem Lc.start:∀ {ds:List D} {vs:List V} (n:Nat),IsDs K H ds vs->Lc K H (ds.map some++List.replicate n .none) (vs.map some++List.replicate n .none)
 | [],_,n,h=>by rw [isNil.mp h]; exact Lc.none n
 | d::ds,_,n,h=>by
  obtain⟨v,r,rfl,h1,h2⟩:=isCons.mp h
  exact⟨v,_,rfl,h1,Lc.start n h2⟩
end
abbrev DK:=D->DH->Prop
abbrev DE:=Lo->DH->DK->Prop
abbrev DT:=Lo->DH->(Bool->DH->Prop)->Prop
abbrev DA:=Lo->DH->(List D->DH->Prop)->Prop
structure DEnds where
 nx:Lo->DH->Prop
 rt:DK
 bk:Lo->DH->Prop:=fun _ _=>False
 ct:Lo->DH->Prop:=fun _ _=>False
abbrev DS:=DEnds->Lo->DH->Prop
def up (K:Fg) (g:DE):TE:=fun σ H Q=>∃ L S k,Lc K H L σ/\Hs K H S/\g L S k/\∀ d S' v H',k d S'->Kp H H'->Hs K H' S'->IsD K H' d v->Q v H'
def upT (K:Fg) (g:DT):TT:=fun σ H Q=>∃ L S k,Lc K H L σ/\Hs K H S/\g L S k/\∀ b S' H',k b S'->Kp H H'->Hs K H' S'->Q b H'
def upA (K:Fg) (g:DA):TA:=fun σ H Q=>∃ L S k,Lc K H L σ/\Hs K H S/\g L S k/\∀ ds S' vs H',k ds S'->Kp H H'->Hs K H' S'->IsDs K H' ds vs->Q vs H'
structure Rch (K:Fg) (H:Hp) (M:DEnds) (N:Ends):Prop where
 nx:∀ L S σ H',M.nx L S->Kp H H'->Lc K H' L σ->Hs K H' S->N.nx σ H'
 rt:∀ d S v H',M.rt d S->Kp H H'->Hs K H' S->IsD K H' d v->N.rt v H'
 bk:∀ L S σ H',M.bk L S->Kp H H'->Lc K H' L σ->Hs K H' S->N.bk σ H'
 ct:∀ L S σ H',M.ct L S->Kp H H'->Lc K H' L σ->Hs K H' S->N.ct σ H'
theorem Rch.kp {K:Fg} {H H1:Hp} {M:DEnds} {N:Ends} (r:Rch K H M N) (k:Kp H H1):Rch K H1 M N:=
 ⟨fun L S σ H' h k'=>r.nx L S σ H' h (k.trans k'),fun d S v H' h k'=>r.rt d S v H' h (k.trans k'),fun L S σ H' h k'=>r.bk L S σ H' h (k.trans k'),fun L S σ H' h k'=>r.ct L S σ H' h (k.trans k')⟩
def upS (K:Fg) (g:DS):TS:=fun N σ H=>∃ L S M,Lc K H L σ/\Hs K H S/\g M L S/\Rch K H M N
theorem PE.imp {X:Cx} {e:Expr} {t t':TE} (h:PE X e t) (i:∀ σ H Q,t' σ H Q->t σ H Q):PE X e t':=fun pins s σ H Q I q=>h pins s σ H Q I (i σ H Q q)
theorem PT.imp {X:Cx} {e:Expr} {t t':TT} (h:PT X e t) (i:∀ σ H Q,t' σ H Q->t σ H Q):PT X e t':=fun pins s σ H Q I q=>h pins s σ H Q I (i σ H Q q)
theorem PW.imp {X:Cx} {e:Expr} {t t':TT} (h:PW X e t) (i:∀ σ H Q,t' σ H Q->t σ H Q):PW X e t':=fun w pins s σ H Q I q=>h w pins s σ H Q I (i σ H Q q)
theorem PA.imp {X:Cx} {e:List Expr} {t t':TA} (h:PA X e t) (i:∀ σ H Q,t' σ H Q->t σ H Q):PA X e t':=fun pos pins s σ H Q I q=>h pos pins s σ H Q I (i σ H Q q)
theorem PS.imp {X:Cx} {e:Stmt} {t t':TS} (h:PS X e t) (i:∀ N σ H,t' N σ H->t N σ H):PS X e t':=fun pins s σ H Q I q=>h pins s σ H Q I (i Q σ H q)
theorem PSs.imp {X:Cx} {e:List Stmt} {t t':TS} (h:PSs X e t) (i:∀ N σ H,t' N σ H->t N σ H):PSs X e t':=fun pins s σ H Q I q=>h pins s σ H Q I (i Q σ H q)
theorem up.go {K:Fg} {g:DE} {σ:L2.St} {H:Hp} {Q:VK} {L:Lo} {S:DH} {k:DK} (hL:Lc K H L σ) (hS:Hs K H S) (h:g L S k)
  (n:∀ d S' v H',k d S'->Kp H H'->Lc K H' L σ->Hs K H' S'->IsD K H' d v->Q v H'):up K g σ H Q:=
 ⟨L,S,k,hL,hS,h,fun d S' v H' a b c e=>n d S' v H' a b (hL.kp b) c e⟩
theorem upT.go {K:Fg} {g:DT} {σ:L2.St} {H:Hp} {Q:Bool->Hp->Prop} {L:Lo} {S:DH} {k:Bool->DH->Prop} (hL:Lc K H L σ) (hS:Hs K H S) (h:g L S k)
  (n:∀ b S' H',k b S'->Kp H H'->Lc K H' L σ->Hs K H' S'->Q b H'):upT K g σ H Q:=
 ⟨L,S,k,hL,hS,h,fun b S' H' a c e=>n b S' H' a c (hL.kp c) e⟩
theorem upA.go {K:Fg} {g:DA} {σ:L2.St} {H:Hp} {Q:List V->Hp->Prop} {L:Lo} {S:DH} {k:List D->DH->Prop} (hL:Lc K H L σ) (hS:Hs K H S) (h:g L S k)
  (n:∀ ds S' vs H',k ds S'->Kp H H'->Lc K H' L σ->Hs K H' S'->IsDs K H' ds vs->Q vs H'):upA K g σ H Q:=
 ⟨L,S,k,hL,hS,h,fun d S' v H' a b c e=>n d S' v H' a b (hL.kp b) c e⟩
section
variable {X:Cx} {a b c:Expr} {ga gb gc:DE} {pos:Pos}
def dVar (i:Nat):DE:=fun L S k=>match L[i]? with
 | some (some d)=>k d S
 | _=>False
def dC (d:D):DE:=fun _ S k=>k d S
theorem d_var (i:Nat) {x:Str} (hN:X.N[i]?=some x:=by rfl) (hv:Vis X.env.scope x:=by first | exact Or.inl rfl | exact Or.inr (Or.inl rfl) | exact Or.inr (Or.inr rfl)) (hd:(x == ("__debug__":Str))=false:=by decide)
  (hcd:(x == ("__classdict__":Str))=false:=by decide):PE X (.Name x pos) (up X.K (dVar i)):=
 PE.imp (pe_var hN hv hd hcd) fun σ H Q ⟨L,S,k,hL,hS,h,n⟩=>by
  unfold dVar at h
  split at h
  ·rename_i d e
   obtain⟨v,e1,e2⟩:=hL.get e
   exact⟨v,e1,n d S v H h (Kp.refl H) hS e2⟩
  ·exact h.elim
theorem d_c {e:Expr} {d:D} {v:V} (h:PE X e (tC v)) (hd:∀ H,IsD X.K H d v):PE X e (up X.K (dC d)):=
 PE.imp h fun σ H Q ⟨L,S,k,hL,hS,h,n⟩=>n d S v H h (Kp.refl H) hS (hd H)
theorem d_int {i j pos}:PE X (.Constant (.int i) j pos) (up X.K (dC (.int i))):=d_c pe_int fun _=>isInt.mpr rfl
theorem d_bl {i j pos}:PE X (.Constant (.bool i) j pos) (up X.K (dC (.bl i))):=d_c pe_bl fun _=>isBl.mpr rfl
theorem d_non {j pos}:PE X (.Constant .none j pos) (up X.K (dC .non)):=d_c pe_non fun _=>isNon.mpr rfl
theorem d_ty {x:Str} {n:Ty} (hg:Gl X x) (hm:X.mg x=none) (hv:bootBuiltins x=some (.type n.name)) (hn:x≠"__name__":=by decide) (hd:(x == ("__debug__":Str))=false:=by decide):PE X (.Name x pos) (up X.K (dC (.ty n))):=
 d_c (pe_bltn (v:=.ty n.name) hg hm hv rfl hn hd) fun _=>isTy.mpr rfl
def starB:Expr->Bool
 | .Starred _ _=>true
 | _=>false
theorem star_cons {a:Expr} {es:List Expr} {env:Env} (h:starB a=false):starEach (a::es) env=(false,eval a env)::starEach es env:=by
 cases a <;> first | rfl | cases h
theorem star_any {pos:Pos} {env:Env}:∀ {es:List Expr},(es.all fun e=>!starB e)=true->(backTo pos (starEach es env)).any (·.1)=false
 | [],_=>rfl
 | e::es,h=>by
  rw [List.all_cons,Bool.and_eq_true] at h
  rw [star_cons (by simpa using h.1)]
  exact star_any h.2
def dNil:DA:=fun _ S k=>k [] S
def dCons (g:DE) (t:DA):DA:=fun L S k=>g L S fun d S1=>t L S1 fun ds S2=>k (d::ds) S2
theorem da_nil:PA X [] (upA X.K dNil):=PA.imp pa_nil fun σ H Q ⟨L,S,k,hL,hS,h,n⟩=>n [] S [] H h (Kp.refl H) hS IsDs.nil
theorem da_cons {es:List Expr} {t:DA} (ha:PE X a (up X.K ga)) (hr:PA X es (upA X.K t)) (hs:starEach (a::es) X.env=(false,eval a X.env)::starEach es X.env:=by exact star_cons rfl):PA X (a::es) (upA X.K (dCons ga t)):=
 PA.imp (pa_cons ha hr hs) fun σ H Q ⟨L,S,k,hL,hS,h,n⟩=>up.go hL hS h fun d S1 v H1 h1 k1 hL1 hS1 i1=>upA.go hL1 hS1 h1 fun ds S2 vs H2 h2 k2 hL2 hS2 i2=>
  n (d::ds) S2 (v::vs) H2 h2 (k1.trans k2) hS2 (IsDs.cons (i1.kp k2) i2)
def dTup (t:DA):DE:=fun L S k=>t L S fun ds S1=>ds.length<=sizeLine/\k (.tup ds) S1
def dLst (t:DA):DE:=fun L S k=>t L S fun ds S1=>ds.length<=sizeLine/\∀ p,S1 p=none->k (.ref p) (put S1 p (.lst ds))
theorem d_tup {es:List Expr} {x1} {t:DA} (h:PA X es (upA X.K t)):PE X (.Tuple es x1 pos) (up X.K (dTup t)):=
 PE.imp (pe_tup h) fun σ H Q ⟨L,S,k,hL,hS,h,n⟩=>upA.go hL hS h fun ds S1 vs H1 h1 k1 hL1 hS1 i1=>by
  refine⟨by rw [<- i1.length]; exact h1.1,fun p hp=>?_⟩
  have k2:Kp H1 (upd H1 p (.tup vs)):=Kp.new hp
  exact n (.tup ds) S1 _ _ h1.2 (k1.trans k2) (hS1.new hp) (isTup.mpr ⟨p,vs,rfl,SqT.of upd_same,i1.kp k2⟩)
theorem d_lst {es:List Expr} {t:DA} (h:PA X es (upA X.K t)):PE X (.List es pos) (up X.K (dLst t)):=
 PE.imp (pe_lst h) fun σ H Q ⟨L,S,k,hL,hS,h,n⟩=>upA.go hL hS h fun ds S1 vs H1 h1 k1 hL1 hS1 i1=>by
  refine⟨by rw [<- i1.length]; exact h1.1,fun p hp=>?_⟩
  exact n (.ref p) _ _ _ (h1.2 p (hS1.free hp)) (k1.trans (Kp.new hp)) (hS1.newL hp i1) (isRef.mpr rfl)
abbrev D2:=D->D->DH->DK->Prop
def upR (K:Fg) (r:D2):R2:=fun x y H Q=>∃ d e S k,IsD K H d x/\IsD K H e y/\Hs K H S/\r d e S k/\∀ d' S' v H',k d' S'->Kp H H'->Hs K H' S'->IsD K H' d' v->Q v H'
def dOp (r:D2) (ga gb:DE):DE:=fun L S k=>ga L S fun x S1=>gb L S1 fun y S2=>r x y S2 k
theorem dOp_go {K:Fg} {r:D2}:∀ σ H Q,up K (dOp r ga gb) σ H Q->tOp (upR K r) (up K ga) (up K gb) σ H Q:=fun σ H Q ⟨L,S,k,hL,hS,h,n⟩=>
 up.go hL hS h fun d S1 v H1 h1 k1 hL1 hS1 i1=>up.go hL1 hS1 h1 fun e S2 u H2 h2 k2 hL2 hS2 i2=>
  ⟨d,e,S2,k,i1.kp k2,i2,hS2,h2,fun d' S' v H' q k3 z1 z2=>n d' S' v H' q (k1.trans (k2.trans k3)) z1 z2⟩
theorem d_op {op:Operator} {r:D2} (ho:OpR X (binaryOp op) (upR X.K r)) (ha:PE X a (up X.K ga)) (hb:PE X b (up X.K gb)):PE X (.BinOp a op b pos) (up X.K (dOp r ga gb)):=PE.imp (pe_op ho ha hb) dOp_go
theorem d_cmp {op:CmpOp} {r:D2} (ho:OpR X (compareOp op) (upR X.K r)) (ha:PE X a (up X.K ga)) (hb:PE X b (up X.K gb)) (hm:behindInMarks op b=false):PE X (.Compare a [op] [b] pos) (up X.K (dOp r ga gb)):=PE.imp (pe_cmpR ho ha hb hm) dOp_go
theorem d_ix {r:D2} (hr:IxR X (upR X.K r)) (ha:PE X a (up X.K ga)) (hb:PE X b (up X.K gb)) (hs:PlainIx b):PE X (.Subscript a b pos) (up X.K (dOp r ga gb)):=PE.imp (pe_ix hr ha hb hs) dOp_go
abbrev D1:=D->DH->DK->Prop
def upU (K:Fg) (r:D1):V->Hp->VK->Prop:=fun x H Q=>∃ d S k,IsD K H d x/\Hs K H S/\r d S k/\∀ d' S' v H',k d' S'->Kp H H'->Hs K H' S'->IsD K H' d' v->Q v H'
def dUn (r:D1) (ga:DE):DE:=fun L S k=>ga L S fun x S1=>r x S1 k
theorem d_un {op:UnaryOp} {r:D1} (ho:UnR X (unaryOp op) (upU X.K r)) (ha:PE X a (up X.K ga)):PE X (.UnaryOp op a pos) (up X.K (dUn r ga)):=
 PE.imp (pe_un ho ha) fun σ H Q ⟨L,S,k,hL,hS,h,n⟩=>up.go hL hS h fun d S1 v H1 h1 k1 hL1 hS1 i1=>⟨d,S1,k,i1,hS1,h1,fun d' S' v H' q k3 z1 z2=>n d' S' v H' q (k1.trans k3) z1 z2⟩
def dTest (g:DE):DT:=fun L S k=>g L S fun d S1=>match d with
 | .bl c=>k c S1
 | _=>False
theorem dTest_go {K:Fg} {g:DE}:∀ σ H Q,upT K (dTest g) σ H Q->tTest (up K g) σ H Q:=fun σ H Q ⟨L,S,k,hL,hS,h,n⟩=>
 up.go hL hS h fun d S1 v H1 h1 k1 hL1 hS1 i1=>by
  cases d with
  | bl c=>
   have e:=isBl.mp i1
   subst e
   exact⟨c,rfl,n c S1 H1 h1 k1 hS1⟩
  | _=>exact(show False from h1).elim
theorem dt_cmp {op:CmpOp} {r:D2} (ho:OpR X (compareOp op) (upR X.K r)) (ha:PE X a (up X.K ga)) (hb:PE X b (up X.K gb)) (hm:behindInMarks op b=false):PT X (.Compare a [op] [b] pos) (upT X.K (dTest (dOp r ga gb))):=
 PT.imp (PT.imp (pt_cmpR ho ha hb hm) fun σ H Q h=>dOp_go σ H _ h) dTest_go
theorem dt_val {e:Expr} {g:DE} (h:PE X e (up X.K g)) (he:∀ whole,isTrue e X.env whole=(do let v <- whole; standAt e.pos; holding [v] (truthy v)):=by intro _; rfl):PT X e (upT X.K (dTest g)):=
 PT.imp (pt_val h he) dTest_go
variable {tA tB':DT} {rest:List Expr}
def dAndT (t u:DT):DT:=fun L S k=>t L S fun c S1=>if c=true then u L S1 k else k false S1
def dOrT (t u:DT):DT:=fun L S k=>t L S fun c S1=>if c=true then k true S1 else u L S1 k
def dNotT (t:DT):DT:=fun L S k=>t L S fun c S1=>k (!c) S1
theorem dw_and1 (ha:PT X a (upT X.K tA)):PW X (.BoolOp .And [a] pos) (upT X.K tA):=pw_and1 ha
theorem dw_or1 (ha:PT X a (upT X.K tA)):PW X (.BoolOp .Or [a] pos) (upT X.K tA):=pw_or1 ha
theorem dw_and (ha:PT X a (upT X.K tA)) (hb:PW X (.BoolOp .And (b::rest) pos) (upT X.K tB')):PW X (.BoolOp .And (a::b::rest) pos) (upT X.K (dAndT tA tB')):=
 PW.imp (pw_and ha hb) fun σ H Q ⟨L,S,k,hL,hS,h,n⟩=>upT.go hL hS h fun c S1 H1 h1 k1 hL1 hS1=>by
  cases c with
  | true=>
   rw [if_pos rfl] at h1 ⊢
   exact upT.go hL1 hS1 h1 fun c2 S2 H2 h2 k2 _ hS2=>n c2 S2 H2 h2 (k1.trans k2) hS2
  | false=>
   rw [if_neg Bool.false_ne_true] at h1 ⊢
   exact n false S1 H1 h1 k1 hS1
theorem dw_or (ha:PT X a (upT X.K tA)) (hb:PW X (.BoolOp .Or (b::rest) pos) (upT X.K tB')):PW X (.BoolOp .Or (a::b::rest) pos) (upT X.K (dOrT tA tB')):=
 PW.imp (pw_or ha hb) fun σ H Q ⟨L,S,k,hL,hS,h,n⟩=>upT.go hL hS h fun c S1 H1 h1 k1 hL1 hS1=>by
  cases c with
  | true=>
   rw [if_pos rfl] at h1 ⊢
   exact n true S1 H1 h1 k1 hS1
  | false=>
   rw [if_neg Bool.false_ne_true] at h1 ⊢
   exact upT.go hL1 hS1 h1 fun c2 S2 H2 h2 k2 _ hS2=>n c2 S2 H2 h2 (k1.trans k2) hS2
theorem dt_not (ha:PT X a (upT X.K tA)):PT X (.UnaryOp .Not a pos) (upT X.K (dNotT tA)):=
 PT.imp (pt_not ha) fun σ H Q ⟨L,S,k,hL,hS,h,n⟩=>upT.go hL hS h fun c S1 H1 h1 k1 hL1 hS1=>n _ S1 H1 h1 k1 hS1
def dAndV (ga gb:DE):DE:=fun L S k=>ga L S fun x S1=>match x with
 | .bl c=>if c=true then gb L S1 k else k (.bl false) S1
 | _=>False
def dOrV (ga gb:DE):DE:=fun L S k=>ga L S fun x S1=>match x with
 | .bl c=>if c=true then k (.bl true) S1 else gb L S1 k
 | _=>False
def dNotV (ga:DE):DE:=fun L S k=>ga L S fun x S1=>match x with
 | .bl c=>k (.bl (!c)) S1
 | _=>False
theorem d_one {op} (h:PE X a (up X.K ga)):PE X (.BoolOp op [a] pos) (up X.K ga):=pe_one h
theorem d_and (ha:PE X a (up X.K ga)) (hb:PE X (.BoolOp .And (b::rest) pos) (up X.K gb)):PE X (.BoolOp .And (a::b::rest) pos) (up X.K (dAndV ga gb)):=
 PE.imp (pe_and ha hb) fun σ H Q ⟨L,S,k,hL,hS,h,n⟩=>up.go hL hS h fun d S1 v H1 h1 k1 hL1 hS1 i1=>by
  cases d with
  | bl c=>
   have e:=isBl.mp i1
   subst e
   refine⟨c,rfl,?_⟩
   have h1:if c=true then _ else _:=h1
   cases c with
   | true=>
    rw [if_pos rfl] at h1 ⊢
    exact up.go hL1 hS1 h1 fun d2 S2 v2 H2 h2 k2 _ hS2 i2=>n d2 S2 v2 H2 h2 (k1.trans k2) hS2 i2
   | false=>
    rw [if_neg Bool.false_ne_true] at h1 ⊢
    exact n _ S1 _ H1 h1 k1 hS1 (isBl.mpr rfl)
  | _=>exact(show False from h1).elim
theorem d_or (ha:PE X a (up X.K ga)) (hb:PE X (.BoolOp .Or (b::rest) pos) (up X.K gb)):PE X (.BoolOp .Or (a::b::rest) pos) (up X.K (dOrV ga gb)):=
 PE.imp (pe_or ha hb) fun σ H Q ⟨L,S,k,hL,hS,h,n⟩=>up.go hL hS h fun d S1 v H1 h1 k1 hL1 hS1 i1=>by
  cases d with
  | bl c=>
   have e:=isBl.mp i1
   subst e
   refine⟨c,rfl,?_⟩
   have h1:if c=true then _ else _:=h1
   cases c with
   | true=>
    rw [if_pos rfl] at h1 ⊢
    exact n _ S1 _ H1 h1 k1 hS1 (isBl.mpr rfl)
   | false=>
    rw [if_neg Bool.false_ne_true] at h1 ⊢
    exact up.go hL1 hS1 h1 fun d2 S2 v2 H2 h2 k2 _ hS2 i2=>n d2 S2 v2 H2 h2 (k1.trans k2) hS2 i2
  | _=>exact(show False from h1).elim
theorem d_not (ha:PE X a (up X.K ga)):PE X (.UnaryOp .Not a pos) (up X.K (dNotV ga)):=
 PE.imp (pe_not ha) fun σ H Q ⟨L,S,k,hL,hS,h,n⟩=>up.go hL hS h fun d S1 v H1 h1 k1 hL1 hS1 i1=>by
  cases d with
  | bl c=>
   have e:=isBl.mp i1
   subst e
   exact⟨c,rfl,n _ S1 _ H1 h1 k1 hS1 (isBl.mpr rfl)⟩
  | _=>exact(show False from h1).elim
def dIf (t:DT) (ga gb:DE):DE:=fun L S k=>t L S fun c S1=>if c=true then ga L S1 k else gb L S1 k
theorem d_if {c:Expr} (hc:PT X c (upT X.K tA)) (ha:PE X a (up X.K ga)) (hb:PE X b (up X.K gb)):PE X (.IfExp c a b pos) (up X.K (dIf tA ga gb)):=
 PE.imp (pe_ifExp hc ha hb) fun σ H Q ⟨L,S,k,hL,hS,h,n⟩=>upT.go hL hS h fun d S1 H1 h1 k1 hL1 hS1=>by
  cases d with
  | true=>
   rw [if_pos rfl] at h1 ⊢
   exact up.go hL1 hS1 h1 fun d2 S2 v2 H2 h2 k2 _ hS2 i2=>n d2 S2 v2 H2 h2 (k1.trans k2) hS2 i2
  | false=>
   rw [if_neg Bool.false_ne_true] at h1 ⊢
   exact up.go hL1 hS1 h1 fun d2 S2 v2 H2 h2 k2 _ hS2 i2=>n d2 S2 v2 H2 h2 (k1.trans k2) hS2 i2
end
section
variable {X:Cx}
theorem up1 {K:Fg} {H:Hp} {S:DH} {k:DK} {Q:VK} {d:D} {v:V} (n:∀ d' S' v H',k d' S'->Kp H H'->Hs K H' S'->IsD K H' d' v->Q v H') (hS:Hs K H S) (h:k d S) (i:IsD K H d v):Q v H:=n d S v H h (Kp.refl H) hS i
def d2I (C:Int->Int->Prop) (g:Int->Int->D):D2:=fun d e S k=>match d,e with
 | .int i,.int j=>C i j/\k (g i j) S
 | _,_=>False
theorem op2I {f:Value->Value->Sem Value} {C:Int->Int->Prop} {g:Int->Int->D} {gV:Int->Int->V} (ho:OpR X f (rI C gV)) (hg:∀ i j H,IsD X.K H (g i j) (gV i j)):OpR X f (upR X.K (d2I C g)):=by
 intro pins s σ H x y v u Q I rx ry h
 obtain⟨d,e,S,k,i1,i2,hS,r,n⟩:=h
 cases d with
 | int i=>
  cases e with
  | int j=>
   have e1:=isInt.mp i1
   have e2:=isInt.mp i2
   subst e1
   subst e2
   exact ho pins s σ H _ _ v u Q I rx ry ⟨i,j,rfl,rfl,r.1,up1 n hS r.2 (hg i j H)⟩
  | _=>exact(show False from r).elim
 | _=>exact(show False from r).elim
def d2I0 (g:Int->Int->D):D2:=fun d e S k=>match d,e with
 | .int i,.int j=>k (g i j) S
 | _,_=>False
theorem op2I0 {f:Value->Value->Sem Value} {g:Int->Int->D} {gV:Int->Int->V} (ho:OpR X f (rI0 gV)) (hg:∀ i j H,IsD X.K H (g i j) (gV i j)):OpR X f (upR X.K (d2I0 g)):=by
 intro pins s σ H x y v u Q I rx ry h
 obtain⟨d,e,S,k,i1,i2,hS,r,n⟩:=h
 cases d with
 | int i=>
  cases e with
  | int j=>
   have e1:=isInt.mp i1
   have e2:=isInt.mp i2
   subst e1
   subst e2
   exact ho pins s σ H _ _ v u Q I rx ry ⟨i,j,rfl,rfl,up1 n hS r (hg i j H)⟩
  | _=>exact(show False from r).elim
 | _=>exact(show False from r).elim
def CDivB (i j:Int):Prop:=j≠0/\j.natAbs.log2 < 9000
abbrev dSub:D2:=d2I0 fun i j=>.int (i - j)
abbrev dMul:D2:=d2I IntMulOk fun i j=>.int (i*j)
abbrev dDiv:D2:=d2I CDivB fun i j=>.int (i.fdiv j)
abbrev dMod:D2:=d2I (fun _ j=>j≠0) fun i j=>.int (i.fmod j)
abbrev dPow:D2:=d2I CPow fun i j=>.int (i ^ j.toNat)
abbrev dShl:D2:=d2I CPow fun i j=>.int (i*2 ^ j.toNat)
abbrev dLt:D2:=d2I0 fun i j=>.bl (decide (i < j))
abbrev dLe:D2:=d2I0 fun i j=>.bl (decide (i<=j))
abbrev dGt:D2:=d2I0 fun i j=>.bl (decide (j < i))
abbrev dGe:D2:=d2I0 fun i j=>.bl (decide (j<=i))
theorem o_sub:OpR X (binaryOp .Sub) (upR X.K dSub):=op2I0 op_sub fun _ _ _=>isInt.mpr rfl
theorem o_mul:OpR X (binaryOp .Mult) (upR X.K dMul):=op2I (C:=IntMulOk) (gV:=fun i j=>.int (i*j)) (opI fun _ _ _ _ _ _ _ hc q=>mul_int q hc) fun _ _ _=>isInt.mpr rfl
theorem o_div:OpR X (binaryOp .FloorDiv) (upR X.K dDiv):=op2I (C:=CDivB) (gV:=fun i j=>.int (i.fdiv j)) (opI fun _ _ _ _ _ _ _ hc q=>floordiv_int hc.1 q (.inl (PyProof.noPylong_of_log2 hc.2))) fun _ _ _=>isInt.mpr rfl
theorem o_mod:OpR X (binaryOp .Mod) (upR X.K dMod):=op2I op_modN fun _ _ _=>isInt.mpr rfl
theorem o_pow:OpR X (binaryOp .Pow) (upR X.K dPow):=op2I op_pow fun _ _ _=>isInt.mpr rfl
theorem o_shl:OpR X (binaryOp .LShift) (upR X.K dShl):=op2I op_shl fun _ _ _=>isInt.mpr rfl
theorem o_lt:OpR X (compareOp .Lt) (upR X.K dLt):=op2I0 op_lt fun _ _ _=>isBl.mpr rfl
theorem o_le:OpR X (compareOp .LtE) (upR X.K dLe):=op2I0 op_le fun _ _ _=>isBl.mpr rfl
theorem o_gt:OpR X (compareOp .Gt) (upR X.K dGt):=op2I0 op_gt fun _ _ _=>isBl.mpr rfl
theorem o_ge:OpR X (compareOp .GtE) (upR X.K dGe):=op2I0 op_ge fun _ _ _=>isBl.mpr rfl
def dAdd:D2:=fun d e S k=>match d,e with
 | .int i,.int j=>k (.int (i+j)) S
 | .str x,.str y=>x.length+y.length<=sizeLine/\k (.str (x++y)) S
 | .tup xs,.tup ys=>xs≠[]/\ys≠[]/\xs.length+ys.length<=sizeLine/\k (.tup (xs++ys)) S
 | .ref a,.ref b=>∃ xs ys,S a=some (.lst xs)/\S b=some (.lst ys)/\xs.length+ys.length<=sizeLine/\∀ p,S p=none->k (.ref p) (put S p (.lst (xs++ys)))
 | _,_=>False
theorem ne_nil_of {K:Fg} {H:Hp} {ds:List D} {vs:List V} (i:IsDs K H ds vs) (h:ds≠[]):vs≠[]:=by
 intro e
 subst e
 have:=i.length
 exact h (List.length_eq_zero_iff.mp this)
theorem o_add:OpR X (binaryOp .Add) (upR X.K dAdd):=by
 intro pins s σ H x y v u Q I rx ry h
 obtain⟨d,e,S,k,i1,i2,hS,r,n⟩:=h
 cases d with
 | int i=>
  cases e with
  | int j=>
   have e1:=isInt.mp i1
   have e2:=isInt.mp i2
   subst e1
   subst e2
   exact op_add pins s σ H _ _ v u Q I rx ry ⟨i,j,rfl,rfl,up1 n hS r (isInt.mpr rfl)⟩
  | _=>exact(show False from r).elim
 | str i=>
  cases e with
  | str j=>
   have e1:=isStr.mp i1
   have e2:=isStr.mp i2
   subst e1
   subst e2
   exact op_add_str pins s σ H _ _ v u Q I rx ry ⟨i,j,rfl,rfl,r.1,up1 n hS r.2 (isStr.mpr rfl)⟩
  | _=>exact(show False from r).elim
 | tup xs=>
  cases e with
  | tup ys=>
   obtain⟨a,vs,rfl,t1,j1⟩:=isTup.mp i1
   obtain⟨b,us,rfl,t2,j2⟩:=isTup.mp i2
   obtain⟨h1,h2,h3,r⟩:=r
   refine op_catT pins s σ H _ _ v u Q I rx ry ⟨a,b,vs,us,rfl,rfl,t1,t2,ne_nil_of j1 h1,by rw [<- j1.length,<- j2.length]; exact h3,fun z=>absurd z (ne_nil_of j2 h2),fun _ p hp=>?_⟩
   have kp:Kp H (upd H p (.tup (vs++us))):=Kp.new hp
   exact n _ S _ _ r kp (hS.new hp) (isTup.mpr ⟨p,_,rfl,SqT.of upd_same,(j1.append j2).kp kp⟩)
  | _=>exact(show False from r).elim
 | ref a=>
  cases e with
  | ref b=>
   have e1:=isRef.mp i1
   have e2:=isRef.mp i2
   subst e1
   subst e2
   obtain⟨xs,ys,h1,h2,h3,r⟩:=r
   obtain⟨vs,q1,j1⟩:=hS.lst h1
   obtain⟨us,q2,j2⟩:=hS.lst h2
   refine op_cat pins s σ H _ _ v u Q I rx ry ⟨a,b,vs,us,rfl,rfl,q1,q2,by rw [<- j1.length,<- j2.length]; exact h3,fun p hp=>?_⟩
   exact n _ _ _ _ (r p (hS.free hp)) (Kp.new hp) (hS.newL hp (j1.append j2)) (isRef.mpr rfl)
  | _=>exact(show False from r).elim
 | _=>exact(show False from r).elim
def eqF:D->D->Option Bool
 | .int i,.int j=>some (decide (i=j))
 | .bl i,.bl j=>some (decide (i=j))
 | .str i,.str j=>some (decide (i=j))
 | _,_=>none
def dEq:D2:=fun d e S k=>match eqF d e with
 | some b=>k (.bl b) S
 | none=>False
def dNe:D2:=fun d e S k=>match eqF d e with
 | some b=>k (.bl (!b)) S
 | none=>False
theorem eqF_V {K:Fg} {H:Hp} {d e:D} {x y:V} {b:Bool} (h:eqF d e=some b) (i1:IsD K H d x) (i2:IsD K H e y):scal x y=true/\decide (x=y)=b:=by
 unfold eqF at h
 split at h
 ·have e1:=isInt.mp i1
  have e2:=isInt.mp i2
  subst e1; subst e2
  cases h
  exact⟨rfl,by simp⟩
 ·have e1:=isBl.mp i1
  have e2:=isBl.mp i2
  subst e1; subst e2
  cases h
  exact⟨rfl,by simp⟩
 ·have e1:=isStr.mp i1
  have e2:=isStr.mp i2
  subst e1; subst e2
  cases h
  exact⟨rfl,by simp⟩
 ·cases h
theorem o_eq:OpR X (compareOp .Eq) (upR X.K dEq):=by
 intro pins s σ H x y v u Q I rx ry h
 obtain⟨d,e,S,k,i1,i2,hS,r,n⟩:=h
 unfold dEq at r
 cases q:eqF d e with
 | none=>rw [q] at r; exact r.elim
 | some b=>
  rw [q] at r
  obtain⟨h1,h2⟩:=eqF_V q i1 i2
  exact op_eq pins s σ H _ _ v u Q I rx ry ⟨h1,by rw [h2]; exact up1 n hS r (isBl.mpr rfl)⟩
theorem o_ne:OpR X (compareOp .NotEq) (upR X.K dNe):=by
 intro pins s σ H x y v u Q I rx ry h
 obtain⟨d,e,S,k,i1,i2,hS,r,n⟩:=h
 unfold dNe at r
 cases q:eqF d e with
 | none=>rw [q] at r; exact r.elim
 | some b=>
  rw [q] at r
  obtain⟨h1,h2⟩:=eqF_V q i1 i2
  exact op_ne pins s σ H _ _ v u Q I rx ry ⟨h1,by rw [h2]; exact up1 n hS r (isBl.mpr rfl)⟩
def isNonD:D->Bool
 | .non=>true
 | _=>false
def dIs:D2:=fun d e S k=>match d,e with
 | .bl c,.bl b=>k (.bl (c == b)) S
 | d,.non=>k (.bl (isNonD d)) S
 | _,_=>False
theorem isNonD_V {K:Fg} {H:Hp} {d:D} {x:V} (i:IsD K H d x):decide (x=.non)=isNonD d:=by
 cases d with
 | non=>rw [isNon.mp i]; rfl
 | bl b=>rw [isBl.mp i]; rfl
 | int b=>rw [isInt.mp i]; rfl
 | str b=>rw [isStr.mp i]; rfl
 | ref b=>rw [isRef.mp i]; rfl
 | ty b=>rw [isTy.mp i]; rfl
 | tup b=>obtain⟨a,xs,rfl,_⟩:=isTup.mp i; rfl
 | rl b=>obtain⟨a,xs,rfl,_⟩:=isRl.mp i; rfl
theorem o_is:OpR X (compareOp .Is) (upR X.K dIs):=by
 intro pins s σ H x y v u Q I rx ry h
 obtain⟨d,e,S,k,i1,i2,hS,r,n⟩:=h
 unfold dIs at r
 split at r
 ·rename_i c b
  have e1:=isBl.mp i1
  have e2:=isBl.mp i2
  subst e1; subst e2
  cases rx; cases ry
  exact is_bool ⟨.bl _,H,I,rfl,up1 n hS r (isBl.mpr rfl)⟩
 ·have e2:=isNon.mp i2
  exact op_isN pins s σ H _ _ v u Q I rx ry ⟨e2,by rw [isNonD_V i1]; exact up1 n hS r (isBl.mpr rfl)⟩
 ·exact r.elim
def dNeg:D1:=fun d S k=>match d with
 | .int i=>k (.int (-i)) S
 | _=>False
theorem o_neg:UnR X (unaryOp .USub) (upU X.K dNeg):=by
 intro pins s σ H x v Q I rx h
 obtain⟨d,S,k,i1,hS,r,n⟩:=h
 cases d with
 | int i=>
  have e1:=isInt.mp i1
  subst e1
  exact un_neg pins s σ H _ v Q I rx ⟨i,rfl,up1 n hS r (isInt.mpr rfl)⟩
 | _=>exact(show False from r).elim
def dIx:D2:=fun d e S k=>match d,e with
 | .tup ds,.int i=>(match atI ds i with
  | some c=>k c S
  | none=>False)
 | .rl ds,.int i=>(match atI ds i with
  | some c=>k c S
  | none=>False)
 | .ref a,.int i=>(match S a with
  | some (.lst ds)=>(match atI ds i with
   | some c=>k c S
   | none=>False)
  | _=>False)
 | _,_=>False
theorem IsDs.atI {K:Fg} {H:Hp} {ds:List D} {vs:List V} {i:Int} {d:D} (r:IsDs K H ds vs) (h:atI ds i=some d):∃ v,L2.atI vs i=some v/\IsD K H d v:=by
 unfold L2.atI at h ⊢
 rw [<- r.length]
 cases q:ixN ds.length i with
 | none=>rw [q] at h; cases h
 | some j=>
  rw [q] at h
  exact r.get h
theorem x_ix:IxR X (upR X.K dIx):=by
 intro value slice pins s σ H x y v u Q I rx ry h hs
 obtain⟨d,e,S,k,i1,i2,hS,r,n⟩:=h
 cases e with
 | int i=>
  have e2:=isInt.mp i2
  subst e2
  cases d with
  | tup ds=>
   obtain⟨a,vs,rfl,t,j⟩:=isTup.mp i1
   cases q:atI ds i with
   | none=>simp only [dIx,q] at r
   | some c=>
    simp only [dIx,q] at r
    obtain⟨w,e1,e2⟩:=j.atI q
    exact ix_tup value slice pins s σ H _ _ v u Q I rx ry ⟨a,vs,i,w,rfl,rfl,t,e1,up1 n hS r e2⟩ hs
  | rl ds=>
   obtain⟨a,vs,rfl,t,j⟩:=isRl.mp i1
   cases q:atI ds i with
   | none=>simp only [dIx,q] at r
   | some c=>
    simp only [dIx,q] at r
    obtain⟨w,e1,e2⟩:=j.atI q
    exact ix_list value slice pins s σ H _ _ v u Q I rx ry ⟨a,vs,i,w,rfl,rfl,t.sq,e1,up1 n hS r e2⟩ hs
  | ref a=>
   have e1:=isRef.mp i1
   subst e1
   cases z:S a with
   | none=>simp only [dIx,z] at r
   | some o=>
    cases o with
    | dic=>simp only [dIx,z] at r
    | exc _=>simp only [dIx,z] at r
    | fn _=>simp only [dIx,z] at r
    | tbl _=>simp only [dIx,z] at r
    | gen _=>simp only [dIx,z] at r
    | lst ds=>
     obtain⟨vs,hl,j⟩:=hS.lst z
     cases q:atI ds i with
     | none=>simp only [dIx,z,q] at r
     | some c=>
      simp only [dIx,z,q] at r
      obtain⟨w,e1,e2⟩:=j.atI q
      exact ix_list value slice pins s σ H _ _ v u Q I rx ry ⟨a,vs,i,w,rfl,rfl,SqL.of hl,e1,up1 n hS r e2⟩ hs
  | _=>exact(show False from r).elim
 | _=>
  cases d <;> exact(show False from r).elim
end
abbrev DSp:=List D->DH->DK->Prop
def upC (K:Fg) (r:DSp):List V->Hp->VK->Prop:=fun xs H Q=>∃ ds S k,IsDs K H ds xs/\Hs K H S/\r ds S k/\∀ d' S' v H',k d' S'->Kp H H'->Hs K H' S'->IsD K H' d' v->Q v H'
def dCall (r:DSp) (t:DA):DE:=fun L S k=>t L S fun ds S1=>r ds S1 k
section
variable {X:Cx} {x:Str} {p pos:Pos} {e:Expr} {es:List Expr} {t:DA} {id T:String} {r:DSp}
theorem dCall_go {K:Fg}:∀ σ H Q,up K (dCall r t) σ H Q->tCB (upC K r) (upA K t) σ H Q:=fun σ H Q ⟨L,S,k,hL,hS,h,n⟩=>
 upA.go hL hS h fun ds S1 vs H1 h1 k1 hL1 hS1 i1=>⟨ds,S1,k,i1,hS1,h1,fun d' S' v H' q k3 z1 z2=>n d' S' v H' q (k1.trans k3) z1 z2⟩
theorem d_callB (hc:CallR X (.builtin id) (upC X.K r)) (hg:Gl X x) (hm:X.mg x=none) (hv:bootBuiltins x=some (.builtin id)) (ha:PA X (e::es) (upA X.K t)) (hn:x≠"__name__":=by decide) (hdb:(x == ("__debug__":Str))=false:=by decide)
  (he:starEach (e::es) X.env=(false,eval e X.env)::starEach es X.env:=by exact star_cons rfl) (hpl:(backTo pos (starEach es X.env)).any (·.1)=false:=by exact star_any rfl):PE X (.Call (.Name x p) (e::es) [] pos) (up X.K (dCall r t)):=
 PE.imp (pe_callB hc hg hm hv ha hn hdb he hpl) dCall_go
theorem d_callT (hc:CallR X (.type T) (upC X.K r)) (hg:Gl X x) (hm:X.mg x=none) (hv:bootBuiltins x=some (.type T)) (ha:PA X (e::es) (upA X.K t)) (hn:x≠"__name__":=by decide) (hdb:(x == ("__debug__":Str))=false:=by decide)
  (he:starEach (e::es) X.env=(false,eval e X.env)::starEach es X.env:=by exact star_cons rfl) (hpl:(backTo pos (starEach es X.env)).any (·.1)=false:=by exact star_any rfl):PE X (.Call (.Name x p) (e::es) [] pos) (up X.K (dCall r t)):=
 PE.imp (pe_callTy hc hg hm hv ha hn hdb he hpl) dCall_go
def spU (K:Fg) (F:DSp):Sp:=fun vs H Q _=>upC K F vs H Q
structure Own (P:Program) (w:World) (K:Fg) (mg:Str->Option Value) (base:Heap) (x:Str) (n:Nat) (F:DSp):Prop where
 ex:∃ f fd ps,FnOk P w K mg base CX0 n f fd ps (spU K F)/\mg x=some (.ref f)/\PySem.W.keepIn K (.ref f)=true/\Binds K fd ps []
theorem d_call {n:Nat} {F:DSp} (c:Own X.prog X.w X.K X.mg X.base x n F) (hr:Room n X.A) (hg:Gl X x) (ha:PA X (e::es) (upA X.K t)) (hdb:(x == ("__debug__":Str))=false:=by decide)
  (he:starEach (e::es) X.env=(false,eval e X.env)::starEach es X.env:=by exact star_cons rfl) (hpl:(backTo pos (starEach es X.env)).any (·.1)=false:=by exact star_any rfl):
  PE X (.Call (.Name x p) (e::es) [] pos) (up X.K (dCall F t)):=by
 obtain⟨f,fd,ps,F1,h1,h2,h3⟩:=c.ex
 refine PE.imp (pe_call F1 hr hg h1 h2 h3 .nil pass0 ha hdb he hpl) fun σ H Q ⟨L,S,k,hL,hS,h,n⟩=>?_
 refine upA.go hL hS h fun ds S1 vs H1 h1 k1 hL1 hS1 i1=>?_
 show spU X.K F (vs++[]) H1 Q E0
 rw [List.append_nil]
 exact⟨ds,S1,k,i1,hS1,h1,fun d' S' v H' q k3 z1 z2=>n d' S' v H' q (k1.trans k3) z1 z2⟩
def bAbs:DSp:=fun ds S k=>match ds with
 | [.int i]=>k (.int (if i < 0 then -i else i)) S
 | _=>False
theorem isDs1 {K:Fg} {H:Hp} {d:D} {xs:List V} (h:IsDs K H [d] xs):∃ x,xs=[x]/\IsD K H d x:=by
 obtain⟨v,r,rfl,h1,h2⟩:=isCons.mp h
 rw [isNil.mp h2]
 exact⟨v,rfl,h1⟩
theorem isDs2 {K:Fg} {H:Hp} {d e:D} {xs:List V} (h:IsDs K H [d,e] xs):∃ x y,xs=[x,y]/\IsD K H d x/\IsD K H e y:=by
 obtain⟨v,r,rfl,h1,h2⟩:=isCons.mp h
 obtain⟨y,rfl,h3⟩:=isDs1 h2
 exact⟨v,y,rfl,h1,h3⟩
theorem b_abs:CallR X (.builtin "abs") (upC X.K bAbs):=by
 intro pins s σ H xs us Q I rs h
 obtain⟨ds,S,k,i,hS,r,n⟩:=h
 unfold bAbs at r
 split at r
 ·obtain⟨x,rfl,i1⟩:=isDs1 i
  have e1:=isInt.mp i1
  subst e1
  exact call_abs pins s σ H _ us Q I rs ⟨_,rfl,up1 n hS r (isInt.mpr rfl)⟩
 ·exact r.elim
def bLen:DSp:=fun ds S k=>match ds with
 | [.tup xs]=>k (.int xs.length) S
 | [.rl xs]=>k (.int xs.length) S
 | [.ref a]=>(match S a with
  | some (.lst xs)=>k (.int xs.length) S
  | _=>False)
 | _=>False
theorem b_len:CallR X (.builtin "len") (upC X.K bLen):=by
 intro pins s σ H xs us Q I rs h
 obtain⟨ds,S,k,i,hS,r,n⟩:=h
 unfold bLen at r
 split at r
 ·obtain⟨x,rfl,i1⟩:=isDs1 i
  obtain⟨a,vs,rfl,t,j⟩:=isTup.mp i1
  exact call_len_seq pins s σ H _ us Q I rs ⟨a,vs,rfl,.inr t,by rw [<- j.length]; exact up1 n hS r (isInt.mpr rfl)⟩
 ·obtain⟨x,rfl,i1⟩:=isDs1 i
  obtain⟨a,vs,rfl,t,j⟩:=isRl.mp i1
  exact call_len_seq pins s σ H _ us Q I rs ⟨a,vs,rfl,.inl t.sq,by rw [<- j.length]; exact up1 n hS r (isInt.mpr rfl)⟩
 ·obtain⟨x,rfl,i1⟩:=isDs1 i
  have e1:=isRef.mp i1
  subst e1
  split at r
  ·rename_i z
   obtain⟨vs,hl,j⟩:=hS.lst z
   exact call_len_seq pins s σ H _ us Q I rs ⟨_,vs,rfl,.inl (SqL.of hl),by rw [<- j.length]; exact up1 n hS r (isInt.mpr rfl)⟩
  ·exact r.elim
 ·exact r.elim
def bMax:DSp:=fun ds S k=>match ds with
 | [.int i,.int j]=>k (.int (if j > i then j else i)) S
 | _=>False
def bMin:DSp:=fun ds S k=>match ds with
 | [.int i,.int j]=>k (.int (if j < i then j else i)) S
 | _=>False
theorem b_max (hc:X.calm=true:=by rfl):CallR X (.builtin "max") (upC X.K bMax):=by
 intro pins s σ H xs us Q I rs h
 obtain⟨ds,S,k,i,hS,r,n⟩:=h
 unfold bMax at r
 split at r
 ·obtain⟨x,y,rfl,i1,i2⟩:=isDs2 i
  have e1:=isInt.mp i1
  have e2:=isInt.mp i2
  subst e1; subst e2
  exact call_max2 hc pins s σ H _ us Q I rs ⟨_,_,rfl,up1 n hS r (isInt.mpr rfl)⟩
 ·exact r.elim
theorem b_min (hc:X.calm=true:=by rfl):CallR X (.builtin "min") (upC X.K bMin):=by
 intro pins s σ H xs us Q I rs h
 obtain⟨ds,S,k,i,hS,r,n⟩:=h
 unfold bMin at r
 split at r
 ·obtain⟨x,y,rfl,i1,i2⟩:=isDs2 i
  have e1:=isInt.mp i1
  have e2:=isInt.mp i2
  subst e1; subst e2
  exact call_min2 hc pins s σ H _ us Q I rs ⟨_,_,rfl,up1 n hS r (isInt.mpr rfl)⟩
 ·exact r.elim
def tyR:Option DO->Option Ty
 | some (.lst _)=>some .lst
 | some .dic=>some .dic
 | _=>none
def tyD (S:DH):D->Option Ty
 | .non=>some .non
 | .bl _=>some .bool
 | .int _=>some .int
 | .str _=>some .str
 | .tup _=>some .tup
 | .rl _=>none
 | .ref a=>tyR (S a)
 | .ty _=>none
def subT:Ty->Ty->Bool
 | .non,.non=>true | .bool,.bool=>true | .bool,.int=>true | .int,.int=>true | .str,.str=>true | .tup,.tup=>true | .lst,.lst=>true | .dic,.dic=>true | .verr,.verr=>true
 | _,_=>false
theorem kit_of {K:Fg} (t c:Ty):PySem.W.kitOne K (.type t.name) (.type c.name)=some (subT t c):=by
 cases t <;> cases c <;> rfl
def mBits:D1:=fun d S k=>match d with
 | .int i=>k (.int ((Builtin.Int.intBits i:Nat):Int)) S
 | _=>False
theorem d_bits {o:Expr} {g:DE} {apos cpos:Pos} (ho:PE X o (up X.K g)) (hbase:attributeBase o "bit_length" X.env (eval o X.env)=eval o X.env:=by rfl) (hline:(apos.endLine == cpos.line)=true:=by rfl):
  PE X (.Call (.Attribute o "bit_length" apos) [] [] cpos) (up X.K (dUn mBits g)):=by
 refine PE.imp (pe_bm0 PySem.F.plainAttrs_int PySem.F.slot_int_bit_length PySem.F.type_int_bit_length (r:=fun x xs H Q=>∃ i,x=.int i/\xs=[]/\Q (.int ((Builtin.Int.intBits i:Nat):Int)) H) ?_ ho hbase hline) fun σ H Q ⟨L,S,k,hL,hS,h,n⟩=>?_
 ·intro pins s σ H x xs v us Q I rx rs h
  obtain⟨i,rfl,rfl,q⟩:=h
  obtain⟨t,rfl⟩:=rx
  cases rs
  exact call_int_bit_length ⟨.int _,H,I.tok _,⟨_,rfl⟩,q⟩
 ·refine up.go hL hS h fun d S1 v H1 h1 k1 hL1 hS1 i1=>?_
  cases d with
  | int i=>
   have e1:=isInt.mp i1
   subst e1
   exact⟨rfl,i,rfl,rfl,n _ S1 _ H1 h1 k1 hS1 (isInt.mpr rfl)⟩
  | _=>exact(show False from h1).elim
def cutD (xs:List D) (lo hi:Option Int):List D:=(xs.drop (HT.sIx xs.length 0 lo)).take (HT.sIx xs.length xs.length hi - HT.sIx xs.length 0 lo)
abbrev DOp:=Lo->DH->(Option Int->DH->Prop)->Prop
def upO (K:Fg) (g:DOp):TO:=fun σ H Q=>∃ L S k,Lc K H L σ/\Hs K H S/\g L S k/\∀ i S' H',k i S'->Kp H H'->Hs K H' S'->Q i H'
def oNone:DOp:=fun _ S k=>k none S
def oSome (g:DE):DOp:=fun L S k=>g L S fun d S1=>match d with
 | .int i=>k (some i) S1
 | _=>False
theorem do_none:PO X none (upO X.K oNone):=by
 intro pins s σ H Q I h
 obtain⟨L,S,k,hL,hS,h,n⟩:=h
 exact po_none pins s σ H Q I (n none S H h (Kp.refl H) hS)
theorem do_some {e:Expr} {g:DE} (he:PE X e (up X.K g)):PO X (some e) (upO X.K (oSome g)):=by
 intro pins s σ H Q I h
 obtain⟨L,S,k,hL,hS,h,n⟩:=h
 refine po_some he pins s σ H Q I (up.go hL hS h fun d S1 v H1 h1 k1 hL1 hS1 i1=>?_)
 cases d with
 | int i=>
  have e1:=isInt.mp i1
  subst e1
  exact⟨i,rfl,n (some i) S1 H1 h1 k1 hS1⟩
 | _=>exact(show False from h1).elim
end
section
variable {X:Cx} {st:Stmt} {rest:List Stmt} {g h:DS} {e:Expr} {ge:DE} {pos:Pos}
def dNext:DS:=fun M L S=>M.nx L S
def dSeq (g h:DS):DS:=fun M L S=>g {M with nx:=h M} L S
theorem ds_nil:PSs X [] (upS X.K dNext):=PSs.imp pss_nil fun N σ H ⟨L,S,M,hL,hS,h,r⟩=>r.nx L S σ H h (Kp.refl H) hL hS
theorem dSeq_go {K:Fg}:∀ N σ H,upS K (dSeq g h) N σ H->tSeq (upS K g) (upS K h) N σ H:=fun N σ H ⟨L,S,M,hL,hS,q,r⟩=>
 ⟨L,S,{M with nx:=h M},hL,hS,q,⟨fun L' S' σ' H' q' k' hL' hS'=>⟨L',S',M,hL',hS',q',r.kp k'⟩,r.rt,r.bk,r.ct⟩⟩
theorem ds_cons (h1:PS X st (upS X.K g)) (h2:PSs X rest (upS X.K h)):PSs X (st::rest) (upS X.K (dSeq g h)):=PSs.imp (pss_cons h1 h2) dSeq_go
theorem ds_one (h1:PS X st (upS X.K g)):PSs X [st] (upS X.K g):=pss_one h1
def dRet (ge:DE):DS:=fun M L S=>ge L S M.rt
theorem dst_ret (he:PE X e (up X.K ge)):PS X (.Return (some e) pos) (upS X.K (dRet ge)):=
 PS.imp (ps_ret he) fun N σ H ⟨L,S,M,hL,hS,h,r⟩=>up.go hL hS h fun d S1 v H1 h1 k1 _ hS1 i1=>r.rt d S1 v H1 h1 k1 hS1 i1
def dIfS (c:DT) (g h:DS):DS:=fun M L S=>c L S fun b S1=>if b=true then g M L S1 else h M L S1
theorem dst_if {c:Expr} {a b:List Stmt} {gc:DT} (hc:PT X c (upT X.K gc)) (ha:PSs X a (upS X.K g)) (hb:PSs X b (upS X.K h)):PS X (.If c a b pos) (upS X.K (dIfS gc g h)):=
 PS.imp (ps_if hc ha hb) fun N σ H ⟨L,S,M,hL,hS,q,r⟩=>upT.go hL hS q fun t S1 H1 h1 k1 hL1 hS1=>by
  cases t with
  | true=>
   rw [if_pos rfl] at h1 ⊢
   exact⟨L,S1,M,hL1,hS1,h1,r.kp k1⟩
  | false=>
   rw [if_neg Bool.false_ne_true] at h1 ⊢
   exact⟨L,S1,M,hL1,hS1,h1,r.kp k1⟩
def dNever:DS:=fun _ _ _=>False
theorem dst_never:PS X st (upS X.K dNever):=PS.imp ps_never fun N σ H ⟨L,S,M,hL,hS,h,r⟩=>h.elim
theorem ds_never {sts:List Stmt}:PSs X sts (upS X.K dNever):=PSs.imp pss_never fun N σ H ⟨L,S,M,hL,hS,h,r⟩=>h.elim
def dSet (i:Nat) (ge:DE):DS:=fun M L S=>ge L S fun d S1=>M.nx (L.set i (some d)) S1
theorem dst_set {i:Nat} {x:Str} {pos':Pos} (hN:X.N.Nodup) (he:PE X e (up X.K ge)) (hi:X.N[i]?=some x:=by rfl) (hx:Loc X.env.scope x:=by first | exact Or.inl rfl | exact Or.inr rfl) (hs:swapsWith e (some (.Name x pos')) pos.line X.env=pure false:=by rfl)
  (hf:X.fn x=true\/X.env.scope.names.lookup x=some .local:=by first | exact .inl rfl | exact .inr rfl | assumption):PS X (.Assign [.Name x pos'] e pos) (upS X.K (dSet i ge)):=
 PS.imp (ps_set hN hi hx he hs hf) fun N σ H ⟨L,S,M,hL,hS,h,r⟩=>up.go hL hS h fun d S1 v H1 h1 k1 hL1 hS1 i1=>r.nx _ S1 _ H1 h1 k1 (hL1.set i1 i) hS1
def dPar (i j:Nat) (ta:DA):DS:=fun M L S=>ta L S fun ds S1=>match ds with
 | [d,e]=>M.nx ((L.set i (some d)).set j (some e)) S1
 | _=>False
theorem dst_par {i j:Nat} {x y:Str} {a b:Expr} {ta:DA} {px py pt:Pos} {kt k2 pt2} (hc:X.calm=true) (hN:X.N.Nodup) (hij:i≠j) (ha:PA X [a,b] (upA X.K ta)) (hi:X.N[i]?=some x:=by rfl) (hj:X.N[j]?=some y:=by rfl)
  (hx:X.env.scope.names.lookup x=some .local:=by rfl) (hy:X.env.scope.names.lookup y=some .local:=by rfl)
  (hw:swappedStores [.Tuple [.Name x px,.Name y py] kt pt] (.Tuple [a,b] k2 pt2) X.env=pure (some [x,y]):=by rfl)
  (hs:swapsWithSole [.Tuple [.Name x px,.Name y py] kt pt] (.Tuple [a,b] k2 pt2) pos.line X.env=pure false:=by rfl):
  PS X (.Assign [.Tuple [.Name x px,.Name y py] kt pt] (.Tuple [a,b] k2 pt2) pos) (upS X.K (dPar i j ta)):=
 PS.imp (ps_par hc hN hi hj hij hx hy ha hw hs) fun N σ H ⟨L,S,M,hL,hS,h,r⟩=>upA.go hL hS h fun ds S1 vs H1 h1 k1 hL1 hS1 i1=>by
  split at h1
  ·obtain⟨v,u,rfl,j1,j2⟩:=isDs2 i1
   exact⟨v,u,rfl,r.nx _ S1 _ H1 h1 k1 ((hL1.set j1 i).set j2 j) hS1⟩
  ·exact h1.elim
abbrev DG:=D->Lo->DH->(Lo->DH->Prop)->Prop
def upG (K:Fg) (g:DG):TG:=fun v σ H Q=>∃ d L S k,IsD K H d v/\Lc K H L σ/\Hs K H S/\g d L S k/\∀ L' S' σ' H',k L' S'->Kp H H'->Lc K H' L' σ'->Hs K H' S'->Q σ' H'
theorem PG.imp {e:Expr} {t t':TG} (h:PG X e t) (i:∀ v σ H Q,t' v σ H Q->t v σ H Q):PG X e t':=fun pins s σ H v u Q I rv q=>h pins s σ H v u Q I rv (i v σ H Q q)
def dgName (i:Nat):DG:=fun d L S k=>k (L.set i (some d)) S
theorem dg_name {i:Nat} {x:Str} (hN:X.N.Nodup) (hi:X.N[i]?=some x:=by rfl) (hx:Loc X.env.scope x:=by first | exact Or.inl rfl | exact Or.inr rfl) (hf:X.fn x=true\/X.env.scope.names.lookup x=some .local:=by first | exact .inl rfl | exact .inr rfl | assumption):PG X (.Name x pos) (upG X.K (dgName i)):=
 PG.imp (pg_name hN hi hx hf) fun v σ H Q ⟨d,L,S,k,i1,hL,hS,h,n⟩=>n _ S _ H h (Kp.refl H) (hL.set i1 i) hS
abbrev DGs:=List D->Lo->DH->(Lo->DH->Prop)->Prop
def upGs (K:Fg) (g:DGs):TGs:=fun v σ H Q=>∃ d L S k,IsDs K H d v/\Lc K H L σ/\Hs K H S/\g d L S k/\∀ L' S' σ' H',k L' S'->Kp H H'->Lc K H' L' σ'->Hs K H' S'->Q σ' H'
theorem PGs.imp {e:List Expr} {t t':TGs} (h:PGs X e t) (i:∀ v σ H Q,t' v σ H Q->t v σ H Q):PGs X e t':=fun pins s σ H v u Q I rv q=>h pins s σ H v u Q I rv (i v σ H Q q)
def dgNil:DGs:=fun ds L S k=>ds=[]/\k L S
def dgCons (t:DG) (u:DGs):DGs:=fun ds L S k=>match ds with
 | d::r=>t d L S fun L1 S1=>u r L1 S1 k
 | []=>False
theorem dgs_nil:PGs X [] (upGs X.K dgNil):=PGs.imp pgs_nil fun v σ H Q ⟨d,L,S,k,i1,hL,hS,h,n⟩=>by
 obtain⟨rfl,h⟩:=h
 exact⟨isNil.mp i1,n L S σ H h (Kp.refl H) hL hS⟩
theorem dgs_cons {es:List Expr} {t:DG} {u:DGs} (h1:PG X e (upG X.K t)) (h2:PGs X es (upGs X.K u)) (hs:(assignEach (e::es) X.env).map (·.2)=assign e X.env::(assignEach es X.env).map (·.2):=by rfl):PGs X (e::es) (upGs X.K (dgCons t u)):=
 PGs.imp (pgs_cons h1 h2 hs) fun vs σ H Q ⟨ds,L,S,k,i1,hL,hS,h,n⟩=>by
  cases ds with
  | nil=>exact(show False from h).elim
  | cons d r=>
   obtain⟨v,vr,rfl,j1,j2⟩:=isCons.mp i1
   exact⟨v,vr,rfl,d,L,S,_,j1,hL,hS,h,fun L1 S1 σ1 H1 q k1 hL1 hS1=>⟨r,L1,S1,k,j2.kp k1,hL1,hS1,q,fun L' S' σ' H' q' k'=>n L' S' σ' H' q' (k1.trans k')⟩⟩
def dAsg (ge:DE) (g:DG):DS:=fun M L S=>ge L S fun d S1=>g d L S1 M.nx
theorem dst_asg {tg e:Expr} {g:DG} (he:PE X e (up X.K ge)) (hg:PG X tg (upG X.K g)) (hs:swapsWithSole [tg] e pos.line X.env=pure false:=by rfl) (hw:swappedStores [tg] e X.env=pure none:=by rfl)
  (h1:(assignEach [tg] X.env).map (·.2)=[assign tg X.env]:=by rfl):PS X (.Assign [tg] e pos) (upS X.K (dAsg ge g)):=
 PS.imp (ps_asg he hg hs hw h1) fun N σ H ⟨L,S,M,hL,hS,h,r⟩=>up.go hL hS h fun d S1 v H1 h1 k1 hL1 hS1 i1=>
  ⟨d,L,S1,M.nx,i1,hL1,hS1,h1,fun L' S' σ' H' q k' hL' hS'=>r.nx L' S' σ' H' q (k1.trans k') hL' hS'⟩
def dWhile (c:DT) (b:DS):DS:=fun M L S=>∃ W:Nat->Lo->DH->Prop,(∃ m,W m L S)/\∀ m L S,W m L S->
 c L S fun t S1=>if t=true then ∃ N:Lo->DH->Prop,(∀ L' S',N L' S'->∃ m',m' < m/\W m' L' S')/\b {M with nx:=N,ct:=N,bk:=M.nx} L S1 else M.nx L S1
theorem dst_while {c:Expr} {body:List Stmt} {gc:DT} (hp:PassesOwn (model X.prog X.w) X.A X.env X.xe) (hc:PT X c (upT X.K gc)) (hb:PSs X body (upS X.K g)):PS X (.While c body [] pos) (upS X.K (dWhile gc g)):=
 PS.imp (ps_while hp hc hb) fun N σ H ⟨L,S,M,hL,hS,⟨W,⟨m0,w0⟩,turn⟩,r⟩=>by
  refine⟨fun m σ H1=>∃ L S,Lc X.K H1 L σ/\Hs X.K H1 S/\W m L S/\Kp H H1,⟨m0,L,S,hL,hS,w0,Kp.refl H⟩,?_⟩
  rintro m σ1 H1 ⟨L1,S1,hL1,hS1,w1,k1⟩
  refine upT.go hL1 hS1 (turn m L1 S1 w1) fun t S2 H2 h2 k2 hL2 hS2=>?_
  cases t with
  | true=>
   rw [if_pos rfl] at h2 ⊢
   obtain⟨N',hN,hb⟩:=h2
   refine⟨fun σ' H'=>∃ L' S',Lc X.K H' L' σ'/\Hs X.K H' S'/\N' L' S'/\Kp H H',?_,L1,S2,_,hL2,hS2,hb,?_⟩
   ·rintro σ' H' ⟨L',S',hL',hS',n',k'⟩
    obtain⟨m',hm,w'⟩:=hN L' S' n'
    exact⟨m',hm,L',S',hL',hS',w',k'⟩
   ·have r2:=r.kp (k1.trans k2)
    exact⟨fun L' S' σ' H' n' k' hL' hS'=>⟨L',S',hL',hS',n',(k1.trans k2).trans k'⟩,r2.rt,r2.nx,fun L' S' σ' H' n' k' hL' hS'=>⟨L',S',hL',hS',n',(k1.trans k2).trans k'⟩⟩
  | false=>
   rw [if_neg Bool.false_ne_true] at h2 ⊢
   exact(r.kp (k1.trans k2)).nx L1 S2 σ1 H2 h2 (Kp.refl H2) hL2 hS2
def dLoop (ok:DH->Prop) (g:DG) (b:DS) (M:DEnds):List D->Lo->DH->Prop
 | [],L,S=>ok S/\M.nx L S
 | d::r,L,S=>ok S/\g d L S fun L1 S1=>b {M with nx:=fun L2 S2=>dLoop ok g b M r L2 S2,ct:=fun L2 S2=>dLoop ok g b M r L2 S2,bk:=M.nx} L1 S1
theorem for_core {K:Fg} {ok:DH->Prop} {gg:DG} {b:DS} {M:DEnds} {ds:List D} {L:Lo} {S:DH} {N:Ends} {σ:L2.St} {H:Hp} {J:It} (hL:Lc K H L σ) (hS:Hs K H S) (h:dLoop ok gg b M ds L S) (r:Rch K H M N)
  (hgo:∀ i d S1 H1,ds[i]?=some d->Kp H H1->Hs K H1 S1->ok S1->J.go i H1/\∀ x H',J.yld i H1 x H'->H'=H1/\IsD K H1 d x)
  (hst:∀ S1 H1,Kp H H1->Hs K H1 S1->ok S1->J.stop ds.length H1):
  ∃ W:Nat->Nat->L2.St->Hp->Prop,(∃ m,W 0 m σ H)/\∀ i m σ H,W i m σ H->
   (J.stop i H/\N.nx σ H)\/(J.go i H/\∃ N':L2.St->Hp->Prop,(∀ σ' H',N' σ' H'->∃ m',m' < m/\W (i+1) m' σ' H')/\∀ x H',J.yld i H x H'->upG K gg x σ H' fun σ2 H2=>upS K b {N with nx:=N',ct:=N',bk:=N.nx} σ2 H2):=by
 refine⟨fun i m σ1 H1=>m=ds.length - i/\i<=ds.length/\∃ L1 S1,Lc K H1 L1 σ1/\Hs K H1 S1/\Kp H H1/\dLoop ok gg b M (ds.drop i) L1 S1,⟨ds.length,by simp,Nat.zero_le _,L,S,hL,hS,Kp.refl H,h⟩,?_⟩
 rintro i m σ1 H1 ⟨rfl,hi,L1,S1,hL1,hS1,k1,w1⟩
 by_cases hlt:i < ds.length
 ·have e:ds.drop i=ds[i]::ds.drop (i+1):=List.drop_eq_getElem_cons hlt
  rw [e] at w1
  obtain⟨o1,w1⟩:=w1
  obtain⟨g1,y1⟩:=hgo i ds[i] S1 H1 (by simp [hlt]) k1 hS1 o1
  refine .inr ⟨g1,fun σ' H'=>i+1<=ds.length/\∃ L' S',Lc K H' L' σ'/\Hs K H' S'/\Kp H H'/\dLoop ok gg b M (ds.drop (i+1)) L' S',fun σ' H' ⟨q1,q2⟩=>⟨ds.length - (i+1),by omega,rfl,q1,q2⟩,fun x H' y=>?_⟩
  obtain⟨rfl,ix⟩:=y1 x H' y
  refine⟨ds[i],L1,S1,_,ix,hL1,hS1,w1,fun L2 S2 σ2 H2 q k2 hL2 hS2=>⟨L2,S2,_,hL2,hS2,q,?_⟩⟩
  have r2:=r.kp (k1.trans k2)
  exact⟨fun L3 S3 σ3 H3 q3 k3 hL3 hS3=>⟨hlt,L3,S3,hL3,hS3,(k1.trans k2).trans k3,q3⟩,r2.rt,r2.nx,fun L3 S3 σ3 H3 q3 k3 hL3 hS3=>⟨hlt,L3,S3,hL3,hS3,(k1.trans k2).trans k3,q3⟩⟩
 ·have e:i=ds.length:=by omega
  subst e
  rw [List.drop_length] at w1
  obtain⟨o1,w1⟩:=w1
  exact .inl ⟨hst S1 H1 k1 hS1 o1,r.nx L1 S1 σ1 H1 w1 k1 hL1 hS1⟩
def dItems (S:DH):D->Option (List D×Option Addr)
 | .tup ds=>some (ds,none)
 | .rl ds=>some (ds,none)
 | .ref a=>(match S a with
  | some (.lst ds)=>some (ds,some a)
  | _=>none)
 | _=>none
def okFor:List D×Option Addr->DH->Prop
 | (_,none)=>fun _=>True
 | (ds,some a)=>fun S=>S a=some (.lst ds)
theorem PI.imp {tg e:Expr} {w w':TI} (h:PI X tg e w) (i:∀ σ H R,w' σ H R->w σ H R):PI X tg e w':=fun pins s σ H R I q=>h pins s σ H R I (i σ H R q)
def iSeq (K:Fg) (t:TE):TI:=fun σ H R=>t σ H fun x H1=>∃ a,x=.ref a/\(((∃ xs,SqL K H1 a xs)/\R (Itl K a) H1)\/((∃ xs,SqT K H1 a xs)/\R (Itt K a) H1))
theorem pi_seq {tg l:Expr} {tl:TE} (hl:PE X l tl):PI X tg l (iSeq X.K tl):=by
 intro pins s σ H R I h
 refine thn (hl pins s σ H _ I h) fun v s1 ⟨x,H1,I1,r1,q1⟩=>?_
 obtain⟨a,e,q1⟩:=q1
 subst e
 cases r1
 rcases q1 with ⟨⟨xs,hq⟩,q⟩ | ⟨⟨xs,hq⟩,q⟩
 ·obtain⟨its,rv,p,hz⟩:=I1.list hq
  refine wpAny_pyIter_list p.isList ?_
  refine⟨s1.heap.objs.size,[s1.heap.objs.size],_,_,H1,rfl,I1.kept (t':=s1.toks) fun b o e=>Heap.get?_push_of_some _ e,turn_list a _,⟨_,Heap.get?_push_size _ rfl,rfl,rfl⟩,fun b hb=>?_,q⟩
  have e:b=s1.heap.objs.size:=by simpa using hb
  subst e
  exact I1.fpOk (Nat.le_refl _) (I1.hok.fresh (Nat.le_refl _))
 ·obtain⟨its,rv,p,hz⟩:=I1.tuple hq
  refine wpAny_pyIter_tuple (show s1.heap.IsTuple a its.toArray from p) ?_
  refine⟨s1.heap.objs.size,[s1.heap.objs.size],_,_,H1,rfl,I1.kept (t':=s1.toks) fun b o e=>Heap.get?_push_of_some _ e,turn_tuple a _,⟨_,Heap.get?_push_size _ rfl,rfl,rfl⟩,fun b hb=>?_,q⟩
  have e:b=s1.heap.objs.size:=by simpa using hb
  subst e
  exact I1.fpOk (Nat.le_refl _) (I1.hok.fresh (Nat.le_refl _))
def dForR (ta:DA) (g:DG) (b:DS):DS:=fun M L S=>ta L S fun ds S1=>match ds with
 | [.int n]=>(-(2 ^ 62)<=n/\n < 2 ^ 62)/\dLoop (fun _=>True) g b M ((List.range n.toNat).map fun i=>D.int (i:Nat)) L S1
 | _=>False
theorem dst_forR {tg a:Expr} {body:List Stmt} {ta:DA} {gg:DG} {p pos':Pos} (hp:PassesOwn (model X.prog X.w) X.A X.env X.xe) (hc:X.calm=true) (hgl:Gl X "range") (hm:X.mg "range"=none) (ha:PA X [a] (upA X.K ta)) (hg:PG X tg (upG X.K gg)) (hb:PSs X body (upS X.K g))
  (hs1:starEach [a] X.env=[(false,eval a X.env)]:=by rfl) (hs:∀ x,foldedSetIterable (.Call (.Name "range" p) [a] [] pos') X.env x=pure x:=by intro _; rfl):PS X (.For tg (.Call (.Name "range" p) [a] [] pos') body [] pos) (upS X.K (dForR ta gg g)):=
 PS.imp (ps_for hp hc (pi_range1 hgl hm ha hs1) hg hb hs) fun N σ H ⟨L,S,M,hL,hS,h,r⟩=>upA.go hL hS h fun ds S1 vs H1 h1 k1 hL1 hS1 i1=>by
  split at h1
  ·obtain⟨v,rfl,j⟩:=isDs1 i1
   have e:=isInt.mp j
   subst e
   obtain⟨⟨h2,h3⟩,h1⟩:=h1
   refine⟨_,rfl,h2,h3,for_core hL1 hS1 h1 (r.kp k1) (fun i d S2 H2 e k2 hS2 _=>?_) fun S2 H2 k2 hS2 _=>?_⟩
   ·rw [List.getElem?_map] at e
    cases q:(List.range (Int.toNat _))[i]? with
    | none=>rw [q] at e; cases e
    | some z=>
     rw [q] at e
     cases e
     have hz:=List.getElem?_eq_some_iff.mp q
     obtain⟨hz1,hz2⟩:=hz
     rw [List.length_range] at hz1
     rw [List.getElem_range] at hz2
     subst hz2
     exact⟨hz1,fun x H' y=>⟨y.1,by rw [y.2]; exact isInt.mpr (by rw [Int.zero_add])⟩⟩
   ·rw [List.length_map,List.length_range]
    exact Nat.le_refl _
  ·exact h1.elim
end
section
variable {P:Program} {w:World} {K:Fg} {mg:Str->Option Value} {base:Heap}
theorem _root_.L2.Fun.okD {x qual:Str} {st:Stmt} {f:Addr} {fd:FuncData} {N ps:List Str} {k:Nat} {F:DSp} (Fn:Fun K x qual st f fd) (Sc:FnScope N ps (defScope st)) (len:∀ ds S k,F ds S k->ds.length=ps.length)
  (hbody:∀ (cdv:Value) (A:Around) (outer:List Env) (s:Shared) (H:Hp) (E:XK),Room k (A.deeper (envOfC qual (defScope st) s.heap.objs.size f cdv))->
   ∃ g,PSs (cxOf CX0 P w K mg base N qual (defScope st) f cdv A outer s H E).nox (defBody st) (upS K g)/\
    ∀ ds S k,F ds S k->g {nx:=fun _ S'=>k .non S',rt:=k} (ds.map some++List.replicate (N.length - ps.length) none) S):FnOk P w K mg base CX0 (k+1) f fd ps (spU K F):=by
 refine Fn.ok Sc (fun vs H Q E h=>?_) (fun cdv A outer s H vs Q E hr h=>?_)
 ·obtain⟨ds,S,k,i,_,q,_⟩:=h
  rw [<- i.length]
  exact len ds S k q
 ·obtain⟨g,hg,q⟩:=hbody cdv A outer s H E hr
  obtain⟨ds,S,k',i,hS,h,n⟩:=h
  refine⟨_,hg,ds.map some++List.replicate (N.length - ps.length) none,S,_,?_,hS,q ds S k' h,?_⟩
  ·unfold L2.start
   rw [<- i.length,len ds S k' h]
   exact Lc.start _ i
  ·exact⟨fun L S' σ H' h1 k1 _ hS'=>n _ S' _ H' h1 k1 hS' (isNon.mpr rfl),fun d S' v H' h1 k1 hS' i1=>n d S' v H' h1 k1 hS' i1,fun _ _ _ _ h1=>h1.elim,fun _ _ _ _ h1=>h1.elim⟩
theorem Own.mk' {x qual:Str} {st:Stmt} {f:Addr} {fd:FuncData} {ps:List Str} {n:Nat} {F:DSp} (Fn:Fun K x qual st f fd) (h:FnOk P w K mg base CX0 n f fd ps (spU K F)) (hm:mg x=some (.ref f)) (hb:Binds K fd ps []):Own P w K mg base x n F:=
 ⟨f,fd,ps,h,hm,Fn.kp,hb⟩
end
end DL
namespace DL
open PySem PySem.Spec PyProof.Rows L2 HM
theorem mok {m n:Nat} {x y:Int} (hx:Bt m x) (hy:Bt n y) (h:m+n<=134217728:=by decide):IntMulOk x y:=IntMulOk.of_le (intBits_le_iff.mpr hx) (intBits_le_iff.mpr hy) h
theorem dok {m:Nat} {y:Int} (h0:y≠0) (hy:Bt m y) (h:m<=9000:=by decide):CDivB x y:=⟨h0,(Nat.log2_lt (by omega)).mpr (hy.mono h)⟩
def pr (a b:Int):D:=.tup [.int a,.int b]
def fr (q:Rat):D:=pr q.num (q.den:Int)
end DL
namespace DL
theorem atI0 {x:D} {r:List D}:L2.atI (x::r) 0=some x:=L2.atI_nat (j:=0) rfl
theorem atI1 {x y:D} {r:List D}:L2.atI (x::y::r) 1=some y:=L2.atI_nat (j:=1) rfl
theorem ixN0 {n:Nat}:L2.ixN (n+1) 0=some 0:=by
 unfold L2.ixN
 rw [if_pos (by decide),if_pos (by omega)]
 rfl
end DL
namespace DL
open PySem PySem.Spec PyProof.Rows L2
def eqS:D->D->Option Bool
 | .int i,.int j=>some (i == j)
 | .bl i,.bl j=>some (i == j)
 | .str i,.str j=>some (i == j)
 | .non,.non=>some true
 | .non,.int _=>some false
 | .int _,.non=>some false
 | .non,.bl _=>some false
 | .bl _,.non=>some false
 | .bl a,.int j=>some ((if a then 1 else 0) == j)
 | .int i,.bl b=>some (i == (if b then 1 else 0))
 | _,_=>none
def eqTs (f:D->D->Option Bool):List D->List D->Option Bool
 | [],[]=>some true
 | [],_::_=>some false
 | _::_,[]=>some false
 | x::xs,y::ys=>match f x y,eqTs f xs ys with
  | some a,some b=>some (a && b)
  | _,_=>none
def eqT:Nat->D->D->Option Bool
 | 0,d,e=>eqS d e
 | n+1,.tup xs,.tup ys=>eqTs (eqT n) xs ys
 | _+1,d,e=>eqS d e
theorem eqT_succ (n:Nat) (d e:D):eqT (n+1) d e=(match d,e with | .tup xs,.tup ys=>eqTs (eqT n) xs ys | d,e=>eqS d e):=by
 cases d <;> cases e <;> rfl
def eqAts (f:D->D->Option Bool):List D->List D->Nat->Bool
 | x::_,y::_,0=>(f x y).getD false
 | _::xs,_::ys,j+1=>eqAts f xs ys j
 | _,_,_=>false
theorem all_succ (e:Nat->Bool) (m:Nat):(List.range (m+1)).all e=(e 0 && (List.range m).all fun j=>e (j+1)):=by
 rw [List.range_succ_eq_map,List.all_cons,List.all_map]
 rfl
theorem eqTs_all {f:D->D->Option Bool}:∀ {xs ys:List D} {b:Bool},eqTs f xs ys=some b->((List.range (min xs.length ys.length)).all (eqAts f xs ys) && xs.length == ys.length)=b
 | [],[],b,h=>by unfold eqTs at h; cases h; rfl
 | [],_::_,b,h=>by unfold eqTs at h; cases h; simp
 | _::_,[],b,h=>by unfold eqTs at h; cases h; simp
 | x::xs,y::ys,b,h=>by
  unfold eqTs at h
  split at h
  ·rename_i a c e1 e2
   cases h
   have ih:=eqTs_all e2
   rw [List.length_cons,List.length_cons,Nat.succ_min_succ,all_succ]
   have e3:eqAts f (x::xs) (y::ys) 0=a:=by unfold eqAts; rw [e1]; rfl
   rw [e3,Bool.and_assoc]
   have e4:(fun j=>eqAts f (x::xs) (y::ys) (j+1))=eqAts f xs ys:=by funext j; rfl
   rw [e4]
   have e5:(xs.length+1 == ys.length+1)=(xs.length == ys.length):=by simp
   rw [e5,ih]
  ·cases h
theorem eqTs_at {f:D->D->Option Bool}:∀ {xs ys:List D} {b:Bool} {j:Nat} {x y:D},eqTs f xs ys=some b->xs[j]?=some x->ys[j]?=some y->f x y=some (eqAts f xs ys j)
 | [],_,_,_,_,_,_,e,_=>by simp at e
 | _::_,[],_,_,_,_,_,_,e=>by simp at e
 | x::xs,y::ys,b,0,x',y',h,e1,e2=>by
  simp at e1 e2
  subst e1; subst e2
  unfold eqTs at h
  split at h
  ·rename_i a c q1 q2
   unfold eqAts
   rw [q1]
   rfl
  ·cases h
 | x::xs,y::ys,b,j+1,x',y',h,e1,e2=>by
  unfold eqTs at h
  split at h
  ·rename_i a c q1 q2
   unfold eqAts
   exact eqTs_at q2 (by simpa using e1) (by simpa using e2)
  ·cases h
section
variable {X:Cx} {pins:List (Addr×Obj)} {σ:L2.St} {H:Hp} {s:Shared}
theorem pair_at {K:Fg} {ds es:List D} {xs ys:List V} {us ws:List Value} {j:Nat} (i1:IsDs K H ds xs) (i2:IsDs K H es ys) (r1:Vals xs us) (r2:Vals ys ws) (h1:j < us.length) (h2:j < ws.length):
  ∃ d e x y,ds[j]?=some d/\es[j]?=some e/\IsD K H d x/\IsD K H e y/\RelV x us[j]/\RelV y ws[j]:=by
 have l1:=i1.length
 have l2:=i2.length
 have l3:=r1.length
 have l4:=r2.length
 have e1:ds[j]?=some ds[j]:=by simp [show j < ds.length by omega]
 have e2:es[j]?=some es[j]:=by simp [show j < es.length by omega]
 obtain⟨x,q1,d1⟩:=i1.get e1
 obtain⟨y,q2,d2⟩:=i2.get e2
 obtain⟨u,q3,rx⟩:=r1.get q1
 obtain⟨w,q4,ry⟩:=r2.get q2
 have f1:us[j]=u:=(List.getElem?_eq_some_iff.mp q3).2
 have f2:ws[j]=w:=(List.getElem?_eq_some_iff.mp q4).2
 exact⟨_,_,x,y,e1,e2,d1,d2,by rw [f1]; exact rx,by rw [f2]; exact ry⟩
theorem eqS_at {K:Fg} {A:Around} {d e:D} {x y:V} {u w:Value} {b:Bool} (h:eqS d e=some b) (i1:IsD K H d x) (i2:IsD K H e y) (rx:RelV x u) (ry:RelV y w):SeqAt.EqAt A s u w b/\SeqAt.RcAt A s u w b:=by
 unfold eqS at h
 split at h
 ·cases h; rw [isInt.mp i1] at rx; rw [isInt.mp i2] at ry; obtain⟨t,rfl⟩:=rx; obtain⟨t',rfl⟩:=ry; exact⟨(SeqAt.EqAt.int_int _ _ _ _),(SeqAt.RcAt.int_int _ _ _ _)⟩
 ·cases h; rw [isBl.mp i1] at rx; rw [isBl.mp i2] at ry; cases rx; cases ry; exact⟨(SeqAt.EqAt.bool_bool _ _),(SeqAt.RcAt.bool_bool _ _)⟩
 ·cases h; rw [isStr.mp i1] at rx; rw [isStr.mp i2] at ry; obtain⟨t,rfl⟩:=rx; obtain⟨t',rfl⟩:=ry; exact⟨(SeqAt.EqAt.str_str _ _ _ _),(SeqAt.RcAt.str_str _ _ _ _)⟩
 ·cases h; rw [isNon.mp i1] at rx; rw [isNon.mp i2] at ry; cases rx; cases ry; exact⟨SeqAt.EqAt.same _,SeqAt.RcAt.none_none⟩
 ·cases h; rw [isNon.mp i1] at rx; rw [isInt.mp i2] at ry; cases rx; obtain⟨t',rfl⟩:=ry; exact⟨(SeqAt.EqAt.none_int _ _),(SeqAt.RcAt.none_int _ _)⟩
 ·cases h; rw [isInt.mp i1] at rx; rw [isNon.mp i2] at ry; obtain⟨t,rfl⟩:=rx; cases ry; exact⟨(SeqAt.EqAt.int_none _ _),(SeqAt.RcAt.int_none _ _)⟩
 ·cases h; rw [isNon.mp i1] at rx; rw [isBl.mp i2] at ry; cases rx; cases ry; exact⟨(SeqAt.EqAt.none_bool _),(SeqAt.RcAt.none_bool _)⟩
 ·cases h; rw [isBl.mp i1] at rx; rw [isNon.mp i2] at ry; cases rx; cases ry; exact⟨(SeqAt.EqAt.bool_none _),(SeqAt.RcAt.bool_none _)⟩
 ·cases h; rw [isBl.mp i1] at rx; rw [isInt.mp i2] at ry; cases rx; obtain⟨t',rfl⟩:=ry; exact⟨(SeqAt.EqAt.bool_int _ _ _),(SeqAt.RcAt.bool_int _ _ _)⟩
 ·cases h; rw [isInt.mp i1] at rx; rw [isBl.mp i2] at ry; obtain⟨t,rfl⟩:=rx; cases ry; exact⟨(SeqAt.EqAt.int_bool _ _ _),(SeqAt.RcAt.int_bool _ _ _)⟩
 ·cases h
theorem eqS_same {K:Fg} {d e:D} {x:V} {b:Bool} (h:eqS d e=some b) (i1:IsD K H d x) (i2:IsD K H e x):b=true:=by
 unfold eqS at h
 split at h
 ·cases h; have e1:=isInt.mp i1; have e2:=isInt.mp i2; rw [e1] at e2; cases e2; simp
 ·cases h; have e1:=isBl.mp i1; have e2:=isBl.mp i2; rw [e1] at e2; cases e2; simp
 ·cases h; have e1:=isStr.mp i1; have e2:=isStr.mp i2; rw [e1] at e2; cases e2; simp
 ·cases h; rfl
 ·have e1:=isNon.mp i1; have e2:=isInt.mp i2; rw [e1] at e2; cases e2
 ·have e1:=isInt.mp i1; have e2:=isNon.mp i2; rw [e1] at e2; cases e2
 ·have e1:=isNon.mp i1; have e2:=isBl.mp i2; rw [e1] at e2; cases e2
 ·have e1:=isBl.mp i1; have e2:=isNon.mp i2; rw [e1] at e2; cases e2
 ·have e1:=isBl.mp i1; have e2:=isInt.mp i2; rw [e1] at e2; cases e2
 ·have e1:=isInt.mp i1; have e2:=isBl.mp i2; rw [e1] at e2; cases e2
 ·cases h
theorem eqTs_same {K:Fg} {f:D->D->Option Bool} (hf:∀ d e x b,f d e=some b->IsD K H d x->IsD K H e x->b=true):∀ {ds es:List D} {xs:List V} {b:Bool},eqTs f ds es=some b->IsDs K H ds xs->IsDs K H es xs->b=true
 | [],[],_,_,h,_,_=>by unfold eqTs at h; cases h; rfl
 | [],_::_,_,_,_,i1,i2=>by
  have e1:=isNil.mp i1
  obtain⟨v,r,e2,_⟩:=isCons.mp i2
  rw [e1] at e2; cases e2
 | _::_,[],_,_,_,i1,i2=>by
  have e1:=isNil.mp i2
  obtain⟨v,r,e2,_⟩:=isCons.mp i1
  rw [e1] at e2; cases e2
 | d::ds,e::es,xs,b,h,i1,i2=>by
  obtain⟨v,r,e1,h1,h2⟩:=isCons.mp i1
  obtain⟨v',r',e2,h3,h4⟩:=isCons.mp i2
  rw [e1] at e2
  cases e2
  unfold eqTs at h
  split at h
  ·rename_i a c q1 q2
   cases h
   rw [hf _ _ _ _ q1 h1 h3,eqTs_same hf q2 h2 h4]
   rfl
  ·cases h
theorem eqT_same (I:Inv X pins σ H s):∀ (n:Nat) (d e:D) (x:V) (b:Bool),eqT n d e=some b->IsD X.K H d x->IsD X.K H e x->b=true
 | 0,d,e,x,b,h,i1,i2=>eqS_same (by unfold eqT at h; exact h) i1 i2
 | n+1,d,e,x,b,h,i1,i2=>by
  rw [eqT_succ] at h
  split at h
  ·rename_i xs ys
   obtain⟨a,vs,e1,t1,j1⟩:=isTup.mp i1
   obtain⟨a',vs',e2,t2,j2⟩:=isTup.mp i2
   rw [e1] at e2
   cases e2
   have q:=I.tuple_inj t1 t2
   subst q
   exact eqTs_same (fun d e x b=>eqT_same I n d e x b) h j1 j2
  ·exact eqS_same h i1 i2
theorem eqT_at (I:Inv X pins σ H s):∀ (n:Nat) (A:Around) (d e:D) (x y:V) (u w:Value) (b:Bool),A.units+n < cLine->eqT n d e=some b->IsD X.K H d x->IsD X.K H e y->RelV x u->RelV y w->SeqAt.EqAt A s u w b/\SeqAt.RcAt A s u w b
 | 0,A,d,e,x,y,u,w,b,hu,h,i1,i2,rx,ry=>eqS_at (by unfold eqT at h; exact h) i1 i2 rx ry
 | n+1,A,d,e,x,y,u,w,b,hu,h,i1,i2,rx,ry=>by
  have h0:=h
  rw [eqT_succ] at h
  split at h
  ·rename_i xs ys
   obtain⟨p,vs,rfl,t1,j1⟩:=isTup.mp i1
   obtain⟨q,vs',rfl,t2,j2⟩:=isTup.mp i2
   cases rx
   cases ry
   obtain⟨us,r1,p1,_⟩:=I.tuple t1
   obtain⟨ws,r2,p2,_⟩:=I.tuple t2
   have l1:=j1.length
   have l2:=j2.length
   have l3:=r1.length
   have l4:=r2.length
   have rc:SeqAt.RcAt A s (.ref p) (.ref q) b:=by
    have e:=eqTs_all h
    have z:=SeqAt.RcAt.tuples (A:=A) (s:=s) (items:=us.toArray) (items2:=ws.toArray) (e:=eqAts (eqT n) xs ys) (show s.heap.IsTuple p us.toArray from p1) (show s.heap.IsTuple q ws.toArray from p2) (by omega) (fun j h1 h2=>by
     simp only [List.size_toArray] at h1 h2
     obtain⟨d,e,x,y,q1,q2,d1,d2,rx,ry⟩:=pair_at j1 j2 r1 r2 h1 h2
     have:=(eqT_at I n A.in1 d e x y us[j] ws[j] _ (by show A.units+1+n < cLine; omega) (eqTs_at h q1 q2) d1 d2 rx ry).1
     simpa using this)
    simp only [List.size_toArray] at z
    rw [<- l3,<- l4,<- l1,<- l2,e] at z
    exact z
   refine⟨?_,rc⟩
   by_cases hpq:p=q
   ·subst hpq
    have:=eqT_same I (n+1) _ _ _ _ h0 i1 i2
    subst this
    exact SeqAt.EqAt.same _
   ·exact SeqAt.EqAt.of_refs hpq rc
  ·exact eqS_at h i1 i2 rx ry
theorem eqS_ne {K:Fg} {A:Around} {d e:D} {x y:V} {u w:Value} {b:Bool} (h:eqS d e=some b) (i1:IsD K H d x) (i2:IsD K H e y) (rx:RelV x u) (ry:RelV y w):SeqAt.RcNeAt A s u w (!b):=by
 unfold eqS at h
 split at h
 ·cases h; rw [isInt.mp i1] at rx; rw [isInt.mp i2] at ry; obtain⟨t,rfl⟩:=rx; obtain⟨t',rfl⟩:=ry; exact(SeqAt.RcNeAt.int_int _ _ _ _)
 ·cases h; rw [isBl.mp i1] at rx; rw [isBl.mp i2] at ry; cases rx; cases ry; exact(SeqAt.RcNeAt.bool_bool _ _)
 ·cases h; rw [isStr.mp i1] at rx; rw [isStr.mp i2] at ry; obtain⟨t,rfl⟩:=rx; obtain⟨t',rfl⟩:=ry; exact(SeqAt.RcNeAt.str_str _ _ _ _)
 ·cases h; rw [isNon.mp i1] at rx; rw [isNon.mp i2] at ry; cases rx; cases ry; exact SeqAt.RcNeAt.none_none
 ·cases h; rw [isNon.mp i1] at rx; rw [isInt.mp i2] at ry; cases rx; obtain⟨t',rfl⟩:=ry; exact(SeqAt.RcNeAt.none_int _ _)
 ·cases h; rw [isInt.mp i1] at rx; rw [isNon.mp i2] at ry; obtain⟨t,rfl⟩:=rx; cases ry; exact(SeqAt.RcNeAt.int_none _ _)
 ·cases h; rw [isNon.mp i1] at rx; rw [isBl.mp i2] at ry; cases rx; cases ry; exact(SeqAt.RcNeAt.none_bool _)
 ·cases h; rw [isBl.mp i1] at rx; rw [isNon.mp i2] at ry; cases rx; cases ry; exact(SeqAt.RcNeAt.bool_none _)
 ·cases h; rw [isBl.mp i1] at rx; rw [isInt.mp i2] at ry; cases rx; obtain⟨t',rfl⟩:=ry; exact(SeqAt.RcNeAt.bool_int _ _ _)
 ·cases h; rw [isInt.mp i1] at rx; rw [isBl.mp i2] at ry; obtain⟨t,rfl⟩:=rx; cases ry; exact(SeqAt.RcNeAt.int_bool _ _ _)
 ·cases h
theorem eqT_ne (I:Inv X pins σ H s) (n:Nat) (A:Around) (d e:D) (x y:V) (u w:Value) (b:Bool) (hu:A.units+n < cLine) (h:eqT n d e=some b) (i1:IsD X.K H d x) (i2:IsD X.K H e y) (rx:RelV x u) (ry:RelV y w):SeqAt.RcNeAt A s u w (!b):=by
 cases n with
 | zero=>exact eqS_ne (by unfold eqT at h; exact h) i1 i2 rx ry
 | succ n=>
  rw [eqT_succ] at h
  split at h
  ·rename_i xs ys
   obtain⟨p,vs,rfl,t1,j1⟩:=isTup.mp i1
   obtain⟨q,vs',rfl,t2,j2⟩:=isTup.mp i2
   cases rx
   cases ry
   obtain⟨us,r1,p1,_⟩:=I.tuple t1
   obtain⟨ws,r2,p2,_⟩:=I.tuple t2
   have l1:=j1.length
   have l2:=j2.length
   have l3:=r1.length
   have l4:=r2.length
   have e:=eqTs_all h
   have z:=SeqAt.RcNeAt.tuples (A:=A) (s:=s) (items:=us.toArray) (items2:=ws.toArray) (e:=eqAts (eqT n) xs ys) (show s.heap.IsTuple p us.toArray from p1) (show s.heap.IsTuple q ws.toArray from p2) (by omega) (fun j h1 h2=>by
    simp only [List.size_toArray] at h1 h2
    obtain⟨d,e,x,y,q1,q2,d1,d2,rx,ry⟩:=pair_at j1 j2 r1 r2 h1 h2
    have:=(eqT_at I n A.in1 d e x y us[j] ws[j] _ (by show A.units+1+n < cLine; omega) (eqTs_at h q1 q2) d1 d2 rx ry).1
    simpa using this)
   simp only [List.size_toArray] at z
   rw [<- l3,<- l4,<- l1,<- l2,e] at z
   exact z
  ·exact eqS_ne h i1 i2 rx ry
end
structure EJ (X:Cx) (e:Expr) (g:DE):Prop where
 h:PE X e (up X.K g)
structure TJ (X:Cx) (e:Expr) (g:DT):Prop where
 h:PT X e (upT X.K g)
structure WJ (X:Cx) (e:Expr) (g:DT):Prop where
 h:PW X e (upT X.K g)
structure AJ (X:Cx) (e:List Expr) (g:DA):Prop where
 h:PA X e (upA X.K g)
structure SJ (X:Cx) (e:Stmt) (g:DS):Prop where
 h:PS X e (upS X.K g)
structure SsJ (X:Cx) (e:List Stmt) (g:DS):Prop where
 h:PSs X e (upS X.K g)
structure GJ (X:Cx) (e:Expr) (g:DG):Prop where
 h:PG X e (upG X.K g)
structure GsJ (X:Cx) (e:List Expr) (g:DGs):Prop where
 h:PGs X e (upGs X.K g)
structure OJ (X:Cx) (e:Option Expr) (g:DOp):Prop where
 h:PO X e (upO X.K g)
theorem WJ.pt {X:Cx} {e:Expr} {g:DT} (h:WJ X e g):TJ X e g:=⟨PW.pt h.h⟩
section
variable {X:Cx} {a b c:Expr} {ga gb gc:DE} {pos:Pos}
theorem d_varj (i:Nat) {x:Str} (hN:X.N[i]?=some x:=by rfl) (hv:Vis X.env.scope x:=by first | exact Or.inl rfl | exact Or.inr (Or.inl rfl) | exact Or.inr (Or.inr rfl)) (hd:(x == ("__debug__":Str))=false:=by decide) (hcd:(x == ("__classdict__":Str))=false:=by decide):EJ X (.Name x pos) (dVar i):=⟨d_var (i:=i) (hN:=hN) (hv:=hv) (hd:=hd) (hcd:=hcd)⟩
end
section
variable {X:Cx} {a b c:Expr} {ga gb gc:DE} {pos:Pos}
theorem d_intj {i j pos}:EJ X (.Constant (.int i) j pos) (dC (.int i)):=⟨d_int⟩
end
section
variable {X:Cx} {a b c:Expr} {ga gb gc:DE} {pos:Pos}
theorem d_blj {i j pos}:EJ X (.Constant (.bool i) j pos) (dC (.bl i)):=⟨d_bl⟩
end
section
variable {X:Cx} {a b c:Expr} {ga gb gc:DE} {pos:Pos}
theorem d_nonj {j pos}:EJ X (.Constant .none j pos) (dC .non):=⟨d_non⟩
end
section
variable {X:Cx} {a b c:Expr} {ga gb gc:DE} {pos:Pos}
theorem d_tyj {x:Str} {n:Ty} (hg:Gl X x) (hm:X.mg x=none) (hv:bootBuiltins x=some (.type n.name)) (hn:x≠"__name__":=by decide) (hd:(x == ("__debug__":Str))=false:=by decide):EJ X (.Name x pos) (dC (.ty n)):=⟨d_ty (hg:=hg) (hm:=hm) (hv:=hv) (hn:=hn) (hd:=hd)⟩
end
section
variable {X:Cx} {a b c:Expr} {ga gb gc:DE} {pos:Pos}
theorem da_nilj:AJ X [] dNil:=⟨da_nil⟩
end
section
variable {X:Cx} {a b c:Expr} {ga gb gc:DE} {pos:Pos}
theorem da_consj {es:List Expr} {t:DA} (ha:EJ X a ga) (hr:AJ X es t) (hs:starEach (a::es) X.env=(false,eval a X.env)::starEach es X.env:=by exact star_cons rfl):AJ X (a::es) (dCons ga t):=⟨da_cons (ha:=ha.h) (hr:=hr.h) (hs:=hs)⟩
end
section
variable {X:Cx} {a b c:Expr} {ga gb gc:DE} {pos:Pos}
theorem d_tupj {es:List Expr} {x1} {t:DA} (h:AJ X es t):EJ X (.Tuple es x1 pos) (dTup t):=⟨d_tup (h:=h.h)⟩
end
section
variable {X:Cx} {a b c:Expr} {ga gb gc:DE} {pos:Pos}
theorem d_lstj {es:List Expr} {t:DA} (h:AJ X es t):EJ X (.List es pos) (dLst t):=⟨d_lst (h:=h.h)⟩
end
section
variable {X:Cx} {a b c:Expr} {ga gb gc:DE} {pos:Pos}
theorem d_opj {op:Operator} {r:D2} (ho:OpR X (binaryOp op) (upR X.K r)) (ha:EJ X a ga) (hb:EJ X b gb):EJ X (.BinOp a op b pos) (dOp r ga gb):=⟨d_op (ho:=ho) (ha:=ha.h) (hb:=hb.h)⟩
end
section
variable {X:Cx} {a b c:Expr} {ga gb gc:DE} {pos:Pos}
theorem d_cmpj {op:CmpOp} {r:D2} (ho:OpR X (compareOp op) (upR X.K r)) (ha:EJ X a ga) (hb:EJ X b gb) (hm:behindInMarks op b=false):EJ X (.Compare a [op] [b] pos) (dOp r ga gb):=⟨d_cmp (ho:=ho) (ha:=ha.h) (hb:=hb.h) (hm:=hm)⟩
end
section
variable {X:Cx} {a b c:Expr} {ga gb gc:DE} {pos:Pos}
theorem d_ixj {r:D2} (hr:IxR X (upR X.K r)) (ha:EJ X a ga) (hb:EJ X b gb) (hs:PlainIx b):EJ X (.Subscript a b pos) (dOp r ga gb):=⟨d_ix (hr:=hr) (ha:=ha.h) (hb:=hb.h) (hs:=hs)⟩
end
section
variable {X:Cx} {a b c:Expr} {ga gb gc:DE} {pos:Pos}
theorem d_unj {op:UnaryOp} {r:D1} (ho:UnR X (unaryOp op) (upU X.K r)) (ha:EJ X a ga):EJ X (.UnaryOp op a pos) (dUn r ga):=⟨d_un (ho:=ho) (ha:=ha.h)⟩
end
section
variable {X:Cx} {a b c:Expr} {ga gb gc:DE} {pos:Pos}
theorem dt_cmpj {op:CmpOp} {r:D2} (ho:OpR X (compareOp op) (upR X.K r)) (ha:EJ X a ga) (hb:EJ X b gb) (hm:behindInMarks op b=false):TJ X (.Compare a [op] [b] pos) (dTest (dOp r ga gb)):=⟨dt_cmp (ho:=ho) (ha:=ha.h) (hb:=hb.h) (hm:=hm)⟩
end
section
variable {X:Cx} {a b c:Expr} {ga gb gc:DE} {pos:Pos}
theorem dt_valj {e:Expr} {g:DE} (h:EJ X e g) (he:∀ whole,isTrue e X.env whole=(do let v <- whole; standAt e.pos; holding [v] (truthy v)):=by intro _; rfl):TJ X e (dTest g):=⟨dt_val (h:=h.h) (he:=he)⟩
end
section
variable {X:Cx} {a b c:Expr} {ga gb gc:DE} {pos:Pos}
variable {tA tB':DT} {rest:List Expr}
theorem dw_and1j (ha:TJ X a tA):WJ X (.BoolOp .And [a] pos) tA:=⟨dw_and1 (ha:=ha.h)⟩
end
section
variable {X:Cx} {a b c:Expr} {ga gb gc:DE} {pos:Pos}
variable {tA tB':DT} {rest:List Expr}
theorem dw_or1j (ha:TJ X a tA):WJ X (.BoolOp .Or [a] pos) tA:=⟨dw_or1 (ha:=ha.h)⟩
end
section
variable {X:Cx} {a b c:Expr} {ga gb gc:DE} {pos:Pos}
variable {tA tB':DT} {rest:List Expr}
theorem dw_andj (ha:TJ X a tA) (hb:WJ X (.BoolOp .And (b::rest) pos) tB'):WJ X (.BoolOp .And (a::b::rest) pos) (dAndT tA tB'):=⟨dw_and (ha:=ha.h) (hb:=hb.h)⟩
end
section
variable {X:Cx} {a b c:Expr} {ga gb gc:DE} {pos:Pos}
variable {tA tB':DT} {rest:List Expr}
theorem dw_orj (ha:TJ X a tA) (hb:WJ X (.BoolOp .Or (b::rest) pos) tB'):WJ X (.BoolOp .Or (a::b::rest) pos) (dOrT tA tB'):=⟨dw_or (ha:=ha.h) (hb:=hb.h)⟩
end
section
variable {X:Cx} {a b c:Expr} {ga gb gc:DE} {pos:Pos}
variable {tA tB':DT} {rest:List Expr}
theorem dt_notj (ha:TJ X a tA):TJ X (.UnaryOp .Not a pos) (dNotT tA):=⟨dt_not (ha:=ha.h)⟩
end
section
variable {X:Cx} {a b c:Expr} {ga gb gc:DE} {pos:Pos}
variable {tA tB':DT} {rest:List Expr}
theorem d_onej {op} (h:EJ X a ga):EJ X (.BoolOp op [a] pos) ga:=⟨d_one (h:=h.h)⟩
end
section
variable {X:Cx} {a b c:Expr} {ga gb gc:DE} {pos:Pos}
variable {tA tB':DT} {rest:List Expr}
theorem d_andj (ha:EJ X a ga) (hb:EJ X (.BoolOp .And (b::rest) pos) gb):EJ X (.BoolOp .And (a::b::rest) pos) (dAndV ga gb):=⟨d_and (ha:=ha.h) (hb:=hb.h)⟩
end
section
variable {X:Cx} {a b c:Expr} {ga gb gc:DE} {pos:Pos}
variable {tA tB':DT} {rest:List Expr}
theorem d_orj (ha:EJ X a ga) (hb:EJ X (.BoolOp .Or (b::rest) pos) gb):EJ X (.BoolOp .Or (a::b::rest) pos) (dOrV ga gb):=⟨d_or (ha:=ha.h) (hb:=hb.h)⟩
end
section
variable {X:Cx} {a b c:Expr} {ga gb gc:DE} {pos:Pos}
variable {tA tB':DT} {rest:List Expr}
theorem d_notj (ha:EJ X a ga):EJ X (.UnaryOp .Not a pos) (dNotV ga):=⟨d_not (ha:=ha.h)⟩
end
section
variable {X:Cx} {a b c:Expr} {ga gb gc:DE} {pos:Pos}
variable {tA tB':DT} {rest:List Expr}
theorem d_ifj {c:Expr} (hc:TJ X c tA) (ha:EJ X a ga) (hb:EJ X b gb):EJ X (.IfExp c a b pos) (dIf tA ga gb):=⟨d_if (hc:=hc.h) (ha:=ha.h) (hb:=hb.h)⟩
end
section
variable {X:Cx} {x:Str} {p pos:Pos} {e:Expr} {es:List Expr} {t:DA} {id T:String} {r:DSp}
theorem d_callBj (hc:CallR X (.builtin id) (upC X.K r)) (hg:Gl X x) (hm:X.mg x=none) (hv:bootBuiltins x=some (.builtin id)) (ha:AJ X (e::es) t) (hn:x≠"__name__":=by decide) (hdb:(x == ("__debug__":Str))=false:=by decide) (he:starEach (e::es) X.env=(false,eval e X.env)::starEach es X.env:=by exact star_cons rfl) (hpl:(backTo pos (starEach es X.env)).any (·.1)=false:=by exact star_any rfl):EJ X (.Call (.Name x p) (e::es) [] pos) (dCall r t):=⟨d_callB (hc:=hc) (hg:=hg) (hm:=hm) (hv:=hv) (ha:=ha.h) (hn:=hn) (hdb:=hdb) (he:=he) (hpl:=hpl)⟩
end
section
variable {X:Cx} {x:Str} {p pos:Pos} {e:Expr} {es:List Expr} {t:DA} {id T:String} {r:DSp}
theorem d_callTj (hc:CallR X (.type T) (upC X.K r)) (hg:Gl X x) (hm:X.mg x=none) (hv:bootBuiltins x=some (.type T)) (ha:AJ X (e::es) t) (hn:x≠"__name__":=by decide) (hdb:(x == ("__debug__":Str))=false:=by decide) (he:starEach (e::es) X.env=(false,eval e X.env)::starEach es X.env:=by exact star_cons rfl) (hpl:(backTo pos (starEach es X.env)).any (·.1)=false:=by exact star_any rfl):EJ X (.Call (.Name x p) (e::es) [] pos) (dCall r t):=⟨d_callT (hc:=hc) (hg:=hg) (hm:=hm) (hv:=hv) (ha:=ha.h) (hn:=hn) (hdb:=hdb) (he:=he) (hpl:=hpl)⟩
end
section
variable {X:Cx} {x:Str} {p pos:Pos} {e:Expr} {es:List Expr} {t:DA} {id T:String} {r:DSp}
theorem d_callj {n:Nat} {F:DSp} (c:Own X.prog X.w X.K X.mg X.base x n F) (hr:Room n X.A) (hg:Gl X x) (ha:AJ X (e::es) t) (hdb:(x == ("__debug__":Str))=false:=by decide) (he:starEach (e::es) X.env=(false,eval e X.env)::starEach es X.env:=by exact star_cons rfl) (hpl:(backTo pos (starEach es X.env)).any (·.1)=false:=by exact star_any rfl):EJ X (.Call (.Name x p) (e::es) [] pos) (dCall F t):=⟨d_call (c:=c) (hr:=hr) (hg:=hg) (ha:=ha.h) (hdb:=hdb) (he:=he) (hpl:=hpl)⟩
end
section
variable {X:Cx} {x:Str} {p pos:Pos} {e:Expr} {es:List Expr} {t:DA} {id T:String} {r:DSp}
theorem d_bitsj {o:Expr} {g:DE} {apos cpos:Pos} (ho:EJ X o g) (hbase:attributeBase o "bit_length" X.env (eval o X.env)=eval o X.env:=by rfl) (hline:(apos.endLine == cpos.line)=true:=by rfl):EJ X (.Call (.Attribute o "bit_length" apos) [] [] cpos) (dUn mBits g):=⟨d_bits (ho:=ho.h) (hbase:=hbase) (hline:=hline)⟩
end
section
variable {X:Cx} {x:Str} {p pos:Pos} {e:Expr} {es:List Expr} {t:DA} {id T:String} {r:DSp}
theorem do_nonej:OJ X none oNone:=⟨do_none⟩
end
section
variable {X:Cx} {x:Str} {p pos:Pos} {e:Expr} {es:List Expr} {t:DA} {id T:String} {r:DSp}
theorem do_somej {e:Expr} {g:DE} (he:EJ X e g):OJ X (some e) (oSome g):=⟨do_some (he:=he.h)⟩
end
section
variable {X:Cx} {st:Stmt} {rest:List Stmt} {g h:DS} {e:Expr} {ge:DE} {pos:Pos}
theorem ds_nilj:SsJ X [] dNext:=⟨ds_nil⟩
end
section
variable {X:Cx} {st:Stmt} {rest:List Stmt} {g h:DS} {e:Expr} {ge:DE} {pos:Pos}
theorem ds_consj (h1:SJ X st g) (h2:SsJ X rest h):SsJ X (st::rest) (dSeq g h):=⟨ds_cons (h1:=h1.h) (h2:=h2.h)⟩
end
section
variable {X:Cx} {st:Stmt} {rest:List Stmt} {g h:DS} {e:Expr} {ge:DE} {pos:Pos}
theorem ds_onej (h1:SJ X st g):SsJ X [st] g:=⟨ds_one (h1:=h1.h)⟩
end
section
variable {X:Cx} {st:Stmt} {rest:List Stmt} {g h:DS} {e:Expr} {ge:DE} {pos:Pos}
theorem dst_retj (he:EJ X e ge):SJ X (.Return (some e) pos) (dRet ge):=⟨dst_ret (he:=he.h)⟩
end
section
variable {X:Cx} {st:Stmt} {rest:List Stmt} {g h:DS} {e:Expr} {ge:DE} {pos:Pos}
theorem dst_ifj {c:Expr} {a b:List Stmt} {gc:DT} (hc:TJ X c gc) (ha:SsJ X a g) (hb:SsJ X b h):SJ X (.If c a b pos) (dIfS gc g h):=⟨dst_if (hc:=hc.h) (ha:=ha.h) (hb:=hb.h)⟩
end
section
variable {X:Cx} {st:Stmt} {rest:List Stmt} {g h:DS} {e:Expr} {ge:DE} {pos:Pos}
theorem dst_neverj:SJ X st dNever:=⟨dst_never⟩
end
section
variable {X:Cx} {st:Stmt} {rest:List Stmt} {g h:DS} {e:Expr} {ge:DE} {pos:Pos}
theorem ds_neverj {sts:List Stmt}:SsJ X sts dNever:=⟨ds_never⟩
end
section
variable {X:Cx} {st:Stmt} {rest:List Stmt} {g h:DS} {e:Expr} {ge:DE} {pos:Pos}
theorem dst_setj {i:Nat} {x:Str} {pos':Pos} (hN:X.N.Nodup) (he:EJ X e ge) (hi:X.N[i]?=some x:=by rfl) (hx:Loc X.env.scope x:=by first | exact Or.inl rfl | exact Or.inr rfl) (hs:swapsWith e (some (.Name x pos')) pos.line X.env=pure false:=by rfl) (hf:X.fn x=true\/X.env.scope.names.lookup x=some .local:=by first | exact .inl rfl | exact .inr rfl | assumption):SJ X (.Assign [.Name x pos'] e pos) (dSet i ge):=⟨dst_set (hN:=hN) (he:=he.h) (hi:=hi) (hx:=hx) (hs:=hs) (hf:=hf)⟩
end
section
variable {X:Cx} {st:Stmt} {rest:List Stmt} {g h:DS} {e:Expr} {ge:DE} {pos:Pos}
theorem dst_parj {i j:Nat} {x y:Str} {a b:Expr} {ta:DA} {px py pt:Pos} {kt k2 pt2} (hc:X.calm=true) (hN:X.N.Nodup) (hij:i≠j) (ha:AJ X [a,b] ta) (hi:X.N[i]?=some x:=by rfl) (hj:X.N[j]?=some y:=by rfl) (hx:X.env.scope.names.lookup x=some .local:=by rfl) (hy:X.env.scope.names.lookup y=some .local:=by rfl) (hw:swappedStores [.Tuple [.Name x px,.Name y py] kt pt] (.Tuple [a,b] k2 pt2) X.env=pure (some [x,y]):=by rfl) (hs:swapsWithSole [.Tuple [.Name x px,.Name y py] kt pt] (.Tuple [a,b] k2 pt2) pos.line X.env=pure false:=by rfl):SJ X (.Assign [.Tuple [.Name x px,.Name y py] kt pt] (.Tuple [a,b] k2 pt2) pos) (dPar i j ta):=⟨dst_par (hc:=hc) (hN:=hN) (hij:=hij) (ha:=ha.h) (hi:=hi) (hj:=hj) (hx:=hx) (hy:=hy) (hw:=hw) (hs:=hs)⟩
end
section
variable {X:Cx} {st:Stmt} {rest:List Stmt} {g h:DS} {e:Expr} {ge:DE} {pos:Pos}
theorem dg_namej {i:Nat} {x:Str} (hN:X.N.Nodup) (hi:X.N[i]?=some x:=by rfl) (hx:Loc X.env.scope x:=by first | exact Or.inl rfl | exact Or.inr rfl) (hf:X.fn x=true\/X.env.scope.names.lookup x=some .local:=by first | exact .inl rfl | exact .inr rfl | assumption):GJ X (.Name x pos) (dgName i):=⟨dg_name (hN:=hN) (hi:=hi) (hx:=hx) (hf:=hf)⟩
end
section
variable {X:Cx} {st:Stmt} {rest:List Stmt} {g h:DS} {e:Expr} {ge:DE} {pos:Pos}
theorem dgs_nilj:GsJ X [] dgNil:=⟨dgs_nil⟩
end
section
variable {X:Cx} {st:Stmt} {rest:List Stmt} {g h:DS} {e:Expr} {ge:DE} {pos:Pos}
theorem dgs_consj {es:List Expr} {t:DG} {u:DGs} (h1:GJ X e t) (h2:GsJ X es u) (hs:(assignEach (e::es) X.env).map (·.2)=assign e X.env::(assignEach es X.env).map (·.2):=by rfl):GsJ X (e::es) (dgCons t u):=⟨dgs_cons (h1:=h1.h) (h2:=h2.h) (hs:=hs)⟩
end
section
variable {X:Cx} {st:Stmt} {rest:List Stmt} {g h:DS} {e:Expr} {ge:DE} {pos:Pos}
theorem dst_asgj {tg e:Expr} {g:DG} (he:EJ X e ge) (hg:GJ X tg g) (hs:swapsWithSole [tg] e pos.line X.env=pure false:=by rfl) (hw:swappedStores [tg] e X.env=pure none:=by rfl) (h1:(assignEach [tg] X.env).map (·.2)=[assign tg X.env]:=by rfl):SJ X (.Assign [tg] e pos) (dAsg ge g):=⟨dst_asg (he:=he.h) (hg:=hg.h) (hs:=hs) (hw:=hw) (h1:=h1)⟩
end
section
variable {X:Cx} {st:Stmt} {rest:List Stmt} {g h:DS} {e:Expr} {ge:DE} {pos:Pos}
theorem dst_whilej {c:Expr} {body:List Stmt} {gc:DT} (hp:PassesOwn (model X.prog X.w) X.A X.env X.xe) (hc:TJ X c gc) (hb:SsJ X body g):SJ X (.While c body [] pos) (dWhile gc g):=⟨dst_while (hp:=hp) (hc:=hc.h) (hb:=hb.h)⟩
end
section
variable {X:Cx} {st:Stmt} {rest:List Stmt} {g h:DS} {e:Expr} {ge:DE} {pos:Pos}
theorem dst_forRj {tg a:Expr} {body:List Stmt} {ta:DA} {gg:DG} {p pos':Pos} (hp:PassesOwn (model X.prog X.w) X.A X.env X.xe) (hc:X.calm=true) (hgl:Gl X "range") (hm:X.mg "range"=none) (ha:AJ X [a] ta) (hg:GJ X tg gg) (hb:SsJ X body g) (hs1:starEach [a] X.env=[(false,eval a X.env)]:=by rfl) (hs:∀ x,foldedSetIterable (.Call (.Name "range" p) [a] [] pos') X.env x=pure x:=by intro _; rfl):SJ X (.For tg (.Call (.Name "range" p) [a] [] pos') body [] pos) (dForR ta gg g):=⟨dst_forR (hp:=hp) (hc:=hc) (hgl:=hgl) (hm:=hm) (ha:=ha.h) (hg:=hg.h) (hb:=hb.h) (hs1:=hs1) (hs:=hs)⟩
end
section
variable {P:Program} {w:World} {K:Fg} {mg:Str->Option Value} {base:Heap}
theorem _root_.L2.Fun.okJ {x qual:Str} {st:Stmt} {f:Addr} {fd:FuncData} {N ps:List Str} {k:Nat} {F:DSp} (Fn:Fun K x qual st f fd) (Sc:FnScope N ps (defScope st)) (len:∀ ds S k,F ds S k->ds.length=ps.length)
  (hbody:∀ (cdv:Value) (A:Around) (outer:List Env) (s:Shared) (H:Hp) (E:XK),Room k (A.deeper (envOfC qual (defScope st) s.heap.objs.size f cdv))->
   ∃ g,SsJ (cxOf CX0 P w K mg base N qual (defScope st) f cdv A outer s H E).nox (defBody st) g/\
    ∀ ds S k,F ds S k->g {nx:=fun _ S'=>k .non S',rt:=k} (ds.map some++List.replicate (N.length - ps.length) none) S):FnOk P w K mg base CX0 (k+1) f fd ps (spU K F):=
 Fn.okD Sc len fun cdv A outer s H E hr=>let ⟨g,h,q⟩:=hbody cdv A outer s H E hr; ⟨g,h.h,q⟩
end
end DL
namespace L2
open PySem PySem.Spec PyProof.Rows
section
variable {X:Cx} {pos:Pos}
def gLst (K:PySem.W.Frag) (n:Nat) (t:TGs):TG:=fun v σ H Q=>∃ a xs,v=.ref a/\SqL K H a xs/\xs.length=n/\t xs σ H Q
theorem pg_lst {es:List Expr} {k:Nat} {t:TGs} {n:Nat} (hc:X.calm=true) (h:PGs X es t)
  (hn:(assignEach es X.env).length=n:=by rfl) (hst:(assignEach es X.env).findIdx? (·.1)=none:=by rfl):PG X (.Tuple es k pos) (gLst X.K n t):=by
 intro pins s σ H v u Q I r hw
 obtain⟨a,xs,e1,hq,hl,hw⟩:=hw
 subst e1
 cases r
 obtain⟨its,rv,ht,hz⟩:=I.list hq
 have e2:(assignEach es X.env).length=its.toArray.size:=by simp [hn,<- hl,rv.length]
 rw [arm_assign_Tuple]
 refine wpAny_bind (wpAny_standAt ?_)
 unfold unpack
 rw [e2,hst]
 refine wpAny_bind (wpAny_holding (PySem.W.kun_itemsOf (I.ok.hd hc) ht.isList fun h' hx=>?_))
 have I1:Inv X pins σ H {s with heap:=h'}:=I.kept (t':=s.toks) fun b o e=>hx b o (Nat.ne_of_lt (Heap.lt_size e)) e
 exact h pins _ σ H xs _ Q I1 (by simpa using rv) hw
theorem PG.or {e:Expr} {t t':TG} (h:PG X e t) (h':PG X e t'):PG X e (fun v σ H Q=>t v σ H Q\/t' v σ H Q):=by
 intro pins s σ H v u Q I r q
 rcases q with q | q
 ·exact h pins s σ H v u Q I r q
 ·exact h' pins s σ H v u Q I r q
end
def CapOk (X:Cx) (scope:Scope):List (Option Nat)->List Str->Prop
 | some j::r,x::xs=>(X.N[j]?=some x/\(X.env.scope.names.lookup x=some .cell\/X.env.scope.names.lookup x=some .free)/\((relabel scope X.env).names.lookup x=some .cell\/(relabel scope X.env).names.lookup x=some .free))/\CapOk X scope r xs
 | none::r,_::xs=>CapOk X scope r xs
 | _,_=>True
theorem CapOk.get {X:Cx} {scope:Scope}:∀ {cap:List (Option Nat)} {N:List Str},CapOk X scope cap N->∀ (i j:Nat) (x:Str),cap[i]?=some (some j)->N[i]?=some x->
  X.N[j]?=some x/\(X.env.scope.names.lookup x=some .cell\/X.env.scope.names.lookup x=some .free)/\((relabel scope X.env).names.lookup x=some .cell\/(relabel scope X.env).names.lookup x=some .free)
 | [],_,_,_,_,_,h,_=>by simp at h
 | _::_,[],_,_,_,_,_,h=>by simp at h
 | some _::_,_::_,h,0,j,x,h1,h2=>by
  simp at h1 h2
  subst h1 h2
  exact h.1
 | none::_,_::_,_,0,j,x,h1,_=>by simp at h1
 | some _::_,_::_,h,i+1,j,x,h1,h2=>CapOk.get h.2 i j x (by simpa using h1) (by simpa using h2)
 | none::r,_::xs,h,i+1,j,x,h1,h2=>CapOk.get (show CapOk X scope r xs from h) i j x (by simpa using h1) (by simpa using h2)
def SubOk (X:Cx):List (Str×Addr)->Prop
 | []=>True
 | p::r=>X.env.cells.lookup p.1=some p.2/\SubOk X r
theorem SubOk.mem {X:Cx}:∀ {cl:List (Str×Addr)},SubOk X cl->∀ p∈cl,X.env.cells.lookup p.1=some p.2
 | [],_,p,hp=>by simp at hp
 | q::r,h,p,hp=>by
  rcases List.mem_cons.mp hp with e | e
  ·subst e; exact h.1
  ·exact SubOk.mem h.2 p e
theorem compSc {X:Cx} {scope:Scope} {cl:List (Str×Addr)} {N:List Str} {cap:List (Option Nat)} (h1:scope.kind=.function) (h2:closureFor scope X.env=pure cl) (h3:(scope.names.all fun y=>y.2 != NameKind.cell)=true)
  (h4:(scope.names.all fun y=>y.2 != NameKind.local || scope.names.lookup y.1 == some NameKind.local)=true) (h5:SubOk X cl)
  (h6:((relabel scope X.env).names.all fun y=>(y.2 != NameKind.cell && y.2 != NameKind.free) || (cl.lookup y.1).isSome)=true) (h7:cap.length=N.length) (h8:CapOk X scope cap N):CompSc X scope cl N cap:=⟨h1,h2,h3,h4,h5.mem,h6,h7,h8.get⟩
end L2
namespace DL
open PySem PySem.Spec PyProof.Rows L2
section
variable {X:Cx} {pos:Pos}
def dgSeq (n:Nat) (t:DGs):DG:=fun d L S k=>match dItems S d with
 | some p=>p.1.length=n/\t p.1 L S k
 | none=>False
theorem dg_seq {es:List Expr} {k:Nat} {t:DGs} {n:Nat} (hc:X.calm=true) (h:GsJ X es t) (hn:(assignEach es X.env).length=n:=by rfl) (hst:(assignEach es X.env).findIdx? (·.1)=none:=by rfl):GJ X (.Tuple es k pos) (dgSeq n t):=
 ⟨PG.imp (PG.or (pg_tup hc h.h hn hst) (pg_lst hc h.h hn hst)) fun v σ H Q ⟨d,L,S,k,i1,hL,hS,h,m⟩=>by
  cases d with
  | tup ds=>
   obtain⟨a,xs,rfl,t1,j⟩:=isTup.mp i1
   exact .inl ⟨a,xs,rfl,t1,by rw [<- j.length]; exact h.1,ds,L,S,k,j,hL,hS,h.2,m⟩
  | rl ds=>
   obtain⟨a,xs,rfl,t1,j⟩:=isRl.mp i1
   exact .inr ⟨a,xs,rfl,t1.sq,by rw [<- j.length]; exact h.1,ds,L,S,k,j,hL,hS,h.2,m⟩
  | ref a=>
   have e1:=isRef.mp i1
   subst e1
   cases z:S a with
   | none=>simp only [dgSeq,dItems,z] at h
   | some o=>
    cases o with
    | dic=>simp only [dgSeq,dItems,z] at h
    | exc _=>simp only [dgSeq,dItems,z] at h
    | fn _=>simp only [dgSeq,dItems,z] at h
    | tbl _=>simp only [dgSeq,dItems,z] at h
    | gen _=>simp only [dgSeq,dItems,z] at h
    | lst ds=>
     simp only [dgSeq,dItems,z] at h
     obtain⟨xs,hl,j⟩:=hS.lst z
     exact .inr ⟨a,xs,rfl,SqL.of hl,by rw [<- j.length]; exact h.1,ds,L,S,k,j,hL,hS,h.2,m⟩
  | _=>exact(show False from h).elim⟩
end
def capL (cap:List (Option Nat)) (L:Lo):Lo:=cap.map fun o=>match o with
 | some j=>(L[j]?).join
 | none=>none
theorem Lc.cap {K:Fg} {H:Hp} {L:Lo} {σ:L2.St} (hL:Lc K H L σ):∀ cap:List (Option Nat),Lc K H (capL cap L) (capSt cap σ)
 | []=>rfl
 | Option.none::r=>⟨_,_,rfl,Lc.cap hL r⟩
 | Option.some j::r=>by
  show Lc K H ((L[j]?).join::capL r L) ((σ[j]?).join::capSt r σ)
  cases e:L[j]? with
  | none=>exact⟨_,_,rfl,Lc.cap hL r⟩
  | some o=>
   cases o with
   | none=>exact⟨_,_,rfl,Lc.cap hL r⟩
   | some d=>
    obtain⟨v,e1,e2⟩:=hL.get e
    rw [e1]
    exact⟨v,_,rfl,e2,Lc.cap hL r⟩
abbrev DB:=Lo->DH->(Option D->DH->Prop)->Prop
def bdAll (ge:DE):DB:=fun L S k=>ge L S fun v S1=>k (some v) S1
def bdIf (c:DT) (ge:DE):DB:=fun L S k=>c L S fun b S1=>if b=true then ge L S1 fun v S2=>k (some v) S2 else k none S1
def dCLoop (ok:DH->Prop) (p:Addr) (g:DG) (bd:DB) (k:DK):List D->List D->Lo->DH->Prop
 | [],_,_,S=>ok S/\k (.ref p) S
 | d::r,acc,L,S=>ok S/\g d L S fun L1 S1=>bd L1 S1 fun o S2=>match o with
  | some v=>S2 p=some (.lst acc)/\acc.length < sizeLine/\dCLoop ok p g bd k r (acc++[v]) L1 (put S2 p (.lst (acc++[v])))
  | none=>dCLoop ok p g bd k r acc L1 S2
def dCompR (cap:List (Option Nat)) (ta:DA) (g:DG) (bd:DB):DE:=fun L S k=>ta L S fun ds S1=>match ds with
 | [.int n]=>(-(2 ^ 62)<=n/\n < 2 ^ 62)/\∀ p,S1 p=none->dCLoop (fun _=>True) p g bd k ((List.range n.toNat).map fun i=>D.int (i:Nat)) [] (capL cap L) (put S1 p (.lst []))
 | _=>False
section
variable {K:Fg} {ok:DH->Prop} {gg:DG} {ge:DE} {gc:DT} {k:DK} {ds:List D} {L:Lo} {S:DH} {σ:L2.St} {H:Hp} {J:It} {Q:VK} {p:Addr}
theorem comp_core (hL:Lc K H L σ) (hS:Hs K H S) (hp:H p=none) (h:dCLoop ok p gg (bdAll ge) k ds [] L (put S p (.lst [])))
  (n:∀ d S' v H',k d S'->Kp H H'->Hs K H' S'->IsD K H' d v->Q v H')
  (hgo:∀ i d S1 H1,ds[i]?=some d->Kp H H1->Hs K H1 S1->ok S1->J.go i H1/\∀ x H',J.yld i H1 x H'->H'=H1/\IsD K H1 d x)
  (hst:∀ S1 H1,Kp H H1->Hs K H1 S1->ok S1->J.stop ds.length H1):
  ∃ W:Nat->Nat->L2.St->Hp->Prop,(∃ m,W 0 m σ (upd H p (.lst [])))/\∀ i m σ' H',W i m σ' H'->
   (J.stop i H'/\Q (.ref p) H')\/(J.go i H'/\∃ N:L2.St->Hp->Prop,(∀ σ2 H2,N σ2 H2->∃ m',m' < m/\W (i+1) m' σ2 H2)/\∀ x H2,J.yld i H' x H2->upG K gg x σ' H2 fun σ3 H3=>up K ge σ3 H3 fun v H4=>∃ ys,H4 p=some (.lst ys)/\ys.length < sizeLine/\N σ3 (upd H4 p (.lst (ys++[v])))):=by
 refine⟨fun i m σ1 H1=>m=ds.length - i/\i<=ds.length/\∃ acc L1 S1,Lc K H1 L1 σ1/\Hs K H1 S1/\Kp H H1/\dCLoop ok p gg (bdAll ge) k (ds.drop i) acc L1 S1,⟨ds.length,by simp,Nat.zero_le _,[],L,_,hL.kp (Kp.new hp),hS.newL hp IsDs.nil,Kp.new hp,h⟩,?_⟩
 rintro i m σ1 H1 ⟨rfl,hi,acc,L1,S1,hL1,hS1,k1,w1⟩
 by_cases hlt:i < ds.length
 ·have e:ds.drop i=ds[i]::ds.drop (i+1):=List.drop_eq_getElem_cons hlt
  rw [e] at w1
  obtain⟨o1,w1⟩:=w1
  obtain⟨g1,y1⟩:=hgo i ds[i] S1 H1 (by simp [hlt]) k1 hS1 o1
  refine .inr ⟨g1,fun σ' H'=>i+1<=ds.length/\∃ acc L' S',Lc K H' L' σ'/\Hs K H' S'/\Kp H H'/\dCLoop ok p gg (bdAll ge) k (ds.drop (i+1)) acc L' S',fun σ' H' ⟨q1,q2⟩=>⟨ds.length - (i+1),by omega,rfl,q1,q2⟩,fun x H' y=>?_⟩
  obtain⟨rfl,ix⟩:=y1 x H' y
  refine⟨ds[i],L1,S1,_,ix,hL1,hS1,w1,fun L2 S2 σ2 H2 q k2 hL2 hS2=>up.go hL2 hS2 q fun d S3 v H3 h3 k3 hL3 hS3 i3=>?_⟩
  obtain⟨z1,z2,z3⟩:=h3
  obtain⟨xs,hl,j⟩:=hS3.lst z1
  have k4:Kp H3 (upd H3 p (.lst (xs++[v]))):=Kp.mut hl (fun z=>z)
  exact⟨xs,hl,by rw [<- j.length]; exact z2,hlt,_,L2,_,hL3.kp k4,hS3.setL hl (j.append (IsDs.cons i3 IsDs.nil)),((k1.trans k2).trans k3).trans k4,z3⟩
 ·have e:i=ds.length:=by omega
  subst e
  rw [List.drop_length] at w1
  obtain⟨o1,w1⟩:=w1
  exact .inl ⟨hst S1 H1 k1 hS1 o1,n _ S1 _ H1 w1 k1 hS1 (isRef.mpr rfl)⟩
theorem comp_coreIf (hL:Lc K H L σ) (hS:Hs K H S) (hp:H p=none) (h:dCLoop ok p gg (bdIf gc ge) k ds [] L (put S p (.lst [])))
  (n:∀ d S' v H',k d S'->Kp H H'->Hs K H' S'->IsD K H' d v->Q v H')
  (hgo:∀ i d S1 H1,ds[i]?=some d->Kp H H1->Hs K H1 S1->ok S1->J.go i H1/\∀ x H',J.yld i H1 x H'->H'=H1/\IsD K H1 d x)
  (hst:∀ S1 H1,Kp H H1->Hs K H1 S1->ok S1->J.stop ds.length H1):
  ∃ W:Nat->Nat->L2.St->Hp->Prop,(∃ m,W 0 m σ (upd H p (.lst [])))/\∀ i m σ' H',W i m σ' H'->
   (J.stop i H'/\Q (.ref p) H')\/(J.go i H'/\∃ N:L2.St->Hp->Prop,(∀ σ2 H2,N σ2 H2->∃ m',m' < m/\W (i+1) m' σ2 H2)/\∀ x H2,J.yld i H' x H2->upG K gg x σ' H2 fun σ3 H3=>upT K gc σ3 H3 fun b H3'=>if b=true then up K ge σ3 H3' fun v H4=>∃ ys,H4 p=some (.lst ys)/\ys.length < sizeLine/\N σ3 (upd H4 p (.lst (ys++[v]))) else N σ3 H3'):=by
 refine⟨fun i m σ1 H1=>m=ds.length - i/\i<=ds.length/\∃ acc L1 S1,Lc K H1 L1 σ1/\Hs K H1 S1/\Kp H H1/\dCLoop ok p gg (bdIf gc ge) k (ds.drop i) acc L1 S1,⟨ds.length,by simp,Nat.zero_le _,[],L,_,hL.kp (Kp.new hp),hS.newL hp IsDs.nil,Kp.new hp,h⟩,?_⟩
 rintro i m σ1 H1 ⟨rfl,hi,acc,L1,S1,hL1,hS1,k1,w1⟩
 by_cases hlt:i < ds.length
 ·have e:ds.drop i=ds[i]::ds.drop (i+1):=List.drop_eq_getElem_cons hlt
  rw [e] at w1
  obtain⟨o1,w1⟩:=w1
  obtain⟨g1,y1⟩:=hgo i ds[i] S1 H1 (by simp [hlt]) k1 hS1 o1
  refine .inr ⟨g1,fun σ' H'=>i+1<=ds.length/\∃ acc L' S',Lc K H' L' σ'/\Hs K H' S'/\Kp H H'/\dCLoop ok p gg (bdIf gc ge) k (ds.drop (i+1)) acc L' S',fun σ' H' ⟨q1,q2⟩=>⟨ds.length - (i+1),by omega,rfl,q1,q2⟩,fun x H' y=>?_⟩
  obtain⟨rfl,ix⟩:=y1 x H' y
  refine⟨ds[i],L1,S1,_,ix,hL1,hS1,w1,fun L2 S2 σ2 H2 q k2 hL2 hS2=>upT.go hL2 hS2 q fun b S2' H2' h2 k2' hL2' hS2'=>?_⟩
  cases b with
  | true=>
   rw [if_pos rfl] at h2 ⊢
   refine up.go hL2' hS2' h2 fun d S3 v H3 h3 k3 hL3 hS3 i3=>?_
   obtain⟨z1,z2,z3⟩:=h3
   obtain⟨xs,hl,j⟩:=hS3.lst z1
   have k4:Kp H3 (upd H3 p (.lst (xs++[v]))):=Kp.mut hl (fun z=>z)
   exact⟨xs,hl,by rw [<- j.length]; exact z2,hlt,_,L2,_,hL3.kp k4,hS3.setL hl (j.append (IsDs.cons i3 IsDs.nil)),(((k1.trans k2).trans k2').trans k3).trans k4,z3⟩
  | false=>
   rw [if_neg Bool.false_ne_true] at h2 ⊢
   exact⟨hlt,acc,L2,S2',hL2',hS2',(k1.trans k2).trans k2',h2⟩
 ·have e:i=ds.length:=by omega
  subst e
  rw [List.drop_length] at w1
  obtain⟨o1,w1⟩:=w1
  exact .inl ⟨hst S1 H1 k1 hS1 o1,n _ S1 _ H1 w1 k1 hS1 (isRef.mpr rfl)⟩
end
theorem range_go {K:Fg} {H:Hp} {n:Int}:∀ i d (S1:DH) H1,((List.range n.toNat).map fun i=>D.int (i:Nat))[i]?=some d->Kp H H1->Hs K H1 S1->(fun _=>True:DH->Prop) S1->(Itr 0 n.toNat).go i H1/\∀ x H',(Itr 0 n.toNat).yld i H1 x H'->H'=H1/\IsD K H1 d x:=by
 intro i d S1 H1 e _ _ _
 rw [List.getElem?_map] at e
 cases q:(List.range (Int.toNat _))[i]? with
 | none=>rw [q] at e; cases e
 | some z=>
  rw [q] at e
  cases e
  obtain⟨hz1,hz2⟩:=List.getElem?_eq_some_iff.mp q
  rw [List.length_range] at hz1
  rw [List.getElem_range] at hz2
  subst hz2
  exact⟨hz1,fun x H' y=>⟨y.1,by rw [y.2]; exact isInt.mpr (by rw [Int.zero_add])⟩⟩
section
variable {X:Cx} {elt tg iter c a:Expr} {scope:Scope} {cl:List (Str×Addr)} {N:List Str} {cap:List (Option Nat)} {pos p pos':Pos} {gg:DG} {ge gi:DE} {gc:DT} {ta:DA}
theorem d_compRIfj (hc:X.calm=true) (Sc:CompSc X scope cl N cap) (hgl:Gl X "range") (hm:X.mg "range"=none) (ha:AJ X [a] ta) (hg:∀ s0 H0 ex C,GJ (cxC X scope cl N s0 H0 ex C) tg gg) (hcn:∀ s0 H0 ex C,TJ (cxC X scope cl N s0 H0 ex C) c gc) (he:∀ s0 H0 ex C,EJ (cxC X scope cl N s0 H0 ex C) elt ge)
  (hs1:starEach [a] X.env=[(false,eval a X.env)]:=by exact star_cons rfl) (hs:∀ x,foldedSetIterable (.Call (.Name "range" p) [a] [] pos') X.env x=pure x:=by intro _; rfl):
  EJ X (.ListComp elt [⟨tg,.Call (.Name "range" p) [a] [] pos',[c],0⟩] scope pos) (dCompR cap ta gg (bdIf gc ge)):=
 ⟨PE.imp (pe_compIf hc Sc (pi_range1 hgl hm ha.h hs1) (fun s0 H0 ex C=>(hg s0 H0 ex C).h) (fun s0 H0 ex C=>(hcn s0 H0 ex C).h) (fun s0 H0 ex C=>(he s0 H0 ex C).h) hs) fun σ H Q ⟨L,S,k,hL,hS,h,n⟩=>upA.go hL hS h fun ds S1 vs H1 h1 k1 hL1 hS1 i1=>by
  split at h1
  ·obtain⟨v,rfl,j⟩:=isDs1 i1
   have e:=isInt.mp j
   subst e
   obtain⟨⟨h2,h3⟩,h1⟩:=h1
   refine⟨_,rfl,h2,h3,fun D hD=>comp_coreIf (hL1.cap cap) hS1 hD (h1 D (hS1.free hD)) (fun d S' v H' q k3=>n d S' v H' q (k1.trans k3)) range_go fun S2 H2 k2 hS2 _=>?_⟩
   rw [List.length_map,List.length_range]
   exact Nat.le_refl _
  ·exact h1.elim⟩
end
def GTup (K:Fg) (mg:Str->Option Value) (x:Str) (ns:List Int):Prop:=∃ p o its n,mg x=some (.ref p)/\K.lookup p=some o/\o.cls=.type "tuple"/\o.data=.seq its n/\its.size<=sizeLine/\Vals (ns.map V.int) its.toList
theorem isDs_ints {K:Fg} {H:Hp}:∀ ns:List Int,IsDs K H (ns.map D.int) (ns.map V.int)
 | []=>IsDs.nil
 | _::ns=>IsDs.cons (isInt.mpr rfl) (isDs_ints ns)
theorem d_gtup {X:Cx} {x:Str} {ns:List Int} {pos:Pos} (g:GTup X.K X.mg x ns) (hg:Gl X x) (hd:(x == ("__debug__":Str))=false:=by decide):EJ X (.Name x pos) (dC (.tup (ns.map D.int))):=by
 obtain⟨p,o,its,n,hm,h1,h2,h3,h4,h5⟩:=g
 exact⟨d_c (pe_glob (v:=.ref p) hg hm rfl hd) fun H=>isTup.mpr ⟨p,_,rfl,.inr ⟨o,its,n,h1,h2,h3,h4,h5⟩,isDs_ints ns⟩⟩
theorem upR.imp {K:Fg} {r r':D2} (i:∀ d e S k,r' d e S k->r d e S k):∀ x y H Q,upR K r' x y H Q->upR K r x y H Q:=fun x y H Q ⟨d,e,S,k,a,b,c,h,n⟩=>⟨d,e,S,k,a,b,c,i d e S k h,n⟩
theorem upC.imp {K:Fg} {r r':DSp} (i:∀ ds S k,r' ds S k->r ds S k):∀ xs H Q,upC K r' xs H Q->upC K r xs H Q:=fun xs H Q ⟨ds,S,k,a,b,h,n⟩=>⟨ds,S,k,a,b,i ds S k h,n⟩
theorem IxR.imp {X:Cx} {r r':R2} (h:IxR X r) (i:∀ x y H Q,r' x y H Q->r x y H Q):IxR X r':=fun value slice pins s σ H x y v u Q I rx ry q=>h value slice pins s σ H x y v u Q I rx ry (i x y H Q q)
theorem CallR.imp {X:Cx} {f:Value} {r r':List V->Hp->VK->Prop} (h:CallR X f r) (i:∀ xs H Q,r' xs H Q->r xs H Q):CallR X f r':=fun pins s σ H xs us Q I rs q=>h pins s σ H xs us Q I rs (i xs H Q q)
def dIxE:D2:=fun d e S k=>match d,e with
 | .tup ds,.int i=>(match L2.atI ds i with
  | some c=>k c S
  | none=>False)
 | .rl ds,.int i=>∃ c,L2.atI ds i=some c/\k c S
 | .ref a,.int i=>∃ ds c,S a=some (.lst ds)/\L2.atI ds i=some c/\k c S
 | _,_=>False
theorem x_ixE {X:Cx}:IxR X (upR X.K dIxE):=IxR.imp x_ix (upR.imp fun d e S k h=>by
 unfold dIxE at h
 split at h
 ·exact h
 ·obtain⟨c,h1,h2⟩:=h
  simp only [dIx,h1]
  exact h2
 ·obtain⟨ds,c,h0,h1,h2⟩:=h
  simp only [dIx,h0,h1]
  exact h2
 ·exact h.elim)
def bLenE:DSp:=fun ds S k=>match ds with
 | [.tup xs]=>k (.int xs.length) S
 | [.rl xs]=>k (.int xs.length) S
 | [.ref a]=>∃ xs,S a=some (.lst xs)/\k (.int xs.length) S
 | _=>False
theorem b_lenE {X:Cx}:CallR X (.builtin "len") (upC X.K bLenE):=CallR.imp b_len (upC.imp fun ds S k h=>by
 unfold bLenE at h
 split at h
 ·exact h
 ·exact h
 ·obtain⟨xs,h1,h2⟩:=h
  simp only [bLen,h1]
  exact h2
 ·exact h.elim)
def dForE (gi:DE) (g:DG) (b:DS):DS:=fun M L S=>gi L S fun d S1=>∃ p,dItems S1 d=some p/\dLoop (okFor p) g b M p.1 L S1
def Mono (g:DE):Prop:=∀ L S (k k':DK),(∀ d S,k d S->k' d S)->g L S k->g L S k'
def dgSeqE (n:Nat) (t:DGs):DG:=fun d L S k=>∃ p,dItems S d=some p/\p.1.length=n/\t p.1 L S k
theorem GJ.imp {X:Cx} {e:Expr} {g g':DG} (h:GJ X e g) (i:∀ d L S k,g' d L S k->g d L S k):GJ X e g':=⟨PG.imp h.h fun v σ H Q ⟨d,L,S,k,a,hL,hS,q,n⟩=>⟨d,L,S,k,a,hL,hS,i d L S k q,n⟩⟩
theorem dg_seqE {X:Cx} {pos:Pos} {es:List Expr} {k:Nat} {t:DGs} {n:Nat} (hc:X.calm=true) (h:GsJ X es t) (hn:(assignEach es X.env).length=n:=by rfl) (hst:(assignEach es X.env).findIdx? (·.1)=none:=by rfl):GJ X (.Tuple es k pos) (dgSeqE n t):=
 GJ.imp (dg_seq hc h hn hst) fun d L S k ⟨p,h1,h2⟩=>by
  simp only [dgSeq,h1]
  exact h2
section
variable {X:Cx} {pos:Pos}
def dgSubE (go gi:DE):DG:=fun d L S k=>go L S fun o S1=>gi L S1 fun i S2=>match o,i with
 | .ref a,.int j=>∃ ds n,S2 a=some (.lst ds)/\ixN ds.length j=some n/\k L (put S2 a (.lst (ds.set n d)))
 | _,_=>False
theorem dg_subE {o i:Expr} {go gi:DE} (ho:EJ X o go) (hi:EJ X i gi)
  (ha:∀ v,assign (.Subscript o i pos) X.env v=(do
   let ov <- holding [v] (eval o X.env)
   let iv <- holding [v,ov] (eval i X.env)
   standAt pos
   holding [v,ov,iv] (setItem ov iv v)
   release [v,ov,iv] []):=by intro _; rfl):GJ X (.Subscript o i pos) (dgSubE go gi):=
 ⟨PG.imp (pg_sub ho.h hi.h set_list ha) fun v σ H Q ⟨d,L,S,k,i1,hL,hS,h,n⟩=>up.go hL hS h fun c S1 u H1 h1 k1 hL1 hS1 j1=>up.go hL1 hS1 h1 fun c2 S2 u2 H2 h2 k2 hL2 hS2 j2=>by
  cases c with
  | ref a=>
   cases c2 with
   | int z=>
    have e1:=isRef.mp j1
    have e2:=isInt.mp j2
    subst e1
    subst e2
    obtain⟨ds,m,w,q,h2⟩:=h2
    obtain⟨vs,hl,j⟩:=hS2.lst w
    refine⟨a,vs,z,m,rfl,rfl,hl,by rw [<- j.length]; exact q,?_⟩
    have k3:Kp H2 (upd H2 a (.lst (vs.set m v))):=Kp.mut hl (fun z=>z)
    exact n L _ σ _ h2 (k1.trans (k2.trans k3)) (hL2.kp k3) (hS2.setL hl (j.set m (i1.kp (k1.trans k2))))
   | _=>exact(show False from h2).elim
  | _=>exact(show False from h2).elim⟩
theorem seq_go {K:Fg} {S1:DH} {H1:Hp} {d:D} {v:V} {p:List D×Option Addr} (hS1:Hs K H1 S1) (i1:IsD K H1 d v) (hp:dItems S1 d=some p):∃ a,v=.ref a/\
  (((∃ xs, SqL K H1 a xs) ∧ (∀ i c S2 H2, p.1[i]? = some c → Kp H1 H2 → Hs K H2 S2 → okFor p S2 → (Itl K a).go i H2 ∧ ∀ x H', (Itl K a).yld i H2 x H' → H' = H2 ∧ IsD K H2 c x) ∧ ∀ S2 H2, Kp H1 H2 → Hs K H2 S2 → okFor p S2 → (Itl K a).stop p.1.length H2) ∨
   ((∃ xs,SqT K H1 a xs)/\(∀ i c S2 H2,p.1[i]?=some c->Kp H1 H2->Hs K H2 S2->okFor p S2->(Itt K a).go i H2/\∀ x H',(Itt K a).yld i H2 x H'->H'=H2/\IsD K H2 c x)/\∀ S2 H2,Kp H1 H2->Hs K H2 S2->okFor p S2->(Itt K a).stop p.1.length H2)):=by
 cases d with
 | tup ds=>
  cases hp
  obtain⟨a,xs,rfl,t,j⟩:=isTup.mp i1
  refine⟨a,rfl,.inr ⟨⟨xs,t⟩,fun i d S2 H2 e k2 hS2 _=>?_,fun S2 H2 k2 hS2 _=>⟨xs,k2.tup t,by rw [<- j.length]; exact Nat.le_refl _⟩⟩⟩
  obtain⟨w,e1,e2⟩:=j.get e
  refine⟨⟨xs,w,k2.tup t,e1⟩,fun x H' y=>⟨y.1,?_⟩⟩
  have z:=y.2 xs (k2.tup t)
  rw [e1] at z
  cases z
  exact e2.kp k2
 | rl ds=>
  cases hp
  obtain⟨a,xs,rfl,t,j⟩:=isRl.mp i1
  refine⟨a,rfl,.inl ⟨⟨xs,t.sq⟩,fun i d S2 H2 e k2 hS2 _=>?_,fun S2 H2 k2 hS2 _=>⟨xs,(k2.fro t).sq,by rw [<- j.length]; exact Nat.le_refl _⟩⟩⟩
  obtain⟨w,e1,e2⟩:=j.get e
  refine⟨⟨xs,w,(k2.fro t).sq,e1⟩,fun x H' y=>⟨y.1,?_⟩⟩
  have z:=y.2 xs (k2.fro t).sq
  rw [e1] at z
  cases z
  exact e2.kp k2
 | ref a=>
  have e1:=isRef.mp i1
  subst e1
  cases z:S1 a with
  | none=>simp only [dItems,z] at hp; cases hp
  | some o=>
   cases o with
   | dic=>simp only [dItems,z] at hp; cases hp
   | exc _=>simp only [dItems,z] at hp; cases hp
   | fn _=>simp only [dItems,z] at hp; cases hp
   | tbl _=>simp only [dItems,z] at hp; cases hp
   | gen _=>simp only [dItems,z] at hp; cases hp
   | lst ds=>
    simp only [dItems,z] at hp
    cases hp
    obtain⟨xs,hl,j⟩:=hS1.lst z
    refine⟨a,rfl,.inl ⟨⟨xs,SqL.of hl⟩,fun i d S2 H2 e k2 hS2 o2=>?_,fun S2 H2 k2 hS2 o2=>?_⟩⟩
    ·obtain⟨ys,hl2,j2⟩:=hS2.lst o2
     obtain⟨w,e1,e2⟩:=j2.get e
     refine⟨⟨ys,w,SqL.of hl2,e1⟩,fun x H' y=>⟨y.1,?_⟩⟩
     have q:=y.2 ys (SqL.of hl2)
     rw [e1] at q
     cases q
     exact e2
    ·obtain⟨ys,hl2,j2⟩:=hS2.lst o2
     exact⟨ys,SqL.of hl2,by rw [<- j2.length]; exact Nat.le_refl _⟩
 | _=>cases hp
theorem dst_forEj {tg iter:Expr} {body:List Stmt} {gi:DE} {gg:DG} {g:DS} (hp:PassesOwn (model X.prog X.w) X.A X.env X.xe) (hc:X.calm=true) (hi:EJ X iter gi) (hg:GJ X tg gg) (hb:SsJ X body g)
  (hs:∀ x,foldedSetIterable iter X.env x=pure x:=by intro _; rfl):SJ X (.For tg iter body [] pos) (dForE gi gg g):=
 ⟨PS.imp (ps_for hp hc (pi_seq hi.h) hg.h hb.h hs) fun N σ H ⟨L,S,M,hL,hS,h,r⟩=>up.go hL hS h fun d S1 v H1 h1 k1 hL1 hS1 i1=>by
  obtain⟨p,hp,h1⟩:=h1
  obtain⟨a,e,q⟩:=seq_go hS1 i1 hp
  refine⟨a,e,?_⟩
  rcases q with ⟨q1,q2,q3⟩ | ⟨q1,q2,q3⟩
  ·exact .inl ⟨q1,for_core hL1 hS1 h1 (r.kp k1) q2 q3⟩
  ·exact .inr ⟨q1,for_core hL1 hS1 h1 (r.kp k1) q2 q3⟩⟩
def dCompE (cap:List (Option Nat)) (gi:DE) (g:DG) (bd:DB):DE:=fun L S k=>gi L S fun d S1=>∃ q,dItems S1 d=some q/\∀ p,S1 p=none->dCLoop (okFor q) p g bd k q.1 [] (capL cap L) (put S1 p (.lst []))
theorem d_compEj {elt tg iter:Expr} {scope:Scope} {cl:List (Str×Addr)} {N:List Str} {cap:List (Option Nat)} {gg:DG} {ge gi:DE} (hc:X.calm=true) (Sc:CompSc X scope cl N cap) (hi:EJ X iter gi) (hg:∀ s0 H0 ex C,GJ (cxC X scope cl N s0 H0 ex C) tg gg) (he:∀ s0 H0 ex C,EJ (cxC X scope cl N s0 H0 ex C) elt ge)
  (hs:∀ x,foldedSetIterable iter X.env x=pure x:=by intro _; rfl):EJ X (.ListComp elt [⟨tg,iter,[],0⟩] scope pos) (dCompE cap gi gg (bdAll ge)):=
 ⟨PE.imp (pe_comp hc Sc (pi_seq hi.h) (fun s0 H0 ex C=>(hg s0 H0 ex C).h) (fun s0 H0 ex C=>(he s0 H0 ex C).h) hs) fun σ H Q ⟨L,S,k,hL,hS,h,n⟩=>up.go hL hS h fun d S1 v H1 h1 k1 hL1 hS1 i1=>by
  obtain⟨p,hp,h1⟩:=h1
  obtain⟨a,e,q⟩:=seq_go hS1 i1 hp
  refine⟨a,e,?_⟩
  have n':∀ d S' v H',k d S'->Kp H1 H'->Hs X.K H' S'->IsD X.K H' d v->Q v H':=fun d S' v H' q k3=>n d S' v H' q (k1.trans k3)
  rcases q with ⟨q1,q2,q3⟩ | ⟨q1,q2,q3⟩
  ·exact .inl ⟨q1,fun D hD=>comp_core (hL1.cap cap) hS1 hD (h1 D (hS1.free hD)) n' q2 q3⟩
  ·exact .inr ⟨q1,fun D hD=>comp_core (hL1.cap cap) hS1 hD (h1 D (hS1.free hD)) n' q2 q3⟩⟩
end
end DL
namespace L2
open PySem PySem.Spec PyProof.Rows
section
variable {X:Cx} {pins:List (Addr×Obj)} {σ:St} {H:Hp} {s:Shared} {h':Heap}
theorem Inv.turnedL {t':Nat} (ch:List Addr) (I:Inv X pins σ H s) (k:∀ b o,b∉ch->s.heap.get? b=some o->h'.get? b=some o) (hf:∀ b∈ch,FpOk X pins H b):Inv X pins σ H {s with heap:=h',toks:=t'}:=by
 have nit:∀ b u,H b=some u->b∉ch:=fun b u e z=>by rw [(hf b z).1] at e; cases e
 refine I.step (g':=s.gens) (d':=s.drawn) (ch:=ch) (fun b hb=>⟨(hf b hb).2.2.2.1,(hf b hb).2.1,(hf b hb).2.2.2.2.1,(hf b hb).2.2.2.2.2⟩) (fun b o _ _ hc e _=>k b o hc e) (fun b o _ _ hc e _=>⟨o.slots,k b o hc e⟩) (fun _ _ _ _ n=>n)
  (fun b o hc e=>⟨o,k b o hc e⟩) (fun _ _ e=>e) (fun _ _ _ e=>e) (fun b ps e=>⟨#[],by rw [e]; simp⟩) (fun m hm=>?_) (fun b u e=>?_) I.bare
 ·obtain⟨o,es,ep,ho,r⟩:=hm
  exact⟨o,es,ep,k _ o (fun z=>(hf _ z).2.1 rfl) ho,r⟩
 ·refine(I.hok b u e).stay (fun c v hc q=>k c v ?_ q) (fun _ q=>q) fun _ _ q=>q
  rcases hc with z | z
  ·rw [z]; exact nit b u e
  ·exact nit c _ z
theorem Inv.turnedNew {t':Nat} {T:Addr} {xs:List V} (ch:List Addr) (I:Inv X pins σ H s) (k:∀ b o,b∉ch->s.heap.get? b=some o->h'.get? b=some o) (hf:∀ b∈ch,FpOk X pins H b) (hT:s.heap.objs.size<=T)
  (new:ObjOk X.prog X.w (upd H T (.tup xs)) h' T (.tup xs)):Inv X pins σ (upd H T (.tup xs)) {s with heap:=h',toks:=t'}:=by
 have hn:H T=none:=I.hok.fresh hT
 have nit:∀ b u,H b=some u->b∉ch:=fun b u e z=>by rw [(hf b z).1] at e; cases e
 have neT:∀ b o,s.heap.get? b=some o->b≠T:=fun b o e z=>by subst z; exact absurd (Nat.lt_of_lt_of_le (Heap.lt_size e) hT) (Nat.lt_irrefl _)
 refine I.step (g':=s.gens) (d':=s.drawn) (ch:=ch) (fun b hb=>⟨(hf b hb).2.2.2.1,(hf b hb).2.1,(hf b hb).2.2.2.2.1,(hf b hb).2.2.2.2.2⟩) (fun b o _ _ hc e _=>k b o hc e) (fun b o _ _ hc e _=>⟨o.slots,k b o hc e⟩) (fun b o _ e n=>by rw [upd_ne (neT b o e)]; exact n)
  (fun b o hc e=>⟨o,k b o hc e⟩) (fun b _ e=>by rw [upd_ne (ne_of_none e hn)]; exact e) (fun b _ _ e=>by rw [upd_ne (ne_of_none e hn)]; exact e) (fun b ps e=>⟨#[],by rw [upd_ne (ne_of_none e hn),e]; simp⟩) (fun m hm=>?_) (fun b u e=>?_) I.bare
 ·obtain⟨o,es,ep,ho,r⟩:=hm
  exact⟨o,es,ep,k _ o (fun z=>(hf _ z).2.1 rfl) ho,r⟩
 ·by_cases hb:b=T
  ·subst hb
   rw [upd_same] at e
   cases e
   exact new
  ·rw [upd_ne hb] at e
   refine(I.hok b u e).stay (fun c v hc q=>k c v ?_ q) (fun c q=>by rw [upd_ne (ne_of_none q hn)]; exact q) fun c _ q=>by rw [upd_ne (ne_of_none q hn)]; exact q
   rcases hc with z | z
   ·rw [z]; exact nit b u e
   ·exact nit c _ z
end
end L2
namespace DL
open PySem PySem.Spec PyProof.Rows L2
section
variable {K:Fg} {ok:DH->Prop} {gg:DG} {ge:DE} {k:DK} {ds:List D} {L:Lo} {S:DH} {σ:L2.St} {H:Hp} {J:It} {p:Addr} {Q:V->Hp->Prop}
theorem comp_coreG (hL:Lc K H L σ) (hS:Hs K H S) (hp:H p=none) (h:dCLoop ok p gg (bdAll ge) k ds [] L (put S p (.lst [])))
  (n:∀ d S' v H',k d S'->Kp H H'->Hs K H' S'->IsD K H' d v->Q v H')
  (hgo:∀ i d S1 H1,ds[i]?=some d->Kp H H1->Hs K H1 S1->ok S1->J.go i H1/\∀ x H',J.yld i H1 x H'->Kp H1 H'/\Hs K H' S1/\IsD K H' d x)
  (hst:∀ S1 H1,Kp H H1->Hs K H1 S1->ok S1->J.stop ds.length H1):
  ∃ W:Nat->Nat->L2.St->Hp->Prop,(∃ m,W 0 m σ (upd H p (.lst [])))/\∀ i m σ' H',W i m σ' H'->
   (J.stop i H'/\Q (.ref p) H')\/(J.go i H'/\∃ N:L2.St->Hp->Prop,(∀ σ2 H2,N σ2 H2->∃ m',m' < m/\W (i+1) m' σ2 H2)/\∀ x H2,J.yld i H' x H2->upG K gg x σ' H2 fun σ3 H3=>up K ge σ3 H3 fun v H4=>∃ ys,H4 p=some (.lst ys)/\ys.length < sizeLine/\N σ3 (upd H4 p (.lst (ys++[v])))):=by
 refine⟨fun i m σ1 H1=>m=ds.length - i/\i<=ds.length/\∃ acc L1 S1,Lc K H1 L1 σ1/\Hs K H1 S1/\Kp H H1/\dCLoop ok p gg (bdAll ge) k (ds.drop i) acc L1 S1,⟨ds.length,by simp,Nat.zero_le _,[],L,_,hL.kp (Kp.new hp),hS.newL hp IsDs.nil,Kp.new hp,h⟩,?_⟩
 rintro i m σ1 H1 ⟨rfl,hi,acc,L1,S1,hL1,hS1,k1,w1⟩
 by_cases hlt:i < ds.length
 ·have e:ds.drop i=ds[i]::ds.drop (i+1):=List.drop_eq_getElem_cons hlt
  rw [e] at w1
  obtain⟨o1,w1⟩:=w1
  obtain⟨g1,y1⟩:=hgo i ds[i] S1 H1 (by simp [hlt]) k1 hS1 o1
  refine .inr ⟨g1,fun σ' H'=>i+1<=ds.length/\∃ acc L' S',Lc K H' L' σ'/\Hs K H' S'/\Kp H H'/\dCLoop ok p gg (bdAll ge) k (ds.drop (i+1)) acc L' S',fun σ' H' ⟨q1,q2⟩=>⟨ds.length - (i+1),by omega,rfl,q1,q2⟩,fun x H' y=>?_⟩
  obtain⟨k0,hS0,ix⟩:=y1 x H' y
  refine⟨ds[i],L1,S1,_,ix,hL1.kp k0,hS0,w1,fun L2 S2 σ2 H2 q k2 hL2 hS2=>up.go hL2 hS2 q fun d S3 v H3 h3 k3 hL3 hS3 i3=>?_⟩
  obtain⟨z1,z2,z3⟩:=h3
  obtain⟨xs,hl,j⟩:=hS3.lst z1
  have k4:Kp H3 (upd H3 p (.lst (xs++[v]))):=Kp.mut hl (fun z=>z)
  exact⟨xs,hl,by rw [<- j.length]; exact z2,hlt,_,L2,_,hL3.kp k4,hS3.setL hl (j.append (IsDs.cons i3 IsDs.nil)),(((k1.trans k0).trans k2).trans k3).trans k4,z3⟩
 ·have e:i=ds.length:=by omega
  subst e
  rw [List.drop_length] at w1
  obtain⟨o1,w1⟩:=w1
  exact .inl ⟨hst S1 H1 k1 hS1 o1,n _ S1 _ H1 w1 k1 hS1 (isRef.mpr rfl)⟩
end
theorem kitx_D {X:Cx} {pins:List (Addr×Obj)} {σ:L2.St} {H:Hp} {s:Shared} {S:DH} {d:D} {x:V} {u:Value} {t:Ty} (I:Inv X pins σ H s) (hS:Hs X.K H S) (i:IsD X.K H d x) (r:RelV x u) (h:tyD S d=some t):
  ∃ Hh:Heap->Prop,PySem.W.KitX X.K u (.type t.name) Hh/\Hh s.heap/\u≠.builtin "__main__.__loader__#opaque":=by
 cases d with
 | non=>cases h; rw [isNon.mp i] at r; cases (show u=Value.none from r); exact⟨_,PySem.W.kitx_none,True.intro,fun z=>nomatch z⟩
 | bl b=>cases h; rw [isBl.mp i] at r; cases (show u=Value.bool b from r); exact⟨_,PySem.W.kitx_bool,True.intro,fun z=>nomatch z⟩
 | int b=>cases h; rw [isInt.mp i] at r; obtain⟨tk,q⟩:=(show ∃ t,u=Value.int b t from r); cases q; exact⟨_,PySem.W.kitx_int,True.intro,fun z=>nomatch z⟩
 | str b=>cases h; rw [isStr.mp i] at r; obtain⟨tk,q⟩:=(show ∃ t,u=Value.str b t from r); cases q; exact⟨_,PySem.W.kitx_str,True.intro,fun z=>nomatch z⟩
 | tup ds=>
  cases h
  obtain⟨a,vs,rfl,q,_⟩:=isTup.mp i
  cases (show u=Value.ref a from r)
  obtain⟨its,_,⟨o,h1,h2,_⟩,_⟩:=I.tuple q
  exact⟨_,PySem.W.kitx_tuple,⟨o,h1,h2⟩,fun z=>nomatch z⟩
 | rl ds=>cases h
 | ty n=>cases h
 | ref a=>
  rw [isRef.mp i] at r
  cases (show u=Value.ref a from r)
  have h:tyR (S a)=some t:=h
  cases z:S a with
  | none=>rw [z] at h; cases h
  | some o=>
   rw [z] at h
   cases o with
   | lst ds=>
    cases h
    obtain⟨vs,e,_⟩:=hS.lst z
    obtain⟨its,_,⟨o,n,h1,h2,_⟩,_⟩:=I.list (SqL.of e)
    exact⟨_,PySem.W.kitx_list,⟨o,h1,h2⟩,fun z=>nomatch z⟩
   | dic=>
    cases h
    obtain⟨vs,e⟩:=hS _ _ z
    obtain⟨_,_,vs',_,p⟩:=(show ObjOk X.prog X.w H s.heap a (.dK vs) from I.hok a _ e)
    obtain⟨o,es,ep,h1,h2,_⟩:=p
    exact⟨_,PySem.W.kitx_dict,⟨o,h1,h2.1⟩,fun z=>nomatch z⟩
   | exc _=>cases h
   | fn _=>cases h
   | tbl _=>cases h
   | gen _=>cases h
theorem kitAny_of {K:Fg} (t:Ty):∀ cs:List Ty,PySem.W.kitAny K (.type t.name) (cs.map fun c=>.type c.name)=some (cs.any (subT t))
 | []=>rfl
 | c::r=>by
  have ih:=kitAny_of (K:=K) t r
  rw [List.map_cons,PySem.W.kitAny,kit_of]
  cases z:subT t c with
  | true=>simp [z]
  | false=>simp only [List.any_cons,z,Bool.false_or]; exact ih
theorem isDs_tys {K:Fg} {H:Hp}:∀ {cs:List Ty} {xs:List V},IsDs K H (cs.map D.ty) xs->xs=cs.map fun c=>V.ty c.name
 | [],_,h=>isNil.mp h
 | b::bs,_,h=>by
  obtain⟨v,r,rfl,h1,h2⟩:=isCons.mp h
  rw [isTy.mp h1,isDs_tys h2]
  rfl
theorem vals_tys:∀ {cs:List Ty} {us:List Value},Vals (cs.map fun c=>V.ty c.name) us->us=cs.map fun c=>Value.type c.name
 | [],_,.nil=>rfl
 | b::bs,_,.cons r t=>by
  cases r
  rw [vals_tys t]
  rfl
def bIsiX:DSp:=fun ds S k=>match ds with
 | [d,.ty c]=>∃ t,tyD S d=some t/\k (.bl (subT t c)) S
 | [d,.tup cs]=>∃ (t:Ty) (ts:List Ty),tyD S d=some t/\cs=ts.map D.ty/\k (.bl (ts.any (subT t))) S
 | _=>False
theorem b_isiX {X:Cx}:CallR X (.builtin "isinstance") (upC X.K bIsiX):=by
 intro pins s σ H xs us Q I rs h
 obtain⟨ds,S,k,i,hS,r,n⟩:=h
 unfold bIsiX at r
 split at r
 ·rename_i d c
  obtain⟨t,ht,r⟩:=r
  obtain⟨x,y,rfl,i1,i2⟩:=isDs2 i
  have e2:=isTy.mp i2
  subst e2
  obtain⟨u,w',rfl,r1,r2⟩:=vals2 rs
  cases (show w'=Value.type c.name from r2)
  obtain⟨Hh,kx,p,nb⟩:=kitx_D I hS i1 r1 ht
  exact PySem.W.kia_one kx I.kIn p (kit_of t c) nb fun tk=>⟨.bl (subT t c),H,I.tok tk,rfl,n _ _ _ _ r (Kp.refl H) hS (isBl.mpr rfl)⟩
 ·rename_i d cs
  obtain⟨t,ts,ht,rfl,r⟩:=r
  obtain⟨x,y,rfl,i1,i2⟩:=isDs2 i
  obtain⟨a,vs,rfl,q,j⟩:=isTup.mp i2
  have ev:=isDs_tys j
  subst ev
  obtain⟨u,w',rfl,r1,r2⟩:=vals2 rs
  cases (show w'=Value.ref a from r2)
  obtain⟨Hh,kx,p,nb⟩:=kitx_D I hS i1 r1 ht
  obtain⟨its,rv,⟨o,h1,h2,m,h3⟩,_⟩:=I.tuple q
  have ei:=vals_tys rv
  subst ei
  obtain⟨oc,od,odt,os⟩:=o
  cases h2
  cases h3
  exact PySem.W.kia_tup kx I.kIn p h1 (kitAny_of t ts) nb fun tk=>⟨.bl (ts.any (subT t)),H,I.tok tk,rfl,n _ _ _ _ r (Kp.refl H) hS (isBl.mpr rfl)⟩
 ·exact r.elim
theorem for_coreG {K:Fg} {ok:DH->Prop} {gg:DG} {b:DS} {M:DEnds} {ds:List D} {L:Lo} {S:DH} {N:Ends} {σ:L2.St} {H:Hp} {J:It} (hL:Lc K H L σ) (hS:Hs K H S) (h:dLoop ok gg b M ds L S) (r:Rch K H M N)
  (hgo:∀ i d S1 H1,ds[i]?=some d->Kp H H1->Hs K H1 S1->ok S1->J.go i H1/\∀ x H',J.yld i H1 x H'->Kp H1 H'/\Hs K H' S1/\IsD K H' d x)
  (hst:∀ S1 H1,Kp H H1->Hs K H1 S1->ok S1->J.stop ds.length H1):
  ∃ W:Nat->Nat->L2.St->Hp->Prop,(∃ m,W 0 m σ H)/\∀ i m σ H,W i m σ H->
   (J.stop i H/\N.nx σ H)\/(J.go i H/\∃ N':L2.St->Hp->Prop,(∀ σ' H',N' σ' H'->∃ m',m' < m/\W (i+1) m' σ' H')/\∀ x H',J.yld i H x H'->upG K gg x σ H' fun σ2 H2=>upS K b {N with nx:=N',ct:=N',bk:=N.nx} σ2 H2):=by
 refine⟨fun i m σ1 H1=>m=ds.length - i/\i<=ds.length/\∃ L1 S1,Lc K H1 L1 σ1/\Hs K H1 S1/\Kp H H1/\dLoop ok gg b M (ds.drop i) L1 S1,⟨ds.length,by simp,Nat.zero_le _,L,S,hL,hS,Kp.refl H,h⟩,?_⟩
 rintro i m σ1 H1 ⟨rfl,hi,L1,S1,hL1,hS1,k1,w1⟩
 by_cases hlt:i < ds.length
 ·have e:ds.drop i=ds[i]::ds.drop (i+1):=List.drop_eq_getElem_cons hlt
  rw [e] at w1
  obtain⟨o1,w1⟩:=w1
  obtain⟨g1,y1⟩:=hgo i ds[i] S1 H1 (by simp [hlt]) k1 hS1 o1
  refine .inr ⟨g1,fun σ' H'=>i+1<=ds.length/\∃ L' S',Lc K H' L' σ'/\Hs K H' S'/\Kp H H'/\dLoop ok gg b M (ds.drop (i+1)) L' S',fun σ' H' ⟨q1,q2⟩=>⟨ds.length - (i+1),by omega,rfl,q1,q2⟩,fun x H' y=>?_⟩
  obtain⟨k0,hS0,ix⟩:=y1 x H' y
  have k10:=k1.trans k0
  refine⟨ds[i],L1,S1,_,ix,hL1.kp k0,hS0,w1,fun L2 S2 σ2 H2 q k2 hL2 hS2=>⟨L2,S2,_,hL2,hS2,q,?_⟩⟩
  have r2:=r.kp (k10.trans k2)
  exact⟨fun L3 S3 σ3 H3 q3 k3 hL3 hS3=>⟨hlt,L3,S3,hL3,hS3,(k10.trans k2).trans k3,q3⟩,r2.rt,r2.nx,fun L3 S3 σ3 H3 q3 k3 hL3 hS3=>⟨hlt,L3,S3,hL3,hS3,(k10.trans k2).trans k3,q3⟩⟩
 ·have e:i=ds.length:=by omega
  subst e
  rw [List.drop_length] at w1
  obtain⟨o1,w1⟩:=w1
  exact .inl ⟨hst S1 H1 k1 hS1 o1,r.nx L1 S1 σ1 H1 w1 k1 hL1 hS1⟩
section
variable {X:Cx} {pos:Pos}
def dCutE (g:DE) (tl th:DOp):DE:=fun L S k=>g L S fun x S1=>tl L S1 fun lo S2=>th L S2 fun hi S3=>match x with
 | .tup xs=>¬ (HT.sIx xs.length 0 lo=0/\HT.sIx xs.length xs.length hi=xs.length)/\k (.tup (cutD xs lo hi)) S3
 | .rl xs=>∀ p,S3 p=none->k (.ref p) (put S3 p (.lst (cutD xs lo hi)))
 | .ref a=>∃ xs,S3 a=some (.lst xs)/\∀ p,S3 p=none->k (.ref p) (put S3 p (.lst (cutD xs lo hi)))
 | _=>False
theorem d_cutEj {e:Expr} {g:DE} {lo hi:Option Expr} {tl th:DOp} {p2 pos:Pos} (he:EJ X e g) (hl:OJ X lo tl) (hu:OJ X hi th):EJ X (.Subscript e (.Slice lo hi none p2) pos) (dCutE g tl th):=
 ⟨PE.imp (pe_slice (SlR.or sl_tup sl_list) he.h hl.h hu.h) fun σ H Q ⟨L,S,k,hL,hS,h,n⟩=>up.go hL hS h fun d S1 v H1 h1 k1 hL1 hS1 i1=>by
  refine⟨L,S1,_,hL1,hS1,h1,fun lo' S2 H2 h2 k2 hS2=>⟨L,S2,_,hL1.kp k2,hS2,h2,fun hi' S3 H3 h3 k3 hS3=>?_⟩⟩
  cases d with
  | tup xs=>
   obtain⟨a,vs,rfl,t,j⟩:=isTup.mp i1
   have j3:=j.kp (k2.trans k3)
   refine .inl ⟨a,vs,rfl,(k2.trans k3).tup t,by rw [<- j.length]; exact h3.1,fun p hp=>?_⟩
   have k4:Kp H3 (upd H3 p (.tup (cutV vs lo' hi'))):=Kp.new hp
   refine n _ S3 _ _ h3.2 (k1.trans (k2.trans (k3.trans k4))) (hS3.new hp) (isTup.mpr ⟨p,_,rfl,SqT.of upd_same,?_⟩)
   unfold cutD cutV
   rw [j.length]
   exact((j3.drop _).take _).kp k4
  | rl xs=>
   obtain⟨a,vs,rfl,t,j⟩:=isRl.mp i1
   have j3:=j.kp (k2.trans k3)
   refine .inr ⟨a,vs,rfl,((k2.trans k3).fro t).sq,fun p hp=>?_⟩
   refine n _ _ _ _ (h3 p (hS3.free hp)) (k1.trans (k2.trans (k3.trans (Kp.new hp)))) (hS3.newL hp ?_) (isRef.mpr rfl)
   unfold cutD cutV
   rw [j.length]
   exact(j3.drop _).take _
  | ref a=>
   have e1:=isRef.mp i1
   subst e1
   obtain⟨xs,z,h3⟩:=h3
   obtain⟨vs,hl,j⟩:=hS3.lst z
   refine .inr ⟨a,vs,rfl,SqL.of hl,fun p hp=>?_⟩
   refine n _ _ _ _ (h3 p (hS3.free hp)) (k1.trans (k2.trans (k3.trans (Kp.new hp)))) (hS3.newL hp ?_) (isRef.mpr rfl)
   unfold cutD cutV
   rw [j.length]
   exact(j.drop _).take _
  | _=>exact(show False from h3).elim⟩
theorem d_compEIfj {elt tg iter c:Expr} {scope:Scope} {cl:List (Str×Addr)} {N:List Str} {cap:List (Option Nat)} {gg:DG} {ge gi:DE} {gc:DT} (hc:X.calm=true) (Sc:CompSc X scope cl N cap) (hi:EJ X iter gi) (hg:∀ s0 H0 ex C,GJ (cxC X scope cl N s0 H0 ex C) tg gg) (hcnd:∀ s0 H0 ex C,TJ (cxC X scope cl N s0 H0 ex C) c gc) (he:∀ s0 H0 ex C,EJ (cxC X scope cl N s0 H0 ex C) elt ge)
  (hs:∀ x,foldedSetIterable iter X.env x=pure x:=by intro _; rfl):EJ X (.ListComp elt [⟨tg,iter,[c],0⟩] scope pos) (dCompE cap gi gg (bdIf gc ge)):=
 ⟨PE.imp (pe_compIf hc Sc (pi_seq hi.h) (fun s0 H0 ex C=>(hg s0 H0 ex C).h) (fun s0 H0 ex C=>(hcnd s0 H0 ex C).h) (fun s0 H0 ex C=>(he s0 H0 ex C).h) hs) fun σ H Q ⟨L,S,k,hL,hS,h,n⟩=>up.go hL hS h fun d S1 v H1 h1 k1 hL1 hS1 i1=>by
  obtain⟨p,hp,h1⟩:=h1
  obtain⟨a,e,q⟩:=seq_go hS1 i1 hp
  refine⟨a,e,?_⟩
  have n':∀ d S' v H',k d S'->Kp H1 H'->Hs X.K H' S'->IsD X.K H' d v->Q v H':=fun d S' v H' q k3=>n d S' v H' q (k1.trans k3)
  rcases q with ⟨q1,q2,q3⟩ | ⟨q1,q2,q3⟩
  ·exact .inl ⟨q1,fun D hD=>comp_coreIf (hL1.cap cap) hS1 hD (h1 D (hS1.free hD)) n' q2 q3⟩
  ·exact .inr ⟨q1,fun D hD=>comp_coreIf (hL1.cap cap) hS1 hD (h1 D (hS1.free hD)) n' q2 q3⟩⟩
theorem loop_ix {ok:DH->Prop} {g:DG} {b:DS} {M:DEnds} (Iv:List D->Lo->DH->Prop) (hok:∀ r L S,Iv r L S->ok S)
  (hs:∀ d r L S N,Iv (d::r) L S->(∀ L' S',Iv r L' S'->N L' S')->g d L S fun L1 S1=>b {M with nx:=N,ct:=N,bk:=M.nx} L1 S1) (hd:∀ L S,Iv [] L S->M.nx L S):∀ r L S,Iv r L S->dLoop ok g b M r L S
 | [],L,S,i=>⟨hok [] L S i,hd L S i⟩
 | d::r,L,S,i=>⟨hok _ L S i,hs d r L S _ i fun L' S' i'=>loop_ix Iv hok hs hd r L' S' i'⟩
end
end DL
namespace L2
open PySem PySem.Spec PyProof.Rows
section
variable {X:Cx} {elt tg iter c:Expr} {scope:Scope} {cl:List (Str×Addr)} {N:List Str} {cap:List (Option Nat)} {pos:Pos} {wi:TI} {g:TG} {te:TE} {tc:TT}
theorem comp_store (Sc:CompSc X scope cl N cap) {pins:List (Addr×Obj)} {σ σ3:St} {H2 H3:Hp} {s2 s4:Shared} {fp:List Addr} {h1':Heap} {C:Addr} (I2:Inv X pins σ H2 s2) (f2:∀ b∈fp,FpOk X pins H2 b) {H1:Hp}
  (un3:Un (frs X.stack) fp H2 H1 s2.heap h1') (I4:Inv (cxC X scope cl N {s2 with heap:=h1'} H1 fp C) [] σ3 H3 s4) (hC:s2.heap.objs.size<=C) {x:Str} {pos':Pos} {i:Nat} {D:Ends} {a:Addr} (pg:PG X (.Name x pos') (gName i)) (qn:D.nx (σ.set i (some (.ref a))) H3):
  wpAny (model X.prog X.w) X.A (assign (.Name x pos') X.env (.ref a)) (fun _ s''=>∃ m,s''.heap.Ns C m/\∀ h',Heap.SameBut C s''.heap h'->∃ σ' H',Inv X pins σ' H' {s'' with heap:=h'}/\D.nx σ' H') X.xe s4:=by
 have J:Inv X pins σ H3 s4:=comp_out Sc I2 f2 un3 I4 (h':=s4.heap) hC ⟨rfl,fun _ _=>rfl⟩
 obtain⟨m,⟨o,es,ep,ho,hd,hr⟩,_⟩:=I4.loc
 have ltC:∀ b u,s2.heap.get? b=some u->b≠C:=fun b u e=>Nat.ne_of_lt (Nat.lt_of_lt_of_le (Heap.lt_size e) hC)
 have hL:C≠X.env.locals:=fun z=>by
  have:=I2.lt
  rw [<- z] at this
  exact absurd (Nat.lt_of_lt_of_le this hC) (Nat.lt_irrefl _)
 have hn:H3 C=none:=I4.free
 have J':Inv X ((C,o)::pins) σ H3 s4:=⟨J.ok,J.os,J.bare,J.base,J.loc,J.cell,J.free,J.freeC,fun p hp=>by
  rcases List.mem_append.mp hp with hp | hp
  ·exact J.pin p (List.mem_append_left _ hp)
  ·rcases List.mem_cons.mp hp with rfl | hp
   ·exact⟨ho,hn,hL,I2.nofs hC,fun v z=>by rw [hd] at z; cases z⟩
   ·exact J.pin p (List.mem_append_right _ hp),J.hok,J.len⟩
 refine thn (pg _ s4 σ H3 (.ref a) (.ref a) (fun σ' H'=>σ'=σ.set i (some (.ref a))/\H'=H3) J' rfl ⟨rfl,rfl⟩) fun _ s5 h5=>?_
 obtain⟨_,_,I5,rfl,rfl⟩:=h5
 have h6:=I5.pin (C,o) (List.mem_append_right _ List.mem_cons_self)
 refine⟨m,⟨o,es,ep,h6.1,hd,hr⟩,fun h' sb=>⟨_,_,?_,qn⟩⟩
 have I6:Inv X pins (σ.set i (some (.ref a))) _ s5:=⟨I5.ok,I5.os,I5.bare,I5.base,I5.loc,I5.cell,I5.free,I5.freeC,fun p hp=>I5.pin p (by
  rcases List.mem_append.mp hp with hp | hp
  ·exact List.mem_append_left _ hp
  ·exact List.mem_append_right _ (List.mem_cons_of_mem _ hp)),I5.hok,I5.len⟩
 exact I6.turned (t':=s5.toks) (it:=C) (fun b u hb e=>(sb.2 b hb).trans e) hn hL (.inr (Nat.le_trans I2.sz hC)) (fun y c e=>by
  obtain⟨v,u,q,_⟩:=I2.cell y c e
  exact ltC c u q) (fun p hp=>ltC p.1 p.2 (I2.pin p hp).1)
theorem ps_compS {x:Str} {i:Nat} {pos' spos:Pos} (hN:X.N.Nodup) (hi':X.N[i]?=some x) (hx':X.env.scope.names.lookup x=some .local) (hsw:swapsWith (.ListComp elt [⟨tg,iter,[],0⟩] scope pos) (some (.Name x pos')) spos.line X.env=pure true) (hc:X.calm=true) (Sc:CompSc X scope cl N cap) (hi:PI X tg iter wi) (hg:∀ s0 H0 ex C,PG (cxC X scope cl N s0 H0 ex C) tg g) (he:∀ s0 H0 ex C,PE (cxC X scope cl N s0 H0 ex C) elt te)
  (hs:∀ x,foldedSetIterable iter X.env x=pure x:=by intro _; rfl):PS X (.Assign [.Name x pos'] (.ListComp elt [⟨tg,iter,[],0⟩] scope pos) spos) (tAsg (tComp cap wi g te) (gName i)):=by
 intro pins s σ H D I h
 have pg:PG X (.Name x pos') (gName i):=pg_name hN hi' (.inl hx') (.inr hx')
 rw [exec_Assign_Name_used _ _ _ _ hsw]
 refine wpAny_bind (wpAny_standAt (wpAny_bind ?_))
 show wpAny _ _ (evalThenUse _ X.env _) _ _ _
 unfold evalThenUse
 have Q:=fun v H1=>D.nx (σ.set i (some v)) H1
 refine wpAny_bind (wpAny_mono (Q:=fun _ s'=>∃ σ' H',Inv X pins σ' H' s'/\D.nx σ' H') ?_ (fun v s' q=>wpAny_pure (wpAny_pure q)) fun _ _ q=>q)
 have hcell:∀ y∈scope.names,y.2≠.cell:=fun y hy=>by simpa using List.all_eq_true.mp Sc.nocell y hy
 have hnames:∀ y∈scope.names,y.2=.local->scope.names.lookup y.1=some .local:=fun y hy e=>by
  have:=List.all_eq_true.mp Sc.names y hy
  rw [e] at this
  simpa using this
 refine wpAny_comprehension_free (use:=some (assign (.Name x pos') X.env)) rfl hs Sc.clos Sc.kind hnames (thn (hi pins s σ H _ I h) fun v s1 h1=>thn h1 fun itv s2 h2=>?_)
 obtain⟨it,fp,tn,J,H2,e,I2,T,st2,f2,hW⟩:=h2
 subst e
 refine wpAny_newObj_type (wpAny_newFunctionEnv hcell (by intro y hy; simp at hy) (fun h1 hns hsb=>?_) Sc.kind)
 obtain⟨W,⟨m0,w0⟩,turn⟩:=hW s2.heap.objs.size I2.fresh
 dsimp only at hns hsb ⊢
 generalize hD:s2.heap.push {cls:=.type "list",dict:=none,data:=.seq ([]:List Value).toArray}=h1' at hns hsb ⊢
 obtain⟨I3,un3⟩:=inv_comp (tk:=s2.toks+([]:List (Str×Value)).length) Sc I2 f2 (fun b hb=>let ⟨o,e,_⟩:=T.obj 0 _ st2 b hb; ⟨o,e⟩) hD hns hsb
 have hC:s2.heap.objs.size<=h1'.objs.size:=by rw [<- hD,Heap.size_push]; exact Nat.le_succ _
 have k1:∀ b o,s2.heap.get? b=some o->h1.get? b=some o:=fun b o e=>by
  have e1:h1'.get? b=some o:=by rw [<- hD]; exact Heap.get?_push_of_some _ e
  exact(hsb.2 b (Nat.ne_of_lt (Heap.lt_size e1))).trans (Heap.get?_push_of_some _ e1)
 have st3:tn 0 h1:=T.keep 0 _ _ st2 fun b _ o e=>k1 b o e
 have fr3:∀ b∈fp,(upd H2 s2.heap.objs.size (.lst [])) b=none:=fun b hb=>by
  obtain⟨o,e,_⟩:=T.obj 0 _ st2 b hb
  rw [upd_ne (Nat.ne_of_lt (Heap.lt_size e))]
  exact(f2 b hb).1
 have loop:∀ s3:Shared,s3={s2 with heap:=h1,toks:=s2.toks+([]:List (Str×Value)).length}->
   codeAny (model X.prog X.w) X.A (.compLoop (.ListComp elt [⟨tg,iter,[],0⟩] scope pos) 0 (.ref it) (.ref s2.heap.objs.size) (compEnvC scope cl h1'.objs.size X.env))
    (compPost (model X.prog X.w) X.A X.xe (some (assign (.Name x pos') X.env)) (fun _ s'=>∃ σ' H',Inv X pins σ' H' s'/\D.nx σ' H') (.ref s2.heap.objs.size) h1'.objs.size) s3:=by
  rintro s3 rfl
  refine compLoop_if0 (fun n s'=>∃ i σ' H',Inv (cxC X scope cl N {s2 with heap:=h1'} (upd H2 s2.heap.objs.size (.lst [])) fp h1'.objs.size) [] σ' H' s'/\tn i s'.heap/\(∀ b∈fp,H' b=none)/\W i n σ' H') ?_ m0 ⟨0,_,_,I3,st3,fr3,w0⟩
  rintro n s3 ⟨i,σ3,H3,I3,st3,fr3,w3⟩
  rcases turn i n σ3 H3 w3 with ⟨stop,qn⟩ | ⟨go,Nn,hN,step⟩
  ·refine thn (T.done (cxC X scope cl N {s2 with heap:=h1'} (upd H2 s2.heap.objs.size (.lst [])) fp h1'.objs.size) rfl rfl rfl hc i [] s3 σ3 H3 NoE I3 (comp_fp I3 fr3) st3 stop) fun r s4 ⟨hr,I4⟩=>?_
   subst hr
   exact comp_store Sc I2 f2 un3 I4 hC pg qn
  ·refine thn (T.item (cxC X scope cl N {s2 with heap:=h1'} (upd H2 s2.heap.objs.size (.lst [])) fp h1'.objs.size) rfl rfl rfl hc i [] s3 σ3 H3 NoE I3 (comp_fp I3 fr3) st3 go) fun r s4 ⟨u,hr,h4⟩=>?_
   subst hr
   refine thn h4 fun _ s5 ⟨x,H5,I5,r5,y5,st5,fr5⟩=>?_
   have I5':=I5.pinned (comp_fp I5 fr5) (T.obj _ _ st5)
   refine thn (hg _ _ _ _ _ s5 σ3 H5 x u _ I5' r5 (step x H5 y5)) fun _ s6 ⟨σ6,H6,I6,q6⟩=>?_
   refine thn (he _ _ _ _ _ s6 σ6 H6 _ I6 q6) fun uv s7 ⟨v,H7,I7,r7,ys,hy,hl,q7⟩=>?_
   refine thn (mt_append (X:=cxC X scope cl N {s2 with heap:=h1'} (upd H2 s2.heap.objs.size (.lst [])) fp h1'.objs.size) _ s7 σ6 H7 (.ref s2.heap.objs.size) [v] (.ref s2.heap.objs.size) [uv] (fun _ H8=>Nn σ6 H8) I7 rfl (.cons r7 .nil) ⟨_,ys,v,rfl,rfl,hy,hl,q7⟩) fun _ s8 ⟨_,H8,I8,_,n8⟩=>?_
   obtain⟨m',hm,w8⟩:=hN σ6 H8 n8
   refine⟨m',hm,i+1,σ6,H8,I8.unpinned,T.keep _ _ _ st5 fun b hb o e=>(I8.pin (b,o) (List.mem_append_right _ (List.mem_append_right _ (mem_pinsAt hb e)))).1,fun b hb=>?_,w8⟩
   obtain⟨o,e,d⟩:=T.obj _ _ st5 b hb
   exact(I8.pin (b,o) (List.mem_append_right _ (List.mem_append_right _ (mem_pinsAt hb e)))).2.1
 exact codeAny_compStart_list (loop _ rfl) (T.self _ 0 _ _ _ st3 (loop _ rfl))
end
end L2
namespace DL
open PySem PySem.Spec PyProof.Rows L2
theorem setC {K:Fg} {ge:DE} {tc:TE} {i:Nat} (f:∀ σ H Q,up K ge σ H Q->tc σ H Q):∀ N σ H,upS K (dSet i ge) N σ H->tAsg tc (gName i) N σ H:=fun N σ H ⟨L,S,M,hL,hS,h,r⟩=>
 f σ H _ (up.go hL hS h fun d S1 v H1 h1 k1 hL1 hS1 i1=>r.nx _ S1 _ H1 h1 k1 (hL1.set i1 i) hS1)
section
variable {X:Cx} {pos pos' p:Pos} {elt tg a b c:Expr} {scope:Scope} {cl:List (Str×Addr)} {N:List Str} {cap:List (Option Nat)} {gg:DG} {ge gi:DE} {gc:DT} {ta:DA}
theorem dst_compEjS {xv:Str} {iv:Nat} {pv sv:Pos} (hNv:X.N.Nodup) {elt tg iter:Expr} {scope:Scope} {cl:List (Str×Addr)} {N:List Str} {cap:List (Option Nat)} {gg:DG} {ge gi:DE} (hc:X.calm=true) (Sc:CompSc X scope cl N cap) (hi:EJ X iter gi) (hg:∀ s0 H0 ex C,GJ (cxC X scope cl N s0 H0 ex C) tg gg) (he:∀ s0 H0 ex C,EJ (cxC X scope cl N s0 H0 ex C) elt ge)
  (hs:∀ x,foldedSetIterable iter X.env x=pure x:=by intro _; rfl) (hiv:X.N[iv]?=some xv:=by rfl) (hxv:X.env.scope.names.lookup xv=some .local:=by rfl) (hswv:swapsWith (.ListComp elt [⟨tg,iter,[],0⟩] scope pos) (some (.Name xv pv)) sv.line X.env=pure true:=by rfl):SJ X (.Assign [.Name xv pv] (.ListComp elt [⟨tg,iter,[],0⟩] scope pos) sv) (dSet iv (dCompE cap gi gg (bdAll ge))):=
 ⟨PS.imp (ps_compS hNv hiv hxv hswv hc Sc (pi_seq hi.h) (fun s0 H0 ex C=>(hg s0 H0 ex C).h) (fun s0 H0 ex C=>(he s0 H0 ex C).h) hs) (setC (fun σ H Q ⟨L,S,k,hL,hS,h,n⟩=>up.go hL hS h fun d S1 v H1 h1 k1 hL1 hS1 i1=>by
  obtain⟨p,hp,h1⟩:=h1
  obtain⟨a,e,q⟩:=seq_go hS1 i1 hp
  refine⟨a,e,?_⟩
  have n':∀ d S' v H',k d S'->Kp H1 H'->Hs X.K H' S'->IsD X.K H' d v->Q v H':=fun d S' v H' q k3=>n d S' v H' q (k1.trans k3)
  rcases q with ⟨q1,q2,q3⟩ | ⟨q1,q2,q3⟩
  ·exact .inl ⟨q1,fun D hD=>comp_core (hL1.cap cap) hS1 hD (h1 D (hS1.free hD)) n' q2 q3⟩
  ·exact .inr ⟨q1,fun D hD=>comp_core (hL1.cap cap) hS1 hD (h1 D (hS1.free hD)) n' q2 q3⟩))⟩
end
end DL
namespace L2
open PySem PySem.Spec PyProof.Rows
def CXE (P:Program) (w:World):CXT:=fun outer H s E e s'=>∃ (ea:Addr) (cls a0:Value) (H':Hp) (B:Heap),e=.ref ea/\s'.os=s.os/\AllBare s'.gens/\Heap.FlyingW B outer ea cls a0 s'.heap/\HOk P w H' B/\
 (∀ b o,s.heap.get? b=some o->H b=none->b∉frs outer->B.get? b=some o)/\(∀ b o,s.heap.get? b=some o->b∉frs outer->∃ o',B.get? b=some o')/\Un (frs outer) [] H H' s.heap s'.heap/\E cls none H'
theorem CXE.mono {P:Program} {w:World} {outer:List Env} {H:Hp} {s:Shared} {E E':XK} {e:Value} {s':Shared} (h:CXE P w outer H s E e s') (i:∀ c H',E c none H'->E' c none H'):CXE P w outer H s E' e s':=by
 obtain⟨ea,cls,a0,H',B,h1,h2,h3,h4,h5,h6,h7,h8,h9⟩:=h
 exact⟨ea,cls,a0,H',B,h1,h2,h3,h4,h5,h6,h7,h8,i _ _ h9⟩
section
variable {P:Program} {w:World} {K:PySem.W.Frag} {mg:Str->Option Value} {base:Heap} {N:List Str} {qual:Str} {scope:Scope} {f:Addr} {cd:Value} {A:Around} {outer:List Env} {s0:Shared} {H0:Hp} {E:XK}
theorem cx_out {pins:List (Addr×Obj)} {σ:St} {H H':Hp} {s:Shared} {sx:Shared} {B h':Heap} {ea:Addr} {cls a0:Value} (I:Inv (cxOf (CXE P w) P w K mg base N qual scope f cd A outer s0 H0 E) pins σ H s) (os:sx.os=s.os) (bare:AllBare sx.gens)
  (fl:Heap.FlyingW B outer ea cls a0 h') (hok:HOk P w H' B) (hB:∀ b o,s.heap.get? b=some o->H b=none->b∉frs (cxOf (CXE P w) P w K mg base N qual scope f cd A outer s0 H0 E).stack->B.get? b=some o)
  (hB2:∀ b o,s.heap.get? b=some o->b∉frs (cxOf (CXE P w) P w K mg base N qual scope f cd A outer s0 H0 E).stack->∃ o',B.get? b=some o')
  (hsl:∀ b∈frs outer,∀ o,s.heap.get? b=some o->∃ sl,h'.get? b=some {o with slots:=sl}) (fr:∀ b o,s.heap.get? b=some o->H b=none->H' b=none) (tu:∀ b xs,H b=some (.tup xs)->H' b=some (.tup xs)) (fz:∀ b o u,H b=some (.frz o u)->H' b=some (.frz o u))
  (tb:∀ b ps,H b=some (.tbl ps)->∃ more,H' b=some (.tbl (ps++more))) (q:E cls none H'):CXE P w outer H0 s0 E (.ref ea) {sx with heap:=h'}:=by
 have nst:∀ b o,s0.heap.get? b=some o->b∉frs outer->b∉frs (cxOf (CXE P w) P w K mg base N qual scope f cd A outer s0 H0 E).stack:=fun b o e hb z=>by
  rcases List.mem_cons.mp (I.stkSub b z) with z | z
  ·have:=Heap.lt_size e
   have ab:=I.ok.above
   rw [z] at this
   exact absurd (Nat.lt_of_lt_of_le this ab) (Nat.lt_irrefl _)
  ·exact hb z
 have hkeep:∀ b o,s0.heap.get? b=some o->H0 b=none->b∉frs outer->B.get? b=some o:=fun b o e n hb=>
  hB b o (I.base.keep b o e n hb (fun z=>nomatch z)) (I.base.free b o e n (fun z=>nomatch z)) (nst b o e hb)
 have hthere:∀ b o,s0.heap.get? b=some o->b∉frs outer->∃ o',B.get? b=some o':=fun b o e hb=>by
  obtain⟨o',e1⟩:=I.base.there b o e (fun z=>nomatch z)
  exact hB2 b o' e1 (nst b o e hb)
 refine⟨ea,cls,a0,H',B,rfl,os.trans I.os,bare,fl,hok,hkeep,hthere,⟨fun b o e n hb _=>fl.1 _ _ (hkeep b o e n hb),fun b o e n hb _=>?_,fun b o e n _=>?_,fun b o e _=>?_,fun b xs e=>tu _ _ (I.base.tups b xs e),fun b o u e=>fz _ _ _ (I.base.frzs b o u e),fun b ps e=>?_⟩,q⟩
 ·obtain⟨sl,e1⟩:=I.base.slot b o e n hb (fun z=>nomatch z)
  obtain⟨sl',e2⟩:=hsl b hb _ e1
  exact⟨sl',e2⟩
 ·obtain⟨o',e1⟩:=I.base.there b o e (fun z=>nomatch z)
  exact fr b o' e1 (I.base.free b o e n (fun z=>nomatch z))
 ·by_cases hb:b∈frs outer
  ·obtain⟨o',e1⟩:=I.base.there b o e (fun z=>nomatch z)
   obtain⟨sl',e2⟩:=hsl b hb _ e1
   exact⟨_,e2⟩
  ·obtain⟨o',e1⟩:=hthere b o e hb
   exact⟨o',fl.1 _ _ e1⟩
 ·obtain⟨m1,e1⟩:=I.base.tbls b ps e
  obtain⟨m2,e2⟩:=tb b _ e1
  exact⟨m1++m2,by rw [e2,Array.append_assoc]⟩
end
theorem exc_own {K:PySem.W.Frag} {C:Addr} {bmB:List Value} {newId:String} {h:Heap} {x:Str} {mg:Str->Option Value} (X:K.In h) (q:PySem.W.excIn K C bmB newId=true) (hm:mg x=some (.ref C)):OwnCls x C bmB newId mg h:=by
 refine⟨hm,?_⟩
 unfold PySem.W.excIn at q
 split at q
 ·rename_i d1 c1 sl hlk
  split at q
  ·rename_i C1 bm a0 a1 a2 a3 nn a5 hmro hsl
   simp only [Bool.and_eq_true,beq_iff_eq,Bool.not_eq_true'] at q
   obtain⟨⟨⟨⟨⟨q1,q2⟩,q3⟩,q4⟩,q5⟩,q6⟩:=q
   subst q1 q2
   obtain⟨v1,v2,v3,v4,v5,v6,v7,v8,v9,v10,v11⟩:=c1
   dsimp only at hmro q3 q5 q6
   subst hmro q3
   obtain⟨l⟩:=sl
   simp only at hsl
   subst hsl
   exact⟨bm,v4,v1,v5,v2,v6,v7,v8,v9,v10,d1,a0,a1,a2,a3,a5,_,X _ _ hlk,.of_isNs (PySem.W.isNs_of_in X q5),PySem.W.nsMap_none_of_in X q5 q6,PySem.W.tail_of_in X q4⟩
  ·cases q
 ·cases q
section
variable {P:Program} {w:World} {K:PySem.W.Frag} {mg:Str->Option Value} {base:Heap} {N:List Str} {qual:Str} {scope:Scope} {f:Addr} {cd:Value} {A:Around} {outer:List Env} {s0:Shared} {H0:Hp} {E:XK}
theorem ps_raise {x t:Str} {C:Addr} {bmB:List Value} {Bn newId initId:String} {j:Nat} {p np cpos pos:Pos} (FB:ExcBaseFacts Bn newId initId bmB) (q:PySem.W.excIn K C bmB newId=true) (hm:mg x=some (.ref C))
  (hg:Gl (cxOf (CXE P w) P w K mg base N qual scope f cd A outer s0 H0 E) x) (hd:(x == ("__debug__":Str))=false:=by decide):
  PS (cxOf (CXE P w) P w K mg base N qual scope f cd A outer s0 H0 E) (.Raise (some (.Call (.Name x np) [.Constant (.str t) j p] [] cpos)) none pos) (fun _ _ H=>E (.ref C) none H):=by
 intro pins s σ H D I h
 obtain⟨tl,Nn,nm,qn,bs,hdct,sn,sub,ab,col,dd,k0,k1,k2,k3,k5,mN,hC,hN,hni,T⟩:=(exc_own (x:=x) I.kIn q hm).obj
 refine wpAny_Raise_call_subT (C:=C) (nm:=nm) (q:=qn) (N:=Nn) (bs:=bs) (bm:=tl) (hdct:=hdct) (sn:=sn) (sub:=sub) (ab:=ab) (col:=col) (dd:=dd) (k0:=k0) (k1:=k1) (k2:=k2) (k3:=k3) (k5:=k5)
  FB (mN:=mN) (T.hasType FB.hasBase) (I.ok.hd rfl) rfl hni (ld_glob I hg hm ⟨rfl,?_⟩ hd)
 refine Calls.evalArgs_plain (Calls.spliced_cons (Calls.Constant_str (k:=j) (pos:=p) (Calls.spliced_nil ⟨rfl,Nat.le_of_ble_eq_true rfl,hC,hN,T,fun h' e hx=>?_⟩)))
 show wpAny _ _ (leaving _ (.ref e)) _ _ _
 have I1:=I.tok (s.toks+1)
 have hin:∀ env∈(cxOf (CXE P w) P w K mg base N qual scope f cd A outer s0 H0 E).stack,∀ b,env.frame=some b->b∈frs (cxOf (CXE P w) P w K mg base N qual scope f cd A outer s0 H0 E).stack:=fun env he b hb=>List.mem_filterMap.mpr ⟨env,he,hb⟩
 refine wpAny_leaves_madeW (base:=PySem.W.hideAll s.heap (frs (cxOf (CXE P w) P w K mg base N qual scope f cd A outer s0 H0 E).stack)) I.ok.frames rfl (fun b o z=>PySem.W.of_hideAll _ z) (PySem.W.funFrames_hide I.stack hin) hx fun h2 t2 fl _ _ up=>?_
 refine cx_out (sx:={s with heap:=h',toks:=s.toks+1}) I rfl I.bare fl (fun b ob z=>?_) (fun b o z _ hb=>PySem.W.hideAll_get _ z hb) (fun b o z hb=>⟨o,PySem.W.hideAll_get _ z hb⟩) (fun b hb o z=>?_) (fun _ _ _ n=>n) (fun _ _ z=>z) (fun _ _ _ z=>z) (fun b ps z=>⟨#[],by rw [z]; simp⟩) h
 ·refine(I.hok b ob z).stay (fun c v hc y=>PySem.W.hideAll_get _ y fun hf=>?_) (fun _ y=>y) fun _ _ y=>y
  have hn:=I.stkFree c hf
  rcases hc with rfl | hc
  ·rw [hn] at z; cases z
  ·rw [hn] at hc; cases hc
 ·obtain⟨_,o2,e2,d2⟩:=I.stack.mem (List.mem_cons_of_mem _ hb)
  rw [z] at e2
  cases e2
  exact up b o (hx.keeps _ _ z) d2
end
section
variable {X:Cx} {pins:List (Addr×Obj)} {σ:St} {H H':Hp} {s s':Shared} {E:XK}
theorem Inv.landed {B h5:Heap} {ea:Addr} {cls a0:Value} (I:Inv X pins σ H s) (os:s'.os=s.os) (bare:AllBare s'.gens) (fl:Heap.FlyingW B X.stack ea cls a0 s'.heap) (fl5:Heap.FlyingW B X.stack ea cls a0 h5) (up:s'.heap.UpToSlots h5) (hok:HOk X.prog X.w H' B)
  (hB:∀ b o,s.heap.get? b=some o->H b=none->b∉frs X.stack->B.get? b=some o) (hB2:∀ b o,s.heap.get? b=some o->b∉frs X.stack->∃ o',B.get? b=some o') (un:Un (frs X.stack) [] H H' s.heap s'.heap):
  Inv X pins σ H' {s' with heap:=h5}:=by
 have fsl:∀ b∈frs X.stack,∀ o,s.heap.get? b=some o->∃ sl,h5.get? b=some {o with slots:=sl}:=fun b hb o e=>by
  obtain⟨sl,e1⟩:=un.slot b o e (I.stkFree b hb) hb (fun z=>nomatch z)
  obtain⟨_,o2,e2,d2⟩:=fl.2.2.1.mem hb
  rw [e1] at e2
  cases e2
  obtain⟨sl',e3⟩:=up b _ e1 d2
  exact⟨sl',e3⟩
 refine I.call' (s':={s' with heap:=h5}) (ch:=[]) os ⟨fun b o e n hb _=>fl5.1 _ _ (hB b o e n hb),fun b o e n hb _=>fsl b hb o e,un.free,fun b o e _=>?_,un.tups,un.frzs,un.tbls⟩ (hok.kept fl5.1) bare fun b z=>nomatch z
 by_cases hb:b∈frs X.stack
 ·obtain⟨sl,e1⟩:=fsl b hb o e
  exact⟨_,e1⟩
 ·obtain⟨o',e1⟩:=hB2 b o e hb
  exact⟨o',fl5.1 _ _ e1⟩
theorem Inv.freeze {a:Addr} {o:Obj} (I:Inv X pins σ H s) (e:s.heap.get? a=some o) (hn:H a=none) (h0:X.s₀.heap.get? a=none) (hL:a≠X.env.locals) (hc:∀ x c,X.env.cells.lookup x=some c->c≠a) (hp:∀ p∈X.pn++pins,p.1≠a):
  Inv X pins σ (upd H a (.frz o (.ext fun _=>True))) s:=by
 have ne:∀ b u,X.s₀.heap.get? b=some u->b≠a:=fun b u z y=>by rw [y,h0] at z; cases z
 refine⟨I.ok,I.os,I.bare,⟨I.base.keep,I.base.slot,fun b u z n x=>?_,I.base.there,fun b xs z=>?_,fun b u v z=>?_,fun b ps z=>?_⟩,I.loc,I.cell,?_,fun x c z=>?_,fun p z=>?_,fun b u z=>?_,I.len⟩
 ·rw [upd_ne (ne b u z)]; exact I.base.free b u z n x
 ·have q:=I.base.tups b xs z
  rw [upd_ne (ne_of_none q hn)]; exact q
 ·have q:=I.base.frzs b u v z
  rw [upd_ne (ne_of_none q hn)]; exact q
 ·obtain⟨m,q⟩:=I.base.tbls b ps z
  exact⟨m,by rw [upd_ne (ne_of_none q hn)]; exact q⟩
 ·rw [upd_ne (Ne.symm hL)]; exact I.free
 ·rw [upd_ne (hc x c z)]; exact I.freeC x c z
 ·obtain⟨q1,q2,q3⟩:=I.pin p z
  exact⟨q1,by rw [upd_ne (hp p z)]; exact q2,q3⟩
 ·by_cases hb:b=a
  ·subst hb
   rw [upd_same] at z
   cases z
   exact⟨e,trivial,⟨o,e⟩,fun _ _ _ _=>trivial⟩
  ·rw [upd_ne hb] at z
   exact(I.hok b u z).stay (fun _ _ _ q=>q) (fun c q=>by rw [upd_ne (ne_of_none q hn)]; exact q) fun c xs q=>by rw [upd_ne (ne_of_none q hn)]; exact q
abbrev Cx.marked (X:Cx) (v:Value) (W:Value->Shared->Prop):Cx:={X with A:=X.A.mark (some v),calm:=false,xe:=W}
theorem Inv.marked (I:Inv X pins σ H s) (v:Value) (W:Value->Shared->Prop):Inv (X.marked v W) pins σ H s:=
 ⟨⟨I.ok.mod,I.ok.kind,I.ok.glob,I.ok.blt,I.ok.above,I.ok.inj,I.ok.has,I.ok.cab,fun z=>(by cases z),I.ok.frames,I.ok.stk,I.ok.exf,I.ok.bs,I.ok.bsz,I.ok.noex,I.ok.exfs,I.ok.funs,I.ok.frf⟩,I.os,I.bare,I.base,I.loc,I.cell,I.free,I.freeC,I.pin,I.hok,I.len⟩
theorem Inv.unmarked {v:Value} {W:Value->Shared->Prop} (I:Inv (X.marked v W) pins σ H s) (hd:X.calm=true->X.A.handled=none):Inv X pins σ H s:=
 ⟨⟨I.ok.mod,I.ok.kind,I.ok.glob,I.ok.blt,I.ok.above,I.ok.inj,I.ok.has,I.ok.cab,hd,I.ok.frames,I.ok.stk,I.ok.exf,I.ok.bs,I.ok.bsz,I.ok.noex,I.ok.exfs,I.ok.funs,I.ok.frf⟩,I.os,I.bare,I.base,I.loc,I.cell,I.free,I.freeC,I.pin,I.hok,I.len⟩
theorem name_goes {M:Model} {A:Around} {W:Value->Shared->Prop} {i:Nat} {n:Str} {pos:Pos} {Q:Unit->Shared->Prop} (I:Inv X pins σ H s) (hN:X.N.Nodup) (hi:X.N[i]?=some n) (hl:X.env.kindOf n=some .local)
  (h:∀ s',Inv X pins (σ.set i none) H s'->Q () s'):wpAny M A (do bindName X.env n .none; unbindBehindTheSuite X.env n pos) Q W s:=by
 have hcls:(X.env.scope.kind == .class || (X.env.scope.kind == .module && X.env.locals != X.env.globals))=false:=by rw [I.ok.kind]; rfl
 refine wpAny_bind (wpAny_bindName (store_ok (v:=.non) I hN hi (.inl hl) rfl (fun s1 I1=>?_) (.inr hl)))
 unfold unbindBehindTheSuite
 refine wpAny_onRaise ?_
 obtain⟨m,hn,hlk⟩:=id I1.loc
 have hiσ:i < σ.length:=by rw [I.len]; exact(List.getElem?_eq_some_iff.mp hi).1
 obtain⟨u,ru,look⟩:=hlk i n .non hi (by rw [List.getElem?_set_self hiσ]) (.inl hl)
 have hv:m n=some u:=by
  rcases look with ⟨_,z⟩ | ⟨z,_⟩
  ·exact z
  ·rcases z with z | z <;> (rw [hl] at z; cases z)
 refine wpAny_unbindName_local hl hn hv hcls fun h2 v hn2 sb=>h _ ?_
 have ne:∀ b o,X.s₀.heap.get? b=some o->b≠X.env.locals:=fun b o e=>Nat.ne_of_lt (Nat.lt_of_lt_of_le (Heap.lt_size e) I.ok.above)
 refine⟨I1.ok,I1.os,I1.bare,⟨fun b o e n1 hb hx=>(sb.2 b (ne b o e)).trans (I1.base.keep b o e n1 hb hx),fun b o e n1 hb hx=>?_,I1.base.free,fun b o e hx=>?_,I1.base.tups,I1.base.frzs,I1.base.tbls⟩,⟨_,hn2,fun j y v' e1 e2 e3=>?_⟩,fun y c e=>?_,I1.free,I1.freeC,fun p hp=>?_,fun b ob e=>?_,by simpa using I.len⟩
 ·obtain⟨sl,z⟩:=I1.base.slot b o e n1 hb hx
  exact⟨sl,(sb.2 b (ne b o e)).trans z⟩
 ·obtain⟨o',z⟩:=I1.base.there b o e hx
  exact⟨o',(sb.2 b (ne b o e)).trans z⟩
 ·have hj:j≠i:=fun z=>by
   subst z
   rw [List.getElem?_set_self hiσ] at e2
   cases e2
  rw [List.getElem?_set_ne (Ne.symm hj)] at e2
  obtain⟨u',r',q⟩:=hlk j y v' e1 (by rw [List.getElem?_set_ne (Ne.symm hj)]; exact e2) e3
  refine⟨u',r',?_⟩
  rcases q with ⟨k,e⟩ | ⟨k,c,e,z⟩
  ·refine .inl ⟨k,?_⟩
   have:y≠n:=fun z=>hj (nodup_ix hN e1 (z▸hi))
   simp [this,e]
  ·exact .inr ⟨k,c,e,z.sameBut sb (I1.cne y c e)⟩
 ·obtain⟨w',z⟩:=I1.cell y c e
  exact⟨w',z.sameBut sb (I1.cne y c e)⟩
 ·obtain⟨e,n1,ne1,nf,d⟩:=I1.pin p hp
  exact⟨(sb.2 p.1 ne1).trans e,n1,ne1,nf,d⟩
 ·refine(I1.hok b ob e).stay (fun c v1 hc q=>(sb.2 c ?_).trans q) (fun _ q=>q) fun _ _ q=>q
  rintro rfl
  have hf:=I1.free
  rcases hc with rfl | hc
  ·rw [hf] at e; cases e
  ·rw [hf] at hc; cases hc
end
theorem ObjOk.there {P:Program} {w:World} {H:Hp} {h:Heap} {a:Addr} {o:HO} (x:ObjOk P w H h a o):∃ ob,h.get? a=some ob:=by
 cases o with
 | lst xs=>obtain⟨_,_,_,_,e⟩:=x; exact⟨_,e⟩
 | tup xs=>obtain⟨_,_,_,ob,e,_⟩:=x; exact⟨_,e⟩
 | dK kvs=>obtain⟨_,_,_,_,o,_,_,e,_⟩:=x; exact⟨_,e⟩
 | dT kvs=>obtain⟨_,_,_,_,o,_,_,e,_⟩:=x; exact⟨_,e⟩
 | set S n=>obtain⟨o,_,_,_,e,_⟩:=x; exact⟨_,e⟩
 | ins C dx fs=>obtain⟨_,_,_,e,_⟩:=x; exact⟨_,e⟩
 | own y=>obtain⟨_,e⟩:=x; exact⟨_,e⟩
 | xd fs=>obtain⟨_,⟨_,_,_,e,_⟩,_⟩:=x; exact⟨_,e⟩
 | rng lo hi=>obtain⟨_,_,_,e⟩:=x; exact⟨_,e⟩
 | frz ob u=>obtain⟨e,_⟩:=x; exact⟨_,e⟩
 | tbl ps=>exact⟨_,(show h.get? a=some _ from x)⟩
 | met f y=>exact⟨_,(show h.get? a=some _ from x)⟩
 | ext φ=>obtain⟨_,e,_⟩:=x; exact e
section
variable {X:Cx} {pins:List (Addr×Obj)} {σ:St} {H:Hp} {s s':Shared} {E:XK}
theorem caught {e:Value} (hex:X.ex=[]) (hst:X.stack=X.env::X.outer) (hf:X.env.frame=some X.env.locals) (I:Inv X pins σ H s) (h:CXE X.prog X.w X.stack H s E e s') {Cn n:Str} {cv:Value} {p1 hp:Pos} {b0:Stmt} {suite:List Stmt} {i:Nat} {Q:Flow->Shared->Prop}
  (hg:Gl X Cn) (hm:X.mg Cn=some cv) (hdb:(Cn == ("__debug__":Str))=false) (hx:∀ c H',E c none H'->PySem.W.exmOne X.K c cv=some true) (hN:X.N.Nodup) (hi:X.N[i]?=some n) (hl:X.env.kindOf n=some .local)
  (k:∀ ea c H' o s6,E c none H'->H' ea=none->o.cls=c->Inv X pins (σ.set i (some (.ref ea))) (upd H' ea (.frz o (.ext fun _=>True))) s6->
   wpAny (model X.prog X.w) (X.A.mark (some (.ref ea))) (execs (b0::suite) X.env) (fun f s7=>∃ σ7 H7,Inv X pins σ7 H7 s7/\∀ s8,Inv X pins (σ7.set i none) H7 s8->Q f s8) NoE s6):
  wpAny (model X.prog X.w) X.A (noteFrame e X.env) (fun _ s2=>wpAny (model X.prog X.w) X.A (setFlight e none) (fun _ s3=>wpAny (model X.prog X.w) X.A (handleBy e X.env [.ExceptHandler (some (.Name Cn p1)) (some n) (b0::suite) hp]) Q X.xe s3) X.xe s2) X.xe s':=by
 obtain⟨ea,cls,a0,H',B,rfl,os,bare,fl,hok,hB,hB2,un,q⟩:=h
 have fr0:X.A.frames=some (X.env::X.outer):=by rw [<- hst]; exact I.ok.frames
 have fl0:Heap.FlyingW B (X.env::X.outer) ea cls a0 s'.heap:=by rw [<- hst]; exact fl
 refine wpAny_looks_onW fr0 hf fl0 fun h4 held4 up4=>?_
 refine wpAny_landsW held4 fun h5 fl5 up5=>?_
 have up45:=up4.trans up5
 have I5:=I.landed os bare fl (by rw [hst]; exact fl5) up45 hok hB hB2 un
 obtain⟨ob,hob,hobc⟩:=fl5.there
 refine wpAny_handleBy_cons (codeAny_handlers_test (ld_glob (X:=X.marked (.ref ea) NoE) (I5.marked (.ref ea) _) hg hm ?_ hdb)) (by intro z; cases z)
 have LT:PySem.W.Looks (model X.prog X.w) h5 (typeOf (.ref ea)) cls:=by
  subst hobc
  exact(PySem.W.Looks.ld hob).andThen .now
 refine PySem.W.exm_one I5.kIn LT (hx cls H' q) _ _ _ _ (fun _ _ z=>z) ?_
 refine codeAny_handlers_suite_as ?_
 refine lands_againW fl5 fun h6 fl6 up6=>?_
 have I6:=I.landed os bare fl (by rw [hst]; exact fl6) (up45.trans up6) hok hB hB2 un
 obtain⟨o6,ho6,hc6⟩:=fl6.there
 have nfr:ea∉frs X.stack:=fun z=>by
  obtain⟨_,o2,e2,d2⟩:=fl.2.2.1.mem z
  obtain⟨oe,vs,T,oT,ts,w1,w2,w3,w4⟩:=fl.2.2.2
  rw [w1] at e2
  cases e2
  exact d2 _ w3
 have nB:B.get? ea=none:=fl.2.1
 have nw:∀ b o,s.heap.get? b=some o->b≠ea:=fun b o z y=>by
  subst y
  obtain⟨o',z'⟩:=hB2 b o z nfr
  rw [nB] at z'
  cases z'
 have hn:H' ea=none:=by
  cases y:H' ea with
  | none=>rfl
  | some u=>
   obtain⟨o',z'⟩:=(hok ea u y).there
   rw [nB] at z'
   cases z'
 have h0:X.s₀.heap.get? ea=none:=by
  cases y:X.s₀.heap.get? ea with
  | none=>rfl
  | some u=>
   obtain⟨o',z'⟩:=I.base.there ea u y (by rw [hex]; simp)
   exact absurd rfl (nw ea o' z')
 have I7:=I6.freeze ho6 hn h0 (fun z=>nfr (by rw [hst,z]; unfold frs; rw [List.filterMap_cons,hf]; exact List.mem_cons_self)) (fun x c z=>by
  obtain⟨v,o,z2,_⟩:=I.cell x c z
  exact nw c o z2) (fun p z=>nw p.1 p.2 (I.pin p z).1)
 refine store_ok (v:=.ref ea) I7 hN hi (.inl hl) rfl (fun s7 I8=>?_) (.inr hl)
 exact wpAny_mono (k ea cls H' o6 s7 q hn hc6 I8) (fun f s8 ⟨σ7,H7,I9,kk⟩=>name_goes I9 hN hi hl kk) fun _ _ z=>z.elim
end
def Cells (cells:List (Addr×Obj)) (outer:List Env) (H:Hp) (h:Heap):Prop:=∀ p∈cells,h.get? p.1=some p.2/\H p.1=none/\p.1∉frs outer
theorem Inv.cells {X:Cx} {pins:List (Addr×Obj)} {σ:St} {H:Hp} {s:Shared} {cells:List (Addr×Obj)} (I:Inv X pins σ H s) (hex:X.ex=[]) (h:Cells cells X.outer X.H₀ X.s₀.heap):Cells cells X.stack H s.heap:=fun p hp=>by
 obtain⟨e,n,f⟩:=h p hp
 have nx:p.1∉X.ex:=by rw [hex]; simp
 refine⟨I.base.keep _ _ e n f nx,I.base.free _ _ e n nx,fun z=>?_⟩
 rcases List.mem_cons.mp (I.stkSub p.1 z) with z | z
 ·have:=Heap.lt_size e
  rw [z] at this
  exact absurd (Nat.lt_of_lt_of_le this I.ok.above) (Nat.lt_irrefl _)
 ·exact f z
structure Fails (cells:List (Addr×Obj)) (P:Program) (w:World) (K:PySem.W.Frag) (mg:Str->Option Value) (base:Heap) (n:Nat) (g:Addr) (H:Hp) (E:XK):Prop where
 fn:∃ (o:Obj) (u:HO) (fd:FuncData),H g=some (.frz o u)/\o.data=.func fd
 run:∀ (A:Around) (outer:List Env) (s:Shared),Room n A->Env0 P w K mg base A outer s H->Cells cells outer H s.heap->codeAny (model P w) A (.call (.ref g) ⟨[],[]⟩) (CR (CXE P w) outer P w H s (fun _ _=>False) E) s
section
variable {X:Cx} {pins:List (Addr×Obj)} {σ:St} {H:Hp} {s:Shared} {E:XK}
theorem ld_var {E:Value->Shared->Prop} {i:Nat} {x:Str} {v:V} {pos:Pos} {Q:Value->Shared->Prop} (I:Inv X pins σ H s) (hN:X.N[i]?=some x) (hv:Vis X.env.scope x) (e:σ[i]?=some (some v)) (h:∀ u,RelV v u->Q u s)
  (hd:(x == ("__debug__":Str))=false:=by decide) (hcd:(x == ("__classdict__":Str))=false:=by decide):wpAny (model X.prog X.w) X.A (eval (.Name x pos) X.env) Q E s:=by
 obtain⟨m,hn,hl⟩:=I.loc
 obtain⟨u,r,l⟩:=hl i x v hN e hv
 rcases l with ⟨hk,hm⟩ | ⟨hk,c,hc,hcell⟩
 ·exact wpAny_Name (wpAny_loadName_local I.ok.kind hk hn hm (h u r)) hd
 ·rcases hk with hk | hk
  ·exact wpAny_Name (wpAny_loadName_cell I.ok.kind hk hc hcell (h u r)) hd
  ·exact wpAny_Name (wpAny_loadName_free I.ok.kind hk hc hcell (h u r) hcd) hd
theorem callWith_F {M:Model} {A:Around} {E:Value->Shared->Prop} {s:Shared} {env:Env} {pos:Pos} {g:Addr} {o:Obj} {fd:FuncData} {Q:Value->Shared->Prop} (e:s.heap.get? g=some o) (d:o.data=.func fd)
  (h:wpAny M A (call (.ref g) []) Q E s):wpAny M A (callWith pos (.ref g) [] (backTo pos (starEach [] env)) []) Q E s:=
 PySem.W.callWith_of (P:=fun h'=>h'.get? g=some o) rfl (fun h' q=>⟨.frame,.inl rfl,(PySem.W.Looks.ld (part:=none) q).andThen (by rw [d]; exact .now)⟩) (evalArgs_nil3 ⟨e,h⟩)
def tTry (cells:List (Addr×Obj)) (P:Program) (w:World) (K:PySem.W.Frag) (mg:Str->Option Value) (base:Heap) (m:Nat) (cv:Value) (j i:Nat) (t:TS):TS:=fun D σ H=>∃ g E,σ[j]?=some (some (.ref g))/\Fails cells P w K mg base m g H E/\(∀ c H',E c none H'->PySem.W.exmOne K c cv=some true)/\
 ∀ ea c H' o,E c none H'->H' ea=none->o.cls=c->t ⟨fun σ7 H7=>D.nx (σ7.set i none) H7,D.rt,fun σ7 H7=>D.bk (σ7.set i none) H7,fun σ7 H7=>D.ct (σ7.set i none) H7⟩ (σ.set i (some (.ref ea))) (upd H' ea (.frz o (.ext fun _=>True)))
theorem ps_try {x Cn n:Str} {cv:Value} {xp cp ep p1 hp pos:Pos} {b0:Stmt} {suite:List Stmt} {j i m:Nat} {t:TS} {cells:List (Addr×Obj)} (hce:Cells cells X.outer X.H₀ X.s₀.heap) (hr:Room m X.A) (hd:X.calm=true->X.A.handled=none) (hex:X.ex=[]) (hst:X.stack=X.env::X.outer) (hf:X.env.frame=some X.env.locals) (hx:X.N[j]?=some x) (hv:Vis X.env.scope x)
  (hg:Gl X Cn) (hm:X.mg Cn=some cv) (hN:X.N.Nodup) (hi:X.N[i]?=some n) (hl:X.env.kindOf n=some .local) (hs:∀ v,PSs (X.marked v NoE) (b0::suite) t)
  (hdb:(Cn == ("__debug__":Str))=false:=by decide) (hdx:(x == ("__debug__":Str))=false:=by decide) (hcx:(x == ("__classdict__":Str))=false:=by decide) (hsw:swapsWith (.Call (.Name x xp) [] [] cp) none ep.line X.env=pure false:=by rfl):
  PS X (.Try [.Expr (.Call (.Name x xp) [] [] cp) ep] [.ExceptHandler (some (.Name Cn p1)) (some n) (b0::suite) hp] [] [] pos) (tTry cells X.prog X.w X.K X.mg X.base m cv j i t):=by
 intro pins s σ H D I h
 obtain⟨g,E,e,F,hE,k⟩:=h
 refine wpAny_Try_except (wpAny_execs_cons (wpAny_Expr_any ?_ I.quiet hsw))
 refine wpAny_Call_Name_kw (ld_var I hx hv e (fun u r=>?_) hdx hcx)
 cases r
 obtain⟨o,u,fd,e1,e2⟩:=F.fn
 obtain⟨q,_⟩:=(show ObjOk X.prog X.w H s.heap g (.frz o u) from I.hok g _ e1)
 refine callWith_F q e2 (wpAny_call (codeAny_mono (F.run X.A X.stack s hr I.env0 (I.cells hex hce)) fun r s' z=>?_))
 cases r with
 | ok fl=>
  cases fl with
  | ret u=>obtain⟨_,_,_,_,_,_,_,q⟩:=z; exact q.elim
  | next=>exact z.elim
  | brk=>exact z.elim
  | cont=>exact z.elim
 | error e=>
  refine caught hex hst hf I z hg hm hdb hE hN hi hl fun ea c H' o s6 y1 y2 y3 I6=>?_
  refine thn (hs (.ref ea) pins s6 _ _ _ (I6.marked (.ref ea) NoE) (k ea c H' o y1 y2 y3)) fun f s7 y=>?_
  cases f with
  | next=>
   obtain⟨σ7,H7,I7,q⟩:=y
   exact⟨σ7,H7,I7.unmarked hd,fun s8 I8=>⟨_,_,I8,q⟩⟩
  | brk=>
   obtain⟨σ7,H7,I7,q⟩:=y
   exact⟨σ7,H7,I7.unmarked hd,fun s8 I8=>⟨_,_,I8,q⟩⟩
  | cont=>
   obtain⟨σ7,H7,I7,q⟩:=y
   exact⟨σ7,H7,I7.unmarked hd,fun s8 I8=>⟨_,_,I8,q⟩⟩
  | ret v=>
   obtain⟨v,σ7,H7,I7,r,q⟩:=y
   exact⟨σ7,H7,I7.unmarked hd,fun s8 I8=>⟨v,_,H7,I8,r,q⟩⟩
end
structure ExcCls (K:PySem.W.Frag) (C:Addr):Prop where
 ga:PySem.W.findIn K (.ref C) "__getattribute__"=some (some (.builtin "BaseException.__getattribute__"))
 gt:PySem.W.findIn K (.ref C) "__getattr__"=some none
 cl:PySem.W.findIn K (.ref C) "__class__"=some (some (.builtin "object.__class__"))
 sb:PySem.W.subIn K (.ref C) (.type "BaseException")=some true
 so:PySem.W.subIn K (.ref C) (.type "object")=some true
 is:(PySem.W.clsIn K C).isSome=true
section
variable {prog:Program} {w:World} {A:Around} {E:Value->Shared->Prop} {h:Heap} {g:Array GenState} {d:Drawn} {t:Nat} {os:OsState} {a C:Addr} {o:Obj} {K:PySem.W.Frag}
theorem exc_get {R:Result->Shared->Prop} (X:K.In h) (c:ExcCls K C) (hx:h.get? a=some o) (hc:o.cls=.ref C) (hq:R (.ok (.ret (.ref C))) ⟨h,g,d,t,os⟩):
  codeAny (model prog w) A (.call (.builtin "getset_descriptor.__get__") ⟨[.builtin "object.__class__",.ref a,.ref C],[]⟩) R ⟨h,g,d,t,os⟩:=by
 have hT5:(⟨h,g,d,t,os⟩:Shared).TypeIs (.builtin "object.__class__") "getset_descriptor":=F.typeOf_object_class
 have L:=PySem.W.looks_subIn (M:=model prog w) X c.so
 have e:".".intercalate ("object.__class__".cutAt '.').dropLast="object":=F.owner_object_class
 refine codeAny_call_builtin F.slot_gs_get.plain F.entry_gs_get (F.slot_gs_get.check _ _ _ _ _ _ _ _ hT5 (F.args_gs_get _ _ _) ?_)
 rw [<- e] at L
 repeat (any_goals (first | assumption | (with_reducible refine wpAny_loadPart_at hx ?_; rw [hc]) | with_reducible refine L.at ?_ | wp_step))
 refine⟨Code.quiet_builtin _ (by decide +kernel),codeAny_builtin F.entry_object_class ?_⟩
 repeat (any_goals (first | assumption | (with_reducible refine wpAny_loadPart_at hx ?_; rw [hc]) | wp_step))
theorem exc_entry {tk:Tok} {Q:Fin->Shared->Prop} (X:K.In h) (c:ExcCls K C) (hx:h.get? a=some o) (hc:o.cls=.ref C) (hq:Q (.done (.ret (.ref C))) ⟨h,g,d,t,os⟩):
  wpAny (model prog w) A (Builtin.«object.__getattribute__» ⟨[.ref a,.str "__class__" tk],[]⟩) Q E ⟨h,g,d,t,os⟩:=by
 have hT5:(⟨h,g,d,t,os⟩:Shared).TypeIs (.builtin "object.__class__") "getset_descriptor":=F.typeOf_object_class
 have f5:=F.typeOf_object_class
 have f6:=F.slot_gs_get.lookup
 have f7:=F.slot_gs_set.lookup
 have L:=PySem.W.looks_findIn (M:=model prog w) X c.cl
 repeat (any_goals (first | assumption | (with_reducible refine wpAny_loadPart_at hx ?_; rw [hc]) | with_reducible refine L.at ?_ | wp_step))
 refine exc_get X c hx hc ?_
 repeat (any_goals (first | assumption | wp_step))
theorem exc_check {M:Model} {nameV:Value} {Q:Unit->Shared->Prop} (X:K.In h) (c:ExcCls K C) (hx:h.get? a=some o) (hc:o.cls=.ref C) (hq:Q () ⟨h,g,d,t,os⟩):
  wpAny M A (checkBuiltinCall "BaseException.__getattribute__" ⟨[.ref a,nameV],[]⟩) Q E ⟨h,g,d,t,os⟩:=by
 have hk:builtinKind "BaseException.__getattribute__"=some .slot:=by decide +kernel
 have hsplit:splitId "BaseException.__getattribute__"=some ("BaseException","__getattribute__"):=by decide +kernel
 have L:=PySem.W.looks_subIn (M:=M) X c.sb
 have ha:=F.args_bexc_ga (.ref a) nameV
 simp only [checkBuiltinCall,hk,hsplit]
 refine wpAny_bind ?_
 unfold isInstance
 repeat (first | (with_reducible refine wpAny_loadPart_at hx ?_; rw [hc]) | with_reducible refine L.at ?_ | wp_step)
 exact hq
theorem exc_by {tk:Tok} {Q:Value->Shared->Prop} (X:K.In h) (c:ExcCls K C) (hx:h.get? a=some o) (hc:o.cls=.ref C) (hq:Q (.ref C) ⟨h,g,d,t,os⟩):
  wpAny (model prog w) A (getAttrBy (.ref a) (.str "__class__" tk) false) Q E ⟨h,g,d,t,os⟩:=by
 have f3:=F.excAttr_ValueError.ga.bind (.ref a)
 have hx2:(Value.builtin "BaseException.__getattribute__" == Value.builtin "object.__getattribute__")=false:=by decide +kernel
 have hx1:(onTheHeap (Value.ref C) && Value.builtin "BaseException.__getattribute__" == Value.builtin "object.__getattribute__")=false:=by rw [hx2]; rfl
 have L1:=PySem.W.looks_findIn (M:=model prog w) X c.ga
 have L2:=PySem.W.looks_findIn (M:=model prog w) X c.gt
 repeat (any_goals (first | assumption | (with_reducible refine wpAny_loadPart_at hx ?_; rw [hc]) | with_reducible refine L1.at ?_ | with_reducible refine L2.at ?_ | wp_step))
 refine codeAny_call_builtin F.excAttr_ValueError.ga.plain F.entry_bexc_ga (exc_check X c hx hc (exc_entry X c hx hc ?_))
 repeat (any_goals (first | assumption | wp_step))
theorem exc_attr {Q:Option Value->Shared->Prop} (X:K.In h) (c:ExcCls K C) (hx:h.get? a=some o) (hc:o.cls=.ref C) (hq:Q (some (.ref C)) ⟨h,g,d,t+1,os⟩):
  wpAny (model prog w) A (getAttr? (.ref a) "__class__") Q E ⟨h,g,d,t,os⟩:=by
 unfold getAttr? getAttrBy?
 repeat (any_goals (first | assumption | with_reducible apply exc_by X c hx hc | wp_step))
end
theorem kitx_exc {K:PySem.W.Frag} {a C:Addr} (c:ExcCls K C):PySem.W.KitX K (.ref a) (.ref C) (fun h=>∃ o,h.get? a=some o/\o.cls=.ref C) where
 ty:=fun M h _ ⟨o,e,q⟩=>by rw [<- q]; exact(PySem.W.Looks.ld e).andThen .now
 it:=fun _ _ X _=>by
  have hc:=c.is
  unfold PySem.W.clsIn at hc
  split at hc
  ·rename_i c' d' cd' sl' ho
   intro A' Q' E' s' k q
   unfold isType loadHead
   exact wpAny_bind (wpAny_loadPart (k _ _ (X _ _ ho)) (wpAny_pure q))
  ·cases hc
 ne:=fun h tp dd its n sl X htp=>by
  have hc:=c.is
  refine Bool.eq_false_iff.mpr fun q=>?_
  have e:C=tp:=Value.ref.inj (beq_iff_eq.mp q)
  subst e
  unfold PySem.W.clsIn at hc
  split at hc
  ·rename_i c' d' cd' sl' ho
   have z:=(X _ _ ho).symm.trans htp
   cases z
  ·cases hc
 ca:=fun {_ _ _ _ _ s} X ⟨o,e,q⟩ k=>by
  obtain⟨h,g,d,t,os⟩:=s
  exact exc_attr X c e q k
theorem isinst_exc {X:Cx} {pins:List (Addr×Obj)} {σ:St} {H:Hp} {s:Shared} {A:Around} {E:Value->Shared->Prop} {Q:Value->Shared->Prop} {cv:Value} {b:Bool} {a C:Addr} {o:Obj} {u:HO} (I:Inv X pins σ H s) (c:ExcCls X.K C) (e:H a=some (.frz o u)) (q:o.cls=.ref C)
  (k:PySem.W.kitOne X.K (.ref C) cv=some b) (h:∀ tk,Q (.bool b) {s with toks:=tk}):wpAny (model X.prog X.w) A (call (.builtin "isinstance") [.ref a,cv]) Q E s:=by
 obtain⟨e1,_⟩:=(show ObjOk X.prog X.w H s.heap a (.frz o u) from I.hok a _ e)
 exact PySem.W.kia_one (kitx_exc c) I.kIn ⟨o,e1,q⟩ k (fun z=>nomatch z) h
end L2
namespace DL
open PySem PySem.Spec PyProof.Rows L2
def ExtD (S S':DH):Prop:=∀ b o,S b=some o->S' b=some o
theorem Lc.unset {K:Fg} {H:Hp}:∀ {L:Lo} {σ:L2.St} (i:Nat),Lc K H L σ->Lc K H (L.set i .none) (σ.set i .none)
 | [],σ,i,h=>by have h:σ=[]:=h; subst h; exact rfl
 | .none::L,σ,0,h=>by obtain⟨x,r,rfl,h⟩:=h; exact⟨_,r,rfl,h⟩
 | .none::L,σ,i+1,h=>by obtain⟨x,r,rfl,h⟩:=h; exact⟨x,_,rfl,Lc.unset i h⟩
 | .some d::L,σ,0,h=>by obtain⟨x,r,rfl,_,h⟩:=h; exact⟨_,r,rfl,h⟩
 | .some d::L,σ,i+1,h=>by obtain⟨x,r,rfl,hd,h⟩:=h; exact⟨x,_,rfl,hd,Lc.unset i h⟩
theorem Hs.newX {K:Fg} {H:Hp} {S:DH} {p C:Addr} {o:Obj} {u:HO} (h:Hs K H S) (e:H p=none) (c:o.cls=.ref C):Hs K (upd H p (.frz o u)) (put S p (.exc C)):=fun a q z=>by
 by_cases y:a=p
 ·subst y
  rw [put_same] at z
  cases z
  exact⟨o,u,upd_same,c⟩
 ·rw [put_ne y] at z
  exact(h.new e) a q z
section
variable {X:Cx} {pos:Pos}
theorem d_glob {x:Str} {C:Addr} (hm:X.mg x=some (.ref C)) (hg:Gl X x) (hd:(x == ("__debug__":Str))=false:=by decide):EJ X (.Name x pos) (dC (.ref C)):=
 ⟨fun pins s σ H Q I ⟨L,S,k,hL,hS,h,n⟩=>ld_glob I hg hm ⟨.ref C,H,I,rfl,n _ _ _ _ h (Kp.refl H) hS (isRef.mpr rfl)⟩ hd⟩
def bIsiC (K:Fg):DSp:=fun ds S k=>match ds with
 | [.ref a,.ref c]=>∃ C b,S a=some (.exc C)/\ExcCls K C/\PySem.W.kitOne K (.ref C) (.ref c)=some b/\k (.bl b) S
 | [.ref a,.ty c]=>∃ C b,S a=some (.exc C)/\ExcCls K C/\PySem.W.kitOne K (.ref C) (.type c.name)=some b/\k (.bl b) S
 | _=>False
theorem b_isiC:CallR X (.builtin "isinstance") (upC X.K (bIsiC X.K)):=by
 intro pins s σ H xs us Q I rs h
 obtain⟨ds,S,k,i,hS,r,n⟩:=h
 unfold bIsiC at r
 split at r
 ·obtain⟨x,y,rfl,i1,i2⟩:=isDs2 i
  have e1:=isRef.mp i1
  have e2:=isRef.mp i2
  subst e1
  subst e2
  obtain⟨C,b,z,c,kk,w⟩:=r
  obtain⟨u,w',rfl,r1,r2⟩:=vals2 rs
  cases r1
  cases r2
  obtain⟨o,u,e,q⟩:=hS _ _ z
  exact isinst_exc I c e q kk fun tk=>⟨.bl b,H,I.tok tk,rfl,n _ _ _ _ w (Kp.refl H) hS (isBl.mpr rfl)⟩
 ·rename_i a c
  obtain⟨x,y,rfl,i1,i2⟩:=isDs2 i
  have e1:=isRef.mp i1
  have e2:=isTy.mp i2
  subst e1
  subst e2
  obtain⟨C,b,z,cc,kk,w⟩:=r
  obtain⟨u,w',rfl,r1,r2⟩:=vals2 rs
  cases r1
  cases (show w'=Value.type c.name from r2)
  obtain⟨o,u,e,q⟩:=hS _ _ z
  exact isinst_exc I cc e q kk fun tk=>⟨.bl b,H,I.tok tk,rfl,n _ _ _ _ w (Kp.refl H) hS (isBl.mpr rfl)⟩
 ·exact r.elim
end
abbrev DSpX:=List D->DH->DK->(Addr->DH->Prop)->Prop
def spX (K:Fg) (F:DSpX):Sp:=fun vs H Q E=>∃ ds S k x,IsDs K H ds vs/\Hs K H S/\F ds S k x/\(∀ d' S' v H',k d' S'->Kp H H'->Hs K H' S'->IsD K H' d' v->Q v H')/\∀ C S' H',x C S'->Hs K H' S'->E (.ref C) none H'
structure OwnX (P:Program) (w:World) (K:Fg) (mg:Str->Option Value) (base:Heap) (x:Str) (n:Nat) (F:DSpX):Prop where
 ex:∃ f fd ps,FnOk P w K mg base (CXE P w) n f fd ps (spX K F)/\mg x=some (.ref f)/\PySem.W.keepIn K (.ref f)=true/\Binds K fd ps []
section
variable {P:Program} {w:World} {K:Fg} {mg:Str->Option Value} {base:Heap} {N:List Str} {qual:Str} {scope:Scope} {f:Addr} {cd:Value} {A:Around} {outer:List Env} {s0:Shared} {H0:Hp} {E:XK} {ex:Addr->DH->Prop}
theorem dst_raisej {x t:Str} {C:Addr} {bmB:List Value} {Bn newId initId:String} {j:Nat} {p np cpos pos:Pos} (hE:∀ C S' H',ex C S'->Hs K H' S'->E (.ref C) none H') (FB:ExcBaseFacts Bn newId initId bmB) (q:PySem.W.excIn K C bmB newId=true) (hm:mg x=some (.ref C))
  (hg:Gl (cxOf (CXE P w) P w K mg base N qual scope f cd A outer s0 H0 E) x) (hd:(x == ("__debug__":Str))=false:=by decide):
  SJ (cxOf (CXE P w) P w K mg base N qual scope f cd A outer s0 H0 E) (.Raise (some (.Call (.Name x np) [.Constant (.str t) j p] [] cpos)) none pos) (fun _ _ S=>ex C S):=
 ⟨PS.imp (ps_raise FB q hm hg hd) fun _ _ H ⟨_,S,_,_,hS,h,_⟩=>hE C S H h hS⟩
def dCallX (F:DSpX) (ex:Addr->DH->Prop) (t:DA):DE:=fun L S k=>t L S fun ds S1=>F ds S1 k ex
theorem _root_.L2.Fun.okX {x qual:Str} {st:Stmt} {f:Addr} {fd:FuncData} {N ps:List Str} {k:Nat} {F:DSpX} (Fn:Fun K x qual st f fd) (Sc:FnScope N ps (defScope st)) (len:∀ ds S k x,F ds S k x->ds.length=ps.length)
  (hbody:∀ (cdv:Value) (A:Around) (outer:List Env) (s:Shared) (H:Hp) (E:XK) (ex:Addr->DH->Prop),Room k (A.deeper (envOfC qual (defScope st) s.heap.objs.size f cdv))->(∀ C S' H',ex C S'->Hs K H' S'->E (.ref C) none H')->
   ∃ g,SsJ (cxOf (CXE P w) P w K mg base N qual (defScope st) f cdv A outer s H E) (defBody st) g/\
    ∀ ds S k,F ds S k ex->g {nx:=fun _ S'=>k .non S',rt:=k} (ds.map some++List.replicate (N.length - ps.length) none) S):FnOk P w K mg base (CXE P w) (k+1) f fd ps (spX K F):=by
 obtain⟨oc,od,kV,doc,pm,an,cdv,ct,osl,rfl,lk,hcd⟩:=Fn.ex
 refine fn_of lk hcd Sc (fun vs H Q E h=>?_) fun A outer s H vs Q E hr h=>?_
 ·obtain⟨ds,S,k,x,i,_,q,_⟩:=h
  rw [<- i.length]
  exact len ds S k x q
 ·obtain⟨ds,S,k',x,i,hS,h,n,hE⟩:=h
  obtain⟨g,hg,q⟩:=hbody cdv A outer s H E x hr hE
  refine⟨_,hg.h,ds.map some++List.replicate (N.length - ps.length) none,S,_,?_,hS,q ds S k' h,?_⟩
  ·unfold L2.start
   rw [<- i.length,len ds S k' x h]
   exact Lc.start _ i
  ·exact⟨fun L S' σ H' h1 k1 _ hS'=>n _ S' _ H' h1 k1 hS' (isNon.mpr rfl),fun d S' v H' h1 k1 hS' i1=>n d S' v H' h1 k1 hS' i1,fun _ _ _ _ h1=>h1.elim,fun _ _ _ _ h1=>h1.elim⟩
end
end DL
namespace L2
open PySem PySem.Spec PyProof.Rows
def CodeOk (H:Hp) (qual:Str) (cv:Value):Prop:=∃ (c':Addr) (oc:Obj) (uc:HO) (vs:Array Value) (t:Tok),cv=.ref c'/\H c'=some (.frz oc uc)/\oc.data=.fields vs/\vs[1]?=some (.str qual t)
theorem CodeOk.kp {H H':Hp} {qual:Str} {cv:Value} (h:CodeOk H qual cv) (k:∀ b o u,H b=some (.frz o u)->H' b=some (.frz o u)):CodeOk H' qual cv:=by
 obtain⟨c',oc,uc,vs,t,e,h1,h2,h3⟩:=h
 exact⟨c',oc,uc,vs,t,e,k _ _ _ h1,h2,h3⟩
structure TblOk (H:Hp) (qual:Str) (ps:Array Value):Prop where
 tri:TriplesOk ps.toList
 ok:∀ pos cv,codeAmong pos ps.toList=some cv->CodeOk H qual cv
theorem TblOk.kp {H H':Hp} {qual:Str} {ps:Array Value} (h:TblOk H qual ps) (k:∀ b o u,H b=some (.frz o u)->H' b=some (.frz o u)):TblOk H' qual ps:=⟨h.tri,fun pos cv e=>(h.ok pos cv e).kp k⟩
theorem codeAmong_more {pos p:Pos} {c cv:Value} (l:List Value) (h:TriplesOk l) (e:codeAmong pos (l++[rawInt p.line,rawInt p.col,c])=some cv):codeAmong pos l=some cv\/cv=c:=by
 fun_induction TriplesOk l with
 | case1=>
  simp only [List.nil_append,codeAmong,rawInt] at e
  split at e
  ·cases e; exact .inr rfl
  ·cases e
 | case2 a t b u x rest ih=>
  simp only [List.cons_append,codeAmong] at e ⊢
  split at e
  ·rename_i hc; rw [if_pos hc]; exact .inl e
  ·rename_i hc; rw [if_neg hc]; exact ih h e
 | case3=>exact h.elim
theorem triples_more {p:Pos} {c:Value} (l:List Value) (h:TriplesOk l):TriplesOk (l++[rawInt p.line,rawInt p.col,c]):=by
 fun_induction TriplesOk l with
 | case1=>exact trivial
 | case2 a t b u x rest ih=>exact ih h
 | case3=>exact h.elim
def IsLam (qual:Str) (params:Arguments) (body:Expr) (scope:Scope) (clos:List (Str×Addr)) (g:Addr) (H:Hp):Prop:=
 ∃ (o:Obj) (u:HO) (cv pm ctv:Value),H g=some (.frz o u)/\o.data=.func (PySem.W.kla_fn "<lambda>" qual params body scope clos pm cv ctv)/\CodeOk H qual cv
theorem IsLam.kp {H H':Hp} {qual:Str} {params:Arguments} {body:Expr} {scope:Scope} {clos:List (Str×Addr)} {g:Addr} (h:IsLam qual params body scope clos g H) (k:∀ b o u,H b=some (.frz o u)->H' b=some (.frz o u)):IsLam qual params body scope clos g H':=by
 obtain⟨o,u,cv,pm,ctv,h1,h2,h3⟩:=h
 exact⟨o,u,cv,pm,ctv,k _ _ _ h1,h2,h3.kp k⟩
def BltB (mg:Str->Option Value) (base:Heap):Prop:=∃ bm ob,mg "__builtins__"=some (.ref bm)/\bm≠builtinsNs/\base.get? bm=some ob/\ob.cls=.type "module"/\ob.dict=some builtinsNs/\ob.data=.plain
def tLam (P:Addr) (qual:Str) (params:Arguments) (body:Expr) (scope:Scope) (clos:List (Str×Addr)):TE:=fun σ H Q=>∃ ps,H P=some (.tbl ps)/\TblOk H qual ps/\
 ∀ g H',H g=none->(∀ b o,b≠P->H b=some o->H' b=some o)->(∃ ps',H' P=some (.tbl ps')/\TblOk H' qual ps')->IsLam qual params body scope clos g H'->Q (.ref g) H'
section
variable {X:Cx} {params:Arguments} {body:Expr} {scope:Scope} {clos:List (Str×Addr)} {c P:Addr} {pos:Pos}
theorem pe_lambda (hC:PySem.W.CodeHd X.base c P) (hb:BltB X.mg X.base) (hcode:X.env.code=.ref c) (hdef:defaultsOf params X.env=([],[])) (hcl:closureFor scope X.env=pure clos):
  PE X (.Lambda params body scope pos) (tLam P (X.env.qual++"<lambda>") params body scope clos):=by
 intro pins s σ H Q I h
 obtain⟨ps,hP,T,k⟩:=h
 have eP:s.heap.get? P=some (PySem.W.tabObj ps):=I.hok P _ hP
 have hg:s.heap.Ns mainGlobals X.mg:=I.mod.glob.keeps I.bk
 obtain⟨bm,ob,b1,b2,b3,b4,b5,b6⟩:=hb
 have b3':=I.bk _ _ b3
 have hgP:mainGlobals≠P:=fun q=>by
  obtain⟨o,es,ep,e,hd,_⟩:=id hg
  rw [q,eP] at e; cases e; cases hd
 have hbP:bm≠P:=fun q=>by rw [q,eP] at b3'; cases b3'; cases b4
 have hbG:bm≠mainGlobals:=fun q=>by
  obtain⟨o,es,ep,e,hd,_⟩:=id hg
  rw [q,e] at b3'; cases b3'; rw [hd] at b6; cases b6
 have C:=hC.keeps I.bk
 refine PySem.W.kla_eval hdef ?_
 cases hf:codeAmong pos ps.toList with
 | some cv=>
  refine PySem.W.kla_makeFunctionHit (mg:=X.mg) hcl I.ok.glob hg hcode C eP T.tri hf ⟨bm,ob,b1,b2,hbG,hbP,b3',b4,b5,b6⟩ fun ctv h' tk hk hsz=>?_
  have kk:∀ (x:Obj) b o,s.heap.get? b=some o->(h'.push x).get? b=some o:=fun x b o e=>Heap.get?_push_of_some _ (hk b o e)
  have hn:=I.hok.fresh hsz
  have st:∀ b o,H b=some o->∀ x,upd H h'.objs.size x b=some o:=fun b o e x=>by rw [upd_ne (ne_of_none e hn)]; exact e
  refine⟨.ref h'.objs.size,upd H h'.objs.size (.frz _ (.ext fun _=>True)),I.laid (kk _) hsz ⟨Heap.get?_push_size _ rfl,trivial,⟨_,Heap.get?_push_size _ rfl⟩,fun _ _ _ _=>trivial⟩,rfl,k _ _ hn (fun b o _ e=>st b o e _) ⟨ps,st P _ hP _,T.kp fun b o u e=>st b _ e _⟩ ?_⟩
  exact⟨_,_,cv,_,ctv,upd_same,rfl,(T.ok pos cv hf).kp fun b o u e=>st b _ e _⟩
 | none=>
  refine PySem.W.kla_makeFunction (mg:=X.mg) hcl I.ok.glob hg hcode C eP T.tri hf hgP ⟨bm,ob,b1,b2,hbG,hbP,b3',b4,b5,b6⟩ fun c' ctv h' tk hx hge hlt hrec htb=>?_
  obtain⟨c₂,oc,vs,t,e2,hoc,hd,hv⟩:=hrec
  cases e2
  have hsz:s.heap.objs.size<=h'.objs.size:=Nat.le_trans hge (Nat.le_of_lt hlt)
  have hn:=I.hok.fresh hsz
  have hnc:=I.hok.fresh hge
  have nP:∀ b,H b=none->b≠P:=fun b e z=>by rw [z,hP] at e; cases e
  have cP:=nP _ hnc
  have gP:=nP _ hn
  have gc:h'.objs.size≠c':=Nat.ne_of_gt hlt
  generalize hob:PySem.W.kla_obj "<lambda>" (X.env.qual++"<lambda>") params body scope clos ((X.mg "__name__").getD .none) c' ctv=fo
  have hfo:fo.isFreed=false:=by rw [<- hob]; rfl
  have kk:∀ b o,b≠P->s.heap.get? b=some o->(h'.push fo).get? b=some o:=fun b o n e=>Heap.get?_push_of_some _ (hx b o n e)
  let H':Hp:=upd (upd (upd H P (.tbl (ps++#[rawInt pos.line,rawInt pos.col,.ref c']))) c' (.frz oc (.ext fun _=>True))) h'.objs.size (.frz fo (.ext fun _=>True))
  have st:∀ b o,b≠P->H b=some o->H' b=some o:=fun b o n e=>by
   show upd _ _ _ b=_
   rw [upd_ne (ne_of_none e hn),upd_ne (ne_of_none e hnc),upd_ne n]; exact e
  have nfz:∀ b o u,H b=some (.frz o u)->b≠P:=fun b o u e z=>by rw [z,hP] at e; cases e
  have ntp:∀ b xs,H b=some (.tup xs)->b≠P:=fun b xs e z=>by rw [z,hP] at e; cases e
  have nown:∀ b y,H b=some (.own y)->b≠P:=fun b y e z=>by rw [z,hP] at e; cases e
  have hPP:H' P=some (.tbl (ps++#[rawInt pos.line,rawInt pos.col,.ref c'])):=by
   show upd _ _ _ P=_
   rw [upd_ne (Ne.symm gP),upd_ne (Ne.symm cP),upd_same]
  have hcc:H' c'=some (.frz oc (.ext fun _=>True)):=by
   show upd _ _ _ c'=_
   rw [upd_ne (Ne.symm gc),upd_same]
  have un:Un X.fs [] H H' s.heap (h'.push fo):=by
   refine⟨fun b o e n _ _=>kk b o (nP b n) e,fun b o e n _ _=>⟨o.slots,kk b o (nP b n) e⟩,fun b o e n _=>?_,fun b o e _=>?_,fun b xs e=>st b _ (ntp b xs e) e,fun b o u e=>st b _ (nfz b o u e) e,fun b qs e=>?_⟩
   ·have lb:=Heap.lt_size e
    show upd _ _ _ b=none
    rw [upd_ne (Nat.ne_of_lt (Nat.lt_of_lt_of_le lb hsz)),upd_ne (Nat.ne_of_lt (Nat.lt_of_lt_of_le lb hge)),upd_ne (nP b n)]; exact n
   ·by_cases z:b=P
    ·subst z; exact⟨_,Heap.get?_push_of_some _ htb⟩
    ·exact⟨o,kk b o z e⟩
   ·by_cases z:b=P
    ·subst z
     rw [hP] at e
     cases e
     exact⟨_,hPP⟩
    ·exact⟨#[],by rw [st b _ z e]; simp⟩
  have hok:HOk X.prog X.w H' (h'.push fo):=fun b o e=>by
   by_cases z1:b=h'.objs.size
   ·subst z1
    have e:upd _ h'.objs.size _ h'.objs.size=some o:=e
    rw [upd_same] at e
    cases e
    exact⟨Heap.get?_push_size _ hfo,trivial,⟨_,Heap.get?_push_size _ hfo⟩,fun _ _ _ _=>trivial⟩
   ·by_cases z2:b=c'
    ·subst z2
     rw [hcc] at e
     cases e
     exact⟨Heap.get?_push_of_some _ hoc,trivial,⟨_,Heap.get?_push_of_some _ hoc⟩,fun _ _ _ _=>trivial⟩
    ·by_cases z3:b=P
     ·subst z3
      rw [hPP] at e
      cases e
      exact(Heap.get?_push_of_some _ htb:_)
     ·have e1:upd (upd (upd H P _) c' _) h'.objs.size _ b=some o:=e
      rw [upd_ne z1,upd_ne z2,upd_ne z3] at e1
      refine(I.hok b o e1).stay (fun d v hd q=>kk d v ?_ q) (fun d q=>st d _ (nown d b q) q) fun d xs q=>st d _ (ntp d xs q) q
      rcases hd with rfl | hd
      ·exact z3
      ·exact nown d b hd
  refine⟨.ref h'.objs.size,H',I.un (t':=tk) un hok,rfl,k _ _ hn st ⟨_,hPP,⟨?_,fun p cv e=>?_⟩⟩ ?_⟩
  ·rw [Array.toList_append]; exact triples_more _ T.tri
  ·rw [Array.toList_append] at e
   rcases codeAmong_more _ T.tri e with e | rfl
   ·exact(T.ok p cv e).kp fun b o u q=>st b _ (nfz b o u q) q
   ·exact⟨c',oc,_,vs,t,rfl,hcc,hd,hv⟩
  ·subst hob
   exact⟨_,_,.ref c',_,ctv,upd_same,rfl,⟨c',oc,_,vs,t,rfl,hcc,hd,hv⟩⟩
end
section
variable {X:Cx} {pins:List (Addr×Obj)} {σ:St} {H H':Hp} {s sx:Shared} {E:XK}
theorem cx_outX {B h':Heap} {ea:Addr} {cls a0:Value} (hex:X.ex=[]) (I:Inv X pins σ H s) (os:sx.os=s.os) (bare:AllBare sx.gens)
  (fl:Heap.FlyingW B X.outer ea cls a0 h') (hok:HOk X.prog X.w H' B) (hB:∀ b o,s.heap.get? b=some o->H b=none->b∉frs X.stack->B.get? b=some o)
  (hB2:∀ b o,s.heap.get? b=some o->b∉frs X.stack->∃ o',B.get? b=some o')
  (hsl:∀ b∈frs X.outer,∀ o,s.heap.get? b=some o->∃ sl,h'.get? b=some {o with slots:=sl}) (fr:∀ b o,s.heap.get? b=some o->H b=none->H' b=none) (tu:∀ b xs,H b=some (.tup xs)->H' b=some (.tup xs)) (fz:∀ b o u,H b=some (.frz o u)->H' b=some (.frz o u))
  (tb:∀ b ps,H b=some (.tbl ps)->∃ more,H' b=some (.tbl (ps++more))) (q:E cls none H'):CXE X.prog X.w X.outer X.H₀ X.s₀ E (.ref ea) {sx with heap:=h'}:=by
 have nx:∀ b:Addr,b∉X.ex:=fun b=>by rw [hex]; simp
 have nst:∀ b o,X.s₀.heap.get? b=some o->b∉frs X.outer->b∉frs X.stack:=fun b o e hb z=>by
  rcases List.mem_cons.mp (I.stkSub b z) with z | z
  ·have:=Heap.lt_size e
   have ab:=I.ok.above
   rw [z] at this
   exact absurd (Nat.lt_of_lt_of_le this ab) (Nat.lt_irrefl _)
  ·exact hb z
 have hkeep:∀ b o,X.s₀.heap.get? b=some o->X.H₀ b=none->b∉frs X.outer->B.get? b=some o:=fun b o e n hb=>
  hB b o (I.base.keep b o e n hb (nx b)) (I.base.free b o e n (nx b)) (nst b o e hb)
 have hthere:∀ b o,X.s₀.heap.get? b=some o->b∉frs X.outer->∃ o',B.get? b=some o':=fun b o e hb=>by
  obtain⟨o',e1⟩:=I.base.there b o e (nx b)
  exact hB2 b o' e1 (nst b o e hb)
 refine⟨ea,cls,a0,H',B,rfl,os.trans I.os,bare,fl,hok,hkeep,hthere,⟨fun b o e n hb _=>fl.1 _ _ (hkeep b o e n hb),fun b o e n hb _=>?_,fun b o e n _=>?_,fun b o e _=>?_,fun b xs e=>tu _ _ (I.base.tups b xs e),fun b o u e=>fz _ _ _ (I.base.frzs b o u e),fun b ps e=>?_⟩,q⟩
 ·obtain⟨sl,e1⟩:=I.base.slot b o e n hb (nx b)
  obtain⟨sl',e2⟩:=hsl b hb _ e1
  exact⟨sl',e2⟩
 ·obtain⟨o',e1⟩:=I.base.there b o e (nx b)
  exact fr b o' e1 (I.base.free b o e n (nx b))
 ·by_cases hb:b∈frs X.outer
  ·obtain⟨o',e1⟩:=I.base.there b o e (nx b)
   obtain⟨sl',e2⟩:=hsl b hb _ e1
   exact⟨_,e2⟩
  ·obtain⟨o',e1⟩:=hthere b o e hb
   exact⟨o',fl.1 _ _ e1⟩
 ·obtain⟨m1,e1⟩:=I.base.tbls b ps e
  obtain⟨m2,e2⟩:=tb b _ e1
  exact⟨m1++m2,by rw [e2,Array.append_assoc]⟩
theorem passesX (hex:X.ex=[]) (hst:X.stack=X.env::X.outer) (hf:X.env.frame=some X.env.locals)
  (hxe:∀ e s',wpAny (model X.prog X.w) X.A (leaving X.env e) (fun _ s''=>CXE X.prog X.w X.outer X.H₀ X.s₀ E e s'') (fun e' s''=>CXE X.prog X.w X.outer X.H₀ X.s₀ E e' s'') s'->X.xe e s'):Passes (CXE X.prog X.w) X E:=by
 intro pins σ H s e s' I h
 obtain⟨ea,cls,a0,H',B,rfl,os,bare,fl,hok,hB,hB2,un,q⟩:=h
 refine hxe _ _ ?_
 have fr0:X.A.frames=some (X.env::X.outer):=by rw [<- hst]; exact I.ok.frames
 refine wpAny_leaves_onW fr0 hf (by rw [<- hst]; exact fl) fun h' fl' up=>?_
 refine cx_outX (sx:=s') hex I os bare fl' hok hB hB2 (fun b hb o e=>?_) (fun b o e n=>un.free b o e n (by simp)) un.tups un.frzs un.tbls q
 have hb':b∈frs X.stack:=by
  rw [hst]
  unfold frs
  rw [List.filterMap_cons,hf]
  exact List.mem_cons_of_mem _ hb
 have hn:=I.stkFree b hb'
 obtain⟨sl,e1⟩:=un.slot b o e hn hb' (by simp)
 obtain⟨_,o2,e2,d2⟩:=fl.2.2.1.mem hb'
 rw [e1] at e2
 cases e2
 obtain⟨sl',e3⟩:=up b _ e1 d2
 exact⟨sl',e3⟩
end
structure FnOkP (cells:List (Addr×Obj)) (P:Program) (w:World) (K:PySem.W.Frag) (mg:Str->Option Value) (base:Heap) (CX:CXT) (k:Nat) (f:Addr) (fd:FuncData) (ps:List Str) (sp:Sp):Prop where
 len:∀ vs H Q E,sp vs H Q E->vs.length=ps.length
 run:∀ (A:Around) (outer:List Env) (s:Shared) (H:Hp) (args:Args) (us:List Value) (vs:List V) (Q:VK) (E:XK),Room k A->Env0 P w K mg base A outer s H->Cells cells outer H s.heap->BindsTo s fd args (ps.zip us)->Vals vs us->sp vs H Q E->
  codeAny (model P w) A (.call (.ref f) args) (CR CX outer P w H s Q E) s
theorem fn_ofP {cells:List (Addr×Obj)} {CX:CXT} {P:Program} {w:World} {K:PySem.W.Frag} {mg:Str->Option Value} {base:Heap} {k:Nat} {f:Addr} {name qual:Str} {params:Arguments} {body:List Stmt} {scope:Scope} {dV kV doc pm cdv ct oc:Value} {an od:Option Addr}
  {osl:Array (Option Value)} {N ps:List Str} {sp:Sp} (lk:K.lookup f=some ⟨oc,od,.func (PySem.W.fnOf name qual params body scope dV kV doc pm an cdv ct),osl⟩) (hcd:PySem.W.codeIn K cdv qual=true) (S:FnScope N ps scope)
  (len:∀ vs H Q E,sp vs H Q E->vs.length=ps.length)
  (hbody:∀ (A:Around) (outer:List Env) (s:Shared) (H:Hp) (vs:List V) (Q:VK) (E:XK),Room k (A.deeper (envOfC qual scope s.heap.objs.size f cdv))->Cells cells outer H s.heap->sp vs H Q E->
   ∃ t,PSs (cxOf CX P w K mg base N qual scope f cdv A outer s H E) body t/\t {nx:=fun _ H'=>Q .non H',rt:=Q} (start N vs) H):
  FnOkP cells P w K mg base CX (k+1) f (PySem.W.fnOf name qual params body scope dV kV doc pm an cdv ct) ps sp:=by
 refine⟨len,fun A outer s H args us vs Q E hr e0 hce hb r hsp=>?_⟩
 have hl:=len _ _ _ _ hsp
 have KX:K.In s.heap:=e0.mod.kin.keeps fun b o e=>(e0.bs b o e).1
 have lim:s.heap.NoLimit:=e0.mod.nolimit.keeps fun b o e=>(e0.bs b o e).1
 have hkind:∀ y∈ps.zip us,scope.names.lookup y.1=some .local\/(scope.names.lookup y.1=some .cell/\((cellsFrom (s.heap.objs.size+1) scope.names []).lookup y.1).isSome=true):=fun⟨n,v⟩ hy=>by
  rcases S.par n (List.of_mem_zip hy).1 with q | q
  ·exact .inl q
  ·exact .inr ⟨q,PySem.W.cellsFrom_some _ _ _ (.inl q)⟩
 refine codeAny_call_function hr.depth (KX _ _ lk) rfl S.co S.gen rfl (PySem.W.codeRec_of KX hcd) (hb _ _ _ _ ?_)
 refine wpAny_newFunctionEnv_cells S.kind hkind fun env he s1 x=>?_
 subst he
 refine⟨lim.keeps x.toInCall.keep,codeAny_func ?_⟩
 obtain⟨t,ht,hq⟩:=hbody A outer s H vs Q E (hr.deeper _) hce hsp
 have I:Inv (cxOf CX P w K mg base N qual scope f cdv A outer s H E) [] (start N vs) H s1:=inv_start S hr.hd e0 hl r x
 refine wpAny_mono (ht [] s1 (start N vs) H _ I hq) (fun fl s' hs=>?_) fun e s' hs=>hs
 have fin:∀ {σ':St} {H':Hp} {v:V} {u:Value},Inv (cxOf CX P w K mg base N qual scope f cdv A outer s H E) [] σ' H' s'->RelV v u->Q v H'->CE outer P w H s Q u s':=
  fun {σ' H' v u} J rv q=>⟨v,H',J.os,J.bare,J.base,J.hok,rv,q⟩
 cases fl with
 | ret u=>
  obtain⟨v,σ',H',J,rv,q⟩:=hs
  exact fin J rv q
 | next=>
  obtain⟨σ',H',J,q⟩:=hs
  exact fin (v:=V.non) (u:=Value.none) J rfl q
 | brk=>
  obtain⟨_,_,_,q⟩:=hs
  exact False.elim q
 | cont=>
  obtain⟨_,_,_,q⟩:=hs
  exact False.elim q
def cxL (P:Program) (w:World) (K:PySem.W.Frag) (mg:Str->Option Value) (base:Heap) (N:List Str) (qual:Str) (scope:Scope) (clos:List (Str×Addr)) (f:Addr) (cd:Value) (A:Around) (outer:List Env) (s:Shared) (H:Hp) (E:XK):Cx where
 prog:=P
 w:=w
 K:=K
 mg:=mg
 base:=base
 A:=A.deeper (PySem.W.envX qual scope s.heap.objs.size f cd clos)
 N:=N
 s₀:=s
 H₀:=H
 env:=PySem.W.envX qual scope s.heap.objs.size f cd clos
 outer:=outer
 stack:=PySem.W.envX qual scope s.heap.objs.size f cd clos::outer
 ex:=[]
 calm:=true
 fn:=fun _=>false
 pn:=[]
 xe:=fun e s'=>wpAny (model P w) (A.deeper (PySem.W.envX qual scope s.heap.objs.size f cd clos)) (leaving (PySem.W.envX qual scope s.heap.objs.size f cd clos) e) (fun _ s''=>CXE P w outer H s E e s'') (fun e' s''=>CXE P w outer H s E e' s'') s'
structure LamSc (scope:Scope) (clos:List (Str×Addr)) (N:List Str):Prop where
 kind:scope.kind=.function
 co:scope.isCoroutine=false
 gen:scope.isGenerator=false
 nocell:∀ y∈scope.names,y.2≠.cell
 has:∀ x,scope.names.lookup x=some .free->∃ c,clos.lookup x=some c
 inj:∀ x y c,clos.lookup x=some c->clos.lookup y=some c->x=y
 free:∀ x∈N,scope.names.lookup x=some .free
section
variable {P:Program} {w:World} {K:PySem.W.Frag} {mg:Str->Option Value} {base:Heap} {N:List Str} {qual:Str} {scope:Scope} {clos:List (Str×Addr)} {g:Addr} {cd:Value} {A:Around} {outer:List Env} {s:Shared} {H:Hp} {E:XK} {cells:List (Addr×Obj)} {σ0:St}
theorem inv_lam {h1:Heap} {m:Str->Option Value} {tk:Nat} {ob:Obj} (S:LamSc scope clos N) (hd:A.handled=none) (e0:Env0 P w K mg base A outer s H) (hc:Cells cells outer H s.heap) (hcl:∀ p∈clos,∃ o v,(p.2,o)∈cells/\o.data=.cell v)
  (hcap:∀ (i:Nat) (x:Str) (v:V),N[i]?=some x->σ0[i]?=some (some v)->∃ c o u,clos.lookup x=some c/\(c,o)∈cells/\o.data=.cell (some u)/\RelV v u) (hlen:σ0.length=N.length)
  (hns:h1.Ns s.heap.objs.size m) (hsb:Heap.SameBut s.heap.objs.size (s.heap.push ob) h1):Inv (cxL P w K mg base N qual scope clos g cd A outer s H E) [] σ0 H {s with heap:=h1,toks:=tk}:=by
 have hk:∀ b o,s.heap.get? b=some o->h1.get? b=some o:=fun b o e=>(hsb.2 b (Nat.ne_of_lt (Heap.lt_size e))).trans (Heap.get?_push_of_some _ e)
 have nx:∀ b:Addr,b∉(cxL P w K mg base N qual scope clos g cd A outer s H E).ex:=fun b z=>nomatch z
 have cel:∀ x c,clos.lookup x=some c->∃ o v,s.heap.get? c=some o/\o.data=.cell v/\H c=none:=fun x c e=>by
  obtain⟨o,v,h1,h2⟩:=hcl _ (PySem.mem_of_lookup e)
  exact⟨o,v,(hc _ h1).1,h2,(hc _ h1).2.1⟩
 refine⟨⟨e0.mod,S.kind,rfl,rfl,Nat.le_refl _,S.inj,fun y hy=>?_,fun y c z=>(by cases z),fun _=>hd,Around.frames_deeper e0.frames,.inr ⟨rfl,rfl⟩,fun b z=>absurd z (nx b),e0.bs,e0.bsz,fun b _ _=>nx b,fun b z=>absurd z (nx b),e0.funs,e0.frf⟩,
  rfl,e0.bare,Un.kept hk,⟨m,hns,fun i y v h1 h2 h3=>?_⟩,fun y c h=>?_,e0.hok.fresh (Nat.le_refl _),fun y c h=>?_,fun p hp=>(nomatch hp),e0.hok.kept hk,hlen⟩
 ·have hy:scope.names.lookup y=some .cell\/scope.names.lookup y=some .free:=hy
  rcases hy with hy | hy
  ·exact absurd rfl (S.nocell _ (PySem.mem_of_lookup hy))
  ·exact S.has y hy
 ·obtain⟨c,o,u,q1,q2,q3,q4⟩:=hcap i y v h1 h2
  exact⟨u,q4,.inr ⟨.inr (S.free y (List.mem_of_getElem? h1)),c,q1,o,hk _ _ (hc _ q2).1,q3⟩⟩
 ·obtain⟨o,v,q1,q2,_⟩:=cel y c h
  exact⟨v,o,hk _ _ q1,q2⟩
 ·obtain⟨_,_,_,_,q⟩:=cel y c h
  exact q
theorem lam_run {params:Arguments} {body:Expr} {n:Nat} {t:TE} (hl:IsLam qual params body scope clos g H) (S:LamSc scope clos N) (hbind:∀ pm cv ctv,bindArgs (PySem.W.kla_fn "<lambda>" qual params body scope clos pm cv ctv) ⟨[],[]⟩=pure [])
  (hr:Room (n+1) A) (e0:Env0 P w K mg base A outer s H) (hc:Cells cells outer H s.heap) (hcl:∀ p∈clos,∃ o v,(p.2,o)∈cells/\o.data=.cell v)
  (hcap:∀ (i:Nat) (x:Str) (v:V),N[i]?=some x->σ0[i]?=some (some v)->∃ c o u,clos.lookup x=some c/\(c,o)∈cells/\o.data=.cell (some u)/\RelV v u) (hlen:σ0.length=N.length)
  (ht:∀ cv,PE (cxL P w K mg base N qual scope clos g cv A outer s H E) body t) (hq:t σ0 H fun _ _=>False):
  codeAny (model P w) A (.call (.ref g) ⟨[],[]⟩) (CR (CXE P w) outer P w H s (fun _ _=>False) E) s:=by
 obtain⟨o,u,cv,pm,ctv,h1,h2,c',oc,uc,vs,tt,rfl,h4,h5,h6⟩:=hl
 have lim:s.heap.NoLimit:=e0.mod.nolimit.keeps fun b o e=>(e0.bs b o e).1
 refine PySem.W.kla_callFunE hr.depth (e0.hok g _ h1).1 h2 S.co S.gen rfl ⟨c',oc,vs,tt,rfl,(e0.hok c' _ h4).1,h5,h6⟩ ?_
 rw [hbind]
 refine wpAny_pure (wpAny_newFunctionEnv S.nocell (fun x hx=>nomatch hx) (fun h1 hns hsb=>⟨?_,?_⟩) S.kind)
 ·exact lim.keeps fun b o e=>(hsb.2 b (Nat.ne_of_lt (Heap.lt_size e))).trans (Heap.get?_push_of_some _ e)
 ·show codeAny _ _ (.expr body (PySem.W.envX qual scope s.heap.objs.size g (.ref c') clos)) _ _
  have I:=inv_lam (qual:=qual) (g:=g) (cd:=.ref c') (E:=E) (tk:=s.toks+([]:List (Str×Value)).length) S hr.hd e0 hc hcl hcap hlen hns hsb
  refine PySem.W.kla_codeExpr (wpAny_mono (ht (.ref c') [] _ σ0 H _ I hq) (fun v s' hs=>?_) fun e s' h=>h)
  obtain⟨_,_,_,_,z⟩:=hs
  exact z.elim
end
end L2
namespace DL
open PySem PySem.Spec PyProof.Rows L2
theorem cxe_kp {P:Program} {w:World} {outer:List Env} {H:Hp} {s:Shared} {E:XK} {e:Value} {s':Shared} (h:CXE P w outer H s E e s'):CXE P w outer H s (fun c t H'=>E c t H'/\Kp H H') e s':=by
 obtain⟨ea,cls,a0,H',B,h1,h2,h3,h4,h5,h6,h7,h8,h9⟩:=h
 refine⟨ea,cls,a0,H',B,h1,h2,h3,h4,h5,h6,h7,h8,h9,fun a o z i=>?_⟩
 cases o with
 | tup xs=>exact h8.tups a xs z
 | frz ob u=>exact h8.frzs a ob u z
 | _=>exact i.elim
def dLam (P:Addr) (qual:Str) (params:Arguments) (body:Expr) (scope:Scope) (clos:List (Str×Addr)):DE:=fun _ S k=>S P=some (.tbl fun H ps=>TblOk H qual ps)/\∀ g,S g=none->k (.ref g) (put S g (.fn (IsLam qual params body scope clos g)))
section
variable {X:Cx} {params:Arguments} {body:Expr} {scope:Scope} {clos:List (Str×Addr)} {c P:Addr} {pos:Pos}
theorem d_lamj (hC:PySem.W.CodeHd X.base c P) (hb:BltB X.mg X.base) (hcode:X.env.code=.ref c) (hdef:defaultsOf params X.env=([],[])) (hcl:closureFor scope X.env=pure clos):
  EJ X (.Lambda params body scope pos) (dLam P (X.env.qual++"<lambda>") params body scope clos):=
 ⟨PE.imp (pe_lambda hC hb hcode hdef hcl) fun σ H Q ⟨L,S,k,hL,hS,h,n⟩=>by
  obtain⟨z,h⟩:=h
  obtain⟨ps,hp,hψ⟩:=hS _ _ z
  refine⟨ps,hp,hψ H (Kp.refl H),fun g H' hn st hT hl=>?_⟩
  obtain⟨ps',hp',T'⟩:=hT
  have kp:Kp H H':=fun a o e i=>st a o (fun q=>by subst q; rw [hp] at e; cases e; exact i) e
  refine n _ _ _ _ (h g (hS.free hn)) kp (fun a o e=>?_) (isRef.mpr rfl)
  by_cases y:a=g
  ·subst y
   rw [put_same] at e
   cases e
   obtain⟨ob,u,cv,pm,ctv,q1,q2,q3⟩:=id hl
   exact⟨⟨_,_,q1⟩,fun H2 k2=>hl.kp fun b o u e=>k2 _ _ e trivial⟩
  ·rw [put_ne y] at e
   by_cases y2:a=P
   ·subst y2
    rw [z] at e
    cases e
    exact⟨ps',hp',fun H2 k2=>T'.kp fun b o u e=>k2 _ _ e trivial⟩
   ·have w:=hS a o e
    have st':∀ u,H a=some u->H' a=some u:=fun u q=>st a u y2 q
    cases o with
    | lst ds=>obtain⟨xs,q,r⟩:=w; exact⟨xs,st' _ q,r.kp kp⟩
    | dic=>obtain⟨xs,q⟩:=w; exact⟨xs,st' _ q⟩
    | exc C=>obtain⟨x,y,q,r⟩:=w; exact⟨x,y,st' _ q,r⟩
    | fn φ=>obtain⟨⟨x,y,q⟩,r⟩:=w; exact⟨⟨x,y,st' _ q⟩,fun H2 k2=>r H2 (kp.trans k2)⟩
    | tbl ψ=>obtain⟨qs,q,r⟩:=w; exact⟨qs,st' _ q,fun H2 k2=>r H2 (kp.trans k2)⟩
    | gen g=>obtain⟨u,q,_⟩:=GObj.there w; exact GObj.step w kp ((st' u q).trans q.symm)⟩
end
def exE (K:Fg) (ex:Addr->DH->Prop):XK:=fun cls _ H'=>∃ C S',cls=.ref C/\ex C S'/\Hs K H' S'
section
variable {P:Program} {w:World} {K:Fg} {mg:Str->Option Value} {base:Heap} {N:List Str} {qual:Str} {scope:Scope} {clos:List (Str×Addr)} {g:Addr} {cd:Value} {A:Around} {outer:List Env} {s:Shared} {H:Hp} {ex:Addr->DH->Prop}
theorem d_callLj {x:Str} {n:Nat} {F:DSpX} {e:Expr} {es:List Expr} {t:DA} {p pos:Pos} (c:OwnX P w K mg base x n F) (hr:Room n (cxL P w K mg base N qual scope clos g cd A outer s H (exE K ex)).A)
  (hg:Gl (cxL P w K mg base N qual scope clos g cd A outer s H (exE K ex)) x) (ha:AJ (cxL P w K mg base N qual scope clos g cd A outer s H (exE K ex)) (e::es) t) (hdb:(x == ("__debug__":Str))=false:=by decide)
  (he:starEach (e::es) (cxL P w K mg base N qual scope clos g cd A outer s H (exE K ex)).env=(false,eval e (cxL P w K mg base N qual scope clos g cd A outer s H (exE K ex)).env)::starEach es (cxL P w K mg base N qual scope clos g cd A outer s H (exE K ex)).env:=by exact star_cons rfl)
  (hpl:(backTo pos (starEach es (cxL P w K mg base N qual scope clos g cd A outer s H (exE K ex)).env)).any (·.1)=false:=by exact star_any rfl):
  EJ (cxL P w K mg base N qual scope clos g cd A outer s H (exE K ex)) (.Call (.Name x p) (e::es) [] pos) (dCallX F ex t):=by
 obtain⟨f,fd,ps,F1,h1,h2,h3⟩:=c.ex
 refine⟨PE.imp (pe_call F1 hr hg h1 h2 h3 .nil (passesX rfl rfl rfl fun _ _ h=>h) ha.h hdb he hpl) fun σ H1 Q ⟨L,S,k,hL,hS,h,n⟩=>?_⟩
 refine upA.go hL hS h fun ds S1 vs H1 h1 k1 hL1 hS1 i1=>?_
 show spX K F (vs++[]) H1 Q _
 rw [List.append_nil]
 exact⟨ds,S1,k,ex,i1,hS1,h1,fun d' S' v H' q k3 z1 z2=>n d' S' v H' q (k1.trans k3) z1 z2,fun C S' H' q hs=>⟨C,S',rfl,q,hs⟩⟩
theorem _root_.L2.Fun.okP {cells:List (Addr×Obj)} {x qual:Str} {st:Stmt} {f:Addr} {fd:FuncData} {N ps:List Str} {k:Nat} {F:DSp} (Fn:Fun K x qual st f fd) (Sc:FnScope N ps (defScope st)) (len:∀ ds S k,F ds S k->ds.length=ps.length)
  (hbody:∀ (cdv:Value) (A:Around) (outer:List Env) (s:Shared) (H:Hp) (E:XK),Room k (A.deeper (envOfC qual (defScope st) s.heap.objs.size f cdv))->Cells cells outer H s.heap->
   ∃ g,SsJ (cxOf CX0 P w K mg base N qual (defScope st) f cdv A outer s H E).nox (defBody st) g/\
    ∀ ds S k,F ds S k->g {nx:=fun _ S'=>k .non S',rt:=k} (ds.map some++List.replicate (N.length - ps.length) none) S):FnOkP cells P w K mg base CX0 (k+1) f fd ps (spU K F):=by
 obtain⟨oc,od,kV,doc,pm,an,cdv,ct,osl,rfl,lk,hcd⟩:=Fn.ex
 refine fn_ofP lk hcd Sc (fun vs H Q E h=>?_) fun A outer s H vs Q E hr hce h=>?_
 ·obtain⟨ds,S,k,i,_,q,_⟩:=h
  rw [<- i.length]
  exact len ds S k q
 ·obtain⟨g,hg,q⟩:=hbody cdv A outer s H E hr hce
  obtain⟨ds,S,k',i,hS,h,n⟩:=h
  refine⟨_,hg.h.nox,ds.map some++List.replicate (N.length - ps.length) none,S,_,?_,hS,q ds S k' h,?_⟩
  ·unfold L2.start
   rw [<- i.length,len ds S k' h]
   exact Lc.start _ i
  ·exact⟨fun L S' σ H' h1 k1 _ hS'=>n _ S' _ H' h1 k1 hS' (isNon.mpr rfl),fun d S' v H' h1 k1 hS' i1=>n d S' v H' h1 k1 hS' i1,fun _ _ _ _ h1=>h1.elim,fun _ _ _ _ h1=>h1.elim⟩
end
theorem _root_.L2.Fun.okC {P:Program} {w:World} {K:Fg} {mg:Str->Option Value} {base:Heap} {x qual:Str} {st:Stmt} {f:Addr} {fd:FuncData} {N ps:List Str} {k:Nat} {F:DSp} {cd0:Value} (Fn:Fun K x qual st f fd) (hc:fd.code=cd0) (Sc:FnScope N ps (defScope st)) (len:∀ ds S k,F ds S k->ds.length=ps.length)
  (hbody:∀ (A:Around) (outer:List Env) (s:Shared) (H:Hp) (E:XK),Room k (A.deeper (envOfC qual (defScope st) s.heap.objs.size f cd0))->
   ∃ g,SsJ (cxOf CX0 P w K mg base N qual (defScope st) f cd0 A outer s H E).nox (defBody st) g/\
    ∀ ds S k,F ds S k->g {nx:=fun _ S'=>k .non S',rt:=k} (ds.map some++List.replicate (N.length - ps.length) none) S):FnOk P w K mg base CX0 (k+1) f fd ps (spU K F):=by
 obtain⟨oc,od,kV,doc,pm,an,cdv,ct,osl,rfl,lk,hcd⟩:=Fn.ex
 cases hc
 refine fn_of lk hcd Sc (fun vs H Q E h=>?_) fun A outer s H vs Q E hr h=>?_
 ·obtain⟨ds,S,k,i,_,q,_⟩:=h
  rw [<- i.length]
  exact len ds S k q
 ·obtain⟨g,hg,q⟩:=hbody A outer s H E hr
  obtain⟨ds,S,k',i,hS,h,n⟩:=h
  refine⟨_,hg.h.nox,ds.map some++List.replicate (N.length - ps.length) none,S,_,?_,hS,q ds S k' h,?_⟩
  ·unfold L2.start
   rw [<- i.length,len ds S k' h]
   exact Lc.start _ i
  ·exact⟨fun L S' σ H' h1 k1 _ hS'=>n _ S' _ H' h1 k1 hS' (isNon.mpr rfl),fun d S' v H' h1 k1 hS' i1=>n d S' v H' h1 k1 hS' i1,fun _ _ _ _ h1=>h1.elim,fun _ _ _ _ h1=>h1.elim⟩
structure OwnR (P:Program) (w:World) (K:Fg) (mg:Str->Option Value) (base:Heap) (x:Str) (n:Nat) (F:List (Addr×Obj)->DSp):Prop where
 ex:∃ f fd ps,(∀ cells,FnOkP cells P w K mg base CX0 n f fd ps (spU K (F cells)))/\mg x=some (.ref f)/\PySem.W.keepIn K (.ref f)=true/\Binds K fd ps []
structure LamCap (X:Cx) (scope:Scope) (clos:List (Str×Addr)) (N:List Str) (cap:List (Option Nat)):Prop where
 sc:(∀ x y c,clos.lookup x=some c->clos.lookup y=some c->x=y)->LamSc scope clos N
 sub:∀ p∈clos,X.env.cells.lookup p.1=some p.2
 fn:∀ p∈clos,X.fn p.1=true
 len:cap.length=N.length
 caps:∀ (i j:Nat) (x:Str),cap[i]?=some (some j)->N[i]?=some x->X.N[j]?=some x/\(X.env.scope.names.lookup x=some .cell\/X.env.scope.names.lookup x=some .free)
def LCapOk (X:Cx):List (Option Nat)->List Str->Prop
 | some j::r,x::xs=>(X.N[j]?=some x/\(X.env.scope.names.lookup x=some .cell\/X.env.scope.names.lookup x=some .free))/\LCapOk X r xs
 | none::r,_::xs=>LCapOk X r xs
 | _,_=>True
theorem LCapOk.get {X:Cx}:∀ {cap:List (Option Nat)} {N:List Str},LCapOk X cap N->∀ (i j:Nat) (x:Str),cap[i]?=some (some j)->N[i]?=some x->
  X.N[j]?=some x/\(X.env.scope.names.lookup x=some .cell\/X.env.scope.names.lookup x=some .free)
 | [],_,_,_,_,_,h,_=>by simp at h
 | _::_,[],_,_,_,_,_,h=>by simp at h
 | some _::_,_::_,h,0,j,x,h1,h2=>by
  simp at h1 h2
  subst h1 h2
  exact h.1
 | none::_,_::_,_,0,j,x,h1,_=>by simp at h1
 | some _::_,_::_,h,i+1,j,x,h1,h2=>LCapOk.get h.2 i j x (by simpa using h1) (by simpa using h2)
 | none::r,_::xs,h,i+1,j,x,h1,h2=>LCapOk.get (show LCapOk X r xs from h) i j x (by simpa using h1) (by simpa using h2)
theorem lamCap {X:Cx} {scope:Scope} {clos:List (Str×Addr)} {N:List Str} {cap:List (Option Nat)} (h1:scope.kind=.function) (h2:scope.isCoroutine=false) (h3:scope.isGenerator=false) (h4:(scope.names.all fun y=>y.2 != NameKind.cell)=true)
  (h5:(scope.names.all fun y=>y.2 != NameKind.free || (clos.lookup y.1).isSome)=true) (h6:(N.all fun x=>scope.names.lookup x == some .free)=true) (h7:SubOk X clos) (h8:∀ x,X.fn x=true) (h9:cap.length=N.length) (h10:LCapOk X cap N):LamCap X scope clos N cap:=
 ⟨fun inj=>⟨h1,h2,h3,fun y hy=>by simpa using List.all_eq_true.mp h4 y hy,fun x e=>by
  have:=List.all_eq_true.mp h5 _ (PySem.mem_of_lookup e)
  exact Option.isSome_iff_exists.mp (by simpa using this),inj,fun x hx=>by simpa using List.all_eq_true.mp h6 x hx⟩,h7.mem,fun p _=>h8 p.1,h9,h10.get⟩
end DL
namespace L2
open PySem PySem.Spec PyProof.Rows
structure OnlyT (tabs:List (Addr×Addr)) (H:Hp):Prop where
 only:∀ b,H b=none\/(∃ o xs,H b=some (.frz o (.lst xs)))\/(b∈tabs.map (·.2)/\H b=some (.tbl #[]))
 all:∀ q∈tabs,H q.2=some (.tbl #[])
theorem law_callT {P:Program} {w:World} {K:PySem.W.Frag} {mg mb:Str->Option Value} {CX:CXT} {k:Nat} {fa a:Addr} {fd:FuncData} {x:Str} {sp:Sp} {s₁:Shared} {vs:List Value} {ns:List Int} {tabs:List (Addr×Addr)}
  (hT:PySem.W.TabsAt tabs s₁.heap) (hnK:PySem.W.noTabs K=true) (hbm:BltB mg s₁.heap)
  (KX:K.In s₁.heap) (hns:s₁.heap.Ns mainGlobals mg) (hb:s₁.heap.Ns builtinsNs mb) (hbb:∀ x:Str,x≠"__name__"->mb x=bootBuiltins x) (hlim:s₁.heap.NoLimit) (hg:s₁.gens=#[])
  (ha:s₁.heap.get? a=some {cls:=.type "list",data:=.seq vs.toArray}) (hi:IntsAre vs ns) (hl:ns.length<=sizeLine) (hr:Room k callerA)
  (F:∀ base:Heap,K.In base->base.Ns mainGlobals mg->BltB mg base->PySem.W.CodeAll tabs base->FnOk P w K mg base CX k fa fd [x] sp) (hbind:∀ (s:Shared) (u:Value),BindsTo s fd ⟨[u],[]⟩ [(x,u)])
  (hsp:∀ H:Hp,OnlyT tabs H->SqL K H a (ns.map V.int)->sp [.ref a] H (fun v _=>v=.bl true) fun _ _ _=>False)
  (hCX:∀ H e s',CX [] H s₁ (fun _ _ _=>False) e s'->False):
  codeAny (model P w) callerA (.call (.ref fa) ⟨[.ref a],[]⟩) (fun r s'=>r=.ok (.ret (.bool true))/\OldK s₁.heap s'.heap/\s'.os=s₁.os/\AllBare s'.gens) s₁:=by
 have rv:=vals_ints hi
 have lenV:=hi.length
 have tabO:∀ b∈tabs.map (·.2),s₁.heap.get? b=some (PySem.W.tabObj #[]):=fun b hb=>by
  obtain⟨q,hq,rfl⟩:=List.mem_map.mp hb
  exact(hT q hq).2
 have naT:a∉tabs.map (·.2):=fun z=>by
  have e:=tabO a z
  rw [ha] at e
  cases e
 have nKT:∀ b o,K.lookup b=some o->b∉tabs.map (·.2):=fun b o e z=>by
  have e1:=KX b o e
  rw [tabO b z] at e1
  cases e1
  have h2:=List.all_eq_true.mp hnK (b,_) (PySem.W.mem_of_lookupK e)
  exact absurd (show false=true from h2) Bool.false_ne_true
 have core:∀ H:Hp,OnlyT tabs H->SqL K H a (ns.map V.int)->HOk P w H s₁.heap->(∀ b,H b≠none->b=a\/b∈tabs.map (·.2))->(H a≠none->K.lookup a=none)->
   codeAny (model P w) callerA (.call (.ref fa) ⟨[.ref a],[]⟩) (fun r s'=>r=.ok (.ret (.bool true))/\OldK s₁.heap s'.heap/\s'.os=s₁.os/\AllBare s'.gens) s₁:=by
  intro H hO hS hok hA hK
  have base_of:∀ {b:Addr} {o:Obj},s₁.heap.get? b=some o->H b=none->(hidT s₁.heap H).get? b=some o:=fun e n=>hidT_get e n
  have noC:∀ {b:Addr} {o:Obj},s₁.heap.get? b=some o->o.cls≠.type "list"->o.cls≠.none->H b=none:=fun {b o} e d1 d2=>by
   cases q:H b with
   | none=>rfl
   | some u=>
    rcases hA b (by rw [q]; simp) with e' | e'
    ·subst e'
     rw [ha] at e; cases e
     exact absurd rfl d1
    ·rw [tabO b e'] at e; cases e
     exact absurd rfl d2
  have noA:∀ {b:Addr} {o:Obj} {es:Array DictEntry} {ep:Nat},s₁.heap.get? b=some o->o.data=.dict es ep->H b=none:=fun {b o es ep} e d=>by
   cases q:H b with
   | none=>rfl
   | some u=>
    rcases hA b (by rw [q]; simp) with e' | e'
    ·subst e'
     rw [ha] at e; cases e
     have d':Data.seq vs.toArray _=Data.dict es ep:=d
     cases d'
    ·rw [tabO b e'] at e; cases e
     cases d
  have nsK:∀ {b:Addr} {m:Str->Option Value},s₁.heap.Ns b m->(hidT s₁.heap H).Ns b m:=fun {b m} ⟨o,es,ep,e,d,r⟩=>⟨o,es,ep,base_of e (noA e d),d,r⟩
  have hKb:K.In (hidT s₁.heap H):=fun b o e=>base_of (KX b o e) (by
   cases q:H b with
   | none=>rfl
   | some u=>
    rcases hA b (by rw [q]; simp) with e' | e'
    ·subst e'
     rw [hK (by rw [q]; simp)] at e; cases e
    ·exact absurd e' (nKT b o e))
  have hBb:BltB mg (hidT s₁.heap H):=by
   obtain⟨bm,ob,b1,b2,b3,b4,b5⟩:=hbm
   exact⟨bm,ob,b1,b2,base_of b3 (noC b3 (by rw [b4]; decide) (by rw [b4]; nofun)),b4,b5⟩
  have hCb:PySem.W.CodeAll tabs (hidT s₁.heap H):=.of fun q hq=>by
   obtain⟨o,vs,file,tf,flags,tg,inF,text,tt,e1,r1,r2⟩:=(hT q hq).1
   exact⟨o,vs,file,tf,flags,tg,inF,text,tt,base_of e1 (noC e1 (by rw [r1]; decide) (by rw [r1]; nofun)),r1,r2⟩
  have hM:Mod K mg (hidT s₁.heap H):=⟨hKb,nsK hns,⟨mb,nsK hb,hbb⟩,let ⟨mc,h1,h2⟩:=hlim; ⟨mc,nsK h1,h2⟩⟩
  have e0:Env0 P w K mg (hidT s₁.heap H) callerA [] s₁ H:=⟨rfl,hM,fun b o e=>of_hidT e,Nat.le_of_eq (hidT_size _ _),trivial,fun b hb=>absurd (show b∈([]:List Addr) from hb) (by simp),hok,.of_eq hg⟩
  refine codeAny_mono ((F _ hKb (nsK hns) hBb hCb).run callerA [] s₁ H ⟨[.ref a],[]⟩ [.ref a] [.ref a] _ _ hr e0 (hbind s₁ (.ref a)) (.cons rfl .nil) (hsp H hO hS)) fun r s' h=>?_
  cases r with
  | error e=>exact(hCX H e s' h).elim
  | ok fl=>
   cases fl with
   | next=>exact False.elim h
   | brk=>exact False.elim h
   | cont=>exact False.elim h
   | ret u=>
    obtain⟨v,H',os,bare,un,hok',r',q⟩:=h
    have q':v=.bl true:=q
    subst q'
    obtain rfl:u=Value.bool true:=r'
    refine⟨rfl,⟨fun b o e=>?_,fun b o e=>un.there b o e (by simp)⟩,os,bare⟩
    rcases hO.only b with z | ⟨ob,xs,z⟩ | ⟨hm,z⟩
    ·exact .inl (un.keep b o e z (by intro z; exact absurd (show b∈([]:List Addr) from z) (by simp)) (by simp))
    ·have z2:=un.frzs b ob _ z
     obtain⟨e1,_⟩:=hok b _ z
     obtain⟨e2,_⟩:=hok' b _ z2
     rw [e] at e1; cases e1
     exact .inl e2
    ·obtain⟨more,z2⟩:=un.tbls b _ z
     have e2:s'.heap.get? b=some (PySem.W.tabObj (#[]++more)):=hok' b _ z2
     have e3:=tabO b hm
     obtain⟨q,hq,rfl⟩:=List.mem_map.mp hm
     rw [e] at e3
     cases e3
     exact .inr (.inl ⟨((hT q hq).1.tab (hT q hq).2).isCodeTable,rfl,#[],more,rfl,e2⟩)
 have tb:∀ b,b∈tabs.map (·.2)->HOk P w (fun _=>none) s₁.heap->ObjOk P w (fun _=>none) s₁.heap b (.tbl #[]):=fun b hb _=>tabO b hb
 cases hk:K.lookup a with
 | some o=>
  have e:=KX a o hk
  rw [ha] at e
  cases e
  refine core (fun b=>if b∈tabs.map (·.2) then some (.tbl #[]) else none) ⟨fun b=>?_,fun q hq=>if_pos (List.mem_map_of_mem hq)⟩ (.inr ⟨_,vs.toArray,_,hk,rfl,rfl,rfl,by rw [List.size_toArray,lenV]; exact hl,by simpa using rv⟩) (fun b u z=>?_) (fun b z=>?_) fun z=>?_
  ·by_cases hm:b∈tabs.map (·.2)
   ·exact .inr (.inr ⟨hm,if_pos hm⟩)
   ·exact .inl (if_neg hm)
  ·by_cases hm:b∈tabs.map (·.2)
   ·have z':=(if_pos hm).symm.trans z
    cases z'
    exact tabO b hm
   ·have z':=(if_neg hm).symm.trans z
    cases z'
  ·by_cases hm:b∈tabs.map (·.2)
   ·exact .inr hm
   ·exact absurd (if_neg hm) z
  ·exact absurd (if_neg naT) z
 | none=>
  refine core (fun b=>if b=a then some (.frz {cls:=.type "list",data:=.seq vs.toArray} (.lst (ns.map V.int))) else if b∈tabs.map (·.2) then some (.tbl #[]) else none) ⟨fun b=>?_,fun q hq=>?_⟩ (.inl (.inr ⟨{cls:=.type "list",data:=.seq vs.toArray},if_pos rfl⟩)) (fun b u z=>?_) (fun b z=>?_) fun _=>hk
  ·by_cases hb:b=a
   ·exact .inr (.inl ⟨_,_,if_pos hb⟩)
   ·by_cases hm:b∈tabs.map (·.2)
    ·exact .inr (.inr ⟨hm,(if_neg hb).trans (if_pos hm)⟩)
    ·exact .inl ((if_neg hb).trans (if_neg hm))
  ·have hm:q.2∈tabs.map (·.2):=List.mem_map_of_mem hq
   have hb:q.2≠a:=fun z=>naT (z▸hm)
   exact(if_neg hb).trans (if_pos hm)
  ·by_cases hb:b=a
   ·have z':=(if_pos hb).symm.trans z
    cases z'
    subst hb
    exact⟨ha,by rw [List.length_map]; exact hl,vs,_,rv,ha⟩
   ·by_cases hm:b∈tabs.map (·.2)
    ·have z':=((if_neg hb).trans (if_pos hm)).symm.trans z
     cases z'
     exact tabO b hm
    ·have z':=((if_neg hb).trans (if_neg hm)).symm.trans z
     cases z'
  ·by_cases hb:b=a
   ·exact .inl hb
   ·by_cases hm:b∈tabs.map (·.2)
    ·exact .inr hm
    ·exact absurd ((if_neg hb).trans (if_neg hm)) z
theorem walk_ofT {l:PySem.W.OpenLaw} {n k:Nat} {q:Program} {loose:List Str} {XP:(Str->Option Value)->Heap->Prop} {YP:World->Heap->Prop} {d:DefRec} {K:Params->PySem.W.Frag} {CX:World->CXT} {sp:World->Sp} {x:Str} {tabs:List (Addr×Addr)}
  (hn:l.most=some n) (hn2:n<=sizeLine) (hdf:d.params.defaults=[]) (hr:Room k callerA)
  (hY:∀ (w:World) (h:Heap),YP w h->(K w.params).In h) (hnK:∀ w:World,PySem.W.noTabs (K w.params)=true) (hT:∀ (w:World) (h:Heap),YP w h->PySem.W.TabsAt tabs h)
  (F:∀ (w:World) (mg:Str->Option Value) (fa:Addr) (h:Heap),(K w.params).In h->h.Ns mainGlobals mg->mg d.name=some (.ref fa)->
   ∃ fd:FuncData,(∀ (s:Shared) (u:Value),BindsTo s fd ⟨[u],[]⟩ [(x,u)])/\
    ∀ base:Heap,(K w.params).In base->base.Ns mainGlobals mg->BltB mg base->PySem.W.CodeAll tabs base->FnOk l.prog w (K w.params) mg base (CX w) k fa fd [x] (sp w))
  (hsp:∀ (w:World) (H:Hp) (a:Addr) (ns:List Int),ns.length<=n->OnlyT tabs H->SqL (K w.params) H a (ns.map V.int)->sp w [.ref a] H (fun v _=>v=.bl true) fun _ _ _=>False)
  (hCX:∀ (w:World) (H:Hp) (s:Shared) (e:Value) (s':Shared),CX w [] H s (fun _ _ _=>False) e s'->False):
  PySem.W.WalkO q loose XP YP l.row.toRowW d [] (fun f vs=>PySem.call f vs):=by
 refine Att.attach_call hn hdf fun w s₀ s₁ mg mb fa o pm cd doc a vs ns G Y ho hd hcd hmg hobj hints hlen hg=>?_
 have KX:=hY w _ Y
 obtain⟨fd,hb,hF⟩:=F w mg fa _ KX G.T.g hmg
 have hbm:BltB mg s₁.heap:=by
  obtain⟨bm,ob,b1,b2,b3,b4,b5,b6⟩:=G.T.bmain
  exact⟨bm,ob,b1,b2,b3,b4,b5,b6⟩
 exact law_callT (hT w _ Y) (hnK w) hbm KX G.T.g G.T.b G.T.builtins G.T.nolimit hg hobj hints (Nat.le_trans hlen hn2) hr hF hb (fun H hO hS=>hsp w H a ns hlen hO hS) fun H e s'=>hCX w H s₁ e s'
end L2
namespace DL
open PySem PySem.Spec PyProof.Rows L2
theorem mem_lk {β:Type}:∀ {l:List (Addr×β)} {a:Addr} {b:β},l.lookup a=some b->(a,b)∈l
 | [],_,_,e=>by cases e
 | (c,x)::r,a,b,e=>by
  rw [List.lookup_cons] at e
  cases hb:a == c with
  | true=>rw [hb] at e; cases e; rw [eq_of_beq hb]; exact .head _
  | false=>rw [hb] at e; exact .tail _ (mem_lk e)
def tab0 (tq:List (Addr×Str)):DH:=fun b=>(tq.lookup b).map fun q=>DO.tbl fun H ps=>TblOk H q ps
theorem law_upT {K:Fg} {H:Hp} {a:Addr} {ns:List Int} {F:DSp} {E:XK} {tabs:List (Addr×Addr)} {tq:List (Addr×Str)} (ho:OnlyT tabs H) (hS:SqL K H a (ns.map V.int)) (ht:∀ p∈tq,p.1∈tabs.map (·.2)) (h:F [.rl (ns.map D.int)] (tab0 tq) (fun d _=>d=.bl true)):spU K F [.ref a] H (fun v _=>v=.bl true) E:=by
 refine⟨[.rl (ns.map D.int)],tab0 tq,fun d _=>d=.bl true,IsDs.cons (isRl.mpr ⟨a,ns.map V.int,rfl,?_,?_⟩) IsDs.nil,fun b o e=>?_,h,fun d' S' v H' e _ _ i=>?_⟩
 ·rcases hS with (h1 | h1) | h1
  ·rcases ho.only a with z | ⟨o,xs,z⟩ | ⟨_,z⟩
   ·rw [z] at h1; cases h1
   ·rw [z] at h1; cases h1
   ·rw [z] at h1; cases h1
  ·exact .inl h1
  ·exact .inr h1
 ·clear h hS
  induction ns with
  | nil=>exact IsDs.nil
  | cons n ns ih=>exact IsDs.cons (isInt.mpr rfl) ih
 ·unfold tab0 at e
  cases q:tq.lookup b with
  | none=>rw [q] at e; cases e
  | some x=>
   rw [q] at e
   cases e
   obtain⟨t,ht',e2⟩:=List.mem_map.mp (ht _ (mem_lk q))
   have z:=ho.all t ht'
   rw [e2] at z
   exact⟨#[],z,fun H2 _=>⟨trivial,fun pos cv z2=>by cases z2⟩⟩
 ·subst e
  exact isBl.mp i
section
variable {X:Cx} {pins:List (Addr×Obj)} {σ:L2.St} {H:Hp} {s:Shared}
theorem eqL_at (I:Inv X pins σ H s) {S:DH} {a c:Addr} {ds es:List D} {b:Bool} (hS:Hs X.K H S) (h1:S a=some (.lst ds)) (h2:S c=some (.lst es)) (hl:ds.length=es.length) (A:Around) (hu:A.units+8 < cLine) (h:eqTs (eqT 7) ds es=some b):
  SeqAt.RcAt A s (.ref a) (.ref c) b/\SeqAt.RcNeAt A s (.ref a) (.ref c) (!b):=by
 obtain⟨xs,q1,j1⟩:=hS.lst h1
 obtain⟨ys,q2,j2⟩:=hS.lst h2
 obtain⟨us,r1,p1,_⟩:=I.list (SqL.of q1)
 obtain⟨ws,r2,p2,_⟩:=I.list (SqL.of q2)
 have l1:=j1.length
 have l2:=j2.length
 have l3:=r1.length
 have l4:=r2.length
 have hsz:us.toArray.size=ws.toArray.size:=by simp only [List.size_toArray]; omega
 have he:∀ j (h1:j < us.toArray.size) (h2:j < ws.toArray.size),SeqAt.EqAt A.in1 s us.toArray[j] ws.toArray[j] (eqAts (eqT 7) ds es j):=fun j h1 h2=>by
  simp only [List.size_toArray] at h1 h2
  obtain⟨d,e,x,y,q1,q2,d1,d2,rx,ry⟩:=pair_at j1 j2 r1 r2 h1 h2
  have:=(eqT_at I 7 A.in1 d e x y us[j] ws[j] _ (by show A.units+1+7 < cLine; omega) (eqTs_at h q1 q2) d1 d2 rx ry).1
  simpa using this
 have e:=eqTs_all h
 rw [hl,Nat.min_self] at e
 have e:(List.range us.toArray.size).all (eqAts (eqT 7) ds es)=b:=by
  simp only [List.size_toArray]
  rw [<- l3,<- l1,hl]
  simpa using e
 refine⟨?_,?_⟩
 ·have z:=SeqAt.RcAt.lists p1.isList p2.isList hsz (by omega) he
  rw [e] at z
  exact z
 ·have z:=SeqAt.RcNeAt.lists p1.isList p2.isList hsz (by omega) he
  rw [e] at z
  exact z
end
def dEqX:D2:=fun d e S k=>match d,e with
 | .ref a,.ref c=>∃ xs ys b,S a=some (.lst xs)/\S c=some (.lst ys)/\xs.length=ys.length/\eqTs (eqT 7) xs ys=some b/\k (.bl b) S
 | d,e=>∃ b,eqT 8 d e=some b/\k (.bl b) S
def dNeX:D2:=fun d e S k=>match d,e with
 | .ref a,.ref c=>∃ xs ys b,S a=some (.lst xs)/\S c=some (.lst ys)/\xs.length=ys.length/\eqTs (eqT 7) xs ys=some b/\k (.bl (!b)) S
 | d,e=>∃ b,eqT 8 d e=some b/\k (.bl (!b)) S
theorem o_eqX {X:Cx} {n:Nat} (hr:Room n X.A):OpR X (compareOp .Eq) (upR X.K dEqX):=by
 intro pins s σ H x y v u Q I rx ry h
 obtain⟨d,e,S,k,i1,i2,hS,r,m⟩:=h
 have hu:=hr.units
 unfold dEqX at r
 split at r
 ·obtain⟨xs,ys,b,h1,h2,h3,h4,w⟩:=r
  have e1:=isRef.mp i1
  have e2:=isRef.mp i2
  subst e1 e2
  cases rx
  cases ry
  exact(eqL_at I hS h1 h2 h3 X.A (by omega) h4).1 X.prog X.w X.xe _ ⟨.bl b,H,I,rfl,up1 m hS w (isBl.mpr rfl)⟩
 ·obtain⟨b,h1,w⟩:=r
  exact(eqT_at I 8 X.A d e x y v u b (by omega) h1 i1 i2 rx ry).2 X.prog X.w X.xe _ ⟨.bl b,H,I,rfl,up1 m hS w (isBl.mpr rfl)⟩
theorem o_neX {X:Cx} {n:Nat} (hr:Room n X.A):OpR X (compareOp .NotEq) (upR X.K dNeX):=by
 intro pins s σ H x y v u Q I rx ry h
 obtain⟨d,e,S,k,i1,i2,hS,r,m⟩:=h
 have hu:=hr.units
 unfold dNeX at r
 split at r
 ·obtain⟨xs,ys,b,h1,h2,h3,h4,w⟩:=r
  have e1:=isRef.mp i1
  have e2:=isRef.mp i2
  subst e1 e2
  cases rx
  cases ry
  exact(eqL_at I hS h1 h2 h3 X.A (by omega) h4).2 X.prog X.w X.xe _ ⟨.bl (!b),H,I,rfl,up1 m hS w (isBl.mpr rfl)⟩
 ·obtain⟨b,h1,w⟩:=r
  exact eqT_ne I 8 X.A d e x y v u b (by omega) h1 i1 i2 rx ry X.prog X.w X.xe _ ⟨.bl (!b),H,I,rfl,up1 m hS w (isBl.mpr rfl)⟩
structure RefC (K:Fg) (rod:Value) (nine:List Addr) (j:Nat) (C:Addr):Prop where
 exc:ExcCls K C
 kit:∀ (i:Nat) (c:Addr),nine[i]?=some c->PySem.W.kitOne K (.ref C) (.ref c)=some (decide (i=j))
 val:PySem.W.kitOne K (.ref C) (.type "ValueError")=some true
 rod:PySem.W.exmOne K (.ref C) rod=some true
 lt:j < 9
theorem range9:List.range (9:Int).toNat=List.range' 0 9:=by decide
theorem ref_loop {S:DH} {p pk:Addr} {j:Nat} {k:DK} {bs:List D} (hp:S p=none) (hk:S pk=some (.lst bs)) (hb:∀ i:Nat,i < 9->bs[i]?=some (.bl (decide (i=j)))) (hj:j < 9)
  (fin:∀ S',ExtD S S'->S' p=none->k (.ref p) (put S' p (.lst [.int (j:Nat)]))):∀ (n i:Nat) (l0:Option D),i+n=9->
   dCLoop (fun _=>True) p (dgName 0) (bdIf (dTest (dOp dIxE (dVar 1) (dVar 0))) (dVar 0)) k ((List.range' i n).map fun i=>D.int (i:Nat)) (if j < i then [D.int (j:Nat)] else []) [l0,some (.ref pk)] (put S p (.lst (if j < i then [D.int (j:Nat)] else [])))
 | 0,i,l0,h=>by
  have:j < i:=by omega
  rw [if_pos this]
  exact⟨trivial,fin S (fun _ _ e=>e) hp⟩
 | n+1,i,l0,h=>by
  have np:pk≠p:=fun z=>by rw [z,hp] at hk; cases hk
  have e:(List.range' i (n+1)).map (fun i=>D.int (i:Nat))=D.int (i:Nat)::(List.range' (i+1) n).map fun i=>D.int (i:Nat):=rfl
  rw [e]
  refine⟨trivial,bs,.bl (decide (i=j)),by rw [put_ne np]; exact hk,L2.atI_nat (hb i (by omega)),?_⟩
  by_cases q:i=j
  ·subst q
   have e1:¬ i < i:=by omega
   rw [if_neg e1]
   have e2:decide (i=i)=true:=by simp
   show if decide (i=i)=true then _ else _
   rw [if_pos e2]
   refine⟨put_same,Nat.lt_of_lt_of_le (by decide:0 < 1) (Nat.le_of_ble_eq_true rfl),?_⟩
   have z:=ref_loop (k:=k) hp hk hb hj fin n (i+1) (some (.int (i:Nat))) (by omega)
   rw [if_pos (by omega:i < i+1)] at z
   rw [put_put]
   exact z
  ·have e2:¬ decide (i=j)=true:=by simp [q]
   show if decide (i=j)=true then _ else _
   rw [if_neg e2]
   have z:=ref_loop (k:=k) hp hk hb hj fin n (i+1) (some (.int (i:Nat))) (by omega)
   by_cases q2:j < i
   ·rw [if_pos q2]
    rw [if_pos (by omega:j < i+1)] at z
    exact z
   ·rw [if_neg q2]
    rw [if_neg (by omega:¬ j < i+1)] at z
    exact z
theorem mono_lam {P:Addr} {qual:Str} {params:Arguments} {body:Expr} {scope:Scope} {clos:List (Str×Addr)}:Mono (dLam P qual params body scope clos):=fun L S k k' h q=>⟨q.1,fun g hg=>h _ _ (q.2 g hg)⟩
theorem kit9 {K:Fg} {C:Addr} {j:Nat} {c0 c1 c2 c3 c4 c5 c6 c7 c8:Addr} (h0:PySem.W.kitOne K (.ref C) (.ref c0)=some (decide (0=j))) (h1:PySem.W.kitOne K (.ref C) (.ref c1)=some (decide (1=j))) (h2:PySem.W.kitOne K (.ref C) (.ref c2)=some (decide (2=j))) (h3:PySem.W.kitOne K (.ref C) (.ref c3)=some (decide (3=j))) (h4:PySem.W.kitOne K (.ref C) (.ref c4)=some (decide (4=j)))
  (h5:PySem.W.kitOne K (.ref C) (.ref c5)=some (decide (5=j))) (h6:PySem.W.kitOne K (.ref C) (.ref c6)=some (decide (6=j))) (h7:PySem.W.kitOne K (.ref C) (.ref c7)=some (decide (7=j))) (h8:PySem.W.kitOne K (.ref C) (.ref c8)=some (decide (8=j))):
  ∀ (i:Nat) (c:Addr),[c0,c1,c2,c3,c4,c5,c6,c7,c8][i]?=some c->PySem.W.kitOne K (.ref C) (.ref c)=some (decide (i=j)):=by
 intro i c h
 match i,h with
 | 0,h=>cases h; exact h0
 | 1,h=>cases h; exact h1
 | 2,h=>cases h; exact h2
 | 3,h=>cases h; exact h3
 | 4,h=>cases h; exact h4
 | 5,h=>cases h; exact h5
 | 6,h=>cases h; exact h6
 | 7,h=>cases h; exact h7
 | 8,h=>cases h; exact h8
 | n+9,h=>cases h
theorem OwnR.mk' {P:Program} {w:World} {K:Fg} {mg:Str->Option Value} {base:Heap} {x qual:Str} {st:Stmt} {f:Addr} {fd:FuncData} {ps:List Str} {n:Nat} {F:List (Addr×Obj)->DSp} (Fn:Fun K x qual st f fd) (h:∀ cells,FnOkP cells P w K mg base CX0 n f fd ps (spU K (F cells))) (hm:mg x=some (.ref f)) (hb:Binds K fd ps []):OwnR P w K mg base x n F:=
 ⟨f,fd,ps,h,hm,Fn.kp,hb⟩
theorem OwnX.mk' {P:Program} {w:World} {K:Fg} {mg:Str->Option Value} {base:Heap} {x qual:Str} {st:Stmt} {f:Addr} {fd:FuncData} {ps:List Str} {n:Nat} {F:DSpX} (Fn:Fun K x qual st f fd) (h:FnOk P w K mg base (CXE P w) n f fd ps (spX K F)) (hm:mg x=some (.ref f)) (hb:Binds K fd ps []):OwnX P w K mg base x n F:=
 ⟨f,fd,ps,h,hm,Fn.kp,hb⟩
def dIxF:D2:=fun d e S k=>match d,e with
 | .tup ds,.int i=>∃ c,L2.atI ds i=some c/\k c S
 | .rl ds,.int i=>∃ c,L2.atI ds i=some c/\k c S
 | .ref a,.int i=>∃ ds c,S a=some (.lst ds)/\L2.atI ds i=some c/\k c S
 | _,_=>False
theorem x_ixF {X:Cx}:IxR X (upR X.K dIxF):=IxR.imp x_ix (upR.imp fun d e S k h=>by
 unfold dIxF at h
 split at h
 ·obtain⟨c,h1,h2⟩:=h
  simp only [dIx,h1]
  exact h2
 ·obtain⟨c,h1,h2⟩:=h
  simp only [dIx,h1]
  exact h2
 ·obtain⟨ds,c,h0,h1,h2⟩:=h
  simp only [dIx,h0,h1]
  exact h2
 ·exact h.elim)
theorem isDs_intsM {K:Fg} {H:Hp}:∀ {ns:List Int} {vs:List V},IsDs K H (ns.map D.int) vs->vs=ns.map V.int
 | [],vs,h=>by
  have:=h.length
  exact List.length_eq_zero_iff.mp this.symm
 | n::ns,vs,h=>by
  obtain⟨u,r,rfl,h1,h2⟩:=isCons.mp h
  rw [isInt.mp h1,isDs_intsM h2]
  rfl
end DL
namespace HT
open PySem PyProof.Rows
section
variable {prog:Program} {w:World} {A:Around} {E:Value->Shared->Prop} {s:Shared}
theorem getItem_tuple_whole {t sl:Addr} {items:Array Value} {vl vu:Value} {lo hi:Option Int} {Q:Value->Shared->Prop} (ht:IsTup s.heap t items) (hs:s.heap.IsSliceOf sl vl vu .none) (pl:IsPart vl lo) (pu:IsPart vu hi)
  (hw:sIx items.size 0 lo=0/\sIx items.size items.size hi=items.size) (h:Q (.ref t) s):wpAny (model prog w) A (getItem (.ref t) (.ref sl)) Q E s:=by
 obtain⟨os,hos,hcs,hds⟩:=id hs
 have hTs:s.TypeIs (.ref sl) "slice":=⟨os,hos,hcs⟩
 unfold getItem
 try with_reducible refine wpAny_holding ?_
 first | refine wpAny_bind (wpAny_pure ?_) | skip
 refine wpAny_bind (wpAny_sequenceKey ht.typeIs (by decide) ?_)
 refine wpAny_bind (wpAny_callSpecial?_slot (name:=Str.ofString "__getitem__") ht.typeIs PyProof.Rows.slot_tuple_getitem
  (wpAny_call_entry PyProof.Rows.slot_tuple_getitem ht.typeIs entry_tuple_getitem ?_ (args_tuple_getitem _ _)))
 show wpAny _ _ (Builtin.Tuple.tupleItemsOf (.ref t) >>= _) _ _ s
 refine wpAny_bind (tupleItemsOf_ ht (wpAny_bind (wpAny_typeOf hTs ?_)))
 rw [if_pos (by decide)]
 refine wpAny_bind (sliceApplied_gen hs pl pu ?_)
 rw [hw.1,hw.2]
 show wpAny _ _ (if ((((0:Nat):Int) == 0) && (1:Int) == 1 && (items.size - 0) == items.size)=true then _ else _) _ _ s
 rw [if_pos (by simp)]
 refine wpAny_bind (m:=Builtin.Tuple.tupleIsExact (.ref t)) (wpAny_bind (wpAny_typeOf ht.typeIs (wpAny_pure ?_)))
 rw [if_pos (by decide)]
 first
  | exact wpAny_pure ⟨_,rfl,wpAny_pure h⟩
  | exact wpAny_bind (wpAny_pure (wpAny_pure ⟨_,rfl,wpAny_pure h⟩))
  | (wp_walk; exact⟨_,rfl,wpAny_pure h⟩)
end
end HT
namespace L2
open PySem PySem.Spec PyProof.Rows
section
variable {X:Cx}
theorem sl_tupW:SlR X (fun x lo hi H Q=>∃ a xs,x=.ref a/\SqT X.K H a xs/\(HT.sIx xs.length 0 lo=0/\HT.sIx xs.length xs.length hi=xs.length)/\Q (.ref a) H):=by
 intro pins s σ H x v vl vu lo hi sl Q I rx hs pl pu h
 obtain⟨a,xs,rfl,hx,hw,q⟩:=h
 cases rx
 obtain⟨its,r,ht,hz⟩:=I.tuple hx
 have hlen:its.toArray.size=xs.length:=by rw [List.size_toArray]; exact r.length.symm
 refine⟨"tuple",_,PyProof.Rows.slot_tuple_getitem.lookup,ht.typeIs,?_⟩
 exact HT.getItem_tuple_whole ht hs pl pu (by rw [hlen]; exact hw) ⟨.ref a,H,I,rfl,q⟩
end
end L2
namespace DL
open PySem PySem.Spec PyProof.Rows L2
def dCutX (g:DE) (tl th:DOp):DE:=fun L S k=>g L S fun x S1=>tl L S1 fun lo S2=>th L S2 fun hi S3=>match x with
 | .tup xs=>k (.tup (cutD xs lo hi)) S3
 | _=>False
theorem cut_whole {xs:List D} {lo hi:Option Int} (h:HT.sIx xs.length 0 lo=0/\HT.sIx xs.length xs.length hi=xs.length):cutD xs lo hi=xs:=by
 unfold cutD
 rw [h.1,h.2]
 simp
theorem d_cutXj {X:Cx} {e:Expr} {g:DE} {lo hi:Option Expr} {tl th:DOp} {p2 pos:Pos} (he:EJ X e g) (hl:OJ X lo tl) (hu:OJ X hi th):EJ X (.Subscript e (.Slice lo hi none p2) pos) (dCutX g tl th):=
 ⟨PE.imp (pe_slice (SlR.or sl_tup sl_tupW) he.h hl.h hu.h) fun σ H Q ⟨L,S,k,hL,hS,h,n⟩=>up.go hL hS h fun d S1 v H1 h1 k1 hL1 hS1 i1=>by
  refine⟨L,S1,_,hL1,hS1,h1,fun lo' S2 H2 h2 k2 hS2=>⟨L,S2,_,hL1.kp k2,hS2,h2,fun hi' S3 H3 h3 k3 hS3=>?_⟩⟩
  cases d with
  | tup xs=>
   obtain⟨a,vs,rfl,t,j⟩:=isTup.mp i1
   have j3:=j.kp (k2.trans k3)
   by_cases hw:HT.sIx xs.length 0 lo'=0/\HT.sIx xs.length xs.length hi'=xs.length
   ·refine .inr ⟨a,vs,rfl,(k2.trans k3).tup t,by rw [<- j.length]; exact hw,?_⟩
    have h3:k (.tup (cutD xs lo' hi')) S3:=h3
    rw [cut_whole hw] at h3
    exact n _ S3 _ _ h3 (k1.trans (k2.trans k3)) hS3 (isTup.mpr ⟨a,vs,rfl,(k2.trans k3).tup t,j3⟩)
   ·refine .inl ⟨a,vs,rfl,(k2.trans k3).tup t,by rw [<- j.length]; exact hw,fun p hp=>?_⟩
    have k4:Kp H3 (upd H3 p (.tup (cutV vs lo' hi'))):=Kp.new hp
    refine n _ S3 _ _ h3 (k1.trans (k2.trans (k3.trans k4))) (hS3.new hp) (isTup.mpr ⟨p,_,rfl,SqT.of upd_same,?_⟩)
    unfold cutD cutV
    rw [j.length]
    exact((j3.drop _).take _).kp k4
  | _=>exact(show False from h3).elim⟩
end DL
set_option linter.all false
namespace DT
abbrev Mx:=Nat->Nat->Rat
def sm:Nat->(Nat->Rat)->Rat
 | 0,_=>0
 | n+1,f=>sm n f+f n
def sg (n:Nat):Rat:=if n % 2=0 then 1 else -1
def cl (M:Mx) (a:Nat) (u:Nat->Rat):Mx:=fun r c=>if c=a then u r else M r c
end DT
namespace L2
open PySem PySem.Spec PyProof.Rows
theorem best_max (val:Nat->Int):∀ k,argBest (fun i j=>decide (val i > val j)) k<=k/\∀ i,i<=k->val i<=val (argBest (fun i j=>decide (val i > val j)) k)
 | 0 => ⟨Nat.le_refl _, fun i h => by have : i = 0 := by omega
                                      subst this; exact Int.le_refl _⟩
 | k+1=>by
  obtain⟨h1,h2⟩:=best_max val k
  unfold argBest
  by_cases h:val (k+1) > val (argBest (fun i j=>decide (val i > val j)) k)
  ·rw [if_pos (decide_eq_true h)]
   refine⟨Nat.le_refl _,fun i hi=>?_⟩
   by_cases e:i=k+1
   ·subst e; exact Int.le_refl _
   ·have:=h2 i (by omega); omega
  ·rw [if_neg (by simpa using h)]
   refine⟨by omega,fun i hi=>?_⟩
   by_cases e:i=k+1
   ·subst e; omega
   ·exact h2 i (by omega)
theorem vals_get:∀ {ns:List Int} {vs:List Value} {i:Nat} {v:Value},Vals (ns.map V.int) vs->vs[i]?=some v->∃ t,v=.int (ns.getD i 0) t
 | [],_,i,v,.nil,h=>by simp at h
 | n::ns,_,0,v,.cons r _,h=>by
  obtain⟨t,e⟩:=r
  simp at h
  exact⟨t,by rw [<- h,e]; rfl⟩
 | n::ns,u::us,i+1,v,.cons _ t,h=>by
  have h:us[i]?=some v:=by simpa using h
  obtain⟨t',e⟩:=vals_get t h
  exact⟨t',by rw [e]; rfl⟩
section
variable {X:Cx}
theorem fin_walk {pins:List (Addr×Obj)} {σ:St} {H:Hp} {s:Shared} {a:Addr} {Q:VK} {nm:String} (I:Inv X pins σ H s) {v:V} {u:Value} (r:RelV v u) (q:Q v H) (h':Heap) (tk:Nat)
  (kk:∀ c o,c∉[s.heap.objs.size]->(s.heap.push {cls:=.type nm,data:=.fields #[.ref a,.int 0 0]}).get? c=some o->h'.get? c=some o):EP X pins σ Q u {s with heap:=h',toks:=tk}:=by
 have I1:Inv X pins σ H {s with heap:=s.heap.push {cls:=.type nm,data:=.fields #[.ref a,.int 0 0]}}:=I.kept (t':=s.toks) fun c o e=>Heap.get?_push_of_some _ e
 refine⟨v,H,Inv.turnedL (s:={s with heap:=s.heap.push {cls:=.type nm,data:=.fields #[.ref a,.int 0 0]}}) (t':=tk) [s.heap.objs.size] I1 kk (fun c hc=>?_),r,q⟩
 have e:c=s.heap.objs.size:=by simpa using hc
 subst e
 exact I.fpOk (Nat.le_refl _) (I.hok.fresh (Nat.le_refl _))
theorem fp_lt {s:Shared} {a:Addr} {o:Obj} (hlt:a < s.heap.objs.size) (ho:o.isFreed=false:=by rfl):∀ b∈[s.heap.objs.size,a],b < (s.heap.push o).objs.size:=fun b hb=>by
 have hz:s.heap.objs.size < (s.heap.push o).objs.size:=Heap.lt_size (Heap.get?_push_size _ ho)
 simp only [List.mem_cons,List.not_mem_nil,or_false] at hb
 rcases hb with e | e
 ·rw [e]; exact hz
 ·rw [e]; exact Nat.lt_trans hlt hz
end
end L2
namespace DL
open PySem PySem.Spec PyProof.Rows L2
def FailsS (cells:List (Addr×Obj)) (P:Program) (w:World) (K:Fg) (mg:Str->Option Value) (base:Heap) (m:Nat) (g C:Addr) (H:Hp) (S:DH):Prop:=
 Hs K H S->Fails cells P w K mg base m g H fun c _ H'=>c=.ref C/\Kp H H'/\∃ S',Hs K H' S'/\ExtD S S'
section
variable {X:Cx} {pos:Pos}
def dTryH (cells:List (Addr×Obj)) (P:Program) (w:World) (K:Fg) (mg:Str->Option Value) (base:Heap) (m:Nat) (cv:Value) (j i:Nat) (t:DS):DS:=fun M L S=>∃ g C φ,L[j]?=some (some (.ref g))/\S g=some (.fn φ)/\(∀ H,φ H->FailsS cells P w K mg base m g C H S)/\
 PySem.W.exmOne K (.ref C) cv=some true/\∀ ea S',ExtD S S'->S' ea=none->t {nx:=fun L S=>M.nx (L.set i none) S,rt:=M.rt,bk:=fun L S=>M.bk (L.set i none) S,ct:=fun L S=>M.ct (L.set i none) S} (L.set i (some (.ref ea))) (put S' ea (.exc C))
theorem dst_tryHj {x Cn n:Str} {cv:Value} {xp cp ep p1 hp:Pos} {b0:Stmt} {suite:List Stmt} {j i m:Nat} {t:DS} {cells:List (Addr×Obj)} (hce:Cells cells X.outer X.H₀ X.s₀.heap) (hr:Room m X.A) (hd:X.calm=true->X.A.handled=none) (hex:X.ex=[]) (hst:X.stack=X.env::X.outer) (hf:X.env.frame=some X.env.locals) (hx:X.N[j]?=some x) (hv:Vis X.env.scope x)
  (hg:Gl X Cn) (hm:X.mg Cn=some cv) (hN:X.N.Nodup) (hi:X.N[i]?=some n) (hl:X.env.kindOf n=some .local) (hs:∀ v,SsJ (X.marked v NoE) (b0::suite) t)
  (hdb:(Cn == ("__debug__":Str))=false:=by decide) (hdx:(x == ("__debug__":Str))=false:=by decide) (hcx:(x == ("__classdict__":Str))=false:=by decide) (hsw:swapsWith (.Call (.Name x xp) [] [] cp) none ep.line X.env=pure false:=by rfl):
  SJ X (.Try [.Expr (.Call (.Name x xp) [] [] cp) ep] [.ExceptHandler (some (.Name Cn p1)) (some n) (b0::suite) hp] [] [] pos) (dTryH cells X.prog X.w X.K X.mg X.base m cv j i t):=
 ⟨PS.imp (ps_try (t:=upS X.K t) hce hr hd hex hst hf hx hv hg hm hN hi hl (fun v=>(hs v).h) hdb hdx hcx hsw) fun N σ H ⟨L,S,M,hL,hS,h,r⟩=>by
  obtain⟨g,C,φ,e,z,hφ,hc,k⟩:=h
  obtain⟨v,e1,e2⟩:=hL.get e
  have e3:=isRef.mp e2
  subst e3
  obtain⟨_,af⟩:=hS _ _ z
  refine⟨g,_,e1,hφ H (af H (Kp.refl H)) hS,?_,?_⟩
  ·rintro c H' ⟨rfl,_⟩
   exact hc
  ·rintro ea c H' o ⟨rfl,kp,S',hS',ex⟩ hn ho
   have k2:Kp H (upd H' ea (.frz o (.ext fun _=>True))):=kp.trans (Kp.new hn)
   have r2:=r.kp k2
   refine⟨_,_,_,(hL.kp k2).set (isRef.mpr rfl) i,hS'.newX hn ho,k ea S' ex (hS'.free hn),?_⟩
   exact⟨fun L3 S3 σ3 H3 q3 k3 hL3 hS3=>r2.nx _ _ _ _ q3 k3 (hL3.unset i) hS3,r2.rt,fun L3 S3 σ3 H3 q3 k3 hL3 hS3=>r2.bk _ _ _ _ q3 k3 (hL3.unset i) hS3,fun L3 S3 σ3 H3 q3 k3 hL3 hS3=>r2.ct _ _ _ _ q3 k3 (hL3.unset i) hS3⟩⟩
end
section
variable {P:Program} {w:World} {K:Fg} {mg:Str->Option Value} {base:Heap} {N:List Str} {qual:Str} {scope:Scope} {clos:List (Str×Addr)} {g:Addr} {cd:Value} {A:Around} {outer:List Env} {s:Shared} {H:Hp} {ex:Addr->DH->Prop}
theorem lamHS {cells:List (Addr×Obj)} {params:Arguments} {body:Expr} {n:Nat} {C:Addr} {σ0:L2.St} {L0:Lo} {gb:(Addr->DH->Prop)->DE} {S:DH} (hl:IsLam qual params body scope clos g H) (Sc:LamSc scope clos N) (hbind:∀ pm cv ctv,bindArgs (PySem.W.kla_fn "<lambda>" qual params body scope clos pm cv ctv) ⟨[],[]⟩=pure [])
  (hcl:∀ p∈clos,∃ o v,(p.2,o)∈cells/\o.data=.cell v) (hcap:∀ (i:Nat) (x:Str) (v:V),N[i]?=some x->σ0[i]?=some (some v)->∃ c o u,clos.lookup x=some c/\(c,o)∈cells/\o.data=.cell (some u)/\RelV v u) (hlen:σ0.length=N.length) (hL:Lc K H L0 σ0)
  (hb:∀ (ex:Addr->DH->Prop) (A:Around) (outer:List Env) (s:Shared) (cv:Value),Room n (A.deeper (PySem.W.envX qual scope s.heap.objs.size g cv clos))->EJ (cxL P w K mg base N qual scope clos g cv A outer s H (exE K ex)) body (gb ex))
  (hra:gb (fun C' S'=>C'=C/\ExtD S S') L0 S fun _ _=>False):FailsS cells P w K mg base (n+1) g C H S:=by
 intro hS
 obtain⟨o,u,cv,pm,ctv,q1,q2,q3⟩:=id hl
 refine⟨⟨o,u,_,q1,q2⟩,fun A outer s hr e0 hc=>?_⟩
 refine codeAny_mono (lam_run (E:=exE K fun C' S'=>C'=C/\ExtD S S') (t:=up K (gb fun C' S'=>C'=C/\ExtD S S')) (n:=n) hl Sc hbind hr e0 hc hcl hcap hlen (fun cv=>(hb _ A outer s cv (hr.deeper _)).h) ⟨L0,S,_,hL,hS,hra,fun _ _ _ _ z=>z.elim⟩) fun r s' z=>?_
 cases r with
 | ok fl=>
  cases fl with
  | ret u=>obtain⟨_,_,_,_,_,_,_,q⟩:=z; exact q.elim
  | next=>exact z.elim
  | brk=>exact z.elim
  | cont=>exact z.elim
 | error e=>
  show CXE P w outer H s (fun c _ H'=>c=.ref C/\Kp H H'/\∃ S',Hs K H' S'/\ExtD S S') e s'
  refine CXE.mono (cxe_kp (show CXE P w outer H s (exE K fun C' S'=>C'=C/\ExtD S S') e s' from z)) fun c H' q=>?_
  obtain⟨⟨C',S',e1,⟨e2,e3⟩,hs⟩,kp⟩:=q
  subst e2
  exact⟨e1,kp,S',hs,e3⟩
end
def FrefH (cls:List (Nat×Addr)) (m:Nat) (P:Program) (w:World) (K:Fg) (mg:Str->Option Value) (base:Heap) (cells:List (Addr×Obj)):DSp:=fun ds S k=>
 ∃ g φ j C,ds=[.ref g]/\S g=some (.fn φ)/\(∀ H,φ H->FailsS cells P w K mg base m g C H S)/\(j,C)∈cls/\∀ p S',ExtD S S'->S' p=none->k (.ref p) (put S' p (.lst [.int (j:Nat)]))
def RefQH (cls:List (Nat×Addr)) (qual:Str) (params:Arguments) (body:Expr) (scope:Scope) (clos:List (Str×Addr)) (cap:List (Option Nat)) (gb:(Addr->DH->Prop)->DE) (L:Lo) (k:DK) (d:D) (S1:DH):Prop:=∃ (g:Addr) (j:Nat) (C:Addr),d=.ref g/\S1 g=some (.fn (IsLam qual params body scope clos g))/\
 (j,C)∈cls/\(∀ S,(∀ b o,b≠g->S1 b=some o->S b=some o)->gb (fun C' S'=>C'=C/\ExtD S S') (capL cap L) S fun _ _=>False)/\∀ p S',ExtD S1 S'->S' p=none->k (.ref p) (put S' p (.lst [.int (j:Nat)]))
def dRefH (cls:List (Nat×Addr)) (qual:Str) (params:Arguments) (body:Expr) (scope:Scope) (clos:List (Str×Addr)) (cap:List (Option Nat)) (gb:(Addr->DH->Prop)->DE) (ge:DE):DE:=fun L S k=>ge L S fun d S1=>RefQH cls qual params body scope clos cap gb L k d S1
section
variable {X:Cx} {qual:Str} {params:Arguments} {body:Expr} {scope:Scope} {clos:List (Str×Addr)} {p pos:Pos}
theorem d_refHj {x:Str} {n m:Nat} {e:Expr} {ge:DE} {cls:List (Nat×Addr)} {N:List Str} {cap:List (Option Nat)} {gb:(Addr->DH->Prop)->DE} (c:OwnR X.prog X.w X.K X.mg X.base x n (FrefH cls (m+1) X.prog X.w X.K X.mg X.base)) (hr:Room n X.A) (hg:Gl X x)
  (Lc0:LamCap X scope clos N cap) (hbind:∀ pm cv ctv,bindArgs (PySem.W.kla_fn "<lambda>" qual params body scope clos pm cv ctv) ⟨[],[]⟩=pure [])
  (hb:∀ (g:Addr) (H:Hp) (ex:Addr->DH->Prop) (A:Around) (outer:List Env) (s:Shared) (cv:Value),Room m (A.deeper (PySem.W.envX qual scope s.heap.objs.size g cv clos))->EJ (cxL X.prog X.w X.K X.mg X.base N qual scope clos g cv A outer s H (exE X.K ex)) body (gb ex))
  (he:EJ X e ge) (hmono:Mono ge) (hdb:(x == ("__debug__":Str))=false:=by decide) (hst:starEach [e] X.env=[(false,eval e X.env)]:=by rfl) (hpl:(backTo pos (starEach [] X.env)).any (·.1)=false:=by rfl):
  EJ X (.Call (.Name x p) [e] [] pos) (dRefH cls qual params body scope clos cap gb ge):=by
 obtain⟨f,fd,ps,F1,hm,hk,hbd⟩:=c.ex
 refine⟨fun pins s σ H Q I h=>?_⟩
 obtain⟨L,S,k,hL,hS,h,nn⟩:=h
 have ha:PA X [e] (upA X.K (dCons ge dNil)):=(da_consj he da_nilj hst).h
 have h2:upA X.K (dCons ge dNil) σ H fun vs H1=>∃ d S1,IsDs X.K H1 [d] vs/\Kp H H1/\Lc X.K H1 L σ/\Hs X.K H1 S1/\RefQH cls qual params body scope clos cap gb L k d S1:=by
  refine⟨L,S,fun ds S1=>∃ d,ds=[d]/\RefQH cls qual params body scope clos cap gb L k d S1,hL,hS,?_,?_⟩
  ·exact hmono L S _ _ (fun d S1 q=>⟨d,rfl,q⟩) h
  ·rintro ds S1 vs H1 ⟨d,rfl,q⟩ k1 hS1 i1
   exact⟨d,S1,i1,k1,hL.kp k1,hS1,q⟩
 refine wpAny_Call_Name_kw (ld_glob I hg hm ?_ hdb)
 refine PySem.W.callWith_K (h₀:=X.base) I.ok.mod.kin hk (thn (ha pos pins s σ H _ I h2) fun us s1 ⟨vs,H1,I1,r,q⟩=>⟨I1.kIn,?_⟩) hst hpl
 obtain⟨d,S1,i1,k1,hL1,hS1,g,j,C,rfl,hg1,hj,hra,kk⟩:=q
 obtain⟨⟨og,ug,hog⟩,hφ⟩:=hS1 _ _ hg1
 have LS:=Lc0.sc fun x y c e1 e2=>I1.ok.inj x y c (Lc0.sub _ (PySem.mem_of_lookup e1)) (Lc0.sub _ (PySem.mem_of_lookup e2))
 have cel:∀ p∈clos,∃ o v,s1.heap.get? p.2=some o/\o.data=.cell v:=fun p hp=>by
  obtain⟨v,o,q1,q2⟩:=I1.cell p.1 p.2 (Lc0.sub p hp)
  exact⟨o,v,q1,q2⟩
 let cells:List (Addr×Obj):=clos.filterMap fun p=>(s1.heap.get? p.2).map fun o=>(p.2,o)
 have inC:∀ p∈clos,∀ o,s1.heap.get? p.2=some o->(p.2,o)∈cells:=fun p hp o e=>List.mem_filterMap.mpr ⟨p,hp,by rw [e]; rfl⟩
 have hce:Cells cells X.stack H1 s1.heap:=fun q hq=>by
  obtain⟨p,hp,e⟩:=List.mem_filterMap.mp hq
  obtain⟨o,v,e1,e2⟩:=cel p hp
  rw [e1] at e
  cases e
  refine⟨e1,I1.freeC p.1 p.2 (Lc0.sub p hp),fun z=>?_⟩
  rcases List.mem_cons.mp (I1.stkSub p.2 z) with z | z
  ·exact I1.cne p.1 p.2 (Lc0.sub p hp) z
  ·obtain⟨_,o2,e3,_⟩:=I1.ok.funs.mem z
   exact absurd (Nat.lt_of_lt_of_le (Heap.lt_size e3) (I1.ok.cab p.1 p.2 (Lc0.fn p hp) (Lc0.sub p hp))) (Nat.lt_irrefl _)
 have hcl:∀ p∈clos,∃ o v,(p.2,o)∈cells/\o.data=.cell v:=fun p hp=>by
  obtain⟨o,v,e1,e2⟩:=cel p hp
  exact⟨o,v,inC p hp o e1,e2⟩
 have hcap:∀ (i:Nat) (x:Str) (v:V),N[i]?=some x->(capSt cap σ)[i]?=some (some v)->∃ c o u,clos.lookup x=some c/\(c,o)∈cells/\o.data=.cell (some u)/\RelV v u:=fun i x v e1 e2=>by
  obtain⟨j,c1,c2⟩:=capSt_get e2
  obtain⟨d1,d2⟩:=Lc0.caps i j x c1 e1
  obtain⟨m0,_,l0⟩:=I1.loc
  obtain⟨u,ru,lk⟩:=l0 j x v d1 c2 (d2.elim (fun z=>.inr (.inl z)) fun z=>.inr (.inr z))
  rcases lk with ⟨z,_⟩ | ⟨_,c,z1,o,z2,z3⟩
  ·have z:X.env.scope.names.lookup x=some .local:=z
   rcases d2 with q | q <;> (rw [q] at z; cases z)
  ·obtain⟨c',q⟩:=LS.has x (LS.free x (List.mem_of_getElem? e1))
   have q2:=Lc0.sub _ (PySem.mem_of_lookup q)
   have q2:X.env.cells.lookup x=some c':=q2
   rw [z1] at q2
   cases q2
   exact⟨c,o,u,q,inC (x,c) (PySem.mem_of_lookup q) o z2,z3,ru⟩
 have hlen:(capSt cap σ).length=N.length:=by unfold capSt; rw [List.length_map]; exact Lc0.len
 have hL0:Lc X.K H1 (capL cap L) (capSt cap σ):=hL1.cap cap
 let φ':Hp->Prop:=fun H'=>IsLam qual params body scope clos g H'/\Lc X.K H' (capL cap L) (capSt cap σ)
 have kf:∀ {H2 H3:Hp},Kp H2 H3->∀ b o u,H2 b=some (.frz o u)->H3 b=some (.frz o u):=fun k2 b o u e=>k2 _ _ e trivial
 have hS2:Hs X.K H1 (put S1 g (.fn φ')):=fun a o e=>by
  by_cases y:a=g
  ·subst y
   rw [put_same] at e
   cases e
   exact⟨⟨og,ug,hog⟩,fun H2 k2=>⟨(hφ H2 k2),hL0.kp k2⟩⟩
  ·rw [put_ne y] at e
   exact hS1 a o e
 have hsp:spU X.K (FrefH cls (m+1) X.prog X.w X.K X.mg X.base cells) vs H1 Q E0:=by
  refine⟨[.ref g],put S1 g (.fn φ'),fun d' S'=>∃ p S0,d'=.ref p/\S'=put S0 p (.lst [.int (j:Nat)])/\ExtD (put S1 g (.fn φ')) S0/\S0 p=none,i1,hS2,⟨g,φ',j,C,rfl,put_same,fun H2 z=>?_,hj,fun p S' e1 e2=>⟨p,S',rfl,rfl,e1,e2⟩⟩,?_⟩
  ·exact lamHS z.1 LS hbind hcl hcap hlen z.2 (fun ex A outer s cv hr=>hb g H2 ex A outer s cv hr) (hra _ fun b o y e=>by rw [put_ne y]; exact e)
  ·rintro d' S' v H' ⟨p,S0,rfl,rfl,e1,e2⟩ k2 hs' i'
   have eg:S0 g=some (.fn φ'):=e1 g _ put_same
   have pg:p≠g:=fun z=>by rw [z,eg] at e2; cases e2
   have k3:=k1.trans k2
   refine nn _ _ _ _ (kk p (put S0 g (.fn (IsLam qual params body scope clos g))) (fun b o e=>?_) (by rw [put_ne pg]; exact e2)) k3 (fun a o e=>?_) i'
   ·by_cases y:b=g
    ·subst y; rw [hg1] at e; cases e; exact put_same
    ·rw [put_ne y]; exact e1 b o (by rw [put_ne y]; exact e)
   ·by_cases y:a=p
    ·subst y
     rw [put_same] at e
     cases e
     exact hs' a _ put_same
    ·rw [put_ne y] at e
     by_cases y2:a=g
     ·subst y2
      rw [put_same] at e
      cases e
      exact⟨⟨og,ug,kf k2 _ _ _ hog⟩,fun H2 k4=>hφ H2 (k2.trans k4)⟩
     ·rw [put_ne y2] at e
      exact hs' a o (by rw [put_ne y]; exact e)
 have hl:us.length=ps.length:=by rw [<- r.length]; exact(F1 cells).len _ _ _ _ hsp
 have hbs:=hbd s1 us I1.kIn (by rw [List.append_nil]; exact hl)
 rw [List.append_nil] at hbs
 refine wpAny_call (codeAny_mono ((F1 cells).run X.A X.stack s1 H1 ⟨us,[]⟩ us vs Q E0 hr I1.env0 hce hbs r hsp) fun r s' hq=>?_)
 cases r with
 | error e=>exact(pass0 pins σ H1 s1 e s' I1 hq)
 | ok fl=>
  cases fl with
  | ret u=>exact I1.after hq
  | next=>exact False.elim hq
  | brk=>exact False.elim hq
  | cont=>exact False.elim hq
end
theorem d_refLHj {X:Cx} {params:Arguments} {body:Expr} {scope:Scope} {clos:List (Str×Addr)} {p pos lpos:Pos} {x:Str} {n m:Nat} {cls:List (Nat×Addr)} {N:List Str} {cap:List (Option Nat)} {gb:(Addr->DH->Prop)->DE} {c P:Addr} (hcl:closureFor scope X.env=pure clos) (hdef:defaultsOf params X.env=([],[]))
  (c0:OwnR X.prog X.w X.K X.mg X.base x n (FrefH cls (m+1) X.prog X.w X.K X.mg X.base)) (hr:Room n X.A) (hg:Gl X x) (hC:PySem.W.CodeHd X.base c P) (hbl:BltB X.mg X.base) (hcode:X.env.code=.ref c)
  (Lc0:LamCap X scope clos N cap) (hbind:∀ pm cv ctv,bindArgs (PySem.W.kla_fn "<lambda>" (X.env.qual++"<lambda>") params body scope clos pm cv ctv) ⟨[],[]⟩=pure [])
  (hb:∀ (g:Addr) (H:Hp) (ex:Addr->DH->Prop) (A:Around) (outer:List Env) (s:Shared) (cv:Value),Room m (A.deeper (PySem.W.envX (X.env.qual++"<lambda>") scope s.heap.objs.size g cv clos))->EJ (cxL X.prog X.w X.K X.mg X.base N (X.env.qual++"<lambda>") scope clos g cv A outer s H (exE X.K ex)) body (gb ex))
  (hdb:(x == ("__debug__":Str))=false:=by decide) (hst:starEach [.Lambda params body scope lpos] X.env=[(false,eval (.Lambda params body scope lpos) X.env)]:=by rfl) (hpl:(backTo pos (starEach [] X.env)).any (·.1)=false:=by rfl):
  EJ X (.Call (.Name x p) [.Lambda params body scope lpos] [] pos) (dRefH cls (X.env.qual++"<lambda>") params body scope clos cap gb (dLam P (X.env.qual++"<lambda>") params body scope clos)):=
 d_refHj c0 hr hg Lc0 hbind hb (d_lamj hC hbl hcode hdef hcl) mono_lam hdb hst hpl
end DL
namespace PySem
open Sem (wp)
open Builtin DL
section
variable {prog:Program} {w:World}
def kiO (c:String) (d:Addr) (i n ep:Nat):Obj:={cls:=.type c,dict:=none,data:=.fields #[.ref d,.int i 0,.int n 0,.int ep 0],slots:=#[]}
theorem kiN (it d:Addr) (es:Array DictEntry) (i ep:Nat) (e:DictEntry) (hx:es[i]?=some e):
  MeetsIn prog w (Builtin.«dict_keyiterator.__next__» ⟨[.ref it],[]⟩) (fun _ R s=>s.heap.get? it=some (kiO "dict_keyiterator" d i es.size ep)/\s.heap.get? d=some (dxO es ep)/\
   R (.ok (.ret e.key)) {s with heap:=s.heap.update it (Obj.mapFields (·.setIfInBounds 1 (rawInt ((i:Int)+1))))}):=
 .of_wp fun A R s h=>by
  obtain⟨hp,g,dr,tk,os⟩:=s
  obtain⟨h1,h2,h⟩:=h
  wp_walk
  have z:(if (i:Int) < 0 then none else es[(i:Int).toNat]?)=some e:=by
   rw [if_neg (by omega),Int.toNat_natCast]; exact hx
  rw [z]
  wp_walk
  exact⟨_,rfl,h⟩
theorem ext_ub {h:Heap} {it:Addr} (f:Obj->Obj) (o o':Obj):Heap.ExtBut it h (((h.update it f).push o).push o'):=fun b u nb e=>
 Heap.get?_push_of_some _ (Heap.get?_push_of_some _ ((Heap.get?_update_other _ _ (Ne.symm nb)).trans e))
theorem kiE (it d:Addr) (es:Array DictEntry) (i ep:Nat) (hx:es[i]?=none):
  MeetsIn prog w (Builtin.«dict_keyiterator.__next__» ⟨[.ref it],[]⟩) (fun A R s=>A.handled=none/\s.heap.get? it=some (kiO "dict_keyiterator" d i es.size ep)/\s.heap.get? d=some (dxO es ep)/\
   (∀ h' e,Heap.ExtBut it s.heap h'->(∃ o,h'.get? e=some o/\o.cls=.type "StopIteration")->R (.error (.ref e)) {s with heap:=h'})):=
 .of_wp fun A R s h=>by
  obtain⟨hp,g,dr,tk,os⟩:=s
  obtain⟨h0,h1,h2,h⟩:=h
  wp_walk
  have z:(if (i:Int) < 0 then none else es[(i:Int).toNat]?)=none:=by
   rw [if_neg (by omega),Int.toNat_natCast]; exact hx
  rw [z]
  wp_walk
  unfold raiseNew
  refine wpAny_bind (wpAny_handled ?_)
  rw [show A.in1.handled=none from h0]
  exact wpAny_bind (wpAny_pure (wpAny_throw (h _ _ (ext_ub _ _ _) ⟨_,Heap.get?_push_size _ rfl,rfl⟩)))
theorem iiI (v d:Addr) (es:Array DictEntry) (ep:Nat):
  MeetsIn prog w (Builtin.«dict_items.__iter__» ⟨[.ref v],[]⟩) (fun _ R s=>s.heap.get? v=some {cls:=.type "dict_items",data:=.fields #[.ref d]}/\s.heap.get? d=some (dxO es ep)/\
   R (.ok (.ret (.ref s.heap.objs.size))) {s with heap:=s.heap.push {cls:=.type "dict_itemiterator",data:=.fields #[.none,.bool false,.ref d,.int 0 0,.int es.size 0,.int ep 0,.none,.none]}}):=
 .of_wp fun A R s h=>by
  obtain⟨hp,g,dr,tk,os⟩:=s
  obtain⟨h1,h2,h⟩:=h
  wp_walk
  exact⟨_,rfl,h⟩
def iiO (x d:Value) (i n ep:Nat) (ok ov:Value):Obj:={cls:=.type "dict_itemiterator",dict:=none,data:=.fields #[x,.bool false,d,.int i 0,.int n 0,.int ep 0,ok,ov],slots:=#[]}
theorem iiN (it d:Addr) (es:Array DictEntry) (i ep:Nat) (e:DictEntry) (ok ov:Value) (hx:es[i]?=some e):
  MeetsIn prog w (Builtin.«dict_itemiterator.__next__» ⟨[.ref it],[]⟩) (fun _ R s=>s.heap.get? it=some (iiO .none (.ref d) i es.size ep ok ov)/\s.heap.get? d=some (dxO es ep)/\
   ∀ h',h'.get? it=some (iiO (rawInt s.heap.objs.size) (.ref d) (i+1) es.size ep e.key e.val)->h'.get? s.heap.objs.size=some {cls:=.type "tuple",data:=.seq #[e.key,e.val]}->
    (∀ b o,b≠it->s.heap.get? b=some o->h'.get? b=some o)->R (.ok (.ret (.ref s.heap.objs.size))) {s with heap:=h'}):=
 .of_wp fun A R s h=>by
  obtain⟨hp,g,dr,tk,os⟩:=s
  obtain⟨h1,h2,h⟩:=h
  have lt:it < hp.objs.size:=Heap.lt_size h1
  wp_walk
  have z:(if (i:Int) < 0 then none else es[(i:Int).toNat]?)=some e:=by
   rw [if_neg (by omega),Int.toNat_natCast]; exact hx
  rw [z]
  have T0:Shared.TypeIs ⟨hp,g,dr,tk,os⟩ (.ref it) "dict_itemiterator":=⟨_,h1,rfl⟩
  refine wpAny_bind (wpAny_bind (wpAny_typeNameOfWhole_itemiter T0 (wpAny_pure (wpAny_bind (wpAny_isOneOf_itemiter T0 ?_)))))
  refine wpAny_bind (m:=setField (.ref it) 3 (rawInt ((i:Int)+1))) (wpAny_setField_rec h1 (by simp) fun k1 a1 b1=>?_)
  have a2:k1.get? it=some (iiO .none (.ref d) (i+1) es.size ep ok ov):=a1
  have T1:Shared.TypeIs ⟨k1,g,dr,tk,os⟩ (.ref it) "dict_itemiterator":=⟨_,a2,rfl⟩
  refine wpAny_bind (wpAny_holding (wpAny_bind (wpAny_isOneOf_itemiter T1 (wpAny_bind (wpAny_isOneOf_itemiter T1 ?_)))))
  refine wpAny_bind (m:=newTuple [e.key,e.val]) (wpAny_newTuple ?_)
  have sz:k1.objs.size=hp.objs.size:=b1.1
  generalize q2:k1.push {cls:=.type "tuple",data:=.seq #[e.key,e.val]}=k2
  have a3:k2.get? it=some (iiO .none (.ref d) (i+1) es.size ep ok ov):=by rw [<- q2]; exact Heap.get?_push_of_some _ a2
  have t3:k2.get? hp.objs.size=some {cls:=.type "tuple",data:=.seq #[e.key,e.val]}:=by rw [<- q2,<- sz]; exact Heap.get?_push_size _ rfl
  have o3:∀ b o,b≠it->hp.get? b=some o->k2.get? b=some o:=fun b o nb x=>by rw [<- q2]; exact Heap.get?_push_of_some _ (b1.extBut b o nb x)
  rw [sz]
  refine wpAny_bind (wpAny_bind (wpAny_field a3 rfl (x:=.none) rfl (wpAny_pure ?_)))
  refine wpAny_bind (wpAny_field a3 rfl (x:=ok) rfl (wpAny_bind (wpAny_field a3 rfl (x:=ov) rfl ?_)))
  refine wpAny_bind (wpAny_setField_rec a3 (by simp) fun k3 a4 b4=>wpAny_bind (wpAny_setField_rec a4 (by simp) fun k4 a5 b5=>wpAny_bind (wpAny_setField_rec a5 (by simp) fun k5 a6 b6=>wpAny_bind (wpAny_setField_rec a6 (by simp) fun k6 a7 b7=>?_))))
  have far:∀ b o,b≠it->k2.get? b=some o->k6.get? b=some o:=fun b o nb x=>b7.extBut b o nb (b6.extBut b o nb (b5.extBut b o nb (b4.extBut b o nb x)))
  exact wpAny_bind (wpAny_letGo (wpAny_pure (wpAny_pure ⟨_,rfl,h k6 a7 (far _ _ (Nat.ne_of_gt lt) t3) fun b o nb x=>far b o nb (o3 b o nb x)⟩)))
theorem viN (it d:Addr) (es:Array DictEntry) (i ep:Nat) (e:DictEntry) (hx:es[i]?=some e):
  MeetsIn prog w (Builtin.«dict_valueiterator.__next__» ⟨[.ref it],[]⟩) (fun _ R s=>s.heap.get? it=some (kiO "dict_valueiterator" d i es.size ep)/\s.heap.get? d=some (dxO es ep)/\
   R (.ok (.ret e.val)) {s with heap:=s.heap.update it (Obj.mapFields (·.setIfInBounds 1 (rawInt ((i:Int)+1))))}):=
 .of_wp fun A R s h=>by
  obtain⟨hp,g,dr,tk,os⟩:=s
  obtain⟨h1,h2,h⟩:=h
  wp_walk
  have z:(if (i:Int) < 0 then none else es[(i:Int).toNat]?)=some e:=by
   rw [if_neg (by omega),Int.toNat_natCast]; exact hx
  rw [z]
  wp_walk
  exact⟨_,rfl,h⟩
theorem viE (it d:Addr) (es:Array DictEntry) (i ep:Nat) (hx:es[i]?=none):
  MeetsIn prog w (Builtin.«dict_valueiterator.__next__» ⟨[.ref it],[]⟩) (fun A R s=>A.handled=none/\s.heap.get? it=some (kiO "dict_valueiterator" d i es.size ep)/\s.heap.get? d=some (dxO es ep)/\
   (∀ h' e,Heap.ExtBut it s.heap h'->(∃ o,h'.get? e=some o/\o.cls=.type "StopIteration")->R (.error (.ref e)) {s with heap:=h'})):=
 .of_wp fun A R s h=>by
  obtain⟨hp,g,dr,tk,os⟩:=s
  obtain⟨h0,h1,h2,h⟩:=h
  wp_walk
  have z:(if (i:Int) < 0 then none else es[(i:Int).toNat]?)=none:=by
   rw [if_neg (by omega),Int.toNat_natCast]; exact hx
  rw [z]
  wp_walk
  unfold raiseNew
  refine wpAny_bind (wpAny_handled ?_)
  rw [show A.in1.handled=none from h0]
  exact wpAny_bind (wpAny_pure (wpAny_throw (h _ _ (ext_ub _ _ _) ⟨_,Heap.get?_push_size _ rfl,rfl⟩)))
theorem iiE (it d:Addr) (es:Array DictEntry) (i ep:Nat) (ok ov:Value) (hx:es[i]?=none):
  MeetsIn prog w (Builtin.«dict_itemiterator.__next__» ⟨[.ref it],[]⟩) (fun A R s=>A.handled=none/\s.heap.get? it=some (iiO .none (.ref d) i es.size ep ok ov)/\s.heap.get? d=some (dxO es ep)/\
   (∀ h' e,Heap.ExtBut it s.heap h'->(∃ o,h'.get? e=some o/\o.cls=.type "StopIteration")->R (.error (.ref e)) {s with heap:=h'})):=
 .of_wp fun A R s h=>by
  obtain⟨hp,g,dr,tk,os⟩:=s
  obtain⟨h0,h1,h2,h⟩:=h
  wp_walk
  have z:(if (i:Int) < 0 then none else es[(i:Int).toNat]?)=none:=by
   rw [if_neg (by omega),Int.toNat_natCast]; exact hx
  rw [z]
  wp_walk
  unfold raiseNew
  refine wpAny_bind (wpAny_handled ?_)
  rw [show A.in1.handled=none from h0]
  exact wpAny_bind (wpAny_pure (wpAny_throw (h _ _ (ext_ub _ _ _) ⟨_,Heap.get?_push_size _ rfl,rfl⟩)))
theorem diI (d:Addr) (es:Array DictEntry) (ep:Nat) (hd:(d == sysModules)=false):
  MeetsIn prog w (Builtin.«dict.__iter__» ⟨[.ref d],[]⟩) (fun _ R s=>s.heap.get? d=some (dxO es ep)/\R (.ok (.ret (.ref s.heap.objs.size))) {s with heap:=s.heap.push (kiO "dict_keyiterator" d 0 es.size ep)}):=
 .of_wp fun A R s h=>by
  obtain⟨hp,g,dr,tk,os⟩:=s
  obtain⟨h2,h⟩:=h
  wp_walk
  exact⟨_,rfl,h⟩
theorem diV (d:Addr) (es:Array DictEntry) (ep:Nat) (hd:(d == sysModules)=false):
  MeetsIn prog w (Builtin.«dict.values» ⟨[.ref d],[]⟩) (fun _ R s=>s.heap.get? d=some (dxO es ep)/\R (.ok (.ret (.ref s.heap.objs.size))) {s with heap:=s.heap.push {cls:=.type "dict_values",data:=.fields #[.ref d]}}):=
 .of_wp fun A R s h=>by
  obtain⟨hp,g,dr,tk,os⟩:=s
  obtain⟨h2,h⟩:=h
  wp_walk
  exact⟨_,rfl,h⟩
theorem diT (d:Addr) (es:Array DictEntry) (ep:Nat) (hd:(d == sysModules)=false):
  MeetsIn prog w (Builtin.«dict.items» ⟨[.ref d],[]⟩) (fun _ R s=>s.heap.get? d=some (dxO es ep)/\R (.ok (.ret (.ref s.heap.objs.size))) {s with heap:=s.heap.push {cls:=.type "dict_items",data:=.fields #[.ref d]}}):=
 .of_wp fun A R s h=>by
  obtain⟨hp,g,dr,tk,os⟩:=s
  obtain⟨h2,h⟩:=h
  wp_walk
  exact⟨_,rfl,h⟩
theorem viI (v d:Addr) (es:Array DictEntry) (ep:Nat):
  MeetsIn prog w (Builtin.«dict_values.__iter__» ⟨[.ref v],[]⟩) (fun _ R s=>s.heap.get? v=some {cls:=.type "dict_values",data:=.fields #[.ref d]}/\s.heap.get? d=some (dxO es ep)/\
   R (.ok (.ret (.ref s.heap.objs.size))) {s with heap:=s.heap.push (kiO "dict_valueiterator" d 0 es.size ep)}):=
 .of_wp fun A R s h=>by
  obtain⟨hp,g,dr,tk,os⟩:=s
  obtain⟨h1,h2,h⟩:=h
  wp_walk
  exact⟨_,rfl,h⟩
theorem dLn (d:Addr) (es:Array DictEntry) (ep:Nat) (hd:(d == sysModules)=false):
  MeetsIn prog w (Builtin.«dict.__len__» ⟨[.ref d],[]⟩) (fun _ R s=>s.heap.get? d=some (dxO es ep)/\R (.ok (.ret (.int es.size s.toks))) {s with toks:=s.toks+1}):=
 .of_wp fun A R s h=>by
  obtain⟨hp,g,dr,tk,os⟩:=s
  obtain⟨h2,h⟩:=h
  wp_walk
  refine⟨_,rfl,?_⟩
  rw [show ((es.size:Int)+((0:Nat):Int))=es.size from Int.add_zero _]
  exact h
section
variable {A:Around} {E:Value->Shared->Prop} {s:Shared} {it d v:Addr} {es:Array DictEntry} {i ep:Nat} {e:DictEntry} {ok ov:Value}
theorem pyIter_dk {Q:Value->Shared->Prop} (hd:(d == sysModules)=false) (h2:s.heap.get? d=some (dxO es ep)) (h:Q (.ref s.heap.objs.size) {s with heap:=s.heap.push (kiO "dict_keyiterator" d 0 es.size ep)}):
  wpAny (model prog w) A (pyIter (.ref d)) Q E s:=
 have T:s.TypeIs (.ref d) "dict":=⟨_,h2,rfl⟩
 wpAny_pyIter_slot T F.slot_dict_iter (call_meetsIn F.slot_dict_iter T F.entry_dict_iter (F.args_dict_iter_1 _) (diI d es ep hd) ⟨h2,"dict_keyiterator",_,⟨_,Heap.get?_push_size _ rfl,rfl⟩,F.slot_dict_keyiterator_next.lookup,h⟩)
theorem pyIter_dv {Q:Value->Shared->Prop} (h1:s.heap.get? v=some {cls:=.type "dict_values",data:=.fields #[.ref d]}) (h2:s.heap.get? d=some (dxO es ep)) (h:Q (.ref s.heap.objs.size) {s with heap:=s.heap.push (kiO "dict_valueiterator" d 0 es.size ep)}):
  wpAny (model prog w) A (pyIter (.ref v)) Q E s:=
 have T:s.TypeIs (.ref v) "dict_values":=⟨_,h1,rfl⟩
 wpAny_pyIter_slot T F.slot_dict_values_iter (call_meetsIn F.slot_dict_values_iter T F.entry_dict_values_iter (F.args_dict_values_iter_1 _) (viI v d es ep) ⟨h1,h2,"dict_valueiterator",_,⟨_,Heap.get?_push_size _ rfl,rfl⟩,F.slot_dict_valueiterator_next.lookup,h⟩)
theorem pyIter_di {Q:Value->Shared->Prop} (h1:s.heap.get? v=some {cls:=.type "dict_items",data:=.fields #[.ref d]}) (h2:s.heap.get? d=some (dxO es ep)) (h:Q (.ref s.heap.objs.size) {s with heap:=s.heap.push (iiO .none (.ref d) 0 es.size ep .none .none)}):
  wpAny (model prog w) A (pyIter (.ref v)) Q E s:=
 have T:s.TypeIs (.ref v) "dict_items":=⟨_,h1,rfl⟩
 wpAny_pyIter_slot T F.slot_dict_items_iter (call_meetsIn F.slot_dict_items_iter T F.entry_dict_items_iter (F.args_dict_items_iter_1 _) (iiI v d es ep) ⟨h1,h2,"dict_itemiterator",_,⟨_,Heap.get?_push_size _ rfl,rfl⟩,F.slot_dict_itemiterator_next.lookup,h⟩)
theorem next_of {T id:String} {f:Builtin} {φ} {Q:Option Value->Shared->Prop} (hs:Slot T "__next__" id) (hT:s.TypeIs (.ref it) T) (he:entryFor table id=some f) (ha:argsOk id ⟨[.ref it],[]⟩) (hm:MeetsIn prog w (f ⟨[.ref it],[]⟩) φ)
  (h:φ A (wants (fun u s'=>Q (some u) s') fun e s'=>(∃ a o,e=.ref a/\s'.heap.get? a=some o/\o.cls=.type "StopIteration")/\Q none s') s):wpAny (model prog w) A (pyNext (.ref it)) Q E s:=by
 unfold pyNext
 refine wpAny_bind (wpAny_attempt (wpAny_callSpecial?_slot (name:=Str.ofString "__next__") hT hs (wpAny_mono (call_meetsIn hs hT he ha hm h) (fun u s' q=>wpAny_pure q) fun e s' q=>?_)))
 obtain⟨⟨a,o,rfl,g,c⟩,q⟩:=q
 exact wpAny_bind (wpAny_isInstance (T:="StopIteration") (b:=true) ⟨_,g,c⟩ isSubtype_stop (wpAny_pure q))
inductive DIt where
 | k | v
def DIt.nm:DIt->String
 | .k=>"dict_keyiterator"
 | .v=>"dict_valueiterator"
def DIt.of (e:DictEntry):DIt->Value
 | .k=>e.key
 | .v=>e.val
theorem upd_ki (c:DIt) {h:Heap} {it d:Addr} {i n ep:Nat} (h1:h.get? it=some (kiO c.nm d i n ep)):(h.update it (Obj.mapFields (·.setIfInBounds 1 (rawInt ((i:Int)+1))))).get? it=some (kiO c.nm d (i+1) n ep):=
 Heap.get?_update_self _ h1 rfl
theorem next_dx (c:DIt) {Q:Option Value->Shared->Prop} (h1:s.heap.get? it=some (kiO c.nm d i es.size ep)) (h2:s.heap.get? d=some (dxO es ep)) (hx:es[i]?=some e)
  (h:∀ h',h'.get? it=some (kiO c.nm d (i+1) es.size ep)->(∀ b o,b≠it->s.heap.get? b=some o->h'.get? b=some o)->Q (some (DIt.of e c)) {s with heap:=h'}):wpAny (model prog w) A (pyNext (.ref it)) Q E s:=by
 have far:∀ b o,b≠it->s.heap.get? b=some o->(s.heap.update it (Obj.mapFields (·.setIfInBounds 1 (rawInt ((i:Int)+1))))).get? b=some o:=fun b o nb x=>(Heap.get?_update_other _ _ (Ne.symm nb)).trans x
 have z:=h _ (upd_ki c h1) far
 cases c with
 | k=>exact next_of F.slot_dict_keyiterator_next ⟨_,h1,rfl⟩ F.entry_dict_keyiterator_next (F.args_dict_keyiterator_next_1 _) (kiN it d es i ep e hx) ⟨h1,h2,z⟩
 | v=>exact next_of F.slot_dict_valueiterator_next ⟨_,h1,rfl⟩ F.entry_dict_valueiterator_next (F.args_dict_valueiterator_next_1 _) (viN it d es i ep e hx) ⟨h1,h2,z⟩
theorem next_dxE (c:DIt) {Q:Option Value->Shared->Prop} (hh:A.handled=none) (h1:s.heap.get? it=some (kiO c.nm d i es.size ep)) (h2:s.heap.get? d=some (dxO es ep)) (hx:es[i]?=none)
  (h:∀ h',(∀ b o,b≠it->s.heap.get? b=some o->h'.get? b=some o)->Q none {s with heap:=h'}):wpAny (model prog w) A (pyNext (.ref it)) Q E s:=by
 cases c with
 | k=>exact next_of F.slot_dict_keyiterator_next ⟨_,h1,rfl⟩ F.entry_dict_keyiterator_next (F.args_dict_keyiterator_next_1 _) (kiE it d es i ep hx) ⟨hh,h1,h2,fun h' e x ⟨o,y1,y2⟩=>⟨⟨e,o,rfl,y1,y2⟩,h h' x⟩⟩
 | v=>exact next_of F.slot_dict_valueiterator_next ⟨_,h1,rfl⟩ F.entry_dict_valueiterator_next (F.args_dict_valueiterator_next_1 _) (viE it d es i ep hx) ⟨hh,h1,h2,fun h' e x ⟨o,y1,y2⟩=>⟨⟨e,o,rfl,y1,y2⟩,h h' x⟩⟩
theorem next_di {Q:Option Value->Shared->Prop} (h1:s.heap.get? it=some (iiO .none (.ref d) i es.size ep ok ov)) (h2:s.heap.get? d=some (dxO es ep)) (hx:es[i]?=some e)
  (h:∀ h',h'.get? it=some (iiO (rawInt s.heap.objs.size) (.ref d) (i+1) es.size ep e.key e.val)->h'.get? s.heap.objs.size=some {cls:=.type "tuple",data:=.seq #[e.key,e.val]}->(∀ b o,b≠it->s.heap.get? b=some o->h'.get? b=some o)->
   Q (some (.ref s.heap.objs.size)) {s with heap:=h'}):wpAny (model prog w) A (pyNext (.ref it)) Q E s:=
 next_of F.slot_dict_itemiterator_next ⟨_,h1,rfl⟩ F.entry_dict_itemiterator_next (F.args_dict_itemiterator_next_1 _) (iiN it d es i ep e ok ov hx) ⟨h1,h2,fun h' a b c=>h h' a b c⟩
theorem next_diE {Q:Option Value->Shared->Prop} (hh:A.handled=none) (h1:s.heap.get? it=some (iiO .none (.ref d) i es.size ep ok ov)) (h2:s.heap.get? d=some (dxO es ep)) (hx:es[i]?=none)
  (h:∀ h',(∀ b o,b≠it->s.heap.get? b=some o->h'.get? b=some o)->Q none {s with heap:=h'}):wpAny (model prog w) A (pyNext (.ref it)) Q E s:=
 next_of F.slot_dict_itemiterator_next ⟨_,h1,rfl⟩ F.entry_dict_itemiterator_next (F.args_dict_itemiterator_next_1 _) (iiE it d es i ep ok ov hx) ⟨hh,h1,h2,fun h' e x ⟨o,y1,y2⟩=>⟨⟨e,o,rfl,y1,y2⟩,h h' x⟩⟩
theorem go_di {elts:List Expr} {x1} {pos:Pos} {T:Addr} {Q:Unit->Shared->Prop} (h1:s.heap.get? it=some (iiO (rawInt T) (.ref d) i es.size ep ok ov))
  (h:∀ h',h'.get? it=some (iiO .none (.ref d) i es.size ep ok ov)->(∀ b o,b≠it->s.heap.get? b=some o->h'.get? b=some o)->Q () {s with heap:=h'}):wpAny (model prog w) A (letOwnedTupleGo (.Tuple elts x1 pos) (.ref it) (.ref T)) Q E s:=
 wpAny_letOwnedTupleGo_items h1 fun h' a b=>h h' a fun c o n x=>b.extBut c o n x
theorem self_ki (c:DIt) {n:Nat} {Q:Value->Shared->Prop} (h1:s.heap.get? it=some (kiO c.nm d i n ep)) (h:Q (.ref it) s):wpAny (model prog w) A (pyIter (.ref it)) Q E s:=by
 cases c with
 | k=>exact wpAny_pyIter_keyiter ⟨_,h1,rfl,rfl⟩ h
 | v=>exact wpAny_pyIter_valiter ⟨_,h1,rfl,rfl⟩ h
theorem self_ii {n:Nat} {x:Value} {Q:Value->Shared->Prop} (h1:s.heap.get? it=some (iiO x (.ref d) i n ep ok ov)) (h:Q (.ref it) s):wpAny (model prog w) A (pyIter (.ref it)) Q E s:=by
 have T:s.TypeIs (.ref it) "dict_itemiterator":=⟨_,h1,rfl⟩
 have en:entryFor table "dict_itemiterator.__iter__"=some Builtin.«dict_keyiterator.__iter__»:=PySem.W.kcp_entry
 refine wpAny_pyIter_slot T F.slot_dict_itemiterator_iter (wpAny_call_entry F.slot_dict_itemiterator_iter T en ?_ (F.args_dict_itemiterator_iter_1 _))
 exact wpAny_pure ⟨_,rfl,"dict_itemiterator",_,T,F.slot_dict_itemiterator_next.lookup,h⟩
end
end
end PySem
namespace DL
open PySem PySem.Spec PyProof.Rows L2
def keyD (k:List Int):D:=.tup (k.map .int)
def getT (kvs:List (List Int×D)) (k:List Int):Option D:=(kvs.find? fun p=>decide (p.1=k)).map (·.2)
def putT (kvs:List (List Int×D)) (k:List Int) (d:D):List (List Int×D):=if (getT kvs k).isSome then kvs.map (fun p=>if p.1=k then(p.1,d) else p) else kvs++[(k,d)]
section
variable {K:Fg} {H H':Hp} {S:DH} {p:Addr}
theorem DObj.step' {a:Addr} {o:DO} (z:DObj K H a o) (k:Kp H H') (s:H' a=H a):DObj K H' a o:=
 Hs.step (S:=fun b=>if b=a then some o else none) (fun b u e=>by
  by_cases q:b=a
  ·subst q; cases (if_pos rfl).symm.trans e; exact z
  ·cases (if_neg q).symm.trans e) k (fun b u e=>by
  by_cases q:b=a
  ·subst q; exact s
  ·cases (if_neg q).symm.trans e) a o (if_pos rfl)
theorem Hs.setG {o u:HO} {g:Gen} (h:Hs K H S) (e:H p=some u) (n:¬ Imm u) (r:GObj K (upd H p o) p g):Hs K (upd H p o) (put S p (.gen g)):=fun a ob q=>by
 by_cases z:a=p
 ·subst z
  rw [put_same] at q
  cases q
  exact r
 ·rw [put_ne z] at q
  exact DObj.step' (h a ob q) (Kp.mut e n) (upd_ne z)
theorem Hs.newG {o:HO} {g:Gen} (h:Hs K H S) (e:H p=none) (r:GObj K (upd H p o) p g):Hs K (upd H p o) (put S p (.gen g)):=fun a ob q=>by
 by_cases z:a=p
 ·subst z
  rw [put_same] at q
  cases q
  exact r
 ·rw [put_ne z] at q
  exact DObj.step' (h a ob q) (Kp.new e) (upd_ne z)
theorem Hs.dT {kvs:List (List Int×D)} {ep:Nat} (h:Hs K H S) (e:S p=some (.gen (.dT kvs ep))):∃ xs,H p=some (.ext (DxP p xs ep))/\KtR K H kvs xs:=h p _ e
theorem isDs_intsK:∀ {k:List Int} {xs:List V},IsDs K H (k.map D.int) xs↔xs=k.map V.int
 | [],xs=>isNil
 | i::k,xs=>by
  rw [List.map_cons,List.map_cons,isCons]
  constructor
  ·rintro⟨v,r,rfl,h1,h2⟩
   rw [isInt.mp h1,isDs_intsK.mp h2]
  ·rintro rfl
   exact⟨_,_,rfl,isInt.mpr rfl,isDs_intsK.mpr rfl⟩
theorem isKey {k:List Int} {v:V}:IsD K H (keyD k) v↔∃ b,v=.ref b/\SqT K H b (k.map V.int):=by
 unfold keyD
 rw [isTup]
 constructor
 ·rintro⟨a,xs,e,t,j⟩
  rw [isDs_intsK.mp j] at t
  exact⟨a,e,t⟩
 ·rintro⟨b,e,t⟩
  exact⟨b,_,e,t,isDs_intsK.mpr rfl⟩
variable {kvs:List (List Int×D)} {xs:List (List Int×Addr×Value)}
theorem KtR.get (r:KtR K H kvs xs) (k:List Int):(getT kvs k=none/\atKey xs k=none)\/∃ d b u v,getT kvs k=some d/\atKey xs k=some (b,u)/\RelV v u/\IsD K H d v:=by
 induction r with
 | nil=>exact .inl ⟨rfl,rfl⟩
 | @cons p q ps qs h t ih=>
  obtain⟨h1,h2,v,h3,h4⟩:=h
  by_cases e:p.1=k
  ·exact .inr ⟨p.2,q.2.1,q.2.2,v,by simp [getT,List.find?_cons,e],by simp [atKey,List.find?_cons,h1.symm.trans e],h3,h4⟩
  ·have e':¬ q.1=k:=fun z=>e (h1.trans z)
   have a1:getT (p::ps) k=getT ps k:=by simp [getT,List.find?_cons,e]
   have a2:atKey (q::qs) k=atKey qs k:=by simp [atKey,List.find?_cons,e']
   rw [a1,a2]
   exact ih
theorem KtR.isSome (r:KtR K H kvs xs) (k:List Int):(getT kvs k).isSome=(atKey xs k).isSome:=by
 rcases r.get k with ⟨a,b⟩ | ⟨d,b,u,v,a,c,_⟩
 ·rw [a,b]; rfl
 ·rw [a,c]; rfl
theorem KtR.put (r:KtR K H kvs xs) {k:List Int} {b:Addr} {d:D} {v:V} {u:Value} (hb:SqT K H b (k.map V.int)) (rv:RelV v u) (hd:IsD K H d v):KtR K H (putT kvs k d) (storedH xs k b u):=by
 unfold putT storedH
 rw [r.isSome k]
 by_cases q:(atKey xs k).isSome=true
 ·rw [if_pos q,if_pos q]
  clear q
  induction r with
  | nil=>exact .nil
  | @cons p q ps qs h t ih=>
   rw [List.map_cons,List.map_cons]
   refine .cons ?_ ih
   obtain⟨h1,h2,v',h3,h4⟩:=h
   unfold putAt
   by_cases e:p.1=k
   ·rw [if_pos e,if_pos (h1.symm.trans e)]; exact⟨h1,h2,v,rv,hd⟩
   ·rw [if_neg e,if_neg (fun z=>e (h1.trans z))]; exact⟨h1,h2,v',h3,h4⟩
 ·rw [if_neg q,if_neg q]
  exact Paired.snoc r ⟨rfl,hb,v,rv,hd⟩
theorem KtR.length (r:KtR K H kvs xs):kvs.length=xs.length:=Paired.length r
theorem KtR.at_:∀ {kvs:List (List Int×D)} {xs:List (List Int×Addr×Value)} {i:Nat} {p:List Int×D},KtR K H kvs xs->kvs[i]?=some p->∃ q,xs[i]?=some q/\p.1=q.1/\SqT K H q.2.1 (p.1.map V.int)/\∃ v,RelV v q.2.2/\IsD K H p.2 v
 | _,_,0,_,.cons h _,e=>by cases e; exact⟨_,rfl,h⟩
 | _,_,i+1,_,.cons _ t,e=>KtR.at_ (i:=i) t e
end
section
variable {X:Cx} {pins:List (Addr×Obj)} {σ:L2.St} {H:Hp} {s:Shared} {a b:Addr} {kvs:List (List Int×D)} {xs:List (List Int×Addr×Value)} {ep:Nat} {k:List Int}
theorem items_int {P:Program} {w:World}:∀ {ks:List Int} {us:List Value},Vals (ks.map V.int) us->PySem.ItemsAre (intKind P w) ks us
 | [],_,r=>by rw [List.map_nil] at r; cases r; exact .nil
 | k::ks,_,r=>by
  rw [List.map_cons] at r
  cases r with
  | cons h t=>
   obtain⟨tk,rfl⟩:=h
   exact .cons (by simp [intKind,Value.isInt]) (items_int t)
theorem key_int (I:Inv X pins σ H s) (h:SqT X.K H b (k.map V.int)):(tupleKind (intKind X.prog X.w)).is s.heap k b:=by
 obtain⟨its,r,⟨o,h1,h2,n,h3⟩,_⟩:=I.tuple h
 exact⟨o,its.toArray,n,h1,h2,h3,by simpa using items_int r⟩
theorem dxp_at (I:Inv X pins σ H s) (e:H a=some (.ext (DxP a xs ep))):(a == sysModules)=false/\xs.length<=sizeLine/\(xs.map (·.1)).Nodup/\s.heap.get? a=some (dxO (xs.map eT).toArray ep):=(I.hok a _ e).1
theorem dx_of (I:Inv X pins σ H s) (e:H a=some (.ext (DxP a xs ep))) (r:KtR X.K H kvs xs):s.heap.DictOfH (tupleKind (intKind X.prog X.w)) a xs:=by
 obtain⟨_,z,nd,g⟩:=dxp_at I e
 refine⟨_,_,ep,g,⟨rfl,rfl,rfl⟩,rfl,rfl,?_,nd⟩
 clear z nd g e
 induction r with
 | nil=>intro x hx; exact nomatch hx
 | @cons p q ps qs h t ih=>
  intro x hx
  rcases List.mem_cons.mp hx with e | hx
  ·subst e
   rw [<- h.1]
   exact key_int I h.2.1
  ·exact ih x hx
theorem dxp_of {P:Program} {w:World} {h:Heap} (hd:(a == sysModules)=false) (z:xs.length<=sizeLine) (m:h.DictOfH (tupleKind (intKind P w)) a xs):∃ ep,DxP a xs ep h:=by
 obtain⟨⟨c,d,dt,sl⟩,es,ep,g,⟨c1,c2,c3⟩,c4,c5,_,nd⟩:=m
 have q:es=(xs.map eT).toArray:=by
  have:es.toList=xs.map eT:=c5
  rw [<- this]
 refine⟨ep,hd,z,nd,?_⟩
 rw [g]
 cases c1; cases c2; cases c3; cases c4
 rw [q]
 rfl
theorem ext_ok {P:Program} {w:World} {h:Heap} (m:DxP a xs ep h):ObjOk P w H h a (.ext (DxP a xs ep)):=
 ⟨m,⟨_,m.2.2.2⟩,fun h1 h2 p q=>⟨p.1,p.2.1,p.2.2.1,q _ p.2.2.2⟩⟩
theorem storedH_len (xs:List (List Int×Addr×Value)) (k:List Int) (b:Addr) (u:Value):(storedH xs k b u).length<=xs.length+1:=by
 unfold storedH
 split
 ·rw [List.length_map]; omega
 ·rw [List.length_append]; exact Nat.le_refl _
theorem un1 {n:Nat} {A:Around} (hr:Room n A):A.units+1 < cLine:=by have:=hr.un; omega
def dDGet (go gi:DE):DE:=fun L S k=>go L S fun d S1=>gi L S1 fun e S2=>match d with
 | .ref a=>∃ kvs ep ks c,S2 a=some (.gen (.dT kvs ep))/\e=keyD ks/\getT kvs ks=some c/\k c S2
 | _=>False
def tDGetX (K:Fg) (to ti:TE):TE:=fun σ H Q=>to σ H fun x H1=>ti σ H1 fun y H2=>∃ a b kvs xs ep ks p v,x=.ref a/\y=.ref b/\H2 a=some (.ext (DxP a xs ep))/\KtR K H2 kvs xs/\SqT K H2 b (ks.map V.int)/\atKey xs ks=some p/\RelV v p.2/\Q v H2
theorem pe_dgetX {o i:Expr} {to ti:TE} {pos:Pos} {n:Nat} (hr:Room n X.A) (ho:PE X o to) (hi:PE X i ti) (hs:NoSl i):PE X (.Subscript o i pos) (tDGetX X.K to ti):=by
 intro pins s σ H Q I h
 refine subD_of PySem.F.slot_dict_getitem.lookup hs (thn (ho pins s σ H _ I h) fun u s1 ⟨x,H1,I1,rx,h1⟩=>thn (hi pins s1 σ H1 _ I1 h1) fun iv s2 ⟨y,H2,I2,ry,a,b,kvs,xs,ep,ks,p,v,ex,ey,e1,r1,t1,z2,z3,q⟩=>?_)
 subst ex ey
 obtain rfl:u=Value.ref a:=rx
 cases (show iv=Value.ref b from ry)
 have dd:=dx_of I2 e1 r1
 exact⟨dd.typeIs,wpAny_getItem_heap (tupleKind_room_in1 (un1 hr)) (key_int I2 t1) dd z2 ⟨v,H2,I2.tok _,z3,q⟩⟩
theorem d_dgetj {o i:Expr} {go gi:DE} {pos:Pos} {n:Nat} (hr:Room n X.A) (ho:EJ X o go) (hi:EJ X i gi) (hs:NoSl i):EJ X (.Subscript o i pos) (dDGet go gi):=
 ⟨PE.imp (pe_dgetX hr ho.h hi.h hs) fun σ H Q ⟨L,S,k,hL,hS,h,m⟩=>up.go hL hS h fun d S1 x H1 h1 k1 hL1 hS1 i1=>up.go hL1 hS1 h1 fun e S2 y H2 h2 k2 hL2 hS2 i2=>by
  cases d with
  | ref a=>
   obtain⟨kvs,ep,ks,c,g1,rfl,g3,h2⟩:=h2
   obtain⟨xs,e1,r1⟩:=hS2.dT g1
   obtain⟨b,rfl,t1⟩:=isKey.mp i2
   have ex:=isRef.mp i1
   subst ex
   rcases r1.get ks with ⟨z,_⟩ | ⟨d,b',w,v,z1,z2,z3,z4⟩
   ·rw [g3] at z; cases z
   ·rw [g3] at z1
    cases z1
    exact⟨a,b,kvs,xs,ep,ks,_,v,rfl,rfl,e1,r1,t1,z2,z3,m c S2 v H2 h2 (k1.trans k2) hS2 z4⟩
  | _=>exact(show False from h2).elim⟩
def dInD (neg:Bool):D2:=fun e d S k=>match d with
 | .ref a=>∃ kvs ep ks,S a=some (.gen (.dT kvs ep))/\e=keyD ks/\k (.bl (if neg then !(getT kvs ks).isSome else(getT kvs ks).isSome)) S
 | _=>False
theorem o_notInD {n:Nat} (hr:Room n X.A):OpR X (compareOp .NotIn) (upR X.K (dInD true)):=by
 intro pins s σ H x y v u Q I rx ry h
 obtain⟨e,d,S,k,i1,i2,hS,r,m⟩:=h
 cases d with
 | ref a=>
  obtain⟨kvs,ep,ks,g1,rfl,r⟩:=r
  obtain⟨xs,e1,r1⟩:=hS.dT g1
  obtain⟨b,rfl,t1⟩:=isKey.mp i1
  have ex:=isRef.mp i2
  subst ex
  cases (show u=Value.ref a from ry)
  cases (show v=Value.ref b from rx)
  refine wpAny_notIn_heap (tupleKind_room_in1 (un1 hr)) (key_int I t1) (dxp_at I e1).1 (dx_of I e1 r1) ?_
  rw [<- r1.isSome ks]
  exact⟨.bl _,H,I.tok _,rfl,up1 m hS r (isBl.mpr rfl)⟩
 | _=>exact(show False from r).elim
def rSetD (K:Fg):TSet:=fun x y v H Q=>∃ a b kvs xs ep ks,x=.ref a/\y=.ref b/\H a=some (.ext (DxP a xs ep))/\KtR K H kvs xs/\SqT K H b (ks.map V.int)/\xs.length < sizeLine/\∀ u ep',RelV v u->Q (upd H a (.ext (DxP a (storedH xs ks b u) ep')))
theorem set_dict {n:Nat} (hr:Room n X.A):PSet X (rSetD X.K):=by
 intro pins s σ H o i v ov iv u Q I ro ri rv h
 obtain⟨a,b,kvs,xs,ep,ks,rfl,rfl,e1,r1,t1,z,q⟩:=h
 cases (show ov=Value.ref a from ro)
 cases (show iv=Value.ref b from ri)
 have hd:=(dxp_at I e1).1
 refine wpAny_setItem_heap (hsz:=Nat.le_of_lt z) (tupleKind_room_in1 (un1 hr)) (key_int I t1) (dx_of I e1 r1) fun h' dd' hs=>?_
 have z':(storedH xs ks b u).length<=sizeLine:=by have:=storedH_len xs ks b u; omega
 obtain⟨ep',m⟩:=dxp_of hd z' dd'
 exact⟨_,d_write I (by rw [e1]; exact True.intro) hs ⟨_,m.2.2.2⟩ (ext_ok m),q u ep' rv⟩
def dgSubD (go gi:DE):DG:=fun d L S k=>go L S fun o S1=>gi L S1 fun i S2=>match o with
 | .ref a=>∃ kvs ep ks,S2 a=some (.gen (.dT kvs ep))/\i=keyD ks/\kvs.length < sizeLine/\∀ ep',k L (put S2 a (.gen (.dT (putT kvs ks d) ep')))
 | _=>False
theorem dg_subD {o i:Expr} {go gi:DE} {pos:Pos} {n:Nat} (hr:Room n X.A) (ho:EJ X o go) (hi:EJ X i gi)
  (ha:∀ v,assign (.Subscript o i pos) X.env v=(do
   let ov <- holding [v] (eval o X.env)
   let iv <- holding [v,ov] (eval i X.env)
   standAt pos
   holding [v,ov,iv] (setItem ov iv v)
   release [v,ov,iv] []):=by intro _; rfl):GJ X (.Subscript o i pos) (dgSubD go gi):=
 ⟨PG.imp (pg_sub ho.h hi.h (set_dict hr) ha) fun v σ H Q ⟨d,L,S,k,i1,hL,hS,h,m⟩=>up.go hL hS h fun c S1 u H1 h1 k1 hL1 hS1 j1=>up.go hL1 hS1 h1 fun c2 S2 u2 H2 h2 k2 hL2 hS2 j2=>by
  cases c with
  | ref a=>
   obtain⟨kvs,ep,ks,g1,rfl,z,h2⟩:=h2
   obtain⟨xs,e1,r1⟩:=hS2.dT g1
   obtain⟨b,rfl,t1⟩:=isKey.mp j2
   have ex:=isRef.mp j1
   subst ex
   refine⟨a,b,kvs,xs,ep,ks,rfl,rfl,e1,r1,t1,by rw [<- r1.length]; exact z,fun w ep' rw'=>?_⟩
   have k3:Kp H2 (upd H2 a (.ext (DxP a (storedH xs ks b w) ep'))):=Kp.mut e1 (fun z=>z)
   exact m L _ σ _ (h2 ep') (k1.trans (k2.trans k3)) (hL2.kp k3) (hS2.setG e1 (fun z=>z) ⟨_,upd_same,(r1.put t1 rw' (i1.kp (k1.trans k2))).kp k3⟩)
  | _=>exact(show False from h2).elim⟩
def dDNew:DE:=fun _ S k=>∀ p,S p=none->∀ ep,k (.ref p) (put S p (.gen (.dT [] ep)))
theorem dxp_empty (h:Heap) (hb:sysModules < h.objs.size):DxP h.objs.size [] 0 (h.push {cls:=.type "dict",data:=.dict #[]}):=
 ⟨beq_eq_false_iff_ne.mpr (Ne.symm (Nat.ne_of_lt hb)),Nat.zero_le _,List.nodup_nil,Heap.get?_push_size _ rfl⟩
theorem d_dnewj {pos:Pos}:EJ X (.Dict [] [] pos) dDNew:=⟨fun pins s σ H Q I ⟨L,S,k,hL,hS,h,m⟩=>by
 have hn:=I.hok.fresh (Nat.le_refl s.heap.objs.size)
 refine wpAny_Dict_empty ⟨.ref s.heap.objs.size,_,I.laid (a:=s.heap.objs.size) (o:=.ext (DxP s.heap.objs.size [] 0)) (t':=s.toks) (fun _ _ q=>Heap.get?_push_of_some _ q) (Nat.le_refl _) (ext_ok (dxp_empty s.heap I.big)),rfl,?_⟩
 exact m _ _ _ _ (h _ (hS.free hn) 0) (Kp.new hn) (hS.newG hn ⟨[],upd_same,.nil⟩) (isRef.mpr rfl)⟩
end
end DL
namespace L2
open PySem PySem.Spec PyProof.Rows
theorem dx_same {X:Cx} {pins:List (Addr×Obj)} {σ:St} {H:Hp} {s:Shared} {a:Addr} {xs ys:List (List Int×Addr×Value)} {ep ep' i:Nat} {x:List Int×Addr×Value} (I:Inv X pins σ H s) (e1:H a=some (.ext (DL.DxP a xs ep))) (e2:H a=some (.ext (DL.DxP a ys ep')))
  (hx:xs[i]?=some x):∃ y,ys[i]?=some y/\DL.eT y=DL.eT x:=by
 have g1:=(DL.dxp_at I e1).2.2.2
 have g2:=(DL.dxp_at I e2).2.2.2
 have z:=Option.some.inj (g1.symm.trans g2)
 have q:xs.map DL.eT=ys.map DL.eT:=by
  unfold DL.dxO at z
  injection z with _ _ z _
  injection z with z _
  exact congrArg Array.toList z
 have w:(ys.map DL.eT)[i]?=some (DL.eT x):=by rw [<- q,List.getElem?_map,hx]; rfl
 rw [List.getElem?_map] at w
 exact Option.map_eq_some_iff.mp w
def Itd (c:DIt) (a:Addr) (ep n:Nat):It:=
 ⟨fun i H => ∃ xs x v, H a = some (.ext (DL.DxP a xs ep)) ∧ xs[i]? = some x ∧ xs.length = n ∧ RelV v (DIt.of (DL.eT x) c),
  fun i H v H'=>H'=H/\∀ xs,H a=some (.ext (DL.DxP a xs ep))->∃ x,xs[i]?=some x/\RelV v (DIt.of (DL.eT x) c),
  fun i H=>∃ xs,H a=some (.ext (DL.DxP a xs ep))/\xs.length=n/\n<=i⟩
theorem turn_dict {P:Program} {w:World} {K:PySem.W.Frag} {tg:Expr} (c:DIt) (a it:Addr) (ep n:Nat):Turn P w K tg (Itd c a ep n) [it] it (fun i h=>h.get? it=some (kiO c.nm a i n ep)) where
 mem:=by simp
 obj:=fun i h st b hb=>by
  have e:b=it:=by simpa using hb
  subst e
  exact⟨_,st,fun v z=>by cases z⟩
 keep:=fun i h h' st k=>k it (by simp) _ st
 item:=by
  intro X hP hw hK hc i pins s σ H E I hf st hg
  subst hP hw hK
  obtain⟨xs,x,v,e1,hx,hn,rv⟩:=hg
  have g:=(DL.dxp_at I e1).2.2.2
  have sz:(xs.map DL.eT).toArray.size=n:=by simp [hn]
  obtain⟨f0,f1,f2,f3,f4,f5⟩:=hf it (by simp)
  refine next_dx c (e:=DL.eT x) (by rw [sz]; exact st) g (by simp [hx]) fun h' st' kk=>?_
  have I1:Inv X pins σ H {s with heap:=h'}:=I.turned (t':=s.toks) kk f0 f1 f3 f4 f5
  rw [sz] at st'
  refine⟨_,rfl,go_of (s:={s with heap:=h'}) (n:=c.nm) st' rfl rfl (by cases c <;> decide) ⟨v,H,I1,rv,⟨rfl,fun ys ey=>?_⟩,st',fun b hb=>(hf b hb).1⟩⟩
  obtain⟨y,y1,y2⟩:=dx_same I e1 ey hx
  exact⟨y,y1,by rw [y2]; exact rv⟩
 done:=by
  intro X hP hw hK hc i pins s σ H E I hf st hg
  subst hP hw hK
  obtain⟨xs,e1,hn,hi⟩:=hg
  have g:=(DL.dxp_at I e1).2.2.2
  have sz:(xs.map DL.eT).toArray.size=n:=by simp [hn]
  obtain⟨f0,f1,f2,f3,f4,f5⟩:=hf it (by simp)
  exact next_dxE c (I.ok.hd hc) (by rw [sz]; exact st) g (by simp; omega) fun h' kk=>⟨rfl,I.turned (t':=s.toks) kk f0 f1 f3 f4 f5⟩
 self:=fun _ _ _ _ _ st h=>self_ki c st h
def Iti (a:Addr) (ep n:Nat):It:=
 ⟨fun i H => ∃ xs x v, H a = some (.ext (DL.DxP a xs ep)) ∧ xs[i]? = some x ∧ xs.length = n ∧ RelV v x.2.2,
  fun i H u H'=>∃ T b v,u=.ref T/\H T=none/\H'=upd H T (.tup [.ref b,v])/\∀ xs,H a=some (.ext (DL.DxP a xs ep))->∃ x,xs[i]?=some x/\b=x.2.1/\RelV v x.2.2,
  fun i H=>∃ xs,H a=some (.ext (DL.DxP a xs ep))/\xs.length=n/\n<=i⟩
theorem turn_items {P:Program} {w:World} {K:PySem.W.Frag} {es:List Expr} {k:Nat} {pos:Pos} (a it:Addr) (ep n:Nat) (ne:it≠a):Turn P w K (.Tuple es k pos) (Iti a ep n) [it] it (fun i h=>∃ ok ov,h.get? it=some (iiO .none (.ref a) i n ep ok ov)) where
 mem:=by simp
 obj:=fun i h st b hb=>by
  have e:b=it:=by simpa using hb
  subst e
  obtain⟨ok,ov,st⟩:=st
  exact⟨_,st,fun v z=>by cases z⟩
 keep:=fun i h h' ⟨ok,ov,st⟩ k=>⟨ok,ov,k it (by simp) _ st⟩
 item:=by
  intro X hP hw hK hc i pins s σ H E I hf st hg
  subst hP hw hK
  obtain⟨ok,ov,st⟩:=st
  obtain⟨xs,x,v,e1,hx,hn,rv⟩:=hg
  have g:=(DL.dxp_at I e1).2.2.2
  have sz:(xs.map DL.eT).toArray.size=n:=by simp [hn]
  have hT:H s.heap.objs.size=none:=I.hok.fresh (Nat.le_refl _)
  have old:it≠s.heap.objs.size:=Nat.ne_of_lt (Heap.lt_size st)
  refine next_di (e:=DL.eT x) (es:=(xs.map DL.eT).toArray) (by rw [sz]; exact st) g (by simp [hx]) fun h' st' tp kk=>?_
  rw [sz] at st'
  have hfi:∀ b∈[it],FpOk X pins H b:=fun b hb=>by
   have e:b=it:=by simpa using hb
   subst e
   exact hf b (by simp)
  have I1:Inv X pins σ (upd H s.heap.objs.size (.tup [.ref x.2.1,v])) {s with heap:=h'}:=I.turnedNew (t':=s.toks) [it] (fun b o hb e=>kk b o (fun q=>hb (by simp [q])) e) hfi (Nat.le_refl _)
   ⟨Nat.le_of_ble_eq_true rfl,[_,_],.cons rfl (.cons rv .nil),⟨_,tp,rfl,_,rfl⟩⟩
  refine⟨_,rfl,go_di (s:={s with heap:=h'}) (es:=(xs.map DL.eT).toArray) (by rw [sz]; exact st') fun h2 st2 kk2=>?_⟩
  rw [sz] at st2
  refine⟨.ref s.heap.objs.size,_,I1.turnedL (t':=s.toks) [it] (fun b o hb e=>kk2 b o (fun q=>hb (by simp [q])) e) (fun b hb=>?_),rfl,⟨_,_,v,rfl,hT,rfl,fun ys ey=>?_⟩,⟨_,_,st2⟩,fun b hb=>?_⟩
  ·have e:b=it:=by simpa using hb
   subst e
   obtain⟨f0,f1,f2,f3,f4,f5⟩:=hf b (by simp)
   exact⟨by rw [upd_ne old]; exact f0,f1,f2,f3,f4,f5⟩
  ·obtain⟨y,y1,y2⟩:=dx_same I e1 ey hx
   have q1:y.2.1=x.2.1:=Value.ref.inj (congrArg DictEntry.key y2)
   have q2:y.2.2=x.2.2:=congrArg DictEntry.val y2
   exact⟨y,y1,q1.symm,by rw [q2]; exact rv⟩
  ·have e:b=it:=by simpa using hb
   subst e
   rw [upd_ne old]
   exact(hf b (by simp)).1
 done:=by
  intro X hP hw hK hc i pins s σ H E I hf st hg
  subst hP hw hK
  obtain⟨ok,ov,st⟩:=st
  obtain⟨xs,e1,hn,hi⟩:=hg
  have g:=(DL.dxp_at I e1).2.2.2
  have sz:(xs.map DL.eT).toArray.size=n:=by simp [hn]
  obtain⟨f0,f1,f2,f3,f4,f5⟩:=hf it (by simp)
  exact next_diE (I.ok.hd hc) (by rw [sz]; exact st) g (by simp; omega) fun h' kk=>⟨rfl,I.turned (t':=s.toks) kk f0 f1 f3 f4 f5⟩
 self:=fun _ _ _ _ _ ⟨_,_,st⟩ h=>self_ii st h
section
variable {X:Cx} {tg l o:Expr} {tl to:TE} {apos cpos:Pos}
def iDict (tl:TE):TI:=fun σ H R=>tl σ H fun x H1=>∃ a ep xs,x=.ref a/\H1 a=some (.ext (DL.DxP a xs ep))/\R (Itd .k a ep xs.length) H1
theorem pi_dict (hl:PE X l tl):PI X tg l (iDict tl):=by
 intro pins s σ H R I h
 refine thn (hl pins s σ H _ I h) fun v s1 ⟨x,H1,I1,r1,a,ep,xs,ex,e1,q⟩=>?_
 subst ex
 cases (show v=Value.ref a from r1)
 obtain⟨hd,_,_,g⟩:=DL.dxp_at I1 e1
 refine pyIter_dk hd g ⟨s1.heap.objs.size,[s1.heap.objs.size],_,_,H1,rfl,I1.kept (t':=s1.toks) fun b o e=>Heap.get?_push_of_some _ e,turn_dict .k a _ ep xs.length,?_,fun b hb=>?_,q⟩
 ·show(s1.heap.push _).get? _=_
  rw [Heap.get?_push_size _ rfl]
  simp [DIt.nm]
 ·have e:b=s1.heap.objs.size:=by simpa using hb
  subst e
  exact I1.fpOk (Nat.le_refl _) (I1.hok.fresh (Nat.le_refl _))
def iVals (to:TE):TI:=fun σ H R=>to σ H fun x H1=>∃ a ep xs,x=.ref a/\H1 a=some (.ext (DL.DxP a xs ep))/\R (Itd .v a ep xs.length) H1
theorem pi_vals (ho:PE X o to) (hbase:attributeBase o "values" X.env (eval o X.env)=eval o X.env:=by rfl) (hline:(apos.endLine == cpos.line)=true:=by rfl):PI X tg (.Call (.Attribute o "values" apos) [] [] cpos) (iVals to):=by
 intro pins s σ H R I h
 refine wpAny_Call_method0_late hbase hline (thn (ho pins s σ H _ I h) fun v s1 ⟨x,H1,I1,r1,a,ep,xs,ex,e1,q⟩=>?_)
 subst ex
 cases (show v=Value.ref a from r1)
 obtain⟨hd,_,_,g⟩:=DL.dxp_at I1 e1
 refine⟨"dict","dict.values",F.plainAttrs_dict,F.slot_dict_values,F.type_dict_values,⟨_,g,rfl⟩,fun b e=>by cases e; exact⟨_,g,rfl⟩,Calls.callWith_builtin rfl (PySem.evalArgs_none ?_)⟩
 refine call_meetsIn F.slot_dict_values ⟨_,g,rfl⟩ F.entry_dict_values (F.args_dict_values_1 _) (diV a _ ep hd) ⟨g,?_⟩
 have I2:Inv X pins σ H1 {s1 with heap:=s1.heap.push {cls:=.type "dict_values",data:=.fields #[.ref a]}}:=I1.kept (t':=s1.toks) fun b o e=>Heap.get?_push_of_some _ e
 refine pyIter_dv (s:={s1 with heap:=s1.heap.push {cls:=.type "dict_values",data:=.fields #[.ref a]}}) (Heap.get?_push_size _ rfl) (Heap.get?_push_of_some _ g) ⟨_,[_],_,_,H1,rfl,I2.kept (t':=s1.toks) fun b o e=>Heap.get?_push_of_some _ e,turn_dict .v a _ ep xs.length,?_,fun b hb=>?_,q⟩
 ·show(Heap.push _ _).get? _=_
  rw [Heap.get?_push_size _ rfl]
  simp [DIt.nm]
 ·have e:b=(s1.heap.push {cls:=.type "dict_values",data:=.fields #[.ref a]}).objs.size:=by simpa using hb
  subst e
  exact I2.fpOk (Nat.le_refl _) (I2.hok.fresh (Nat.le_refl _))
def iPairs (to:TE):TI:=fun σ H R=>to σ H fun x H1=>∃ a ep xs,x=.ref a/\H1 a=some (.ext (DL.DxP a xs ep))/\R (Iti a ep xs.length) H1
theorem pi_items {es:List Expr} {k:Nat} {pos:Pos} (ho:PE X o to) (hbase:attributeBase o "items" X.env (eval o X.env)=eval o X.env:=by rfl) (hline:(apos.endLine == cpos.line)=true:=by rfl):PI X (.Tuple es k pos) (.Call (.Attribute o "items" apos) [] [] cpos) (iPairs to):=by
 intro pins s σ H R I h
 refine wpAny_Call_method0_late hbase hline (thn (ho pins s σ H _ I h) fun v s1 ⟨x,H1,I1,r1,a,ep,xs,ex,e1,q⟩=>?_)
 subst ex
 cases (show v=Value.ref a from r1)
 obtain⟨hd,_,_,g⟩:=DL.dxp_at I1 e1
 refine⟨"dict","dict.items",F.plainAttrs_dict,F.slot_dict_items,F.type_dict_items,⟨_,g,rfl⟩,fun b e=>by cases e; exact⟨_,g,rfl⟩,Calls.callWith_builtin rfl (PySem.evalArgs_none ?_)⟩
 refine call_meetsIn F.slot_dict_items ⟨_,g,rfl⟩ F.entry_dict_items (F.args_dict_items_1 _) (diT a _ ep hd) ⟨g,?_⟩
 have I2:Inv X pins σ H1 {s1 with heap:=s1.heap.push {cls:=.type "dict_items",data:=.fields #[.ref a]}}:=I1.kept (t':=s1.toks) fun b o e=>Heap.get?_push_of_some _ e
 have ne:(s1.heap.push {cls:=.type "dict_items",data:=.fields #[.ref a]}).objs.size≠a:=Nat.ne_of_gt (Nat.lt_of_lt_of_le (Heap.lt_size g) (by rw [Heap.size_push]; omega))
 refine pyIter_di (s:={s1 with heap:=s1.heap.push {cls:=.type "dict_items",data:=.fields #[.ref a]}}) (Heap.get?_push_size _ rfl) (Heap.get?_push_of_some _ g) ⟨_,[_],_,_,H1,rfl,I2.kept (t':=s1.toks) fun b o e=>Heap.get?_push_of_some _ e,turn_items a _ ep xs.length ne,⟨.none,.none,?_⟩,fun b hb=>?_,q⟩
 ·show(Heap.push _ _).get? _=_
  rw [Heap.get?_push_size _ rfl]
  simp
 ·have e:b=(s1.heap.push {cls:=.type "dict_items",data:=.fields #[.ref a]}).objs.size:=by simpa using hb
  subst e
  exact I2.fpOk (Nat.le_refl _) (I2.hok.fresh (Nat.le_refl _))
end
end L2
namespace DL
open PySem PySem.Spec PyProof.Rows L2
abbrev DSrc:=Lo->DH->(List D->(DH->Prop)->DH->Prop)->Prop
structure Goes (K:Fg) (H1:Hp) (J:It) (ds:List D) (ok:DH->Prop):Prop where
 go:∀ i d S2 H2,ds[i]?=some d->Kp H1 H2->Hs K H2 S2->ok S2->J.go i H2/\∀ x H',J.yld i H2 x H'->Kp H2 H'/\Hs K H' S2/\IsD K H' d x
 stop:∀ S2 H2,Kp H1 H2->Hs K H2 S2->ok S2->J.stop ds.length H2
def upI (K:Fg) (g:DSrc):TI:=fun σ H R=>∃ L S k,Lc K H L σ/\Hs K H S/\g L S k/\∀ ds ok S' H' J,k ds ok S'->Kp H H'->Lc K H' L σ->Hs K H' S'->Goes K H' J ds ok->R J H'
structure IJ (X:Cx) (tg iter:Expr) (g:DSrc):Prop where
 h:PI X tg iter (upI X.K g)
def dForI (gi:DSrc) (g:DG) (b:DS):DS:=fun M L S=>gi L S fun ds ok S1=>dLoop ok g b M ds L S1
def dCompI (cap:List (Option Nat)) (gi:DSrc) (g:DG) (bd:DB):DE:=fun L S k=>gi L S fun ds ok S1=>∀ p,S1 p=none->dCLoop ok p g bd k ds [] (capL cap L) (put S1 p (.lst []))
section
variable {K:Fg} {ok:DH->Prop} {gg:DG} {ge:DE} {gc:DT} {k:DK} {ds:List D} {L:Lo} {S:DH} {σ:L2.St} {H:Hp} {J:It} {p:Addr} {Q:V->Hp->Prop}
theorem comp_coreIfG (hL:Lc K H L σ) (hS:Hs K H S) (hp:H p=none) (h:dCLoop ok p gg (bdIf gc ge) k ds [] L (put S p (.lst [])))
  (n:∀ d S' v H',k d S'->Kp H H'->Hs K H' S'->IsD K H' d v->Q v H') (G:Goes K H J ds ok):
  ∃ W:Nat->Nat->L2.St->Hp->Prop,(∃ m,W 0 m σ (upd H p (.lst [])))/\∀ i m σ' H',W i m σ' H'->
   (J.stop i H'/\Q (.ref p) H')\/(J.go i H'/\∃ N:L2.St->Hp->Prop,(∀ σ2 H2,N σ2 H2->∃ m',m' < m/\W (i+1) m' σ2 H2)/\∀ x H2,J.yld i H' x H2->upG K gg x σ' H2 fun σ3 H3=>upT K gc σ3 H3 fun b H3'=>if b=true then up K ge σ3 H3' fun v H4=>∃ ys,H4 p=some (.lst ys)/\ys.length < sizeLine/\N σ3 (upd H4 p (.lst (ys++[v]))) else N σ3 H3'):=by
 refine⟨fun i m σ1 H1=>m=ds.length - i/\i<=ds.length/\∃ acc L1 S1,Lc K H1 L1 σ1/\Hs K H1 S1/\Kp H H1/\dCLoop ok p gg (bdIf gc ge) k (ds.drop i) acc L1 S1,⟨ds.length,by simp,Nat.zero_le _,[],L,_,hL.kp (Kp.new hp),hS.newL hp IsDs.nil,Kp.new hp,h⟩,?_⟩
 rintro i m σ1 H1 ⟨rfl,hi,acc,L1,S1,hL1,hS1,k1,w1⟩
 by_cases hlt:i < ds.length
 ·have e:ds.drop i=ds[i]::ds.drop (i+1):=List.drop_eq_getElem_cons hlt
  rw [e] at w1
  obtain⟨o1,w1⟩:=w1
  obtain⟨g1,y1⟩:=G.go i ds[i] S1 H1 (by simp [hlt]) k1 hS1 o1
  refine .inr ⟨g1,fun σ' H'=>i+1<=ds.length/\∃ acc L' S',Lc K H' L' σ'/\Hs K H' S'/\Kp H H'/\dCLoop ok p gg (bdIf gc ge) k (ds.drop (i+1)) acc L' S',fun σ' H' ⟨q1,q2⟩=>⟨ds.length - (i+1),by omega,rfl,q1,q2⟩,fun x H' y=>?_⟩
  obtain⟨k0,hS0,ix⟩:=y1 x H' y
  refine⟨ds[i],L1,S1,_,ix,hL1.kp k0,hS0,w1,fun L2 S2 σ2 H2 q k2 hL2 hS2=>upT.go hL2 hS2 q fun b S2' H2' h2 k2' hL2' hS2'=>?_⟩
  have kk:=((k1.trans k0).trans k2).trans k2'
  cases b with
  | true=>
   rw [if_pos rfl] at h2 ⊢
   refine up.go hL2' hS2' h2 fun d S3 v H3 h3 k3 hL3 hS3 i3=>?_
   obtain⟨z1,z2,z3⟩:=h3
   obtain⟨xs,hl,j⟩:=hS3.lst z1
   have k4:Kp H3 (upd H3 p (.lst (xs++[v]))):=Kp.mut hl (fun z=>z)
   exact⟨xs,hl,by rw [<- j.length]; exact z2,hlt,_,L2,_,hL3.kp k4,hS3.setL hl (j.append (IsDs.cons i3 IsDs.nil)),(kk.trans k3).trans k4,z3⟩
  | false=>
   rw [if_neg Bool.false_ne_true] at h2 ⊢
   exact⟨hlt,acc,L2,_,hL2',hS2',kk,h2⟩
 ·have e:i=ds.length:=by omega
  subst e
  rw [List.drop_length] at w1
  obtain⟨o1,w1⟩:=w1
  exact .inl ⟨G.stop S1 H1 k1 hS1 o1,n _ S1 _ H1 w1 k1 hS1 (isRef.mpr rfl)⟩
end
section
variable {X:Cx} {tg iter elt c:Expr} {gi:DSrc} {gg:DG} {g:DS} {ge:DE} {gc:DT} {body:List Stmt} {pos:Pos} {scope:Scope} {cl:List (Str×Addr)} {N:List Str} {cap:List (Option Nat)}
theorem dst_forIj (hp:PassesOwn (model X.prog X.w) X.A X.env X.xe) (hc:X.calm=true) (hi:IJ X tg iter gi) (hg:GJ X tg gg) (hb:SsJ X body g) (hs:∀ x,foldedSetIterable iter X.env x=pure x:=by intro _; rfl):
  SJ X (.For tg iter body [] pos) (dForI gi gg g):=
 ⟨PS.imp (ps_for hp hc hi.h hg.h hb.h hs) fun N σ H ⟨L,S,M,hL,hS,h,r⟩=>⟨L,S,_,hL,hS,h,fun ds ok S1 H1 J h1 k1 hL1 hS1 G=>for_coreG hL1 hS1 h1 (r.kp k1) G.go G.stop⟩⟩
theorem compI_go {K:Fg}:∀ σ H Q,up K (dCompI cap gi gg (bdAll ge)) σ H Q->tComp cap (upI K gi) (upG K gg) (up K ge) σ H Q:=fun σ H Q ⟨L,S,k,hL,hS,h,n⟩=>
 ⟨L,S,_,hL,hS,h,fun ds ok S1 H1 J h1 k1 hL1 hS1 G D hD=>comp_coreG (hL1.cap cap) hS1 hD (h1 D (hS1.free hD)) (fun d S' v H' q k3=>n d S' v H' q (k1.trans k3)) G.go G.stop⟩
theorem compIIf_go {K:Fg}:∀ σ H Q,up K (dCompI cap gi gg (bdIf gc ge)) σ H Q->tCompIf cap (upI K gi) (upG K gg) (upT K gc) (up K ge) σ H Q:=fun σ H Q ⟨L,S,k,hL,hS,h,n⟩=>
 ⟨L,S,_,hL,hS,h,fun ds ok S1 H1 J h1 k1 hL1 hS1 G D hD=>comp_coreIfG (hL1.cap cap) hS1 hD (h1 D (hS1.free hD)) (fun d S' v H' q k3=>n d S' v H' q (k1.trans k3)) G⟩
theorem d_compIj (hc:X.calm=true) (Sc:CompSc X scope cl N cap) (hi:IJ X tg iter gi) (hg:∀ s0 H0 ex C,GJ (cxC X scope cl N s0 H0 ex C) tg gg) (he:∀ s0 H0 ex C,EJ (cxC X scope cl N s0 H0 ex C) elt ge)
  (hs:∀ x,foldedSetIterable iter X.env x=pure x:=by intro _; rfl):EJ X (.ListComp elt [⟨tg,iter,[],0⟩] scope pos) (dCompI cap gi gg (bdAll ge)):=
 ⟨PE.imp (pe_comp hc Sc hi.h (fun s0 H0 ex C=>(hg s0 H0 ex C).h) (fun s0 H0 ex C=>(he s0 H0 ex C).h) hs) compI_go⟩
theorem d_compIIfj (hc:X.calm=true) (Sc:CompSc X scope cl N cap) (hi:IJ X tg iter gi) (hg:∀ s0 H0 ex C,GJ (cxC X scope cl N s0 H0 ex C) tg gg) (hcnd:∀ s0 H0 ex C,TJ (cxC X scope cl N s0 H0 ex C) c gc) (he:∀ s0 H0 ex C,EJ (cxC X scope cl N s0 H0 ex C) elt ge)
  (hs:∀ x,foldedSetIterable iter X.env x=pure x:=by intro _; rfl):EJ X (.ListComp elt [⟨tg,iter,[c],0⟩] scope pos) (dCompI cap gi gg (bdIf gc ge)):=
 ⟨PE.imp (pe_compIf hc Sc hi.h (fun s0 H0 ex C=>(hg s0 H0 ex C).h) (fun s0 H0 ex C=>(hcnd s0 H0 ex C).h) (fun s0 H0 ex C=>(he s0 H0 ex C).h) hs) compIIf_go⟩
end
def outD (c:DIt) (kvs:List (List Int×D)):List D:=kvs.map fun p=>match c with
 | .k=>keyD p.1
 | .v=>p.2
def pairsD (kvs:List (List Int×D)):List D:=kvs.map fun p=>.tup [keyD p.1,p.2]
def srcD (gi:DE) (f:List (List Int×D)->List D):DSrc:=fun L S k=>gi L S fun d S1=>match d with
 | .ref a=>∃ kvs ep,S1 a=some (.gen (.dT kvs ep))/\k (f kvs) (fun S=>S a=some (.gen (.dT kvs ep))) S1
 | _=>False
theorem goes_dict (c:DIt) {K:Fg} {H1:Hp} {a:Addr} {kvs:List (List Int×D)} {ep:Nat}:Goes K H1 (Itd c a ep kvs.length) (outD c kvs) (fun S=>S a=some (.gen (.dT kvs ep))) where
 go:=fun i d S2 H2 e k2 hS2 ok=>by
  obtain⟨xs,e1,r1⟩:=hS2.dT ok
  unfold outD at e
  rw [List.getElem?_map] at e
  obtain⟨p,hp,rfl⟩:=Option.map_eq_some_iff.mp e
  obtain⟨q,hq,h1,h2,v,h3,h4⟩:=r1.at_ hp
  cases c with
  | k=>
   refine⟨⟨xs,q,.ref q.2.1,e1,hq,r1.length.symm,rfl⟩,?_⟩
   rintro x H' ⟨rfl,al⟩
   obtain⟨q',hq',rv⟩:=al xs e1
   rw [hq] at hq'
   cases hq'
   rw [RelV.inj (show RelV x (Value.ref q.2.1) from rv) (show RelV (.ref q.2.1) (Value.ref q.2.1) from rfl)]
   exact⟨Kp.refl _,hS2,isKey.mpr ⟨_,rfl,h2⟩⟩
  | v=>
   refine⟨⟨xs,q,v,e1,hq,r1.length.symm,h3⟩,?_⟩
   rintro x H' ⟨rfl,al⟩
   obtain⟨q',hq',rv⟩:=al xs e1
   rw [hq] at hq'
   cases hq'
   rw [RelV.inj (show RelV x q.2.2 from rv) h3]
   exact⟨Kp.refl _,hS2,h4⟩
 stop:=fun S2 H2 k2 hS2 ok=>by
  obtain⟨xs,e1,r1⟩:=hS2.dT ok
  exact⟨xs,e1,r1.length.symm,by unfold outD; rw [List.length_map]; exact Nat.le_refl _⟩
theorem goes_pairs {K:Fg} {H1:Hp} {a:Addr} {kvs:List (List Int×D)} {ep:Nat}:Goes K H1 (Iti a ep kvs.length) (pairsD kvs) (fun S=>S a=some (.gen (.dT kvs ep))) where
 go:=fun i d S2 H2 e k2 hS2 ok=>by
  obtain⟨xs,e1,r1⟩:=hS2.dT ok
  unfold pairsD at e
  rw [List.getElem?_map] at e
  obtain⟨p,hp,rfl⟩:=Option.map_eq_some_iff.mp e
  obtain⟨q,hq,h1,h2,v,h3,h4⟩:=r1.at_ hp
  refine⟨⟨xs,q,v,e1,hq,r1.length.symm,h3⟩,?_⟩
  rintro x H' ⟨T,b,v',rfl,hT,rfl,al⟩
  obtain⟨q',hq',rfl,rv⟩:=al xs e1
  rw [hq] at hq'
  cases hq'
  rw [RelV.inj rv h3]
  have kn:Kp H2 (upd H2 T (.tup [.ref q.2.1,v])):=Kp.new hT
  exact⟨kn,hS2.new hT,isTup.mpr ⟨T,_,rfl,SqT.of upd_same,IsDs.cons (isKey.mpr ⟨_,rfl,kn.tup h2⟩) (IsDs.cons (h4.kp kn) IsDs.nil)⟩⟩
 stop:=fun S2 H2 k2 hS2 ok=>by
  obtain⟨xs,e1,r1⟩:=hS2.dT ok
  exact⟨xs,e1,r1.length.symm,by unfold pairsD; rw [List.length_map]; exact Nat.le_refl _⟩
section
variable {X:Cx} {tg o:Expr} {go:DE} {apos cpos:Pos}
theorem i_keysj (ho:EJ X o go):IJ X tg o (srcD go (outD .k)):=⟨PI.imp (pi_dict ho.h) fun σ H R ⟨L,S,k,hL,hS,h,n⟩=>up.go hL hS h fun d S1 v H1 h1 k1 hL1 hS1 i1=>by
  cases d with
  | ref a=>
   obtain⟨kvs,ep,g1,h1⟩:=h1
   obtain⟨xs,e1,r1⟩:=hS1.dT g1
   have ex:=isRef.mp i1
   subst ex
   exact⟨a,ep,xs,rfl,e1,n _ _ _ _ _ h1 k1 hL1 hS1 (r1.length▸goes_dict .k)⟩
  | _=>exact(show False from h1).elim⟩
theorem i_valsj (ho:EJ X o go) (hbase:attributeBase o "values" X.env (eval o X.env)=eval o X.env:=by rfl) (hline:(apos.endLine == cpos.line)=true:=by rfl):IJ X tg (.Call (.Attribute o "values" apos) [] [] cpos) (srcD go (outD .v)):=⟨PI.imp (pi_vals ho.h hbase hline) fun σ H R ⟨L,S,k,hL,hS,h,n⟩=>up.go hL hS h fun d S1 v H1 h1 k1 hL1 hS1 i1=>by
  cases d with
  | ref a=>
   obtain⟨kvs,ep,g1,h1⟩:=h1
   obtain⟨xs,e1,r1⟩:=hS1.dT g1
   have ex:=isRef.mp i1
   subst ex
   exact⟨a,ep,xs,rfl,e1,n _ _ _ _ _ h1 k1 hL1 hS1 (r1.length▸goes_dict .v)⟩
  | _=>exact(show False from h1).elim⟩
theorem i_itemsj {es:List Expr} {k:Nat} {pos:Pos} (ho:EJ X o go) (hbase:attributeBase o "items" X.env (eval o X.env)=eval o X.env:=by rfl) (hline:(apos.endLine == cpos.line)=true:=by rfl):IJ X (.Tuple es k pos) (.Call (.Attribute o "items" apos) [] [] cpos) (srcD go pairsD):=⟨PI.imp (pi_items ho.h hbase hline) fun σ H R ⟨L,S,k,hL,hS,h,n⟩=>up.go hL hS h fun d S1 v H1 h1 k1 hL1 hS1 i1=>by
  cases d with
  | ref a=>
   obtain⟨kvs,ep,g1,h1⟩:=h1
   obtain⟨xs,e1,r1⟩:=hS1.dT g1
   have ex:=isRef.mp i1
   subst ex
   exact⟨a,ep,xs,rfl,e1,n _ _ _ _ _ h1 k1 hL1 hS1 (r1.length▸goes_pairs)⟩
  | _=>exact(show False from h1).elim⟩
end
section
variable {X:Cx} {o e f:Expr} {go ge gf:DE} {to te tf:TE} {apos cpos:Pos}
def tGet2X (K:Fg) (to te tf:TE):TE:=fun σ H Q=>to σ H fun x H1=>∃ a xs ep,x=.ref a/\H1 a=some (.ext (DxP a xs ep))/\te σ H1 fun y H2=>tf σ H2 fun z H3=>∃ b kvs xs ep ks v,y=.ref b/\H3 a=some (.ext (DxP a xs ep))/\KtR K H3 kvs xs/\SqT K H3 b (ks.map V.int)/\(∀ r,RelV z r->RelV v (((atKey xs ks).map (·.2)).getD r))/\Q v H3
theorem pe_get2X {n:Nat} (hr:Room n X.A) (ho:PE X o to) (he:PE X e te) (hf:PE X f tf) (m:M2 X o "get" apos e f cpos):PE X (.Call (.Attribute o "get" apos) [e,f] [] cpos) (tGet2X X.K to te tf):=by
 intro pins s σ H Q I h
 refine wpAny_Call_method m.base m.few m.line PySem.F.plainAttrs_dict PySem.F.slot_dict_get PySem.F.type_dict_get (thn (ho pins s σ H _ I h) fun u s1 ⟨x,H1,I1,rx,a,xs,ep,ex,e1,q1⟩=>?_)
 subst ex
 obtain rfl:u=Value.ref a:=rx
 have g:=(dxp_at I1 e1).2.2.2
 refine⟨⟨_,g,rfl⟩,fun b eb=>by cases eb; exact⟨_,g,rfl⟩,?_⟩
 rw [m.trees]
 refine Calls.callWith_builtin rfl (Calls.evalArgs_plain (Calls.spliced_cons (thn (he pins s1 σ H1 _ I1 q1) fun iv s2 ⟨y,H2,I2,ry,q2⟩=>Calls.spliced_cons (thn (hf pins s2 σ H2 _ I2 q2) fun r s3 ⟨z,H3,I3,rz,b,kvs,xs,ep,ks,v,ey,e3,r3,t3,g3,q3⟩=>Calls.spliced_nil ?_))))
 subst ey
 cases (show iv=Value.ref b from ry)
 have dd:=dx_of I3 e3 r3
 exact call_meetsIn PySem.F.slot_dict_get dd.typeIs PySem.F.entry_dict_get (PySem.F.args_dict_get_3 _ _ _) (meetsH_dict_get_default (tupleKind (intKind X.prog X.w)) a b (dxp_at I3 e3).1 r) ⟨tupleKind_room_in1 (un1 hr),ks,xs,key_int I3 t3,dd,v,H3,I3.tok _,g3 r rz,q3⟩
def dGet2 (go ge gf:DE):DE:=fun L S k=>go L S fun d S1=>match d with
 | .ref a=>(∃ kvs ep,S1 a=some (.gen (.dT kvs ep)))/\ge L S1 fun y S2=>gf L S2 fun z S3=>∃ kvs ep ks,S3 a=some (.gen (.dT kvs ep))/\y=keyD ks/\k ((getT kvs ks).getD z) S3
 | _=>False
theorem d_get2j {n:Nat} (hr:Room n X.A) (ho:EJ X o go) (he:EJ X e ge) (hf:EJ X f gf) (m:M2 X o "get" apos e f cpos:=by exact⟨rfl,rfl,rfl,rfl⟩):EJ X (.Call (.Attribute o "get" apos) [e,f] [] cpos) (dGet2 go ge gf):=
 ⟨PE.imp (pe_get2X hr ho.h he.h hf.h m) fun σ H Q ⟨L,S,k,hL,hS,h,n⟩=>up.go hL hS h fun d S1 x H1 h1 k1 hL1 hS1 i1=>by
  cases d with
  | ref a=>
   obtain⟨⟨kvs,ep,g1⟩,h1⟩:=h1
   obtain⟨xs,e1,_⟩:=hS1.dT g1
   have ex:=isRef.mp i1
   subst ex
   refine⟨a,xs,ep,rfl,e1,up.go hL1 hS1 h1 fun y S2 vy H2 h2 k2 hL2 hS2 i2=>up.go hL2 hS2 h2 fun z S3 vz H3 h3 k3 hL3 hS3 i3=>?_⟩
   obtain⟨kvs,ep,ks,g3,rfl,h3⟩:=h3
   obtain⟨xs,e3,r3⟩:=hS3.dT g3
   obtain⟨b,rfl,t3⟩:=isKey.mp (i2.kp k3)
   have kk:=(k1.trans k2).trans k3
   rcases r3.get ks with ⟨z1,z2⟩ | ⟨d,b',w,v,z1,z2,z3,z4⟩
   ·rw [z1] at h3
    exact⟨b,kvs,xs,ep,ks,vz,rfl,e3,r3,t3,fun r q=>by rw [z2]; exact q,n _ _ _ _ h3 kk hS3 i3⟩
   ·rw [z1] at h3
    exact⟨b,kvs,xs,ep,ks,v,rfl,e3,r3,t3,fun r q=>by rw [z2]; exact z3,n _ _ _ _ h3 kk hS3 z4⟩
  | _=>exact(show False from h1).elim⟩
def bLenD:DSp:=fun ds S k=>match ds with
 | [.ref a]=>∃ kvs ep,S a=some (.gen (.dT kvs ep))/\k (.int kvs.length) S
 | _=>False
theorem b_lenD:CallR X (.builtin "len") (upC X.K bLenD):=by
 intro pins s σ H xs us Q I rs h
 obtain⟨ds,S,k,i,hS,r,n⟩:=h
 unfold bLenD at r
 split at r
 ·rename_i a
  obtain⟨kvs,ep,g1,r⟩:=r
  obtain⟨v,rfl,j⟩:=isDs1 i
  have ex:=isRef.mp j
  subst ex
  obtain⟨ys,e1,r1⟩:=hS.dT g1
  obtain⟨u,rfl,ru⟩:=vals1 rs
  cases (show u=Value.ref a from ru)
  obtain⟨hd,z,_,g⟩:=dxp_at I e1
  have T:s.TypeIs (.ref a) "dict":=⟨_,g,rfl⟩
  have sz:(ys.map eT).toArray.size=kvs.length:=by simp [r1.length]
  have hl:(kvs.length:Int) < 2 ^ 63:=by rw [r1.length]; rw [sizeLine_eq] at z; omega
  refine PyProof.Rows.call_len_slot (n:=kvs.length) T F.slot_dict_len (fun Q' q=>call_meetsIn F.slot_dict_len T F.entry_dict_len (F.args_dict_len_1 _) (dLn a _ ep hd) ⟨g,?_⟩) (by omega) (by omega) ⟨.int kvs.length,H,I.tok _,⟨_,rfl⟩,n _ _ _ _ r (Kp.refl H) hS (isInt.mpr rfl)⟩
  rw [sz]
  exact q
 ·exact r.elim
end
abbrev DPs:=Lo->DH->(List (D×D)->DH->Prop)->Prop
def dpNil:DPs:=fun _ S k=>k [] S
def dpCons (gk gv:DE) (t:DPs):DPs:=fun L S k=>gk L S fun x S1=>gv L S1 fun y S2=>t L S2 fun ps S3=>k ((x,y)::ps) S3
abbrev IsPs (K:Fg) (H:Hp):List (D×D)->List (V×V)->Prop:=Paired fun d p=>IsD K H d.1 p.1/\IsD K H d.2 p.2
def upP (K:Fg) (t:DPs):L2.St->Hp->(List (V×V)->Hp->Prop)->Prop:=fun σ H Q=>∃ L S k,Lc K H L σ/\Hs K H S/\t L S k/\∀ ds S' ps H',k ds S'->Kp H H'->Hs K H' S'->IsPs K H' ds ps->Q ps H'
structure PJ (X:Cx) (pos:Pos) (keys:List (Option Expr)) (values:List Expr) (t:DPs):Prop where
 h:∀ (pins:List (Addr×Obj)) (s:Shared) (σ:L2.St) (H:Hp) (Q:List (V×V)->Hp->Prop),Inv X pins σ H s->upP X.K t σ H Q->
  wpAny (model X.prog X.w) X.A (evalPairs (pairTrees keys values X.env pos)) (fun vs s'=>∃ ps H',Inv X pins σ H' s'/\VV ps vs/\Q ps H') X.xe s
section
variable {X:Cx} {pos:Pos}
theorem pj_nil:PJ X pos [] [] dpNil:=⟨fun pins s σ H Q I ⟨L,S,k,hL,hS,h,n⟩=>pairTrees_nil_walk ⟨[],H,I,.nil,n [] S [] H h (Kp.refl H) hS .nil⟩⟩
theorem pj_cons {a b:Expr} {ks:List (Option Expr)} {vs:List Expr} {ga gb:DE} {t:DPs} (ha:EJ X a ga) (hb:EJ X b gb) (hr:PJ X pos ks vs t):PJ X pos (some a::ks) (b::vs) (dpCons ga gb t):=
 ⟨fun pins s σ H Q I ⟨L,S,k,hL,hS,h,n⟩=>by
  refine pairTrees_cons_walk (thn (ha.h pins s σ H (fun x H1=>up X.K gb σ H1 fun y H2=>upP X.K t σ H2 fun ps H3=>Q ((x,y)::ps) H3) I ?_) fun u s1 ⟨x,H1,I1,rx,q1⟩=>thn (hb.h pins s1 σ H1 _ I1 q1) fun w2 s2 ⟨y,H2,I2,ry,q2⟩=>
   thn (hr.h pins s2 σ H2 _ I2 q2) fun ws s3 ⟨ps,H3,I3,rel,q3⟩=>⟨(x,y)::ps,H3,I3,.cons ⟨rx,ry⟩ rel,q3⟩)
  exact up.go hL hS h fun d S1 v H1 h1 k1 hL1 hS1 i1=>up.go hL1 hS1 h1 fun e S2 u H2 h2 k2 hL2 hS2 i2=>⟨L,S2,_,hL2,hS2,h2,fun ds S3 ps H3 h3 k3 hS3 i3=>n _ S3 _ H3 h3 ((k1.trans k2).trans k3) hS3 (.cons ⟨i1.kp (k2.trans k3),i2.kp k3⟩ i3)⟩⟩
end
section
variable {prog:Program} {w:World} {A:Around} {E:Value->Shared->Prop} {d:Addr}
theorem store_all (hu:A.units < cLine):∀ (vs:List (Value×Value)) (ks acc:List (List Int×Addr×Value)) (s:Shared) (Q:PUnit->Shared->Prop),Paired (fun v k=>v.1=.ref k.2.1/\v.2=k.2.2) vs ks->
  (∀ k∈ks,(tupleKind (intKind prog w)).is s.heap k.1 k.2.1)->s.heap.DictOfH (tupleKind (intKind prog w)) d acc->acc.length+ks.length<=sizeLine->
  (∀ h' tk,h'.DictOfH (tupleKind (intKind prog w)) d (ks.foldl (fun acc k=>storedH acc k.1 k.2.1 k.2.2) acc)->Heap.SameBut d s.heap h'->Q PUnit.unit {s with heap:=h',toks:=tk})->
  wpAny (model prog w) A (forIn vs PUnit.unit fun(x:Value×Value) (_:PUnit)=>(do dictSet d x.1 x.2; pure (ForInStep.yield PUnit.unit):Sem (ForInStep PUnit))) Q E s
 | _,_,acc,s,Q,.nil,_,hm,_,hQ=>by
  rw [List.forIn_nil]
  exact wpAny_pure (hQ s.heap s.toks hm (Heap.SameBut.refl _ _))
 | (_,_)::vs,k::ks,acc,s,Q,.cons h t,hk,hm,hz,hQ=>by
  obtain⟨h1,h2⟩:=h
  simp only at h1 h2
  subst h1 h2
  rw [List.length_cons] at hz
  rw [List.forIn_cons]
  have hl:=storedH_len acc k.1 k.2.1 k.2.2
  refine wpAny_bind (wpAny_bind (wpAny_dictSet_heap (hsz:=by omega) (show (tupleKind (intKind prog w)).room A from hu) (hk k (by simp)) hm fun h1 m1 s1=>wpAny_pure (store_all hu vs ks (storedH acc k.1 k.2.1 k.2.2) _ Q t (fun q hq=>?_) m1 (by omega) fun h' tk m' s'=>hQ h' tk m' (s1.trans s'))))
  obtain⟨o,es,ep,g,_,dt,_⟩:=hm
  exact(tupleKind (intKind prog w)).keeps (hk q (by simp [hq])) g dt s1
end
def mergeT (acc kvs:List (List Int×D)):List (List Int×D):=kvs.foldl (fun acc kv=>putT acc kv.1 kv.2) acc
theorem KtR.merge {K:Fg} {H:Hp}:∀ {kvs:List (List Int×D)} {xs:List (List Int×Addr×Value)} {acc:List (List Int×D)} {ys:List (List Int×Addr×Value)},KtR K H kvs xs->KtR K H acc ys->KtR K H (mergeT acc kvs) (xs.foldl (fun acc k=>storedH acc k.1 k.2.1 k.2.2) ys)
 | _,_,_,_,.nil,r=>r
 | (k,d)::_,x::_,_,_,.cons h t,r=>by
  obtain⟨h1,h2,v,h3,h4⟩:=h
  simp only at h1
  subst h1
  rename_i t1 t2 a b
  exact KtR.merge (kvs:=t1) (xs:=t2) (acc:=putT a x.1 d) (ys:=storedH b x.1 x.2.1 x.2.2) t (r.put h2 h3 h4)
theorem foldH_len:∀ (ks acc:List (List Int×Addr×Value)),(ks.foldl (fun acc k=>storedH acc k.1 k.2.1 k.2.2) acc).length<=acc.length+ks.length
 | [],acc=>Nat.le_refl _
 | k::ks,acc=>by
  have h1:=foldH_len ks (storedH acc k.1 k.2.1 k.2.2)
  have h2:=storedH_len acc k.1 k.2.1 k.2.2
  rw [List.foldl_cons,List.length_cons]
  omega
theorem raw_of {K:Fg} {H:Hp}:∀ {kvs:List (List Int×D)} {ps:List (V×V)} {vs:List (Value×Value)},IsPs K H (kvs.map fun kv=>(keyD kv.1,kv.2)) ps->VV ps vs->∃ xs,KtR K H kvs xs/\Paired (fun v (k:List Int×Addr×Value)=>v.1=.ref k.2.1/\v.2=k.2.2) vs xs
 | [],_,_,r,q=>by rw [List.map_nil] at r; cases r; cases q; exact⟨[],.nil,.nil⟩
 | kv::kvs,_,_,r,q=>by
  rw [List.map_cons] at r
  cases r with
  | @cons _ p _ _ h t=>
   cases q with
   | @cons _ b _ _ h' t'=>
    obtain⟨xs,a1,a2⟩:=raw_of t t'
    obtain⟨c,e,t1⟩:=isKey.mp h.1
    have h1:=h'.1
    rw [e] at h1
    exact⟨(kv.1,c,b.2)::xs,.cons ⟨rfl,t1,p.2,h'.2,h.2⟩ a1,.cons ⟨h1,rfl⟩ a2⟩
def tDispX (K:Fg) (t:L2.St->Hp->(List (V×V)->Hp->Prop)->Prop):TE:=fun σ H Q=>∀ p,H p=none->t σ (upd H p (.ext (DxP p [] 0))) fun ps H2=>∃ ep,H2 p=some (.ext (DxP p [] ep))/\∃ kvs:List (List Int×D),IsPs K H2 (kvs.map fun kv=>(keyD kv.1,kv.2)) ps/\kvs.length<=15/\
 ∀ xs ep',KtR K H2 kvs xs->Q (.ref p) (upd H2 p (.ext (DxP p (xs.foldl (fun acc k=>storedH acc k.1 k.2.1 k.2.2) []) ep')))
theorem pe_dispX {X:Cx} {pos:Pos} {keys:List (Option Expr)} {values:List Expr} {t:DPs} {n:Nat} (hr:Room n X.A) (h:PJ X pos keys values t) (hall:keys.all (·.isSome)=true:=by rfl) (hl:keys.length=values.length:=by rfl) (h0:keys≠[]:=by simp)
  (h15:keys.length<=15:=by decide):PE X (.Dict keys values pos) (tDispX X.K (upP X.K t)):=by
 intro pins s σ H Q I q
 have hn:=I.hok.fresh (Nat.le_refl s.heap.objs.size)
 have hlen:=pairTrees_length keys values X.env pos hall hl
 have I1:=I.laid (a:=s.heap.objs.size) (o:=.ext (DxP s.heap.objs.size [] 0)) (h':=s.heap.push {cls:=.type "dict",data:=.dict #[]}) (t':=s.toks) (fun _ _ q=>Heap.get?_push_of_some _ q) (Nat.le_refl _) (ext_ok (dxp_empty s.heap I.big))
 rw [arm_eval_Dict,zip_pairTrees keys values X.env pos hall hl,dictDisplay_pairs _ (fun e=>h0 (by rw [e] at hlen; exact List.length_eq_zero_iff.mp hlen.symm)) (by omega)]
 refine wpAny_bind (wpAny_standAt (wpAny_bind ?_))
 unfold subDict
 refine wpAny_bind (wpAny_alloc (wpAny_bind (wpAny_holding ?_)))
 rw [if_pos (by omega)]
 refine wpAny_bind (thn (h.h pins _ σ _ _ I1 (q _ hn)) fun ws s2 ⟨ps,H2,I2,rel,ep,e2,kvs,r2,lk,q2⟩=>wpAny_holding (wpAny_bind ?_))
 obtain⟨xs,rx,rw'⟩:=raw_of r2 rel
 have hd:=(dxp_at I2 e2).1
 have hz:xs.length<=15:=by rw [<- rx.length]; exact lk
 refine store_all (Nat.lt_of_succ_lt (un1 hr)) ws xs [] s2 _ rw' (fun x hx=>?_) (dx_of I2 e2 (kvs:=[]) .nil) (by rw [sizeLine_eq,List.length_nil]; omega) fun h' tk dd' hs=>?_
 ·clear rw' hz q2
  clear r2 lk
  induction rx with
  | nil=>exact nomatch hx
  | @cons p q ps qs h t ih=>
   rcases List.mem_cons.mp hx with e | hx
   ·subst e
    rw [<- h.1]
    exact key_int I2 h.2.1
   ·exact ih hx
 ·have z':(xs.foldl (fun acc k=>storedH acc k.1 k.2.1 k.2.2) []).length<=sizeLine:=by have:=foldH_len xs []; rw [List.length_nil] at this; rw [sizeLine_eq]; omega
  obtain⟨ep',m⟩:=dxp_of hd z' dd'
  exact wpAny_pure (wpAny_pure (wpAny_pure ⟨.ref s.heap.objs.size,_,d_write (t':=tk) I2 (by rw [e2]; exact True.intro) hs ⟨_,m.2.2.2⟩ (ext_ok m),rfl,q2 xs ep' rx⟩))
def dDisp (t:DPs):DE:=fun L S k=>∀ p,S p=none->∀ ep,t L (put S p (.gen (.dT [] ep))) fun ds S2=>∃ ep' kvs,S2 p=some (.gen (.dT [] ep'))/\ds=kvs.map (fun (kv:List Int×D)=>(keyD kv.1,kv.2))/\kvs.length<=15/\∀ ep2,k (.ref p) (put S2 p (.gen (.dT (mergeT [] kvs) ep2)))
theorem d_dispj {X:Cx} {pos:Pos} {keys:List (Option Expr)} {values:List Expr} {t:DPs} {n:Nat} (hr:Room n X.A) (h:PJ X pos keys values t) (hall:keys.all (·.isSome)=true:=by rfl) (hl:keys.length=values.length:=by rfl) (h0:keys≠[]:=by simp)
  (h15:keys.length<=15:=by decide):EJ X (.Dict keys values pos) (dDisp t):=
 ⟨PE.imp (pe_dispX hr h hall hl h0 h15) fun σ H Q ⟨L,S,k,hL,hS,h,n⟩ p hp=>by
  refine⟨L,_,_,hL.kp (Kp.new hp),hS.newG (g:=.dT [] 0) hp ⟨[],upd_same,.nil⟩,h p (hS.free hp) 0,fun ds S2 ps H2 h2 k2 hS2 i2=>?_⟩
  obtain⟨ep',kvs,g2,rfl,lk,h2⟩:=h2
  obtain⟨ys,e2,r2⟩:=hS2.dT g2
  cases r2
  refine⟨ep',e2,kvs,i2,lk,fun xs ep2 rx=>?_⟩
  have k3:Kp H2 (upd H2 p (.ext (DxP p (xs.foldl (fun acc k=>storedH acc k.1 k.2.1 k.2.2) []) ep2))):=Kp.mut e2 (fun z=>z)
  exact n _ _ _ _ (h2 ep2) (((Kp.new hp).trans k2).trans k3) (hS2.setG e2 (fun z=>z) ⟨_,upd_same,(rx.merge .nil).kp k3⟩) (isRef.mpr rfl)⟩
end DL
namespace PySem
open Sem (wp)
open Builtin DL
section
variable {prog:Program} {w:World} {A:Around} {E:Value->Shared->Prop}
theorem lk_list_keys:typeLookup (.type "list") "keys"=pure none:=by rw [typeLookup_type,builtinLookup_eq_fast]; kernel_rfl
theorem keys_call {a:Addr} {xs:Array Value} {k:Nat} {u:Tok} {s:Shared} {R:Result->Shared->Prop} (hx:s.heap.get? a=some {cls:=.type "list",dict:=none,data:=.seq xs k,slots:=#[]}) (hA:A.handled=none)
  (h:∀ h' tk e,Heap.NewAttrErr s.heap h' e (.ref a) "keys"->R (.error (.ref e)) {s with heap:=h',toks:=tk}):codeAny (model prog w) A (.call (.builtin "list.__getattribute__") ⟨[.ref a,.str "keys" u],[]⟩) R s:=
 have T:s.TypeIs (.ref a) "list":=⟨_,hx,rfl⟩
 codeAny_call_builtin F.slot_list_getattribute.plain am_entry_list_getattribute (F.slot_list_getattribute.check _ _ _ _ _ _ _ _ T (F.args_list_getattribute_2 _ _) (meets_getattribute_miss_list a xs k #[] "keys" _ lk_list_keys (by decide) (by rw [sizeLine_eq]; decide) prog w A _ _ ⟨hx,hA,h⟩))
theorem keys_none {a:Addr} {xs:Array Value} {k:Nat} {s:Shared} {Q:Option Value->Shared->Prop} (hx:s.heap.get? a=some {cls:=.type "list",dict:=none,data:=.seq xs k,slots:=#[]}) (hA:A.handled=none)
  (h:∀ h' tk,(∀ b o,s.heap.get? b=some o->h'.get? b=some o)->Q none {s with heap:=h',toks:=tk}):wpAny (model prog w) A (getAttr? (.ref a) "keys") Q E s:=by
 obtain⟨hp,g,d,tk,os⟩:=s
 have hT:∀ tk',(⟨hp,g,d,tk',os⟩:Shared).TypeIs (.ref a) "list":=fun _=>⟨_,hx,rfl⟩
 have c1:=sub_AttributeError
 have c2:=F.slot_list_getattribute.lookup
 have c3:=F.slot_list_getattribute.bind (.ref a)
 have c4:=am_list_getattr_none
 unfold getAttr? getAttrBy? getAttrBy
 repeat (any_goals (first | assumption | exact hT _ | wp_step))
 refine keys_call (s:=⟨hp,g,d,tk+1,os⟩) hx hA fun h' tk' e ne=>?_
 obtain⟨t',u',he⟩:=ne.there
 have z:=h h' tk' ne.keeps
 show wpAny _ _ (getattributeRaised _ _ _ _ _ _ _) _ _ _
 unfold getattributeRaised
 repeat (any_goals (first | assumption | wp_step))
theorem ent_upd:entryFor table "dict.update.loop"=some Builtin.«dict.update.loop»:=entryFor_of_tree (by kernel_rfl)
theorem pln_upd:plainId "dict.update.loop"=true:=by decide +kernel
theorem loop_step {d it l T:Addr} {its:Array Value} {i n:Nat} {key val:Value} {s:Shared} {R:Result->Shared->Prop} {dd:Option Addr} {sl:Array (Option Value)} (hx:its[i]?=some (.ref T)) (st:s.heap.IsListIter it l i) (hl:s.heap.IsList l its)
  (hT:s.heap.get? T=some {cls:=.type "tuple",dict:=dd,data:=.seq #[key,val] n,slots:=sl}) (ne:T≠it)
  (h:∀ h',h'.IsListIter it l (i+1)->Heap.SameBut it s.heap h'->wpAny (model prog w) A.in1 (dictSet d key val) (fun _ s'=>codeAny (model prog w) A (.builtin "dict.update.loop" ⟨[.ref d,.ref it,rawInt ((i:Int)+1),.none],[]⟩) R s') (fun e s'=>R (.error e) s') {s with heap:=h'}):
  codeAny (model prog w) A (.builtin "dict.update.loop" ⟨[.ref d,.ref it,rawInt i,.none],[]⟩) R s:=by
 refine codeAny_builtin ent_upd ?_
 rw [Around.under_plainId pln_upd _]
 refine wpAny_bind (m:=pyNext (.ref it)) (wpAny_pyNext_list_item st hl hx fun h' st' sb=>?_)
 obtain⟨hp,g,dr,tk,os⟩:=s
 have hT':Heap.get? h' T=some {cls:=.type "tuple",dict:=dd,data:=.seq #[key,val] n,slots:=sl}:=(sb.2 T ne).trans hT
 have z:=h h' st' sb
 refine wpAny_bind (wpAny_holding (wpAny_bind (wpAny_tryCatch ?_)))
 repeat (any_goals (first | assumption | (with_reducible show wpAny _ _ (dictSet _ _ _) _ _ _; refine wpAny_mono z (fun _ s' q=>wpAny_pure ⟨plainId_quiet pln_upd _,q⟩) fun _ _ q=>q) | wp_step))
abbrev tkI (prog:Program) (w:World):HeapKind prog w (List Int):=tupleKind (intKind prog w)
theorem doh_keep {h h':Heap} {d it:Addr} {c:String} {acc:List (List Int×Addr×Value)} (m:h.DictOfH (tkI prog w) d acc) (ci:∃ o,h.get? it=some o/\o.cls=.type c) (nt:(Value.type "tuple" == Value.type c)=false) (hd:d≠it)
  (k:∀ b o,b≠it->h.get? b=some o->h'.get? b=some o):h'.DictOfH (tkI prog w) d acc:=by
 obtain⟨o,es,ep,g,e1,e2,e3,e4,nd⟩:=m
 refine⟨o,es,ep,k _ _ hd g,e1,e2,e3,fun x hx=>?_,nd⟩
 obtain⟨q,its,n,g1,g2,g3⟩:=e4 x hx
 refine⟨q,its,n,k _ _ (fun z=>?_) g1,g2,g3⟩
 obtain⟨q',y1,y2⟩:=ci
 rw [z,y1] at g1
 cases g1
 rw [y2] at g2
 rw [g2] at nt
 simp at nt
theorem upd_loop {d it l:Addr} {R:Result->Shared->Prop} (hu:A.units+1 < cLine) (hh:A.handled=none) (ts:List (Addr×List Int×Addr×Value)) (hd:d≠it) (hl:l≠it) (hld:l≠d):
  ∀ (k i:Nat) (s:Shared) (acc:List (List Int×Addr×Value)),ts.length - i=k->i<=ts.length->s.heap.IsListIter it l i->s.heap.IsList l (ts.map fun t=>Value.ref t.1).toArray->
  (∀ t∈ts,(∃ dd n sl,s.heap.get? t.1=some {cls:=.type "tuple",dict:=dd,data:=.seq #[.ref t.2.2.1,t.2.2.2] n,slots:=sl})/\(tkI prog w).is s.heap t.2.1 t.2.2.1)->
  s.heap.DictOfH (tkI prog w) d acc->acc.length+(ts.length - i)<=sizeLine->
  (∀ h' tk,(∀ b o,b≠it->b≠d->s.heap.get? b=some o->h'.get? b=some o)->h'.DictOfH (tkI prog w) d ((ts.drop i).foldl (fun acc t=>storedH acc t.2.1 t.2.2.1 t.2.2.2) acc)->R (.ok (.ret .none)) {s with heap:=h',toks:=tk})->
  codeAny (model prog w) A (.builtin "dict.update.loop" ⟨[.ref d,.ref it,rawInt i,.none],[]⟩) R s:=by
 intro k
 induction k with
 | zero=>
  intro i s acc hk hi st hL hts hm hz hR
  have e:i=ts.length:=by omega
  subst e
  refine codeAny_builtin ent_upd ?_
  rw [Around.under_plainId pln_upd _]
  have ci:∃ o,s.heap.get? it=some o/\o.cls=.type "list_iterator":=let ⟨o,a,b,_⟩:=st; ⟨o,a,b⟩
  refine wpAny_bind (m:=pyNext (.ref it)) (wpAny_pyNext_list_end (A:=A.in1) hh st hL (by simp) fun h' eb=>?_)
  have z:=hR h' s.toks (fun b o n1 _ x=>eb b o n1 x) (by rw [List.drop_length]; exact doh_keep hm ci (by decide) hd eb)
  exact wpAny_bind (wpAny_pure (wpAny_pure z))
 | succ k ih=>
  intro i s acc hk hi st hL hts hm hz hR
  have hlt:i < ts.length:=by omega
  have mem:ts[i]∈ts:=List.getElem_mem hlt
  obtain⟨⟨dd,n,sl,gT⟩,ik⟩:=hts _ mem
  have ci:∃ o,s.heap.get? it=some o/\o.cls=.type "list_iterator":=let ⟨o,a,b,_⟩:=st; ⟨o,a,b⟩
  have cd:∃ o,s.heap.get? d=some o/\o.cls=.type "dict":=let ⟨o,_,_,a,b,_⟩:=hm; ⟨o,a,b.1⟩
  have tni:∀ {b:Addr} {o:Obj},s.heap.get? b=some o->o.cls=.type "tuple"->b≠it:=fun g c z=>by
   obtain⟨q,y1,y2⟩:=ci
   rw [z,y1] at g
   cases g
   rw [y2] at c
   simp at c
  have tnd:∀ {b:Addr} {o:Obj},s.heap.get? b=some o->o.cls=.type "tuple"->b≠d:=fun g c z=>by
   obtain⟨q,y1,y2⟩:=cd
   rw [z,y1] at g
   cases g
   rw [y2] at c
   simp at c
  have hlen:=storedH_len acc ts[i].2.1 ts[i].2.2.1 ts[i].2.2.2
  refine loop_step (T:=ts[i].1) (by simp [hlt]) st hL gT (tni gT rfl) fun h1 st1 sb=>?_
  have kk:∀ b o,b≠it->s.heap.get? b=some o->h1.get? b=some o:=fun b o n1 x=>(sb.2 b n1).trans x
  have isk:∀ t∈ts,(tkI prog w).is h1 t.2.1 t.2.2.1:=fun t ht=>by
   obtain⟨q,its,m,g1,g2,g3⟩:=(hts t ht).2
   exact⟨q,its,m,kk _ _ (tni g1 g2) g1,g2,g3⟩
  have hm1:h1.DictOfH (tkI prog w) d acc:=doh_keep hm ci (by decide) hd kk
  refine wpAny_dictSet_heap (hsz:=by omega) (show (tkI prog w).room A.in1 from hu) (isk _ mem) hm1 fun h2 hm2 sb2=>?_
  have e:(rawInt ((i:Int)+1))=rawInt ((i+1:Nat):Int):=rfl
  rw [e]
  have k2:∀ b o,b≠d->h1.get? b=some o->h2.get? b=some o:=fun b o n1 x=>(sb2.2 b n1).trans x
  refine ih (i+1) _ _ (by omega) hlt (st1.at fun o x=>k2 _ _ (Ne.symm hd) x) ((hL.at fun o x=>kk _ _ hl x).at fun o x=>k2 _ _ hld x) (fun t ht=>?_) hm2 (by omega) fun h' tk q1 q2=>?_
  ·obtain⟨⟨dd,n,sl,g⟩,_⟩:=hts t ht
   obtain⟨o,es,ep,g',_,dt,_⟩:=hm1
   exact⟨⟨dd,n,sl,k2 _ _ (tnd g rfl) (kk _ _ (tni g rfl) g)⟩,(tkI prog w).keeps (isk t ht) g' dt sb2⟩
  ·refine hR h' tk (fun b o n1 n2 x=>q1 b o n1 n2 (k2 b o n2 (kk b o n1 x))) ?_
   rw [List.drop_eq_getElem_cons hlt,List.foldl_cons]
   exact q2
theorem call_dict_list {l:Addr} {s:Shared} {n:Nat} (hu:A.units+2 < cLine) (hh:A.handled=none) (hb:sysModules < s.heap.objs.size) (ts:List (Addr×List Int×Addr×Value)) {Q:Value->Shared->Prop}
  (gl:s.heap.get? l=some {cls:=.type "list",dict:=none,data:=.seq (ts.map fun t=>Value.ref t.1).toArray n,slots:=#[]})
  (hts:∀ t∈ts,(∃ dd n sl,s.heap.get? t.1=some {cls:=.type "tuple",dict:=dd,data:=.seq #[.ref t.2.2.1,t.2.2.2] n,slots:=sl})/\(tkI prog w).is s.heap t.2.1 t.2.2.1) (hz:ts.length<=sizeLine)
  (h:∀ h' tk,(∀ b o,s.heap.get? b=some o->h'.get? b=some o)->h'.DictOfH (tkI prog w) s.heap.objs.size (ts.foldl (fun acc t=>storedH acc t.2.1 t.2.2.1 t.2.2.2) [])->Q (.ref s.heap.objs.size) {s with heap:=h',toks:=tk}):
  wpAny (model prog w) A (call (.type "dict") [.ref l]) Q E s:=by
 refine callType_codes (Q₁:=fun ob s1=>ob=.ref s.heap.objs.size/\s1={s with heap:=s.heap.push {cls:=.type "dict",data:=.dict #[]}}) F.kt_called_dict (F.kt_typeCall_dict_1 _) F.entry_dict_init (kt_code_dict_new _ ⟨rfl,rfl⟩) ?_
 rintro ob s1 ⟨rfl,rfl⟩
 have hl:l < s.heap.objs.size:=Heap.lt_size gl
 have gl1:(s.heap.push {cls:=.type "dict",data:=.dict #[]}).get? l=some {cls:=.type "list",dict:=none,data:=.seq (ts.map fun t=>Value.ref t.1).toArray n,slots:=#[]}:=Heap.get?_push_of_some _ gl
 have gd1:(s.heap.push {cls:=.type "dict",data:=.dict #[]}).get? s.heap.objs.size=some (dxO #[] 0):=Heap.get?_push_size _ rfl
 refine⟨⟨_,gd1,rfl⟩,F.args_dict_init_2 _ _,?_⟩
 generalize hH:s.heap.push {cls:=.type "dict",data:=.dict #[]}=H1 at gl1 gd1
 have kH:∀ b o,s.heap.get? b=some o->H1.get? b=some o:=fun b o x=>by rw [<- hH]; exact Heap.get?_push_of_some _ x
 obtain⟨hp,g,dr,tk,os⟩:=s
 have T1:(⟨H1,g,dr,tk,os⟩:Shared).TypeIs (.ref hp.objs.size) "dict":=⟨_,gd1,rfl⟩
 have hT2:(⟨H1,g,dr,tk,os⟩:Shared).TypeIs (.ref l) "list":=⟨_,gl1,rfl⟩
 refine wpAny_bind (m:=Dict.selfAndRest "__init__" _) ?_
 unfold Dict.selfAndRest
 refine wpAny_bind (wpAny_notOrdered_dict T1 ?_)
 show wpAny _ _ (pure (hp.objs.size,[Value.ref l])) _ _ _
 refine wpAny_pure ?_
 show wpAny _ _ (Dict.updateFrom "dict.__init__" hp.objs.size (.ref l) [] .none) _ _ _
 unfold Dict.updateFrom
 refine wpAny_bind (wpAny_typeOf hT2 ?_)
 rw [if_pos (by decide)]
 refine wpAny_bind (keys_none (s:=⟨H1,g,dr,tk,os⟩) gl1 hh fun h' tk' kk=>?_)
 rw [if_pos (show (none:Option Value).isNone=true from rfl)]
 refine wpAny_bind (wpAny_rule (wpAny_bind ?_))
 have gl2:=kk _ _ gl1
 have gd2:=kk _ _ gd1
 have iL:h'.IsList l (ts.map fun t=>Value.ref t.1).toArray:=⟨_,gl2,rfl,_,rfl⟩
 refine wpAny_pyIter_list (s:=⟨h',g,dr,tk',os⟩) iL (wpAny_pure ⟨plainId_quiet pln_upd _,?_⟩)
 have z1:hp.objs.size < h'.objs.size:=Heap.lt_size gd2
 refine upd_loop (A:=A.in1) (by show A.units+1+1 < cLine; omega) hh ts (Nat.ne_of_lt z1) (Nat.ne_of_lt (Nat.lt_trans hl z1)) (Nat.ne_of_lt hl) ts.length 0 ⟨h'.push {cls:=.type "list_iterator",data:=.fields #[.ref l,.int 0 0]},g,dr,tk',os⟩ [] rfl (Nat.zero_le _) ⟨_,Heap.get?_push_size _ rfl,rfl,rfl⟩ (iL.push _) (fun t ht=>?_) ?_ (by rw [List.length_nil]; omega) fun h2 tk2 q1 q2=>⟨rfl,h h2 tk2 (fun b o x=>?_) q2⟩
 ·obtain⟨⟨dd,n',sl,g1⟩,o,its,m,g2,g3⟩:=hts t ht
  have up:∀ b o,hp.get? b=some o->(h'.push {cls:=.type "list_iterator",data:=.fields #[.ref l,.int 0 0]}).get? b=some o:=fun b o x=>Heap.get?_push_of_some _ (kk _ _ (kH _ _ x))
  exact⟨⟨dd,n',sl,up _ _ g1⟩,o,its,m,up _ _ g2,g3⟩
 ·exact⟨_,#[],0,Heap.get?_push_of_some _ gd2,⟨rfl,rfl,rfl⟩,rfl,rfl,(by intro x hx; simp at hx),List.nodup_nil⟩
 ·have b1:b < hp.objs.size:=Heap.lt_size x
  exact q1 b o (Nat.ne_of_lt (Nat.lt_trans b1 z1)) (Nat.ne_of_lt b1) (Heap.get?_push_of_some _ (kk _ _ (kH _ _ x)))
theorem hash_one (c:Int):∀ l:List DictEntry,(l.map (·.hash)).Nodup->(l.filter (·.hash == c)).length<=1
 | [],_=>Nat.zero_le _
 | e::l,h=>by
  rw [List.map_cons,List.nodup_cons] at h
  rw [List.filter_cons]
  by_cases q:(e.hash == c)=true
  ·rw [if_pos q]
   have z:l.filter (·.hash == c)=[]:=by
    rw [List.filter_eq_nil_iff]
    intro x hx y
    refine h.1 (List.mem_map.mpr ⟨x,hx,?_⟩)
    simp only [beq_iff_eq] at q y
    rw [q,y]
   rw [z]
   exact Nat.le_refl _
  ·rw [if_neg q]
   exact hash_one c l h.2
theorem entries_same {id:String} {o:Addr} {es:Array DictEntry} {ep:Nat} {s:Shared} {Q:Array DictEntry->Shared->Prop} (g:s.heap.get? o=some (dxO es ep)) (hk:∀ e∈es.toList,∃ b q,e.key=.ref b/\s.heap.get? b=some q/\q.cls=.type "tuple") (hn:(es.toList.map (·.hash)).Nodup) (h:Q es s):
  wpAny (model prog w) A (Dict.entriesForEmpty id o) Q E s:=by
 unfold Dict.entriesForEmpty
 refine wpAny_bind (wpAny_dictEntries g rfl ?_)
 refine wpAny_bind ?_
 rw [<- Array.forIn_toList]
 refine wpAny_forIn_list _ (fun rest _ s'=>s'=s/\∀ e∈rest,e∈es.toList) _ ?_ ?_ es.toList _ ⟨rfl,fun e he=>he⟩
 ·rintro e rest _ s' ⟨rfl,hr⟩
  have me:=hr e (by simp)
  obtain⟨b,q,kb,gb,cb⟩:=hk e me
  have one:¬ (es.filter (·.hash == e.hash)).size > 1:=by
   have z:=hash_one e.hash es.toList hn
   rw [<- Array.length_toList,Array.toList_filter]
   omega
  rw [kb]
  have T:s'.TypeIs (.ref b) "tuple":=⟨q,gb,cb⟩
  refine wpAny_bind (wpAny_bind (wpAny_specialOf T F.slot_tuple_eq.lookup (wpAny_pure ?_)))
  rw [if_pos (by decide),if_neg one]
  exact wpAny_pure ⟨rfl,fun x hx=>hr x (by simp [hx])⟩
 ·rintro _ s' ⟨rfl,_⟩
  exact wpAny_pure h
theorem merge_dx {d o:Addr} {es:Array DictEntry} {ep:Nat} {s:Shared} {Q:Unit->Shared->Prop} (ne:d≠o) (ho:(o == sysModules)=false) (gd:s.heap.get? d=some (dxO #[] 0)) (go:s.heap.get? o=some (dxO es ep))
  (hk:∀ e∈es.toList,∃ b q,e.key=.ref b/\s.heap.get? b=some q/\q.cls=.type "tuple") (hn:(es.toList.map (·.hash)).Nodup) (hz:es.size<=sizeLine) (h:∀ h' ep',h'.get? d=some (dxO es ep')->Heap.SameBut d s.heap h'->Q () {s with heap:=h'}):
  wpAny (model prog w) A (Dict.mergeDict "dict.__init__" d o) Q E s:=by
 have nb:(d == o)=false:=by simpa using ne
 unfold Dict.mergeDict Dict.showsAll
 rw [if_neg (by rw [nb]; exact Bool.false_ne_true),if_neg (by rw [ho]; exact Bool.false_ne_true)]
 refine wpAny_bind (wpAny_pure (wpAny_bind (wpAny_dictEntries go rfl ?_)))
 cases hes:es.toList with
 | nil=>
  have e0:es=#[]:=by cases es; simp at hes; rw [hes]
  subst e0
  have z:=h s.heap 0 gd (Heap.SameBut.refl _ _)
  dsimp only
  rw [if_neg (by simp)]
  refine wpAny_bind (wpAny_dictEpoch go rfl (wpAny_bind (wpAny_dictEntries go rfl ?_)))
  rw [Std.Legacy.Range.forIn_eq_forIn_range']
  exact wpAny_bind (wpAny_pure (wpAny_pure z))
 | cons e r=>
  obtain⟨b,q,kb,gb,cb⟩:=hk e (by rw [hes]; simp)
  have few:(es.size<=8 && es.all fun e=>(keyPart e.key).isSome)=false:=by
   have:(es.all fun e=>(keyPart e.key).isSome)=false:=by
    rw [<- Array.all_toList,hes,List.all_cons,kb]
    rfl
   rw [this,Bool.and_false]
  dsimp only
  rw [if_pos (by rw [few]; rfl)]
  refine wpAny_bind (wpAny_dictEntries gd rfl ?_)
  rw [if_pos (by rfl)]
  refine wpAny_bind (entries_same go (by rw [hes]; rw [hes] at hk; exact hk) hn ?_)
  have ne0:(!es.isEmpty)=true:=by
   cases es
   simp at hes
   rw [hes]
   rfl
  rw [if_pos ne0]
  have up:(s.heap.update d (Obj.mapDictKeys fun _=>es)).get? d=_:=Heap.get?_update_self (Obj.mapDictKeys fun _=>es) gd rfl
  refine wpAny_bind (wpAny_updateDictKeysTo gd rfl ?_ (Nat.le_succ_of_le hz))
  exact wpAny_pure (h _ _ up (Heap.SameBut.update ..))
theorem call_dict_dict {o:Addr} {es:Array DictEntry} {ep:Nat} {s:Shared} {Q:Value->Shared->Prop} (ho:(o == sysModules)=false) (go:s.heap.get? o=some (dxO es ep))
  (hk:∀ e∈es.toList,∃ b q,e.key=.ref b/\s.heap.get? b=some q/\q.cls=.type "tuple") (hn:(es.toList.map (·.hash)).Nodup) (hz:es.size<=sizeLine)
  (h:∀ h' ep',h'.get? s.heap.objs.size=some (dxO es ep')->(∀ b q,s.heap.get? b=some q->h'.get? b=some q)->Q (.ref s.heap.objs.size) {s with heap:=h'}):wpAny (model prog w) A (call (.type "dict") [.ref o]) Q E s:=by
 refine callType_codes (Q₁:=fun ob s1=>ob=.ref s.heap.objs.size/\s1={s with heap:=s.heap.push {cls:=.type "dict",data:=.dict #[]}}) F.kt_called_dict (F.kt_typeCall_dict_1 _) F.entry_dict_init (kt_code_dict_new _ ⟨rfl,rfl⟩) ?_
 rintro ob s1 ⟨rfl,rfl⟩
 have lo:o < s.heap.objs.size:=Heap.lt_size go
 have go1:=Heap.get?_push_of_some {cls:=.type "dict",data:=.dict #[]} go
 have gd1:(s.heap.push {cls:=.type "dict",data:=.dict #[]}).get? s.heap.objs.size=some (dxO #[] 0):=Heap.get?_push_size _ rfl
 have T1:({s with heap:=s.heap.push {cls:=.type "dict",data:=.dict #[]}}:Shared).TypeIs (.ref s.heap.objs.size) "dict":=⟨_,gd1,rfl⟩
 have T2:({s with heap:=s.heap.push {cls:=.type "dict",data:=.dict #[]}}:Shared).TypeIs (.ref o) "dict":=⟨_,go1,rfl⟩
 refine⟨T1,F.args_dict_init_2 _ _,wpAny_bind (m:=Dict.selfAndRest "__init__" _) ?_⟩
 unfold Dict.selfAndRest
 refine wpAny_bind (wpAny_notOrdered_dict T1 (wpAny_pure (a:=(s.heap.objs.size,[Value.ref o])) ?_))
 show wpAny _ _ (Dict.updateFrom "dict.__init__" s.heap.objs.size (.ref o) [] .none) _ _ _
 unfold Dict.updateFrom
 refine wpAny_bind (wpAny_typeOf T2 ?_)
 rw [if_neg (by decide)]
 refine wpAny_bind ?_
 unfold Dict.merge
 refine wpAny_bind ?_
 unfold Dict.readDirectly
 refine wpAny_bind (wpAny_isInstance T2 isSubtype_dict_dict ?_)
 rw [if_neg (by decide)]
 refine wpAny_bind (wpAny_specialOf T2 F.slot_dict_iter.lookup (wpAny_pure ?_))
 rw [if_pos (by decide)]
 refine wpAny_bind (wpAny_pure (merge_dx (Nat.ne_of_gt lo) ho gd1 go1 (fun e he=>?_) hn hz fun h' ep' g sb=>?_))
 ·obtain⟨b,q,x1,x2,x3⟩:=hk e he
  exact⟨b,q,x1,Heap.get?_push_of_some _ x2,x3⟩
 ·exact wpAny_bind (wpAny_pure (wpAny_pure ⟨rfl,h h' ep' g fun b q x=>(sb.2 b (Nat.ne_of_lt (Heap.lt_size x))).trans (Heap.get?_push_of_some _ x)⟩))
theorem dEqN (a b:Addr) (es es':Array DictEntry) (ep ep':Nat) (ha:(a == sysModules)=false) (hb:(b == sysModules)=false) (hz:es.size≠es'.size):
  MeetsIn prog w (Builtin.«dict.__eq__» ⟨[.ref a,.ref b],[]⟩) (fun _ R s=>s.heap.get? a=some (dxO es ep)/\s.heap.get? b=some (dxO es' ep')/\R (.ok (.ret (.bool false))) s):=
 .of_wp fun A R s h=>by
  obtain⟨hp,g,dr,tk,os⟩:=s
  obtain⟨h1,h2,h⟩:=h
  unfold dxO at h1 h2
  have f:=F.sub_dict_dict
  wp_walk
  exact⟨_,rfl,h⟩
end
section
variable {prog:Program} {w:World} {A:Around} {E:Value->Shared->Prop}
theorem tupGt (p q:Addr) (a b c d:Int) (t1 t2 t3 t4:Tok) (n n':Nat) (dd dd':Option Addr) (sl sl':Array (Option Value)):
  MeetsIn prog w (Builtin.«tuple.__gt__» ⟨[.ref p,.ref q],[]⟩) (fun A R s=>A.units+1 < cLine/\s.heap.get? p=some ⟨.type "tuple",dd,.seq #[.int a t1,.int b t2] n,sl⟩/\s.heap.get? q=some ⟨.type "tuple",dd',.seq #[.int c t3,.int d t4] n',sl'⟩/\
   R (.ok (.ret (.bool (decide (c < a) || (decide (a=c) && decide (d < b)))))) s):=
 .of_wp fun A R s h=>by
  obtain⟨hp,g,dr,tk,os⟩:=s
  obtain⟨hu,h1,h2,h⟩:=h
  have f:=AutoSeq1.sub_tuple_tuple
  have stp:∀ {x y:Int} {u v:Tok} {Q:Bool->Shared->Prop} {s:Shared},Q (x == y) s->wpAny (model prog w) A.in1 (eqBool (.int x u) (.int y v)) Q (fun e s'=>R (.error e) s') s:=fun h=>wpAny_eqBool_int h
  have gtp:∀ {x y:Int} {u v:Tok} {Q:Value->Shared->Prop} {s:Shared},Q (.bool (decide (y < x))) s->wpAny (model prog w) A.in1 (richCompare .Gt (.int x u) (.int y v)) Q (fun e s'=>R (.error e) s') s:=fun h=>PyProof.Rows.gt_int h
  by_cases e1:a=c
  ·subst e1
   by_cases e2:b=d
   ·subst e2
    repeat (any_goals (first | assumption | (with_reducible refine stp ?_) | (with_reducible refine gtp ?_) | wp_step))
    refine⟨_,rfl,?_⟩
    simp only [Int.lt_irrefl,decide_false,Bool.and_false,Bool.or_false] at h
    exact h
   ·have e3:(b == d)=false:=by simpa using e2
    repeat (any_goals (first | assumption | (with_reducible refine stp ?_) | (with_reducible refine gtp ?_) | wp_step))
    refine⟨_,rfl,?_⟩
    simp only [Int.lt_irrefl,decide_false,Bool.false_or,decide_true,Bool.true_and] at h
    exact h
  ·have e3:(a == c)=false:=by simpa using e1
   repeat (any_goals (first | assumption | (with_reducible refine stp ?_) | (with_reducible refine gtp ?_) | wp_step))
   refine⟨_,rfl,?_⟩
   simp only [decide_eq_false e1,Bool.false_and,Bool.or_false] at h
   exact h
theorem mx_loop {I S:Addr} {fp wr:List Addr} {n:Nat} {P:Nat->Value->Prop} {St:Nat->Heap->Prop} {R:Result->Shared->Prop} (W:Walks prog w A.in1 I fp wr n P St) (bt:Nat->Nat->Bool) (Φ:Heap->Prop) (hS:S∉fp)
  (kΦ:∀ h h',Φ h->(∀ b o,b∉wr->b≠S->h.get? b=some o->h'.get? b=some o)->Φ h')
  (cmp:∀ i j u v (s:Shared) (Q:Value->Shared->Prop) (E:Value->Shared->Prop),Φ s.heap->P i u->P j v->Q (.bool (bt i j)) s->wpAny (model prog w) A.in1 (richCompare .Gt u v) Q E s):
  ∀ (k j:Nat) (s:Shared) (vb:Value) (c:Nat),n - (j+1)=k->j+1<=n->Φ s.heap->St (j+1) s.heap->P (argBest bt j) vb->s.heap.get? S=some {cls:=.type "list",dict:=none,data:=.seq #[vb,vb] c,slots:=#[]}->
  (∀ v h' tk,P (argBest bt (n - 1)) v->(∀ b o,b∉wr->b≠S->s.heap.get? b=some o->h'.get? b=some o)->R (.ok (.ret v)) {s with heap:=h',toks:=tk})->codeAny (model prog w) A (.builtin "max.loop" ⟨[.ref I,.none,.ref S],[]⟩) R s:=by
 have nw:S∉wr:=fun z=>hS (W.sub _ z)
 have nm:((toString "max"++toString ".loop":String))="max.loop":=by decide
 intro k
 induction k with
 | zero=>
  intro j s vb c hk hj ph st pb gS fin
  have ej:n=j+1:=by omega
  refine codeAny_builtin F.entry_max_loop ?_
  rw [Around.under_plainId F.plain_max_loop _]
  refine wpAny_bind (m:=seqItems? (.ref S)) (wpAny_seqItems gS rfl (wpAny_bind (wpAny_tryCatch (m:=pyNext (.ref I)) (W.done s _ _ (by rw [ej]; exact st) fun h' tk far=>?_))))
  have g1:=far S _ nw gS
  refine wpAny_bind (m:=updateSeq S fun _=>#[]) (wpAny_updateSeq g1 rfl (wpAny_bind (wpAny_letGo (wpAny_pure (fin vb _ tk (by rw [ej]; exact pb) fun b o n1 n2 x=>?_)))))
  exact(Heap.get?_update_other _ _ (Ne.symm n2)).trans (far b o n1 x)
 | succ k ih=>
  intro j s vb c hk hj ph st pb gS fin
  have lt:j+1 < n:=by omega
  refine codeAny_builtin F.entry_max_loop ?_
  rw [Around.under_plainId F.plain_max_loop _]
  refine wpAny_bind (m:=seqItems? (.ref S)) (wpAny_seqItems gS rfl (wpAny_bind (wpAny_tryCatch (m:=pyNext (.ref I)) (W.item (j+1) s _ _ lt st fun v h' tk pv st1 far=>?_))))
  have g1:=far S _ nw gS
  have ph1:=kΦ _ _ ph fun b o n1 _ x=>far b o n1 x
  refine wpAny_bind (wpAny_pure (wpAny_bind (wpAny_tryCatch (wpAny_holding (wpAny_bind (m:=richCompare .Gt v vb) (cmp (j+1) (argBest bt j) v vb _ _ _ ph1 pv pb (wpAny_bind (wpAny_holding (wpAny_truthy_bool (wpAny_bind (wpAny_letGo (wpAny_pure ?_))))))))))))
  by_cases hb:bt (j+1) (argBest bt j)=true
  ·rw [hb,if_pos rfl]
   refine wpAny_bind (m:=updateSeq S fun _=>#[v,v]) (wpAny_updateSeq g1 rfl (wpAny_bind (wpAny_letGo ?_)))
   have oth:∀ b o,b≠S->h'.get? b=some o->(h'.update S (Obj.mapSeq fun _=>#[v,v])).get? b=some o:=fun b o n2 x=>(Heap.get?_update_other _ _ (Ne.symm n2)).trans x
   rw [nm]
   refine wpAny_pure ⟨plainId_quiet F.plain_max_loop _,ih (j+1) _ v _ (by omega) lt (kΦ _ _ ph1 fun b o _ n2 x=>oth b o n2 x) (W.frame _ _ _ st1 fun b hb' o x=>oth b o (fun z=>hS (z▸hb')) x) (by unfold argBest; rw [hb,if_pos rfl]; exact pv) (Heap.get?_update_self _ g1 rfl) fun u h2 tk2 pu far2=>?_⟩
   exact fin u h2 tk2 pu fun b o n1 n2 x=>far2 b o n1 n2 (oth b o n2 (far b o n1 x))
  ·have hb':bt (j+1) (argBest bt j)=false:=by simpa using hb
   rw [hb',if_neg Bool.false_ne_true]
   refine wpAny_bind (wpAny_letGo ?_)
   rw [nm]
   refine wpAny_pure ⟨plainId_quiet F.plain_max_loop _,ih (j+1) _ vb c (by omega) lt ph1 st1 (by unfold argBest; rw [hb',if_neg Bool.false_ne_true]; exact pb) g1 fun u h2 tk2 pu far2=>?_⟩
   exact fin u h2 tk2 pu fun b o n1 n2 x=>far2 b o n1 n2 (far b o n1 x)
theorem mx_call {x:Value} {s:Shared} {Q:Value->Shared->Prop} (h:wpAny (model prog w) A.in1 (pyIter x) (fun it s2=>∃ I fp wr n P St bt,∃ Φ:Heap->Prop,it=.ref I/\Walks prog w A.in1 I fp wr n P St/\St 0 s2.heap/\(∀ b∈fp,b < s2.heap.objs.size)/\0 < n/\Φ s2.heap/\
   (∀ S,s2.heap.objs.size<=S->∀ h h',Φ h->(∀ b o,b∉wr->b≠S->h.get? b=some o->h'.get? b=some o)->Φ h')/\
   (∀ i j u v (s:Shared) (Q:Value->Shared->Prop) (E:Value->Shared->Prop),Φ s.heap->P i u->P j v->Q (.bool (bt i j)) s->wpAny (model prog w) A.in1 (richCompare .Gt u v) Q E s)/\
   ∀ v h' tk,P (argBest bt (n - 1)) v->(∀ b o,b∉wr->s2.heap.get? b=some o->h'.get? b=some o)->Q v {s2 with heap:=h',toks:=tk}) E s):wpAny (model prog w) A (call (.builtin "max") [x]) Q E s:=by
 have nm:((toString "max"++toString ".loop":String))="max.loop":=by decide
 refine call_function_tree F.kind_max F.plain_max F.entry_max (F.args_max1 _) (wpAny_bind (m:=Builtin.Builtins.bindParams "max" ["key","default"] 0 ⟨[],[]⟩) (wpAny_of_eq (a:=[none,none]) rfl (wpAny_bind (wpAny_pure (wpAny_bind (wpAny_mono h (fun it s2 h2=>?_) fun _ _ e=>e))))))
 obtain⟨I,fp,wr,n,P,St,bt,Φ,rfl,W,st,below,n0,ph,kΦ,cmp,fin⟩:=h2
 refine wpAny_bind (wpAny_newObj_type ?_)
 have hS:s2.heap.objs.size∉fp:=fun m=>Nat.lt_irrefl _ (below _ m)
 have nw:s2.heap.objs.size∉wr:=fun m=>hS (W.sub _ m)
 have kp:∀ b o,s2.heap.get? b=some o->(s2.heap.push {cls:=.type "list",data:=.seq #[]}).get? b=some o:=fun b o x=>Heap.get?_push_of_some _ x
 have gS:(s2.heap.push {cls:=.type "list",data:=.seq #[]}).get? s2.heap.objs.size=some {cls:=.type "list",dict:=none,data:=.seq #[] 0,slots:=#[]}:=Heap.get?_push_size _ rfl
 have ph0:=kΦ _ (Nat.le_refl _) _ _ ph fun b o _ _ x=>kp b o x
 have st0:=W.frame 0 _ _ st fun b _ o x=>kp b o x
 rw [nm]
 refine wpAny_pure ⟨plainId_quiet F.plain_max_loop _,codeAny_builtin F.entry_max_loop ?_⟩
 rw [Around.under_plainId F.plain_max_loop _]
 refine wpAny_bind (m:=seqItems? (.ref s2.heap.objs.size)) (wpAny_seqItems gS rfl (wpAny_bind (wpAny_tryCatch (m:=pyNext (.ref I)) (W.item 0 _ _ _ n0 st0 fun v h' tk pv st1 far=>?_))))
 have g1:=far _ _ nw gS
 have ph1:=kΦ _ (Nat.le_refl _) _ _ ph0 fun b o n1 _ x=>far b o n1 x
 have oth:∀ b o,b≠s2.heap.objs.size->h'.get? b=some o->(h'.update s2.heap.objs.size (Obj.mapSeq fun _=>#[v,v])).get? b=some o:=fun b o n2 x=>(Heap.get?_update_other _ _ (Ne.symm n2)).trans x
 refine wpAny_bind (wpAny_pure (wpAny_bind (m:=updateSeq s2.heap.objs.size fun _=>#[v,v]) (wpAny_updateSeq g1 rfl ?_)))
 rw [nm]
 refine wpAny_pure ⟨plainId_quiet F.plain_max_loop _,mx_loop W bt Φ hS (kΦ _ (Nat.le_refl _)) cmp _ 0 _ v _ rfl n0 (kΦ _ (Nat.le_refl _) _ _ ph1 fun b o _ n2 x=>oth b o n2 x) (W.frame _ _ _ st1 fun b hb o x=>oth b o (fun z=>hS (z▸hb)) x) pv (Heap.get?_update_self _ g1 rfl) fun u h2 tk2 pu far2=>?_⟩
 exact fin u h2 tk2 pu fun b o n1 x=>by
  have nb:b≠s2.heap.objs.size:=Nat.ne_of_lt (Heap.lt_size x)
  exact far2 b o n1 nb (oth b o nb (far b o n1 (kp b o x)))
theorem walks_dx (c:DIt) (hh:A.handled=none) (I d:Addr) (ne:d≠I) (es:Array DictEntry) (ep:Nat):Walks prog w A I [I,d] [I] es.size (fun i v=>∃ e,es[i]?=some e/\v=DIt.of e c) (fun i h=>h.get? I=some (kiO c.nm d i es.size ep)/\h.get? d=some (dxO es ep)) where
 sub:=fun b hb=>by simp at hb; simp [hb]
 frame:=fun _ _ _ st k=>⟨k I (by simp) _ st.1,k d (by simp) _ st.2⟩
 item:=fun i s Q E hi st fin=>next_dx c (e:=es[i]) st.1 st.2 (by simp [hi]) fun h' a k=>fin _ h' s.toks ⟨es[i],by simp [hi],rfl⟩ ⟨a,k _ _ ne st.2⟩ fun b o hb x=>k b o (fun z=>hb (by simp [z])) x
 done:=fun s Q E st fin=>next_dxE c hh st.1 st.2 (by simp) fun h' k=>fin h' s.toks fun b o hb x=>k b o (fun z=>hb (by simp [z])) x
 self:=fun _ _ _ _ st q=>self_ki c st.1 q
end
end PySem
namespace DL
open PySem PySem.Spec PyProof.Rows L2
theorem pairs_raw {X:Cx} {pins:List (Addr×Obj)} {σ:L2.St} {H:Hp} {s:Shared} (I:Inv X pins σ H s):∀ {kvs:List (List Int×D)} {xs:List V} {us:List Value},IsDs X.K H (pairsD kvs) xs->Vals xs us->
  ∃ ts:List (Addr×List Int×Addr×Value),us=ts.map (fun t=>Value.ref t.1)/\KtR X.K H kvs (ts.map (·.2))/\
   ∀ t∈ts,(∃ dd n sl,s.heap.get? t.1=some {cls:=.type "tuple",dict:=dd,data:=.seq #[.ref t.2.2.1,t.2.2.2] n,slots:=sl})/\(tkI X.prog X.w).is s.heap t.2.1 t.2.2.1
 | [],xs,us,i,r=>by
  have e:xs=[]:=isNil.mp i
  subst e
  cases r
  exact⟨[],rfl,.nil,fun t ht=>nomatch ht⟩
 | kv::kvs,xs,us,i,r=>by
  obtain⟨v,vs,rfl,h1,h2⟩:=isCons.mp (show IsDs X.K H (.tup [keyD kv.1,kv.2]::pairsD kvs) xs from i)
  cases r with
  | @cons _ u _ us r1 r2=>
   obtain⟨ts,e,q1,q2⟩:=pairs_raw I h2 r2
   obtain⟨T,ys,rfl,t1,j⟩:=isTup.mp h1
   obtain⟨y1,y2,rfl,j1,j2⟩:=isDs2 j
   obtain⟨b,rfl,tb⟩:=isKey.mp j1
   cases (show u=Value.ref T from r1)
   obtain⟨its,rv,⟨⟨cls,dd,data,sl⟩,g1,g2,n,g3⟩,_⟩:=I.tuple t1
   obtain⟨w1,w2,rfl,rw1,rw2⟩:=vals2 rv
   cases (show w1=Value.ref b from rw1)
   simp only at g2 g3
   subst g2 g3
   refine⟨(T,kv.1,b,w2)::ts,by rw [e]; rfl,.cons ⟨rfl,tb,y2,rw2,j2⟩ q1,fun t ht=>?_⟩
   rcases List.mem_cons.mp ht with e2 | ht2
   ·subst e2
    exact⟨⟨dd,n,sl,g1⟩,key_int I tb⟩
   ·exact q2 t ht2
theorem foldl_snd (ts:List (Addr×List Int×Addr×Value)):∀ acc,ts.foldl (fun acc t=>storedH acc t.2.1 t.2.2.1 t.2.2.2) acc=(ts.map (·.2)).foldl (fun acc k=>storedH acc k.1 k.2.1 k.2.2) acc:=by
 induction ts with
 | nil=>intro acc; rfl
 | cons t ts ih=>intro acc; exact ih _
def bDict:DSp:=fun ds S k=>match ds with
 | [.ref a]=>(∃ kvs ep,S a=some (.gen (.dT kvs ep))/\(kvs.map fun p=>hashT p.1).Nodup/\∀ p,S p=none->∀ ep',k (.ref p) (put S p (.gen (.dT kvs ep'))))\/
   ∃ kvs,S a=some (.lst (pairsD kvs))/\∀ p,S p=none->∀ ep',k (.ref p) (put S p (.gen (.dT (mergeT [] kvs) ep')))
 | _=>False
theorem b_dict {X:Cx} {n:Nat} (hr:Room n X.A):CallR X (.type "dict") (upC X.K bDict):=by
 intro pins s σ H xs us Q I rs h
 obtain⟨ds,S,k,i,hS,r,m⟩:=h
 unfold bDict at r
 split at r
 ·rename_i a
  obtain⟨v,rfl,j⟩:=isDs1 i
  have ex:=isRef.mp j
  subst ex
  obtain⟨u,rfl,ru⟩:=vals1 rs
  cases (show u=Value.ref a from ru)
  have hn:=I.hok.fresh (Nat.le_refl s.heap.objs.size)
  have hb:(s.heap.objs.size == sysModules)=false:=beq_eq_false_iff_ne.mpr (Ne.symm (Nat.ne_of_lt I.big))
  have hun:=hr.un
  rcases r with ⟨kvs,ep,g1,nd,r⟩ | ⟨kvs,g1,r⟩
  ·obtain⟨ys,e1,r1⟩:=hS.dT g1
   obtain⟨hd,z,ndk,g⟩:=dxp_at I e1
   have hash:(ys.map fun y=>hashT y.1)=kvs.map fun p=>hashT p.1:=by
    clear e1 z ndk g nd g1 r
    induction r1 with
    | nil=>rfl
    | cons h t ih=>exact congr (congrArg List.cons (congrArg hashT h.1.symm)) ih
   refine call_dict_dict hd g (fun e he=>?_) ?_ (by simp; omega) fun h' ep' g' kk=>?_
   ·simp only [List.mem_map] at he
    obtain⟨y,hy,rfl⟩:=he
    have dd:=dx_of I e1 r1
    obtain⟨_,_,_,_,_,_,_,al,_⟩:=dd
    obtain⟨q,its,n',q1,q2,_⟩:=al y hy
    exact⟨y.2.1,q,rfl,q1,q2⟩
   ·show((ys.map eT).map (·.hash)).Nodup
    rw [List.map_map,show((fun x:DictEntry=>x.hash) ∘ eT)=fun y:List Int×Addr×Value=>hashT y.1 from rfl,hash]
    exact nd
   ·have new:DxP s.heap.objs.size ys ep' h':=⟨hb,z,ndk,g'⟩
    refine⟨.ref s.heap.objs.size,_,I.laid (o:=.ext (DxP s.heap.objs.size ys ep')) (t':=s.toks) kk (Nat.le_refl _) (ext_ok new),rfl,?_⟩
    exact m _ _ _ _ (r _ (hS.free hn) ep') (Kp.new hn) (hS.newG hn ⟨ys,upd_same,r1.kp (Kp.new hn)⟩) (isRef.mpr rfl)
  ·obtain⟨vs,hl,jl⟩:=hS.lst g1
   obtain⟨z,its,c,rv,gl⟩:=(show ObjOk X.prog X.w H s.heap a (.lst vs) from I.hok a _ hl)
   obtain⟨ts,rfl,q1,q2⟩:=pairs_raw I jl rv
   have hz:ts.length<=sizeLine:=by
    have:=rv.length
    rw [List.length_map] at this
    omega
   refine call_dict_list (by omega) hr.hd I.big ts gl q2 hz fun h' tk kk dd=>?_
   rw [foldl_snd] at dd
   have z':((ts.map (·.2)).foldl (fun acc k=>storedH acc k.1 k.2.1 k.2.2) []).length<=sizeLine:=by have:=foldH_len (ts.map (·.2)) []; rw [List.length_map,List.length_nil] at this; omega
   obtain⟨ep',new⟩:=dxp_of hb z' dd
   refine⟨.ref s.heap.objs.size,_,I.laid (o:=.ext (DxP s.heap.objs.size _ ep')) (t':=tk) kk (Nat.le_refl _) (ext_ok new),rfl,?_⟩
   exact m _ _ _ _ (r _ (hS.free hn) ep') (Kp.new hn) (hS.newG hn ⟨_,upd_same,(q1.merge .nil).kp (Kp.new hn)⟩) (isRef.mpr rfl)
 ·exact r.elim
def dEqDn:D2:=fun d e S k=>match d,e with
 | .ref a,.ref b=>∃ kvs ep kvs' ep',S a=some (.gen (.dT kvs ep))/\S b=some (.gen (.dT kvs' ep'))/\kvs.length≠kvs'.length/\k (.bl false) S
 | _,_=>False
theorem o_eqDn {X:Cx} {n:Nat} (hr:Room n X.A):OpR X (compareOp .Eq) (upR X.K dEqDn):=by
 intro pins s σ H x y v u Q I rx ry h
 obtain⟨d,e,S,k,i1,i2,hS,r,m⟩:=h
 unfold dEqDn at r
 split at r
 ·rename_i a b
  obtain⟨kvs,ep,kvs',ep',g1,g2,hl,r⟩:=r
  have e1:=isRef.mp i1
  have e2:=isRef.mp i2
  subst e1 e2
  cases (show v=Value.ref a from rx)
  cases (show u=Value.ref b from ry)
  obtain⟨xs,w1,r1⟩:=hS.dT g1
  obtain⟨ys,w2,r2⟩:=hS.dT g2
  obtain⟨hd1,_,_,t1⟩:=dxp_at I w1
  obtain⟨hd2,_,_,t2⟩:=dxp_at I w2
  have T1:s.TypeIs (.ref a) "dict":=⟨_,t1,rfl⟩
  have hsz:(xs.map eT).toArray.size≠(ys.map eT).toArray.size:=by
   simp
   rw [<- r1.length,<- r2.length]
   exact hl
  have fin:Value.bool false≠.notImplemented/\EP X pins σ Q (.bool false) s:=⟨(by intro z; cases z),.bl false,H,I,rfl,up1 m hS r (isBl.mpr rfl)⟩
  exact wpAny_richCompare_same_room (op:=.Eq) T1 ⟨_,t2,rfl⟩ F.slot_dict_eq (call_meetsIn F.slot_dict_eq T1 F.entry_dict_eq (F.args_dict_eq_2 _ _) (dEqN a b _ _ ep ep' hd1 hd2 hsz) ⟨t1,t2,fin⟩) (Nat.lt_of_succ_lt (un1 hr))
 ·exact r.elim
def gtP:List Int->List Int->Bool
 | [a,b],[c,d]=>decide (c < a) || (decide (a=c) && decide (d < b))
 | _,_=>false
theorem best_gt (key:Nat->List Int) (h2:∀ i,∃ a b,key i=[a,b]):∀ k,argBest (fun i j=>gtP (key i) (key j)) k<=k/\∀ i,i<=k->gtP (key i) (key (argBest (fun i j=>gtP (key i) (key j)) k))=false
 | 0=>⟨Nat.le_refl _,fun i h=>by
   have:i=0:=by omega
   subst this
   obtain⟨a,b,e⟩:=h2 0
   show gtP (key 0) (key 0)=false
   rw [e]
   simp [gtP]⟩
 | k+1=>by
  obtain⟨b1,b2⟩:=best_gt key h2 k
  obtain⟨a,b,e1⟩:=h2 (k+1)
  obtain⟨c,d,e2⟩:=h2 (argBest (fun i j=>gtP (key i) (key j)) k)
  unfold argBest
  by_cases h:gtP (key (k+1)) (key (argBest (fun i j=>gtP (key i) (key j)) k))=true
  ·rw [if_pos h]
   refine⟨Nat.le_refl _,fun i hi=>?_⟩
   obtain⟨x,y,e3⟩:=h2 i
   rw [e1,e2] at h
   rw [e1,e3]
   by_cases q:i=k+1
   ·subst q
    rw [e1] at e3
    injection e3 with z1 z2
    injection z2 with z2 _
    subst z1 z2
    simp [gtP]
   ·have z:=b2 i (by omega)
    rw [e2,e3] at z
    simp only [gtP,Bool.or_eq_true,Bool.and_eq_true,decide_eq_true_eq,Bool.or_eq_false_iff,Bool.and_eq_false_iff,decide_eq_false_iff_not] at h z ⊢
    omega
  ·rw [if_neg h]
   refine⟨by omega,fun i hi=>?_⟩
   by_cases q:i=k+1
   ·subst q; simpa using h
   ·exact b2 i (by omega)
def keyAt (ys:List (List Int×Addr×Value)) (i:Nat):List Int:=(ys[i]?.map (·.1)).getD [0,0]
theorem keyAt_some {ys:List (List Int×Addr×Value)} {i:Nat} {y:List Int×Addr×Value} (h:ys[i]?=some y):keyAt ys i=y.1:=by unfold keyAt; rw [h]; rfl
def bMaxD:DSp:=fun ds S k=>match ds with
 | [.ref a]=>∃ kvs ep,S a=some (.gen (.dT kvs ep))/\kvs≠[]/\(∀ p∈kvs,∃ i j,p.1=[i,j])/\∀ m∈kvs,(∀ p∈kvs,gtP p.1 m.1=false)->k (keyD m.1) S
 | _=>False
theorem b_maxD {X:Cx} {n:Nat} (hr:Room n X.A):CallR X (.builtin "max") (upC X.K bMaxD):=by
 intro pins s σ H xs us Q I rs h
 obtain⟨ds,S,k,i,hS,r,m⟩:=h
 unfold bMaxD at r
 split at r
 ·rename_i a
  obtain⟨v,rfl,j⟩:=isDs1 i
  have ex:=isRef.mp j
  subst ex
  obtain⟨u,rfl,ru⟩:=vals1 rs
  cases (show u=Value.ref a from ru)
  obtain⟨kvs,ep,g1,ne,two,r⟩:=r
  obtain⟨ys,e1,r1⟩:=hS.dT g1
  obtain⟨hd,z,ndk,g⟩:=dxp_at I e1
  have hun:=hr.un
  have la:a < s.heap.objs.size:=Heap.lt_size g
  have len:=r1.length
  have n0:0 < ys.length:=by rw [<- len]; exact List.length_pos_iff.mpr ne
  have tup:∀ y∈ys,∃ i j dd sl t1 t2 c,y.1=[i,j]/\s.heap.get? y.2.1=some ⟨.type "tuple",dd,.seq #[.int i t1,.int j t2] c,sl⟩:=fun y hy=>by
   obtain⟨q,hq,rfl⟩:=List.mem_iff_getElem.mp hy
   obtain⟨p',hp1,hp2,hp3,_⟩:=r1.at_ (i:=q) (p:=kvs[q]'(by omega)) (by simp)
   rw [List.getElem?_eq_getElem hq] at hp1
   cases hp1
   obtain⟨i,j,ee⟩:=two _ (List.getElem_mem (by omega:q < kvs.length))
   rw [ee] at hp2 hp3
   obtain⟨its,rv,⟨⟨cls,dd,data,sl⟩,h1,h2,c,h3⟩,_⟩:=I.tuple hp3
   obtain⟨w1,w2,rfl,rw1,rw2⟩:=vals2 rv
   obtain⟨t1,rfl⟩:=rw1
   obtain⟨t2,rfl⟩:=rw2
   simp only at h2 h3
   subst h2 h3
   exact⟨i,j,dd,sl,t1,t2,c,hp2.symm,h1⟩
  have hz:ys.length<=sizeLine:=z
  have szE:(ys.map eT).toArray.size=ys.length:=by simp
  have keyOk:∀ i,∃ a b,keyAt ys i=[a,b]:=fun i=>by
   unfold keyAt
   cases q:ys[i]? with
   | none=>exact⟨0,0,rfl⟩
   | some y=>
    obtain⟨a,b,_,_,_,_,_,e,_⟩:=tup y (List.mem_of_getElem? q)
    exact⟨a,b,e⟩
  refine mx_call (pyIter_dk (A:=X.A.in1) hd g ?_)
  refine⟨s.heap.objs.size,_,_,_,_,_,fun i j=>gtP (keyAt ys i) (keyAt ys j),fun h=>∀ y∈ys,∃ i j dd sl t1 t2 c,y.1=[i,j]/\h.get? y.2.1=some ⟨.type "tuple",dd,.seq #[.int i t1,.int j t2] c,sl⟩,rfl,
   walks_dx .k (show X.A.in1.handled=none from hr.hd) s.heap.objs.size a (Nat.ne_of_lt la) _ ep,⟨Heap.get?_push_size _ rfl,Heap.get?_push_of_some _ g⟩,fp_lt la,by rw [szE]; exact n0,fun y hy=>?_,fun S' hS' h h' ph far y hy=>?_,fun i j u v s' Q' E' ph pu pv q=>?_,fun v h' tk pv far=>?_⟩
  ·obtain⟨i,j,dd,sl,t1,t2,c,ee,gg⟩:=tup y hy
   exact⟨i,j,dd,sl,t1,t2,c,ee,Heap.get?_push_of_some _ gg⟩
  ·obtain⟨i0,j0,dd0,sl0,t10,t20,c0,ee0,gg0⟩:=tup y hy
   have ly:y.2.1 < s.heap.objs.size:=Heap.lt_size gg0
   obtain⟨i,j,dd,sl,t1,t2,c,ee,gg⟩:=ph y hy
   have sp:s.heap.objs.size < S':=Nat.lt_of_lt_of_le (Heap.lt_size (Heap.get?_push_size s.heap (o:=kiO "dict_keyiterator" a 0 (ys.map eT).toArray.size ep) rfl)) hS'
   exact⟨i,j,dd,sl,t1,t2,c,ee,far _ _ (by simp; exact Nat.ne_of_lt ly) (Nat.ne_of_lt (Nat.lt_trans ly sp)) gg⟩
  ·obtain⟨e,he,rfl⟩:=pu
   obtain⟨e',he',rfl⟩:=pv
   simp only [List.getElem?_toArray,List.getElem?_map] at he he'
   obtain⟨y,hy,rfl⟩:=Option.map_eq_some_iff.mp he
   obtain⟨y',hy',rfl⟩:=Option.map_eq_some_iff.mp he'
   obtain⟨a1,b1,dd,sl,t1,t2,c,ee,gg⟩:=ph y (List.mem_of_getElem? hy)
   obtain⟨a2,b2,dd',sl',t1',t2',c',ee',gg'⟩:=ph y' (List.mem_of_getElem? hy')
   have T1:s'.TypeIs (.ref y.2.1) "tuple":=⟨_,gg,rfl⟩
   simp only [keyAt_some hy,keyAt_some hy',ee,ee',gtP] at q
   have fin:Value.bool (decide (a2 < a1) || (decide (a1=a2) && decide (b2 < b1)))≠.notImplemented/\Q' (.bool (decide (a2 < a1) || (decide (a1=a2) && decide (b2 < b1)))) s':=⟨(by intro z; cases z),q⟩
   exact wpAny_richCompare_same_room (op:=.Gt) T1 ⟨_,gg',rfl⟩ F.slot_tuple_gt (call_meetsIn F.slot_tuple_gt T1 F.entry_tuple_gt (F.args_tuple_gt_2 _ _) (tupGt y.2.1 y'.2.1 a1 b1 a2 b2 t1 t2 t1' t2' c c' dd dd' sl sl') ⟨by show X.A.units+1+1 < cLine; omega,gg,gg',fin⟩) (by show X.A.units+1 < cLine; omega)
  ·obtain⟨e,he,rfl⟩:=pv
   simp only [List.getElem?_toArray,List.getElem?_map] at he
   rw [szE] at he
   obtain⟨y,hy,rfl⟩:=Option.map_eq_some_iff.mp he
   obtain⟨b1,b2⟩:=best_gt (keyAt ys) keyOk (ys.length - 1)
   generalize argBest (fun i j=>gtP (keyAt ys i) (keyAt ys j)) (ys.length - 1)=bi at b1 b2 hy
   have lb:bi < kvs.length:=by omega
   obtain⟨q,hq,f1,f2,_⟩:=r1.at_ (i:=bi) (p:=kvs[bi]) (by simp)
   rw [hy] at hq
   cases hq
   have kq:=r kvs[bi] (List.getElem_mem lb) fun p hp=>by
    obtain⟨x,hx,rfl⟩:=List.mem_iff_getElem.mp hp
    obtain⟨q',hq',f1',_⟩:=r1.at_ (i:=x) (p:=kvs[x]) (by simp)
    have z:=b2 x (by omega)
    rw [keyAt_some hq',keyAt_some hy,<- f1',<- f1] at z
    exact z
   have I1:Inv X pins σ H {s with heap:=s.heap.push (kiO "dict_keyiterator" a 0 (ys.map eT).toArray.size ep)}:=I.kept (t':=s.toks) fun c o e=>Heap.get?_push_of_some _ e
   refine⟨.ref y.2.1,H,Inv.turnedL (s:={s with heap:=s.heap.push (kiO "dict_keyiterator" a 0 (ys.map eT).toArray.size ep)}) (t':=tk) [s.heap.objs.size] I1 far (fun c hc=>?_),rfl,m _ S _ H kq (Kp.refl H) hS (isKey.mpr ⟨_,rfl,f2⟩)⟩
   have e:c=s.heap.objs.size:=by simpa using hc
   subst e
   exact I.fpOk (Nat.le_refl _) (I.hok.fresh (Nat.le_refl _))
 ·exact r.elim
end DL
namespace L2
open PySem PySem.Spec PyProof.Rows
def VwP (p a:Addr):Heap->Prop:=fun h=>h.get? p=some {cls:=.type "dict_values",data:=.fields #[.ref a]}
section
variable {X:Cx} {o:Expr} {to:TE} {apos cpos pos p0:Pos}
def tVals (to:TE):TE:=fun σ H Q=>to σ H fun x H1=>∃ a xs ep,x=.ref a/\H1 a=some (.ext (DL.DxP a xs ep))/\∀ p,H1 p=none->Q (.ref p) (upd H1 p (.ext (VwP p a)))
theorem pe_vals (ho:PE X o to) (hbase:attributeBase o "values" X.env (eval o X.env)=eval o X.env:=by rfl) (hline:(apos.endLine == cpos.line)=true:=by rfl):PE X (.Call (.Attribute o "values" apos) [] [] cpos) (tVals to):=by
 intro pins s σ H Q I h
 refine wpAny_Call_method0_late hbase hline (thn (ho pins s σ H _ I h) fun v s1 ⟨x,H1,I1,r1,a,xs,ep,ex,e1,q⟩=>?_)
 subst ex
 cases (show v=Value.ref a from r1)
 obtain⟨hd,_,_,g⟩:=DL.dxp_at I1 e1
 refine⟨"dict","dict.values",F.plainAttrs_dict,F.slot_dict_values,F.type_dict_values,⟨_,g,rfl⟩,fun b e=>by cases e; exact⟨_,g,rfl⟩,Calls.callWith_builtin rfl (PySem.evalArgs_none ?_)⟩
 refine call_meetsIn F.slot_dict_values ⟨_,g,rfl⟩ F.entry_dict_values (F.args_dict_values_1 _) (diV a _ ep hd) ⟨g,?_⟩
 have hn:=I1.hok.fresh (Nat.le_refl s1.heap.objs.size)
 have gp:(s1.heap.push {cls:=.type "dict_values",data:=.fields #[.ref a]}).get? s1.heap.objs.size=some {cls:=.type "dict_values",data:=.fields #[.ref a]}:=Heap.get?_push_size _ rfl
 exact⟨.ref s1.heap.objs.size,_,I1.laid (o:=.ext (VwP s1.heap.objs.size a)) (t':=s1.toks) (fun b o e=>Heap.get?_push_of_some _ e) (Nat.le_refl _) ⟨gp,⟨_,gp⟩,fun h1 h2 z k=>k _ z⟩,rfl,q _ hn⟩
theorem src_vals {P:Program} {w:World} {p a:Addr} {es:Array DictEntry} {ep:Nat}:PySem.W.KdlSrc P w "dict_values" p a es.size (fun i v=>∃ e,es[i]?=some e/\v=DIt.of e .v) (fun h=>VwP p a h/\h.get? a=some (DL.dxO es ep)) where
 type:=fun s ok=>⟨_,ok.1,rfl⟩
 there:=fun h ok=>⟨Heap.lt_size ok.1,Heap.lt_size ok.2⟩
 keep:=fun h h' ok k=>⟨k p (.inl rfl) _ ok.1,k a (.inr rfl) _ ok.2⟩
 notList:=by decide
 notTuple:=by decide
 hint:=fun A E s Q ok q=>PySem.W.kdl_hint_values ⟨_,ok.1,rfl⟩ q
 iter:=fun A s hh ok=>⟨kiO "dict_valueiterator" a 0 es.size ep,_,fun E Q q=>pyIter_dv ok.1 ok.2 q,walks_dx .v hh s.heap.objs.size a (Nat.ne_of_lt (Heap.lt_size ok.2)) es ep,⟨Heap.get?_push_size _ rfl,Heap.get?_push_of_some _ ok.2⟩⟩
def rListV:List V->Hp->VK->Prop:=fun xs H Q=>∃ p a ys ep vs,xs=[.ref p]/\H p=some (.ext (VwP p a))/\H a=some (.ext (DL.DxP a ys ep))/\Vals vs (ys.map (·.2.2))/\∀ q,H q=none->Q (.ref q) (upd H q (.lst vs))
theorem call_listV (hc:X.calm=true):CallR X (.type "list") rListV:=by
 intro pins s σ H xs us Q I rs h
 obtain⟨p,a,ys,ep,vs,rfl,e1,e2,rv,q⟩:=h
 obtain⟨u,rfl,ru⟩:=vals1 rs
 cases (show u=Value.ref p from ru)
 have g1:=(I.hok p _ e1).1
 obtain⟨_,z,_,g2⟩:=DL.dxp_at I e2
 have hn:=I.hok.fresh (Nat.le_refl s.heap.objs.size)
 have sz:(ys.map DL.eT).toArray.size=ys.length:=by simp
 refine PySem.W.kdl_call (src_vals (p:=p) (a:=a) (es:=(ys.map DL.eT).toArray) (ep:=ep)) (I.ok.hd hc) ⟨g1,g2⟩ (by rw [sz]; exact z) fun h' tk acc' c' kk gn it=>?_
 have ev:acc'.toList=ys.map (·.2.2):=by
  obtain⟨l1,l2⟩:=it
  apply List.ext_getElem?
  intro i
  rw [Array.getElem?_toList,List.getElem?_map]
  cases q1:acc'[i]? with
  | none=>
   have:acc'.size<=i:=by simpa using q1
   rw [l1,sz] at this
   rw [List.getElem?_eq_none this]
   rfl
  | some v=>
   obtain⟨e,he,rfl⟩:=l2 i v q1
   simp only [List.getElem?_toArray,List.getElem?_map] at he
   obtain⟨y,hy,rfl⟩:=Option.map_eq_some_iff.mp he
   rw [hy]
   rfl
 have ea:acc'=(ys.map (·.2.2)).toArray:=by rw [<- ev]
 refine⟨.ref s.heap.objs.size,_,I.laid (o:=.lst vs) (t':=tk) kk (Nat.le_refl _) ⟨?_,_,c',rv,by rw [gn,ea]⟩,rfl,q _ hn⟩
 rw [rv.length,List.length_map]
 exact z
end
end L2
namespace DL
open PySem PySem.Spec PyProof.Rows L2
theorem KtR.vals {K:Fg} {H:Hp}:∀ {kvs:List (List Int×D)} {xs:List (List Int×Addr×Value)},KtR K H kvs xs->∃ vs,Vals vs (xs.map (·.2.2))/\IsDs K H (kvs.map (·.2)) vs
 | _,_,.nil=>⟨[],.nil,IsDs.nil⟩
 | _,_,.cons ⟨_,_,v,h3,h4⟩ t=>by
  obtain⟨vs,a,b⟩:=KtR.vals t
  exact⟨v::vs,.cons h3 a,IsDs.cons h4 b⟩
def dListV (go:DE):DE:=fun L S k=>go L S fun d S1=>match d with
 | .ref a=>∃ kvs ep,S1 a=some (.gen (.dT kvs ep))/\∀ p,S1 p=none->k (.ref p) (put S1 p (.lst (kvs.map (·.2))))
 | _=>False
theorem d_listVj {X:Cx} {o:Expr} {go:DE} {apos cpos pos p0:Pos} (hc:X.calm=true) (hg:Gl X "list") (hm:X.mg "list"=none) (ho:EJ X o go) (hbase:attributeBase o "values" X.env (eval o X.env)=eval o X.env:=by rfl) (hline:(apos.endLine == cpos.line)=true:=by rfl):
  EJ X (.Call (.Name "list" p0) [.Call (.Attribute o "values" apos) [] [] cpos] [] pos) (dListV go):=
 ⟨PE.imp (pe_callTy (call_listV hc) hg hm (by decide +kernel) (pa_cons (pe_vals ho.h hbase hline) pa_nil rfl)) fun σ H Q ⟨L,S,k,hL,hS,h,n⟩=>up.go hL hS h fun d S1 v H1 h1 k1 hL1 hS1 i1=>by
  cases d with
  | ref a=>
   obtain⟨kvs,ep,g1,h1⟩:=h1
   obtain⟨xs,e1,r1⟩:=hS1.dT g1
   have ex:=isRef.mp i1
   subst ex
   refine⟨a,xs,ep,rfl,e1,fun p hp=>?_⟩
   obtain⟨vs,q1,q2⟩:=r1.vals
   have kn:Kp H1 (upd H1 p (.ext (VwP p a))):=Kp.new hp
   have na:a≠p:=ne_of_none e1 hp
   refine⟨p,a,xs,ep,vs,rfl,upd_same,by rw [upd_ne na]; exact e1,q1,fun q hq=>?_⟩
   have hS2:Hs X.K (upd H1 p (.ext (VwP p a))) S1:=hS1.new hp
   exact n _ _ _ _ (h1 q (hS2.free hq)) ((k1.trans kn).trans (Kp.new hq)) (hS2.newL hq (q2.kp kn)) (isRef.mpr rfl)
  | _=>exact(show False from h1).elim⟩
end DL
namespace PySem
set_option maxRecDepth 100000
namespace F
theorem args_max1K (a d:Value):argsOk "max" ⟨[a],[("default",d)]⟩:=by unfold argsOk; kernel_rfl
end F
section
variable {prog:Program} {w:World} {A:Around} {E:Value->Shared->Prop}
theorem go_on_kw {s:Shared} {id:String} {b:Builtin} {args:List Value} {kw:List (Str×Value)} {Q:Value->Shared->Prop} (hk:builtinKind id=none) (hp:plainId id=true) (hb:entryFor table id=some b) (ha:argsOk id ⟨args,kw⟩)
  (hc:wpAny (model prog w) A.in1 (b ⟨args,kw⟩) (fun fin s'=>match fin with
   | .done f=>(match (Except.ok f:Result) with | .ok (.ret v)=>Q v s' | .ok _=>False | .error e=>E e s')
   | .again c'=>c'.quiet=true/\codeAny (model prog w) A c' (fun r s'=>match r with | .ok (.ret v)=>Q v s' | .ok _=>False | .error e=>E e s') s') E s):
  wpAny (model prog w) A (call (.builtin id) args kw) Q E s:=by
 refine wpAny_call (codeAny_call_builtin hp hb ?_)
 unfold checkBuiltinCall
 rw [hk]
 unfold argsOk at ha
 dsimp only
 split at ha
 ·rename_i sg eg
  rw [eg]
  exact wpAny_of_eq ha hc
 ·rename_i eg
  rw [eg]
  exact wpAny_pure hc
theorem mk_loop {I S:Addr} {fp wr:List Addr} {n:Nat} {P:Nat->Value->Prop} {St:Nat->Heap->Prop} {R:Result->Shared->Prop} {kw:List (Str×Value)} (W:Walks prog w A.in1 I fp wr n P St) (bt:Nat->Nat->Bool) (hS:S∉fp) (cmp:CmpOf prog w A.in1 .Gt P bt):
  ∀ (k j:Nat) (s:Shared) (vb:Value) (c:Nat),n - (j+1)=k->j+1<=n->St (j+1) s.heap->P (argBest bt j) vb->s.heap.get? S=some {cls:=.type "list",dict:=none,data:=.seq #[vb,vb] c,slots:=#[]}->
  (∀ v h' tk,P (argBest bt (n - 1)) v->(∀ b o,b∉wr->b≠S->s.heap.get? b=some o->h'.get? b=some o)->R (.ok (.ret v)) {s with heap:=h',toks:=tk})->codeAny (model prog w) A (.builtin "max.loop" ⟨[.ref I,.none,.ref S],kw⟩) R s:=by
 have nw:S∉wr:=fun z=>hS (W.sub _ z)
 have nm:((toString "max"++toString ".loop":String))="max.loop":=by decide
 intro k
 induction k with
 | zero=>
  intro j s vb c hk hj st pb gS fin
  have ej:n=j+1:=by omega
  refine codeAny_builtin F.entry_max_loop ?_
  rw [Around.under_plainId F.plain_max_loop _]
  refine wpAny_bind (m:=seqItems? (.ref S)) (wpAny_seqItems gS rfl (wpAny_bind (wpAny_tryCatch (m:=pyNext (.ref I)) (W.done s _ _ (by rw [ej]; exact st) fun h' tk far=>?_))))
  have g1:=far S _ nw gS
  refine wpAny_bind (m:=updateSeq S fun _=>#[]) (wpAny_updateSeq g1 rfl (wpAny_bind (wpAny_letGo (wpAny_pure (fin vb _ tk (by rw [ej]; exact pb) fun b o n1 n2 x=>?_)))))
  exact(Heap.get?_update_other _ _ (Ne.symm n2)).trans (far b o n1 x)
 | succ k ih=>
  intro j s vb c hk hj st pb gS fin
  have lt:j+1 < n:=by omega
  refine codeAny_builtin F.entry_max_loop ?_
  rw [Around.under_plainId F.plain_max_loop _]
  refine wpAny_bind (m:=seqItems? (.ref S)) (wpAny_seqItems gS rfl (wpAny_bind (wpAny_tryCatch (m:=pyNext (.ref I)) (W.item (j+1) s _ _ lt st fun v h' tk pv st1 far=>?_))))
  have g1:=far S _ nw gS
  refine wpAny_bind (wpAny_pure (wpAny_bind (wpAny_tryCatch (wpAny_holding (wpAny_bind (m:=richCompare .Gt v vb) (cmp (j+1) (argBest bt j) v vb _ _ _ pv pb (wpAny_bind (wpAny_holding (wpAny_truthy_bool (wpAny_bind (wpAny_letGo (wpAny_pure ?_))))))))))))
  by_cases hb:bt (j+1) (argBest bt j)=true
  ·rw [hb,if_pos rfl]
   refine wpAny_bind (m:=updateSeq S fun _=>#[v,v]) (wpAny_updateSeq g1 rfl (wpAny_bind (wpAny_letGo ?_)))
   have oth:∀ b o,b≠S->h'.get? b=some o->(h'.update S (Obj.mapSeq fun _=>#[v,v])).get? b=some o:=fun b o n2 x=>(Heap.get?_update_other _ _ (Ne.symm n2)).trans x
   rw [nm]
   refine wpAny_pure ⟨plainId_quiet F.plain_max_loop _,ih (j+1) _ v _ (by omega) lt (W.frame _ _ _ st1 fun b hb' o x=>oth b o (fun z=>hS (z▸hb')) x) (by unfold argBest; rw [hb,if_pos rfl]; exact pv) (Heap.get?_update_self _ g1 rfl) fun u h2 tk2 pu far2=>?_⟩
   exact fin u h2 tk2 pu fun b o n1 n2 x=>far2 b o n1 n2 (oth b o n2 (far b o n1 x))
  ·have hb':bt (j+1) (argBest bt j)=false:=by simpa using hb
   rw [hb',if_neg Bool.false_ne_true]
   refine wpAny_bind (wpAny_letGo ?_)
   rw [nm]
   refine wpAny_pure ⟨plainId_quiet F.plain_max_loop _,ih (j+1) _ vb c (by omega) lt st1 (by unfold argBest; rw [hb',if_neg Bool.false_ne_true]; exact pb) g1 fun u h2 tk2 pu far2=>?_⟩
   exact fin u h2 tk2 pu fun b o n1 n2 x=>far2 b o n1 n2 (far b o n1 x)
theorem mk_call {x d:Value} {s:Shared} {Q:Value->Shared->Prop} (h:wpAny (model prog w) A.in1 (pyIter x) (fun it s2=>∃ I fp wr n P St bt,it=.ref I/\Walks prog w A.in1 I fp wr n P St/\St 0 s2.heap/\(∀ b∈fp,b < s2.heap.objs.size)/\CmpOf prog w A.in1 .Gt P bt/\
   (0 < n->∀ v h' tk,P (argBest bt (n - 1)) v->(∀ b o,b∉wr->s2.heap.get? b=some o->h'.get? b=some o)->Q v {s2 with heap:=h',toks:=tk})/\
   (n=0->∀ h' tk,(∀ b o,b∉wr->s2.heap.get? b=some o->h'.get? b=some o)->Q d {s2 with heap:=h',toks:=tk})) E s):wpAny (model prog w) A (call (.builtin "max") [x] [("default",d)]) Q E s:=by
 have nm:((toString "max"++toString ".loop":String))="max.loop":=by decide
 refine go_on_kw F.kind_max F.plain_max F.entry_max (F.args_max1K _ _) (wpAny_bind (m:=Builtin.Builtins.bindParams "max" ["key","default"] 0 ⟨[],[("default",d)]⟩) (wpAny_of_eq (a:=[none,some d]) rfl (wpAny_bind (wpAny_pure (wpAny_bind (wpAny_mono h (fun it s2 h2=>?_) fun _ _ e=>e))))))
 obtain⟨I,fp,wr,n,P,St,bt,rfl,W,st,below,cmp,fin,fin0⟩:=h2
 refine wpAny_bind (wpAny_newObj_type ?_)
 have hS:s2.heap.objs.size∉fp:=fun m=>Nat.lt_irrefl _ (below _ m)
 have nw:s2.heap.objs.size∉wr:=fun m=>hS (W.sub _ m)
 have kp:∀ b o,s2.heap.get? b=some o->(s2.heap.push {cls:=.type "list",data:=.seq #[]}).get? b=some o:=fun b o x=>Heap.get?_push_of_some _ x
 have gS:(s2.heap.push {cls:=.type "list",data:=.seq #[]}).get? s2.heap.objs.size=some {cls:=.type "list",dict:=none,data:=.seq #[] 0,slots:=#[]}:=Heap.get?_push_size _ rfl
 have st0:=W.frame 0 _ _ st fun b _ o x=>kp b o x
 rw [nm]
 refine wpAny_pure ⟨plainId_quiet F.plain_max_loop _,codeAny_builtin F.entry_max_loop ?_⟩
 rw [Around.under_plainId F.plain_max_loop _]
 by_cases n0:0 < n
 ·refine wpAny_bind (m:=seqItems? (.ref s2.heap.objs.size)) (wpAny_seqItems gS rfl (wpAny_bind (wpAny_tryCatch (m:=pyNext (.ref I)) (W.item 0 _ _ _ n0 st0 fun v h' tk pv st1 far=>?_))))
  have g1:=far _ _ nw gS
  have oth:∀ b o,b≠s2.heap.objs.size->h'.get? b=some o->(h'.update s2.heap.objs.size (Obj.mapSeq fun _=>#[v,v])).get? b=some o:=fun b o n2 x=>(Heap.get?_update_other _ _ (Ne.symm n2)).trans x
  refine wpAny_bind (wpAny_pure (wpAny_bind (m:=updateSeq s2.heap.objs.size fun _=>#[v,v]) (wpAny_updateSeq g1 rfl ?_)))
  rw [nm]
  refine wpAny_pure ⟨plainId_quiet F.plain_max_loop _,mk_loop W bt hS cmp _ 0 _ v _ rfl n0 (W.frame _ _ _ st1 fun b hb o x=>oth b o (fun z=>hS (z▸hb)) x) pv (Heap.get?_update_self _ g1 rfl) fun u h2 tk2 pu far2=>?_⟩
  exact fin n0 u h2 tk2 pu fun b o n1 x=>by
   have nb:b≠s2.heap.objs.size:=Nat.ne_of_lt (Heap.lt_size x)
   exact far2 b o n1 nb (oth b o nb (far b o n1 (kp b o x)))
 ·have e0:n=0:=by omega
  refine wpAny_bind (m:=seqItems? (.ref s2.heap.objs.size)) (wpAny_seqItems gS rfl (wpAny_bind (wpAny_tryCatch (m:=pyNext (.ref I)) (W.done _ _ _ (by rw [e0]; exact st0) fun h' tk far=>?_))))
  have q:=fin0 e0 h' tk fun b o n1 x=>far b o n1 (kp b o x)
  repeat (any_goals (first | assumption | wp_step))
end
end PySem
namespace L2
open PySem PySem.Spec PyProof.Rows
section
variable {X:Cx}
def CallK (X:Cx) (f:Value) (nm:Str) (r:List V->V->Hp->VK->Prop):Prop:=
 ∀ (pins:List (Addr×Obj)) (s:Shared) (σ:St) (H:Hp) (xs:List V) (us:List Value) (d:V) (u:Value) (Q:VK),Inv X pins σ H s->Vals xs us->RelV d u->r xs d H Q->wpAny (model X.prog X.w) X.A (call f us [(nm,u)]) (EP X pins σ Q) X.xe s
theorem callk_max (hc:X.calm=true):CallK X (.builtin "max") "default" (fun xs d H Q=>∃ (p:Addr) (ns:List Int),xs=[.ref p]/\SqL X.K H p (ns.map V.int)/\(ns=[]->Q d H)/\∀ m:Int,m∈ns->(∀ x∈ns,x<=m)->Q (.int m) H):=by
 intro pins s σ H xs us d ud Q I r rd h
 obtain⟨p,ns,rfl,hq,q0,q⟩:=h
 obtain⟨u,rfl,rx⟩:=vals1 r
 cases rx
 obtain⟨its,rv,pl,hz⟩:=I.list hq
 have hl:=rv.length
 rw [List.length_map] at hl
 have hlt:=pl.lt
 have hh:X.A.in1.handled=none:=I.ok.hd hc
 have hv:∀ i v,its.toArray[i]?=some v->∃ t,v=Value.int (ns.getD i 0) t:=fun i v h=>vals_get (i:=i) (v:=v) rv (by rw [List.getElem?_toArray] at h; exact h)
 refine mk_call (wpAny_pyIter_list pl.isList ?_)
 refine⟨s.heap.objs.size,_,_,_,_,_,fun i j=>decide (ns.getD i 0 > ns.getD j 0),rfl,Walks.list hh s.heap.objs.size p (Nat.ne_of_lt hlt) its.toArray,⟨⟨_,Heap.get?_push_size _ rfl,rfl,rfl⟩,Heap.IsList.at pl.isList fun o e=>Heap.get?_push_of_some _ e⟩,fp_lt hlt,CmpOf.ints_gt _ hv,fun n0 v h' tk hP kk=>?_,fun n0 h' tk kk=>?_⟩
 ·rw [List.size_toArray,<- hl] at hP n0
  obtain⟨t,rfl⟩:=hv _ _ hP
  obtain⟨b1,b2⟩:=best_max (fun i=>ns.getD i 0) (ns.length - 1)
  have hm:ns.getD (argBest (fun i j=>decide (ns.getD i 0 > ns.getD j 0)) (ns.length - 1)) 0∈ns:=by
   have hlt2:argBest (fun i j=>decide (ns.getD i 0 > ns.getD j 0)) (ns.length - 1) < ns.length:=by omega
   rw [List.getD_eq_getElem?_getD,List.getElem?_eq_getElem hlt2]
   exact List.getElem_mem hlt2
  refine fin_walk I (show RelV (.int _) (.int _ t) from⟨t,rfl⟩) (q _ hm fun x hx=>?_) h' tk kk
  obtain⟨i,hi,rfl⟩:=List.mem_iff_getElem.mp hx
  have:=b2 i (by omega)
  rw [List.getD_eq_getElem?_getD,List.getElem?_eq_getElem hi] at this
  exact this
 ·rw [List.size_toArray,<- hl] at n0
  exact fin_walk I rd (q0 (List.length_eq_zero_iff.mp n0)) h' tk kk
theorem pe_callKB {x nm:Str} {p pos kp:Pos} {e ed:Expr} {es:List Expr} {t:TA} {id:String} {td:TE} {r:List V->V->Hp->VK->Prop} (hc:CallK X (.builtin id) nm r) (hg:Gl X x) (hm:X.mg x=none) (hv:bootBuiltins x=some (.builtin id)) (ha:PA X (e::es) t) (hd:PE X ed td) (hn:x≠"__name__":=by decide) (hdb:(x == ("__debug__":Str))=false:=by decide)
  (he:backTo pos (starEach (e::es) X.env)=(false,eval e X.env)::backTo pos (starEach es X.env):=by rfl) (hpl:(backTo pos (starEach (e::es) X.env)).any (·.1)=false:=by rfl):
  PE X (.Call (.Name x p) (e::es) [⟨some nm,ed,kp⟩] pos) (fun σ H Q=>t σ H fun xs H1=>td σ H1 fun d H2=>r xs d H2 Q):=by
 intro pins s σ H Q I h
 refine wpAny_Call_Name_kw (ld_blt I hg hm hv ?_ hn hdb)
 refine callWith_kw (thn (ha pos pins s σ H _ I h) fun us s1 ⟨vs,H1,I1,r1,q1⟩=>kws_cons (thn (hd pins s1 σ H1 _ I1 q1) fun u s2 ⟨d,H2,I2,r2,q2⟩=>kws_nil ?_)) he hpl
 exact hc pins s2 σ H2 vs us d u Q I2 r1 r2 q2
end
end L2
namespace DL
open PySem PySem.Spec PyProof.Rows L2
def dMaxN (t:DA):DE:=fun L S k=>t L S fun ds S1=>match ds with
 | [.ref a]=>∃ ns:List Int,S1 a=some (.lst (ns.map D.int))/\(ns=[]->k .non S1)/\∀ m:Int,m∈ns->(∀ x∈ns,x<=m)->k (.int m) S1
 | _=>False
section
variable {X:Cx} {x:Str} {p pos kp:Pos} {e ed:Expr} {t:DA}
theorem d_maxNj (hg:Gl X x) (hm:X.mg x=none) (hv:bootBuiltins x=some (.builtin "max")) (ha:AJ X [e] t) (hd:EJ X ed (dC .non)) (hc:X.calm=true:=by rfl) (hn:x≠"__name__":=by decide) (hdb:(x == ("__debug__":Str))=false:=by decide)
  (he:backTo pos (starEach [e] X.env)=(false,eval e X.env)::backTo pos (starEach [] X.env):=by rfl) (hpl:(backTo pos (starEach [e] X.env)).any (·.1)=false:=by rfl):
  EJ X (.Call (.Name x p) [e] [⟨some "default",ed,kp⟩] pos) (dMaxN t):=
 ⟨PE.imp (pe_callKB (callk_max hc) hg hm hv ha.h hd.h hn hdb he hpl) fun σ H Q ⟨L,S,k,hL,hS,h,n⟩=>upA.go hL hS h fun ds S1 vs H1 h1 k1 hL1 hS1 i1=>⟨L,S1,fun d S2=>d=.non/\S2=S1,hL1,hS1,⟨rfl,rfl⟩,fun d S2 v H2 ⟨e1,e2⟩ k2 hS2 i2=>by
  subst e1 e2
  split at h1
  ·rename_i a
   obtain⟨ns,z,r0,r⟩:=h1
   obtain⟨x,rfl,j1⟩:=isDs1 (i1.kp k2)
   have e1:=isRef.mp j1
   subst e1
   obtain⟨vs,q1,j⟩:=hS2.lst z
   have e:=isDs_intsM j
   subst e
   exact⟨_,ns,rfl,SqL.of q1,fun e0=>n _ _ _ _ (r0 e0) (k1.trans k2) hS2 i2,fun m a1 a2=>n _ _ _ _ (r m a1 a2) (k1.trans k2) hS2 (isInt.mpr rfl)⟩
  ·exact h1.elim⟩⟩
end
def dEqL:D2:=fun d e S k=>match d,e with
 | .ref a,.ref c=>∃ xs ys b,S a=some (.lst xs)/\S c=some (.lst ys)/\((xs.length=ys.length/\eqTs (eqT 7) xs ys=some b)\/(xs.length≠ys.length/\b=false))/\k (.bl b) S
 | d,e=>∃ b,eqT 8 d e=some b/\k (.bl b) S
theorem eqLen_at {X:Cx} {pins:List (Addr×Obj)} {σ:L2.St} {H:Hp} {s:Shared} {S:DH} {a c:Addr} {xs ys:List D} (I:Inv X pins σ H s) (hS:Hs X.K H S) (h1:S a=some (.lst xs)) (h2:S c=some (.lst ys)) (hl:xs.length≠ys.length) (A:Around) (hu:A.units < cLine):
  SeqAt.RcAt A s (.ref a) (.ref c) false:=by
 obtain⟨v1,g1,j1⟩:=hS.lst h1
 obtain⟨v2,g2,j2⟩:=hS.lst h2
 obtain⟨u1,r1,p1,_⟩:=I.list (SqL.of g1)
 obtain⟨u2,r2,p2,_⟩:=I.list (SqL.of g2)
 refine SeqAt.RcAt.lists_lengths p1.isList p2.isList ?_ hu
 have e1:=j1.length.trans r1.length
 have e2:=j2.length.trans r2.length
 simp only [List.size_toArray,bne_iff_ne,ne_eq]
 omega
theorem o_eqL {X:Cx} {n:Nat} (hr:Room n X.A):OpR X (compareOp .Eq) (upR X.K dEqL):=by
 intro pins s σ H x y v u Q I rx ry h
 obtain⟨d,e,S,k,i1,i2,hS,r,m⟩:=h
 have hu:=hr.units
 unfold dEqL at r
 split at r
 ·obtain⟨xs,ys,b,h1,h2,h3,w⟩:=r
  rcases h3 with ⟨h3,h4⟩ | ⟨h3,rfl⟩
  ·exact o_eqX hr pins s σ H x y v u Q I rx ry ⟨_,_,S,k,i1,i2,hS,⟨xs,ys,b,h1,h2,h3,h4,w⟩,m⟩
  ·have e1:=isRef.mp i1
   have e2:=isRef.mp i2
   subst e1 e2
   cases rx
   cases ry
   exact(eqLen_at I hS h1 h2 h3 X.A (by omega)) X.prog X.w X.xe _ ⟨.bl false,H,I,rfl,up1 m hS w (isBl.mpr rfl)⟩
 ·rename_i hn
  obtain⟨b,h1,w⟩:=r
  refine o_eqX hr pins s σ H x y v u Q I rx ry ⟨_,_,S,k,i1,i2,hS,?_,m⟩
  unfold dEqX
  split
  ·rename_i a c
   exact(hn a c rfl rfl).elim
  ·exact⟨b,h1,w⟩
def dNeN:D2:=fun d e S k=>match d,e with
 | .non,.tup _=>k (.bl true) S
 | .tup _,.non=>k (.bl true) S
 | d,e=>dNeX d e S k
theorem o_neN {X:Cx} {n:Nat} (hr:Room n X.A):OpR X (compareOp .NotEq) (upR X.K dNeN):=by
 intro pins s σ H x y v u Q I rx ry h
 obtain⟨d,e,S,k,i1,i2,hS,r,m⟩:=h
 have hu:=hr.units
 unfold dNeN at r
 split at r
 ·obtain⟨a,vs,rfl,t,j⟩:=isTup.mp i2
  have e1:=isNon.mp i1
  subst e1
  cases rx
  cases ry
  obtain⟨its,_,p,_⟩:=I.tuple t
  exact SeqAt.RcNeAt.none_tuple p (by omega) X.prog X.w X.xe _ ⟨.bl true,H,I,rfl,up1 m hS r (isBl.mpr rfl)⟩
 ·obtain⟨a,vs,rfl,t,j⟩:=isTup.mp i1
  have e1:=isNon.mp i2
  subst e1
  cases rx
  cases ry
  obtain⟨its,_,p,_⟩:=I.tuple t
  exact SeqAt.RcNeAt.tuple_none p (by omega) X.prog X.w X.xe _ ⟨.bl true,H,I,rfl,up1 m hS r (isBl.mpr rfl)⟩
 ·exact o_neX hr pins s σ H x y v u Q I rx ry ⟨_,_,S,k,i1,i2,hS,r,m⟩
end DL
namespace PySem
open Builtin DL
def Hit (A:Around) (s:Shared) (ys:List (List Int×Addr×Value)):List (List Int×Addr×Value)->Bool->Prop
 | [],r=>r=true
 | x::xs,r=>(atKey ys x.1=none/\r=false)\/∃ p e r',atKey ys x.1=some p/\SeqAt.EqAt A s x.2.2 p.2 e/\Hit A s ys xs r'/\r=(e && r')
section
variable {prog:Program} {w:World} {A:Around} {E:Value->Shared->Prop}
theorem sp_dx {nm:String} {a b:Addr} {s:Shared} {xs ys:List (List Int×Addr×Value)} {ep ep':Nat} {r:Bool} {Q:Bool->Shared->Prop} (ha:(a == sysModules)=false) (hb:(b == sysModules)=false) (ga:s.heap.get? a=some (dxO (xs.map eT).toArray ep)) (gb:s.heap.get? b=some (dxO (ys.map eT).toArray ep'))
  (ka:∀ x∈xs,(tupleKind (intKind prog w)).is s.heap x.1 x.2.1) (kb:∀ x∈ys,(tupleKind (intKind prog w)).is s.heap x.1 x.2.1) (nb:(ys.map (·.1)).Nodup) (hu:(tupleKind (intKind prog w)).room A) (len:xs.length=ys.length) (hit:Hit A s ys xs r) (h:Q r s):
  wpAny (model prog w) A (Builtin.Dict.samePairs nm a b) Q E s:=by
 have na:¬ (a == sysModules)=true:=by rw [ha]; decide
 have nb':¬ (b == sysModules)=true:=by rw [hb]; decide
 unfold Builtin.Dict.samePairs Builtin.Dict.showsAll
 rw [if_neg na,if_neg nb']
 refine wpAny_bind (wpAny_pure (wpAny_bind (wpAny_pure (wpAny_bind (wpAny_dictEntries ga rfl ?_)))))
 dsimp only
 refine wpAny_bind (wpAny_dictEntries gb rfl ?_)
 have sz:(xs.map eT).toArray.size=(ys.map eT).toArray.size:=by simp [len]
 rw [if_neg (by rw [sz]; simp)]
 refine wpAny_bind (wpAny_dictEpoch ga rfl (wpAny_bind ?_))
 rw [Std.Legacy.Range.forIn_eq_forIn_range']
 have sz2:(xs.map eT).toArray.size=xs.length:=by simp
 simp only [Std.Legacy.Range.size,Nat.sub_zero,Nat.add_sub_cancel,Nat.div_one,sz2]
 refine wpAny_forIn_list _ (fun rest q s'=>s'=s/\q=(none,())/\∃ pre suf,xs=pre++suf/\rest=List.range' pre.length suf.length/\Hit A s ys suf r) _ ?_ ?_ _ _ ⟨rfl,rfl,[],xs,rfl,rfl,hit⟩
 ·rintro i rest q s' ⟨rfl,rfl,pre,suf,ex,er,ht⟩
  cases suf with
  | nil=>cases er
  | cons x suf=>
   rw [List.length_cons,List.range'_succ] at er
   injection er with e1 e2
   subst e1
   have gx:(xs.map eT).toArray[pre.length]?=some (eT x):=by simp [ex]
   refine wpAny_bind (wpAny_dictEntries ga rfl ?_)
   rw [gx]
   have mx:x∈xs:=by rw [ex]; simp
   refine wpAny_bind (wpAny_holding (wpAny_bind (wpAny_dictFind_heap (knd:=tupleKind (intKind prog w)) (k:=x.1) (a:=x.2.1) (xs:=ys) hu (ka x mx) gb rfl rfl kb nb (fun no=>?_) (fun j p hj=>?_))))
   ·rcases ht with ⟨_,er⟩ | ⟨p,e,r',hp,_⟩
    ·subst er
     exact wpAny_pure (wpAny_pure (wpAny_pure h))
    ·rw [atKey_none_of_get no] at hp
     cases hp
   ·rcases ht with ⟨hn,_⟩ | ⟨p',e,r',hp,he,ht',er⟩
    ·rw [atKey_of_get nb hj] at hn
     cases hn
    ·rw [atKey_of_get nb hj] at hp
     cases hp
     have gy:(ys.map eT).toArray[j]?=some (eT (x.1,p)):=by simp [hj]
     refine wpAny_bind (wpAny_dictEntries gb rfl ?_)
     rw [gy]
     refine wpAny_holding (he prog w _ _ ?_)
     cases e with
     | false=>
      rw [Bool.false_and] at er
      subst er
      exact wpAny_pure (wpAny_pure h)
     | true=>
      rw [Bool.true_and] at er
      subst er
      refine wpAny_bind (wpAny_dictEpoch ga rfl ?_)
      rw [if_neg (by simp)]
      exact wpAny_pure ⟨rfl,rfl,pre++[x],suf,by rw [ex]; simp,by simp [e2],ht'⟩
 ·rintro q s' ⟨rfl,rfl,pre,suf,ex,er,ht⟩
  cases suf with
  | cons x suf=>rw [List.length_cons,List.range'_succ] at er; cases er
  | nil=>
   have ht:r=true:=ht
   subst ht
   exact wpAny_pure h
end
end PySem
namespace DL
open PySem PySem.Spec PyProof.Rows L2
def HitD (kvs':List (List Int×D)):List (List Int×D)->Bool->Prop
 | [],r=>r=true
 | p::ps,r=>(getT kvs' p.1=none/\r=false)\/∃ d e r',getT kvs' p.1=some d/\eqT 6 p.2 d=some e/\HitD kvs' ps r'/\r=(e && r')
section
variable {X:Cx} {pins:List (Addr×Obj)} {σ:L2.St} {H:Hp} {s:Shared}
theorem hit_of (I:Inv X pins σ H s) {A:Around} (hu:A.units+6 < cLine) {kvs':List (List Int×D)} {ys:List (List Int×Addr×Value)} (r2:KtR X.K H kvs' ys):∀ {kvs:List (List Int×D)} {xs:List (List Int×Addr×Value)} {r:Bool},KtR X.K H kvs xs->HitD kvs' kvs r->Hit A s ys xs r
 | _,_,_,.nil,h=>h
 | p::ps,q::qs,r,.cons c t,h=>by
  obtain⟨e1,_,v,rv,iv⟩:=c
  rcases h with ⟨hn,er⟩ | ⟨d,e,r',hd,he,ht,er⟩
  ·rcases r2.get p.1 with ⟨_,g⟩ | ⟨_,_,_,_,g,_⟩
   ·exact .inl ⟨by rw [<- e1]; exact g,er⟩
   ·rw [hn] at g
    cases g
  ·rcases r2.get p.1 with ⟨g,_⟩ | ⟨d',b,u,v2,g,hp,rv2,iv2⟩
   ·rw [hd] at g
    cases g
   ·rw [hd] at g
    cases g
    exact .inr ⟨(b,u),e,r',by rw [<- e1]; exact hp,(eqT_at I 6 A p.2 d v v2 q.2.2 u e hu he iv iv2 rv rv2).1,hit_of I hu r2 t ht,er⟩
end
end DL
namespace PySem
open Builtin DL
section
variable {prog:Program} {w:World} {A:Around} {E:Value->Shared->Prop}
theorem dx_eq {a b:Addr} {s:Shared} {r:Bool} {Q:Value->Shared->Prop} (T1:s.TypeIs (.ref a) "dict") (T2:s.TypeIs (.ref b) "dict") (hu:A.units < cLine) (sp:∀ (Q':Bool->Shared->Prop),Q' r s->wpAny (model prog w) A.in1 (Builtin.Dict.samePairs "dict.__eq__" a b) Q' E s) (h:Q (.bool r) s):
  wpAny (model prog w) A (compareOp .Eq (.ref a) (.ref b)) Q E s:=by
 refine wpAny_richCompare_same_room (op:=.Eq) T1 T2 F.slot_dict_eq (wpAny_call_entry F.slot_dict_eq T1 F.entry_dict_eq ?_ (F.args_dict_eq_2 _ _)) hu
 refine wpAny_bind (m:=Builtin.Dict.dictSlotArgs "__eq__" ⟨[.ref a,.ref b],[]⟩) ?_
 unfold Builtin.Dict.dictSlotArgs
 refine wpAny_bind (wpAny_notOrdered_dict T1 (wpAny_pure (wpAny_bind (wpAny_isInstance (T:="dict") T2 F.sub_dict_dict ?_))))
 rw [if_neg (by decide)]
 refine wpAny_bind (wpAny_pure (wpAny_bind (wpAny_pure (wpAny_bind (sp _ ?_)))))
 exact wpAny_pure ⟨_,rfl,(by intro z; cases z),by cases r <;> exact h⟩
theorem dx_ne {a b:Addr} {s:Shared} {r:Bool} {Q:Value->Shared->Prop} (T1:s.TypeIs (.ref a) "dict") (T2:s.TypeIs (.ref b) "dict") (hu:A.units < cLine) (sp:∀ (Q':Bool->Shared->Prop),Q' r s->wpAny (model prog w) A.in1 (Builtin.Dict.samePairs "dict.__ne__" a b) Q' E s) (h:Q (.bool (!r)) s):
  wpAny (model prog w) A (compareOp .NotEq (.ref a) (.ref b)) Q E s:=by
 refine wpAny_richCompare_same_room (op:=.NotEq) T1 T2 F.slot_dict_ne (wpAny_call_entry F.slot_dict_ne T1 F.entry_dict_ne ?_ (F.args_dict_ne_2 _ _)) hu
 refine wpAny_bind (m:=Builtin.Dict.dictSlotArgs "__ne__" ⟨[.ref a,.ref b],[]⟩) ?_
 unfold Builtin.Dict.dictSlotArgs
 refine wpAny_bind (wpAny_notOrdered_dict T1 (wpAny_pure (wpAny_bind (wpAny_isInstance (T:="dict") T2 F.sub_dict_dict ?_))))
 rw [if_neg (by decide)]
 refine wpAny_bind (wpAny_pure (wpAny_bind (wpAny_pure (wpAny_bind (sp _ ?_)))))
 exact wpAny_pure ⟨_,rfl,(by intro z; cases z),by cases r <;> exact h⟩
theorem sp_len {nm:String} {a b:Addr} {s:Shared} {es es':Array DictEntry} {ep ep':Nat} {Q:Bool->Shared->Prop} (ha:(a == sysModules)=false) (hb:(b == sysModules)=false) (ga:s.heap.get? a=some (dxO es ep)) (gb:s.heap.get? b=some (dxO es' ep')) (n:es.size≠es'.size) (h:Q false s):
  wpAny (model prog w) A (Builtin.Dict.samePairs nm a b) Q E s:=by
 have na:¬ (a == sysModules)=true:=by rw [ha]; decide
 have nb':¬ (b == sysModules)=true:=by rw [hb]; decide
 unfold Builtin.Dict.samePairs Builtin.Dict.showsAll
 rw [if_neg na,if_neg nb']
 refine wpAny_bind (wpAny_pure (wpAny_bind (wpAny_pure (wpAny_bind (wpAny_dictEntries ga rfl ?_)))))
 dsimp only
 refine wpAny_bind (wpAny_dictEntries gb rfl ?_)
 rw [if_pos (by simpa using n)]
 exact wpAny_bind (wpAny_rule (wpAny_pure h))
end
end PySem
namespace DL
open PySem PySem.Spec PyProof.Rows L2
theorem items_cast {p q:Program} {u v:World}:∀ {k:List Int} {l:List Value},PySem.ItemsAre (intKind p u) k l->PySem.ItemsAre (intKind q v) k l:=by
 intro k l h
 induction h with
 | nil=>exact .nil
 | cons a _ ih=>exact .cons a ih
def EqR (kvs kvs':List (List Int×D)) (r:Bool):Prop:=(kvs.length≠kvs'.length/\r=false)\/(kvs.length=kvs'.length/\HitD kvs' kvs r)
section
variable {X:Cx} {pins:List (Addr×Obj)} {σ:L2.St} {H:Hp} {s:Shared}
theorem sp_of (I:Inv X pins σ H s) {S:DH} (hS:Hs X.K H S) {a b:Addr} {kvs kvs':List (List Int×D)} {ep ep':Nat} {r:Bool} {A:Around} (hu:A.units+7 < cLine) (g1:S a=some (.gen (.dT kvs ep))) (g2:S b=some (.gen (.dT kvs' ep'))) (h:EqR kvs kvs' r) {nm:String} {E:Value->Shared->Prop} {prog:Program} {w:World}:
  ∀ (Q':Bool->Shared->Prop),Q' r s->wpAny (model prog w) A.in1 (Builtin.Dict.samePairs nm a b) Q' E s:=fun Q' hq=>by
 obtain⟨xs,w1,r1⟩:=hS.dT g1
 obtain⟨ys,w2,r2⟩:=hS.dT g2
 obtain⟨hd1,_,n1,t1⟩:=dxp_at I w1
 obtain⟨hd2,_,n2,t2⟩:=dxp_at I w2
 have l1:=r1.length
 have l2:=r2.length
 rcases h with ⟨hl,rfl⟩ | ⟨hl,ht⟩
 ·exact sp_len hd1 hd2 t1 t2 (by simp; omega) hq
 ·obtain⟨_,_,_,_,_,_,_,k1,_⟩:=dx_of I w1 r1
  obtain⟨_,_,_,_,_,_,_,k2,_⟩:=dx_of I w2 r2
  have ct:∀ k a,(tupleKind (intKind X.prog X.w)).is s.heap k a->(tupleKind (intKind prog w)).is s.heap k a:=fun k a h=>by
   obtain⟨o,its,n,h1,h2,h3,h4⟩:=h
   exact⟨o,its,n,h1,h2,h3,items_cast h4⟩
  exact sp_dx hd1 hd2 t1 t2 (fun x hx=>ct _ _ (k1 x hx)) (fun x hx=>ct _ _ (k2 x hx)) n2 (tupleKind_room_in1 (by omega)) (by omega) (hit_of I (by show A.units+1+6 < cLine; omega) r2 r1 ht) hq
end
def dEqDD:D2:=fun d e S k=>match d,e with
 | .ref a,.ref b=>∃ kvs ep kvs' ep' r,S a=some (.gen (.dT kvs ep))/\S b=some (.gen (.dT kvs' ep'))/\EqR kvs kvs' r/\k (.bl r) S
 | _,_=>False
def dNeDD:D2:=fun d e S k=>match d,e with
 | .ref a,.ref b=>∃ kvs ep kvs' ep' r,S a=some (.gen (.dT kvs ep))/\S b=some (.gen (.dT kvs' ep'))/\EqR kvs kvs' r/\k (.bl (!r)) S
 | _,_=>False
theorem o_eqDD {X:Cx} {n:Nat} (hr:Room n X.A):OpR X (compareOp .Eq) (upR X.K dEqDD):=by
 intro pins s σ H x y v u Q I rx ry h
 obtain⟨d,e,S,k,i1,i2,hS,r,m⟩:=h
 unfold dEqDD at r
 split at r
 ·rename_i a b
  obtain⟨kvs,ep,kvs',ep',r0,g1,g2,hl,r⟩:=r
  have e1:=isRef.mp i1
  have e2:=isRef.mp i2
  subst e1 e2
  cases (show v=Value.ref a from rx)
  cases (show u=Value.ref b from ry)
  obtain⟨xs,w1,r1⟩:=hS.dT g1
  obtain⟨ys,w2,r2⟩:=hS.dT g2
  have hu:=hr.units
  exact dx_eq ⟨_,(dxp_at I w1).2.2.2,rfl⟩ ⟨_,(dxp_at I w2).2.2.2,rfl⟩ (by omega) (sp_of I hS (by omega) g1 g2 hl) ⟨.bl r0,H,I,rfl,up1 m hS r (isBl.mpr rfl)⟩
 ·exact r.elim
theorem o_neDD {X:Cx} {n:Nat} (hr:Room n X.A):OpR X (compareOp .NotEq) (upR X.K dNeDD):=by
 intro pins s σ H x y v u Q I rx ry h
 obtain⟨d,e,S,k,i1,i2,hS,r,m⟩:=h
 unfold dNeDD at r
 split at r
 ·rename_i a b
  obtain⟨kvs,ep,kvs',ep',r0,g1,g2,hl,r⟩:=r
  have e1:=isRef.mp i1
  have e2:=isRef.mp i2
  subst e1 e2
  cases (show v=Value.ref a from rx)
  cases (show u=Value.ref b from ry)
  obtain⟨xs,w1,r1⟩:=hS.dT g1
  obtain⟨ys,w2,r2⟩:=hS.dT g2
  have hu:=hr.units
  exact dx_ne ⟨_,(dxp_at I w1).2.2.2,rfl⟩ ⟨_,(dxp_at I w2).2.2.2,rfl⟩ (by omega) (sp_of I hS (by omega) g1 g2 hl) ⟨.bl (!r0),H,I,rfl,up1 m hS r (isBl.mpr rfl)⟩
 ·exact r.elim
def dNeA:D2:=fun d e S k=>match d,e with
 | .ref a,.ref b=>dNeDD (.ref a) (.ref b) S k\/dNeN (.ref a) (.ref b) S k
 | d,e=>dNeN d e S k
def dEqA:D2:=fun d e S k=>match d,e with
 | .ref a,.ref b=>dEqDD (.ref a) (.ref b) S k\/dEqL (.ref a) (.ref b) S k
 | d,e=>dEqL d e S k
theorem o_neA {X:Cx} {n:Nat} (hr:Room n X.A):OpR X (compareOp .NotEq) (upR X.K dNeA):=by
 intro pins s σ H x y v u Q I rx ry h
 obtain⟨d,e,S,k,i1,i2,hS,r,m⟩:=h
 unfold dNeA at r
 split at r
 ·rcases r with r | r
  ·exact o_neDD hr pins s σ H x y v u Q I rx ry ⟨_,_,S,k,i1,i2,hS,r,m⟩
  ·exact o_neN hr pins s σ H x y v u Q I rx ry ⟨_,_,S,k,i1,i2,hS,r,m⟩
 ·exact o_neN hr pins s σ H x y v u Q I rx ry ⟨_,_,S,k,i1,i2,hS,r,m⟩
theorem o_eqA {X:Cx} {n:Nat} (hr:Room n X.A):OpR X (compareOp .Eq) (upR X.K dEqA):=by
 intro pins s σ H x y v u Q I rx ry h
 obtain⟨d,e,S,k,i1,i2,hS,r,m⟩:=h
 unfold dEqA at r
 split at r
 ·rcases r with r | r
  ·exact o_eqDD hr pins s σ H x y v u Q I rx ry ⟨_,_,S,k,i1,i2,hS,r,m⟩
  ·exact o_eqL hr pins s σ H x y v u Q I rx ry ⟨_,_,S,k,i1,i2,hS,r,m⟩
 ·exact o_eqL hr pins s σ H x y v u Q I rx ry ⟨_,_,S,k,i1,i2,hS,r,m⟩
theorem hash_le4:∀ i∈List.range 5,∀ j∈List.range 5,∀ a∈List.range 5,∀ b∈List.range 5,hashT [(i:Int),(j:Int)]=hashT [(a:Int),(b:Int)]->i=a/\j=b:=by decide +kernel
end DL
namespace My
open PySem PySem.Spec PyProof.Rows L2 DL HM
set_option maxHeartbeats 4000000
def top (i : Nat) : Stmt := PySem.Challenge.pw_hingedraw_k84_lines_that_cells_draw.main.body.getD i (.Pass ⟨0, 0, 0, 0⟩)
abbrev s_common_divisor:Stmt:=top 15
abbrev s_ratio:Stmt:=top 16
abbrev s_plus:Stmt:=top 17
abbrev s_minus:Stmt:=top 18
abbrev s_times:Stmt:=top 19
abbrev s_over:Stmt:=top 20
abbrev s_negative:Stmt:=top 21
abbrev s_without_sign:Stmt:=top 22
abbrev s_whole_root:Stmt:=top 23
abbrev s_square_root_or_none:Stmt:=top 24
abbrev s_root_in:Stmt:=top 25
abbrev s_is_plain:Stmt:=top 27
abbrev s_with_sign_of:Stmt:=top 28
abbrev s_made:Stmt:=top 30
abbrev s_field_base:Stmt:=top 31
abbrev s_share:Stmt:=top 32
abbrev s_joined:Stmt:=top 33
abbrev s_root_negative:Stmt:=top 34
abbrev s_root_plus:Stmt:=top 35
abbrev s_root_minus:Stmt:=top 36
abbrev s_sign_of:Stmt:=top 37
abbrev s_root_sign:Stmt:=top 38
abbrev s_root_less:Stmt:=top 39
abbrev s_plain_point:Stmt:=top 41
abbrev s_place_of:Stmt:=top 42
abbrev s_plain_way:Stmt:=top 43
abbrev s_product_of_ways:Stmt:=top 44
abbrev s_moved:Stmt:=top 45
abbrev s_square_of_unlike:Stmt:=top 46
abbrev s_without_noughts:Stmt:=top 48
abbrev s_common_multiple:Stmt:=top 49
abbrev s_common_bottom:Stmt:=top 50
abbrev s_tops_over:Stmt:=top 51
abbrev s_normal_of_tops:Stmt:=top 52
abbrev s_normal:Stmt:=top 53
abbrev s_line_from:Stmt:=top 55
abbrev s_degree_of:Stmt:=top 54
abbrev s_is_whole:Stmt:=top 13
abbrev s_is_fraction:Stmt:=top 14
abbrev s_drawn_line:Stmt:=top 57
abbrev s_is_number:Stmt:=top 29
abbrev s_can_reach:Stmt:=top 58
abbrev s_draws:Stmt:=top 59
abbrev s_line_cell:Stmt:=top 60
abbrev s__law_cell_at:Stmt:=top 62
abbrev s__law_state:Stmt:=top 63
abbrev s__law_take:Stmt:=top 64
abbrev s__law_divisor:Stmt:=top 65
abbrev s__law_ratio:Stmt:=top 66
abbrev s__law_times:Stmt:=top 69
abbrev s__law_small:Stmt:=top 71
abbrev s__law_plus:Stmt:=top 67
abbrev s__law_minus:Stmt:=top 68
abbrev s__law_plain:Stmt:=top 73
abbrev s__law_plain_point:Stmt:=top 74
abbrev s__law_above:Stmt:=top 72
abbrev s__law_added:Stmt:=top 76
abbrev s__law_normal:Stmt:=top 77
abbrev s__law_refused:Stmt:=top 78
abbrev s__law_ahead:Stmt:=top 79
abbrev s__law_line:Stmt:=top 80
abbrev s__law_reaches:Stmt:=top 81
abbrev s__law_due:Stmt:=top 82
abbrev s__law_is_plain:Stmt:=top 83
abbrev s__law_told_right:Stmt:=top 84
abbrev s__law_own_right:Stmt:=top 85
abbrev s_law:Stmt:=top 86
theorem bt_abs:bootBuiltins "abs"=some (.builtin "abs"):=by decide +kernel
theorem bt_max:bootBuiltins "max"=some (.builtin "max"):=by decide +kernel
theorem bt_len:bootBuiltins "len"=some (.builtin "len"):=by decide +kernel
theorem bt_isinstance:bootBuiltins "isinstance"=some (.builtin "isinstance"):=by decide +kernel
theorem bt_bool:bootBuiltins "bool"=some (.type "bool"):=by decide +kernel
theorem bt_int:bootBuiltins "int"=some (.type "int"):=by decide +kernel
theorem bt_tuple:bootBuiltins "tuple"=some (.type "tuple"):=by decide +kernel
theorem bt_dict:bootBuiltins "dict"=some (.type "dict"):=by decide +kernel
theorem bt_ValueError:bootBuiltins "ValueError"=some (.type "ValueError"):=by decide +kernel
theorem bt_min:bootBuiltins "min"=some (.builtin "min"):=by decide +kernel
theorem ite_ne {y:Int} {A B:Prop} (h1:y≠0->A) (h2:y=0->B):if (!decide (y=0))=true then A else B:=by
 by_cases h:y=0
 ·rw [if_neg (by simp [h])]; exact h2 h
 ·rw [if_pos (by simp [h])]; exact h1 h
theorem ite_dec {p:Prop} [Decidable p] {A B:Prop} (h1:p->A) (h2:¬ p->B):if decide p=true then A else B:=by
 by_cases h:p
 ·rw [if_pos (by simp [h])]; exact h1 h
 ·rw [if_neg (by simp [h])]; exact h2 h
theorem ite_ndec {p:Prop} [Decidable p] {A B:Prop} (h1:¬ p->A) (h2:p->B):if (!decide p)=true then A else B:=by
 by_cases h:p
 ·rw [if_neg (by simp [h])]; exact h2 h
 ·rw [if_pos (by simp [h])]; exact h1 h
theorem ite_b {c:Bool} {A B:Prop} (h1:c=true->A) (h2:c=false->B):if c=true then A else B:=by
 cases c
 ·exact iteF (h2 rfl)
 ·exact iteT (h1 rfl)
theorem ite_nb {c:Bool} {A B:Prop} (h1:c=false->A) (h2:c=true->B):if (!c)=true then A else B:=by
 cases c
 ·exact iteT (h1 rfl)
 ·exact iteF (h2 rfl)
theorem atI_mem {ds:List D} {i:Int} (h0:0<=i) (h1:i < (ds.length:Int)):∃ d,L2.atI ds i=some d/\d∈ds:=by
 obtain⟨n,rfl⟩:=Int.eq_ofNat_of_zero_le h0
 have hn:n < ds.length:=by omega
 exact⟨ds[n],atI_nat (by simp [hn]),List.getElem_mem hn⟩
theorem loop_all {ok:DH->Prop} {g:DG} {b:DS} {M:DEnds} {P:D->Prop} (Iv:Lo->DH->Prop) (hok:∀ L S,Iv L S->ok S)
  (hs:∀ d L S N,P d->Iv L S->(∀ L' S',Iv L' S'->N L' S')->g d L S fun L1 S1=>b {M with nx:=N,ct:=N,bk:=M.nx} L1 S1) (hd:∀ L S,Iv L S->M.nx L S):∀ r,(∀ d∈r,P d)->∀ L S,Iv L S->dLoop ok g b M r L S
 | [],_,L,S,i=>⟨hok L S i,hd L S i⟩
 | d::r,hp,L,S,i=>⟨hok L S i,hs d L S _ (hp d List.mem_cons_self) i fun L' S' i'=>loop_all Iv hok hs hd r (fun e he=>hp e (List.mem_cons_of_mem _ he)) L' S' i'⟩
instance {n:Nat} {x:Int}:Decidable (Bt n x):=inferInstanceAs (Decidable (x.natAbs < 2 ^ n))
theorem put_keep {S:DH} {p a:Addr} {o u:DO} (hp:S p=none) (h:S a=some u):put S p o a=some u:=by rw [put_ne (ne_put h hp)]; exact h
theorem few {ds:List D} (h:Nat.ble ds.length sizeLine=true:=by rfl):ds.length<=sizeLine:=Nat.le_of_ble_eq_true h
def SOK (S:DH) (a:Addr):Prop:=∃ n b,S a=some (.lst [.int n,.bl b])/\(b=false->0<=n/\n < 2147483647)
def Dr (a:Addr) (S S':DH):Prop:=SOK S' a/\∀ b o,b≠a->S b=some o->S' b=some o
theorem Dr.trans {a:Addr} {S S1 S2:DH} (h1:Dr a S S1) (h2:Dr a S1 S2):Dr a S S2:=⟨h2.1,fun b o n e=>h2.2 b o n (h1.2 b o n e)⟩
theorem SOK.ne {a p:Addr} {S:DH} (h:SOK S a) (hp:S p=none):p≠a:=by
 obtain⟨n,b,e,_⟩:=h
 intro z
 subst z
 rw [e] at hp
 cases hp
theorem SOK.new {a p:Addr} {S:DH} {o:DO} (h:SOK S a) (hp:S p=none):SOK (put S p o) a:=by
 have z:=h.ne hp
 obtain⟨n,b,e,q⟩:=h
 exact⟨n,b,by rw [put_ne (Ne.symm z)]; exact e,q⟩
theorem Dr.new {a p:Addr} {S:DH} {o:DO} (h:SOK S a) (hp:S p=none):Dr a S (put S p o):=
 ⟨h.new hp,fun b u n e=>by rw [put_ne (ne_put e hp)]; exact e⟩
theorem bt31 {x:Int} (h1:0<=x) (h2:x < 2147483648):Bt 31 x:=by
 unfold Bt
 omega
def N (u a b:Rat):D:=.tup [fr a,fr (ss b*u)]
structure Fd (u:Rat):Prop where
 pos:0 < u
 no:NoSq u
 sz:Sz 600 u
theorem fr_neg {q:Rat}:D.tup [.int (-q.num),.int (q.den:Int)]=fr (-q):=by
 show _=D.tup [.int (-q).num,.int ((-q).den:Int)]
 rw [Rat.neg_num,Rat.neg_den]
theorem fr_ab {q:Rat}:D.tup [.int (if q.num < 0 then -q.num else q.num),.int (q.den:Int)]=fr (ab q):=by
 show _=D.tup [.int (ab q).num,.int ((ab q).den:Int)]
 rw [ab_num,ab_den]
theorem gcd_bt {n:Nat} {t b:Int} (h:b≠0) (hb:Bt n b):Bt n ((Int.gcd t b:Nat):Int):=by
 refine hb.le ?_
 have h1:Int.gcd t b ∣ b.natAbs:=by
  have:=Int.gcd_dvd_right t b
  exact(by have:=Int.natAbs_dvd_natAbs.mpr this; simpa using this)
 have:=Nat.le_of_dvd (by omega) h1
 omega
def F_common_divisor:DSp:=fun ds S k=>match ds with
 | [.int a,.int b]=>k (.int ((Int.gcd a b:Nat):Int)) S
 | _=>False
theorem sc_common_divisor:FnScope ["one","other","rest"] ["one","other"] (defScope s_common_divisor):=⟨rfl,rfl,rfl,by decide +kernel,rfl,by decide +kernel,by decide +kernel⟩
theorem ok_common_divisor {P:Program} {w:World} {K:Fg} {mg:Str->Option Value} {base:Heap} {f:Addr} {fd:FuncData} (Fn:Fun K "common_divisor" "common_divisor" s_common_divisor f fd) (z_abs:mg "abs"=none):
  FnOk P w K mg base CX0 1 f fd ["one","other"] (spU K F_common_divisor):=by
 refine Fn.okJ sc_common_divisor (fun ds S k h=>?_) (fun cdv A outer s H E hr=>⟨_,(ds_consj (dst_whilej PassesOwn.never (dt_cmpj o_ne (d_varj 1) d_intj (nomark _)) (ds_consj (dst_setj (i:=2) sc_common_divisor.nd (d_opj o_mod (d_varj 0) (d_varj 1))) (ds_consj (dst_setj (i:=0) sc_common_divisor.nd (d_varj 1)) (ds_onej (dst_setj (i:=1) sc_common_divisor.nd (d_varj 2)))))) (ds_onej (dst_retj (d_callBj b_abs rfl z_abs bt_abs (da_consj (d_varj 0) da_nilj))))),fun ds S k h=>?_⟩)
 ·unfold F_common_divisor at h
  split at h
  ·rfl
  ·exact h.elim
 ·unfold F_common_divisor at h
  split at h
  ·rename_i a b
   refine⟨fun m L S'=>S'=S/\∃ x y r,L=[some (.int x),some (.int y),r]/\m=y.natAbs/\Int.gcd x y=Int.gcd a b,⟨_,rfl,a,b,_,rfl,rfl,rfl⟩,?_⟩
   rintro m L S' ⟨rfl,x,y,r,rfl,rfl,e⟩
   refine ite_ne (fun hy=>⟨fun L' S''=>∃ m',m' < y.natAbs/\S''=S'/\∃ x y r,L'=[some (.int x),some (.int y),r]/\m'=y.natAbs/\Int.gcd x y=Int.gcd a b,fun _ _ z=>z,hy,?_⟩) (fun hy=>?_)
   ·exact⟨_,fmod_lt x y hy,rfl,y,x.fmod y,_,rfl,rfl,(gcd_fmod x y).trans e⟩
   ·subst hy
    have e2:=gcd_zero x
    rw [e] at e2
    show k (.int (if x < 0 then -x else x)) S'
    rw [<- e2]
    exact h
  ·exact h.elim
def F_ratio:DSp:=fun ds S k=>match ds with
 | [.int t,.int b]=>b≠0/\Bt 8000 b/\k (fr (Rat.divInt t b)) S
 | _=>False
theorem ratio_go {S:DH} {k:DK} {t b:Int} {q:Rat} (e:Rat.divInt t b=q) (h0:b≠0) (hb:Bt 8000 b) (h:k (fr q) S):F_ratio [.int t,.int b] S k:=by subst e; exact⟨h0,hb,h⟩
theorem sc_ratio:FnScope ["top","bottom","shared"] ["top","bottom"] (defScope s_ratio):=⟨rfl,rfl,rfl,by decide +kernel,rfl,by decide +kernel,by decide +kernel⟩
theorem ok_ratio {P:Program} {w:World} {K:Fg} {mg:Str->Option Value} {base:Heap} {f:Addr} {fd:FuncData} (Fn:Fun K "ratio" "ratio" s_ratio f fd) (c_common_divisor:Own P w K mg base "common_divisor" 1 F_common_divisor):
  FnOk P w K mg base CX0 2 f fd ["top","bottom"] (spU K F_ratio):=by
 refine Fn.okJ sc_ratio (fun ds S k h=>?_) (fun cdv A outer s H E hr=>⟨_,(ds_consj (dst_ifj (dt_cmpj o_eq (d_varj 1) d_intj (nomark _)) (ds_onej dst_neverj) ds_nilj) (ds_consj (dst_setj (i:=2) sc_ratio.nd (d_callj c_common_divisor (hr.mono (by decide)) rfl (da_consj (d_varj 0) (da_consj (d_varj 1) da_nilj)))) (ds_consj (dst_ifj (dt_cmpj o_lt (d_varj 1) d_intj (nomark _)) (ds_onej (dst_setj (i:=2) sc_ratio.nd (d_unj o_neg (d_varj 2)))) ds_nilj) (ds_onej (dst_retj (d_tupj (da_consj (d_opj o_div (d_varj 0) (d_varj 2)) (da_consj (d_opj o_div (d_varj 1) (d_varj 2)) da_nilj)))))))),fun ds S k h=>?_⟩)
 ·unfold F_ratio at h
  split at h
  ·rfl
  ·exact h.elim
 ·unfold F_ratio at h
  split at h
  ·rename_i t b
   obtain⟨h0,hb,q⟩:=h
   have hg:=gcd_bt (t:=t) h0 hb
   have hs:=shr_ne (t:=t) h0
   have e1:=div_num (t:=t) h0
   have e2:=div_den (t:=t) h0
   have qq:k (.tup [.int (t.fdiv (shr t b)),.int (b.fdiv (shr t b))]) S:=by rw [e1,e2]; exact q
   unfold shr at qq hs
   refine ite_dec (fun z=>absurd z h0) (fun _=>ite_dec (fun hl=>?_) (fun hl=>?_))
   ·rw [if_pos hl] at qq hs
    exact⟨dok hs hg.neg,dok hs hg.neg,few,qq⟩
   ·rw [if_neg hl] at qq hs
    exact⟨dok hs hg,dok hs hg,few,qq⟩
  ·exact h.elim
def F_plus:DSp:=fun ds S k=>∃ p q:Rat,ds=[fr p,fr q]/\Sz 4000 p/\Sz 4000 q/\k (fr (p+q)) S
theorem sc_plus:FnScope ["one","other"] ["one","other"] (defScope s_plus):=⟨rfl,rfl,rfl,by decide +kernel,rfl,by decide +kernel,by decide +kernel⟩
theorem ok_plus {P:Program} {w:World} {K:Fg} {mg:Str->Option Value} {base:Heap} {f:Addr} {fd:FuncData} (Fn:Fun K "plus" "plus" s_plus f fd) (c_ratio:Own P w K mg base "ratio" 2 F_ratio):
  FnOk P w K mg base CX0 3 f fd ["one","other"] (spU K F_plus):=by
 refine Fn.okJ sc_plus (fun ds S k h=>?_) (fun cdv A outer s H E hr=>⟨_,(ds_onej (dst_retj (d_callj c_ratio (hr.mono (by decide)) rfl (da_consj (d_opj o_add (d_opj o_mul (d_ixj x_ixE (d_varj 0) d_intj (fun _ _=>rfl)) (d_ixj x_ixE (d_varj 1) d_intj (fun _ _=>rfl))) (d_opj o_mul (d_ixj x_ixE (d_varj 1) d_intj (fun _ _=>rfl)) (d_ixj x_ixE (d_varj 0) d_intj (fun _ _=>rfl)))) (da_consj (d_opj o_mul (d_ixj x_ixE (d_varj 0) d_intj (fun _ _=>rfl)) (d_ixj x_ixE (d_varj 1) d_intj (fun _ _=>rfl))) da_nilj))))),fun ds S k h=>?_⟩)
 ·obtain⟨_,_,rfl,_⟩:=h
  rfl
 ·obtain⟨p,q,rfl,hp,hq,w⟩:=h
  exact⟨mok hp.num hq.den,mok hq.num hp.den,mok hp.den hq.den,ratio_go (add_of p q) (den_mul_ne p q) ((hp.den.mul hq.den).mono (by decide)) w⟩
def F_minus:DSp:=fun ds S k=>∃ p q:Rat,ds=[fr p,fr q]/\Sz 4000 p/\Sz 4000 q/\k (fr (p - q)) S
theorem sc_minus:FnScope ["one","other"] ["one","other"] (defScope s_minus):=⟨rfl,rfl,rfl,by decide +kernel,rfl,by decide +kernel,by decide +kernel⟩
theorem ok_minus {P:Program} {w:World} {K:Fg} {mg:Str->Option Value} {base:Heap} {f:Addr} {fd:FuncData} (Fn:Fun K "minus" "minus" s_minus f fd) (c_ratio:Own P w K mg base "ratio" 2 F_ratio):
  FnOk P w K mg base CX0 3 f fd ["one","other"] (spU K F_minus):=by
 refine Fn.okJ sc_minus (fun ds S k h=>?_) (fun cdv A outer s H E hr=>⟨_,(ds_onej (dst_retj (d_callj c_ratio (hr.mono (by decide)) rfl (da_consj (d_opj o_sub (d_opj o_mul (d_ixj x_ixE (d_varj 0) d_intj (fun _ _=>rfl)) (d_ixj x_ixE (d_varj 1) d_intj (fun _ _=>rfl))) (d_opj o_mul (d_ixj x_ixE (d_varj 1) d_intj (fun _ _=>rfl)) (d_ixj x_ixE (d_varj 0) d_intj (fun _ _=>rfl)))) (da_consj (d_opj o_mul (d_ixj x_ixE (d_varj 0) d_intj (fun _ _=>rfl)) (d_ixj x_ixE (d_varj 1) d_intj (fun _ _=>rfl))) da_nilj))))),fun ds S k h=>?_⟩)
 ·obtain⟨_,_,rfl,_⟩:=h
  rfl
 ·obtain⟨p,q,rfl,hp,hq,w⟩:=h
  exact⟨mok hp.num hq.den,mok hq.num hp.den,mok hp.den hq.den,ratio_go (sub_of p q) (den_mul_ne p q) ((hp.den.mul hq.den).mono (by decide)) w⟩
def F_times:DSp:=fun ds S k=>∃ p q:Rat,ds=[fr p,fr q]/\Sz 4000 p/\Sz 4000 q/\k (fr (p*q)) S
theorem sc_times:FnScope ["one","other"] ["one","other"] (defScope s_times):=⟨rfl,rfl,rfl,by decide +kernel,rfl,by decide +kernel,by decide +kernel⟩
theorem ok_times {P:Program} {w:World} {K:Fg} {mg:Str->Option Value} {base:Heap} {f:Addr} {fd:FuncData} (Fn:Fun K "times" "times" s_times f fd) (c_ratio:Own P w K mg base "ratio" 2 F_ratio):
  FnOk P w K mg base CX0 3 f fd ["one","other"] (spU K F_times):=by
 refine Fn.okJ sc_times (fun ds S k h=>?_) (fun cdv A outer s H E hr=>⟨_,(ds_onej (dst_retj (d_callj c_ratio (hr.mono (by decide)) rfl (da_consj (d_opj o_mul (d_ixj x_ixE (d_varj 0) d_intj (fun _ _=>rfl)) (d_ixj x_ixE (d_varj 1) d_intj (fun _ _=>rfl))) (da_consj (d_opj o_mul (d_ixj x_ixE (d_varj 0) d_intj (fun _ _=>rfl)) (d_ixj x_ixE (d_varj 1) d_intj (fun _ _=>rfl))) da_nilj))))),fun ds S k h=>?_⟩)
 ·obtain⟨_,_,rfl,_⟩:=h
  rfl
 ·obtain⟨p,q,rfl,hp,hq,w⟩:=h
  exact⟨mok hp.num hq.num,mok hp.den hq.den,ratio_go (mul_of p q) (den_mul_ne p q) ((hp.den.mul hq.den).mono (by decide)) w⟩
def F_over:DSp:=fun ds S k=>∃ p q:Rat,ds=[fr p,fr q]/\q≠0/\Sz 4000 p/\Sz 4000 q/\k (fr (p / q)) S
theorem sc_over:FnScope ["one","other"] ["one","other"] (defScope s_over):=⟨rfl,rfl,rfl,by decide +kernel,rfl,by decide +kernel,by decide +kernel⟩
theorem ok_over {P:Program} {w:World} {K:Fg} {mg:Str->Option Value} {base:Heap} {f:Addr} {fd:FuncData} (Fn:Fun K "over" "over" s_over f fd) (c_ratio:Own P w K mg base "ratio" 2 F_ratio):
  FnOk P w K mg base CX0 3 f fd ["one","other"] (spU K F_over):=by
 refine Fn.okJ sc_over (fun ds S k h=>?_) (fun cdv A outer s H E hr=>⟨_,(ds_onej (dst_retj (d_callj c_ratio (hr.mono (by decide)) rfl (da_consj (d_opj o_mul (d_ixj x_ixE (d_varj 0) d_intj (fun _ _=>rfl)) (d_ixj x_ixE (d_varj 1) d_intj (fun _ _=>rfl))) (da_consj (d_opj o_mul (d_ixj x_ixE (d_varj 0) d_intj (fun _ _=>rfl)) (d_ixj x_ixE (d_varj 1) d_intj (fun _ _=>rfl))) da_nilj))))),fun ds S k h=>?_⟩)
 ·obtain⟨_,_,rfl,_⟩:=h
  rfl
 ·obtain⟨p,q,rfl,h0,hp,hq,w⟩:=h
  exact⟨mok hp.num hq.den,mok hp.den hq.num,ratio_go (div_of p q) (Int.mul_ne_zero (den_ne p) (num_ne h0)) ((hp.den.mul hq.num).mono (by decide)) w⟩
def F_negative:DSp:=fun ds S k=>∃ q:Rat,ds=[fr q]/\k (fr (-q)) S
theorem sc_negative:FnScope ["one"] ["one"] (defScope s_negative):=⟨rfl,rfl,rfl,by decide +kernel,rfl,by decide +kernel,by decide +kernel⟩
theorem ok_negative {P:Program} {w:World} {K:Fg} {mg:Str->Option Value} {base:Heap} {f:Addr} {fd:FuncData} (Fn:Fun K "negative" "negative" s_negative f fd):
  FnOk P w K mg base CX0 1 f fd ["one"] (spU K F_negative):=by
 refine Fn.okJ sc_negative (fun ds S k h=>?_) (fun cdv A outer s H E hr=>⟨_,(ds_onej (dst_retj (d_tupj (da_consj (d_unj o_neg (d_ixj x_ixE (d_varj 0) d_intj (fun _ _=>rfl))) (da_consj (d_ixj x_ixE (d_varj 0) d_intj (fun _ _=>rfl)) da_nilj))))),fun ds S k h=>?_⟩)
 ·obtain⟨_,rfl,_⟩:=h
  rfl
 ·obtain⟨q,rfl,w⟩:=h
  rw [<- fr_neg] at w
  exact⟨few,w⟩
def F_without_sign:DSp:=fun ds S k=>∃ q:Rat,ds=[fr q]/\k (fr (ab q)) S
theorem sc_without_sign:FnScope ["one"] ["one"] (defScope s_without_sign):=⟨rfl,rfl,rfl,by decide +kernel,rfl,by decide +kernel,by decide +kernel⟩
theorem ok_without_sign {P:Program} {w:World} {K:Fg} {mg:Str->Option Value} {base:Heap} {f:Addr} {fd:FuncData} (Fn:Fun K "without_sign" "without_sign" s_without_sign f fd) (z_abs:mg "abs"=none):
  FnOk P w K mg base CX0 1 f fd ["one"] (spU K F_without_sign):=by
 refine Fn.okJ sc_without_sign (fun ds S k h=>?_) (fun cdv A outer s H E hr=>⟨_,(ds_onej (dst_retj (d_tupj (da_consj (d_callBj b_abs rfl z_abs bt_abs (da_consj (d_ixj x_ixE (d_varj 0) d_intj (fun _ _=>rfl)) da_nilj)) (da_consj (d_ixj x_ixE (d_varj 0) d_intj (fun _ _=>rfl)) da_nilj))))),fun ds S k h=>?_⟩)
 ·obtain⟨_,rfl,_⟩:=h
  rfl
 ·obtain⟨q,rfl,w⟩:=h
  rw [<- fr_ab] at w
  exact⟨few,w⟩
set_option maxHeartbeats 4000000
def F_whole_root:DSp:=fun ds S k=>∃ n:Int,ds=[.int n]/\0<=n/\Bt 4000 n/\k (.int (isq n)) S
theorem sc_whole_root:FnScope ["number","guess","better"] ["number"] (defScope s_whole_root):=⟨rfl,rfl,rfl,by decide +kernel,rfl,by decide +kernel,by decide +kernel⟩
theorem ok_whole_root {P:Program} {w:World} {K:Fg} {mg:Str->Option Value} {base:Heap} {f:Addr} {fd:FuncData} (Fn:Fun K "whole_root" "whole_root" s_whole_root f fd):
  FnOk P w K mg base CX0 1 f fd ["number"] (spU K F_whole_root):=by
 refine Fn.okJ sc_whole_root (fun ds S k h=>?_) (fun cdv A outer s H E hr=>⟨_,(ds_consj (dst_ifj (dt_cmpj o_eq (d_varj 0) d_intj (nomark _)) (ds_onej (dst_retj d_intj)) ds_nilj) (ds_consj (dst_setj (i:=1) sc_whole_root.nd (d_opj o_shl d_intj (d_opj o_div (d_opj o_add (d_bitsj (d_varj 0)) d_intj) d_intj))) (ds_consj (dst_setj (i:=2) sc_whole_root.nd (d_opj o_div (d_opj o_add (d_varj 1) (d_opj o_div (d_varj 0) (d_varj 1))) d_intj)) (ds_consj (dst_whilej PassesOwn.never (dt_cmpj o_lt (d_varj 2) (d_varj 1) (nomark _)) (ds_consj (dst_setj (i:=1) sc_whole_root.nd (d_varj 2)) (ds_onej (dst_setj (i:=2) sc_whole_root.nd (d_opj o_div (d_opj o_add (d_varj 1) (d_opj o_div (d_varj 0) (d_varj 1))) d_intj))))) (ds_onej (dst_retj (d_varj 1))))))),fun ds S k h=>?_⟩)
 ·obtain⟨_,rfl,_⟩:=h
  rfl
 ·obtain⟨n,rfl,h0,hb,q⟩:=h
  refine ite_dec (fun e=>?_) (fun e=>?_)
  ·subst e
   rw [isq_zero] at q
   exact q
  ·have hbits:Builtin.Int.intBits n<=4000:=intBits_le_iff.mpr hb
   have h1:1<=n:=by omega
   have hn:n.natAbs < 2 ^ Builtin.Int.intBits n:=intBits_le_iff.mp (Nat.le_refl _)
   have G:=Gd.first h1 hn hbits
   have hc:CPow 1 ((((Builtin.Int.intBits n:Nat):Int)+1).fdiv 2):=by
    have e2:=fdiv2 (((Builtin.Int.intBits n:Nat):Int)+1) (b:=2) (by decide)
    exact⟨by rw [e2]; omega,by rw [e2]; omega,by decide⟩
   have two:∀ x:Int,CDivB x 2:=fun x=>⟨by decide,by decide +kernel⟩
   have dv:∀ g:Int,Gd n g->CDivB n g:=fun g G=>dok (by have:=G.pos; omega) G.bt
   refine⟨two _,hc,dv _ G,two _,fun m L S'=>S'=S/\∃ g,L=[some (.int n),some (.int g),some (.int ((g+n.fdiv g).fdiv 2))]/\m=g.toNat/\Gd n g,⟨_,rfl,_,rfl,rfl,G⟩,?_⟩
   rintro m L S' ⟨rfl,g,rfl,rfl,G⟩
   refine ite_dec (fun hl=>⟨fun L' S''=>∃ m',m' < g.toNat/\S''=S'/\∃ g,L'=[some (.int n),some (.int g),some (.int ((g+n.fdiv g).fdiv 2))]/\m'=g.toNat/\Gd n g,fun _ _ z=>z,dv _ (G.next h1 hl),two _,?_⟩) (fun hl=>?_)
   ·have G2:=G.next h1 hl
    exact⟨_,by have:=G2.pos; have:=G.pos; omega,rfl,_,rfl,rfl,G2⟩
   ·rw [<- G.last h1 hl] at q
    exact q
def sqD (n:Int):D:=if isq n*isq n=n then .int (isq n) else .non
def F_square_root_or_none:DSp:=fun ds S k=>∃ n:Int,ds=[.int n]/\0<=n/\Bt 4000 n/\k (sqD n) S
theorem sc_square_root_or_none:FnScope ["number","root"] ["number"] (defScope s_square_root_or_none):=⟨rfl,rfl,rfl,by decide +kernel,rfl,by decide +kernel,by decide +kernel⟩
theorem ok_square_root_or_none {P:Program} {w:World} {K:Fg} {mg:Str->Option Value} {base:Heap} {f:Addr} {fd:FuncData} (Fn:Fun K "square_root_or_none" "square_root_or_none" s_square_root_or_none f fd) (c_whole_root:Own P w K mg base "whole_root" 1 F_whole_root):
  FnOk P w K mg base CX0 2 f fd ["number"] (spU K F_square_root_or_none):=by
 refine Fn.okJ sc_square_root_or_none (fun ds S k h=>?_) (fun cdv A outer s H E hr=>⟨_,(ds_consj (dst_setj (i:=1) sc_square_root_or_none.nd (d_callj c_whole_root (hr.mono (by decide)) rfl (da_consj (d_varj 0) da_nilj))) (ds_onej (dst_retj (d_ifj (dt_cmpj o_eq (d_opj o_mul (d_varj 1) (d_varj 1)) (d_varj 0) (nomark _)) (d_varj 1) d_nonj)))),fun ds S k h=>?_⟩)
 ·obtain⟨_,rfl,_⟩:=h
  rfl
 ·obtain⟨n,rfl,h0,hb,q⟩:=h
  have b2:=isq_bt h0 hb
  refine⟨n,rfl,h0,hb,mok b2 b2,ite_dec (fun e=>?_) (fun e=>?_)⟩
  ·rw [sqD,if_pos e] at q
   exact q
  ·rw [sqD,if_neg e] at q
   exact q
def F_root_in:DSp:=fun ds S k=>∃ q:Rat,ds=[fr q]/\0<=q/\Sz 4000 q/\(∀ r,0<=r->r*r=q->k (fr r) S)/\(NoSq q->k .non S)
theorem sc_root_in:FnScope ["one","top","bottom"] ["one"] (defScope s_root_in):=⟨rfl,rfl,rfl,by decide +kernel,rfl,by decide +kernel,by decide +kernel⟩
theorem ok_root_in {P:Program} {w:World} {K:Fg} {mg:Str->Option Value} {base:Heap} {f:Addr} {fd:FuncData} (Fn:Fun K "root_in" "root_in" s_root_in f fd) (c_square_root_or_none:Own P w K mg base "square_root_or_none" 2 F_square_root_or_none):
  FnOk P w K mg base CX0 3 f fd ["one"] (spU K F_root_in):=by
 refine Fn.okJ sc_root_in (fun ds S k h=>?_) (fun cdv A outer s H E hr=>⟨_,(ds_consj (dst_setj (i:=1) sc_root_in.nd (d_callj c_square_root_or_none (hr.mono (by decide)) rfl (da_consj (d_ixj x_ixE (d_varj 0) d_intj (fun _ _=>rfl)) da_nilj))) (ds_consj (dst_ifj (dt_cmpj o_is (d_varj 1) d_nonj (nomark _)) (ds_onej (dst_retj d_nonj)) ds_nilj) (ds_consj (dst_setj (i:=2) sc_root_in.nd (d_callj c_square_root_or_none (hr.mono (by decide)) rfl (da_consj (d_ixj x_ixE (d_varj 0) d_intj (fun _ _=>rfl)) da_nilj))) (ds_consj (dst_ifj (dt_cmpj o_is (d_varj 2) d_nonj (nomark _)) (ds_onej (dst_retj d_nonj)) ds_nilj) (ds_onej (dst_retj (d_tupj (da_consj (d_varj 1) (da_consj (d_varj 2) da_nilj))))))))),fun ds S k h=>?_⟩)
 ·obtain⟨_,rfl,_⟩:=h
  rfl
 ·obtain⟨q,rfl,h0,hs,h1,h2⟩:=h
  have n0:=num_nn h0
  by_cases e:isq q.num*isq q.num=q.num
  ·by_cases e2:isq (q.den:Int)*isq (q.den:Int)=(q.den:Int)
   ·obtain⟨r,r0,rr⟩:=sq_of_root h0 e e2
    obtain⟨e3,e4⟩:=root_of_sq r0 rr
    have w:=h1 r r0 rr
    refine⟨q.num,rfl,n0,hs.num,?_⟩
    rw [show sqD q.num=.int (isq q.num) from if_pos e]
    refine⟨(q.den:Int),rfl,by omega,hs.den,?_⟩
    rw [show sqD (q.den:Int)=.int (isq (q.den:Int)) from if_pos e2,e3,e4]
    exact⟨few,w⟩
   ·refine⟨q.num,rfl,n0,hs.num,?_⟩
    rw [show sqD q.num=.int (isq q.num) from if_pos e]
    refine⟨(q.den:Int),rfl,by omega,hs.den,?_⟩
    rw [show sqD (q.den:Int)=.non from if_neg e2]
    refine h2 fun r rr=>e2 ?_
    have:=congrArg (fun z:Rat=>(z.den:Int)) rr
    simp only [sq_den,Int.natCast_mul] at this
    exact isq_sq this
  ·refine⟨q.num,rfl,n0,hs.num,?_⟩
   rw [show sqD q.num=.non from if_neg e]
   refine h2 fun r rr=>e ?_
   have:=congrArg Rat.num rr
   rw [sq_num] at this
   exact isq_sq this
def F_is_plain:DSp:=fun ds S k=>∃ x q,ds=[.tup [x,fr q]]/\k (.bl (decide (q=0))) S
theorem sc_is_plain:FnScope ["one"] ["one"] (defScope s_is_plain):=⟨rfl,rfl,rfl,by decide +kernel,rfl,by decide +kernel,by decide +kernel⟩
theorem ok_is_plain {P:Program} {w:World} {K:Fg} {mg:Str->Option Value} {base:Heap} {f:Addr} {fd:FuncData} (Fn:Fun K "is_plain" "is_plain" s_is_plain f fd):
  FnOk P w K mg base CX0 1 f fd ["one"] (spU K F_is_plain):=by
 refine Fn.okJ sc_is_plain (fun ds S k h=>?_) (fun cdv A outer s H E hr=>⟨_,(ds_onej (dst_retj (d_cmpj o_eq (d_ixj x_ixE (d_ixj x_ixE (d_varj 0) d_intj (fun _ _=>rfl)) d_intj (fun _ _=>rfl)) d_intj (nomark _)))),fun ds S k h=>?_⟩)
 ·obtain⟨_,_,rfl,_⟩:=h
  rfl
 ·obtain⟨x,q,rfl,w⟩:=h
  have e:decide (q.num=0)=decide (q=0):=by
   by_cases h0:q=0
   ·subst h0; rfl
   ·rw [decide_eq_false h0,decide_eq_false (num_ne h0)]
  rw [<- e] at w
  exact w
def F_with_sign_of:DSp:=fun ds S k=>∃ p q:Rat,ds=[fr p,fr q]/\k (fr (sg p q)) S
theorem sc_with_sign_of:FnScope ["one","other"] ["one","other"] (defScope s_with_sign_of):=⟨rfl,rfl,rfl,by decide +kernel,rfl,by decide +kernel,by decide +kernel⟩
theorem ok_with_sign_of {P:Program} {w:World} {K:Fg} {mg:Str->Option Value} {base:Heap} {f:Addr} {fd:FuncData} (Fn:Fun K "with_sign_of" "with_sign_of" s_with_sign_of f fd) (c_negative:Own P w K mg base "negative" 1 F_negative):
  FnOk P w K mg base CX0 2 f fd ["one","other"] (spU K F_with_sign_of):=by
 refine Fn.okJ sc_with_sign_of (fun ds S k h=>?_) (fun cdv A outer s H E hr=>⟨_,(ds_onej (dst_retj (d_ifj (dt_cmpj o_lt (d_ixj x_ixE (d_varj 1) d_intj (fun _ _=>rfl)) d_intj (nomark _)) (d_callj c_negative (hr.mono (by decide)) rfl (da_consj (d_varj 0) da_nilj)) (d_varj 0)))),fun ds S k h=>?_⟩)
 ·obtain⟨_,_,rfl,_⟩:=h
  rfl
 ·obtain⟨p,q,rfl,w⟩:=h
  unfold sg at w
  refine ite_dec (fun hn=>?_) (fun hn=>?_)
  ·rw [if_pos ((num_neg_iff q).mp hn)] at w
   exact⟨p,rfl,w⟩
  ·rw [if_neg (fun z=>hn ((num_neg_iff q).mpr z))] at w
   exact w
set_option maxHeartbeats 4000000
theorem nat_le_sq (n:Nat):n<=n*n:=by
 rcases Nat.eq_zero_or_pos n with h | h
 ·subst h; decide
 ·exact Nat.le_mul_of_pos_left n h
theorem _root_.HM.Sz.root {n:Nat} {q r:Rat} (h:Sz n q) (e:r*r=q):Sz n r:=by
 subst e
 refine⟨h.num.le ?_,h.den.le ?_⟩
 ·rw [sq_num,Int.natAbs_mul]
  exact nat_le_sq _
 ·rw [sq_den]
  have:=nat_le_sq r.den
  omega
open Classical in
noncomputable def mkD (p q:Rat):D:=if h:∃ r,0<=r/\r*r=ab q then .tup [fr (p+sg h.choose q),fr 0] else .tup [fr p,fr q]
theorem root_uniq {r r' q:Rat} (h0:0<=r) (h1:0<=r') (e:r*r=q) (e':r'*r'=q):r=r':=by
 obtain⟨a1,a2⟩:=root_of_sq h0 e
 obtain⟨b1,b2⟩:=root_of_sq h1 e'
 refine Rat.ext (a1.symm.trans b1) ?_
 have:=a2.symm.trans b2
 omega
theorem mkD_root {p q r:Rat} (r0:0<=r) (rr:r*r=ab q):mkD p q=.tup [fr (p+sg r q),fr 0]:=by
 have h:∃ r,0<=r/\r*r=ab q:=⟨r,r0,rr⟩
 unfold mkD
 rw [dif_pos h,root_uniq h.choose_spec.1 r0 h.choose_spec.2 rr]
theorem mkD_no {p q:Rat} (no:NoSq (ab q)):mkD p q=.tup [fr p,fr q]:=by
 unfold mkD
 rw [dif_neg fun⟨r,_,e⟩=>no r e]
def F_made:DSp:=fun ds S k=>∃ p q:Rat,ds=[fr p,fr q]/\Sz 1000 p/\Sz 1000 q/\k (mkD p q) S
theorem sc_made:FnScope ["part","under","root"] ["part","under"] (defScope s_made):=⟨rfl,rfl,rfl,by decide +kernel,rfl,by decide +kernel,by decide +kernel⟩
theorem ok_made {P:Program} {w:World} {K:Fg} {mg:Str->Option Value} {base:Heap} {f:Addr} {fd:FuncData} (Fn:Fun K "made" "made" s_made f fd) (c_root_in:Own P w K mg base "root_in" 3 F_root_in) (c_without_sign:Own P w K mg base "without_sign" 1 F_without_sign) (c_plus:Own P w K mg base "plus" 3 F_plus) (c_with_sign_of:Own P w K mg base "with_sign_of" 2 F_with_sign_of) (g_NOUGHT:GTup K mg "NOUGHT" [0,1]):
  FnOk P w K mg base CX0 4 f fd ["part","under"] (spU K F_made):=by
 refine Fn.okJ sc_made (fun ds S k h=>?_) (fun cdv A outer s H E hr=>⟨_,(ds_consj (dst_setj (i:=2) sc_made.nd (d_callj c_root_in (hr.mono (by decide)) rfl (da_consj (d_callj c_without_sign (hr.mono (by decide)) rfl (da_consj (d_varj 1) da_nilj)) da_nilj))) (ds_consj (dst_ifj (dt_cmpj o_is (d_varj 2) d_nonj (nomark _)) (ds_onej (dst_retj (d_tupj (da_consj (d_varj 0) (da_consj (d_varj 1) da_nilj))))) ds_nilj) (ds_onej (dst_retj (d_tupj (da_consj (d_callj c_plus (hr.mono (by decide)) rfl (da_consj (d_varj 0) (da_consj (d_callj c_with_sign_of (hr.mono (by decide)) rfl (da_consj (d_varj 2) (da_consj (d_varj 1) da_nilj))) da_nilj))) (da_consj (d_gtup g_NOUGHT rfl) da_nilj))))))),fun ds S k h=>?_⟩)
 ·obtain⟨_,_,rfl,_⟩:=h
  rfl
 ·obtain⟨p,q,rfl,hp,hq,w⟩:=h
  refine⟨q,rfl,ab q,rfl,ab_nn q,hq.ab.mono (by decide),fun r r0 rr=>?_,fun no=>⟨few,?_⟩⟩
  ·rw [mkD_root r0 rr] at w
   exact⟨r,q,rfl,p,sg r q,rfl,hp.mono (by decide),((hq.ab.root rr).sg).mono (by decide),few,w⟩
  ·rw [mkD_no no] at w
   exact w
def F_field_base:DSp:=fun ds S k=>∃ u a b c d:Rat,ds=[N u a b,N u c d]/\0 < u/\k (fr (pick b d*pick b d*u)) S
theorem sc_field_base:FnScope ["one","other"] ["one","other"] (defScope s_field_base):=⟨rfl,rfl,rfl,by decide +kernel,rfl,by decide +kernel,by decide +kernel⟩
theorem ok_field_base {P:Program} {w:World} {K:Fg} {mg:Str->Option Value} {base:Heap} {f:Addr} {fd:FuncData} (Fn:Fun K "field_base" "field_base" s_field_base f fd) (c_without_sign:Own P w K mg base "without_sign" 1 F_without_sign) (c_is_plain:Own P w K mg base "is_plain" 1 F_is_plain):
  FnOk P w K mg base CX0 2 f fd ["one","other"] (spU K F_field_base):=by
 refine Fn.okJ sc_field_base (fun ds S k h=>?_) (fun cdv A outer s H E hr=>⟨_,(ds_onej (dst_retj (d_callj c_without_sign (hr.mono (by decide)) rfl (da_consj (d_ifj (dt_valj (d_callj c_is_plain (hr.mono (by decide)) rfl (da_consj (d_varj 0) da_nilj))) (d_ixj x_ixE (d_varj 1) d_intj (fun _ _=>rfl)) (d_ixj x_ixE (d_varj 0) d_intj (fun _ _=>rfl))) da_nilj)))),fun ds S k h=>?_⟩)
 ·obtain⟨_,_,_,_,_,rfl,_⟩:=h
  rfl
 ·obtain⟨u,a,b,c,d,rfl,u0,w⟩:=h
  refine⟨fr a,ss b*u,rfl,ite_dec (fun e=>⟨_,rfl,?_⟩) (fun e=>⟨_,rfl,?_⟩)⟩
  ·have e2:b=0:=(ss_zero u0).mp e
   rw [show pick b d=d from if_pos e2] at w
   rw [ab_ss u0]
   exact w
  ·have e2:¬ b=0:=fun z=>e ((ss_zero u0).mpr z)
   rw [show pick b d=b from if_neg e2] at w
   rw [ab_ss u0]
   exact w
def F_share:DSp:=fun ds S k=>∃ u a b e:Rat,ds=[N u a b,fr (e*e*u)]/\0 < u/\(b=0\/e≠0)/\Sz 1000 b/\Sz 1000 e/\Sz 600 u/\k (fr (b / ab e)) S
theorem sc_share:FnScope ["one","base","root"] ["one","base"] (defScope s_share):=⟨rfl,rfl,rfl,by decide +kernel,rfl,by decide +kernel,by decide +kernel⟩
theorem ok_share {P:Program} {w:World} {K:Fg} {mg:Str->Option Value} {base:Heap} {f:Addr} {fd:FuncData} (Fn:Fun K "share" "share" s_share f fd) (c_is_plain:Own P w K mg base "is_plain" 1 F_is_plain) (c_root_in:Own P w K mg base "root_in" 3 F_root_in) (c_over:Own P w K mg base "over" 3 F_over) (c_without_sign:Own P w K mg base "without_sign" 1 F_without_sign) (c_with_sign_of:Own P w K mg base "with_sign_of" 2 F_with_sign_of) (g_NOUGHT:GTup K mg "NOUGHT" [0,1]):
  FnOk P w K mg base CX0 4 f fd ["one","base"] (spU K F_share):=by
 refine Fn.okJ sc_share (fun ds S k h=>?_) (fun cdv A outer s H E hr=>⟨_,(ds_consj (dst_ifj (dt_valj (d_callj c_is_plain (hr.mono (by decide)) rfl (da_consj (d_varj 0) da_nilj))) (ds_onej (dst_retj (d_gtup g_NOUGHT rfl))) ds_nilj) (ds_consj (dst_setj (i:=2) sc_share.nd (d_callj c_root_in (hr.mono (by decide)) rfl (da_consj (d_callj c_over (hr.mono (by decide)) rfl (da_consj (d_callj c_without_sign (hr.mono (by decide)) rfl (da_consj (d_ixj x_ixE (d_varj 0) d_intj (fun _ _=>rfl)) da_nilj)) (da_consj (d_varj 1) da_nilj))) da_nilj))) (ds_consj (dst_ifj (dt_cmpj o_is (d_varj 2) d_nonj (nomark _)) (ds_onej dst_neverj) ds_nilj) (ds_onej (dst_retj (d_callj c_with_sign_of (hr.mono (by decide)) rfl (da_consj (d_varj 2) (da_consj (d_ixj x_ixE (d_varj 0) d_intj (fun _ _=>rfl)) da_nilj)))))))),fun ds S k h=>?_⟩)
 ·obtain⟨_,_,_,_,rfl,_⟩:=h
  rfl
 ·obtain⟨u,a,b,e,rfl,u0,hbe,hb,he,hu,w⟩:=h
  refine⟨fr a,ss b*u,rfl,ite_dec (fun z=>?_) (fun z=>?_)⟩
  ·have e2:b=0:=(ss_zero u0).mp z
   subst e2
   rw [show (0:Rat) / ab e=0 by grind] at w
   exact w
  ·have e2:¬ b=0:=fun q=>z ((ss_zero u0).mpr q)
   have e0:e≠0:=hbe.resolve_left e2
   have ne:e*e*u≠0:=by grind
   have ea:ab (ss b*u)=b*b*u:=ab_ss u0
   have s1:Sz 2600 (ab (ss b*u)):=(hb.ss.mul hu).ab
   have s2:Sz 2600 (e*e*u):=(he.mul he).mul hu
   have nn:0<=ab (ss b*u) / (e*e*u):=div_nn (ab_nn _) (Rat.mul_nonneg (rat_sq_nonneg e) (Rat.le_of_lt u0))
   have ne2:ab e≠0:=fun z=>e0 (by unfold ab at z; split at z <;> grind)
   have s3:Sz 4000 (ab (ss b*u) / (e*e*u)):=by
    rw [ea,<- share_sq u0 e0]
    exact(hb.ab.div he.ab ne2).mul (hb.ab.div he.ab ne2)
   refine⟨_,rfl,ab (ss b*u),e*e*u,rfl,ne,s1.mono (by decide),s2.mono (by decide),_,rfl,nn,s3,fun r r0 rr=>?_,fun no=>?_⟩
   ·rw [ea] at rr
    have er:=share_root u0 e0 r0 rr
    subst er
    refine⟨_,ss b*u,rfl,?_⟩
    rw [share_sg u0]
    exact w
   ·rw [ea] at no
    exact absurd (share_sq u0 e0) (no _)
def F_joined:DSp:=fun ds S k=>∃ a p c:Rat,ds=[fr a,fr p,fr c]/\Sz 2000 p/\Sz 4000 c/\k (.tup [fr a,fr (ss p*c)]) S
theorem sc_joined:FnScope ["part","portion","base","under"] ["part","portion","base"] (defScope s_joined):=⟨rfl,rfl,rfl,by decide +kernel,rfl,by decide +kernel,by decide +kernel⟩
theorem ok_joined {P:Program} {w:World} {K:Fg} {mg:Str->Option Value} {base:Heap} {f:Addr} {fd:FuncData} (Fn:Fun K "joined" "joined" s_joined f fd) (c_times:Own P w K mg base "times" 3 F_times) (c_with_sign_of:Own P w K mg base "with_sign_of" 2 F_with_sign_of):
  FnOk P w K mg base CX0 4 f fd ["part","portion","base"] (spU K F_joined):=by
 refine Fn.okJ sc_joined (fun ds S k h=>?_) (fun cdv A outer s H E hr=>⟨_,(ds_consj (dst_setj (i:=3) sc_joined.nd (d_callj c_times (hr.mono (by decide)) rfl (da_consj (d_callj c_times (hr.mono (by decide)) rfl (da_consj (d_varj 1) (da_consj (d_varj 1) da_nilj))) (da_consj (d_varj 2) da_nilj)))) (ds_onej (dst_retj (d_tupj (da_consj (d_varj 0) (da_consj (d_callj c_with_sign_of (hr.mono (by decide)) rfl (da_consj (d_varj 3) (da_consj (d_varj 1) da_nilj))) da_nilj)))))),fun ds S k h=>?_⟩)
 ·obtain⟨_,_,_,rfl,_⟩:=h
  rfl
 ·obtain⟨a,p,c,rfl,hp,hc,w⟩:=h
  refine⟨p,p,rfl,hp.mono (by decide),hp.mono (by decide),p*p,c,rfl,(hp.mul hp).mono (by decide),hc.mono (by decide),p*p*c,p,rfl,few,?_⟩
  rw [sg_ss]
  exact w
def F_root_negative:DSp:=fun ds S k=>∃ u a b:Rat,ds=[N u a b]/\k (N u (-a) (-b)) S
theorem sc_root_negative:FnScope ["one"] ["one"] (defScope s_root_negative):=⟨rfl,rfl,rfl,by decide +kernel,rfl,by decide +kernel,by decide +kernel⟩
theorem ok_root_negative {P:Program} {w:World} {K:Fg} {mg:Str->Option Value} {base:Heap} {f:Addr} {fd:FuncData} (Fn:Fun K "root_negative" "root_negative" s_root_negative f fd) (c_negative:Own P w K mg base "negative" 1 F_negative):
  FnOk P w K mg base CX0 2 f fd ["one"] (spU K F_root_negative):=by
 refine Fn.okJ sc_root_negative (fun ds S k h=>?_) (fun cdv A outer s H E hr=>⟨_,(ds_onej (dst_retj (d_tupj (da_consj (d_callj c_negative (hr.mono (by decide)) rfl (da_consj (d_ixj x_ixE (d_varj 0) d_intj (fun _ _=>rfl)) da_nilj)) (da_consj (d_callj c_negative (hr.mono (by decide)) rfl (da_consj (d_ixj x_ixE (d_varj 0) d_intj (fun _ _=>rfl)) da_nilj)) da_nilj))))),fun ds S k h=>?_⟩)
 ·obtain⟨_,_,_,rfl,_⟩:=h
  rfl
 ·obtain⟨u,a,b,rfl,w⟩:=h
  refine⟨a,rfl,ss b*u,rfl,few,?_⟩
  unfold N at w
  rw [ss_negate,show -ss b*u=-(ss b*u) by grind] at w
  exact w
def bs (u b d:Rat):Rat:=pick b d*pick b d*u
theorem bs_sz {n:Nat} {u b d:Rat} (hu:Fd u) (hb:Sz n b) (hd:Sz n d):Sz (n+n+600) (bs u b d):=((hb.pick hd).mul (hb.pick hd)).mul hu.sz
theorem sh_sz {n:Nat} {b e:Rat} (hb:Sz n b) (he:Sz n e):Sz (n+n+1) (b / ab e):=hb.div' he.ab
theorem add_over {a b c:Rat}:a / c+b / c=(a+b) / c:=by
 rw [Rat.div_def,Rat.div_def,Rat.div_def]; grind
def F_root_plus:DSp:=fun ds S k=>∃ u a b c d:Rat,ds=[N u a b,N u c d]/\Fd u/\Sz 4000 a/\Sz 4000 c/\Sz 1000 b/\Sz 1000 d/\Sz 900 (b+d)/\k (N u (a+c) (b+d)) S
theorem sc_root_plus:FnScope ["one","other","base","portion"] ["one","other"] (defScope s_root_plus):=⟨rfl,rfl,rfl,by decide +kernel,rfl,by decide +kernel,by decide +kernel⟩
theorem ok_root_plus {P:Program} {w:World} {K:Fg} {mg:Str->Option Value} {base:Heap} {f:Addr} {fd:FuncData} (Fn:Fun K "root_plus" "root_plus" s_root_plus f fd) (c_field_base:Own P w K mg base "field_base" 2 F_field_base) (c_plus:Own P w K mg base "plus" 3 F_plus) (c_share:Own P w K mg base "share" 4 F_share) (c_joined:Own P w K mg base "joined" 4 F_joined):
  FnOk P w K mg base CX0 5 f fd ["one","other"] (spU K F_root_plus):=by
 refine Fn.okJ sc_root_plus (fun ds S k h=>?_) (fun cdv A outer s H E hr=>⟨_,(ds_consj (dst_setj (i:=2) sc_root_plus.nd (d_callj c_field_base (hr.mono (by decide)) rfl (da_consj (d_varj 0) (da_consj (d_varj 1) da_nilj)))) (ds_consj (dst_setj (i:=3) sc_root_plus.nd (d_callj c_plus (hr.mono (by decide)) rfl (da_consj (d_callj c_share (hr.mono (by decide)) rfl (da_consj (d_varj 0) (da_consj (d_varj 2) da_nilj))) (da_consj (d_callj c_share (hr.mono (by decide)) rfl (da_consj (d_varj 1) (da_consj (d_varj 2) da_nilj))) da_nilj)))) (ds_onej (dst_retj (d_callj c_joined (hr.mono (by decide)) rfl (da_consj (d_callj c_plus (hr.mono (by decide)) rfl (da_consj (d_ixj x_ixE (d_varj 0) d_intj (fun _ _=>rfl)) (da_consj (d_ixj x_ixE (d_varj 1) d_intj (fun _ _=>rfl)) da_nilj))) (da_consj (d_varj 3) (da_consj (d_varj 2) da_nilj)))))))),fun ds S k h=>?_⟩)
 ·obtain⟨_,_,_,_,_,rfl,_⟩:=h
  rfl
 ·obtain⟨u,a,b,c,d,rfl,hu,ha,hc,hb,hd,hbd,w⟩:=h
  have hp:=hb.pick hd
  have s1:=sh_sz hb hp
  have s2:=sh_sz hd hp
  have s3:Sz 1901 (b / ab (pick b d)+d / ab (pick b d)):=by rw [add_over]; exact hbd.div' hp.ab
  refine⟨u,a,b,c,d,rfl,hu.pos,u,a,b,pick b d,rfl,hu.pos,pick_b,hb,hp,hu.sz,u,c,d,pick b d,rfl,hu.pos,pick_d,hd,hp,hu.sz,_,_,rfl,s1.mono (by decide),s2.mono (by decide),?_⟩
  refine⟨a,c,rfl,ha,hc,_,_,_,rfl,s3.mono (by decide),(bs_sz hu hb hd).mono (by decide),?_⟩
  rw [plus_join]
  exact w
def F_root_minus:DSp:=fun ds S k=>∃ u a b c d:Rat,ds=[N u a b,N u c d]/\Fd u/\Sz 4000 a/\Sz 4000 c/\Sz 1000 b/\Sz 1000 d/\Sz 900 (b - d)/\k (N u (a - c) (b - d)) S
theorem sc_root_minus:FnScope ["one","other"] ["one","other"] (defScope s_root_minus):=⟨rfl,rfl,rfl,by decide +kernel,rfl,by decide +kernel,by decide +kernel⟩
theorem ok_root_minus {P:Program} {w:World} {K:Fg} {mg:Str->Option Value} {base:Heap} {f:Addr} {fd:FuncData} (Fn:Fun K "root_minus" "root_minus" s_root_minus f fd) (c_root_plus:Own P w K mg base "root_plus" 5 F_root_plus) (c_root_negative:Own P w K mg base "root_negative" 2 F_root_negative):
  FnOk P w K mg base CX0 6 f fd ["one","other"] (spU K F_root_minus):=by
 refine Fn.okJ sc_root_minus (fun ds S k h=>?_) (fun cdv A outer s H E hr=>⟨_,(ds_onej (dst_retj (d_callj c_root_plus (hr.mono (by decide)) rfl (da_consj (d_varj 0) (da_consj (d_callj c_root_negative (hr.mono (by decide)) rfl (da_consj (d_varj 1) da_nilj)) da_nilj))))),fun ds S k h=>?_⟩)
 ·obtain⟨_,_,_,_,_,rfl,_⟩:=h
  rfl
 ·obtain⟨u,a,b,c,d,rfl,hu,ha,hc,hb,hd,hbd,w⟩:=h
  rw [show a - c=a+-c by grind,show b - d=b+-d by grind] at w
  rw [show b - d=b+-d by grind] at hbd
  exact⟨u,c,d,rfl,u,a,b,-c,-d,rfl,hu,ha,hc.neg,hb,hd.neg,hbd,w⟩
set_option maxHeartbeats 4000000
def F_sign_of:DSp:=fun ds S k=>match ds with
 | [.int i]=>k (.int (if i=0 then 0 else if i > 0 then 1 else -1)) S
 | _=>False
theorem sc_sign_of:FnScope ["number"] ["number"] (defScope s_sign_of):=⟨rfl,rfl,rfl,by decide +kernel,rfl,by decide +kernel,by decide +kernel⟩
theorem ok_sign_of {P:Program} {w:World} {K:Fg} {mg:Str->Option Value} {base:Heap} {f:Addr} {fd:FuncData} (Fn:Fun K "sign_of" "sign_of" s_sign_of f fd):
  FnOk P w K mg base CX0 1 f fd ["number"] (spU K F_sign_of):=by
 refine Fn.okJ sc_sign_of (fun ds S k h=>?_) (fun cdv A outer s H E hr=>⟨_,(ds_consj (dst_ifj (dt_cmpj o_eq (d_varj 0) d_intj (nomark _)) (ds_onej (dst_retj d_intj)) ds_nilj) (ds_onej (dst_retj (d_ifj (dt_cmpj o_gt (d_varj 0) d_intj (nomark _)) d_intj (d_unj o_neg d_intj))))),fun ds S k h=>?_⟩)
 ·unfold F_sign_of at h
  split at h
  ·rfl
  ·exact h.elim
 ·unfold F_sign_of at h
  split at h
  ·rename_i i
   refine ite_dec (fun e=>?_) (fun e=>ite_dec (fun e2=>?_) (fun e2=>?_))
   ·rw [if_pos e] at h; exact h
   ·rw [if_neg e,if_pos e2] at h; exact h
   ·rw [if_neg e,if_neg e2] at h; exact h
  ·exact h.elim
def F_root_sign:DSp:=fun ds S k=>∃ u a b:Rat,ds=[N u a b]/\Fd u/\Sz 1900 a/\Sz 1000 b/\k (.int (sq2 a b u)) S
theorem sc_root_sign:FnScope ["one","apart"] ["one"] (defScope s_root_sign):=⟨rfl,rfl,rfl,by decide +kernel,rfl,by decide +kernel,by decide +kernel⟩
theorem ok_root_sign {P:Program} {w:World} {K:Fg} {mg:Str->Option Value} {base:Heap} {f:Addr} {fd:FuncData} (Fn:Fun K "root_sign" "root_sign" s_root_sign f fd) (c_minus:Own P w K mg base "minus" 3 F_minus) (c_without_sign:Own P w K mg base "without_sign" 1 F_without_sign) (c_times:Own P w K mg base "times" 3 F_times) (c_sign_of:Own P w K mg base "sign_of" 1 F_sign_of):
  FnOk P w K mg base CX0 4 f fd ["one"] (spU K F_root_sign):=by
 refine Fn.okJ sc_root_sign (fun ds S k h=>?_) (fun cdv A outer s H E hr=>⟨_,(ds_consj (dst_setj (i:=1) sc_root_sign.nd (d_callj c_minus (hr.mono (by decide)) rfl (da_consj (d_callj c_times (hr.mono (by decide)) rfl (da_consj (d_ixj x_ixE (d_varj 0) d_intj (fun _ _=>rfl)) (da_consj (d_ixj x_ixE (d_varj 0) d_intj (fun _ _=>rfl)) da_nilj))) (da_consj (d_callj c_without_sign (hr.mono (by decide)) rfl (da_consj (d_ixj x_ixE (d_varj 0) d_intj (fun _ _=>rfl)) da_nilj)) da_nilj)))) (ds_onej (dst_retj (d_ifj (dt_cmpj o_gt (d_ixj x_ixE (d_varj 1) d_intj (fun _ _=>rfl)) d_intj (nomark _)) (d_callj c_sign_of (hr.mono (by decide)) rfl (da_consj (d_ixj x_ixE (d_ixj x_ixE (d_varj 0) d_intj (fun _ _=>rfl)) d_intj (fun _ _=>rfl)) da_nilj)) (d_callj c_sign_of (hr.mono (by decide)) rfl (da_consj (d_ixj x_ixE (d_ixj x_ixE (d_varj 0) d_intj (fun _ _=>rfl)) d_intj (fun _ _=>rfl)) da_nilj)))))),fun ds S k h=>?_⟩)
 ·obtain⟨_,_,_,rfl,_⟩:=h
  rfl
 ·obtain⟨u,a,b,rfl,hu,ha,hb,w⟩:=h
  have ed:ab (ss b*u)=b*b*u:=ab_ss hu.pos
  have sa:Sz 2600 (ab (ss b*u)):=(hb.ss.mul hu.sz).ab
  refine⟨a,a,rfl,ha.mono (by decide),ha.mono (by decide),_,rfl,_,_,rfl,(ha.mul ha).mono (by decide),sa.mono (by decide),ite_dec (fun e=>?_) (fun e=>?_)⟩
  ·rw [ed] at e
   rw [sq2_p ((num_pos_iff _).mp e),<- sgI_num] at w
   exact w
  ·rw [ed] at e
   have e':¬ 0 < a*a - b*b*u:=fun z=>e ((num_pos_iff _).mpr z)
   rw [show sq2 a b u=sgR b from if_neg e',<- sgR_ss (b:=b) hu.pos,<- sgI_num] at w
   exact w
def F_root_less:DSp:=fun ds S k=>∃ u a b c d:Rat,ds=[N u a b,N u c d]/\Fd u/\Sz 4000 a/\Sz 4000 c/\Sz 1000 b/\Sz 1000 d/\Sz 1900 (a - c)/\Sz 900 (b - d)/\k (.bl (decide (sq2 (a - c) (b - d) u < 0))) S
theorem sc_root_less:FnScope ["one","other"] ["one","other"] (defScope s_root_less):=⟨rfl,rfl,rfl,by decide +kernel,rfl,by decide +kernel,by decide +kernel⟩
theorem ok_root_less {P:Program} {w:World} {K:Fg} {mg:Str->Option Value} {base:Heap} {f:Addr} {fd:FuncData} (Fn:Fun K "root_less" "root_less" s_root_less f fd) (c_root_sign:Own P w K mg base "root_sign" 4 F_root_sign) (c_root_minus:Own P w K mg base "root_minus" 6 F_root_minus):
  FnOk P w K mg base CX0 7 f fd ["one","other"] (spU K F_root_less):=by
 refine Fn.okJ sc_root_less (fun ds S k h=>?_) (fun cdv A outer s H E hr=>⟨_,(ds_onej (dst_retj (d_cmpj o_lt (d_callj c_root_sign (hr.mono (by decide)) rfl (da_consj (d_callj c_root_minus (hr.mono (by decide)) rfl (da_consj (d_varj 0) (da_consj (d_varj 1) da_nilj))) da_nilj)) d_intj (nomark _)))),fun ds S k h=>?_⟩)
 ·obtain⟨_,_,_,_,_,rfl,_⟩:=h
  rfl
 ·obtain⟨u,a,b,c,d,rfl,hu,ha,hc,hb,hd,hac,hbd,w⟩:=h
  exact⟨u,a,b,c,d,rfl,hu,ha,hc,hb,hd,hbd,u,_,_,rfl,hu,hac,hbd.mono (by decide),w⟩
set_option maxHeartbeats 4000000
def Ext (S S':DH):Prop:=∀ b o,S b=some o->S' b=some o
theorem Ext.refl (S:DH):Ext S S:=fun _ _ h=>h
theorem Ext.trans {S S1 S2:DH} (a:Ext S S1) (b:Ext S1 S2):Ext S S2:=fun c o h=>b c o (a c o h)
theorem Ext.new {S:DH} {p:Addr} {o:DO} (h:S p=none):Ext S (put S p o):=fun b u e=>by
 unfold put
 split
 ·rename_i z; subst z; rw [h] at e; cases e
 ·exact e
theorem Ext.put {S S1:DH} {p:Addr} {o:DO} (e:Ext S S1) (h:S p=none):Ext S (put S1 p o):=fun b u z=>by
 unfold DL.put
 split
 ·rename_i y; subst y; rw [h] at z; cases z
 ·exact e b u z
theorem Ext.none {S S1:DH} {p:Addr} (e:Ext S S1) (h:S1 p=none):S p=none:=by
 cases q:S p with
 | none=>rfl
 | some o=>rw [e p o q] at h; cases h
theorem plain_as {u r:Rat}:D.tup [fr r,fr 0]=N u r 0:=by
 unfold N
 rw [show ss 0*u=0 by unfold ss; grind]
abbrev Q:=Rat×Rat
def qs (x y:Q):Q:=(x.1 - y.1,x.2 - y.2)
def W (x y:Rat):D:=.tup [fr x,fr y]
def PP (x y:Rat):D:=.tup [.tup [fr x,fr 0],.tup [fr y,fr 0]]
def F_plain_point:DSp:=fun ds S k=>∃ x y:Rat,ds=[W x y]/\k (PP x y) S
theorem sc_plain_point:FnScope ["place"] ["place"] (defScope s_plain_point):=⟨rfl,rfl,rfl,by decide +kernel,rfl,by decide +kernel,by decide +kernel⟩
theorem ok_plain_point {P:Program} {w:World} {K:Fg} {mg:Str->Option Value} {base:Heap} {f:Addr} {fd:FuncData} (Fn:Fun K "plain_point" "plain_point" s_plain_point f fd) (g_NOUGHT:GTup K mg "NOUGHT" [0,1]):
  FnOk P w K mg base CX0 1 f fd ["place"] (spU K F_plain_point):=by
 refine Fn.okJ sc_plain_point (fun ds S k h=>?_) (fun cdv A outer s H E hr=>⟨_,(ds_onej (dst_retj (d_tupj (da_consj (d_tupj (da_consj (d_ixj x_ixE (d_varj 0) d_intj (fun _ _=>rfl)) (da_consj (d_gtup g_NOUGHT rfl) da_nilj))) (da_consj (d_tupj (da_consj (d_ixj x_ixE (d_varj 0) d_intj (fun _ _=>rfl)) (da_consj (d_gtup g_NOUGHT rfl) da_nilj))) da_nilj))))),fun ds S k h=>?_⟩)
 ·obtain⟨_,_,rfl,_⟩:=h
  rfl
 ·obtain⟨x,y,rfl,w⟩:=h
  exact⟨few,few,few,w⟩
def F_place_of:DSp:=fun ds S k=>∃ x y:Rat,ds=[PP x y]/\k (W x y) S
theorem sc_place_of:FnScope ["point"] ["point"] (defScope s_place_of):=⟨rfl,rfl,rfl,by decide +kernel,rfl,by decide +kernel,by decide +kernel⟩
theorem ok_place_of {P:Program} {w:World} {K:Fg} {mg:Str->Option Value} {base:Heap} {f:Addr} {fd:FuncData} (Fn:Fun K "place_of" "place_of" s_place_of f fd):
  FnOk P w K mg base CX0 1 f fd ["point"] (spU K F_place_of):=by
 refine Fn.okJ sc_place_of (fun ds S k h=>?_) (fun cdv A outer s H E hr=>⟨_,(ds_onej (dst_retj (d_tupj (da_consj (d_ixj x_ixE (d_ixj x_ixE (d_varj 0) d_intj (fun _ _=>rfl)) d_intj (fun _ _=>rfl)) (da_consj (d_ixj x_ixE (d_ixj x_ixE (d_varj 0) d_intj (fun _ _=>rfl)) d_intj (fun _ _=>rfl)) da_nilj))))),fun ds S k h=>?_⟩)
 ·obtain⟨_,_,rfl,_⟩:=h
  rfl
 ·obtain⟨x,y,rfl,w⟩:=h
  exact⟨few,w⟩
def F_plain_way:DSp:=fun ds S k=>∃ x y z v:Rat,ds=[W x y,W z v]/\Sz 4000 x/\Sz 4000 y/\Sz 4000 z/\Sz 4000 v/\k (W (z - x) (v - y)) S
theorem sc_plain_way:FnScope ["one","other"] ["one","other"] (defScope s_plain_way):=⟨rfl,rfl,rfl,by decide +kernel,rfl,by decide +kernel,by decide +kernel⟩
theorem ok_plain_way {P:Program} {w:World} {K:Fg} {mg:Str->Option Value} {base:Heap} {f:Addr} {fd:FuncData} (Fn:Fun K "plain_way" "plain_way" s_plain_way f fd) (c_minus:Own P w K mg base "minus" 3 F_minus):
  FnOk P w K mg base CX0 4 f fd ["one","other"] (spU K F_plain_way):=by
 refine Fn.okJ sc_plain_way (fun ds S k h=>?_) (fun cdv A outer s H E hr=>⟨_,(ds_onej (dst_retj (d_tupj (da_consj (d_callj c_minus (hr.mono (by decide)) rfl (da_consj (d_ixj x_ixE (d_varj 1) d_intj (fun _ _=>rfl)) (da_consj (d_ixj x_ixE (d_varj 0) d_intj (fun _ _=>rfl)) da_nilj))) (da_consj (d_callj c_minus (hr.mono (by decide)) rfl (da_consj (d_ixj x_ixE (d_varj 1) d_intj (fun _ _=>rfl)) (da_consj (d_ixj x_ixE (d_varj 0) d_intj (fun _ _=>rfl)) da_nilj))) da_nilj))))),fun ds S k h=>?_⟩)
 ·obtain⟨_,_,_,_,rfl,_⟩:=h
  rfl
 ·obtain⟨x,y,z,v,rfl,hx,hy,hz,hv,w⟩:=h
  exact⟨z,x,rfl,hz,hx,v,y,rfl,hv,hy,few,w⟩
def F_product_of_ways:DSp:=fun ds S k=>∃ x y z v:Rat,ds=[W x y,W z v]/\Sz 900 x/\Sz 900 y/\Sz 900 z/\Sz 900 v/\k (fr (x*z+y*v)) S
theorem sc_product_of_ways:FnScope ["one","other"] ["one","other"] (defScope s_product_of_ways):=⟨rfl,rfl,rfl,by decide +kernel,rfl,by decide +kernel,by decide +kernel⟩
theorem ok_product_of_ways {P:Program} {w:World} {K:Fg} {mg:Str->Option Value} {base:Heap} {f:Addr} {fd:FuncData} (Fn:Fun K "product_of_ways" "product_of_ways" s_product_of_ways f fd) (c_plus:Own P w K mg base "plus" 3 F_plus) (c_times:Own P w K mg base "times" 3 F_times):
  FnOk P w K mg base CX0 4 f fd ["one","other"] (spU K F_product_of_ways):=by
 refine Fn.okJ sc_product_of_ways (fun ds S k h=>?_) (fun cdv A outer s H E hr=>⟨_,(ds_onej (dst_retj (d_callj c_plus (hr.mono (by decide)) rfl (da_consj (d_callj c_times (hr.mono (by decide)) rfl (da_consj (d_ixj x_ixE (d_varj 0) d_intj (fun _ _=>rfl)) (da_consj (d_ixj x_ixE (d_varj 1) d_intj (fun _ _=>rfl)) da_nilj))) (da_consj (d_callj c_times (hr.mono (by decide)) rfl (da_consj (d_ixj x_ixE (d_varj 0) d_intj (fun _ _=>rfl)) (da_consj (d_ixj x_ixE (d_varj 1) d_intj (fun _ _=>rfl)) da_nilj))) da_nilj))))),fun ds S k h=>?_⟩)
 ·obtain⟨_,_,_,_,rfl,_⟩:=h
  rfl
 ·obtain⟨x,y,z,v,rfl,hx,hy,hz,hv,w⟩:=h
  exact⟨x,z,rfl,hx.mono (by decide),hz.mono (by decide),y,v,rfl,hy.mono (by decide),hv.mono (by decide),_,_,rfl,(hx.mul hz).mono (by decide),(hy.mul hv).mono (by decide),w⟩
def F_moved:DSp:=fun ds S k=>∃ x y a b t:Rat,ds=[W x y,W a b,fr t]/\Sz 900 x/\Sz 900 y/\Sz 900 a/\Sz 900 b/\Sz 900 t/\k (W (x+a*t) (y+b*t)) S
theorem sc_moved:FnScope ["place","way","by"] ["place","way","by"] (defScope s_moved):=⟨rfl,rfl,rfl,by decide +kernel,rfl,by decide +kernel,by decide +kernel⟩
theorem ok_moved {P:Program} {w:World} {K:Fg} {mg:Str->Option Value} {base:Heap} {f:Addr} {fd:FuncData} (Fn:Fun K "moved" "moved" s_moved f fd) (c_plus:Own P w K mg base "plus" 3 F_plus) (c_times:Own P w K mg base "times" 3 F_times):
  FnOk P w K mg base CX0 4 f fd ["place","way","by"] (spU K F_moved):=by
 refine Fn.okJ sc_moved (fun ds S k h=>?_) (fun cdv A outer s H E hr=>⟨_,(ds_onej (dst_retj (d_tupj (da_consj (d_callj c_plus (hr.mono (by decide)) rfl (da_consj (d_ixj x_ixE (d_varj 0) d_intj (fun _ _=>rfl)) (da_consj (d_callj c_times (hr.mono (by decide)) rfl (da_consj (d_ixj x_ixE (d_varj 1) d_intj (fun _ _=>rfl)) (da_consj (d_varj 2) da_nilj))) da_nilj))) (da_consj (d_callj c_plus (hr.mono (by decide)) rfl (da_consj (d_ixj x_ixE (d_varj 0) d_intj (fun _ _=>rfl)) (da_consj (d_callj c_times (hr.mono (by decide)) rfl (da_consj (d_ixj x_ixE (d_varj 1) d_intj (fun _ _=>rfl)) (da_consj (d_varj 2) da_nilj))) da_nilj))) da_nilj))))),fun ds S k h=>?_⟩)
 ·obtain⟨_,_,_,_,_,rfl,_⟩:=h
  rfl
 ·obtain⟨x,y,a,b,t,rfl,hx,hy,ha,hb,ht,w⟩:=h
  exact⟨a,t,rfl,ha.mono (by decide),ht.mono (by decide),_,_,rfl,hx.mono (by decide),(ha.mul ht).mono (by decide),b,t,rfl,hb.mono (by decide),ht.mono (by decide),_,_,rfl,hy.mono (by decide),(hb.mul ht).mono (by decide),few,w⟩
def F_square_of_unlike:DSp:=fun ds S k=>∃ a b:Rat,ds=[W a b]/\Sz 900 a/\Sz 900 b/\a*a+b*b≠0/\k (fr (a*a+b*b)) S
theorem sc_square_of_unlike:FnScope ["way","square"] ["way"] (defScope s_square_of_unlike):=⟨rfl,rfl,rfl,by decide +kernel,rfl,by decide +kernel,by decide +kernel⟩
theorem ok_square_of_unlike {P:Program} {w:World} {K:Fg} {mg:Str->Option Value} {base:Heap} {f:Addr} {fd:FuncData} (Fn:Fun K "square_of_unlike" "square_of_unlike" s_square_of_unlike f fd) (c_product_of_ways:Own P w K mg base "product_of_ways" 4 F_product_of_ways):
  FnOk P w K mg base CX0 5 f fd ["way"] (spU K F_square_of_unlike):=by
 refine Fn.okJ sc_square_of_unlike (fun ds S k h=>?_) (fun cdv A outer s H E hr=>⟨_,(ds_consj (dst_setj (i:=1) sc_square_of_unlike.nd (d_callj c_product_of_ways (hr.mono (by decide)) rfl (da_consj (d_varj 0) (da_consj (d_varj 0) da_nilj)))) (ds_consj (dst_ifj (dt_cmpj o_eq (d_ixj x_ixE (d_varj 1) d_intj (fun _ _=>rfl)) d_intj (nomark _)) (ds_onej dst_neverj) ds_nilj) (ds_onej (dst_retj (d_varj 1))))),fun ds S k h=>?_⟩)
 ·obtain⟨_,_,rfl,_⟩:=h
  rfl
 ·obtain⟨a,b,rfl,ha,hb,h0,w⟩:=h
  exact⟨a,b,a,b,rfl,ha,hb,ha,hb,ite_dec (fun z=>absurd (Rat.num_eq_zero.mp z) h0) (fun _=>w)⟩
set_option maxHeartbeats 4000000
structure Nrm (c:List (List Int×Rat)) (ns:List (List Int×Int)):Prop where
 keys:ns.map (·.1)=c.map (·.1)
 sc:∃ t:Rat,t≠0/\(∀ p∈ns,∃ q,(p.1,q)∈c/\(p.2:Rat)=t*q)/\∀ p∈c,∃ n:Int,(p.1,n)∈ns/\(n:Rat)=t*p.2
 co:∀ d:Int,(∀ p∈ns,d ∣ p.2)->d ∣ 1
 sg:∃ p∈ns,(∀ q∈ns,gtP q.1 p.1=false)/\0 < p.2
theorem gtP_eq {k l:List Int} (hk:∃ i j,k=[i,j]) (hl:∃ i j,l=[i,j]) (h1:gtP k l=false) (h2:gtP l k=false):k=l:=by
 obtain⟨a,b,rfl⟩:=hk
 obtain⟨c,d,rfl⟩:=hl
 simp only [gtP,Bool.or_eq_false_iff,Bool.and_eq_false_iff,decide_eq_false_iff_not] at h1 h2
 have e1:a=c:=by omega
 have e2:b=d:=by omega
 rw [e1,e2]
theorem key_uniq {α:Type}:∀ {l:List (List Int×α)} {k:List Int} {x y:α},(l.map (·.1)).Nodup->(k,x)∈l->(k,y)∈l->x=y
 | [],_,_,_,_,h,_=>nomatch h
 | p::l,k,x,y,nd,h1,h2=>by
  rw [List.map_cons,List.nodup_cons] at nd
  rcases List.mem_cons.mp h1 with e1 | m1
  ·rcases List.mem_cons.mp h2 with e2 | m2
   ·have:=e1.trans e2.symm
    injection this
   ·refine absurd (List.mem_map.mpr ⟨_,m2,?_⟩) nd.1
    rw [<- e1]
  ·rcases List.mem_cons.mp h2 with e2 | m2
   ·refine absurd (List.mem_map.mpr ⟨_,m1,?_⟩) nd.1
    rw [<- e2]
   ·exact key_uniq nd.2 m1 m2
theorem den_rat (q:Rat):((q.den:Int):Rat)≠0:=fun z=>by
 have:=q.den_nz
 have:(q.den:Int)=0:=Rat.intCast_inj.mp (by rw [z]; rfl)
 omega
theorem den_mulq (q:Rat):((q.den:Int):Rat)*q=(q.num:Rat):=by
 have d0:=den_rat q
 have e:=Rat.num_divInt_den q
 rw [Rat.divInt_eq_div] at e
 grind
theorem rat_int_div {r:Rat} {n m:Int} (h:(m:Rat)=r*n):(r.den:Int)*m=r.num*n:=by
 have z:=den_mulq r
 have e2:(((r.den:Int)*m:Int):Rat)=((r.num*n:Int):Rat):=by
  rw [Rat.intCast_mul,Rat.intCast_mul,h,<- z]
  grind
 exact Rat.intCast_inj.mp e2
theorem cop_dvd {a b n:Int} (h:a ∣ b*n) (c:Nat.Coprime a.natAbs b.natAbs):a ∣ n:=by
 have:=Int.natAbs_dvd_natAbs.mpr h
 rw [Int.natAbs_mul] at this
 exact Int.natAbs_dvd_natAbs.mp (Nat.Coprime.dvd_of_dvd_mul_left c this)
theorem nrm_uniq {c c':List (List Int×Rat)} {ns ns':List (List Int×Int)} {s:Rat} (h:Nrm c ns) (h':Nrm c' ns') (s0:s≠0) (two:∀ p∈c,∃ i j,p.1=[i,j]) (two':∀ p∈c',∃ i j,p.1=[i,j])
  (hc:∀ p∈c,(p.1,s*p.2)∈c') (hc':∀ p∈c',∃ q,(p.1,q)∈c/\p.2=s*q) (nd:(c.map (·.1)).Nodup) (nd':(c'.map (·.1)).Nodup):∀ p∈ns',p∈ns:=by
 obtain⟨t,t0,f1,f2⟩:=h.sc
 obtain⟨t',t0',f1',f2'⟩:=h'.sc
 have ndn:(ns.map (·.1)).Nodup:=by rw [h.keys]; exact nd
 have ndn':(ns'.map (·.1)).Nodup:=by rw [h'.keys]; exact nd'
 have g1:∀ p∈ns',∃ n:Int,(p.1,n)∈ns/\(p.2:Rat)=(t'*s / t)*n:=fun p hp=>by
  obtain⟨q',m1,e1⟩:=f1' p hp
  obtain⟨q,m2,e2⟩:=hc' _ m1
  obtain⟨n,m3,e3⟩:=f2 _ m2
  refine⟨n,m3,?_⟩
  simp only at e2 e3
  rw [e1,e2,e3]
  grind
 have g2:∀ p∈ns,∃ n:Int,(p.1,n)∈ns'/\(n:Rat)=(t'*s / t)*p.2:=fun p hp=>by
  obtain⟨q,m1,e1⟩:=f1 p hp
  obtain⟨n,m3,e3⟩:=f2' _ (hc _ m1)
  refine⟨n,m3,?_⟩
  simp only at e3
  rw [e1,e3]
  grind
 generalize t'*s / t=r at g1 g2
 have d1:(r.den:Int) ∣ 1:=h.co _ fun p hp=>by
  obtain⟨n,_,e⟩:=g2 p hp
  have z:=rat_int_div e
  exact cop_dvd (b:=r.num) ⟨n,z.symm⟩ (Nat.Coprime.symm r.reduced)
 have d2:r.num ∣ 1:=h'.co _ fun p hp=>by
  obtain⟨n,_,e⟩:=g1 p hp
  have z:=rat_int_div e
  exact cop_dvd (b:=(r.den:Int)) ⟨n,z⟩ r.reduced
 have den1:r.den=1:=by
  have:=Int.eq_one_of_dvd_one (by omega) d1
  omega
 have num1:r.num=1\/r.num=-1:=by
  have:=Int.natAbs_dvd_natAbs.mpr d2
  have h1:r.num.natAbs=1:=Nat.dvd_one.mp (by simpa using this)
  omega
 have rpos:r.num=1:=by
  rcases num1 with e | e
  ·exact e
  ·exfalso
   obtain⟨p,hp,mx,pos⟩:=h.sg
   obtain⟨p',hp',mx',pos'⟩:=h'.sg
   obtain⟨n,m1,e1⟩:=g2 p hp
   obtain⟨n',m2,e2⟩:=g1 p' hp'
   obtain⟨q,w1,_⟩:=f1 p hp
   obtain⟨q',w1',_⟩:=f1' p' hp'
   have ek:p.1=p'.1:=gtP_eq (two _ w1) (two' _ w1') (mx' (p.1,n) m1) (mx (p'.1,n') m2)
   have ep:n'=p.2:=key_uniq ndn (k:=p.1) (by rw [ek]; exact m2) hp
   have z:=rat_int_div e2
   rw [den1,e,ep] at z
   omega
 intro p hp
 obtain⟨n,m1,e1⟩:=g1 p hp
 have z:=rat_int_div e1
 rw [den1,rpos] at z
 have:p.2=n:=by omega
 rw [<- this] at m1
 exact m1
def topI (B:Int) (q:Rat):Int:=q.num*B.fdiv (q.den:Int)
theorem topI_eq {B:Int} {q:Rat} (h:(q.den:Int) ∣ B):((topI B q:Int):Rat)=B*q:=by
 obtain⟨c,rfl⟩:=h
 have d0:(q.den:Int)≠0:=by have:=q.den_nz; omega
 have z:=den_mulq q
 unfold topI
 rw [Int.mul_fdiv_cancel_left c d0,Rat.intCast_mul,Rat.intCast_mul,<- z]
 grind
theorem nrm_of {c:List (List Int×Rat)} {B g:Int} (B0:B≠0) (hd:∀ p∈c,(p.2.den:Int) ∣ B) (g0:g≠0) (gd:∀ p∈c,g ∣ topI B p.2) (gm:∀ d:Int,(∀ p∈c,d ∣ topI B p.2)->d ∣ g)
  (hs:∃ p∈c,(∀ q∈c,gtP q.1 p.1=false)/\0 < (topI B p.2).fdiv g):Nrm c (c.map fun p=>(p.1,(topI B p.2).fdiv g)):=by
 have ex:∀ p∈c,g*(topI B p.2).fdiv g=topI B p.2:=fun p hp=>by
  obtain⟨x,e⟩:=gd p hp
  rw [e,Int.mul_fdiv_cancel_left x g0]
 have gr:(g:Rat)≠0:=by
  intro z
  exact g0 (Rat.intCast_inj.mp (by rw [z]; rfl))
 have tr:∀ p∈c,(((topI B p.2).fdiv g:Int):Rat)=((B:Rat) / g)*p.2:=fun p hp=>by
  have e:=congrArg (fun z:Int=>(z:Rat)) (ex p hp)
  simp only [Rat.intCast_mul] at e
  rw [topI_eq (hd p hp)] at e
  grind
 refine⟨by rw [List.map_map]; rfl,⟨(B:Rat) / g,?_,fun p hp=>?_,fun p hp=>⟨_,List.mem_map.mpr ⟨p,hp,rfl⟩,tr p hp⟩⟩,fun d h=>?_,?_⟩
 ·intro z
  have:(B:Rat)=0:=by grind
  exact B0 (Rat.intCast_inj.mp (by rw [this]; rfl))
 ·obtain⟨x,hx,rfl⟩:=List.mem_map.mp hp
  exact⟨x.2,hx,tr x hx⟩
 ·have z:d*g ∣ g:=gm _ fun p hp=>by
   obtain⟨x,e⟩:=h _ (List.mem_map.mpr ⟨p,hp,rfl⟩)
   simp only at e
   refine⟨x,?_⟩
   have:=ex p hp
   rw [<- this,e]
   grind
  obtain⟨y,e⟩:=z
  refine⟨y,?_⟩
  have : g * (d * y) = g * 1 := by rw [Int.mul_one]; conv => rhs; rw [e]
                                   grind
  exact(Int.eq_of_mul_eq_mul_left g0 this).symm
 ·obtain⟨p,hp,mx,pos⟩:=hs
  refine⟨_,List.mem_map.mpr ⟨p,hp,rfl⟩,fun q hq=>?_,pos⟩
  obtain⟨x,hx,rfl⟩:=List.mem_map.mp hq
  exact mx x hx
def kvD {α:Type} (f:α->D) (l:List (List Int×α)):List (List Int×D):=l.map fun p=>(p.1,f p.2)
abbrev cvD:=kvD fr
abbrev tpD:=kvD D.int
abbrev nmD:=kvD (fun n:Int=>D.tup [.int n,.int 1])
abbrev dTo (l:List (List Int×D)) (ep:Nat):DO:=.gen (.dT l ep)
section
variable {α:Type} {f:α->D}
theorem getT_none:∀ {l:List (List Int×α)} {k:List Int},k∉l.map (·.1)->getT (kvD f l) k=none
 | [],_,_=>rfl
 | p::l,k,h=>by
  rw [List.map_cons,List.mem_cons,not_or] at h
  have e:getT (kvD f (p::l)) k=getT (kvD f l) k:=by simp [getT,kvD,List.find?_cons,Ne.symm h.1]
  rw [e]
  exact getT_none h.2
theorem getT_some:∀ {l:List (List Int×α)} {k:List Int} {x:α},(l.map (·.1)).Nodup->(k,x)∈l->getT (kvD f l) k=some (f x)
 | [],_,_,_,h=>nomatch h
 | p::l,k,x,nd,h=>by
  rw [List.map_cons,List.nodup_cons] at nd
  rcases List.mem_cons.mp h with e | m
  ·subst e
   simp [getT,kvD]
  ·have ne:p.1≠k:=fun z=>nd.1 (List.mem_map.mpr ⟨_,m,z.symm⟩)
   have e:getT (kvD f (p::l)) k=getT (kvD f l) k:=by simp [getT,kvD,List.find?_cons,ne]
   rw [e]
   exact getT_some nd.2 m
theorem putT_app {l:List (List Int×α)} {k:List Int} {x:α} (h:k∉l.map (·.1)):putT (kvD f l) k (f x)=kvD f (l++[(k,x)]):=by
 unfold putT
 rw [getT_none h,if_neg (by simp)]
 simp [kvD]
theorem kvD_len {l:List (List Int×α)}:(kvD f l).length=l.length:=List.length_map _
theorem nd_mid {l r:List (List Int×α)} {p:List Int×α} (h:((l++p::r).map (·.1)).Nodup):p.1∉l.map (·.1):=by
 rw [List.map_append,List.map_cons,List.nodup_append] at h
 exact fun m=>h.2.2 _ m _ List.mem_cons_self rfl
end
theorem lim {n:Nat} (h:n<=100):n < sizeLine:=Nat.lt_of_lt_of_le (by omega:n < 300) (Nat.le_of_ble_eq_true (rfl:Nat.ble 300 sizeLine=true))
theorem nd_filter {l:List (List Int×Rat)} {g:List Int×Rat->Bool} (h:(l.map (·.1)).Nodup):((l.filter g).map (·.1)).Nodup:=List.Sublist.nodup (List.Sublist.map _ List.filter_sublist) h
theorem mem_ff {l:List (List Int×Rat)} {g:List Int×Rat->Bool} {k:List Int} (h:k∉l.map (·.1)):k∉(l.filter g).map (·.1):=fun m=>h (by
 obtain⟨x,hx,e⟩:=List.mem_map.mp m
 exact List.mem_map.mpr ⟨x,(List.mem_filter.mp hx).1,e⟩)
abbrev nz (l:List (List Int×Rat)):List (List Int×Rat):=l.filter fun p=>decide (p.2≠0)
def F_without_noughts:DSp:=fun ds S k=>∃ (a:Addr) (c:List (List Int×Rat)) (ep:Nat),ds=[.ref a]/\S a=some (dTo (cvD c) ep)/\(c.map (·.1)).Nodup/\c.length<=100/\∀ S' p ep',Ext S S'->S p=none->S' p=some (dTo (cvD (nz c)) ep')->k (.ref p) S'
theorem sc_without_noughts:FnScope ["sums","told","key","fraction"] ["sums"] (defScope s_without_noughts):=⟨rfl,rfl,rfl,by decide +kernel,rfl,by decide +kernel,by decide +kernel⟩
theorem ok_without_noughts {P:Program} {w:World} {K:Fg} {mg:Str->Option Value} {base:Heap} {f:Addr} {fd:FuncData} (Fn:Fun K "without_noughts" "without_noughts" s_without_noughts f fd):
  FnOk P w K mg base CX0 1 f fd ["sums"] (spU K F_without_noughts):=by
 refine Fn.okJ sc_without_noughts (fun ds S k h=>?_) (fun cdv A outer s H E hr=>⟨_,(ds_consj (dst_setj (i:=1) sc_without_noughts.nd d_dnewj) (ds_consj (dst_forIj PassesOwn.never rfl (i_itemsj (d_varj 0)) (dg_seqE (n:=2) rfl (dgs_consj (dg_namej (i:=2) sc_without_noughts.nd) (dgs_consj (dg_namej (i:=3) sc_without_noughts.nd) dgs_nilj))) (ds_onej (dst_ifj (dt_cmpj o_ne (d_ixj x_ixE (d_varj 3) d_intj (fun _ _=>rfl)) d_intj (nomark _)) (ds_onej (dst_asgj (d_varj 3) (dg_subD hr (d_varj 1) (d_varj 2)))) ds_nilj))) (ds_onej (dst_retj (d_varj 1))))),fun ds S k h=>?_⟩)
 ·obtain⟨_,_,_,rfl,_⟩:=h
  rfl
 ·obtain⟨a,c,ep,rfl,ha,nd,hl,w⟩:=h
  refine fun p hp e0=>⟨_,_,put_keep hp ha,?_⟩
  refine loop_ix (fun r L S'=>∃ (don rest:List (List Int×Rat)) (e1:Nat) (l2 l3:Option D),c=don++rest/\r=pairsD (cvD rest)/\L=[some (.ref a),some (.ref p),l2,l3]/\Ext S S'/\S' a=some (dTo (cvD c) ep)/\S' p=some (dTo (cvD (nz don)) e1)) (fun r L S' ⟨_,_,_,_,_,_,_,_,_,h,_⟩=>h) ?_ ?_ _ _ _ ⟨[],c,e0,none,none,rfl,rfl,rfl,Ext.new hp,put_keep hp ha,put_same⟩
  ·rintro d r L S1 N1 ⟨don,rest,e1,l2,l3,ec,er,rfl,x1,a1,p1⟩ hN
   cases rest with
   | nil=>cases er
   | cons q rest=>
    cases er
    have nq:=nd_mid (p:=q) (ec▸nd)
    have lz:(nz don).length<=don.length:=List.length_filter_le _ _
    have hd:don.length < 100:=by have:=congrArg List.length ec; rw [List.length_append,List.length_cons] at this; omega
    have nap:a≠p:=ne_put ha hp
    refine⟨([keyD q.1,fr q.2],none),rfl,rfl,rfl,ite_ne (fun h0=>⟨_,_,_,p1,rfl,by rw [kvD_len]; exact lim (by omega),fun e2=>hN _ _ ⟨don++[q],rest,e2,_,_,by rw [ec]; simp,rfl,rfl,x1.put hp,by rw [put_ne nap]; exact a1,?_⟩⟩) (fun h0=>hN _ _ ⟨don++[q],rest,e1,_,_,by rw [ec]; simp,rfl,rfl,x1,a1,?_⟩)⟩
    ·have q0:q.2≠0:=fun z=>h0 (by rw [z]; rfl)
     rw [put_same,putT_app (mem_ff nq)]
     simp [nz,List.filter_append,q0]
    ·have q0:q.2=0:=Rat.num_eq_zero.mp h0
     rw [p1]
     simp [nz,List.filter_append,q0]
  ·rintro L S1 ⟨don,rest,e1,l2,l3,ec,er,rfl,x1,a1,p1⟩
   cases rest with
   | cons q rest=>cases er
   | nil=>
    rw [List.append_nil] at ec
    subst ec
    exact w S1 p e1 x1 hp p1
theorem lcm_of' {a b:Int} (ha:0 < a) (hb:0 < b):(a.fdiv ((Int.gcd a b:Nat):Int))*b=((Int.lcm a b:Nat):Int):=by
 have h1:((Int.gcd a b:Nat):Int) ∣ a:=Int.gcd_dvd_left a b
 have g0:((Int.gcd a b:Nat):Int)≠0:=by
  have:=Int.gcd_pos_of_ne_zero_left (a:=a) b (by omega)
  omega
 have z:((Int.gcd a b:Nat):Int)*((Int.lcm a b:Nat):Int)=a*b:=by
  have e2:=congrArg (fun n:Nat=>(n:Int)) (Int.gcd_mul_lcm a b)
  simp only [Int.natCast_mul] at e2
  rw [Int.natAbs_of_nonneg (by omega),Int.natAbs_of_nonneg (by omega)] at e2
  exact e2
 generalize ((Int.gcd a b:Nat):Int)=g at h1 g0 z
 generalize ((Int.lcm a b:Nat):Int)=l at z
 obtain⟨x,rfl⟩:=h1
 rw [Int.mul_fdiv_cancel_left x g0]
 refine Int.eq_of_mul_eq_mul_left g0 ?_
 rw [z,Int.mul_assoc]
def F_common_multiple:DSp:=fun ds S k=>∃ a b:Int,ds=[.int a,.int b]/\0 < a/\0 < b/\Bt 4000 a/\Bt 4000 b/\k (.int ((Int.lcm a b:Nat):Int)) S
theorem sc_common_multiple:FnScope ["one","other"] ["one","other"] (defScope s_common_multiple):=⟨rfl,rfl,rfl,by decide +kernel,rfl,by decide +kernel,by decide +kernel⟩
theorem ok_common_multiple {P:Program} {w:World} {K:Fg} {mg:Str->Option Value} {base:Heap} {f:Addr} {fd:FuncData} (Fn:Fun K "common_multiple" "common_multiple" s_common_multiple f fd) (c_common_divisor:Own P w K mg base "common_divisor" 1 F_common_divisor):
  FnOk P w K mg base CX0 2 f fd ["one","other"] (spU K F_common_multiple):=by
 refine Fn.okJ sc_common_multiple (fun ds S k h=>?_) (fun cdv A outer s H E hr=>⟨_,(ds_onej (dst_retj (d_opj o_mul (d_opj o_div (d_varj 0) (d_callj c_common_divisor (hr.mono (by decide)) rfl (da_consj (d_varj 0) (da_consj (d_varj 1) da_nilj)))) (d_varj 1)))),fun ds S k h=>?_⟩)
 ·obtain⟨_,_,rfl,_⟩:=h
  rfl
 ·obtain⟨a,b,rfl,ha,hb,ba,bb,w⟩:=h
  rw [<- lcm_of' ha hb] at w
  have g0:((Int.gcd a b:Nat):Int)≠0:=by
   have:=Int.gcd_pos_of_ne_zero_left (a:=a) b (by omega)
   omega
  exact⟨dok g0 (gcd_bt (t:=a) (by omega) bb),mok (ba.le (HM.natAbs_fdiv_le _ _)) bb,w⟩
def lcB:Int->List Rat->Int
 | m,[]=>m
 | m,q::qs=>lcB ((Int.lcm m (q.den:Int):Nat):Int) qs
theorem lcm_pos' {a b:Int} (ha:0 < a) (hb:0 < b):0 < ((Int.lcm a b:Nat):Int):=by
 have:=Int.lcm_pos (m:=a) (n:=b) (by omega) (by omega)
 omega
theorem lcm_bt' {m n:Nat} {a b:Int} (ha:0 < a) (hb:0 < b) (ba:Bt m a) (bb:Bt n b):Bt (m+n) ((Int.lcm a b:Nat):Int):=by
 rw [<- lcm_of' ha hb]
 exact(ba.le (HM.natAbs_fdiv_le _ _)).mul bb
theorem den_p (q:Rat):0 < (q.den:Int):=by have:=q.den_nz; omega
theorem lcB_bt {w:Nat}:∀ {qs:List Rat} {m:Int} {n:Nat},0 < m->Bt n m->(∀ q∈qs,Sz w q)->0 < lcB m qs/\Bt (n+w*qs.length) (lcB m qs)
 | [],_,_,h0,h,_=>⟨h0,h⟩
 | q::qs,m,n,h0,h,hq=>by
  obtain⟨a,b⟩:=lcB_bt (qs:=qs) (lcm_pos' h0 (den_p q)) (lcm_bt' h0 (den_p q) h (hq q List.mem_cons_self).den) fun p hp=>hq p (List.mem_cons_of_mem _ hp)
  refine⟨a,b.mono ?_⟩
  rw [List.length_cons,Nat.mul_add]
  omega
theorem lcB_dvd:∀ {qs:List Rat} {m:Int},m ∣ lcB m qs/\∀ q∈qs,(q.den:Int) ∣ lcB m qs
 | [],m=>⟨Int.dvd_refl m,fun q h=>nomatch h⟩
 | q::qs,m=>by
  obtain⟨a,b⟩:=lcB_dvd (qs:=qs) (m:=((Int.lcm m (q.den:Int):Nat):Int))
  refine⟨Int.dvd_trans (Int.dvd_lcm_left ..) a,fun p hp=>?_⟩
  rcases List.mem_cons.mp hp with e | m'
  ·rw [e]
   exact Int.dvd_trans (Int.dvd_lcm_right ..) a
  ·exact b p m'
def F_common_bottom:DSp:=fun ds S k=>∃ (a:Addr) (qs:List Rat),ds=[.ref a]/\S a=some (.lst (qs.map fr))/\(∀ q∈qs,Sz 100 q)/\qs.length<=10/\k (.int (lcB 1 qs)) S
theorem sc_common_bottom:FnScope ["fractions","bottom","fraction"] ["fractions"] (defScope s_common_bottom):=⟨rfl,rfl,rfl,by decide +kernel,rfl,by decide +kernel,by decide +kernel⟩
theorem ok_common_bottom {P:Program} {w:World} {K:Fg} {mg:Str->Option Value} {base:Heap} {f:Addr} {fd:FuncData} (Fn:Fun K "common_bottom" "common_bottom" s_common_bottom f fd) (c_common_multiple:Own P w K mg base "common_multiple" 2 F_common_multiple):
  FnOk P w K mg base CX0 3 f fd ["fractions"] (spU K F_common_bottom):=by
 refine Fn.okJ sc_common_bottom (fun ds S k h=>?_) (fun cdv A outer s H E hr=>⟨_,(ds_consj (dst_setj (i:=1) sc_common_bottom.nd d_intj) (ds_consj (dst_forEj PassesOwn.never rfl (d_varj 0) (dg_namej (i:=2) sc_common_bottom.nd) (ds_onej (dst_setj (i:=1) sc_common_bottom.nd (d_callj c_common_multiple (hr.mono (by decide)) rfl (da_consj (d_varj 1) (da_consj (d_ixj x_ixE (d_varj 2) d_intj (fun _ _=>rfl)) da_nilj)))))) (ds_onej (dst_retj (d_varj 1))))),fun ds S k h=>?_⟩)
 ·obtain⟨_,_,rfl,_⟩:=h
  rfl
 ·obtain⟨a,qs,rfl,ha,hq,hl,w⟩:=h
  refine⟨(qs.map fr,some a),by simp only [dItems,ha],?_⟩
  refine loop_ix (fun r L S'=>S'=S/\∃ (rs:List Rat) (m:Int) (n:Nat) (l2:Option D),L=[some (.ref a),some (.int m),l2]/\r=rs.map fr/\lcB 1 qs=lcB m rs/\0 < m/\Bt n m/\n+100*rs.length<=1001/\∀ q∈rs,Sz 100 q) (fun r L S' ⟨e,_⟩=>by rw [e]; exact ha) ?_ ?_ _ _ _ ⟨rfl,qs,1,1,none,rfl,rfl,rfl,by decide,by decide,by omega,hq⟩
  ·rintro d r L S1 N1 ⟨rfl,rs,m,n,l2,rfl,er,hm,m0,bm,hn,hr⟩ hN
   cases rs with
   | nil=>cases er
   | cons q rs=>
    cases er
    have hn:n+100*(rs.length+1)<=1001:=hn
    have hq:=hr q List.mem_cons_self
    exact⟨m,(q.den:Int),rfl,m0,den_p q,bm.mono (by omega),hq.den.mono (by decide),hN _ _ ⟨rfl,rs,_,n+100,_,rfl,rfl,hm,lcm_pos' m0 (den_p q),lcm_bt' m0 (den_p q) bm hq.den,by omega,fun p hp=>hr p (List.mem_cons_of_mem _ hp)⟩⟩
  ·rintro L S1 ⟨rfl,rs,m,n,l2,rfl,er,hm,_⟩
   cases rs with
   | nil=>rw [hm] at w; exact w
   | cons _ _=>cases er
def F_tops_over:DSp:=fun ds S k=>∃ (a:Addr) (c:List (List Int×Rat)) (ep:Nat) (B:Int),ds=[.ref a,.int B]/\S a=some (dTo (cvD c) ep)/\(c.map (·.1)).Nodup/\c.length<=100/\(∀ p∈c,Sz 4000 p.2)/\Bt 4000 B/\∀ S' p ep',Ext S S'->S' p=some (dTo (tpD (c.map fun x=>(x.1,topI B x.2))) ep')->k (.ref p) S'
theorem sc_tops_over:FnScope ["curve","bottom","tops","key","fraction"] ["curve","bottom"] (defScope s_tops_over):=⟨rfl,rfl,rfl,by decide +kernel,rfl,by decide +kernel,by decide +kernel⟩
theorem ok_tops_over {P:Program} {w:World} {K:Fg} {mg:Str->Option Value} {base:Heap} {f:Addr} {fd:FuncData} (Fn:Fun K "tops_over" "tops_over" s_tops_over f fd):
  FnOk P w K mg base CX0 1 f fd ["curve","bottom"] (spU K F_tops_over):=by
 refine Fn.okJ sc_tops_over (fun ds S k h=>?_) (fun cdv A outer s H E hr=>⟨_,(ds_consj (dst_setj (i:=2) sc_tops_over.nd d_dnewj) (ds_consj (dst_forIj PassesOwn.never rfl (i_itemsj (d_varj 0)) (dg_seqE (n:=2) rfl (dgs_consj (dg_namej (i:=3) sc_tops_over.nd) (dgs_consj (dg_namej (i:=4) sc_tops_over.nd) dgs_nilj))) (ds_onej (dst_asgj (d_opj o_mul (d_ixj x_ixE (d_varj 4) d_intj (fun _ _=>rfl)) (d_opj o_div (d_varj 1) (d_ixj x_ixE (d_varj 4) d_intj (fun _ _=>rfl)))) (dg_subD hr (d_varj 2) (d_varj 3))))) (ds_onej (dst_retj (d_varj 2))))),fun ds S k h=>?_⟩)
 ·obtain⟨_,_,_,_,rfl,_⟩:=h
  rfl
 ·obtain⟨a,c,ep,B,rfl,ha,nd,hl,hz,bB,w⟩:=h
  refine fun p hp e0=>⟨_,_,put_keep hp ha,?_⟩
  have nap:a≠p:=ne_put ha hp
  refine loop_ix (fun r L S'=>∃ (don rest:List (List Int×Rat)) (e1:Nat) (l2 l3:Option D),c=don++rest/\r=pairsD (cvD rest)/\L=[some (.ref a),some (.int B),some (.ref p),l2,l3]/\Ext S S'/\S' a=some (dTo (cvD c) ep)/\S' p=some (dTo (tpD (don.map fun x=>(x.1,topI B x.2))) e1)) (fun r L S' ⟨_,_,_,_,_,_,_,_,_,h,_⟩=>h) ?_ ?_ _ _ _ ⟨[],c,e0,none,none,rfl,rfl,rfl,Ext.new hp,put_keep hp ha,put_same⟩
  ·rintro d r L S1 N1 ⟨don,rest,e1,l2,l3,ec,er,rfl,x1,a1,p1⟩ hN
   cases rest with
   | nil=>cases er
   | cons q rest=>
    cases er
    have nq:=nd_mid (p:=q) (ec▸nd)
    have hd:don.length < 100:=by have:=congrArg List.length ec; rw [List.length_append,List.length_cons] at this; omega
    have sq:Sz 4000 q.2:=hz q (by rw [ec]; simp)
    have nk:q.1∉(don.map fun x=>(x.1,topI B x.2)).map (·.1):=by rw [List.map_map]; exact nq
    refine⟨([keyD q.1,fr q.2],none),rfl,rfl,rfl,dok (by have:=den_p q.2; omega) sq.den,mok sq.num (bB.le (HM.natAbs_fdiv_le _ _)),_,_,_,p1,rfl,by rw [kvD_len,List.length_map]; exact lim (by omega),fun e2=>hN _ _ ⟨don++[q],rest,e2,_,_,by rw [ec]; simp,rfl,rfl,x1.put hp,by rw [put_ne nap]; exact a1,?_⟩⟩
    refine put_same.trans ?_
    have z:=putT_app (f:=D.int) (x:=topI B q.2) nk
    show some (DO.gen (Gen.dT (putT _ q.1 (D.int (topI B q.2))) e2))=_
    rw [z]
    simp
  ·rintro L S1 ⟨don,rest,e1,l2,l3,ec,er,rfl,x1,a1,p1⟩
   cases rest with
   | cons q rest=>cases er
   | nil=>
    rw [List.append_nil] at ec
    subst ec
    exact w S1 p e1 x1 p1
structure Gp (l:List (List Int×Int)) (g:Int):Prop where
 dv:∀ p∈l,g ∣ p.2
 mx:∀ d:Int,(∀ p∈l,d ∣ p.2)->d ∣ g
 nn:0<=g
theorem Gp.nil:Gp [] 0:=⟨(by simp),(fun d _=>Int.dvd_zero d),Int.le_refl 0⟩
theorem Gp.snoc {l:List (List Int×Int)} {g:Int} {p:List Int×Int} (h:Gp l g):Gp (l++[p]) ((Int.gcd g p.2:Nat):Int):=by
 refine⟨fun q hq=>?_,fun d hd=>Int.dvd_coe_gcd (h.mx d fun q hq=>hd q (List.mem_append_left _ hq)) (hd p (by simp)),by omega⟩
 rcases List.mem_append.mp hq with m | m
 ·exact Int.dvd_trans (Int.gcd_dvd_left ..) (h.dv q m)
 ·have e:q=p:=by simpa using m
  rw [e]
  exact Int.gcd_dvd_right ..
theorem dvd_bt {n:Nat} {g x:Int} (h:g ∣ x) (x0:x≠0) (b:Bt n x):Bt n g:=b.le (Nat.le_of_dvd (by omega) (Int.natAbs_dvd_natAbs.mpr h))
theorem sgn_ok {g x:Int} (h:g ∣ x) (h0:x≠0) (hs:(x < 0->g < 0)/\(0 < x->0 < g)):0 < x.fdiv g:=by
 obtain⟨y,rfl⟩:=h
 have g0:g≠0:=fun z=>h0 (by rw [z,Int.zero_mul])
 rw [Int.mul_fdiv_cancel_left y g0]
 rcases Int.lt_trichotomy (g*y) 0 with c | c | c
 ·have:=hs.1 c
  exact Int.pos_of_mul_neg_left (Int.mul_comm g y▸c) (by omega)
 ·exact absurd c h0
 ·have:=hs.2 c
  exact Int.pos_of_mul_pos_left (Int.mul_comm g y▸c) (by omega)
def F_normal_of_tops:DSp:=fun ds S k=>∃ (a:Addr) (ts:List (List Int×Int)) (ep:Nat),ds=[.ref a]/\S a=some (dTo (tpD ts) ep)/\(ts.map (·.1)).Nodup/\ts.length<=100/\ts≠[]/\(∀ p∈ts,∃ i j,p.1=[i,j])/\(∀ p∈ts,p.2≠0/\Bt 8000 p.2)/\
 ∀ S' p ep' g,Ext S S'->g≠0->(∀ p∈ts,g ∣ p.2)->(∀ d:Int,(∀ p∈ts,d ∣ p.2)->d ∣ g)->(∃ m∈ts,(∀ q∈ts,gtP q.1 m.1=false)/\0 < m.2.fdiv g)->S' p=some (dTo (nmD (ts.map fun x=>(x.1,x.2.fdiv g))) ep')->k (.ref p) S'
theorem sc_normal_of_tops:FnScope ["tops","shared","top","told","key"] ["tops"] (defScope s_normal_of_tops):=⟨rfl,rfl,rfl,by decide +kernel,rfl,by decide +kernel,by decide +kernel⟩
theorem ok_normal_of_tops {P:Program} {w:World} {K:Fg} {mg:Str->Option Value} {base:Heap} {f:Addr} {fd:FuncData} (Fn:Fun K "normal_of_tops" "normal_of_tops" s_normal_of_tops f fd) (c_common_divisor:Own P w K mg base "common_divisor" 1 F_common_divisor) (z_max:mg "max"=none):
  FnOk P w K mg base CX0 2 f fd ["tops"] (spU K F_normal_of_tops):=by
 refine Fn.okJ sc_normal_of_tops (fun ds S k h=>?_) (fun cdv A outer s H E hr=>⟨_,(ds_consj (dst_setj (i:=1) sc_normal_of_tops.nd d_intj) (ds_consj (dst_forIj PassesOwn.never rfl (i_valsj (d_varj 0)) (dg_namej (i:=2) sc_normal_of_tops.nd) (ds_onej (dst_setj (i:=1) sc_normal_of_tops.nd (d_callj c_common_divisor (hr.mono (by decide)) rfl (da_consj (d_varj 1) (da_consj (d_varj 2) da_nilj)))))) (ds_consj (dst_ifj (dt_cmpj o_lt (d_dgetj hr (d_varj 0) (d_callBj (b_maxD hr) rfl z_max bt_max (da_consj (d_varj 0) da_nilj)) (fun _ _=>rfl)) d_intj (nomark _)) (ds_onej (dst_setj (i:=1) sc_normal_of_tops.nd (d_unj o_neg (d_varj 1)))) ds_nilj) (ds_consj (dst_setj (i:=3) sc_normal_of_tops.nd d_dnewj) (ds_consj (dst_forIj PassesOwn.never rfl (i_itemsj (d_varj 0)) (dg_seqE (n:=2) rfl (dgs_consj (dg_namej (i:=4) sc_normal_of_tops.nd) (dgs_consj (dg_namej (i:=2) sc_normal_of_tops.nd) dgs_nilj))) (ds_onej (dst_asgj (d_tupj (da_consj (d_opj o_div (d_varj 2) (d_varj 1)) (da_consj d_intj da_nilj))) (dg_subD hr (d_varj 3) (d_varj 4))))) (ds_onej (dst_retj (d_varj 3)))))))),fun ds S k h=>?_⟩)
 ·obtain⟨_,_,_,rfl,_⟩:=h
  rfl
 ·obtain⟨a,ts,ep,rfl,ha,nd,hl,ne,two,hz,w⟩:=h
  refine⟨_,_,ha,?_⟩
  refine loop_ix (fun r L S'=>S'=S/\∃ (don rest:List (List Int×Int)) (g:Int) (l2:Option D),ts=don++rest/\r=rest.map (fun p=>D.int p.2)/\L=[some (.ref a),some (.int g),l2,none,none]/\Gp don g) (fun r L S' ⟨e,_⟩=>by rw [e]; exact ha) ?_ ?_ _ _ _ ⟨rfl,[],ts,0,none,rfl,by show List.map _ (List.map _ ts)=_; rw [List.map_map]; rfl,rfl,Gp.nil⟩
  ·rintro d r L S1 N1 ⟨rfl,don,rest,g,l2,ec,er,rfl,hg⟩ hN
   cases rest with
   | nil=>cases er
   | cons q rest=>
    cases er
    exact hN _ _ ⟨rfl,don++[q],rest,_,_,by rw [ec]; simp,rfl,rfl,hg.snoc⟩
  ·rintro L S1 ⟨rfl,don,rest,g,l2,ec,er,rfl,hg⟩
   cases rest with
   | cons q rest=>cases er
   | nil=>
    rw [List.append_nil] at ec
    subst ec
    have mk:∀ m∈tpD ts,∃ x∈ts,m=(x.1,D.int x.2):=fun m hm=>by
     obtain⟨x,hx,rfl⟩:=List.mem_map.mp hm
     exact⟨x,hx,rfl⟩
    have rest:∀ g':Int,g'≠0->(∀ p∈ts,g' ∣ p.2)->(∀ d:Int,(∀ p∈ts,d ∣ p.2)->d ∣ g')->(∃ m∈ts,(∀ q∈ts,gtP q.1 m.1=false)/\0 < m.2.fdiv g')->
      (dSeq (dSet 3 dDNew) (dSeq (dForI (srcD (dVar 0) pairsD) (dgSeqE 2 (dgCons (dgName 4) (dgCons (dgName 2) dgNil))) (dAsg (dTup (dCons (dOp dDiv (dVar 2) (dVar 1)) (dCons (dC (D.int 1)) dNil))) (dgSubD (dVar 3) (dVar 4)))) (dRet (dVar 3)))) {nx:=fun _ S'=>k D.non S',rt:=k} [some (D.ref a),some (D.int g'),l2,none,none] S1:=by
     intro g' g0 gd gm gs
     have gb:Bt 8000 g':=by
      obtain⟨m,hm,_⟩:=gs
      exact dvd_bt (gd m hm) (hz m hm).1 (hz m hm).2
     refine fun p hp e0=>⟨_,_,put_keep hp ha,?_⟩
     have nap:a≠p:=ne_put ha hp
     refine loop_ix (fun r L S'=>∃ (don rest:List (List Int×Int)) (e1:Nat) (l2 l3:Option D),ts=don++rest/\r=pairsD (tpD rest)/\L=[some (.ref a),some (.int g'),l2,some (.ref p),l3]/\Ext S1 S'/\S' a=some (dTo (tpD ts) ep)/\S' p=some (dTo (nmD (don.map fun x=>(x.1,x.2.fdiv g'))) e1)) (fun r L S' ⟨_,_,_,_,_,_,_,_,_,h,_⟩=>h) ?_ ?_ _ _ _ ⟨[],ts,e0,l2,none,rfl,rfl,rfl,Ext.new hp,put_keep hp ha,put_same⟩
     ·rintro d r L S2 N1 ⟨don,rest,e1,l2,l3,ec,er,rfl,x1,a1,p1⟩ hN
      cases rest with
      | nil=>cases er
      | cons q rest=>
       cases er
       have nq:=nd_mid (p:=q) (ec▸nd)
       have hd:don.length < 100:=by have:=congrArg List.length ec; rw [List.length_append,List.length_cons] at this; omega
       have nk:q.1∉(don.map fun x=>(x.1,x.2.fdiv g')).map (·.1):=by rw [List.map_map]; exact nq
       refine⟨([keyD q.1,.int q.2],none),rfl,rfl,rfl,dok g0 gb,few,_,_,_,p1,rfl,by rw [kvD_len,List.length_map]; exact lim (by omega),fun e2=>hN _ _ ⟨don++[q],rest,e2,_,_,by rw [ec]; simp,rfl,rfl,x1.put hp,by rw [put_ne nap]; exact a1,?_⟩⟩
       refine put_same.trans ?_
       have z:=putT_app (f:=fun n:Int=>D.tup [.int n,.int 1]) (x:=q.2.fdiv g') nk
       show some (DO.gen (Gen.dT (putT _ q.1 (D.tup [.int (q.2.fdiv g'),.int 1])) e2))=_
       rw [z]
       simp
     ·rintro L S2 ⟨don,rest,e1,l2,l3,ec,er,rfl,x1,a1,p1⟩
      cases rest with
      | cons q rest=>cases er
      | nil=>
       rw [List.append_nil] at ec
       subst ec
       exact w S2 p e1 g' x1 g0 gd gm gs p1
    refine⟨_,_,ha,fun z=>ne (List.map_eq_nil_iff.mp z),fun m hm=>?_,fun m hm mx=>?_⟩
    ·obtain⟨x,hx,rfl⟩:=mk m hm
     exact two x hx
    ·obtain⟨x,hx,rfl⟩:=mk m hm
     have g0:g≠0:=fun z=>by
      have:=hg.dv x hx
      rw [z] at this
      exact(hz x hx).1 (Int.zero_dvd.mp this)
     have mx':∀ q∈ts,gtP q.1 x.1=false:=fun q hq=>mx (q.1,.int q.2) (List.mem_map.mpr ⟨q,hq,rfl⟩)
     have gn:=hg.nn
     refine⟨_,_,x.1,_,ha,rfl,getT_some nd hx,ite_dec (fun neg=>rest (-g) (by omega) (fun p hp=>Int.neg_dvd.mpr (hg.dv p hp)) (fun d hd=>Int.dvd_neg.mpr (hg.mx d hd)) ⟨x,hx,mx',sgn_ok (Int.neg_dvd.mpr (hg.dv x hx)) (hz x hx).1 ⟨fun _=>by omega,fun z=>by omega⟩⟩) (fun pos=>rest g g0 hg.dv hg.mx ⟨x,hx,mx',sgn_ok (hg.dv x hx) (hz x hx).1 ⟨fun z=>absurd z pos,fun _=>by omega⟩⟩)⟩
def F_normal:DSp:=fun ds S k=>∃ (a:Addr) (c:List (List Int×Rat)) (ep:Nat),ds=[.ref a]/\S a=some (dTo (cvD c) ep)/\(c.map (·.1)).Nodup/\c.length<=10/\c≠[]/\(∀ p∈c,∃ i j,p.1=[i,j])/\(∀ p∈c,p.2≠0/\Sz 100 p.2)/\∀ S' p ep' ns,Ext S S'->Nrm c ns->S' p=some (dTo (nmD ns) ep')->k (.ref p) S'
theorem sc_normal:FnScope ["curve"] ["curve"] (defScope s_normal):=⟨rfl,rfl,rfl,by decide +kernel,rfl,by decide +kernel,by decide +kernel⟩
theorem ok_normal {P:Program} {w:World} {K:Fg} {mg:Str->Option Value} {base:Heap} {f:Addr} {fd:FuncData} (Fn:Fun K "normal" "normal" s_normal f fd) (c_normal_of_tops:Own P w K mg base "normal_of_tops" 2 F_normal_of_tops) (c_tops_over:Own P w K mg base "tops_over" 1 F_tops_over) (c_common_bottom:Own P w K mg base "common_bottom" 3 F_common_bottom) (z_len:mg "len"=none) (z_list:mg "list"=none):
  FnOk P w K mg base CX0 4 f fd ["curve"] (spU K F_normal):=by
 refine Fn.okJ sc_normal (fun ds S k h=>?_) (fun cdv A outer s H E hr=>⟨_,(ds_consj (dst_ifj (dt_cmpj o_eq (d_callBj b_lenD rfl z_len bt_len (da_consj (d_varj 0) da_nilj)) d_intj (nomark _)) (ds_onej dst_neverj) ds_nilj) (ds_onej (dst_retj (d_callj c_normal_of_tops (hr.mono (by decide)) rfl (da_consj (d_callj c_tops_over (hr.mono (by decide)) rfl (da_consj (d_varj 0) (da_consj (d_callj c_common_bottom (hr.mono (by decide)) rfl (da_consj (d_listVj rfl rfl z_list (d_varj 0)) da_nilj)) da_nilj))) da_nilj))))),fun ds S k h=>?_⟩)
 ·obtain⟨_,_,_,rfl,_⟩:=h
  rfl
 ·obtain⟨a,c,ep,rfl,ha,nd,hl,ne,two,hz,w⟩:=h
  have l0:((cvD c).length:Int)≠0:=by rw [kvD_len]; exact fun z=>ne (List.length_eq_zero_iff.mp (by omega))
  refine⟨_,_,ha,ite_dec (fun z=>absurd z l0) (fun _=>?_)⟩
  refine⟨_,_,ha,fun q hq=>?_⟩
  have x1:Ext S (put S q (.lst ((kvD fr c).map (·.2)))):=Ext.new hq
  have e1:(kvD fr c).map (·.2)=(c.map (·.2)).map fr:=by unfold kvD; rw [List.map_map,List.map_map]; rfl
  have y1:put S q (.lst ((kvD fr c).map (·.2))) q=some (.lst ((c.map (·.2)).map fr)):=by rw [put_same,e1]
  generalize put S q (.lst ((kvD fr c).map (·.2)))=S1 at x1 y1
  have sz:∀ r∈c.map (·.2),Sz 100 r:=fun r hr=>by
   obtain⟨x,hx,rfl⟩:=List.mem_map.mp hr
   exact(hz x hx).2
  obtain⟨B0,bB⟩:=lcB_bt (m:=1) (n:=1) (by decide) (by decide) sz
  have dv:=(lcB_dvd (qs:=c.map (·.2)) (m:=1)).2
  rw [List.length_map] at bB
  refine⟨q,_,rfl,y1,sz,by rw [List.length_map]; exact hl,?_⟩
  have bB':Bt 1001 (lcB 1 (c.map (·.2))):=bB.mono (by omega)
  generalize lcB 1 (c.map (·.2))=B at B0 bB' dv
  have dv':∀ p∈c,(p.2.den:Int) ∣ B:=fun p hp=>dv p.2 (List.mem_map.mpr ⟨p,hp,rfl⟩)
  have top0:∀ p∈c,topI B p.2≠0:=fun p hp z=>by
   have e:=topI_eq (dv' p hp)
   rw [z] at e
   have b0:(B:Rat)≠0:=fun y=>by
    have:B=0:=Rat.intCast_inj.mp (by rw [y]; rfl)
    omega
   have p0:=(hz p hp).1
   have e2:(B:Rat)*p.2=0:=by rw [<- e]; rfl
   rcases Rat.mul_eq_zero.mp e2 with y | y
   ·exact b0 y
   ·exact p0 y
  refine⟨a,c,ep,B,rfl,x1 _ _ ha,nd,by omega,fun p hp=>(hz p hp).2.mono (by decide),bB'.mono (by decide),fun S2 p2 e2 x2 h2=>?_⟩
  have tk:(c.map fun x=>(x.1,topI B x.2)).map (·.1)=c.map (·.1):=by rw [List.map_map]; rfl
  refine⟨p2,_,e2,rfl,h2,by rw [tk]; exact nd,by rw [List.length_map]; omega,fun z=>ne (List.map_eq_nil_iff.mp z),fun p hp=>?_,fun p hp=>?_,fun S3 p3 e3 g x3 g0 gd gm gs h3=>?_⟩
  ·obtain⟨x,hx,rfl⟩:=List.mem_map.mp hp
   exact two x hx
  ·obtain⟨x,hx,rfl⟩:=List.mem_map.mp hp
   exact⟨top0 x hx,(((hz x hx).2.num).mul (bB'.le (HM.natAbs_fdiv_le _ _))).mono (by decide)⟩
  ·have n1:Nrm c (c.map fun p=>(p.1,(topI B p.2).fdiv g)):=nrm_of (by omega) dv' g0 (fun p hp=>gd (p.1,topI B p.2) (List.mem_map.mpr ⟨p,hp,rfl⟩)) (fun d hd=>gm d fun p hp=>by
     obtain⟨x,hx,rfl⟩:=List.mem_map.mp hp
     exact hd x hx) (by
     obtain⟨m,hm,mx,pos⟩:=gs
     obtain⟨x,hx,rfl⟩:=List.mem_map.mp hm
     exact⟨x,hx,fun q hq=>mx (q.1,topI B q.2) (List.mem_map.mpr ⟨q,hq,rfl⟩),pos⟩)
   rw [List.map_map] at h3
   exact w S3 p3 e3 _ ((x1.trans x2).trans x3) n1 h3
theorem mergeT_go {α:Type} {f:α->D}:∀ {rest don:List (List Int×α)},((don++rest).map (·.1)).Nodup->mergeT (kvD f don) (kvD f rest)=kvD f (don++rest)
 | [],don,_=>by rw [List.append_nil]; rfl
 | p::rest,don,nd=>by
  have e:mergeT (kvD f don) (kvD f (p::rest))=mergeT (putT (kvD f don) p.1 (f p.2)) (kvD f rest):=rfl
  rw [e,putT_app (nd_mid nd),mergeT_go (by rw [List.append_assoc]; exact nd),List.append_assoc]
  rfl
theorem mergeT_nd {α:Type} {f:α->D} {l:List (List Int×α)} (h:(l.map (·.1)).Nodup):mergeT [] (kvD f l)=kvD f l:=mergeT_go (f:=f) (don:=[]) h
abbrev ln3 (a b r:Rat):List (List Int×Rat):=[([1,0],a),([0,1],b),([0,0],r)]
def F_line_from:DSp:=fun ds S k=>∃ x y a b:Rat,ds=[W x y,W a b]/\Sz 200 x/\Sz 200 y/\Sz 40 a/\Sz 40 b/\∀ S' p ep',Ext S S'->S' p=some (dTo (cvD (nz (ln3 a b (-(x*a+y*b))))) ep')->k (.ref p) S'
theorem sc_line_from:FnScope ["place","across"] ["place","across"] (defScope s_line_from):=⟨rfl,rfl,rfl,by decide +kernel,rfl,by decide +kernel,by decide +kernel⟩
theorem ok_line_from {P:Program} {w:World} {K:Fg} {mg:Str->Option Value} {base:Heap} {f:Addr} {fd:FuncData} (Fn:Fun K "line_from" "line_from" s_line_from f fd) (c_without_noughts:Own P w K mg base "without_noughts" 1 F_without_noughts) (c_negative:Own P w K mg base "negative" 1 F_negative) (c_product_of_ways:Own P w K mg base "product_of_ways" 4 F_product_of_ways):
  FnOk P w K mg base CX0 5 f fd ["place","across"] (spU K F_line_from):=by
 refine Fn.okJ sc_line_from (fun ds S k h=>?_) (fun cdv A outer s H E hr=>⟨_,(ds_onej (dst_retj (d_callj c_without_noughts (hr.mono (by decide)) rfl (da_consj (d_dispj hr (pj_cons (d_tupj (da_consj d_intj (da_consj d_intj da_nilj))) (d_ixj x_ixE (d_varj 1) d_intj (fun _ _=>rfl)) (pj_cons (d_tupj (da_consj d_intj (da_consj d_intj da_nilj))) (d_ixj x_ixE (d_varj 1) d_intj (fun _ _=>rfl)) (pj_cons (d_tupj (da_consj d_intj (da_consj d_intj da_nilj))) (d_callj c_negative (hr.mono (by decide)) rfl (da_consj (d_callj c_product_of_ways (hr.mono (by decide)) rfl (da_consj (d_varj 0) (da_consj (d_varj 1) da_nilj))) da_nilj)) pj_nil)))) da_nilj)))),fun ds S k h=>?_⟩)
 ·obtain⟨_,_,_,_,rfl,_⟩:=h
  rfl
 ·obtain⟨x,y,a,b,rfl,hx,hy,ha,hb,w⟩:=h
  refine fun p hp e0=>⟨few,few,few,x,y,a,b,rfl,hx.mono (by decide),hy.mono (by decide),ha.mono (by decide),hb.mono (by decide),_,rfl,e0,cvD (ln3 a b (-(x*a+y*b))),put_same,rfl,by show 3<=15; decide,fun e1=>?_⟩
  refine⟨p,ln3 a b (-(x*a+y*b)),e1,rfl,by rw [put_same,mergeT_nd (f:=fr) (l:=ln3 a b (-(x*a+y*b))) (by show(([[1,0],[0,1],[0,0]]:List (List Int))).Nodup; decide)],(by show(([[1,0],[0,1],[0,0]]:List (List Int))).Nodup; decide),by show 3<=100; decide,fun S' q e' xx _ hh=>w S' q e' (((Ext.new hp).put hp).trans xx) hh⟩
theorem ln3_nd {a b r:Rat}:((ln3 a b r).map (·.1)).Nodup:=by show(([[1,0],[0,1],[0,0]]:List (List Int))).Nodup; decide
theorem nz_mem {l:List (List Int×Rat)} {p:List Int×Rat}:p∈nz l↔p∈l/\p.2≠0:=by
 rw [List.mem_filter]
 simp
theorem nz_len {l:List (List Int×Rat)}:(nz l).length<=l.length:=List.length_filter_le _ _
theorem two3 {a b r:Rat}:∀ p∈ln3 a b r,∃ i j,p.1=[i,j]:=by
 intro p hp
 simp only [List.mem_cons,List.not_mem_nil,or_false] at hp
 rcases hp with rfl | rfl | rfl <;> exact⟨_,_,rfl⟩
theorem all3 {a b r:Rat} {P:Rat->Prop} (ha:P a) (hb:P b) (hr:P r):∀ p∈ln3 a b r,P p.2:=by
 intro p hp
 simp only [List.mem_cons,List.not_mem_nil,or_false] at hp
 rcases hp with rfl | rfl | rfl <;> assumption
theorem sq_or {a b:Rat} (h:a*a+b*b≠0):a≠0\/b≠0:=by
 by_cases z:a=0
 ·refine .inr fun y=>h ?_
  rw [z,y]
  grind
 ·exact .inl z
theorem ln3_ne {a b r:Rat} (h:a*a+b*b≠0):nz (ln3 a b r)≠[]:=by
 rcases sq_or h with z | z
 ·exact List.ne_nil_of_mem (nz_mem.mpr ⟨List.mem_cons_self,z⟩)
 ·exact List.ne_nil_of_mem (nz_mem.mpr ⟨List.mem_cons_of_mem _ List.mem_cons_self,z⟩)
def FX_square_of_unlike (cNoMeet:Addr):DSpX:=fun ds S _ x=>∃ a b:Rat,ds=[W a b]/\Sz 900 a/\Sz 900 b/\a*a+b*b=0/\x cNoMeet S
theorem okx_square_of_unlike {P:Program} {w:World} {K:Fg} {mg:Str->Option Value} {base:Heap} {f:Addr} {fd:FuncData} {cNoMeet:Addr} (Fn:Fun K "square_of_unlike" "square_of_unlike" s_square_of_unlike f fd) (c_product_of_ways:Own P w K mg base "product_of_ways" 4 F_product_of_ways) (m_NoMeet:mg "NoMeet"=some (.ref cNoMeet)) (q_NoMeet:PySem.W.excIn K cNoMeet [.type "ValueError",.type "Exception",.type "BaseException",.type "object"] "ValueError.__new__"=true):
  FnOk P w K mg base (CXE P w) 5 f fd ["way"] (spX K (FX_square_of_unlike cNoMeet)):=by
 refine Fn.okX sc_square_of_unlike (fun ds S k x h=>?_) (fun cdv A outer s H E ex hr hE=>⟨_,(ds_consj (dst_setj (i:=1) sc_square_of_unlike.nd (d_callj c_product_of_ways (hr.mono (by decide)) rfl (da_consj (d_varj 0) (da_consj (d_varj 0) da_nilj)))) (ds_consj (dst_ifj (dt_cmpj o_eq (d_ixj x_ixE (d_varj 1) d_intj (fun _ _=>rfl)) d_intj (nomark _)) (ds_onej (dst_raisej hE PySem.F.excBase_ValueError q_NoMeet m_NoMeet rfl)) ds_nilj) (ds_onej (dst_retj (d_varj 1))))),fun ds S k h=>?_⟩)
 ·obtain⟨_,_,rfl,_⟩:=h
  rfl
 ·obtain⟨a,b,rfl,ha,hb,h0,w⟩:=h
  exact⟨a,b,a,b,rfl,ha,hb,ha,hb,ite_dec (fun _=>w) (fun z=>absurd (by rw [h0]; rfl) z)⟩
set_option maxHeartbeats 4000000
section
variable {α:Type} {f:α->D}
def gA (z:α) (c:List (List Int×α)) (k:List Int):α:=((c.find? fun p=>decide (p.1=k)).map (·.2)).getD z
theorem gA_none {z:α}:∀ {c:List (List Int×α)} {k:List Int},k∉c.map (·.1)->gA z c k=z
 | [],_,_=>rfl
 | p::l,k,h=>by
  rw [List.map_cons,List.mem_cons,not_or] at h
  have e:gA z (p::l) k=gA z l k:=by simp [gA,List.find?_cons,Ne.symm h.1]
  rw [e]
  exact gA_none h.2
theorem gA_mem {z:α}:∀ {c:List (List Int×α)} {k:List Int} {x:α},(c.map (·.1)).Nodup->(k,x)∈c->gA z c k=x
 | [],_,_,_,h=>nomatch h
 | p::l,k,x,nd,h=>by
  rw [List.map_cons,List.nodup_cons] at nd
  rcases List.mem_cons.mp h with e | m
  ·subst e
   simp [gA]
  ·have ne:p.1≠k:=fun z=>nd.1 (List.mem_map.mpr ⟨_,m,z.symm⟩)
   have e:gA z (p::l) k=gA z l k:=by simp [gA,List.find?_cons,ne]
   rw [e]
   exact gA_mem nd.2 m
theorem getT_gA {z:α} {c:List (List Int×α)} {k:List Int}:(getT (kvD f c) k).getD (f z)=f (gA z c k):=by
 induction c with
 | nil=>rfl
 | cons p l ih=>
  by_cases h:p.1=k
  ·simp [getT,kvD,gA,h]
  ·have e1:getT (kvD f (p::l)) k=getT (kvD f l) k:=by simp [getT,kvD,List.find?_cons,h]
   have e2:gA z (p::l) k=gA z l k:=by simp [gA,List.find?_cons,h]
   rw [e1,e2,ih]
theorem key_or {z:α} {c:List (List Int×α)} (k:List Int) (nd:(c.map (·.1)).Nodup):k∉c.map (·.1)\/(k,gA z c k)∈c:=by
 by_cases h:k∈c.map (·.1)
 ·obtain⟨p,hp,rfl⟩:=List.mem_map.mp h
  exact .inr (by rw [gA_mem (x:=p.2) nd hp]; exact hp)
 ·exact .inl h
end
abbrev gR:=gA (0:Rat)
theorem putT_set {l:List (List Int×Rat)} {k:List Int} {x:Rat}:∃ l':List (List Int×Rat),putT (cvD l) k (fr x)=cvD l'/\((l.map (·.1)).Nodup->(l'.map (·.1)).Nodup)/\l'.length<=l.length+1/\(∀ p∈l',p∈l\/p=(k,x))/\(k,x)∈l'/\∀ p∈l,p.1≠k->p∈l':=by
 by_cases h:k∈l.map (·.1)
 ·refine⟨l.map fun p=>if p.1=k then(p.1,x) else p,?_,fun nd=>?_,by rw [List.length_map]; omega,fun p hp=>?_,?_,fun p hp n=>?_⟩
  ·unfold putT
   obtain⟨p,hp,e⟩:=List.mem_map.mp h
   have:(getT (cvD l) k).isSome=true:=by
    have:(cvD l).find? (fun p=>decide (p.1=k))≠none:=fun z=>by
     have:=List.find?_eq_none.mp z (p.1,fr p.2) (List.mem_map.mpr ⟨p,hp,rfl⟩)
     simp [e] at this
    unfold getT
    cases hh:(cvD l).find? (fun p=>decide (p.1=k)) with
    | none=>exact absurd hh this
    | some v=>rfl
   rw [if_pos this]
   unfold cvD kvD
   rw [List.map_map,List.map_map]
   refine List.map_congr_left fun p _=>?_
   show(if p.1=k then(p.1,fr x) else(p.1,fr p.2))=_
   show _=((if p.1=k then(p.1,x) else p).1,fr (if p.1=k then(p.1,x) else p).2)
   split <;> rfl
  ·rw [List.map_map]
   have:((fun p:List Int×Rat=>p.1) ∘ fun p=>if p.1=k then(p.1,x) else p)=fun p=>p.1:=by
    funext p
    show(if p.1=k then(p.1,x) else p).1=p.1
    split <;> rfl
   rw [this]
   exact nd
  ·obtain⟨q,hq,rfl⟩:=List.mem_map.mp hp
   by_cases e:q.1=k
   ·rw [if_pos e,e]
    exact .inr rfl
   ·rw [if_neg e]
    exact .inl hq
  ·obtain⟨p,hp,e⟩:=List.mem_map.mp h
   exact List.mem_map.mpr ⟨p,hp,by rw [if_pos e,e]⟩
  ·exact List.mem_map.mpr ⟨p,hp,by rw [if_neg n]⟩
 ·refine⟨l++[(k,x)],putT_app h,fun nd=>?_,by simp,fun p hp=>?_,by simp,fun p hp _=>by simp [hp]⟩
  ·rw [List.map_append,List.nodup_append]
   refine⟨nd,by simp,fun a ha b hb=>?_⟩
   have:b=k:=by simpa using hb
   rw [this]
   exact fun z=>h (z▸ha)
  ·rcases List.mem_append.mp hp with m | m
   ·exact .inl m
   ·exact .inr (by simpa using m)
theorem nodup_len {α:Type} [BEq α] [LawfulBEq α]:∀ {l l':List α},l.Nodup->(∀ x∈l,x∈l')->l.length<=l'.length
 | [],_,_,_=>Nat.zero_le _
 | a::l,l',nd,h=>by
  rw [List.nodup_cons] at nd
  have ma:=h a List.mem_cons_self
  have z:=nodup_len (l:=l) (l':=l'.erase a) nd.2 fun x hx=>(List.mem_erase_of_ne fun e=>nd.1 (by rw [<- e]; exact hx)).mpr (h x (List.mem_cons_of_mem _ hx))
  rw [List.length_erase_of_mem ma] at z
  have:0 < l'.length:=List.length_pos_of_mem ma
  rw [List.length_cons]
  omega
structure Cv (n m:Nat) (b:Int) (c:List (List Int×Rat)):Prop where
 nd:(c.map (·.1)).Nodup
 hl:c.length<=n
 sm:∀ p∈c,∃ i j:Int,p.1=[i,j]/\0<=i/\0<=j/\i<=b/\j<=b
 hz:∀ p∈c,Sz m p.2
theorem Cv.two {n m:Nat} {b:Int} {c:List (List Int×Rat)} (h:Cv n m b c):∀ p∈c,∃ i j,p.1=[i,j]:=fun p hp=>by
 obtain⟨i,j,e,_⟩:=h.sm p hp
 exact⟨i,j,e⟩
theorem Cv.sz {n m:Nat} {b:Int} {c:List (List Int×Rat)} (h:Cv n m b c) (m0:1<=m) (k:List Int):Sz m (gR c k):=by
 rcases key_or (z:=(0:Rat)) k h.nd with x | x
 ·rw [show gR c k=0 from gA_none x]
  exact Sz.mono (m:=1) ⟨by decide,by decide⟩ m0
 ·exact h.hz _ x
theorem Cv.nil {m:Nat} {b:Int}:Cv 0 m b []:=⟨List.nodup_nil,by decide,fun p h=>(nomatch h),fun p h=>(nomatch h)⟩
theorem Cv.mono {n m n' m':Nat} {b b':Int} {c:List (List Int×Rat)} (h:Cv n m b c) (hn:n<=n') (hm:m<=m') (hb:b<=b'):Cv n' m' b' c:=⟨h.nd,Nat.le_trans h.hl hn,fun p hp=>by
 obtain⟨i,j,e,a1,a2,a3,a4⟩:=h.sm p hp
 exact⟨i,j,e,a1,a2,by omega,by omega⟩,fun p hp=>(h.hz p hp).mono hm⟩
theorem Cv.put {n m:Nat} {b:Int} {c:List (List Int×Rat)} (h:Cv n m b c) {i j:Int} {x:Rat} (i0:0<=i) (j0:0<=j) (i1:i<=b) (j1:j<=b) (hx:Sz m x):∃ c',putT (cvD c) [i,j] (fr x)=cvD c'/\Cv (n+1) m b c'/\∀ k,gR c' k=if k=[i,j] then x else gR c k:=by
 obtain⟨c',e,nd,hl,mm,m1,m2⟩:=putT_set (l:=c) (k:=[i,j]) (x:=x)
 have:=h.hl
 have nd':=nd h.nd
 refine⟨c',e,⟨nd',by omega,fun p hp=>?_,fun p hp=>?_⟩,fun k=>?_⟩
 ·rcases mm p hp with q | rfl
  ·exact h.sm p q
  ·exact⟨i,j,rfl,i0,j0,i1,j1⟩
 ·rcases mm p hp with q | rfl
  ·exact h.hz p q
  ·exact hx
 ·by_cases ek:k=[i,j]
  ·rw [if_pos ek,ek]
   exact gA_mem nd' m1
  ·rw [if_neg ek]
   rcases key_or (z:=(0:Rat)) k h.nd with q | q
   ·rw [show gR c k=0 from gA_none q]
    refine gA_none fun z=>?_
    obtain⟨p,hp,rfl⟩:=List.mem_map.mp z
    rcases mm p hp with y | y
    ·exact q (List.mem_map.mpr ⟨p,y,rfl⟩)
    ·exact ek (by rw [y])
   ·exact gA_mem nd' (m2 _ q ek)
theorem gR_nz {c:List (List Int×Rat)} (nd:(c.map (·.1)).Nodup) (k:List Int):gR (nz c) k=gR c k:=by
 rcases key_or (z:=(0:Rat)) k nd with q | q
 ·rw [show gR c k=0 from gA_none q]
  exact gA_none (mem_ff q)
 ·by_cases z:gR c k=0
  ·rw [z]
   refine gA_none fun y=>?_
   obtain⟨p,hp,rfl⟩:=List.mem_map.mp y
   obtain⟨hp,p0⟩:=nz_mem.mp hp
   exact p0 ((gA_mem nd hp).symm.trans z)
  ·exact gA_mem (nd_filter nd) (nz_mem.mpr ⟨q,z⟩)
structure Res (φ:List Int->Rat) (g:List (List Int×Rat)):Prop where
 nd:(g.map (·.1)).Nodup
 two:∀ p∈g,∃ i j,p.1=[i,j]
 n0:∀ p∈g,p.2≠0
 at_:∀ k,gR g k=φ k
theorem Res.mem {φ:List Int->Rat} {g:List (List Int×Rat)} (h:Res φ g) {p:List Int×Rat}:p∈g↔p.2≠0/\φ p.1=p.2:=by
 refine⟨fun hp=>⟨h.n0 p hp,by rw [<- h.at_ p.1]; exact gA_mem h.nd hp⟩,fun⟨n,e⟩=>?_⟩
 rcases key_or (z:=(0:Rat)) p.1 h.nd with q | q
 ·exact absurd (by rw [<- e,<- h.at_ p.1]; exact gA_none q) n
 ·have:gR g p.1=p.2:=by rw [h.at_ p.1,e]
  rw [show gA 0 g p.1=p.2 from this] at q
  exact q
theorem Res.of {n m:Nat} {b:Int} {c:List (List Int×Rat)} {φ:List Int->Rat} (h:Cv n m b c) (e:∀ k,gR c k=φ k):Res φ (nz c):=⟨nd_filter h.nd,fun p hp=>h.two p (nz_mem.mp hp).1,fun p hp=>(nz_mem.mp hp).2,fun k=>by rw [gR_nz h.nd]; exact e k⟩
theorem Cv.hash {n m:Nat} {c:List (List Int×Rat)} (h:Cv n m 4 c):((cvD c).map fun p=>hashT p.1).Nodup:=by
 show(List.map (fun p=>hashT p.1) (c.map fun p=>(p.1,fr p.2))).Nodup
 rw [List.map_map]
 have nd:=h.nd
 have sm:=h.sm
 clear h
 induction c with
 | nil=>exact List.nodup_nil
 | cons p l ih=>
  rw [List.map_cons,List.nodup_cons] at nd ⊢
  refine⟨fun z=>nd.1 ?_,ih nd.2 fun q hq=>sm q (List.mem_cons_of_mem _ hq)⟩
  obtain⟨q,hq,e⟩:=List.mem_map.mp z
  obtain⟨i,j,e1,i0,j0,i1,j1⟩:=sm p List.mem_cons_self
  obtain⟨i',j',e2,i0',j0',i1',j1'⟩:=sm q (List.mem_cons_of_mem _ hq)
  have e:hashT q.1=hashT p.1:=e
  rw [e1,e2] at e
  have r:∀ z:Int,0<=z->z<=4->∃ t∈List.range 5,z=(t:Int):=fun z _ _=>⟨z.toNat,List.mem_range.mpr (by omega),by omega⟩
  obtain⟨x1,y1,rfl⟩:=r i i0 i1
  obtain⟨x2,y2,rfl⟩:=r j j0 j1
  obtain⟨x3,y3,rfl⟩:=r i' i0' i1'
  obtain⟨x4,y4,rfl⟩:=r j' j0' j1'
  obtain⟨a,b⟩:=hash_le4 x3 y3 x4 y4 x1 y1 x2 y2 e
  subst a b
  exact List.mem_map.mpr ⟨q,hq,by rw [e1,e2]⟩
theorem gA_snoc {z:Rat} {l:List (List Int×Rat)} {q:List Int×Rat} (h:q.1∉l.map (·.1)) (k:List Int):gA z (l++[q]) k=if k=q.1 then q.2 else gA z l k:=by
 unfold gA
 rw [List.find?_append]
 by_cases e:k=q.1
 ·rw [if_pos e]
  have:l.find? (fun p=>decide (p.1=k))=none:=by
   rw [List.find?_eq_none]
   intro p hp
   have:p.1≠k:=fun y=>h (List.mem_map.mpr ⟨p,hp,y.trans e⟩)
   simpa using this
  rw [this]
  simp [e]
 ·rw [if_neg e]
  have:([q]:List (List Int×Rat)).find? (fun p=>decide (p.1=k))=none:=by simp [Ne.symm e]
  rw [this]
  simp
def Reach (s o i:Rat):Prop:=o+i - 4*s < 0\/(o+i - 4*s)*(o+i - 4*s) < 4*(o*i)
instance (s o i:Rat):Decidable (Reach s o i):=inferInstanceAs (Decidable (_\/_))
theorem sgR_lt {q:Rat}:sgR q < 0↔q < 0:=by
 unfold sgR
 split
 ·constructor
  ·intro z; omega
  ·intro z; grind
 ·split
  ·exact⟨fun _=>by assumption,fun _=>by decide⟩
  ·exact⟨fun z=>by omega,fun z=>by contradiction⟩
theorem sq2_plain {a u:Rat}:sq2 a 0 u < 0↔a < 0:=by
 unfold sq2
 split
 ·exact sgR_lt
 ·rename_i h
  have:¬ a < 0:=fun z=>h (by have:=Rat.mul_pos (show 0 < -a by grind) (show 0 < -a by grind); grind)
  exact⟨fun z=>by rw [sgR_zero] at z; omega,fun z=>absurd z this⟩
theorem lt_root {l r q:Rat} (r0:0<=r) (rr:r*r=q):l < r↔l < 0\/l*l < q:=by
 subst rr
 constructor
 ·intro h
  rcases(Rat.le_total:(0:Rat)<=l\/l<=0) with p | p
  ·refine .inr ?_
   have h1:=Rat.mul_pos (show 0 < r - l by grind) (show 0 < r by grind)
   have h2:=Rat.mul_nonneg p (show 0<=r - l by grind)
   grind
  ·by_cases z:l=0
   ·refine .inr ?_
    subst z
    have:=Rat.mul_pos h h
    grind
   ·exact .inl (by grind)
 ·rintro(h | h)
  ·grind
  ·rcases(Rat.le_total:r<=l\/l<=r) with p | p
   ·have h1:=Rat.mul_nonneg (show 0<=l - r by grind) (show 0<=l by grind)
    have h2:=Rat.mul_nonneg r0 (show 0<=l - r by grind)
    grind
   ·by_cases z:l=r
    ·subst z; grind
    ·grind
theorem reach_sq {s o i r u:Rat} (o0:0 < o) (i0:0 < i) (r0:0<=r) (rr:r*r=4*(o*i)):(sq2 (o+i+sg r (-(4*(o*i))) - 4*s) (0 - 0) u < 0)↔Reach s o i:=by
 have p:=Rat.mul_pos o0 i0
 rw [show sg r (-(4*(o*i)))=-r by unfold sg; rw [if_pos (by grind)],show(0:Rat) - 0=0 by grind,sq2_plain]
 unfold Reach
 rw [<- lt_root r0 rr]
 constructor <;> intro h <;> grind
theorem reach_no {s o i:Rat} (o0:0 < o) (i0:0 < i) (no:NoSq (4*(o*i))):(sq2 (o+i - 4*s) (-1 - 0) (4*(o*i)) < 0)↔Reach s o i:=by
 have p:=Rat.mul_pos o0 i0
 have ne:(o+i - 4*s)*(o+i - 4*s)≠4*(o*i):=no _
 rw [show (-1:Rat) - 0=-1 by grind]
 unfold Reach sq2
 split
 ·rename_i h
  rw [sgR_lt]
  constructor
  ·exact .inl
  ·rintro(z | z)
   ·exact z
   ·exfalso; grind
 ·rename_i h
  refine⟨fun _=>.inr ?_,fun _=>by decide⟩
  grind
theorem told_mv {a b r x y m:Rat} (h0:a*a+b*b≠0) (em:m=(a*x+b*y+r) / (a*a+b*b)):m*(a*a+b*b)=a*x+b*y+r:=by
 rw [em,Rat.div_def,Rat.mul_assoc,Rat.inv_mul_cancel _ h0,Rat.mul_one]
theorem told_sq {a b V m:Rat} (e:m*(a*a+b*b)=V):a*-m*(a*-m)+b*-m*(b*-m)=m*V:=by grind
theorem told_m {a b V m:Rat} (e:m*(a*a+b*b)=V) (v0:V≠0):m≠0:=fun z=>v0 (by rw [<- e,z]; grind)
theorem told_r {a b r x y m:Rat} (e:m*(a*a+b*b)=a*x+b*y+r):0 - ((x+a*-m*(1 / 2) - x)*x+(y+b*-m*(1 / 2) - y)*y+1 / 2*(m*(a*x+b*y+r)+m*(a*x+b*y+r) - m*(a*x+b*y+r)))=r*(-m*(1 / 2)):=by grind
theorem told_d {x t:Rat}:x+t - x=t:=by grind
theorem told_pos {a b V m:Rat} (e:m*(a*a+b*b)=V) (h0:a*a+b*b≠0) (v0:V≠0):0 < m*V:=by
 have m0:=told_m e v0
 have h1:0<=a*a:=by
  rcases(Rat.le_total:(0:Rat)<=a\/a<=0) with h | h
  ·exact Rat.mul_nonneg h h
  ·have:=Rat.mul_nonneg (show 0<=-a by grind) (show 0<=-a by grind); grind
 have h2:0<=b*b:=by
  rcases(Rat.le_total:(0:Rat)<=b\/b<=0) with h | h
  ·exact Rat.mul_nonneg h h
  ·have:=Rat.mul_nonneg (show 0<=-b by grind) (show 0<=-b by grind); grind
 have h3:0 < a*a+b*b:=by grind
 have h4:0 < m*m:=by
  rcases(Rat.le_total:(0:Rat)<=m\/m<=0) with h | h
  ·exact Rat.mul_pos (by grind) (by grind)
  ·have:=Rat.mul_pos (show 0 < -m by grind) (show 0 < -m by grind); grind
 have q:=Rat.mul_pos h4 h3
 have e3:m*m*(a*a+b*b)=m*V:=by rw [<- e]; grind
 rw [e3] at q
 exact q
theorem told_reach {a b V m x y:Rat} (e:m*(a*a+b*b)=V) (h0:a*a+b*b≠0) (v0:V≠0):Reach ((x+a*-m*(1 / 2) - x)*(x+a*-m*(1 / 2) - x)+(y+b*-m*(1 / 2) - y)*(y+b*-m*(1 / 2) - y)) (m*V+m*V) (m*V):=by
 have p:=told_pos e h0 v0
 have q:=Rat.mul_pos p p
 have e2:4*((x+a*-m*(1 / 2) - x)*(x+a*-m*(1 / 2) - x)+(y+b*-m*(1 / 2) - y)*(y+b*-m*(1 / 2) - y))=m*V:=by
  rw [told_d,told_d,<- told_sq e]
  grind
 unfold Reach
 rw [e2]
 refine .inr ?_
 generalize m*V=s at p q
 grind
theorem told_ne {a b m x y:Rat} (m0:m≠0) (h0:a*a+b*b≠0) (h:x+a*-m*(1 / 2)=x/\y+b*-m*(1 / 2)=y):False:=by
 have e1:a*m=0:=by have:=h.1; grind
 have e2:b*m=0:=by have:=h.2; grind
 have a0:a=0:=(Rat.mul_eq_zero.mp e1).resolve_right m0
 have b0:b=0:=(Rat.mul_eq_zero.mp e2).resolve_right m0
 exact h0 (by rw [a0,b0]; grind)
theorem eq_int {n:Nat} {i j:Int}:eqT n (.int i) (.int j)=some (i == j):=by cases n <;> rfl
theorem eq_fr {n:Nat} {p q:Rat}:eqT (n+1) (fr p) (fr q)=some (decide (p=q)):=by
 show eqTs (eqT n) [.int p.num,.int (p.den:Int)] [.int q.num,.int (q.den:Int)]=_
 show(match eqT n (.int p.num) (.int q.num),(match eqT n (.int (p.den:Int)) (.int (q.den:Int)),some true with | some a,some b=>some (a && b) | _,_=>none) with | some a,some b=>some (a && b) | _,_=>none)=_
 rw [eq_int,eq_int]
 show some ((p.num == q.num) && (((p.den:Int) == (q.den:Int)) && true))=_
 congr 1
 rw [Bool.and_true,Bool.eq_iff_iff]
 simp only [Bool.and_eq_true,beq_iff_eq,decide_eq_true_eq]
 exact⟨fun ⟨a,b⟩=>Rat.ext a (by exact_mod_cast b),fun h=>by subst h; exact⟨rfl,rfl⟩⟩
theorem eq_two {n:Nat} {a b c d:D} {p q:Bool} (h1:eqT n a c=some p) (h2:eqT n b d=some q):eqT (n+1) (.tup [a,b]) (.tup [c,d])=some (p && q):=by
 show(match eqT n a c,(match eqT n b d,some true with | some a,some b=>some (a && b) | _,_=>none) with | some a,some b=>some (a && b) | _,_=>none)=_
 rw [h1,h2]
 show some (p && (q && true))=_
 rw [Bool.and_true]
theorem eq_fr' {n:Nat} {q:Rat}:eqT (n+1) (fr q) (fr q)=some true:=by rw [eq_fr,decide_eq_true rfl]
theorem eq_PP {x y z v:Rat}:eqT 8 (PP x y) (PP z v)=some (decide (x=z/\y=v)):=by
 have h:=eq_two (n:=7) (eq_two (n:=6) (eq_fr (n:=5) (p:=x) (q:=z)) (eq_fr' (n:=5) (q:=0))) (eq_two (n:=6) (eq_fr (n:=5) (p:=y) (q:=v)) (eq_fr' (n:=5) (q:=0)))
 rw [show decide (x=z/\y=v)=((decide (x=z) && true) && (decide (y=v) && true)) by simp]
 exact h
def SmL {α:Type} (c c':List α):Prop:=(∀ p∈c,p∈c')/\∀ p∈c',p∈c
theorem keys_len {α:Type} {c c':List (List Int×α)} (nd:(c.map (·.1)).Nodup) (h:∀ p∈c,p∈c'):c.length<=c'.length:=by
 have:=nodup_len nd (l':=c'.map (·.1)) fun x hx=>by
  obtain⟨p,hp,rfl⟩:=List.mem_map.mp hx
  exact List.mem_map.mpr ⟨p,h p hp,rfl⟩
 rw [List.length_map,List.length_map] at this
 exact this
theorem sub_eq {c c':List (List Int×Rat)} (nd:(c.map (·.1)).Nodup) (nd':(c'.map (·.1)).Nodup) (hl:c.length=c'.length) (h:∀ p∈c,p∈c'):∀ p∈c',p∈c:=fun p hp=>by
 refine Classical.byContradiction fun n=>?_
 have n2:p.1∉c.map (·.1):=fun z=>by
  obtain⟨q,hq,e⟩:=List.mem_map.mp z
  have e1:gR c' p.1=p.2:=gA_mem nd' hp
  have e2:gR c' p.1=q.2:=by rw [<- e]; exact gA_mem nd' (h q hq)
  exact n (by rw [show p=q from Prod.ext e.symm (e1.symm.trans e2)]; exact hq)
 have:=keys_len (c:=p::c) (c':=c') (by rw [List.map_cons,List.nodup_cons]; exact⟨n2,nd⟩) fun x hx=>by
  rcases List.mem_cons.mp hx with rfl | m
  ·exact hp
  ·exact h x m
 rw [List.length_cons] at this
 omega
theorem hitd {c':List (List Int×Rat)} (nd':(c'.map (·.1)).Nodup):∀ (c:List (List Int×Rat)),∃ r,HitD (cvD c') (cvD c) r/\(r=true↔∀ p∈c,p∈c')
 | []=>⟨true,rfl,⟨fun _ p h=>(nomatch h),fun _=>rfl⟩⟩
 | p::c=>by
  obtain⟨r,h,e⟩:=hitd nd' c
  rcases key_or (z:=(0:Rat)) p.1 nd' with q | q
  ·exact⟨false,.inl ⟨getT_none q,rfl⟩,⟨fun z=>(nomatch z),fun z=>absurd (List.mem_map.mpr ⟨p,z p List.mem_cons_self,rfl⟩) q⟩⟩
  ·refine⟨_,.inr ⟨_,decide (p.2=gR c' p.1),r,getT_some nd' q,eq_fr (n:=5),h,rfl⟩,?_⟩
   rw [Bool.and_eq_true,decide_eq_true_eq,e]
   refine⟨fun ⟨a,b⟩ x hx=>?_,fun z=>⟨?_,fun x hx=>z x (List.mem_cons_of_mem _ hx)⟩⟩
   ·rcases List.mem_cons.mp hx with rfl | m
    ·have q:(x.1,gR c' x.1)∈c':=q
     rw [<- a] at q
     exact q
    ·exact b x m
   ·exact(gA_mem nd' (z p List.mem_cons_self)).symm
theorem eqr {c c':List (List Int×Rat)} (nd:(c.map (·.1)).Nodup) (nd':(c'.map (·.1)).Nodup):∃ r,EqR (cvD c) (cvD c') r/\(r=true↔SmL c c'):=by
 by_cases hl:c.length=c'.length
 ·obtain⟨r,h,e⟩:=hitd nd' c
  refine⟨r,.inr ⟨by rw [kvD_len,kvD_len,hl],h⟩,?_⟩
  rw [e]
  exact⟨fun z=>⟨z,sub_eq nd nd' hl z⟩,fun z=>z.1⟩
 ·refine⟨false,.inl ⟨by rw [kvD_len,kvD_len]; exact hl,rfl⟩,⟨fun z=>(nomatch z),fun z=>?_⟩⟩
  have a:=keys_len nd z.1
  have b:=keys_len nd' z.2
  omega
def cvN (ns:List (List Int×Int)):List (List Int×Rat):=ns.map fun p=>(p.1,(p.2:Rat))
theorem nm_cv {ns:List (List Int×Int)}:nmD ns=cvD (cvN ns):=by
 show _=List.map _ (List.map _ ns)
 rw [List.map_map]
 rfl
theorem cvN_keys {ns:List (List Int×Int)}:(cvN ns).map (·.1)=ns.map (·.1):=by
 unfold cvN
 rw [List.map_map]
 rfl
theorem cvN_mem {ns:List (List Int×Int)} {k:List Int} {n:Int} (h:(k,n)∈ns):(k,(n:Rat))∈cvN ns:=List.mem_map.mpr ⟨_,h,rfl⟩
theorem cvN_sub {ns ns':List (List Int×Int)} (h:∀ p∈ns,p∈ns'):∀ p∈cvN ns,p∈cvN ns':=fun p hp=>by
 obtain⟨q,hq,rfl⟩:=List.mem_map.mp hp
 exact List.mem_map.mpr ⟨q,h q hq,rfl⟩
def Prp (φ ψ:List Int->Rat):Prop:=∃ s:Rat,s≠0/\∀ k,ψ k=s*φ k
theorem Prp.symm {φ ψ:List Int->Rat} (h:Prp φ ψ):Prp ψ φ:=by
 obtain⟨s,s0,e⟩:=h
 refine⟨s⁻¹,fun z=>s0 ?_,fun k=>?_⟩
 ·have:=Rat.mul_inv_cancel s s0
  rw [z] at this
  grind
 ·rw [e k,<- Rat.mul_assoc,Rat.inv_mul_cancel s s0,Rat.one_mul]
theorem prp_mem {c c':List (List Int×Rat)} {s:Rat} (nd:(c.map (·.1)).Nodup) (nd':(c'.map (·.1)).Nodup) (n0:∀ p∈c,p.2≠0) (s0:s≠0) (e:∀ k,gR c' k=s*gR c k):∀ p∈c,(p.1,s*p.2)∈c':=fun p hp=>by
 have e1:gR c p.1=p.2:=gA_mem nd hp
 have e2:gR c' p.1=s*p.2:=by rw [e,e1]
 rcases key_or (z:=(0:Rat)) p.1 nd' with q | q
 ·have e3:gR c' p.1=0:=gA_none q
  rw [e2] at e3
  rcases Rat.mul_eq_zero.mp e3 with y | y
  ·exact absurd y s0
  ·exact absurd y (n0 p hp)
 ·rw [<- e2]
  exact q
theorem nrm_sub {c c':List (List Int×Rat)} {ns ns':List (List Int×Int)} (h:Nrm c ns) (h':Nrm c' ns') (nd:(c.map (·.1)).Nodup) (nd':(c'.map (·.1)).Nodup) (two:∀ p∈c,∃ i j,p.1=[i,j]) (two':∀ p∈c',∃ i j,p.1=[i,j]) (n0:∀ p∈c,p.2≠0) (n0':∀ p∈c',p.2≠0) (hp:Prp (gR c) (gR c')):∀ p∈ns',p∈ns:=by
 obtain⟨s,s0,e⟩:=hp
 obtain⟨t,t0,e'⟩:Prp (gR c') (gR c):=Prp.symm ⟨s,s0,e⟩
 refine nrm_uniq h h' s0 two two' (prp_mem nd nd' n0 s0 e) (fun p hp=>⟨t*p.2,prp_mem nd' nd n0' t0 e' p hp,?_⟩) nd nd'
 have a1:gR c' p.1=p.2:=gA_mem nd' hp
 have a2:=e p.1
 rw [e' p.1,a1] at a2
 exact a2
theorem nrm_prp {c c':List (List Int×Rat)} {ns ns':List (List Int×Int)} (h:Nrm c ns) (h':Nrm c' ns') (nd:(c.map (·.1)).Nodup) (nd':(c'.map (·.1)).Nodup) (two:∀ p∈c,∃ i j,p.1=[i,j]) (two':∀ p∈c',∃ i j,p.1=[i,j]) (n0:∀ p∈c,p.2≠0) (n0':∀ p∈c',p.2≠0):SmL (cvN ns) (cvN ns')↔Prp (gR c) (gR c'):=by
 refine⟨fun ⟨m1,m2⟩=>?_,fun hp=>⟨cvN_sub (nrm_sub h' h nd' nd two' two n0' n0 hp.symm),cvN_sub (nrm_sub h h' nd nd' two two' n0 n0' hp)⟩⟩
 obtain⟨t,t0,f1,f2⟩:=h.sc
 obtain⟨t',t0',f1',f2'⟩:=h'.sc
 refine⟨t / t',fun z=>?_,fun k=>?_⟩
 ·rw [Rat.div_def] at z
  rcases Rat.mul_eq_zero.mp z with y | y
  ·exact t0 y
  ·have:=Rat.mul_inv_cancel t' t0'
   rw [y] at this
   grind
 rcases key_or (z:=(0:Rat)) k nd with q | q
 ·rw [show gR c k=0 from gA_none q,Rat.mul_zero]
  rcases key_or (z:=(0:Rat)) k nd' with q' | q'
  ·exact gA_none q'
  ·exfalso
   obtain⟨n,mn,_⟩:=f2' _ q'
   obtain⟨x,hx,ex⟩:=List.mem_map.mp (m2 _ (cvN_mem mn))
   have k1:x.1=k:=congrArg Prod.fst ex
   refine q ?_
   rw [<- h.keys,<- k1]
   exact List.mem_map.mpr ⟨x,hx,rfl⟩
 ·obtain⟨n,mn,en⟩:=f2 _ q
  obtain⟨x,hx,ex⟩:=List.mem_map.mp (m1 _ (cvN_mem mn))
  have k1:x.1=k:=congrArg Prod.fst ex
  have k2:(x.2:Rat)=(n:Rat):=congrArg Prod.snd ex
  obtain⟨q',mq',eq'⟩:=f1' x hx
  have e1:gR c' x.1=q':=gA_mem nd' mq'
  rw [<- k1,e1]
  have en:(n:Rat)=t*gR c k:=en
  rw [k2,en,<- k1] at eq'
  rw [Rat.div_def]
  have:=Rat.mul_inv_cancel t' t0'
  grind
set_option maxHeartbeats 4000000
def dg:List Int->Int
 | [i,j]=>i+j
 | _=>0
def Deg (c:List (List Int×Rat)) (m:Int):Prop:=(∃ p∈c,dg p.1=m)/\∀ p∈c,dg p.1<=m
theorem Deg.uniq {c:List (List Int×Rat)} {m n:Int} (h:Deg c m) (h':Deg c n):m=n:=by
 obtain⟨⟨p,hp,e⟩,h2⟩:=h
 obtain⟨⟨p',hp',e'⟩,h2'⟩:=h'
 have:=h2 p' hp'
 have:=h2' p hp
 omega
def Small (c:List (List Int×Rat)):Prop:=∀ p∈c,∃ i j:Int,p.1=[i,j]/\0<=i/\0<=j/\i<=20/\j<=20
theorem degloop {S:DH} {p f:Addr} {c:List (List Int×Rat)} {e1:Nat} {k:DK} (hp:S p=none) (hf:S f=some (dTo (cvD c) e1)) (sm:Small c) (kk:∀ S2,Ext S S2->S2 p=some (.lst ((c.map fun x=>dg x.1).map D.int))->k (.ref p) S2):
  ∀ (rest don:List (List Int×Rat)) (l0:Option D) (S1:DH),c=don++rest->Ext S S1->S1 p=some (.lst ((don.map fun x=>dg x.1).map D.int))->c.length<=100->
   dCLoop (fun S=>S f=some (dTo (cvD c) e1)) p (dgName 0) (bdAll (dOp dAdd (dOp dIxE (dVar 0) (dC (D.int 0))) (dOp dIxE (dVar 0) (dC (D.int 1))))) k (rest.map fun x=>keyD x.1) ((don.map fun x=>dg x.1).map D.int) [l0] S1
 | [],don,l0,S1,ec,x1,h1,_=>by
  rw [List.append_nil] at ec
  subst ec
  exact⟨x1 _ _ hf,kk S1 x1 h1⟩
 | q::rest,don,l0,S1,ec,x1,h1,hl=>by
  have f1:=x1 _ _ hf
  have hd:don.length < 100:=by have:=congrArg List.length ec; rw [List.length_append,List.length_cons] at this; omega
  have ec':c=(don++[q])++rest:=by rw [ec]; simp
  obtain⟨i,j,e,_⟩:=sm q (by rw [ec]; simp)
  have ea:(don.map fun x=>dg x.1).map D.int++[D.int (i+j)]=((don++[q]).map fun x=>dg x.1).map D.int:=by simp [dg,e]
  rw [List.map_cons,e]
  refine⟨f1,h1,by rw [List.length_map,List.length_map]; exact lim (by omega),?_⟩
  show dCLoop _ _ _ _ _ _ ((don.map fun x=>dg x.1).map D.int++[D.int (i+j)]) _ (put S1 p (.lst ((don.map fun x=>dg x.1).map D.int++[D.int (i+j)])))
  rw [ea]
  exact degloop hp hf sm kk rest (don++[q]) _ _ ec' (x1.put hp) put_same hl
theorem deg_of {c:List (List Int×Rat)} {m:Int} (h1:m∈c.map fun x=>dg x.1) (h2:∀ x∈c.map fun x=>dg x.1,x<=m):Deg c m:=by
 obtain⟨p,hp,e⟩:=List.mem_map.mp h1
 exact⟨⟨p,hp,e⟩,fun q hq=>h2 _ (List.mem_map.mpr ⟨q,hq,rfl⟩)⟩
theorem outK {c:List (List Int×Rat)}:outD DIt.k (cvD c)=c.map fun x=>keyD x.1:=by show List.map _ (List.map _ c)=_; rw [List.map_map]; rfl
theorem Cv.small {n m:Nat} {b:Int} {c:List (List Int×Rat)} (h:Cv n m b c) (hb:b<=20):Small c:=fun p hp=>by
 obtain⟨i,j,e,a1,a2,a3,a4⟩:=h.sm p hp
 exact⟨i,j,e,a1,a2,by omega,by omega⟩
def F_degree_of:DSp:=fun ds S k=>∃ (a:Addr) (c:List (List Int×Rat)) (ep:Nat),ds=[.ref a]/\S a=some (dTo (cvD c) ep)/\c.length<=100/\Small c/\(c=[]->∀ S',Ext S S'->k .non S')/\∀ S' m,Ext S S'->Deg c m->k (.int m) S'
theorem sc_degree_of:FnScope ["curve"] ["curve"] (defScope s_degree_of):=⟨rfl,rfl,rfl,by decide +kernel,rfl,by decide +kernel,by decide +kernel⟩
theorem ok_degree_of {P:Program} {w:World} {K:Fg} {mg:Str->Option Value} {base:Heap} {f:Addr} {fd:FuncData} (Fn:Fun K "degree_of" "degree_of" s_degree_of f fd) (z_max:mg "max"=none):
  FnOk P w K mg base CX0 1 f fd ["curve"] (spU K F_degree_of):=by
 refine Fn.okJ sc_degree_of (fun ds S k h=>?_) (fun cdv A outer s H E hr=>⟨_,(ds_onej (dst_retj (d_maxNj rfl z_max bt_max (da_consj (d_compIj rfl (compSc (N:=["key"]) (cap:=[none]) rfl rfl rfl rfl trivial rfl rfl trivial) (i_keysj (d_varj 0)) (fun _ _ _ _=>(dg_namej (i:=0) (show List.Nodup (["key"]:List Str) from by decide +kernel))) (fun _ _ _ _=>(d_opj o_add (d_ixj x_ixE (d_varj 0) d_intj (fun _ _=>rfl)) (d_ixj x_ixE (d_varj 0) d_intj (fun _ _=>rfl))))) da_nilj) d_nonj))),fun ds S k h=>?_⟩)
 ·obtain⟨_,_,_,rfl,_⟩:=h
  rfl
 ·obtain⟨a,c,ep,rfl,ha,hl,sm,w0,w⟩:=h
  refine⟨_,_,ha,fun p hp=>?_⟩
  rw [outK]
  refine degloop (S:=S) hp ha sm (fun S2 x2 h2=>⟨_,h2,fun e=>w0 (List.map_eq_nil_iff.mp e) S2 x2,fun m h1 h2=>w S2 m x2 (deg_of h1 h2)⟩) c [] none _ rfl (Ext.new hp) put_same hl
def F_is_whole:DSp:=fun ds S k=>match ds with
 | [.int _]=>k (.bl true) S
 | _=>False
theorem sc_is_whole:FnScope ["thing"] ["thing"] (defScope s_is_whole):=⟨rfl,rfl,rfl,by decide +kernel,rfl,by decide +kernel,by decide +kernel⟩
theorem ok_is_whole {P:Program} {w:World} {K:Fg} {mg:Str->Option Value} {base:Heap} {f:Addr} {fd:FuncData} (Fn:Fun K "is_whole" "is_whole" s_is_whole f fd) (z_isinstance:mg "isinstance"=none) (z_bool:mg "bool"=none) (z_int:mg "int"=none):
  FnOk P w K mg base CX0 1 f fd ["thing"] (spU K F_is_whole):=by
 refine Fn.okJ sc_is_whole (fun ds S k h=>?_) (fun cdv A outer s H E hr=>⟨_,(ds_onej (dst_retj (d_andj (d_callBj b_isiX rfl z_isinstance bt_isinstance (da_consj (d_varj 0) (da_consj (d_tyj (n:=.int) rfl z_int bt_int) da_nilj))) (d_onej (d_notj (d_callBj b_isiX rfl z_isinstance bt_isinstance (da_consj (d_varj 0) (da_consj (d_tyj (n:=.bool) rfl z_bool bt_bool) da_nilj)))))))),fun ds S k h=>?_⟩)
 ·unfold F_is_whole at h
  split at h
  ·rfl
  ·exact h.elim
 ·unfold F_is_whole at h
  split at h
  ·exact⟨_,rfl,_,rfl,h⟩
  ·exact h.elim
def F_is_fraction:DSp:=fun ds S k=>∃ q:Rat,ds=[fr q]/\k (.bl true) S
theorem sc_is_fraction:FnScope ["thing"] ["thing"] (defScope s_is_fraction):=⟨rfl,rfl,rfl,by decide +kernel,rfl,by decide +kernel,by decide +kernel⟩
theorem ok_is_fraction {P:Program} {w:World} {K:Fg} {mg:Str->Option Value} {base:Heap} {f:Addr} {fd:FuncData} (Fn:Fun K "is_fraction" "is_fraction" s_is_fraction f fd) (c_is_whole:Own P w K mg base "is_whole" 1 F_is_whole) (c_common_divisor:Own P w K mg base "common_divisor" 1 F_common_divisor) (z_len:mg "len"=none) (z_isinstance:mg "isinstance"=none) (z_tuple:mg "tuple"=none):
  FnOk P w K mg base CX0 2 f fd ["thing"] (spU K F_is_fraction):=by
 refine Fn.okJ sc_is_fraction (fun ds S k h=>?_) (fun cdv A outer s H E hr=>⟨_,(ds_consj (dst_ifj (WJ.pt (dw_orj (dt_notj (dt_valj (d_callBj b_isiX rfl z_isinstance bt_isinstance (da_consj (d_varj 0) (da_consj (d_tyj (n:=.tup) rfl z_tuple bt_tuple) da_nilj))))) (dw_or1j (dt_cmpj o_ne (d_callBj b_lenE rfl z_len bt_len (da_consj (d_varj 0) da_nilj)) d_intj (nomark _))))) (ds_onej (dst_retj d_blj)) ds_nilj) (ds_consj (dst_ifj (WJ.pt (dw_orj (dt_notj (dt_valj (d_callj c_is_whole (hr.mono (by decide)) rfl (da_consj (d_ixj x_ixE (d_varj 0) d_intj (fun _ _=>rfl)) da_nilj)))) (dw_or1j (dt_notj (dt_valj (d_callj c_is_whole (hr.mono (by decide)) rfl (da_consj (d_ixj x_ixE (d_varj 0) d_intj (fun _ _=>rfl)) da_nilj))))))) (ds_onej (dst_retj d_blj)) ds_nilj) (ds_onej (dst_retj (d_andj (d_cmpj o_ge (d_ixj x_ixE (d_varj 0) d_intj (fun _ _=>rfl)) d_intj (nomark _)) (d_onej (d_cmpj o_eq (d_callj c_common_divisor (hr.mono (by decide)) rfl (da_consj (d_ixj x_ixE (d_varj 0) d_intj (fun _ _=>rfl)) (da_consj (d_ixj x_ixE (d_varj 0) d_intj (fun _ _=>rfl)) da_nilj))) d_intj (nomark _)))))))),fun ds S k h=>?_⟩)
 ·obtain⟨_,rfl,_⟩:=h
  rfl
 ·obtain⟨q,rfl,w⟩:=h
  have hd:=q.den_nz
  refine⟨_,rfl,ite_dec (fun _=>?_) (fun z=>absurd (show (1:Int)<=(q.den:Int) by omega) z)⟩
  have e:decide ((((Int.gcd q.num (q.den:Int)):Nat):Int)=1)=true:=by rw [gcd_red]; rfl
  rw [<- e] at w
  exact w
theorem sz_half:Sz 3 (1 / 2:Rat):=Sz.div (m:=1) (n:=2) ⟨by decide,by decide⟩ ⟨by decide,by decide⟩ (by decide)
theorem dl_r {x y a b t:Rat} (h:a*a+b*b≠0):-((x+a*(t / (a*a+b*b+(a*a+b*b))))*a+(y+b*(t / (a*a+b*b+(a*a+b*b))))*b)=0 - (a*x+b*y+1 / 2*t):=by
 have h2:a*a+b*b+(a*a+b*b)≠0:=by grind
 have q:(a*a+b*b+(a*a+b*b))*(t / (a*a+b*b+(a*a+b*b)))=t:=by
  rw [Rat.div_def,Rat.mul_comm t,<- Rat.mul_assoc,Rat.mul_inv_cancel _ h2,Rat.one_mul]
 generalize t / (a*a+b*b+(a*a+b*b))=r at q
 grind
abbrev dlL (x y z v t:Rat):List (List Int×Rat):=ln3 (z - x) (v - y) (0 - ((z - x)*x+(v - y)*y+1 / 2*t))
def F_drawn_line:DSp:=fun ds S k=>∃ x y z v t:Rat,ds=[PP x y,PP z v,fr t]/\Sz 4 x/\Sz 4 y/\Sz 4 z/\Sz 4 v/\Sz 60 t/\(z - x)*(z - x)+(v - y)*(v - y)≠0/\∀ S' p ep' ns,Ext S S'->Nrm (nz (dlL x y z v t)) ns->S' p=some (dTo (nmD ns) ep')->k (.ref p) S'
theorem sc_drawn_line:FnScope ["middle","about","power","start","way","square","nearest"] ["middle","about","power"] (defScope s_drawn_line):=⟨rfl,rfl,rfl,by decide +kernel,rfl,by decide +kernel,by decide +kernel⟩
theorem ok_drawn_line {P:Program} {w:World} {K:Fg} {mg:Str->Option Value} {base:Heap} {f:Addr} {fd:FuncData} (Fn:Fun K "drawn_line" "drawn_line" s_drawn_line f fd) (c_place_of:Own P w K mg base "place_of" 1 F_place_of) (c_plain_way:Own P w K mg base "plain_way" 4 F_plain_way) (c_square_of_unlike:Own P w K mg base "square_of_unlike" 5 F_square_of_unlike) (c_moved:Own P w K mg base "moved" 4 F_moved) (c_over:Own P w K mg base "over" 3 F_over) (c_plus:Own P w K mg base "plus" 3 F_plus) (c_normal:Own P w K mg base "normal" 4 F_normal) (c_line_from:Own P w K mg base "line_from" 5 F_line_from):
  FnOk P w K mg base CX0 6 f fd ["middle","about","power"] (spU K F_drawn_line):=by
 refine Fn.okJ sc_drawn_line (fun ds S k h=>?_) (fun cdv A outer s H E hr=>⟨_,(ds_consj (dst_setj (i:=3) sc_drawn_line.nd (d_callj c_place_of (hr.mono (by decide)) rfl (da_consj (d_varj 0) da_nilj))) (ds_consj (dst_setj (i:=4) sc_drawn_line.nd (d_callj c_plain_way (hr.mono (by decide)) rfl (da_consj (d_varj 3) (da_consj (d_callj c_place_of (hr.mono (by decide)) rfl (da_consj (d_varj 1) da_nilj)) da_nilj)))) (ds_consj (dst_setj (i:=5) sc_drawn_line.nd (d_callj c_square_of_unlike (hr.mono (by decide)) rfl (da_consj (d_varj 4) da_nilj))) (ds_consj (dst_setj (i:=6) sc_drawn_line.nd (d_callj c_moved (hr.mono (by decide)) rfl (da_consj (d_varj 3) (da_consj (d_varj 4) (da_consj (d_callj c_over (hr.mono (by decide)) rfl (da_consj (d_varj 2) (da_consj (d_callj c_plus (hr.mono (by decide)) rfl (da_consj (d_varj 5) (da_consj (d_varj 5) da_nilj))) da_nilj))) da_nilj))))) (ds_onej (dst_retj (d_callj c_normal (hr.mono (by decide)) rfl (da_consj (d_callj c_line_from (hr.mono (by decide)) rfl (da_consj (d_varj 6) (da_consj (d_varj 4) da_nilj))) da_nilj)))))))),fun ds S k h=>?_⟩)
 ·obtain⟨_,_,_,_,_,rfl,_⟩:=h
  rfl
 ·obtain⟨x,y,z,v,t,rfl,hx,hy,hz,hv,ht,h0,w⟩:=h
  have sa:=hz.sub hx
  have sb:=hv.sub hy
  have s2:=(sa.mul sa).add (sb.mul sb)
  have h2:(z - x)*(z - x)+(v - y)*(v - y)+((z - x)*(z - x)+(v - y)*(v - y))≠0:=by grind
  have s3:=ht.div (s2.add s2) h2
  have s1:=sz_half
  have s00:Sz 1 (0:Rat):=⟨by decide,by decide⟩
  have sr:=s00.sub ((((sa.mul hx).add (sb.mul hy))).add (s1.mul ht))
  refine⟨x,y,rfl,z,v,rfl,x,y,z,v,rfl,hx.mono (by decide),hy.mono (by decide),hz.mono (by decide),hv.mono (by decide),_,_,rfl,sa.mono (by decide),sb.mono (by decide),h0,_,_,rfl,s2.mono (by decide),s2.mono (by decide),t,_,rfl,h2,ht.mono (by decide),(s2.add s2).mono (by decide),x,y,_,_,_,rfl,hx.mono (by decide),hy.mono (by decide),sa.mono (by decide),sb.mono (by decide),s3.mono (by decide),_,_,_,_,rfl,(hx.add (sa.mul s3)).mono (by decide),(hy.add (sb.mul s3)).mono (by decide),sa.mono (by decide),sb.mono (by decide),fun S1 p1 e1 x1 h1=>?_⟩
  rw [dl_r h0] at h1
  exact⟨p1,_,e1,rfl,h1,nd_filter ln3_nd,Nat.le_trans nz_len (by show 3<=10; decide),ln3_ne h0,fun p hp=>two3 p (nz_mem.mp hp).1,fun p hp=>⟨(nz_mem.mp hp).2,all3 (P:=Sz 100) (sa.mono (by decide)) (sb.mono (by decide)) (sr.mono (by decide)) p (nz_mem.mp hp).1⟩,fun S2 p2 e2 ns x2 hn h2=>w S2 p2 e2 ns (x1.trans x2) hn h2⟩
def F_is_number:DSp:=fun ds S k=>∃ a:Rat,ds=[.tup [fr a,fr 0]]/\k (.bl true) S
theorem sc_is_number:FnScope ["thing"] ["thing"] (defScope s_is_number):=⟨rfl,rfl,rfl,by decide +kernel,rfl,by decide +kernel,by decide +kernel⟩
theorem ok_is_number {P:Program} {w:World} {K:Fg} {mg:Str->Option Value} {base:Heap} {f:Addr} {fd:FuncData} (Fn:Fun K "is_number" "is_number" s_is_number f fd) (c_is_fraction:Own P w K mg base "is_fraction" 2 F_is_fraction) (c_root_in:Own P w K mg base "root_in" 3 F_root_in) (c_without_sign:Own P w K mg base "without_sign" 1 F_without_sign) (c_is_plain:Own P w K mg base "is_plain" 1 F_is_plain) (z_len:mg "len"=none) (z_isinstance:mg "isinstance"=none) (z_tuple:mg "tuple"=none):
  FnOk P w K mg base CX0 4 f fd ["thing"] (spU K F_is_number):=by
 refine Fn.okJ sc_is_number (fun ds S k h=>?_) (fun cdv A outer s H E hr=>⟨_,(ds_consj (dst_ifj (WJ.pt (dw_orj (dt_notj (dt_valj (d_callBj b_isiX rfl z_isinstance bt_isinstance (da_consj (d_varj 0) (da_consj (d_tyj (n:=.tup) rfl z_tuple bt_tuple) da_nilj))))) (dw_or1j (dt_cmpj o_ne (d_callBj b_lenE rfl z_len bt_len (da_consj (d_varj 0) da_nilj)) d_intj (nomark _))))) (ds_onej (dst_retj d_blj)) ds_nilj) (ds_consj (dst_ifj (WJ.pt (dw_orj (dt_notj (dt_valj (d_callj c_is_fraction (hr.mono (by decide)) rfl (da_consj (d_ixj x_ixE (d_varj 0) d_intj (fun _ _=>rfl)) da_nilj)))) (dw_or1j (dt_notj (dt_valj (d_callj c_is_fraction (hr.mono (by decide)) rfl (da_consj (d_ixj x_ixE (d_varj 0) d_intj (fun _ _=>rfl)) da_nilj))))))) (ds_onej (dst_retj d_blj)) ds_nilj) (ds_onej (dst_retj (d_orj (d_callj c_is_plain (hr.mono (by decide)) rfl (da_consj (d_varj 0) da_nilj)) (d_onej (d_cmpj o_is (d_callj c_root_in (hr.mono (by decide)) rfl (da_consj (d_callj c_without_sign (hr.mono (by decide)) rfl (da_consj (d_ixj x_ixE (d_varj 0) d_intj (fun _ _=>rfl)) da_nilj)) da_nilj)) d_nonj (nomark _)))))))),fun ds S k h=>?_⟩)
 ·obtain⟨_,rfl,_⟩:=h
  rfl
 ·obtain⟨a,rfl,w⟩:=h
  exact⟨_,rfl,a,rfl,0,rfl,fr a,0,rfl,ite_dec (fun _=>w) (fun e=>absurd rfl e)⟩
theorem notsq {m n:Nat} (h1:m*m < n) (h2:n < (m+1)*(m+1)) (k:Nat):k*k≠n:=fun e=>by
 subst e
 rcases Nat.lt_or_ge m k with h | h
 ·have:=Nat.mul_le_mul (show m+1<=k from h) (show m+1<=k from h)
  omega
 ·have:=Nat.mul_le_mul h h
  omega
theorem no_num {q:Rat} {m n:Nat} (h:q.num=(n:Int)) (h1:m*m < n) (h2:n < (m+1)*(m+1)):NoSq q:=fun r e=>by
 have e1:=congrArg Rat.num e
 rw [sq_num,h] at e1
 have:=congrArg Int.natAbs e1
 rw [Int.natAbs_mul] at this
 exact notsq h1 h2 _ this
theorem no_num2:NoSq 2:=no_num (q:=2) (m:=1) (n:=2) rfl (by decide) (by decide)
theorem pair_as {u p q:Rat}:[D.tup [fr p,fr 0],D.tup [fr q,fr 0]]=[N u p 0,N u q 0]:=by rw [<- plain_as (u:=u),<- plain_as (u:=u)]
theorem two_fd:Fd 2:=⟨by decide,no_num2,(show Sz 2 2 from⟨by decide,by decide⟩).mono (by decide)⟩
def F_can_reach:DSp:=fun ds S k=>∃ s o i:Rat,ds=[fr s,fr o,fr i]/\0 < o/\0 < i/\Sz 60 s/\Sz 60 o/\Sz 60 i/\k (.bl (decide (Reach s o i))) S
theorem sc_can_reach:FnScope ["apart","outer","inner","square"] ["apart","outer","inner"] (defScope s_can_reach):=⟨rfl,rfl,rfl,by decide +kernel,rfl,by decide +kernel,by decide +kernel⟩
theorem ok_can_reach {P:Program} {w:World} {K:Fg} {mg:Str->Option Value} {base:Heap} {f:Addr} {fd:FuncData} (Fn:Fun K "can_reach" "can_reach" s_can_reach f fd) (c_made:Own P w K mg base "made" 4 F_made) (c_negative:Own P w K mg base "negative" 1 F_negative) (c_times:Own P w K mg base "times" 3 F_times) (c_plus:Own P w K mg base "plus" 3 F_plus) (c_root_less:Own P w K mg base "root_less" 7 F_root_less) (g_NOUGHT:GTup K mg "NOUGHT" [0,1]):
  FnOk P w K mg base CX0 8 f fd ["apart","outer","inner"] (spU K F_can_reach):=by
 refine Fn.okJ sc_can_reach (fun ds S k h=>?_) (fun cdv A outer s H E hr=>⟨_,(ds_consj (dst_setj (i:=3) sc_can_reach.nd (d_callj c_made (hr.mono (by decide)) rfl (da_consj (d_callj c_plus (hr.mono (by decide)) rfl (da_consj (d_varj 1) (da_consj (d_varj 2) da_nilj))) (da_consj (d_callj c_negative (hr.mono (by decide)) rfl (da_consj (d_callj c_times (hr.mono (by decide)) rfl (da_consj (d_tupj (da_consj d_intj (da_consj d_intj da_nilj))) (da_consj (d_callj c_times (hr.mono (by decide)) rfl (da_consj (d_varj 1) (da_consj (d_varj 2) da_nilj))) da_nilj))) da_nilj)) da_nilj)))) (ds_onej (dst_retj (d_callj c_root_less (hr.mono (by decide)) rfl (da_consj (d_varj 3) (da_consj (d_tupj (da_consj (d_callj c_times (hr.mono (by decide)) rfl (da_consj (d_tupj (da_consj d_intj (da_consj d_intj da_nilj))) (da_consj (d_varj 0) da_nilj))) (da_consj (d_gtup g_NOUGHT rfl) da_nilj))) da_nilj)))))),fun ds S k h=>?_⟩)
 ·obtain⟨_,_,_,rfl,_⟩:=h
  rfl
 ·obtain⟨s,o,i,rfl,o0,i0,hs,ho,hi,w⟩:=h
  have s4:Sz 3 (4:Rat):=⟨by decide,by decide⟩
  have p0:=Rat.mul_pos o0 i0
  have hab:ab (-(4*(o*i)))=4*(o*i):=by unfold ab; rw [if_pos (by grind)]; grind
  have sm:=s4.mul (ho.mul hi)
  have ss4:=s4.mul hs
  refine⟨o,i,rfl,ho.mono (by decide),hi.mono (by decide),few,o,i,rfl,ho.mono (by decide),hi.mono (by decide),4,o*i,rfl,s4.mono (by decide),(ho.mul hi).mono (by decide),_,rfl,_,_,rfl,(ho.add hi).mono (by decide),sm.neg.mono (by decide),?_⟩
  by_cases hr:∃ r,0<=r/\r*r=4*(o*i)
  ·obtain⟨r,r0,rr⟩:=hr
   have sr:Sz 124 (sg r (-(4*(o*i)))):=((sm.root rr).sg).mono (by decide)
   rw [mkD_root r0 (by rw [hab]; exact rr)]
   refine⟨few,4,s,rfl,s4.mono (by decide),hs.mono (by decide),few,2,o+i+sg r (-(4*(o*i))),0,4*s,0,pair_as,two_fd,((ho.add hi).add sr).mono (by decide),ss4.mono (by decide),⟨by decide,by decide⟩,⟨by decide,by decide⟩,(((ho.add hi).add sr).sub ss4).mono (by decide),(show Sz 3 ((0:Rat) - 0) from Sz.sub (m:=1) (n:=1) ⟨by decide,by decide⟩ ⟨by decide,by decide⟩).mono (by decide),?_⟩
   rw [decide_eq_decide.mpr (reach_sq (s:=s) (u:=2) o0 i0 r0 rr)]
   exact w
  ·have no:NoSq (4*(o*i)):=fun r e=>by
    rcases(Rat.le_total:(0:Rat)<=r\/r<=0) with z | z
    ·exact hr ⟨r,z,e⟩
    ·exact hr ⟨-r,by grind,by grind⟩
   have s1:Sz 1 (-1:Rat):=⟨by decide,by decide⟩
   have e1:D.tup [fr (o+i),fr (-(4*(o*i)))]=N (4*(o*i)) (o+i) (-1):=by
    unfold N
    rw [show ss (-1)*(4*(o*i))=-(4*(o*i)) by unfold ss ab; rw [if_pos (by decide)]; grind]
   rw [mkD_no (by rw [hab]; exact no),e1]
   refine⟨few,4,s,rfl,s4.mono (by decide),hs.mono (by decide),few,4*(o*i),o+i,-1,4*s,0,congrArg (fun a=>[N (4*(o*i)) (o+i) (-1),a]) plain_as,⟨by grind,no,sm.mono (by decide)⟩,(ho.add hi).mono (by decide),ss4.mono (by decide),s1.mono (by decide),⟨by decide,by decide⟩,((ho.add hi).sub ss4).mono (by decide),(show Sz 3 ((-1:Rat) - 0) from s1.sub (n:=1) ⟨by decide,by decide⟩).mono (by decide),?_⟩
   rw [decide_eq_decide.mpr (reach_no (s:=s) o0 i0 no)]
   exact w
structure Lin (c:List (List Int×Rat)):Prop where
 cv:Cv 8 100 4 c
 n0:∀ p∈c,p.2≠0
 dg:Deg c 1
def Due (x y z v o i:Rat) (c:List (List Int×Rat)):Prop:=o≠i/\Prp (gR c) (gR (dlL x y z v (o - i)))/\Reach ((z - x)*(z - x)+(v - y)*(v - y)) o i
theorem Lin.ne {c:List (List Int×Rat)} (h:Lin c):c≠[]:=fun e=>by
 obtain⟨⟨p,hp,_⟩,_⟩:=h.dg
 rw [e] at hp
 cases hp
theorem due_prp {c:List (List Int×Rat)} {ns ns':List (List Int×Int)} {a b r:Rat} (hc:Lin c) (h:Nrm c ns) (h':Nrm (nz (ln3 a b r)) ns'):SmL (cvN ns') (cvN ns)↔Prp (gR c) (gR (ln3 a b r)):=by
 have e:∀ k,gR (nz (ln3 a b r)) k=gR (ln3 a b r) k:=gR_nz ln3_nd
 rw [nrm_prp h' h (nd_filter ln3_nd) hc.cv.nd (fun p hp=>two3 p (nz_mem.mp hp).1) hc.cv.two (fun p hp=>(nz_mem.mp hp).2) hc.n0]
 rw [show gR (nz (ln3 a b r))=gR (ln3 a b r) from funext e]
 exact⟨Prp.symm,Prp.symm⟩
def F_draws:DSp:=fun ds S k=>∃ (a:Addr) (c:List (List Int×Rat)) (ep:Nat) (x y z v o i:Rat),ds=[.ref a,PP x y,PP z v,fr o,fr i]/\S a=some (dTo (cvD c) ep)/\Lin c/\Sz 4 x/\Sz 4 y/\Sz 4 z/\Sz 4 v/\Sz 60 o/\Sz 60 i/\Sz 60 (o - i)/\0 < o/\0 < i/\(z - x)*(z - x)+(v - y)*(v - y)≠0/\∀ S' r,Ext S S'->(r=true↔Due x y z v o i c)->k (.bl r) S'
theorem sc_draws:FnScope ["line","middle","about","outer","inner","way"] ["line","middle","about","outer","inner"] (defScope s_draws):=⟨rfl,rfl,rfl,by decide +kernel,rfl,by decide +kernel,by decide +kernel⟩
theorem ok_draws {P:Program} {w:World} {K:Fg} {mg:Str->Option Value} {base:Heap} {f:Addr} {fd:FuncData} (Fn:Fun K "draws" "draws" s_draws f fd) (c_degree_of:Own P w K mg base "degree_of" 1 F_degree_of) (c_drawn_line:Own P w K mg base "drawn_line" 6 F_drawn_line) (c_minus:Own P w K mg base "minus" 3 F_minus) (c_normal:Own P w K mg base "normal" 4 F_normal) (c_plain_way:Own P w K mg base "plain_way" 4 F_plain_way) (c_place_of:Own P w K mg base "place_of" 1 F_place_of) (c_can_reach:Own P w K mg base "can_reach" 8 F_can_reach) (c_product_of_ways:Own P w K mg base "product_of_ways" 4 F_product_of_ways):
  FnOk P w K mg base CX0 9 f fd ["line","middle","about","outer","inner"] (spU K F_draws):=by
 refine Fn.okJ sc_draws (fun ds S k h=>?_) (fun cdv A outer s H E hr=>⟨_,(ds_consj (dst_ifj (WJ.pt (dw_orj (dt_cmpj (o_neA hr) (d_callj c_degree_of (hr.mono (by decide)) rfl (da_consj (d_varj 0) da_nilj)) d_intj (nomark _)) (dw_or1j (dt_cmpj (o_eqA hr) (d_varj 1) (d_varj 2) (nomark _))))) (ds_onej (dst_retj d_blj)) ds_nilj) (ds_consj (dst_ifj (WJ.pt (dw_orj (dt_cmpj (o_eqA hr) (d_varj 3) (d_varj 4) (nomark _)) (dw_orj (dt_cmpj o_le (d_ixj x_ixE (d_varj 3) d_intj (fun _ _=>rfl)) d_intj (nomark _)) (dw_or1j (dt_cmpj o_le (d_ixj x_ixE (d_varj 4) d_intj (fun _ _=>rfl)) d_intj (nomark _)))))) (ds_onej (dst_retj d_blj)) ds_nilj) (ds_consj (dst_ifj (dt_cmpj (o_neA hr) (d_callj c_drawn_line (hr.mono (by decide)) rfl (da_consj (d_varj 1) (da_consj (d_varj 2) (da_consj (d_callj c_minus (hr.mono (by decide)) rfl (da_consj (d_varj 3) (da_consj (d_varj 4) da_nilj))) da_nilj)))) (d_callj c_normal (hr.mono (by decide)) rfl (da_consj (d_varj 0) da_nilj)) (nomark _)) (ds_onej (dst_retj d_blj)) ds_nilj) (ds_consj (dst_setj (i:=5) sc_draws.nd (d_callj c_plain_way (hr.mono (by decide)) rfl (da_consj (d_callj c_place_of (hr.mono (by decide)) rfl (da_consj (d_varj 1) da_nilj)) (da_consj (d_callj c_place_of (hr.mono (by decide)) rfl (da_consj (d_varj 2) da_nilj)) da_nilj)))) (ds_onej (dst_retj (d_callj c_can_reach (hr.mono (by decide)) rfl (da_consj (d_callj c_product_of_ways (hr.mono (by decide)) rfl (da_consj (d_varj 5) (da_consj (d_varj 5) da_nilj))) (da_consj (d_varj 3) (da_consj (d_varj 4) da_nilj)))))))))),fun ds S k h=>?_⟩)
 ·obtain⟨_,_,_,_,_,_,_,_,_,rfl,_⟩:=h
  rfl
 ·obtain⟨a,c,ep,x,y,z,v,o,i,rfl,ha,hc,hx,hy,hz,hv,ho,hi,hoi,o0,i0,h0,w⟩:=h
  have sa:=hz.sub hx
  have sb:=hv.sub hy
  have s2:=(sa.mul sa).add (sb.mul sb)
  have ne0:=hc.ne
  have hl:=hc.cv.hl
  have o1:=(num_pos_iff o).mpr o0
  have i1:=(num_pos_iff i).mpr i0
  refine⟨a,c,ep,rfl,ha,by omega,hc.cv.small (by decide),fun e=>absurd e ne0,fun S1 m x1 hm=>?_⟩
  have em:=hm.uniq hc.dg
  subst em
  refine⟨true,rfl,iteF ⟨_,eq_PP,ite_dec (fun e=>absurd ?_ h0) (fun _=>?_)⟩⟩
  ·rw [e.1,e.2]; grind
  refine⟨_,eq_fr,ite_dec (fun e=>w S1 false x1 ⟨fun t=>(nomatch t),fun t=>absurd e t.1⟩) (fun ne=>ite_dec (fun t=>absurd t (by omega)) (fun _=>ite_dec (fun t=>absurd t (by omega)) (fun _=>?_)))⟩
  refine⟨o,i,rfl,ho.mono (by decide),hi.mono (by decide),x,y,z,v,o - i,rfl,hx,hy,hz,hv,hoi,h0,fun S2 p2 e2 ns2 x2 hn2 h2=>?_⟩
  refine⟨a,c,ep,rfl,x2 _ _ (x1 _ _ ha),hc.cv.nd,by omega,ne0,hc.cv.two,fun p hp=>⟨hc.n0 p hp,hc.cv.hz p hp⟩,fun S3 p3 e3 ns3 x3 hn3 h3=>?_⟩
  rw [nm_cv] at h2 h3
  obtain⟨r,hr,er⟩:=eqr (c:=cvN ns2) (c':=cvN ns3) (by rw [cvN_keys,hn2.keys]; exact nd_filter ln3_nd) (by rw [cvN_keys,hn3.keys]; exact hc.cv.nd)
  have er:=er.trans (due_prp hc hn3 hn2)
  have X3:=(x1.trans x2).trans x3
  refine .inl ⟨_,_,_,_,r,x3 _ _ h2,h3,hr,ite_nb (fun z=>w S3 false X3 ⟨fun t=>(nomatch t),fun t=>?_⟩) (fun z=>?_)⟩
  ·rw [er.mpr t.2.1] at z
   cases z
  refine⟨x,y,rfl,_,_,rfl,x,y,_,_,rfl,hx.mono (by decide),hy.mono (by decide),hz.mono (by decide),hv.mono (by decide),_,_,_,_,rfl,sa.mono (by decide),sb.mono (by decide),sa.mono (by decide),sb.mono (by decide),_,o,i,rfl,o0,i0,s2.mono (by decide),ho,hi,w S3 _ X3 ⟨fun t=>⟨ne,er.mp z,of_decide_eq_true t⟩,fun t=>decide_eq_true t.2.2⟩⟩
def hf:Rat:=⟨1,2,by decide,by decide⟩
theorem hf_eq:hf=1 / 2:=by
 have h:=Rat.num_divInt_den hf
 rw [<- h,Rat.divInt_eq_div]
 rfl
def F_line_cell:DSp:=fun ds S k=>∃ (a:Addr) (c:List (List Int×Rat)) (ep:Nat) (x y:Rat),ds=[.ref a,PP x y]/\S a=some (dTo (cvD c) ep)/\Cv 8 4 4 c/\Deg c 1/\Sz 4 x/\Sz 4 y/\gR c [1,0]*gR c [1,0]+gR c [0,1]*gR c [0,1]≠0/\gR c [1,0]*x+gR c [0,1]*y+gR c [0,0]≠0/\∀ S' m,Ext S S'->m=(gR c [1,0]*x+gR c [0,1]*y+gR c [0,0]) / (gR c [1,0]*gR c [1,0]+gR c [0,1]*gR c [0,1])->k (.tup [PP (x+gR c [1,0]*-m*hf) (y+gR c [0,1]*-m*hf),fr (((gR c [1,0]*-m)*(gR c [1,0]*-m)+(gR c [0,1]*-m)*(gR c [0,1]*-m))+((gR c [1,0]*-m)*(gR c [1,0]*-m)+(gR c [0,1]*-m)*(gR c [0,1]*-m))),fr ((gR c [1,0]*-m)*(gR c [1,0]*-m)+(gR c [0,1]*-m)*(gR c [0,1]*-m))]) S'
theorem sc_line_cell:FnScope ["line","middle","start","across","value","way","square"] ["line","middle"] (defScope s_line_cell):=⟨rfl,rfl,rfl,by decide +kernel,rfl,by decide +kernel,by decide +kernel⟩
theorem ok_line_cell {P:Program} {w:World} {K:Fg} {mg:Str->Option Value} {base:Heap} {f:Addr} {fd:FuncData} (Fn:Fun K "line_cell" "line_cell" s_line_cell f fd) (c_degree_of:Own P w K mg base "degree_of" 1 F_degree_of) (c_place_of:Own P w K mg base "place_of" 1 F_place_of) (c_plus:Own P w K mg base "plus" 3 F_plus) (c_product_of_ways:Own P w K mg base "product_of_ways" 4 F_product_of_ways) (c_moved:Own P w K mg base "moved" 4 F_moved) (c_negative:Own P w K mg base "negative" 1 F_negative) (c_over:Own P w K mg base "over" 3 F_over) (c_plain_point:Own P w K mg base "plain_point" 1 F_plain_point) (g_NOUGHT:GTup K mg "NOUGHT" [0,1]):
  FnOk P w K mg base CX0 5 f fd ["line","middle"] (spU K F_line_cell):=by
 refine Fn.okJ sc_line_cell (fun ds S k h=>?_) (fun cdv A outer s H E hr=>⟨_,(ds_consj (dst_ifj (dt_cmpj (o_neX hr) (d_callj c_degree_of (hr.mono (by decide)) rfl (da_consj (d_varj 0) da_nilj)) d_intj (nomark _)) (ds_onej dst_neverj) ds_nilj) (ds_consj (dst_setj (i:=2) sc_line_cell.nd (d_callj c_place_of (hr.mono (by decide)) rfl (da_consj (d_varj 1) da_nilj))) (ds_consj (dst_setj (i:=3) sc_line_cell.nd (d_tupj (da_consj (d_get2j hr (d_varj 0) (d_tupj (da_consj d_intj (da_consj d_intj da_nilj))) (d_gtup g_NOUGHT rfl)) (da_consj (d_get2j hr (d_varj 0) (d_tupj (da_consj d_intj (da_consj d_intj da_nilj))) (d_gtup g_NOUGHT rfl)) da_nilj)))) (ds_consj (dst_setj (i:=4) sc_line_cell.nd (d_callj c_plus (hr.mono (by decide)) rfl (da_consj (d_callj c_product_of_ways (hr.mono (by decide)) rfl (da_consj (d_varj 3) (da_consj (d_varj 2) da_nilj))) (da_consj (d_get2j hr (d_varj 0) (d_tupj (da_consj d_intj (da_consj d_intj da_nilj))) (d_gtup g_NOUGHT rfl)) da_nilj)))) (ds_consj (dst_ifj (dt_cmpj (o_eqX hr) (d_ixj x_ixE (d_varj 4) d_intj (fun _ _=>rfl)) d_intj (nomark _)) (ds_onej dst_neverj) ds_nilj) (ds_consj (dst_setj (i:=5) sc_line_cell.nd (d_callj c_moved (hr.mono (by decide)) rfl (da_consj (d_tupj (da_consj (d_gtup g_NOUGHT rfl) (da_consj (d_gtup g_NOUGHT rfl) da_nilj))) (da_consj (d_varj 3) (da_consj (d_callj c_negative (hr.mono (by decide)) rfl (da_consj (d_callj c_over (hr.mono (by decide)) rfl (da_consj (d_varj 4) (da_consj (d_callj c_product_of_ways (hr.mono (by decide)) rfl (da_consj (d_varj 3) (da_consj (d_varj 3) da_nilj))) da_nilj))) da_nilj)) da_nilj))))) (ds_consj (dst_setj (i:=6) sc_line_cell.nd (d_callj c_product_of_ways (hr.mono (by decide)) rfl (da_consj (d_varj 5) (da_consj (d_varj 5) da_nilj)))) (ds_onej (dst_retj (d_tupj (da_consj (d_callj c_plain_point (hr.mono (by decide)) rfl (da_consj (d_callj c_moved (hr.mono (by decide)) rfl (da_consj (d_varj 2) (da_consj (d_varj 5) (da_consj (d_tupj (da_consj d_intj (da_consj d_intj da_nilj))) da_nilj)))) da_nilj)) (da_consj (d_callj c_plus (hr.mono (by decide)) rfl (da_consj (d_varj 6) (da_consj (d_varj 6) da_nilj))) (da_consj (d_varj 6) da_nilj))))))))))))),fun ds S k h=>?_⟩)
 ·obtain⟨_,_,_,_,_,rfl,_⟩:=h
  rfl
 ·obtain⟨a,c,ep,x,y,rfl,ha,hc,hd,hx,hy,h0,v0,w⟩:=h
  have G:∀ k,(getT (cvD c) k).getD (.tup (List.map D.int [0,1]))=fr (gR c k):=fun k=>getT_gA (f:=fr) (z:=0)
  have ne0:c≠[]:=fun e=>by
   obtain⟨⟨p,hp,_⟩,_⟩:=hd
   rw [e] at hp
   cases hp
  have hl:=hc.hl
  have zc:=fun k=>hc.sz (by decide) k
  have sv:=(((zc [1,0]).mul hx).add ((zc [0,1]).mul hy)).add (zc [0,0])
  have sn:=((zc [1,0]).mul (zc [1,0])).add ((zc [0,1]).mul (zc [0,1]))
  have sm:=(sv.div sn h0).neg
  have sx:=(zc [1,0]).mul sm
  have sy:=(zc [0,1]).mul sm
  have sq:=(sx.mul sx).add (sy.mul sy)
  have z1:Sz 1 (0:Rat):=⟨by decide,by decide⟩
  have sh:Sz 2 hf:=⟨by decide,by decide⟩
  refine⟨a,c,ep,rfl,ha,by omega,hc.small (by decide),fun e=>absurd e ne0,fun S1 m x1 hm=>?_⟩
  have em:=hm.uniq hd
  subst em
  have ha1:=x1 _ _ ha
  refine⟨true,rfl,iteF ⟨x,y,rfl,⟨_,_,ha1⟩,few,_,_,[1,0],ha1,rfl,⟨_,_,ha1⟩,few,_,_,[0,1],ha1,rfl,few,?_⟩⟩
  rw [G,G]
  refine⟨_,_,_,_,rfl,(zc _).mono (by decide),(zc _).mono (by decide),hx.mono (by decide),hy.mono (by decide),⟨_,_,ha1⟩,few,_,_,[0,0],ha1,rfl,?_⟩
  rw [G]
  refine⟨_,_,rfl,(((zc [1,0]).mul hx).add ((zc [0,1]).mul hy)).mono (by decide),(zc _).mono (by decide),_,eq_int,ite_b (fun t=>absurd (Rat.num_eq_zero.mp (by simpa using t)) v0) (fun _=>?_)⟩
  refine⟨few,_,_,_,_,rfl,(zc _).mono (by decide),(zc _).mono (by decide),(zc _).mono (by decide),(zc _).mono (by decide),_,_,rfl,h0,sv.mono (by decide),sn.mono (by decide),_,rfl,0,0,_,_,_,rfl,z1.mono (by decide),z1.mono (by decide),(zc _).mono (by decide),(zc _).mono (by decide),sm.mono (by decide),?_⟩
  rw [Rat.zero_add,Rat.zero_add]
  refine⟨_,_,_,_,rfl,sx.mono (by decide),sy.mono (by decide),sx.mono (by decide),sy.mono (by decide),few,x,y,_,_,hf,rfl,hx.mono (by decide),hy.mono (by decide),sx.mono (by decide),sy.mono (by decide),sh.mono (by decide),_,_,rfl,_,_,rfl,sq.mono (by decide),sq.mono (by decide),few,?_⟩
  exact w S1 _ x1 rfl
def FX_line_cell (cNoCurve:Addr):DSpX:=fun ds S _ e=>∃ (a:Addr) (c:List (List Int×Rat)) (ep:Nat) (x y:Rat),ds=[.ref a,PP x y]/\S a=some (dTo (cvD c) ep)/\Cv 8 4 4 c/\Sz 4 x/\Sz 4 y/\(¬ Deg c 1\/gR c [1,0]*x+gR c [0,1]*y+gR c [0,0]=0)/\∀ S',Ext S S'->e cNoCurve S'
theorem okx_line_cell {P:Program} {w:World} {K:Fg} {mg:Str->Option Value} {base:Heap} {f:Addr} {fd:FuncData} {cNoCurve:Addr} (Fn:Fun K "line_cell" "line_cell" s_line_cell f fd) (c_plus:Own P w K mg base "plus" 3 F_plus) (c_product_of_ways:Own P w K mg base "product_of_ways" 4 F_product_of_ways) (c_place_of:Own P w K mg base "place_of" 1 F_place_of) (c_degree_of:Own P w K mg base "degree_of" 1 F_degree_of) (g_NOUGHT:GTup K mg "NOUGHT" [0,1]) (m_NoCurve:mg "NoCurve"=some (.ref cNoCurve)) (q_NoCurve:PySem.W.excIn K cNoCurve [.type "ValueError",.type "Exception",.type "BaseException",.type "object"] "ValueError.__new__"=true):
  FnOk P w K mg base (CXE P w) 5 f fd ["line","middle"] (spX K (FX_line_cell cNoCurve)):=by
 refine Fn.okX sc_line_cell (fun ds S k x h=>?_) (fun cdv A outer s H E ex hr hE=>⟨_,(ds_consj (dst_ifj (dt_cmpj (o_neX hr) (d_callj c_degree_of (hr.mono (by decide)) rfl (da_consj (d_varj 0) da_nilj)) d_intj (nomark _)) (ds_onej (dst_raisej hE PySem.F.excBase_ValueError q_NoCurve m_NoCurve rfl)) ds_nilj) (ds_consj (dst_setj (i:=2) sc_line_cell.nd (d_callj c_place_of (hr.mono (by decide)) rfl (da_consj (d_varj 1) da_nilj))) (ds_consj (dst_setj (i:=3) sc_line_cell.nd (d_tupj (da_consj (d_get2j hr (d_varj 0) (d_tupj (da_consj d_intj (da_consj d_intj da_nilj))) (d_gtup g_NOUGHT rfl)) (da_consj (d_get2j hr (d_varj 0) (d_tupj (da_consj d_intj (da_consj d_intj da_nilj))) (d_gtup g_NOUGHT rfl)) da_nilj)))) (ds_consj (dst_setj (i:=4) sc_line_cell.nd (d_callj c_plus (hr.mono (by decide)) rfl (da_consj (d_callj c_product_of_ways (hr.mono (by decide)) rfl (da_consj (d_varj 3) (da_consj (d_varj 2) da_nilj))) (da_consj (d_get2j hr (d_varj 0) (d_tupj (da_consj d_intj (da_consj d_intj da_nilj))) (d_gtup g_NOUGHT rfl)) da_nilj)))) (ds_consj (dst_ifj (dt_cmpj (o_eqX hr) (d_ixj x_ixE (d_varj 4) d_intj (fun _ _=>rfl)) d_intj (nomark _)) (ds_onej (dst_raisej hE PySem.F.excBase_ValueError q_NoCurve m_NoCurve rfl)) ds_nilj) ds_neverj))))),fun ds S k h=>?_⟩)
 ·obtain⟨_,_,_,_,_,rfl,_⟩:=h
  rfl
 ·obtain⟨a,c,ep,x,y,rfl,ha,hc,hx,hy,h0,w⟩:=h
  have G:∀ k,(getT (cvD c) k).getD (.tup (List.map D.int [0,1]))=fr (gR c k):=fun k=>getT_gA (f:=fr) (z:=0)
  have hl:=hc.hl
  have zc:=fun k=>hc.sz (by decide) k
  refine⟨a,c,ep,rfl,ha,by omega,hc.small (by decide),fun e S1 x1=>⟨false,rfl,ite_b (fun _=>w S1 x1) (fun z=>by cases z)⟩,fun S1 m x1 hm=>⟨_,eq_int,ite_nb (fun _=>w S1 x1) (fun z=>?_)⟩⟩
  have em:m=1:=by simpa using z
  subst em
  have hv:=h0.resolve_left fun z=>z hm
  have ha1:=x1 _ _ ha
  refine⟨x,y,rfl,⟨_,_,ha1⟩,few,_,_,[1,0],ha1,rfl,⟨_,_,ha1⟩,few,_,_,[0,1],ha1,rfl,few,?_⟩
  rw [G,G]
  refine⟨_,_,_,_,rfl,(zc _).mono (by decide),(zc _).mono (by decide),hx.mono (by decide),hy.mono (by decide),⟨_,_,ha1⟩,few,_,_,[0,0],ha1,rfl,?_⟩
  rw [G]
  refine⟨_,_,rfl,(((zc [1,0]).mul hx).add ((zc [0,1]).mul hy)).mono (by decide),(zc _).mono (by decide),_,eq_int,ite_b (fun _=>w S1 x1) (fun t=>?_)⟩
  rw [hv] at t
  cases t
theorem Res.congr {φ ψ:List Int->Rat} {g:List (List Int×Rat)} (h:Res φ g) (e:∀ k,φ k=ψ k):Res ψ g:=⟨h.nd,h.two,h.n0,fun k=>by rw [h.at_ k]; exact e k⟩
theorem gR_ln3 {a b r:Rat} (k:List Int):gR (ln3 a b r) k=if k=[1,0] then a else if k=[0,1] then b else if k=[0,0] then r else 0:=by
 by_cases h1:k=[1,0]
 ·subst h1; rfl
 by_cases h2:k=[0,1]
 ·subst h2; rfl
 by_cases h3:k=[0,0]
 ·subst h3; rfl
 rw [if_neg h1,if_neg h2,if_neg h3]
 exact gA_none (by simp only [List.map_cons,List.map_nil,List.mem_cons,List.not_mem_nil,or_false]; exact fun z=>by rcases z with z | z | z <;> contradiction)
structure L3 (a b r:Rat) (g:List (List Int×Rat)):Prop where
 res:Res (fun k=>gR (ln3 a b r) k) g
theorem L3.keys {a b r:Rat} {g:List (List Int×Rat)} (h:L3 a b r g):∀ p∈g,p.1=[1,0]\/p.1=[0,1]\/p.1=[0,0]:=fun p hp=>by
 obtain⟨n,e⟩:=h.res.mem.mp hp
 have e:gR (ln3 a b r) p.1=p.2:=e
 rw [gR_ln3] at e
 by_cases h1:p.1=[1,0]
 ·exact .inl h1
 by_cases h2:p.1=[0,1]
 ·exact .inr (.inl h2)
 by_cases h3:p.1=[0,0]
 ·exact .inr (.inr h3)
 rw [if_neg h1,if_neg h2,if_neg h3] at e
 exact absurd e.symm n
theorem L3.cv {m:Nat} {a b r:Rat} {g:List (List Int×Rat)} (h:L3 a b r g) (ha:Sz m a) (hb:Sz m b) (hr:Sz m r):Cv 3 m 4 g:=by
 refine⟨h.res.nd,?_,fun p hp=>?_,fun p hp=>?_⟩
 ·have:=nodup_len h.res.nd (l':=[[1,0],[0,1],[0,0]]) fun x hx=>by
   obtain⟨p,hp,rfl⟩:=List.mem_map.mp hx
   rcases h.keys p hp with e | e | e <;> rw [e] <;> simp
  rw [List.length_map] at this
  exact this
 ·rcases h.keys p hp with e | e | e <;> exact⟨_,_,e,by decide,by decide,by decide,by decide⟩
 ·obtain⟨n,e⟩:=h.res.mem.mp hp
  have e:gR (ln3 a b r) p.1=p.2:=e
  rw [<- e,gR_ln3]
  rcases h.keys p hp with q | q | q <;> rw [q]
  ·exact ha
  ·exact hb
  ·exact hr
theorem L3.g1 {a b r:Rat} {g:List (List Int×Rat)} (h:L3 a b r g):gR g [1,0]=a:=(h.res.at_ _).trans rfl
theorem L3.g2 {a b r:Rat} {g:List (List Int×Rat)} (h:L3 a b r g):gR g [0,1]=b:=(h.res.at_ _).trans rfl
theorem L3.g3 {a b r:Rat} {g:List (List Int×Rat)} (h:L3 a b r g):gR g [0,0]=r:=(h.res.at_ _).trans rfl
theorem L3.deg {a b r:Rat} {g:List (List Int×Rat)} (h:L3 a b r g) (ne:a≠0\/b≠0):Deg g 1:=by
 refine⟨?_,fun p hp=>?_⟩
 ·rcases ne with n | n
  ·exact⟨([1,0],a),h.res.mem.mpr ⟨n,rfl⟩,rfl⟩
  ·exact⟨([0,1],b),h.res.mem.mpr ⟨n,rfl⟩,rfl⟩
 ·rcases h.keys p hp with e | e | e <;> rw [e] <;> decide
theorem L3.lin {a b r:Rat} {g:List (List Int×Rat)} (h:L3 a b r g) (ha:Sz 100 a) (hb:Sz 100 b) (hr:Sz 100 r) (ne:a≠0\/b≠0):Lin g:=⟨(h.cv ha hb hr).mono (by decide) (by decide) (by decide),h.res.n0,h.deg ne⟩
theorem L3.times {a b r t:Rat} {g g':List (List Int×Rat)} (h:L3 a b r g) (h':Res (fun k=>gR [] k+gR g k*t) g'):L3 (a*t) (b*t) (r*t) g':=⟨h'.congr fun k=>by
 rw [show gR [] k=0 from rfl,Rat.zero_add,show gR g k=_ from h.res.at_ k,gR_ln3,gR_ln3]
 split
 ·rfl
 split
 ·rfl
 split
 ·rfl
 ·exact Rat.zero_mul _⟩
theorem L3.once {a b r:Rat} {g':List (List Int×Rat)} (h':Res (fun k=>gR [] k+gR (ln3 a b r) k*1) g'):L3 a b r g':=⟨h'.congr fun k=>by
 rw [show gR [] k=0 from rfl,Rat.zero_add,Rat.mul_one]⟩
theorem L3.more {a b r s:Rat} {g g':List (List Int×Rat)} (h:L3 a b r g) (h':Res (fun k=>gR g k+gR [([0,0],s)] k*1) g'):L3 a b (r+s) g':=⟨h'.congr fun k=>by
 rw [show gR g k=_ from h.res.at_ k,Rat.mul_one,gR_ln3,gR_ln3]
 by_cases h3:k=[0,0]
 ·subst h3
  rfl
 ·rw [if_neg h3,if_neg h3,show gR [([0,0],s)] k=0 from gA_none (by simp only [List.map_cons,List.map_nil,List.mem_cons,List.not_mem_nil,or_false]; exact h3),Rat.add_zero]⟩
theorem ne_of_sq {a b:Rat} (h:a*a+b*b≠0):a≠0\/b≠0:=by
 by_cases z:a=0
 ·exact .inr fun y=>h (by rw [z,y]; grind)
 ·exact .inl z
set_option maxHeartbeats 4000000
def F__law_cell_at:DSp:=fun ds S k=>∃ (ns:List Int) (i:Int),ds=[.rl (List.map D.int ns),.int i]/\0<=i/\∀ c:Int,k (.int c) S
theorem sc__law_cell_at:FnScope ["script","k"] ["script","k"] (defScope s__law_cell_at):=⟨rfl,rfl,rfl,by decide +kernel,rfl,by decide +kernel,by decide +kernel⟩
theorem ok__law_cell_at {P:Program} {w:World} {K:Fg} {mg:Str->Option Value} {base:Heap} {f:Addr} {fd:FuncData} (Fn:Fun K "_law_cell_at" "_law_cell_at" s__law_cell_at f fd) (z_len:mg "len"=none):
  FnOk P w K mg base CX0 1 f fd ["script","k"] (spU K F__law_cell_at):=by
 refine Fn.okJ sc__law_cell_at (fun ds S k h=>?_) (fun cdv A outer s H E hr=>⟨_,(ds_consj (dst_ifj (dt_cmpj o_lt (d_varj 1) (d_callBj b_lenE rfl z_len bt_len (da_consj (d_varj 0) da_nilj)) (nomark _)) (ds_onej (dst_retj (d_ixj x_ixE (d_varj 0) (d_varj 1) (fun _ _=>rfl)))) ds_nilj) (ds_onej (dst_retj d_intj))),fun ds S k h=>?_⟩)
 ·obtain⟨_,_,rfl,_⟩:=h
  rfl
 ·obtain⟨ns,i,rfl,h0,q⟩:=h
  refine ite_dec (fun hl=>?_) (fun _=>q 0)
  obtain⟨n,rfl⟩:=Int.eq_ofNat_of_zero_le h0
  have hn:n < ns.length:=by rw [List.length_map] at hl; omega
  have e:L2.atI (List.map D.int ns) (n:Int)=some (.int ns[n]):=atI_nat (by rw [List.getElem?_map,List.getElem?_eq_getElem hn] <;> rfl)
  exact⟨_,e,q _⟩
def F__law_state:DSp:=fun ds S k=>∃ ns i,ds=[.rl (List.map D.int ns),.int i]/\0<=i/\∀ (p:Addr) (n:Int) (b:Bool),S p=none->(b=false->0<=n/\n < 2147483647)->k (.ref p) (put S p (.lst [.int n,.bl b]))
theorem sc__law_state:FnScope ["script","k","cell"] ["script","k"] (defScope s__law_state):=⟨rfl,rfl,rfl,by decide +kernel,rfl,by decide +kernel,by decide +kernel⟩
theorem ok__law_state {P:Program} {w:World} {K:Fg} {mg:Str->Option Value} {base:Heap} {f:Addr} {fd:FuncData} (Fn:Fun K "_law_state" "_law_state" s__law_state f fd) (c__law_cell_at:Own P w K mg base "_law_cell_at" 1 F__law_cell_at):
  FnOk P w K mg base CX0 2 f fd ["script","k"] (spU K F__law_state):=by
 refine Fn.okJ sc__law_state (fun ds S k h=>?_) (fun cdv A outer s H E hr=>⟨_,(ds_consj (dst_setj (i:=2) sc__law_state.nd (d_callj c__law_cell_at (hr.mono (by decide)) rfl (da_consj (d_varj 0) (da_consj (d_varj 1) da_nilj)))) (ds_consj (dst_ifj (dt_cmpj o_ge (d_varj 2) (d_opj o_pow d_intj d_intj) (nomark _)) (ds_onej (dst_retj (d_lstj (da_consj (d_opj o_sub (d_varj 2) (d_opj o_pow d_intj d_intj)) (da_consj d_blj da_nilj))))) ds_nilj) (ds_onej (dst_retj (d_lstj (da_consj (d_opj o_mod (d_varj 2) d_intj) (da_consj d_blj da_nilj))))))),fun ds S k h=>?_⟩)
 ·obtain⟨_,_,rfl,_⟩:=h
  rfl
 ·obtain⟨ns,i,rfl,h0,q⟩:=h
  have hp:CPow 10 18:=⟨by decide,by decide,by decide⟩
  refine⟨ns,i,rfl,h0,fun c=>⟨hp,ite_dec (fun hl=>⟨hp,few,fun p hn=>?_⟩) (fun hl=>⟨(by show(2147483647:Int)≠0; decide),few,fun p hn=>?_⟩)⟩⟩
  ·exact q p _ _ hn (fun z=>by cases z)
  ·exact q p _ _ hn (fun _=>⟨Int.fmod_nonneg_of_pos _ (by decide),Int.fmod_lt_of_pos _ (by decide)⟩)
def F__law_take:DSp:=fun ds S k=>∃ a m,ds=[.ref a,.int m]/\0 < m/\Bt 200 m/\SOK S a/\∀ r S',0<=r->r < m->Dr a S S'->k (.int r) S'
theorem sc__law_take:FnScope ["state","many","mixed","found"] ["state","many"] (defScope s__law_take):=⟨rfl,rfl,rfl,by decide +kernel,rfl,by decide +kernel,by decide +kernel⟩
theorem ok__law_take {P:Program} {w:World} {K:Fg} {mg:Str->Option Value} {base:Heap} {f:Addr} {fd:FuncData} (Fn:Fun K "_law_take" "_law_take" s__law_take f fd):
  FnOk P w K mg base CX0 1 f fd ["state","many"] (spU K F__law_take):=by
 refine Fn.okJ sc__law_take (fun ds S k h=>?_) (fun cdv A outer s H E hr=>⟨_,(ds_consj (dst_ifj (dt_valj (d_ixj x_ixE (d_varj 0) d_intj (fun _ _=>rfl))) (ds_consj (dst_setj (i:=3) sc__law_take.nd (d_opj o_mod (d_ixj x_ixE (d_varj 0) d_intj (fun _ _=>rfl)) (d_varj 1))) (ds_consj (dst_asgj (d_opj o_div (d_ixj x_ixE (d_varj 0) d_intj (fun _ _=>rfl)) (d_varj 1)) (dg_subE (d_varj 0) d_intj)) (ds_onej (dst_retj (d_varj 3))))) ds_nilj) (ds_consj (dst_asgj (d_opj o_mod (d_opj o_add (d_opj o_mul (d_ixj x_ixE (d_varj 0) d_intj (fun _ _=>rfl)) d_intj) d_intj) d_intj) (dg_subE (d_varj 0) d_intj)) (ds_consj (dst_setj (i:=2) sc__law_take.nd (d_opj o_mod (d_opj o_add (d_opj o_add (d_opj o_mul (d_ixj x_ixE (d_varj 0) d_intj (fun _ _=>rfl)) (d_ixj x_ixE (d_varj 0) d_intj (fun _ _=>rfl))) (d_opj o_mul d_intj (d_ixj x_ixE (d_varj 0) d_intj (fun _ _=>rfl)))) d_intj) d_intj)) (ds_consj (dst_setj (i:=2) sc__law_take.nd (d_opj o_mod (d_opj o_add (d_opj o_mul (d_varj 2) (d_varj 2)) (d_opj o_mul d_intj (d_varj 2))) d_intj)) (ds_onej (dst_retj (d_opj o_mod (d_opj o_div (d_varj 2) d_intj) (d_varj 1)))))))),fun ds S k h=>?_⟩)
 ·obtain⟨_,_,rfl,_⟩:=h
  rfl
 ·obtain⟨a,m,rfl,hm,hb,⟨n,b,hS,hn⟩,q⟩:=h
  have put_dr:∀ (n':Int) (b':Bool),(b'=false->0<=n'/\n' < 2147483647)->Dr a S (put S a (.lst [.int n',.bl b'])):=fun n' b' h'=>
   ⟨⟨n',b',put_same,h'⟩,fun c o z e=>by rw [put_ne z]; exact e⟩
  refine⟨_,_,hS,atI1,?_⟩
  cases b with
  | true=>
   refine⟨_,_,hS,atI0,(show m≠0 by omega),_,_,hS,atI0,dok (by omega) hb,_,_,hS,ixN0,?_⟩
   exact q _ _ (Int.fmod_nonneg_of_pos _ hm) (Int.fmod_lt_of_pos _ hm) (put_dr _ _ fun z=>by cases z)
  | false=>
   obtain⟨n0,n1⟩:=hn rfl
   have b31:=bt31 n0 (by omega)
   refine⟨_,_,hS,atI0,mok (n:=31) b31 (bt31 (by decide) (by decide)),(show (2147483647:Int)≠0 by decide),_,_,hS,ixN0,?_⟩
   have c0:0<=(n*48271+29).fmod 2147483647:=Int.fmod_nonneg_of_pos _ (by decide)
   have c1:(n*48271+29).fmod 2147483647 < 2147483647:=Int.fmod_lt_of_pos _ (by decide)
   have bx:=bt31 c0 (by omega)
   refine⟨_,_,put_same,atI0,_,_,put_same,atI0,mok bx bx,_,_,put_same,atI0,mok (m:=31) (bt31 (by decide) (by decide)) bx,(show (2147483629:Int)≠0 by decide),?_⟩
   have d0:0<=((n*48271+29).fmod 2147483647*(n*48271+29).fmod 2147483647+39373*(n*48271+29).fmod 2147483647+7).fmod 2147483629:=Int.fmod_nonneg_of_pos _ (by decide)
   have d1:((n*48271+29).fmod 2147483647*(n*48271+29).fmod 2147483647+39373*(n*48271+29).fmod 2147483647+7).fmod 2147483629 < 2147483629:=Int.fmod_lt_of_pos _ (by decide)
   have by':=bt31 d0 (by omega)
   refine⟨mok by' by',mok (m:=31) (bt31 (by decide) (by decide)) by',(show (2147483587:Int)≠0 by decide),⟨by decide,by decide +kernel⟩,(show m≠0 by omega),?_⟩
   exact q _ _ (Int.fmod_nonneg_of_pos _ hm) (Int.fmod_lt_of_pos _ hm) (put_dr _ _ fun _=>⟨c0,c1⟩)
theorem gcd_abs (a b:Int):Int.gcd (absI a) (absI b)=Int.gcd a b:=by
 have e:∀ x:Int,(absI x).natAbs=x.natAbs:=fun x=>by unfold absI; split <;> omega
 unfold Int.gcd
 rw [e,e]
def F__law_divisor:DSp:=fun ds S k=>∃ a b,ds=[.int a,.int b]/\k (.int ((Int.gcd a b:Nat):Int)) S
theorem sc__law_divisor:FnScope ["one","other"] ["one","other"] (defScope s__law_divisor):=⟨rfl,rfl,rfl,by decide +kernel,rfl,by decide +kernel,by decide +kernel⟩
theorem ok__law_divisor {P:Program} {w:World} {K:Fg} {mg:Str->Option Value} {base:Heap} {f:Addr} {fd:FuncData} (Fn:Fun K "_law_divisor" "_law_divisor" s__law_divisor f fd) (z_abs:mg "abs"=none):
  FnOk P w K mg base CX0 1 f fd ["one","other"] (spU K F__law_divisor):=by
 refine Fn.okJ sc__law_divisor (fun ds S k h=>?_) (fun cdv A outer s H E hr=>⟨_,(ds_consj (dst_setj (i:=0) sc__law_divisor.nd (d_callBj b_abs rfl z_abs bt_abs (da_consj (d_varj 0) da_nilj))) (ds_consj (dst_setj (i:=1) sc__law_divisor.nd (d_callBj b_abs rfl z_abs bt_abs (da_consj (d_varj 1) da_nilj))) (ds_consj (dst_whilej PassesOwn.never (dt_cmpj o_gt (d_varj 1) d_intj (nomark _)) (ds_onej (dst_parj (i:=0) (j:=1) rfl sc__law_divisor.nd (by decide) (da_consj (d_varj 1) (da_consj (d_opj o_mod (d_varj 0) (d_varj 1)) da_nilj))))) (ds_onej (dst_retj (d_varj 0)))))),fun ds S k h=>?_⟩)
 ·obtain⟨_,_,rfl,_⟩:=h
  rfl
 ·obtain⟨a,b,rfl,q⟩:=h
  refine⟨fun m L S'=>S'=S/\∃ x y,L=[some (.int x),some (.int y)]/\m=y.natAbs/\0<=x/\0<=y/\Int.gcd x y=Int.gcd a b,⟨_,rfl,absI a,absI b,rfl,rfl,absI_nn a,absI_nn b,gcd_abs a b⟩,?_⟩
  rintro m L S' ⟨rfl,x,y,rfl,rfl,hx,hy,e⟩
  refine ite_dec (fun hl=>⟨fun L' S''=>∃ m',m' < y.natAbs/\S''=S'/\∃ x y,L'=[some (.int x),some (.int y)]/\m'=y.natAbs/\0<=x/\0<=y/\Int.gcd x y=Int.gcd a b,fun _ _ z=>z,by omega,?_⟩) (fun hl=>?_)
  ·exact⟨_,fmod_lt x y (by omega),rfl,y,x.fmod y,rfl,rfl,hy,Int.fmod_nonneg_of_pos _ hl,(gcd_fmod x y).trans e⟩
  ·have z:y=0:=by omega
   subst z
   have e2:=gcd_zero x
   rw [e,if_neg (by omega)] at e2
   rw [e2] at q
   exact q
def F__law_ratio:DSp:=fun ds S k=>∃ t b,ds=[.int t,.int b]/\b≠0/\Bt 8000 b/\k (fr (Rat.divInt t b)) S
theorem sc__law_ratio:FnScope ["top","bottom","by"] ["top","bottom"] (defScope s__law_ratio):=⟨rfl,rfl,rfl,by decide +kernel,rfl,by decide +kernel,by decide +kernel⟩
theorem ok__law_ratio {P:Program} {w:World} {K:Fg} {mg:Str->Option Value} {base:Heap} {f:Addr} {fd:FuncData} (Fn:Fun K "_law_ratio" "_law_ratio" s__law_ratio f fd) (c__law_divisor:Own P w K mg base "_law_divisor" 1 F__law_divisor):
  FnOk P w K mg base CX0 2 f fd ["top","bottom"] (spU K F__law_ratio):=by
 refine Fn.okJ sc__law_ratio (fun ds S k h=>?_) (fun cdv A outer s H E hr=>⟨_,(ds_consj (dst_setj (i:=2) sc__law_ratio.nd (d_callj c__law_divisor (hr.mono (by decide)) rfl (da_consj (d_varj 0) (da_consj (d_varj 1) da_nilj)))) (ds_consj (dst_ifj (dt_cmpj o_lt (d_varj 1) d_intj (nomark _)) (ds_onej (dst_setj (i:=2) sc__law_ratio.nd (d_opj o_sub d_intj (d_varj 2)))) ds_nilj) (ds_onej (dst_retj (d_tupj (da_consj (d_opj o_div (d_varj 0) (d_varj 2)) (da_consj (d_opj o_div (d_varj 1) (d_varj 2)) da_nilj))))))),fun ds S k h=>?_⟩)
 ·obtain⟨_,_,rfl,_⟩:=h
  rfl
 ·obtain⟨t,b,rfl,h0,hb,q⟩:=h
  have hg:=gcd_bt (t:=t) h0 hb
  have hs:=shr_ne (t:=t) h0
  have e1:=div_num (t:=t) h0
  have e2:=div_den (t:=t) h0
  have qq:k (.tup [.int (t.fdiv (shr t b)),.int (b.fdiv (shr t b))]) S:=by rw [e1,e2]; exact q
  unfold shr at qq hs
  refine⟨t,b,rfl,ite_dec (fun hl=>?_) (fun hl=>?_)⟩
  ·rw [if_pos hl] at qq hs
   rw [<- Int.zero_sub] at qq hs
   have hd:∀ x:Int,CDivB x (0 - ((Int.gcd t b:Nat):Int)):=fun x=>dok hs (by rw [Int.zero_sub]; exact hg.neg)
   exact⟨hd _,hd _,few,qq⟩
  ·rw [if_neg hl] at qq hs
   exact⟨dok hs hg,dok hs hg,few,qq⟩
def F__law_times:DSp:=fun ds S k=>∃ (a b c d:Int) (q:Rat),ds=[pr a b,pr c d]/\b*d≠0/\Bt 4000 a/\Bt 4000 b/\Bt 4000 c/\Bt 4000 d/\Rat.divInt (a*c) (b*d)=q/\k (fr q) S
theorem sc__law_times:FnScope ["one","other"] ["one","other"] (defScope s__law_times):=⟨rfl,rfl,rfl,by decide +kernel,rfl,by decide +kernel,by decide +kernel⟩
theorem ok__law_times {P:Program} {w:World} {K:Fg} {mg:Str->Option Value} {base:Heap} {f:Addr} {fd:FuncData} (Fn:Fun K "_law_times" "_law_times" s__law_times f fd) (c__law_ratio:Own P w K mg base "_law_ratio" 2 F__law_ratio):
  FnOk P w K mg base CX0 3 f fd ["one","other"] (spU K F__law_times):=by
 refine Fn.okJ sc__law_times (fun ds S k h=>?_) (fun cdv A outer s H E hr=>⟨_,(ds_onej (dst_retj (d_callj c__law_ratio (hr.mono (by decide)) rfl (da_consj (d_opj o_mul (d_ixj x_ixE (d_varj 0) d_intj (fun _ _=>rfl)) (d_ixj x_ixE (d_varj 1) d_intj (fun _ _=>rfl))) (da_consj (d_opj o_mul (d_ixj x_ixE (d_varj 0) d_intj (fun _ _=>rfl)) (d_ixj x_ixE (d_varj 1) d_intj (fun _ _=>rfl))) da_nilj))))),fun ds S k h=>?_⟩)
 ·obtain⟨_,_,_,_,_,rfl,_⟩:=h
  rfl
 ·obtain⟨a,b,c,d,_,rfl,h0,h1,h2,h3,h4,rfl,q⟩:=h
  exact⟨mok h1 h3,mok h2 h4,_,_,rfl,h0,(h2.mul h4).mono (by decide),q⟩
def F__law_small:DSp:=fun ds S k=>∃ a,ds=[.ref a]/\SOK S a/\∀ q S',Sz 4 q->Dr a S S'->k (fr q) S'
theorem sc__law_small:FnScope ["state"] ["state"] (defScope s__law_small):=⟨rfl,rfl,rfl,by decide +kernel,rfl,by decide +kernel,by decide +kernel⟩
theorem ok__law_small {P:Program} {w:World} {K:Fg} {mg:Str->Option Value} {base:Heap} {f:Addr} {fd:FuncData} (Fn:Fun K "_law_small" "_law_small" s__law_small f fd) (c__law_ratio:Own P w K mg base "_law_ratio" 2 F__law_ratio) (c__law_take:Own P w K mg base "_law_take" 1 F__law_take):
  FnOk P w K mg base CX0 3 f fd ["state"] (spU K F__law_small):=by
 refine Fn.okJ sc__law_small (fun ds S k h=>?_) (fun cdv A outer s H E hr=>⟨_,(ds_onej (dst_retj (d_callj c__law_ratio (hr.mono (by decide)) rfl (da_consj (d_opj o_sub (d_callj c__law_take (hr.mono (by decide)) rfl (da_consj (d_varj 0) (da_consj d_intj da_nilj))) d_intj) (da_consj (d_opj o_add d_intj (d_ixj x_ixE (d_lstj (da_consj d_intj (da_consj d_intj (da_consj (d_callj c__law_take (hr.mono (by decide)) rfl (da_consj (d_varj 0) (da_consj d_intj da_nilj))) da_nilj)))) (d_callj c__law_take (hr.mono (by decide)) rfl (da_consj (d_varj 0) (da_consj d_intj da_nilj))) (fun _ _=>rfl))) da_nilj))))),fun ds S k h=>?_⟩)
 ·obtain⟨_,rfl,_⟩:=h
  rfl
 ·obtain⟨a,rfl,hS,q⟩:=h
  refine⟨a,19,rfl,by decide,by decide,hS,fun r1 S1 h1 h1' d1=>⟨a,6,rfl,by decide,by decide,d1.1,fun r2 S2 h2 h2' d2=>⟨few,fun p hp=>⟨a,3,rfl,by decide,by decide,d2.1.new hp,fun r3 S3 h3 h3' d3=>?_⟩⟩⟩⟩
  have hp3:=d3.2 p _ (d2.1.ne hp) put_same
  obtain⟨c,hc,hm⟩:=atI_mem (ds:=[.int 0,.int 0,.int r2]) h3 h3'
  have hc2:∃ s:Int,c=.int s/\0<=s/\s < 6:=by
   simp only [List.mem_cons,List.not_mem_nil,or_false] at hm
   rcases hm with rfl | rfl | rfl
   ·exact⟨0,rfl,by decide,by decide⟩
   ·exact⟨0,rfl,by decide,by decide⟩
   ·exact⟨r2,rfl,h2,h2'⟩
  obtain⟨s,rfl,s0,s1⟩:=hc2
  have b1:Bt 4 (r1 - 9):=by unfold Bt; omega
  have b2:Bt 4 (1+s):=by unfold Bt; omega
  exact⟨_,_,hp3,hc,_,_,rfl,by omega,b2.mono (by decide),q _ _ (Sz.divInt b1 b2 (by omega)) (d1.trans (d2.trans ((Dr.new d2.1 hp).trans d3)))⟩
def B (x:Q):D:=.tup [fr x.1,fr x.2]
theorem lratio_go {S:DH} {k:DK} {t b:Int} {q:Rat} (e:Rat.divInt t b=q) (h0:b≠0) (hb:Bt 8000 b) (h:k (fr q) S):F__law_ratio [.int t,.int b] S k:=by subst e; exact⟨_,_,rfl,h0,hb,h⟩
theorem SOK.set {a q:Addr} {S:DH} {o:DO} (h:SOK S a) (z:q≠a):SOK (put S q o) a:=by
 obtain⟨n,b,e,w⟩:=h
 exact⟨n,b,by rw [put_ne (Ne.symm z)]; exact e,w⟩
set_option maxHeartbeats 4000000
def F__law_plus:DSp:=fun ds S k=>∃ (a b c d:Int) (q:Rat),ds=[pr a b,pr c d]/\b*d≠0/\Bt 4000 a/\Bt 4000 b/\Bt 4000 c/\Bt 4000 d/\Rat.divInt (a*d+c*b) (b*d)=q/\k (fr q) S
theorem sc__law_plus:FnScope ["one","other"] ["one","other"] (defScope s__law_plus):=⟨rfl,rfl,rfl,by decide +kernel,rfl,by decide +kernel,by decide +kernel⟩
theorem ok__law_plus {P:Program} {w:World} {K:Fg} {mg:Str->Option Value} {base:Heap} {f:Addr} {fd:FuncData} (Fn:Fun K "_law_plus" "_law_plus" s__law_plus f fd) (c__law_ratio:Own P w K mg base "_law_ratio" 2 F__law_ratio):
  FnOk P w K mg base CX0 3 f fd ["one","other"] (spU K F__law_plus):=by
 refine Fn.okJ sc__law_plus (fun ds S k h=>?_) (fun cdv A outer s H E hr=>⟨_,(ds_onej (dst_retj (d_callj c__law_ratio (hr.mono (by decide)) rfl (da_consj (d_opj o_add (d_opj o_mul (d_ixj x_ixE (d_varj 0) d_intj (fun _ _=>rfl)) (d_ixj x_ixE (d_varj 1) d_intj (fun _ _=>rfl))) (d_opj o_mul (d_ixj x_ixE (d_varj 1) d_intj (fun _ _=>rfl)) (d_ixj x_ixE (d_varj 0) d_intj (fun _ _=>rfl)))) (da_consj (d_opj o_mul (d_ixj x_ixE (d_varj 0) d_intj (fun _ _=>rfl)) (d_ixj x_ixE (d_varj 1) d_intj (fun _ _=>rfl))) da_nilj))))),fun ds S k h=>?_⟩)
 ·obtain⟨_,_,_,_,_,rfl,_⟩:=h
  rfl
 ·obtain⟨a,b,c,d,q,rfl,h0,h1,h2,h3,h4,e,w⟩:=h
  exact⟨mok h1 h4,mok h3 h2,mok h2 h4,lratio_go e h0 ((h2.mul h4).mono (by decide)) w⟩
def F__law_minus:DSp:=fun ds S k=>∃ p q:Rat,ds=[fr p,fr q]/\Sz 4000 p/\Sz 4000 q/\k (fr (p - q)) S
theorem sc__law_minus:FnScope ["one","other"] ["one","other"] (defScope s__law_minus):=⟨rfl,rfl,rfl,by decide +kernel,rfl,by decide +kernel,by decide +kernel⟩
theorem ok__law_minus {P:Program} {w:World} {K:Fg} {mg:Str->Option Value} {base:Heap} {f:Addr} {fd:FuncData} (Fn:Fun K "_law_minus" "_law_minus" s__law_minus f fd) (c__law_ratio:Own P w K mg base "_law_ratio" 2 F__law_ratio):
  FnOk P w K mg base CX0 3 f fd ["one","other"] (spU K F__law_minus):=by
 refine Fn.okJ sc__law_minus (fun ds S k h=>?_) (fun cdv A outer s H E hr=>⟨_,(ds_onej (dst_retj (d_callj c__law_ratio (hr.mono (by decide)) rfl (da_consj (d_opj o_sub (d_opj o_mul (d_ixj x_ixE (d_varj 0) d_intj (fun _ _=>rfl)) (d_ixj x_ixE (d_varj 1) d_intj (fun _ _=>rfl))) (d_opj o_mul (d_ixj x_ixE (d_varj 1) d_intj (fun _ _=>rfl)) (d_ixj x_ixE (d_varj 0) d_intj (fun _ _=>rfl)))) (da_consj (d_opj o_mul (d_ixj x_ixE (d_varj 0) d_intj (fun _ _=>rfl)) (d_ixj x_ixE (d_varj 1) d_intj (fun _ _=>rfl))) da_nilj))))),fun ds S k h=>?_⟩)
 ·obtain⟨_,_,rfl,_⟩:=h
  rfl
 ·obtain⟨p,q,rfl,hp,hq,w⟩:=h
  exact⟨mok hp.num hq.den,mok hq.num hp.den,mok hp.den hq.den,lratio_go (sub_of p q) (den_mul_ne p q) ((hp.den.mul hq.den).mono (by decide)) w⟩
theorem divpos {a b:Int} (a0:0 < a) (b0:0 < b):0 < Rat.divInt a b:=by
 rw [Rat.divInt_eq_div,Rat.div_def]
 exact Rat.mul_pos (by exact_mod_cast a0) (Rat.inv_pos.mpr (by exact_mod_cast b0))
def F__law_plain:DSp:=fun ds S k=>∃ q:Rat,ds=[fr q]/\k (.tup [fr q,fr 0]) S
theorem sc__law_plain:FnScope ["fraction"] ["fraction"] (defScope s__law_plain):=⟨rfl,rfl,rfl,by decide +kernel,rfl,by decide +kernel,by decide +kernel⟩
theorem ok__law_plain {P:Program} {w:World} {K:Fg} {mg:Str->Option Value} {base:Heap} {f:Addr} {fd:FuncData} (Fn:Fun K "_law_plain" "_law_plain" s__law_plain f fd):
  FnOk P w K mg base CX0 1 f fd ["fraction"] (spU K F__law_plain):=by
 refine Fn.okJ sc__law_plain (fun ds S k h=>?_) (fun cdv A outer s H E hr=>⟨_,(ds_onej (dst_retj (d_tupj (da_consj (d_varj 0) (da_consj (d_tupj (da_consj d_intj (da_consj d_intj da_nilj))) da_nilj))))),fun ds S k h=>?_⟩)
 ·obtain⟨_,rfl,_⟩:=h
  rfl
 ·obtain⟨q,rfl,w⟩:=h
  exact⟨few,few,w⟩
def F__law_plain_point:DSp:=fun ds S k=>∃ a,ds=[.ref a]/\SOK S a/\∀ x y S',Sz 4 x->Sz 4 y->Dr a S S'->k (PP x y) S'
theorem sc__law_plain_point:FnScope ["state"] ["state"] (defScope s__law_plain_point):=⟨rfl,rfl,rfl,by decide +kernel,rfl,by decide +kernel,by decide +kernel⟩
theorem ok__law_plain_point {P:Program} {w:World} {K:Fg} {mg:Str->Option Value} {base:Heap} {f:Addr} {fd:FuncData} (Fn:Fun K "_law_plain_point" "_law_plain_point" s__law_plain_point f fd) (c__law_plain:Own P w K mg base "_law_plain" 1 F__law_plain) (c__law_small:Own P w K mg base "_law_small" 3 F__law_small):
  FnOk P w K mg base CX0 4 f fd ["state"] (spU K F__law_plain_point):=by
 refine Fn.okJ sc__law_plain_point (fun ds S k h=>?_) (fun cdv A outer s H E hr=>⟨_,(ds_onej (dst_retj (d_tupj (da_consj (d_callj c__law_plain (hr.mono (by decide)) rfl (da_consj (d_callj c__law_small (hr.mono (by decide)) rfl (da_consj (d_varj 0) da_nilj)) da_nilj)) (da_consj (d_callj c__law_plain (hr.mono (by decide)) rfl (da_consj (d_callj c__law_small (hr.mono (by decide)) rfl (da_consj (d_varj 0) da_nilj)) da_nilj)) da_nilj))))),fun ds S k h=>?_⟩)
 ·obtain⟨_,rfl,_⟩:=h
  rfl
 ·obtain⟨a,rfl,hS,w⟩:=h
  exact⟨a,rfl,hS,fun x S1 hx d1=>⟨x,rfl,a,rfl,d1.1,fun y S2 hy d2=>⟨y,rfl,few,w x y S2 hx hy (d1.trans d2)⟩⟩⟩
def F__law_above:DSp:=fun ds S k=>∃ a,ds=[.ref a]/\SOK S a/\∀ q S',Sz 4 q->0 < q->Dr a S S'->k (fr q) S'
theorem sc__law_above:FnScope ["state"] ["state"] (defScope s__law_above):=⟨rfl,rfl,rfl,by decide +kernel,rfl,by decide +kernel,by decide +kernel⟩
theorem ok__law_above {P:Program} {w:World} {K:Fg} {mg:Str->Option Value} {base:Heap} {f:Addr} {fd:FuncData} (Fn:Fun K "_law_above" "_law_above" s__law_above f fd) (c__law_ratio:Own P w K mg base "_law_ratio" 2 F__law_ratio) (c__law_take:Own P w K mg base "_law_take" 1 F__law_take):
  FnOk P w K mg base CX0 3 f fd ["state"] (spU K F__law_above):=by
 refine Fn.okJ sc__law_above (fun ds S k h=>?_) (fun cdv A outer s H E hr=>⟨_,(ds_onej (dst_retj (d_callj c__law_ratio (hr.mono (by decide)) rfl (da_consj (d_opj o_add d_intj (d_callj c__law_take (hr.mono (by decide)) rfl (da_consj (d_varj 0) (da_consj d_intj da_nilj)))) (da_consj (d_opj o_add d_intj (d_ixj x_ixE (d_lstj (da_consj d_intj (da_consj d_intj (da_consj (d_callj c__law_take (hr.mono (by decide)) rfl (da_consj (d_varj 0) (da_consj d_intj da_nilj))) da_nilj)))) (d_callj c__law_take (hr.mono (by decide)) rfl (da_consj (d_varj 0) (da_consj d_intj da_nilj))) (fun _ _=>rfl))) da_nilj))))),fun ds S k h=>?_⟩)
 ·obtain⟨_,rfl,_⟩:=h
  rfl
 ·obtain⟨a,rfl,hS,q⟩:=h
  refine⟨a,12,rfl,by decide,by decide,hS,fun r1 S1 h1 h1' d1=>⟨a,6,rfl,by decide,by decide,d1.1,fun r2 S2 h2 h2' d2=>⟨few,fun p hp=>⟨a,3,rfl,by decide,by decide,d2.1.new hp,fun r3 S3 h3 h3' d3=>?_⟩⟩⟩⟩
  have hp3:=d3.2 p _ (d2.1.ne hp) put_same
  obtain⟨c,hc,hm⟩:=atI_mem (ds:=[.int 0,.int 0,.int r2]) h3 h3'
  have hc2:∃ s:Int,c=.int s/\0<=s/\s < 6:=by
   simp only [List.mem_cons,List.not_mem_nil,or_false] at hm
   rcases hm with rfl | rfl | rfl
   ·exact⟨0,rfl,by decide,by decide⟩
   ·exact⟨0,rfl,by decide,by decide⟩
   ·exact⟨r2,rfl,h2,h2'⟩
  obtain⟨s,rfl,s0,s1⟩:=hc2
  have b1:Bt 4 (1+r1):=by unfold Bt; omega
  have b2:Bt 4 (1+s):=by unfold Bt; omega
  exact⟨_,_,hp3,hc,_,_,rfl,by omega,b2.mono (by decide),q _ _ (Sz.divInt b1 b2 (by omega)) (divpos (by omega) (by omega)) (d1.trans (d2.trans ((Dr.new d2.1 hp).trans d3)))⟩
set_option maxHeartbeats 4000000
abbrev sc (t:Rat) (l:List (List Int×Rat)):List (List Int×Rat):=l.map fun p=>(p.1,p.2*t)
theorem pairsD_len {l:List (List Int×D)}:(pairsD l).length=l.length:=List.length_map _
theorem nzloop {S:DH} {p f:Addr} {c:List (List Int×Rat)} {e1:Nat} {k:DK} (hp:S p=none) (hf:S f=some (dTo (cvD c) e1)) (nd:(c.map (·.1)).Nodup) (kk:∀ S2,Ext S S2->S2 p=some (.lst (pairsD (cvD (nz c))))->k (.ref p) S2):
  ∀ (rest don:List (List Int×Rat)) (l0:Option D) (S1:DH),c=don++rest->Ext S S1->S1 p=some (.lst (pairsD (cvD (nz don))))->c.length<=100->
   dCLoop (fun S=>S f=some (dTo (cvD c) e1)) p (dgName 0) (bdIf (dTest (dOp dNe (dOp dIxE (dDGet (dVar 1) (dVar 0)) (dC (.int 0))) (dC (.int 0)))) (dTup (dCons (dVar 0) (dCons (dDGet (dVar 1) (dVar 0)) dNil)))) k (rest.map fun x=>keyD x.1) (pairsD (cvD (nz don))) [l0,some (.ref f)] S1
 | [],don,l0,S1,ec,x1,h1,_=>by
  rw [List.append_nil] at ec
  subst ec
  exact⟨x1 _ _ hf,kk S1 x1 h1⟩
 | q::rest,don,l0,S1,ec,x1,h1,hl=>by
  have f1:=x1 _ _ hf
  have g1:getT (cvD c) q.1=some (fr q.2):=getT_some nd (by rw [ec]; simp)
  have hd:don.length < 100:=by have:=congrArg List.length ec; rw [List.length_append,List.length_cons] at this; omega
  have lz:(nz don).length<=don.length:=List.length_filter_le _ _
  have ec':c=(don++[q])++rest:=by rw [ec]; simp
  refine⟨f1,_,_,q.1,_,f1,rfl,g1,ite_ne (fun h0=>?_) (fun h0=>?_)⟩
  ·have q0:q.2≠0:=fun z=>h0 (by rw [z]; rfl)
   refine⟨_,_,q.1,_,f1,rfl,g1,few,h1,?_,?_⟩
   ·rw [pairsD_len,kvD_len]
    exact lim (by omega)
   ·have ea:pairsD (cvD (nz don))++[D.tup [keyD q.1,fr q.2]]=pairsD (cvD (nz (don++[q]))):=by
     simp [nz,List.filter_append,q0,pairsD,kvD]
    rw [ea]
    exact nzloop hp hf nd kk rest (don++[q]) _ _ ec' (x1.put hp) put_same hl
  ·have q0:q.2=0:=Rat.num_eq_zero.mp h0
   have ea:pairsD (cvD (nz don))=pairsD (cvD (nz (don++[q]))):=by
    simp [nz,List.filter_append,q0]
   rw [ea]
   exact nzloop hp hf nd kk rest (don++[q]) _ _ ec' x1 (by rw [h1,ea]) hl
theorem Dr.keep {a p:Addr} {S S':DH} {o:DO} (h:Dr a S S') (n:p≠a) (e:S p=some o):S' p=some o:=h.2 p o n e
def F__law_added:DSp:=fun ds S k=>∃ (a b:Addr) (c c':List (List Int×Rat)) (e e':Nat) (t:Rat),ds=[.ref a,.ref b,fr t]/\S a=some (dTo (cvD c) e)/\S b=some (dTo (cvD c') e')/\Cv 8 400 4 c/\Cv 8 400 4 c'/\Sz 40 t/\∀ S' p ep g,Ext S S'->S p=none->Res (fun k=>gR c k+gR c' k*t) g->Cv 16 841 4 g->S' p=some (dTo (cvD g) ep)->k (.ref p) S'
theorem sc__law_added:FnScope ["one","other","by","found","powers"] ["one","other","by"] (defScope s__law_added):=⟨rfl,rfl,rfl,by decide +kernel,rfl,by decide +kernel,by decide +kernel⟩
theorem ok__law_added {P:Program} {w:World} {K:Fg} {mg:Str->Option Value} {base:Heap} {f:Addr} {fd:FuncData} (Fn:Fun K "_law_added" "_law_added" s__law_added f fd) (c__law_plus:Own P w K mg base "_law_plus" 3 F__law_plus) (c__law_times:Own P w K mg base "_law_times" 3 F__law_times) (z_dict:mg "dict"=none):
  FnOk P w K mg base CX0 4 f fd ["one","other","by"] (spU K F__law_added):=by
 refine Fn.okJ sc__law_added (fun ds S k h=>?_) (fun cdv A outer s H E hr=>⟨_,(ds_consj (dst_setj (i:=3) sc__law_added.nd (d_callTj (b_dict hr) rfl z_dict bt_dict (da_consj (d_varj 0) da_nilj))) (ds_consj (dst_forIj PassesOwn.never rfl (i_keysj (d_varj 1)) (dg_namej (i:=4) sc__law_added.nd) (ds_onej (dst_asgj (d_callj c__law_plus (hr.mono (by decide)) rfl (da_consj (d_get2j hr (d_varj 3) (d_varj 4) (d_tupj (da_consj d_intj (da_consj d_intj da_nilj)))) (da_consj (d_callj c__law_times (hr.mono (by decide)) rfl (da_consj (d_dgetj hr (d_varj 1) (d_varj 4) (fun _ _=>rfl)) (da_consj (d_varj 2) da_nilj))) da_nilj))) (dg_subD hr (d_varj 3) (d_varj 4))))) (ds_onej (dst_retj (d_callTj (b_dict hr) rfl z_dict bt_dict (da_consj (d_compIIfj rfl (compSc (N:=["powers","found"]) (cap:=[none,some 3]) rfl rfl rfl rfl ⟨rfl,trivial⟩ rfl rfl ⟨⟨rfl,.inl rfl,.inl rfl⟩,trivial⟩) (i_keysj (d_varj 3)) (fun _ _ _ _=>(dg_namej (i:=0) (show List.Nodup (["powers","found"]:List Str) from by decide +kernel))) (fun _ _ _ _=>(dt_cmpj o_ne (d_ixj x_ixE (d_dgetj hr (d_varj 1) (d_varj 0) (fun _ _=>rfl)) d_intj (fun _ _=>rfl)) d_intj (nomark _))) (fun _ _ _ _=>(d_tupj (da_consj (d_varj 0) (da_consj (d_dgetj hr (d_varj 1) (d_varj 0) (fun _ _=>rfl)) da_nilj))))) da_nilj)))))),fun ds S k h=>?_⟩)
 ·obtain⟨_,_,_,_,_,_,_,rfl,_⟩:=h
  rfl
 ·obtain⟨a,b,c,c',e,e',t,rfl,ha,hb,hc,hc',ht,w⟩:=h
  refine .inl ⟨_,_,ha,hc.hash,fun p hp e1=>⟨_,_,put_keep hp hb,?_⟩⟩
  have nbp:b≠p:=ne_put hb hp
  rw [outK]
  refine loop_ix (fun r L S'=>∃ (don rest f:List (List Int×Rat)) (e3:Nat) (l4:Option D),c'=don++rest/\r=rest.map (fun x=>keyD x.1)/\L=[some (.ref a),some (.ref b),some (fr t),some (.ref p),l4]/\Ext S S'/\S' b=some (dTo (cvD c') e')/\S' p=some (dTo (cvD f) e3)/\Cv (8+don.length) 841 4 f/\∀ k,gR f k=gR c k+gR don k*t) (fun r L S' ⟨_,_,_,_,_,_,_,_,_,h,_⟩=>h) ?_ ?_ _ _ _ ⟨[],c',c,e1,none,rfl,rfl,rfl,Ext.new hp,put_keep hp hb,put_same,hc.mono (by decide) (by decide) (by decide),fun k=>by rw [show gR [] k=0 from rfl,Rat.zero_mul,Rat.add_zero]⟩
  ·rintro d r L S1 N1 ⟨don,rest,f,e3,l4,ec,er,rfl,x1,b1,p1,hf,hg⟩ hN
   cases rest with
   | nil=>cases er
   | cons q rest=>
    cases er
    have mq:q∈c':=by rw [ec]; simp
    have nq:=nd_mid (p:=q) (ec▸hc'.nd)
    have hd:don.length < 8:=by have:=congrArg List.length ec; rw [List.length_append,List.length_cons] at this; have:=hc'.hl; omega
    have s0:Sz 400 (gR f q.1):=by rw [hg,show gR don q.1=0 from gA_none nq,Rat.zero_mul,Rat.add_zero]; exact hc.sz (by decide) _
    have sq:=hc'.hz q mq
    have st:=sq.mul ht
    have g1:getT (cvD c') q.1=some (fr q.2):=getT_some hc'.nd mq
    obtain⟨i,j,ek,i0,j0,i1,j1⟩:=hc'.sm q mq
    obtain⟨f',ef,hf',gf⟩:=hf.put (i:=i) (j:=j) (x:=gR f q.1+q.2*t) i0 j0 i1 j1 (s0.add st)
    rw [<- ek] at ef gf
    refine⟨⟨_,_,p1⟩,few,_,_,q.1,p1,rfl,_,_,q.1,_,b1,rfl,g1,_,_,_,_,_,rfl,den_mul_ne q.2 t,sq.num.mono (by decide),sq.den.mono (by decide),ht.num.mono (by decide),ht.den.mono (by decide),mul_of q.2 t,_,_,_,_,_,congrArg (fun z=>[z,fr (q.2*t)]) (getT_gA (f:=fr) (z:=0)),den_mul_ne (gR f q.1) (q.2*t),s0.num.mono (by decide),s0.den.mono (by decide),st.num.mono (by decide),st.den.mono (by decide),add_of (gR f q.1) (q.2*t),_,_,q.1,p1,rfl,by rw [kvD_len]; exact lim (by have:=hf.hl; omega),fun e4=>hN _ _ ⟨don++[q],rest,f',e4,_,by rw [ec]; simp,rfl,rfl,x1.put hp,by rw [put_ne nbp]; exact b1,by rw [put_same,ef],by rw [List.length_append]; exact hf',fun k=>?_⟩⟩
    rw [gf k,show gR (don++[q]) k=_ from gA_snoc nq k]
    by_cases e:k=q.1
    ·rw [if_pos e,if_pos e,hg,e,show gR don q.1=0 from gA_none nq,Rat.zero_mul,Rat.add_zero]
    ·rw [if_neg e,if_neg e]
     exact hg k
  ·rintro L S1 ⟨don,rest,f,e3,l4,ec,er,rfl,x1,b1,p1,hf,hg⟩
   cases rest with
   | cons q rest=>cases er
   | nil=>
    rw [List.append_nil] at ec
    subst ec
    have:=hf.hl
    have:=hc'.hl
    refine⟨_,_,p1,fun p2 hp2=>?_⟩
    rw [outK]
    refine nzloop (S:=S1) hp2 p1 hf.nd (fun S2 x2 h2=>.inr ⟨_,h2,fun p3 hp3 e5=>?_⟩) f [] none _ rfl (Ext.new hp2) put_same (by omega)
    exact w _ p3 e5 (nz f) ((x1.trans x2).trans (Ext.new hp3)) ((x1.trans x2).none hp3) (Res.of hf hg) ⟨nd_filter hf.nd,Nat.le_trans nz_len (by omega),fun p hp=>hf.sm p (nz_mem.mp hp).1,fun p hp=>hf.hz p (nz_mem.mp hp).1⟩ (by rw [put_same,mergeT_nd (f:=fr) (nd_filter hf.nd)])
theorem pr_dvd:∀ {qs:List Rat} {m:Int},m ∣ qs.foldl (fun a q=>a*(q.den:Int)) m/\∀ q∈qs,(q.den:Int) ∣ qs.foldl (fun a q=>a*(q.den:Int)) m
 | [],m=>⟨Int.dvd_refl m,fun q h=>nomatch h⟩
 | q::qs,m=>by
  obtain⟨a,b⟩:=pr_dvd (qs:=qs) (m:=m*(q.den:Int))
  refine⟨Int.dvd_trans (Int.dvd_mul_right m _) a,fun p hp=>?_⟩
  rcases List.mem_cons.mp hp with e | m'
  ·rw [e]
   exact Int.dvd_trans ⟨m,Int.mul_comm m _⟩ a
  ·exact b p m'
theorem pr_bt {w:Nat}:∀ {qs:List Rat} {m:Int} {n:Nat},0 < m->Bt n m->(∀ q∈qs,Sz w q)->0 < qs.foldl (fun a q=>a*(q.den:Int)) m/\Bt (n+w*qs.length) (qs.foldl (fun a q=>a*(q.den:Int)) m)
 | [],_,_,h0,h,_=>⟨h0,h⟩
 | q::qs,m,n,h0,h,hq=>by
  obtain⟨a,b⟩:=pr_bt (qs:=qs) (Int.mul_pos h0 (den_p q)) (h.mul (hq q List.mem_cons_self).den) fun p hp=>hq p (List.mem_cons_of_mem _ hp)
  refine⟨a,b.mono ?_⟩
  rw [List.length_cons,Nat.mul_add]
  omega
theorem toploop {S:DH} {p f:Addr} {c:List (List Int×Rat)} {e1:Nat} {B:Int} {k:DK} (hp:S p=none) (hf:S f=some (dTo (cvD c) e1)) (nd:(c.map (·.1)).Nodup) (hz:∀ p∈c,Sz 4000 p.2) (bB:Bt 4000 B) (kk:∀ S2,Ext S S2->S2 p=some (.lst (pairsD (tpD (c.map fun x=>(x.1,topI B x.2)))))->k (.ref p) S2):
  ∀ (rest don:List (List Int×Rat)) (l0:Option D) (S1:DH),c=don++rest->Ext S S1->S1 p=some (.lst (pairsD (tpD (don.map fun x=>(x.1,topI B x.2)))))->c.length<=100->
   dCLoop (fun S=>S f=some (dTo (cvD c) e1)) p (dgName 0) (bdAll (dTup (dCons (dVar 0) (dCons (dOp dMul (dOp dIxE (dDGet (dVar 2) (dVar 0)) (dC (.int 0))) (dOp dDiv (dVar 1) (dOp dIxE (dDGet (dVar 2) (dVar 0)) (dC (.int 1))))) dNil)))) k (rest.map fun x=>keyD x.1) (pairsD (tpD (don.map fun x=>(x.1,topI B x.2)))) [l0,some (.int B),some (.ref f)] S1
 | [],don,l0,S1,ec,x1,h1,_=>by
  rw [List.append_nil] at ec
  subst ec
  exact⟨x1 _ _ hf,kk S1 x1 h1⟩
 | q::rest,don,l0,S1,ec,x1,h1,hl=>by
  have f1:=x1 _ _ hf
  have mq:q∈c:=by rw [ec]; simp
  have g1:getT (cvD c) q.1=some (fr q.2):=getT_some nd mq
  have hd:don.length < 100:=by have:=congrArg List.length ec; rw [List.length_append,List.length_cons] at this; omega
  have ec':c=(don++[q])++rest:=by rw [ec]; simp
  have sq:=hz q mq
  refine⟨f1,_,_,q.1,_,f1,rfl,g1,_,_,q.1,_,f1,rfl,g1,dok (by have:=den_p q.2; omega) sq.den,mok sq.num (bB.le (HM.natAbs_fdiv_le _ _)),few,h1,?_,?_⟩
  ·rw [pairsD_len,kvD_len,List.length_map]
   exact lim (by omega)
  ·have ea:pairsD (tpD (don.map fun x=>(x.1,topI B x.2)))++[D.tup [keyD q.1,.int (topI B q.2)]]=pairsD (tpD ((don++[q]).map fun x=>(x.1,topI B x.2))):=by
    simp [pairsD,kvD]
   show dCLoop _ _ _ _ _ _ (pairsD (tpD (don.map fun x=>(x.1,topI B x.2)))++[D.tup [keyD q.1,.int (topI B q.2)]]) _ (put S1 p (.lst (pairsD (tpD (don.map fun x=>(x.1,topI B x.2)))++[D.tup [keyD q.1,.int (topI B q.2)]])))
   rw [ea]
   exact toploop hp hf nd hz bB kk rest (don++[q]) _ _ ec' (x1.put hp) put_same hl
theorem nrmloop {S:DH} {p f:Addr} {ts:List (List Int×Int)} {e1:Nat} {g:Int} {k:DK} (hp:S p=none) (hf:S f=some (dTo (tpD ts) e1)) (nd:(ts.map (·.1)).Nodup) (g0:g≠0) (gb:Bt 8000 g) (kk:∀ S2,Ext S S2->S2 p=some (.lst (pairsD (nmD (ts.map fun x=>(x.1,x.2.fdiv g)))))->k (.ref p) S2):
  ∀ (rest don:List (List Int×Int)) (l0:Option D) (S1:DH),ts=don++rest->Ext S S1->S1 p=some (.lst (pairsD (nmD (don.map fun x=>(x.1,x.2.fdiv g)))))->ts.length<=100->
   dCLoop (fun S=>S f=some (dTo (tpD ts) e1)) p (dgName 0) (bdAll (dTup (dCons (dVar 0) (dCons (dTup (dCons (dOp dDiv (dDGet (dVar 2) (dVar 0)) (dVar 1)) (dCons (dC (.int 1)) dNil))) dNil)))) k (rest.map fun x=>keyD x.1) (pairsD (nmD (don.map fun x=>(x.1,x.2.fdiv g)))) [l0,some (.int g),some (.ref f)] S1
 | [],don,l0,S1,ec,x1,h1,_=>by
  rw [List.append_nil] at ec
  subst ec
  exact⟨x1 _ _ hf,kk S1 x1 h1⟩
 | q::rest,don,l0,S1,ec,x1,h1,hl=>by
  have f1:=x1 _ _ hf
  have mq:q∈ts:=by rw [ec]; simp
  have g1:getT (tpD ts) q.1=some (.int q.2):=getT_some nd mq
  have hd:don.length < 100:=by have:=congrArg List.length ec; rw [List.length_append,List.length_cons] at this; omega
  have ec':ts=(don++[q])++rest:=by rw [ec]; simp
  refine⟨f1,_,_,q.1,_,f1,rfl,g1,dok g0 gb,few,few,h1,?_,?_⟩
  ·rw [pairsD_len,kvD_len,List.length_map]
   exact lim (by omega)
  ·have ea:pairsD (nmD (don.map fun x=>(x.1,x.2.fdiv g)))++[D.tup [keyD q.1,.tup [.int (q.2.fdiv g),.int 1]]]=pairsD (nmD ((don++[q]).map fun x=>(x.1,x.2.fdiv g))):=by
    simp [pairsD,kvD]
   show dCLoop _ _ _ _ _ _ (pairsD (nmD (don.map fun x=>(x.1,x.2.fdiv g)))++[D.tup [keyD q.1,.tup [.int (q.2.fdiv g),.int 1]]]) _ (put S1 p (.lst (pairsD (nmD (don.map fun x=>(x.1,x.2.fdiv g)))++[D.tup [keyD q.1,.tup [.int (q.2.fdiv g),.int 1]]])))
   rw [ea]
   exact nrmloop hp hf nd g0 gb kk rest (don++[q]) _ _ ec' (x1.put hp) put_same hl
def F__law_normal:DSp:=fun ds S k=>∃ (a:Addr) (c:List (List Int×Rat)) (ep:Nat),ds=[.ref a]/\S a=some (dTo (cvD c) ep)/\(c.map (·.1)).Nodup/\c.length<=10/\(∀ p∈c,∃ i j,p.1=[i,j])/\(∀ p∈c,p.2≠0/\Sz 100 p.2)/\(c=[]->∀ S',Ext S S'->k .non S')/\(c≠[]->∀ S' p ep' ns,Ext S S'->Nrm c ns->S' p=some (dTo (nmD ns) ep')->k (.ref p) S')
theorem sc__law_normal:FnScope ["curve","whole","powers","numbers","by"] ["curve"] (defScope s__law_normal):=⟨rfl,rfl,rfl,by decide +kernel,rfl,by decide +kernel,by decide +kernel⟩
theorem ok__law_normal {P:Program} {w:World} {K:Fg} {mg:Str->Option Value} {base:Heap} {f:Addr} {fd:FuncData} (Fn:Fun K "_law_normal" "_law_normal" s__law_normal f fd) (c__law_divisor:Own P w K mg base "_law_divisor" 1 F__law_divisor) (z_dict:mg "dict"=none) (z_max:mg "max"=none):
  FnOk P w K mg base CX0 2 f fd ["curve"] (spU K F__law_normal):=by
 refine Fn.okJ sc__law_normal (fun ds S k h=>?_) (fun cdv A outer s H E hr=>⟨_,(ds_consj (dst_ifj (dt_cmpj (o_eqDD hr) (d_varj 0) d_dnewj (nomark _)) (ds_onej (dst_retj d_nonj)) ds_nilj) (ds_consj (dst_setj (i:=1) sc__law_normal.nd d_intj) (ds_consj (dst_forIj PassesOwn.never rfl (i_keysj (d_varj 0)) (dg_namej (i:=2) sc__law_normal.nd) (ds_onej (dst_setj (i:=1) sc__law_normal.nd (d_opj o_mul (d_varj 1) (d_ixj x_ixE (d_dgetj hr (d_varj 0) (d_varj 2) (fun _ _=>rfl)) d_intj (fun _ _=>rfl)))))) (ds_consj (dst_setj (i:=3) sc__law_normal.nd (d_callTj (b_dict hr) rfl z_dict bt_dict (da_consj (d_compIj rfl (compSc (N:=["powers","whole","curve"]) (cap:=[none,some 1,some 0]) rfl rfl rfl rfl ⟨rfl,rfl,trivial⟩ rfl rfl ⟨⟨rfl,.inl rfl,.inl rfl⟩,⟨rfl,.inl rfl,.inl rfl⟩,trivial⟩) (i_keysj (d_varj 0)) (fun _ _ _ _=>(dg_namej (i:=0) (show List.Nodup (["powers","whole","curve"]:List Str) from by decide +kernel))) (fun _ _ _ _=>(d_tupj (da_consj (d_varj 0) (da_consj (d_opj o_mul (d_ixj x_ixE (d_dgetj hr (d_varj 2) (d_varj 0) (fun _ _=>rfl)) d_intj (fun _ _=>rfl)) (d_opj o_div (d_varj 1) (d_ixj x_ixE (d_dgetj hr (d_varj 2) (d_varj 0) (fun _ _=>rfl)) d_intj (fun _ _=>rfl)))) da_nilj))))) da_nilj))) (ds_consj (dst_setj (i:=4) sc__law_normal.nd d_intj) (ds_consj (dst_forIj PassesOwn.never rfl (i_keysj (d_varj 3)) (dg_namej (i:=2) sc__law_normal.nd) (ds_onej (dst_setj (i:=4) sc__law_normal.nd (d_callj c__law_divisor (hr.mono (by decide)) rfl (da_consj (d_varj 4) (da_consj (d_dgetj hr (d_varj 3) (d_varj 2) (fun _ _=>rfl)) da_nilj)))))) (ds_consj (dst_ifj (dt_cmpj o_lt (d_dgetj hr (d_varj 3) (d_callBj (b_maxD hr) rfl z_max bt_max (da_consj (d_varj 3) da_nilj)) (fun _ _=>rfl)) d_intj (nomark _)) (ds_onej (dst_setj (i:=4) sc__law_normal.nd (d_opj o_sub d_intj (d_varj 4)))) ds_nilj) (ds_onej (dst_retj (d_callTj (b_dict hr) rfl z_dict bt_dict (da_consj (d_compIj rfl (compSc (N:=["powers","by","numbers"]) (cap:=[none,some 4,some 3]) rfl rfl rfl rfl ⟨rfl,rfl,trivial⟩ rfl rfl ⟨⟨rfl,.inl rfl,.inl rfl⟩,⟨rfl,.inl rfl,.inl rfl⟩,trivial⟩) (i_keysj (d_varj 3)) (fun _ _ _ _=>(dg_namej (i:=0) (show List.Nodup (["powers","by","numbers"]:List Str) from by decide +kernel))) (fun _ _ _ _=>(d_tupj (da_consj (d_varj 0) (da_consj (d_tupj (da_consj (d_opj o_div (d_dgetj hr (d_varj 2) (d_varj 0) (fun _ _=>rfl)) (d_varj 1)) (da_consj d_intj da_nilj))) da_nilj))))) da_nilj))))))))))),fun ds S k h=>?_⟩)
 ·obtain⟨_,_,_,rfl,_⟩:=h
  rfl
 ·obtain⟨a,c,ep,rfl,ha,nd,hl,two,hz,w0,w⟩:=h
  by_cases ne:c=[]
  ·subst ne
   exact fun q hq e0=>⟨_,_,[],e0,true,put_keep hq ha,put_same,.inr ⟨rfl,rfl⟩,w0 rfl _ (Ext.new hq)⟩
  have w:=w ne
  have l0:(cvD c).length≠0:=by rw [kvD_len]; exact fun z=>ne (List.length_eq_zero_iff.mp z)
  have sz:∀ r∈c.map (·.2),Sz 100 r:=fun r hr=>by
   obtain⟨x,hx,rfl⟩:=List.mem_map.mp hr
   exact(hz x hx).2
  obtain⟨B0,bB⟩:=pr_bt (m:=1) (n:=1) (by decide) (by decide) sz
  have dv:=(pr_dvd (qs:=c.map (·.2)) (m:=1)).2
  rw [List.length_map] at bB
  have bB':Bt 1001 ((c.map (·.2)).foldl (fun a q=>a*(q.den:Int)) 1):=bB.mono (by omega)
  have dv':∀ p∈c,(p.2.den:Int) ∣ (c.map (·.2)).foldl (fun a q=>a*(q.den:Int)) 1:=fun p hp=>dv p.2 (List.mem_map.mpr ⟨p,hp,rfl⟩)
  refine fun q hq e0=>⟨_,_,[],e0,false,put_keep hq ha,put_same,.inl ⟨l0,rfl⟩,_,_,put_keep hq ha,?_⟩
  have x0:Ext S (put S q (dTo [] e0)):=Ext.new hq
  have a0:put S q (dTo [] e0) a=some (dTo (cvD c) ep):=put_keep hq ha
  generalize put S q (dTo [] e0)=T at x0 a0 ⊢
  have eo:outD DIt.k (cvD c)=c.map fun x=>keyD x.1:=by show List.map _ (List.map _ c)=_; rw [List.map_map]; rfl
  rw [eo]
  refine loop_ix (fun r L S'=>S'=T/\∃ (don rest:List (List Int×Rat)) (m:Int) (n:Nat) (l2:Option D),c=don++rest/\r=rest.map (fun x=>keyD x.1)/\L=[some (.ref a),some (.int m),l2,none,none]/\(rest.map (·.2)).foldl (fun a q=>a*(q.den:Int)) m=(c.map (·.2)).foldl (fun a q=>a*(q.den:Int)) 1/\Bt n m/\n+100*rest.length<=1001) (fun r L S' ⟨e,_⟩=>by rw [e]; exact a0) ?_ ?_ _ _ _ ⟨rfl,[],c,1,1,none,rfl,rfl,rfl,rfl,by decide,by omega⟩
  ·rintro d r L S1 N1 ⟨rfl,don,rest,m,n,l2,ec,er,rfl,em,bm,hn⟩ hN
   cases rest with
   | nil=>cases er
   | cons q rest=>
    cases er
    have mq:q∈c:=by rw [ec]; simp
    have hn:n+100*(rest.length+1)<=1001:=hn
    exact⟨_,_,q.1,_,a0,rfl,getT_some nd mq,mok bm (hz q mq).2.den (by omega),hN _ _ ⟨rfl,don++[q],rest,_,n+100,_,by rw [ec]; simp,rfl,rfl,em,bm.mul (hz q mq).2.den,by omega⟩⟩
  ·rintro L S1 ⟨rfl,don,rest,m,n,l2,ec,er,rfl,em,bm,hn⟩
   cases rest with
   | cons q rest=>cases er
   | nil=>
    have em:m=(c.map (·.2)).foldl (fun a q=>a*(q.den:Int)) 1:=em
    rw [<- em] at B0 bB' dv'
    clear ec er em bm hn bB dv don
    have top0:∀ p∈c,topI m p.2≠0:=fun p hp z=>by
     have e:=topI_eq (dv' p hp)
     rw [z] at e
     have b0:(m:Rat)≠0:=fun y=>by
      have:m=0:=Rat.intCast_inj.mp (by rw [y]; rfl)
      omega
     have e2:(m:Rat)*p.2=0:=by rw [<- e]; rfl
     rcases Rat.mul_eq_zero.mp e2 with y | y
     ·exact b0 y
     ·exact(hz p hp).1 y
    refine⟨_,_,a0,fun p1 hp1=>?_⟩
    rw [eo]
    refine toploop (S:=S1) hp1 a0 nd (fun p hp=>(hz p hp).2.mono (by decide)) (bB'.mono (by decide)) (fun S2 x2 h2=>.inr ⟨_,h2,fun p2 hp2 e2=>?_⟩) c [] none _ rfl (Ext.new hp1) put_same (by omega)
    have tk:(c.map fun x=>(x.1,topI m x.2)).map (·.1)=c.map (·.1):=by rw [List.map_map]; rfl
    have ndt:((c.map fun x=>(x.1,topI m x.2)).map (·.1)).Nodup:=by rw [tk]; exact nd
    have y2:put S2 p2 (dTo (mergeT [] (tpD (c.map fun x=>(x.1,topI m x.2)))) e2) p2=some (dTo (tpD (c.map fun x=>(x.1,topI m x.2))) e2):=by rw [put_same,mergeT_nd (f:=D.int) ndt]
    have x3:Ext S (put S2 p2 (dTo (mergeT [] (tpD (c.map fun x=>(x.1,topI m x.2)))) e2)):=(x0.trans x2).trans (Ext.new hp2)
    have w':∀ S' p ep' g,Ext S S'->g≠0->(∀ p∈c.map fun x=>(x.1,topI m x.2),g ∣ p.2)->(∀ d:Int,(∀ p∈c.map fun x=>(x.1,topI m x.2),d ∣ p.2)->d ∣ g)->(∃ x∈c.map fun x=>(x.1,topI m x.2),(∀ q∈c.map fun x=>(x.1,topI m x.2),gtP q.1 x.1=false)/\0 < x.2.fdiv g)->S' p=some (dTo (nmD ((c.map fun x=>(x.1,topI m x.2)).map fun x=>(x.1,x.2.fdiv g))) ep')->k (.ref p) S':=fun S3 p3 e3 g x3 g0 gd gm gs h3=>by
     have n1:Nrm c (c.map fun p=>(p.1,(topI m p.2).fdiv g)):=nrm_of (by omega) dv' g0 (fun p hp=>gd (p.1,topI m p.2) (List.mem_map.mpr ⟨p,hp,rfl⟩)) (fun d hd=>gm d fun p hp=>by
       obtain⟨x,hx,rfl⟩:=List.mem_map.mp hp
       exact hd x hx) (by
       obtain⟨m,hm,mx,pos⟩:=gs
       obtain⟨x,hx,rfl⟩:=List.mem_map.mp hm
       exact⟨x,hx,fun q hq=>mx (q.1,topI _ q.2) (List.mem_map.mpr ⟨q,hq,rfl⟩),pos⟩)
     rw [List.map_map] at h3
     exact w S3 p3 e3 _ x3 n1 h3
    have two':∀ p∈c.map fun x=>(x.1,topI m x.2),∃ i j,p.1=[i,j]:=fun p hp=>by
     obtain⟨x,hx,rfl⟩:=List.mem_map.mp hp
     exact two x hx
    have hz':∀ p∈c.map fun x=>(x.1,topI m x.2),p.2≠0/\Bt 8000 p.2:=fun p hp=>by
     obtain⟨x,hx,rfl⟩:=List.mem_map.mp hp
     exact⟨top0 x hx,(((hz x hx).2.num).mul (bB'.le (HM.natAbs_fdiv_le _ _))).mono (by decide)⟩
    have ne':(c.map fun x=>(x.1,topI m x.2))≠[]:=fun z=>ne (List.map_eq_nil_iff.mp z)
    have hl':(c.map fun x=>(x.1,topI m x.2)).length<=100:=by rw [List.length_map]; omega
    refine⟨_,_,y2,?_⟩
    generalize put S2 p2 (dTo (mergeT [] (tpD (c.map fun x=>(x.1,topI m x.2)))) e2)=T2 at y2 x3 ⊢
    clear w top0 dv' bB' B0 tk h2
    generalize (c.map fun x=>(x.1,topI m x.2))=ts at ndt y2 w' two' hz' ne' hl' ⊢
    have eo2:outD DIt.k (tpD ts)=ts.map fun x=>keyD x.1:=by show List.map _ (List.map _ ts)=_; rw [List.map_map]; rfl
    rw [eo2]
    refine loop_ix (fun r L S'=>S'=T2/\∃ (don rest:List (List Int×Int)) (g:Int) (l2:Option D),ts=don++rest/\r=rest.map (fun x=>keyD x.1)/\L=[some (.ref a),some (.int m),l2,some (.ref p2),some (.int g)]/\Gp don g) (fun r L S' ⟨e,_⟩=>by rw [e]; exact y2) ?_ ?_ _ _ _ ⟨rfl,[],ts,0,l2,rfl,rfl,rfl,Gp.nil⟩
    ·rintro d r L S3 N1 ⟨rfl,don,rest,g,l2,ec,er,rfl,hg⟩ hN
     cases rest with
     | nil=>cases er
     | cons q rest=>
      cases er
      exact⟨_,_,q.1,_,y2,rfl,getT_some ndt (by rw [ec]; simp),_,_,rfl,hN _ _ ⟨rfl,don++[q],rest,_,_,by rw [ec]; simp,rfl,rfl,hg.snoc⟩⟩
    ·rintro L S3 ⟨rfl,don,rest,g,l2,ec,er,rfl,hg⟩
     cases rest with
     | cons q rest=>cases er
     | nil=>
      rw [List.append_nil] at ec
      subst ec
      have rest:∀ g':Int,g'≠0->(∀ p∈ts,g' ∣ p.2)->(∀ d:Int,(∀ p∈ts,d ∣ p.2)->d ∣ g')->(∃ m∈ts,(∀ q∈ts,gtP q.1 m.1=false)/\0 < m.2.fdiv g')->
        dCall bDict (dCons (dCompI [none,some 4,some 3] (srcD (dVar 3) (outD DIt.k)) (dgName 0) (bdAll (dTup (dCons (dVar 0) (dCons (dTup (dCons (dOp dDiv (dDGet (dVar 2) (dVar 0)) (dVar 1)) (dCons (dC (D.int 1)) dNil))) dNil))))) dNil) [some (D.ref a),some (D.int m),l2,some (D.ref p2),some (D.int g')] S3 k:=by
       intro g' g0 gd gm gs
       have gb:Bt 8000 g':=by
        obtain⟨m,hm,_⟩:=gs
        exact dvd_bt (gd m hm) (hz' m hm).1 (hz' m hm).2
       refine⟨_,_,y2,fun p4 hp4=>?_⟩
       rw [eo2]
       refine nrmloop (S:=S3) hp4 y2 ndt g0 gb (fun S5 x5 h5=>.inr ⟨_,h5,fun p6 hp6 e6=>?_⟩) ts [] none _ rfl (Ext.new hp4) put_same hl'
       have ndn:((ts.map fun x=>(x.1,x.2.fdiv g')).map (·.1)).Nodup:=by rw [List.map_map]; exact ndt
       exact w' _ p6 e6 g' ((x3.trans x5).trans (Ext.new hp6)) g0 gd gm gs (by rw [put_same,mergeT_nd (f:=fun n:Int=>D.tup [.int n,.int 1]) ndn])
      have mk:∀ m∈tpD ts,∃ x∈ts,m=(x.1,D.int x.2):=fun m hm=>by
       obtain⟨x,hx,rfl⟩:=List.mem_map.mp hm
       exact⟨x,hx,rfl⟩
      refine⟨_,_,y2,fun z=>ne' (List.map_eq_nil_iff.mp z),fun m hm=>?_,fun m hm mx=>?_⟩
      ·obtain⟨x,hx,rfl⟩:=mk m hm
       exact two' x hx
      ·obtain⟨x,hx,rfl⟩:=mk m hm
       have g0:g≠0:=fun z=>by
        have:=hg.dv x hx
        rw [z] at this
        exact(hz' x hx).1 (Int.zero_dvd.mp this)
       have mx':∀ q∈ts,gtP q.1 x.1=false:=fun q hq=>mx (q.1,.int q.2) (List.mem_map.mpr ⟨q,hq,rfl⟩)
       have gn:=hg.nn
       have r1:=fun neg:x.2 < 0=>rest (0 - g) (by omega) (fun p hp=>by rw [Int.zero_sub]; exact Int.neg_dvd.mpr (hg.dv p hp)) (fun d hd=>by rw [Int.zero_sub]; exact Int.dvd_neg.mpr (hg.mx d hd)) ⟨x,hx,mx',sgn_ok (by rw [Int.zero_sub]; exact Int.neg_dvd.mpr (hg.dv x hx)) (hz' x hx).1 ⟨fun _=>by omega,fun z=>by omega⟩⟩
       have r2:=fun pos:¬ x.2 < 0=>rest g g0 hg.dv hg.mx ⟨x,hx,mx',sgn_ok (hg.dv x hx) (hz' x hx).1 ⟨fun z=>absurd z pos,fun _=>by omega⟩⟩
       exact⟨_,_,x.1,_,y2,rfl,getT_some ndt hx,ite_dec r1 r2⟩
set_option maxHeartbeats 4000000
theorem extT {S S1 S2:DH} (a:∀ b o,S b=some o->S1 b=some o) (b:∀ b o,S1 b=some o->S2 b=some o):∀ b o,S b=some o->S2 b=some o:=fun c o h=>b c o (a c o h)
theorem extN {S:DH} {p:Addr} {o:DO} (h:S p=none):∀ b u,S b=some u->put S p o b=some u:=fun b u e=>by
 unfold put
 split
 ·rename_i z; subst z; rw [h] at e; cases e
 ·exact e
theorem sc__law_refused:FnScope ["call","error","e","kinds"] ["call"] (defScope s__law_refused):=⟨rfl,rfl,rfl,by decide +kernel,rfl,by decide +kernel,by decide +kernel⟩
theorem ok__law_refused {P:Program} {w:World} {K:Fg} {mg:Str->Option Value} {base:Heap} {f:Addr} {fd:FuncData} {cBadNote cNoCurve cNoField cNoMachine cNoMeet cNoName cNoQuotient cNoRoot cRodError cStuck:Addr} {cells:List (Addr×Obj)} (Fn:Fun K "_law_refused" "_law_refused" s__law_refused f fd) (z_isinstance:mg "isinstance"=none) (z_ValueError:mg "ValueError"=none) (z_range:mg "range"=none) (m_RodError:mg "RodError"=some (.ref cRodError)) (m_NoRoot:mg "NoRoot"=some (.ref cNoRoot)) (m_NoField:mg "NoField"=some (.ref cNoField)) (m_NoQuotient:mg "NoQuotient"=some (.ref cNoQuotient)) (m_NoMachine:mg "NoMachine"=some (.ref cNoMachine)) (m_Stuck:mg "Stuck"=some (.ref cStuck)) (m_NoMeet:mg "NoMeet"=some (.ref cNoMeet)) (m_BadNote:mg "BadNote"=some (.ref cBadNote)) (m_NoName:mg "NoName"=some (.ref cNoName)) (m_NoCurve:mg "NoCurve"=some (.ref cNoCurve)) (hR:∀ j C,(j,C)∈[(6,cNoCurve)]->RefC K (.ref cRodError) [cNoQuotient,cNoField,cNoRoot,cNoMeet,cStuck,cNoMachine,cNoCurve,cNoName,cBadNote] j C):
  FnOkP cells P w K mg base CX0 7 f fd ["call"] (spU K (FrefH [(6,cNoCurve)] 6 P w K mg base cells)):=by
 refine Fn.okP sc__law_refused (fun ds S k h=>?_) (fun cdv A outer s H E hr hce=>⟨_,(ds_consj (dst_setj (i:=1) sc__law_refused.nd d_nonj) (ds_consj (dst_tryHj (j:=0) (i:=2) hce (hr.mono (Nat.le_refl _)) (fun _=>hr.hd) rfl rfl rfl rfl (.inl rfl) rfl m_RodError sc__law_refused.nd rfl rfl (fun v=>(ds_onej (dst_setj (i:=1) sc__law_refused.nd (d_varj 2))))) (ds_consj (dst_setj (i:=3) sc__law_refused.nd (d_lstj (da_consj (d_callBj b_isiC rfl z_isinstance bt_isinstance (da_consj (d_varj 1) (da_consj (d_glob m_NoQuotient rfl) da_nilj))) (da_consj (d_callBj b_isiC rfl z_isinstance bt_isinstance (da_consj (d_varj 1) (da_consj (d_glob m_NoField rfl) da_nilj))) (da_consj (d_callBj b_isiC rfl z_isinstance bt_isinstance (da_consj (d_varj 1) (da_consj (d_glob m_NoRoot rfl) da_nilj))) da_nilj))))) (ds_consj (dst_setj (i:=3) sc__law_refused.nd (d_opj o_add (d_varj 3) (d_lstj (da_consj (d_callBj b_isiC rfl z_isinstance bt_isinstance (da_consj (d_varj 1) (da_consj (d_glob m_NoMeet rfl) da_nilj))) (da_consj (d_callBj b_isiC rfl z_isinstance bt_isinstance (da_consj (d_varj 1) (da_consj (d_glob m_Stuck rfl) da_nilj))) (da_consj (d_callBj b_isiC rfl z_isinstance bt_isinstance (da_consj (d_varj 1) (da_consj (d_glob m_NoMachine rfl) da_nilj))) da_nilj)))))) (ds_consj (dst_setj (i:=3) sc__law_refused.nd (d_opj o_add (d_varj 3) (d_lstj (da_consj (d_callBj b_isiC rfl z_isinstance bt_isinstance (da_consj (d_varj 1) (da_consj (d_glob m_NoCurve rfl) da_nilj))) (da_consj (d_callBj b_isiC rfl z_isinstance bt_isinstance (da_consj (d_varj 1) (da_consj (d_glob m_NoName rfl) da_nilj))) (da_consj (d_callBj b_isiC rfl z_isinstance bt_isinstance (da_consj (d_varj 1) (da_consj (d_glob m_BadNote rfl) da_nilj))) da_nilj)))))) (ds_consj (dst_ifj (dt_notj (dt_valj (d_callBj b_isiC rfl z_isinstance bt_isinstance (da_consj (d_varj 1) (da_consj (d_tyj (n:=.verr) rfl z_ValueError bt_ValueError) da_nilj))))) (ds_onej (dst_retj d_nonj)) ds_nilj) (ds_onej (dst_retj (d_compRIfj rfl (compSc (N:=["k","kinds"]) (cap:=[none,some 3]) rfl rfl rfl rfl ⟨rfl,trivial⟩ rfl rfl ⟨⟨rfl,.inl rfl,.inl rfl⟩,trivial⟩) rfl z_range (da_consj d_intj da_nilj) (fun _ _ _ _=>(dg_namej (i:=0) (show List.Nodup (["k","kinds"]:List Str) from by decide +kernel))) (fun _ _ _ _=>(dt_valj (d_ixj x_ixE (d_varj 1) (d_varj 0) (fun _ _=>rfl)))) (fun _ _ _ _=>(d_varj 0))))))))))),fun ds S k h=>?_⟩)
 ·obtain⟨_,_,_,_,rfl,_⟩:=h
  rfl
 ·obtain⟨g,φ,j,C,rfl,hg,hf,hj,w⟩:=h
  have R:=hR j C hj
  refine⟨g,C,φ,rfl,hg,hf,R.rod,fun ea S1 e1 hea=>?_⟩
  have q1:put S1 ea (.exc C) ea=some (.exc C):=put_same
  have x1:∀ b o,S b=some o->put S1 ea (.exc C) b=some o:=extT e1 (extN hea)
  generalize put S1 ea (.exc C)=T1 at q1 x1 ⊢
  refine⟨C,_,q1,R.exc,R.kit 0 _ rfl,C,_,q1,R.exc,R.kit 1 _ rfl,C,_,q1,R.exc,R.kit 2 _ rfl,few,fun p1 h1=>?_⟩
  have y1:=put_same (S:=T1) (a:=p1) (o:=.lst [.bl (decide (0=j)),.bl (decide (1=j)),.bl (decide (2=j))])
  have q2:=extN (o:=.lst [.bl (decide (0=j)),.bl (decide (1=j)),.bl (decide (2=j))]) h1 _ _ q1
  have x2:=extT x1 (extN (o:=.lst [.bl (decide (0=j)),.bl (decide (1=j)),.bl (decide (2=j))]) h1)
  generalize put T1 p1 _=T2 at y1 q2 x2 ⊢
  refine⟨C,_,q2,R.exc,R.kit 3 _ rfl,C,_,q2,R.exc,R.kit 4 _ rfl,C,_,q2,R.exc,R.kit 5 _ rfl,few,fun p2 h2=>?_⟩
  have y2:=put_same (S:=T2) (a:=p2) (o:=.lst [.bl (decide (3=j)),.bl (decide (4=j)),.bl (decide (5=j))])
  have y1':=extN (o:=.lst [.bl (decide (3=j)),.bl (decide (4=j)),.bl (decide (5=j))]) h2 _ _ y1
  have q3:=extN (o:=.lst [.bl (decide (3=j)),.bl (decide (4=j)),.bl (decide (5=j))]) h2 _ _ q2
  have x3:=extT x2 (extN (o:=.lst [.bl (decide (3=j)),.bl (decide (4=j)),.bl (decide (5=j))]) h2)
  generalize put T2 p2 _=T3 at y2 y1' q3 x3 ⊢
  refine⟨_,_,y1',y2,few (ds:=[.bl true,.bl true,.bl true,.bl true,.bl true,.bl true]),fun p3 h3=>?_⟩
  have y3:=put_same (S:=T3) (a:=p3) (o:=.lst [.bl (decide (0=j)),.bl (decide (1=j)),.bl (decide (2=j)),.bl (decide (3=j)),.bl (decide (4=j)),.bl (decide (5=j))])
  have q4:=extN (o:=.lst [.bl (decide (0=j)),.bl (decide (1=j)),.bl (decide (2=j)),.bl (decide (3=j)),.bl (decide (4=j)),.bl (decide (5=j))]) h3 _ _ q3
  have x4:=extT x3 (extN (o:=.lst [.bl (decide (0=j)),.bl (decide (1=j)),.bl (decide (2=j)),.bl (decide (3=j)),.bl (decide (4=j)),.bl (decide (5=j))]) h3)
  dsimp only [List.cons_append,List.nil_append]
  generalize put T3 p3 _=T4 at y3 q4 x4 ⊢
  refine⟨C,_,q4,R.exc,R.kit 6 _ rfl,C,_,q4,R.exc,R.kit 7 _ rfl,C,_,q4,R.exc,R.kit 8 _ rfl,few,fun p4 h4=>?_⟩
  have y4:=put_same (S:=T4) (a:=p4) (o:=.lst [.bl (decide (6=j)),.bl (decide (7=j)),.bl (decide (8=j))])
  have y3':=extN (o:=.lst [.bl (decide (6=j)),.bl (decide (7=j)),.bl (decide (8=j))]) h4 _ _ y3
  have q5:=extN (o:=.lst [.bl (decide (6=j)),.bl (decide (7=j)),.bl (decide (8=j))]) h4 _ _ q4
  have x5:=extT x4 (extN (o:=.lst [.bl (decide (6=j)),.bl (decide (7=j)),.bl (decide (8=j))]) h4)
  generalize put T4 p4 _=T5 at y4 y3' q5 x5 ⊢
  refine⟨_,_,y3',y4,few (ds:=[.bl true,.bl true,.bl true,.bl true,.bl true,.bl true,.bl true,.bl true,.bl true]),fun p5 h5=>?_⟩
  dsimp only [List.cons_append,List.nil_append]
  have y5:=put_same (S:=T5) (a:=p5) (o:=.lst [.bl (decide (0=j)),.bl (decide (1=j)),.bl (decide (2=j)),.bl (decide (3=j)),.bl (decide (4=j)),.bl (decide (5=j)),.bl (decide (6=j)),.bl (decide (7=j)),.bl (decide (8=j))])
  have q6:=extN (o:=.lst [.bl (decide (0=j)),.bl (decide (1=j)),.bl (decide (2=j)),.bl (decide (3=j)),.bl (decide (4=j)),.bl (decide (5=j)),.bl (decide (6=j)),.bl (decide (7=j)),.bl (decide (8=j))]) h5 _ _ q5
  have x6:=extT x5 (extN (o:=.lst [.bl (decide (0=j)),.bl (decide (1=j)),.bl (decide (2=j)),.bl (decide (3=j)),.bl (decide (4=j)),.bl (decide (5=j)),.bl (decide (6=j)),.bl (decide (7=j)),.bl (decide (8=j))]) h5)
  generalize put T5 p5 _=T6 at y5 q6 x6 ⊢
  refine⟨C,_,q6,R.exc,R.val,ite_nb (fun z=>by cases z) (fun _=>?_)⟩
  refine⟨⟨by decide,by decide⟩,fun p hp=>?_⟩
  have hb:∀ i:Nat,i < 9->[D.bl (decide (0=j)),.bl (decide (1=j)),.bl (decide (2=j)),.bl (decide (3=j)),.bl (decide (4=j)),.bl (decide (5=j)),.bl (decide (6=j)),.bl (decide (7=j)),.bl (decide (8=j))][i]?=some (.bl (decide (i=j))):=fun i hi=>by
   match i,hi with
   | 0,_=>rfl
   | 1,_=>rfl
   | 2,_=>rfl
   | 3,_=>rfl
   | 4,_=>rfl
   | 5,_=>rfl
   | 6,_=>rfl
   | 7,_=>rfl
   | 8,_=>rfl
  have z:=ref_loop (k:=k) hp y5 hb R.lt (fun S2 e2 h=>w p S2 (extT x6 e2) h) 9 0 none rfl
  rw [if_neg (Nat.not_lt_zero j)] at z
  rw [range9]
  exact z
set_option maxHeartbeats 4000000
def F__law_ahead:DSp:=fun ds S k=>∃ x y z v:Rat,ds=[PP x y,PP z v]/\Sz 400 x/\Sz 400 y/\Sz 400 z/\Sz 400 v/\k (W (z - x) (v - y)) S
theorem sc__law_ahead:FnScope ["middle","about"] ["middle","about"] (defScope s__law_ahead):=⟨rfl,rfl,rfl,by decide +kernel,rfl,by decide +kernel,by decide +kernel⟩
theorem ok__law_ahead {P:Program} {w:World} {K:Fg} {mg:Str->Option Value} {base:Heap} {f:Addr} {fd:FuncData} (Fn:Fun K "_law_ahead" "_law_ahead" s__law_ahead f fd) (c__law_minus:Own P w K mg base "_law_minus" 3 F__law_minus):
  FnOk P w K mg base CX0 4 f fd ["middle","about"] (spU K F__law_ahead):=by
 refine Fn.okJ sc__law_ahead (fun ds S k h=>?_) (fun cdv A outer s H E hr=>⟨_,(ds_onej (dst_retj (d_tupj (da_consj (d_callj c__law_minus (hr.mono (by decide)) rfl (da_consj (d_ixj x_ixE (d_ixj x_ixE (d_varj 1) d_intj (fun _ _=>rfl)) d_intj (fun _ _=>rfl)) (da_consj (d_ixj x_ixE (d_ixj x_ixE (d_varj 0) d_intj (fun _ _=>rfl)) d_intj (fun _ _=>rfl)) da_nilj))) (da_consj (d_callj c__law_minus (hr.mono (by decide)) rfl (da_consj (d_ixj x_ixE (d_ixj x_ixE (d_varj 1) d_intj (fun _ _=>rfl)) d_intj (fun _ _=>rfl)) (da_consj (d_ixj x_ixE (d_ixj x_ixE (d_varj 0) d_intj (fun _ _=>rfl)) d_intj (fun _ _=>rfl)) da_nilj))) da_nilj))))),fun ds S k h=>?_⟩)
 ·obtain⟨_,_,_,_,rfl,_⟩:=h
  rfl
 ·obtain⟨x,y,z,v,rfl,hx,hy,hz,hv,w⟩:=h
  exact⟨z,x,rfl,hz.mono (by decide),hx.mono (by decide),v,y,rfl,hv.mono (by decide),hy.mono (by decide),few,w⟩
theorem sq_nn' (a:Rat):0<=a*a:=by
 rcases(Rat.le_total:(0:Rat)<=a\/a<=0) with h | h
 ·exact Rat.mul_nonneg h h
 ·have:a*a=(-a)*(-a):=by grind
  rw [this]
  exact Rat.mul_nonneg (by grind) (by grind)
theorem sq_zero {a b:Rat} (h:a*a+b*b=0):a=0/\b=0:=by
 have h1:=sq_nn' a
 have h2:=sq_nn' b
 have e1:a*a=0:=by grind
 have e2:b*b=0:=by grind
 exact⟨by rcases Rat.mul_eq_zero.mp e1 with y | y <;> exact y,by rcases Rat.mul_eq_zero.mp e2 with y | y <;> exact y⟩
theorem half_of (t:Rat):Rat.divInt (1*t.num) (2*(t.den:Int))=1 / 2*t:=by
 have e:=den_mulq t
 have d:=den_rat t
 rw [Rat.divInt_eq_div,Rat.intCast_mul,Rat.intCast_mul,<- e]
 have a1:((1:Int):Rat)=1:=rfl
 have a2:((2:Int):Rat)=2:=rfl
 rw [a1,a2]
 grind
theorem cv3 {a b r:Rat} (ha:Sz 400 a) (hb:Sz 400 b) (hr:Sz 400 r):Cv 8 400 4 (ln3 a b r):=⟨ln3_nd,by show 3<=8; decide,fun p hp=>by
 simp only [List.mem_cons,List.not_mem_nil,or_false] at hp
 rcases hp with rfl | rfl | rfl <;> exact⟨_,_,rfl,by decide,by decide,by decide,by decide⟩,all3 (P:=Sz 400) ha hb hr⟩
def F__law_line:DSp:=fun ds S k=>∃ x y a b t:Rat,ds=[PP x y,W a b,fr t]/\Sz 4 x/\Sz 4 y/\Sz 60 a/\Sz 60 b/\Sz 100 t/\∀ S' p ep g,Ext S S'->S p=none->L3 a b (0 - (a*x+b*y+1 / 2*t)) g->S' p=some (dTo (cvD g) ep)->k (.ref p) S'
theorem sc__law_line:FnScope ["middle","ahead","power","rest"] ["middle","ahead","power"] (defScope s__law_line):=⟨rfl,rfl,rfl,by decide +kernel,rfl,by decide +kernel,by decide +kernel⟩
theorem ok__law_line {P:Program} {w:World} {K:Fg} {mg:Str->Option Value} {base:Heap} {f:Addr} {fd:FuncData} (Fn:Fun K "_law_line" "_law_line" s__law_line f fd) (c__law_plus:Own P w K mg base "_law_plus" 3 F__law_plus) (c__law_times:Own P w K mg base "_law_times" 3 F__law_times) (c__law_added:Own P w K mg base "_law_added" 4 F__law_added) (c__law_minus:Own P w K mg base "_law_minus" 3 F__law_minus):
  FnOk P w K mg base CX0 5 f fd ["middle","ahead","power"] (spU K F__law_line):=by
 refine Fn.okJ sc__law_line (fun ds S k h=>?_) (fun cdv A outer s H E hr=>⟨_,(ds_consj (dst_setj (i:=3) sc__law_line.nd (d_callj c__law_plus (hr.mono (by decide)) rfl (da_consj (d_callj c__law_times (hr.mono (by decide)) rfl (da_consj (d_ixj x_ixE (d_varj 1) d_intj (fun _ _=>rfl)) (da_consj (d_ixj x_ixE (d_ixj x_ixE (d_varj 0) d_intj (fun _ _=>rfl)) d_intj (fun _ _=>rfl)) da_nilj))) (da_consj (d_callj c__law_times (hr.mono (by decide)) rfl (da_consj (d_ixj x_ixE (d_varj 1) d_intj (fun _ _=>rfl)) (da_consj (d_ixj x_ixE (d_ixj x_ixE (d_varj 0) d_intj (fun _ _=>rfl)) d_intj (fun _ _=>rfl)) da_nilj))) da_nilj)))) (ds_consj (dst_setj (i:=3) sc__law_line.nd (d_callj c__law_plus (hr.mono (by decide)) rfl (da_consj (d_varj 3) (da_consj (d_callj c__law_times (hr.mono (by decide)) rfl (da_consj (d_tupj (da_consj d_intj (da_consj d_intj da_nilj))) (da_consj (d_varj 2) da_nilj))) da_nilj)))) (ds_onej (dst_retj (d_callj c__law_added (hr.mono (by decide)) rfl (da_consj d_dnewj (da_consj (d_dispj hr (pj_cons (d_tupj (da_consj d_intj (da_consj d_intj da_nilj))) (d_ixj x_ixE (d_varj 1) d_intj (fun _ _=>rfl)) (pj_cons (d_tupj (da_consj d_intj (da_consj d_intj da_nilj))) (d_ixj x_ixE (d_varj 1) d_intj (fun _ _=>rfl)) (pj_cons (d_tupj (da_consj d_intj (da_consj d_intj da_nilj))) (d_callj c__law_minus (hr.mono (by decide)) rfl (da_consj (d_tupj (da_consj d_intj (da_consj d_intj da_nilj))) (da_consj (d_varj 3) da_nilj))) pj_nil)))) (da_consj (d_tupj (da_consj d_intj (da_consj d_intj da_nilj))) da_nilj)))))))),fun ds S k h=>?_⟩)
 ·obtain⟨_,_,_,_,_,rfl,_⟩:=h
  rfl
 ·obtain⟨x,y,a,b,t,rfl,hx,hy,ha,hb,ht,w⟩:=h
  have m1:=(ha.mul hx).add (hb.mul hy)
  have m2:=sz_half.mul ht
  have m3:=m1.add m2
  have s00:Sz 1 (0:Rat):=⟨by decide,by decide⟩
  have n0:(2:Int)*(t.den:Int)≠0:=by have:=den_p t; omega
  have nd:=ln3_nd (a:=a) (b:=b) (r:=0 - (a*x+b*y+1 / 2*t))
  refine⟨_,_,_,_,_,rfl,den_mul_ne (a) (x),(ha).num.mono (by decide),(ha).den.mono (by decide),(hx).num.mono (by decide),(hx).den.mono (by decide),mul_of (a) (x),_,_,_,_,_,rfl,den_mul_ne (b) (y),(hb).num.mono (by decide),(hb).den.mono (by decide),(hy).num.mono (by decide),(hy).den.mono (by decide),mul_of (b) (y),_,_,_,_,_,rfl,den_mul_ne (a*x) (b*y),(ha.mul hx).num.mono (by decide),(ha.mul hx).den.mono (by decide),(hb.mul hy).num.mono (by decide),(hb.mul hy).den.mono (by decide),add_of (a*x) (b*y),few,1,2,_,_,1 / 2*t,rfl,n0,by decide,by decide,ht.num.mono (by decide),ht.den.mono (by decide),half_of t,_,_,_,_,_,rfl,den_mul_ne (a*x+b*y) (1 / 2*t),(m1).num.mono (by decide),(m1).den.mono (by decide),(m2).num.mono (by decide),(m2).den.mono (by decide),add_of (a*x+b*y) (1 / 2*t),?_⟩
  refine fun q hq e2 p hp e0=>⟨few,few,few,few,0,_,rfl,s00.mono (by decide),m3.mono (by decide),e0,cvD (ln3 a b (0 - (a*x+b*y+1 / 2*t))),put_same,rfl,by show 3<=15; decide,fun e1=>?_⟩
  have x1:Ext S (put (put (put S q (dTo [] e2)) p (dTo [] e0)) p (dTo (mergeT [] (cvD (ln3 a b (0 - (a*x+b*y+1 / 2*t))))) e1)):=(Ext.new hq).trans ((Ext.new hp).put hp)
  have q1:put (put (put S q (dTo [] e2)) p (dTo [] e0)) p (dTo (mergeT [] (cvD (ln3 a b (0 - (a*x+b*y+1 / 2*t))))) e1) q=some (dTo (cvD []) e2):=(Ext.new hp).put hp _ _ put_same
  have y1:put (put (put S q (dTo [] e2)) p (dTo [] e0)) p (dTo (mergeT [] (cvD (ln3 a b (0 - (a*x+b*y+1 / 2*t))))) e1) p=some (dTo (cvD (ln3 a b (0 - (a*x+b*y+1 / 2*t)))) e1):=by rw [put_same,mergeT_nd (f:=fr) nd]
  generalize put (put (put S q (dTo [] e2)) p (dTo [] e0)) p (dTo (mergeT [] (cvD (ln3 a b (0 - (a*x+b*y+1 / 2*t))))) e1)=S1 at x1 q1 y1 ⊢
  exact⟨few,q,p,[],_,e2,e1,1,rfl,q1,y1,(Cv.nil (m:=1) (b:=4)).mono (by decide) (by decide) (by decide),cv3 (ha.mono (by decide)) (hb.mono (by decide)) ((s00.sub m3).mono (by decide)),⟨by decide,by decide⟩,fun S2 r e3 g x2 n2 rs _ hh=>w S2 r e3 g (x1.trans x2) (x1.none n2) (L3.once rs) hh⟩
def F__law_reaches:DSp:=fun ds S k=>∃ a b o i:Rat,ds=[W a b,fr o,fr i]/\Sz 60 a/\Sz 60 b/\Sz 100 o/\Sz 100 i/\k (.bl (decide (Reach (a*a+b*b) o i))) S
theorem sc__law_reaches:FnScope ["ahead","outer","inner","square","left"] ["ahead","outer","inner"] (defScope s__law_reaches):=⟨rfl,rfl,rfl,by decide +kernel,rfl,by decide +kernel,by decide +kernel⟩
theorem ok__law_reaches {P:Program} {w:World} {K:Fg} {mg:Str->Option Value} {base:Heap} {f:Addr} {fd:FuncData} (Fn:Fun K "_law_reaches" "_law_reaches" s__law_reaches f fd) (c__law_plus:Own P w K mg base "_law_plus" 3 F__law_plus) (c__law_times:Own P w K mg base "_law_times" 3 F__law_times) (c__law_minus:Own P w K mg base "_law_minus" 3 F__law_minus):
  FnOk P w K mg base CX0 4 f fd ["ahead","outer","inner"] (spU K F__law_reaches):=by
 refine Fn.okJ sc__law_reaches (fun ds S k h=>?_) (fun cdv A outer s H E hr=>⟨_,(ds_consj (dst_setj (i:=3) sc__law_reaches.nd (d_callj c__law_plus (hr.mono (by decide)) rfl (da_consj (d_callj c__law_times (hr.mono (by decide)) rfl (da_consj (d_ixj x_ixE (d_varj 0) d_intj (fun _ _=>rfl)) (da_consj (d_ixj x_ixE (d_varj 0) d_intj (fun _ _=>rfl)) da_nilj))) (da_consj (d_callj c__law_times (hr.mono (by decide)) rfl (da_consj (d_ixj x_ixE (d_varj 0) d_intj (fun _ _=>rfl)) (da_consj (d_ixj x_ixE (d_varj 0) d_intj (fun _ _=>rfl)) da_nilj))) da_nilj)))) (ds_consj (dst_setj (i:=4) sc__law_reaches.nd (d_callj c__law_minus (hr.mono (by decide)) rfl (da_consj (d_callj c__law_plus (hr.mono (by decide)) rfl (da_consj (d_varj 1) (da_consj (d_varj 2) da_nilj))) (da_consj (d_callj c__law_times (hr.mono (by decide)) rfl (da_consj (d_tupj (da_consj d_intj (da_consj d_intj da_nilj))) (da_consj (d_varj 3) da_nilj))) da_nilj)))) (ds_consj (dst_ifj (dt_cmpj o_lt (d_ixj x_ixE (d_varj 4) d_intj (fun _ _=>rfl)) d_intj (nomark _)) (ds_onej (dst_retj d_blj)) ds_nilj) (ds_onej (dst_retj (d_cmpj o_lt (d_ixj x_ixE (d_callj c__law_minus (hr.mono (by decide)) rfl (da_consj (d_callj c__law_times (hr.mono (by decide)) rfl (da_consj (d_varj 4) (da_consj (d_varj 4) da_nilj))) (da_consj (d_callj c__law_times (hr.mono (by decide)) rfl (da_consj (d_tupj (da_consj d_intj (da_consj d_intj da_nilj))) (da_consj (d_callj c__law_times (hr.mono (by decide)) rfl (da_consj (d_varj 1) (da_consj (d_varj 2) da_nilj))) da_nilj))) da_nilj))) d_intj (fun _ _=>rfl)) d_intj (nomark _))))))),fun ds S k h=>?_⟩)
 ·obtain⟨_,_,_,_,rfl,_⟩:=h
  rfl
 ·obtain⟨a,b,o,i,rfl,ha,hb,ho,hi,w⟩:=h
  have s4:Sz 3 (4:Rat):=⟨by decide,by decide⟩
  have ss:=(ha.mul ha).add (hb.mul hb)
  have sl:=(ho.add hi).sub (s4.mul ss)
  have sm:=s4.mul (ho.mul hi)
  refine⟨_,_,_,_,_,rfl,den_mul_ne (a) (a),(ha).num.mono (by decide),(ha).den.mono (by decide),(ha).num.mono (by decide),(ha).den.mono (by decide),mul_of (a) (a),_,_,_,_,_,rfl,den_mul_ne (b) (b),(hb).num.mono (by decide),(hb).den.mono (by decide),(hb).num.mono (by decide),(hb).den.mono (by decide),mul_of (b) (b),_,_,_,_,_,rfl,den_mul_ne (a*a) (b*b),(ha.mul ha).num.mono (by decide),(ha.mul ha).den.mono (by decide),(hb.mul hb).num.mono (by decide),(hb.mul hb).den.mono (by decide),add_of (a*a) (b*b),_,_,_,_,_,rfl,den_mul_ne (o) (i),(ho).num.mono (by decide),(ho).den.mono (by decide),(hi).num.mono (by decide),(hi).den.mono (by decide),add_of (o) (i),few,_,_,_,_,_,rfl,den_mul_ne (4) (a*a+b*b),(s4).num.mono (by decide),(s4).den.mono (by decide),(ss).num.mono (by decide),(ss).den.mono (by decide),mul_of (4) (a*a+b*b),_,_,rfl,(ho.add hi).mono (by decide),(s4.mul ss).mono (by decide),ite_dec (fun e=>?_) (fun e=>?_)⟩
  ·rw [decide_eq_true (show Reach (a*a+b*b) o i from .inl ((num_neg_iff _).mp e))] at w
   exact w
  ·have ge:¬ o+i - 4*(a*a+b*b) < 0:=fun z=>e ((num_neg_iff _).mpr z)
   refine⟨_,_,_,_,_,rfl,den_mul_ne (o+i - 4*(a*a+b*b)) (o+i - 4*(a*a+b*b)),(sl).num.mono (by decide),(sl).den.mono (by decide),(sl).num.mono (by decide),(sl).den.mono (by decide),mul_of (o+i - 4*(a*a+b*b)) (o+i - 4*(a*a+b*b)),few,_,_,_,_,_,rfl,den_mul_ne (o) (i),(ho).num.mono (by decide),(ho).den.mono (by decide),(hi).num.mono (by decide),(hi).den.mono (by decide),mul_of (o) (i),_,_,_,_,_,rfl,den_mul_ne (4) (o*i),(s4).num.mono (by decide),(s4).den.mono (by decide),(ho.mul hi).num.mono (by decide),(ho.mul hi).den.mono (by decide),mul_of (4) (o*i),_,_,rfl,(sl.mul sl).mono (by decide),sm.mono (by decide),?_⟩
   have eq:((o+i - 4*(a*a+b*b))*(o+i - 4*(a*a+b*b)) - 4*(o*i)).num < 0↔Reach (a*a+b*b) o i:=by
    rw [num_neg_iff]
    exact⟨fun z=>.inr (by grind),fun z=>by have:=Or.resolve_left (show _\/_ from z) ge; grind⟩
   rw [<- decide_eq_decide.mpr eq] at w
   exact w
def F__law_due:DSp:=fun ds S k=>∃ (a:Addr) (c:List (List Int×Rat)) (ep:Nat) (x y z v o i:Rat),ds=[.ref a,PP x y,PP z v,fr o,fr i]/\S a=some (dTo (cvD c) ep)/\Lin c/\Sz 4 x/\Sz 4 y/\Sz 60 z/\Sz 60 v/\Sz 60 (z - x)/\Sz 60 (v - y)/\Sz 100 o/\Sz 100 i/\Sz 100 (o - i)/\Sz 100 (0 - ((z - x)*x+(v - y)*y+1 / 2*(o - i)))/\(z - x)*(z - x)+(v - y)*(v - y)≠0/\∀ S' r,Ext S S'->(r=true↔Due x y z v o i c)->k (.bl r) S'
theorem sc__law_due:FnScope ["line","middle","about","outer","inner","ahead"] ["line","middle","about","outer","inner"] (defScope s__law_due):=⟨rfl,rfl,rfl,by decide +kernel,rfl,by decide +kernel,by decide +kernel⟩
theorem ok__law_due {P:Program} {w:World} {K:Fg} {mg:Str->Option Value} {base:Heap} {f:Addr} {fd:FuncData} (Fn:Fun K "_law_due" "_law_due" s__law_due f fd) (c__law_ahead:Own P w K mg base "_law_ahead" 4 F__law_ahead) (c__law_normal:Own P w K mg base "_law_normal" 2 F__law_normal) (c__law_line:Own P w K mg base "_law_line" 5 F__law_line) (c__law_minus:Own P w K mg base "_law_minus" 3 F__law_minus) (c__law_reaches:Own P w K mg base "_law_reaches" 4 F__law_reaches):
  FnOk P w K mg base CX0 6 f fd ["line","middle","about","outer","inner"] (spU K F__law_due):=by
 refine Fn.okJ sc__law_due (fun ds S k h=>?_) (fun cdv A outer s H E hr=>⟨_,(ds_consj (dst_ifj (WJ.pt (dw_orj (dt_cmpj (o_eqA hr) (d_varj 3) (d_varj 4) (nomark _)) (dw_or1j (dt_cmpj (o_eqDn hr) (d_varj 0) d_dnewj (nomark _))))) (ds_onej (dst_retj d_blj)) ds_nilj) (ds_consj (dst_setj (i:=5) sc__law_due.nd (d_callj c__law_ahead (hr.mono (by decide)) rfl (da_consj (d_varj 1) (da_consj (d_varj 2) da_nilj)))) (ds_consj (dst_ifj (dt_cmpj (o_neA hr) (d_callj c__law_normal (hr.mono (by decide)) rfl (da_consj (d_varj 0) da_nilj)) (d_callj c__law_normal (hr.mono (by decide)) rfl (da_consj (d_callj c__law_line (hr.mono (by decide)) rfl (da_consj (d_varj 1) (da_consj (d_varj 5) (da_consj (d_callj c__law_minus (hr.mono (by decide)) rfl (da_consj (d_varj 3) (da_consj (d_varj 4) da_nilj))) da_nilj)))) da_nilj)) (nomark _)) (ds_onej (dst_retj d_blj)) ds_nilj) (ds_onej (dst_retj (d_callj c__law_reaches (hr.mono (by decide)) rfl (da_consj (d_varj 5) (da_consj (d_varj 3) (da_consj (d_varj 4) da_nilj))))))))),fun ds S k h=>?_⟩)
 ·obtain⟨_,_,_,_,_,_,_,_,_,rfl,_⟩:=h
  rfl
 ·obtain⟨a,c,ep,x,y,z,v,o,i,rfl,ha,hc,hx,hy,hz,hv,hzx,hvy,ho,hi,hoi,hr,h0,w⟩:=h
  have ne0:=hc.ne
  have hl:=hc.cv.hl
  refine⟨_,eq_fr,ite_dec (fun e=>w S false (Ext.refl S) ⟨fun t=>(nomatch t),fun t=>absurd e t.1⟩) (fun ne=>?_)⟩
  refine fun q hq e0=>⟨_,_,_,_,put_keep hq ha,put_same,fun z=>ne0 (List.map_eq_nil_iff.mp (List.length_eq_zero_iff.mp z)),?_⟩
  have x1:Ext S (put S q (dTo [] e0)):=Ext.new hq
  generalize put S q (dTo [] e0)=S1 at x1 ⊢
  refine iteF ⟨x,y,z,v,rfl,hx.mono (by decide),hy.mono (by decide),hz.mono (by decide),hv.mono (by decide),?_⟩
  refine⟨a,c,ep,rfl,x1 _ _ ha,hc.cv.nd,by omega,hc.cv.two,fun p hp=>⟨hc.n0 p hp,hc.cv.hz p hp⟩,fun e=>absurd e ne0,fun _ S2 p2 e2 ns2 x2 hn2 h2=>?_⟩
  refine⟨o,i,rfl,ho.mono (by decide),hi.mono (by decide),x,y,z - x,v - y,o - i,rfl,hx,hy,hzx,hvy,hoi,fun S3 p3 e3 g x3 n3 l3 h3=>?_⟩
  have cg:=l3.cv (m:=100) (hzx.mono (by decide)) (hvy.mono (by decide)) hr
  have lg:=l3.lin (hzx.mono (by decide)) (hvy.mono (by decide)) hr (ne_of_sq h0)
  have:=cg.hl
  refine⟨p3,g,e3,rfl,h3,cg.nd,by omega,cg.two,fun p hp=>⟨l3.res.n0 p hp,cg.hz p hp⟩,fun e=>absurd e lg.ne,fun _ S4 p4 e4 ns4 x4 hn4 h4=>?_⟩
  have h2':=x4 _ _ (x3 _ _ h2)
  rw [nm_cv] at h2' h4
  obtain⟨r,er1,er⟩:=eqr (c:=cvN ns2) (c':=cvN ns4) (by rw [cvN_keys,hn2.keys]; exact hc.cv.nd) (by rw [cvN_keys,hn4.keys]; exact cg.nd)
  rw [nrm_prp hn2 hn4 hc.cv.nd cg.nd hc.cv.two cg.two hc.n0 l3.res.n0,show gR g=gR (dlL x y z v (o - i)) from funext l3.res.at_] at er
  have X4:=((x1.trans x2).trans x3).trans x4
  refine .inl ⟨_,_,_,_,r,h2',h4,er1,ite_nb (fun z=>w S4 false X4 ⟨fun t=>(nomatch t),fun t=>?_⟩) (fun z=>?_)⟩
  ·rw [er.mpr t.2.1] at z
   cases z
  ·exact⟨_,_,o,i,rfl,hzx,hvy,ho,hi,w S4 _ X4 ⟨fun t=>⟨ne,er.mp z,of_decide_eq_true t⟩,fun t=>decide_eq_true t.2.2⟩⟩
def F__law_is_plain:DSp:=fun ds S k=>∃ x y:Rat,ds=[PP x y]/\∀ S',Ext S S'->k (.bl true) S'
theorem sc__law_is_plain:FnScope ["thing"] ["thing"] (defScope s__law_is_plain):=⟨rfl,rfl,rfl,by decide +kernel,rfl,by decide +kernel,by decide +kernel⟩
theorem ok__law_is_plain {P:Program} {w:World} {K:Fg} {mg:Str->Option Value} {base:Heap} {f:Addr} {fd:FuncData} (Fn:Fun K "_law_is_plain" "_law_is_plain" s__law_is_plain f fd) (c_is_number:Own P w K mg base "is_number" 4 F_is_number) (z_len:mg "len"=none) (z_isinstance:mg "isinstance"=none) (z_tuple:mg "tuple"=none):
  FnOk P w K mg base CX0 5 f fd ["thing"] (spU K F__law_is_plain):=by
 refine Fn.okJ sc__law_is_plain (fun ds S k h=>?_) (fun cdv A outer s H E hr=>⟨_,(ds_consj (dst_ifj (WJ.pt (dw_orj (dt_notj (dt_valj (d_callBj b_isiX rfl z_isinstance bt_isinstance (da_consj (d_varj 0) (da_consj (d_tyj (n:=.tup) rfl z_tuple bt_tuple) da_nilj))))) (dw_or1j (dt_cmpj (o_neA hr) (d_callBj b_lenE rfl z_len bt_len (da_consj (d_varj 0) da_nilj)) d_intj (nomark _))))) (ds_onej (dst_retj d_blj)) ds_nilj) (ds_onej (dst_retj (d_cmpj (o_eqA hr) (d_compEIfj rfl (compSc (N:=["one"]) (cap:=[none]) rfl rfl rfl rfl trivial rfl rfl trivial) (d_varj 0) (fun _ _ _ _=>(dg_namej (i:=0) (show List.Nodup (["one"]:List Str) from by decide +kernel))) (fun _ _ _ _=>(WJ.pt (dw_orj (dt_notj (dt_valj (d_callj c_is_number (hr.mono (by decide)) rfl (da_consj (d_varj 0) da_nilj)))) (dw_or1j (dt_cmpj (o_neA hr) (d_ixj x_ixE (d_varj 0) d_intj (fun _ _=>rfl)) (d_tupj (da_consj d_intj (da_consj d_intj da_nilj))) (nomark _)))))) (fun _ _ _ _=>(d_varj 0))) (d_lstj da_nilj) (nomark _))))),fun ds S k h=>?_⟩)
 ·obtain⟨_,_,rfl,_⟩:=h
  rfl
 ·obtain⟨x,y,rfl,w⟩:=h
  refine⟨.tup,rfl,true,rfl,([.tup [fr x,fr 0],.tup [fr y,fr 0]],none),rfl,fun p hp=>?_⟩
  refine⟨trivial,x,rfl,few,true,eq_fr' (n:=7) (q:=0),trivial,y,rfl,few,true,eq_fr' (n:=7) (q:=0),trivial,few,fun q hq=>.inr ⟨[],[],true,put_keep hq put_same,put_same,.inl ⟨rfl,rfl⟩,w _ ((Ext.new hp).trans (Ext.new hq))⟩⟩
def F__law_told_right:DSp:=fun ds S k=>∃ (p:Addr) (c:List (List Int×Rat)) (ep:Nat) (a b r x y:Rat),ds=[.ref p,PP x y]/\S p=some (dTo (cvD c) ep)/\L3 a b r c/\Sz 4 a/\Sz 4 b/\Sz 4 r/\Sz 4 x/\Sz 4 y/\a*a+b*b≠0/\a*x+b*y+r≠0/\∀ S',Ext S S'->k (.bl true) S'
theorem sc__law_told_right:FnScope ["line","middle","found","square"] ["line","middle"] (defScope s__law_told_right):=⟨rfl,rfl,rfl,by decide +kernel,rfl,by decide +kernel,by decide +kernel⟩
theorem ok__law_told_right {P:Program} {w:World} {K:Fg} {mg:Str->Option Value} {base:Heap} {f:Addr} {fd:FuncData} (Fn:Fun K "_law_told_right" "_law_told_right" s__law_told_right f fd) (c_line_cell:Own P w K mg base "line_cell" 5 F_line_cell) (c__law_is_plain:Own P w K mg base "_law_is_plain" 5 F__law_is_plain) (c_is_number:Own P w K mg base "is_number" 4 F_is_number) (c__law_due:Own P w K mg base "_law_due" 6 F__law_due) (z_len:mg "len"=none) (z_isinstance:mg "isinstance"=none) (z_tuple:mg "tuple"=none):
  FnOk P w K mg base CX0 7 f fd ["line","middle"] (spU K F__law_told_right):=by
 refine Fn.okJ sc__law_told_right (fun ds S k h=>?_) (fun cdv A outer s H E hr=>⟨_,(ds_consj (dst_setj (i:=2) sc__law_told_right.nd (d_callj c_line_cell (hr.mono (by decide)) rfl (da_consj (d_varj 0) (da_consj (d_varj 1) da_nilj)))) (ds_consj (dst_ifj (WJ.pt (dw_orj (dt_notj (dt_valj (d_callBj b_isiX rfl z_isinstance bt_isinstance (da_consj (d_varj 2) (da_consj (d_tyj (n:=.tup) rfl z_tuple bt_tuple) da_nilj))))) (dw_orj (dt_cmpj (o_neX hr) (d_callBj b_lenE rfl z_len bt_len (da_consj (d_varj 2) da_nilj)) d_intj (nomark _)) (dw_orj (dt_notj (dt_valj (d_callj c__law_is_plain (hr.mono (by decide)) rfl (da_consj (d_ixj x_ixE (d_varj 2) d_intj (fun _ _=>rfl)) da_nilj)))) (dw_or1j (dt_cmpj (o_eqX hr) (d_ixj x_ixE (d_varj 2) d_intj (fun _ _=>rfl)) (d_varj 1) (nomark _))))))) (ds_onej (dst_retj d_blj)) ds_nilj) (ds_consj (dst_forEj PassesOwn.never rfl (d_cutXj (d_varj 2) (do_somej d_intj) do_nonej) (dg_namej (i:=3) sc__law_told_right.nd) (ds_onej (dst_ifj (WJ.pt (dw_orj (dt_notj (dt_valj (d_callj c_is_number (hr.mono (by decide)) rfl (da_consj (d_tupj (da_consj (d_varj 3) (da_consj (d_tupj (da_consj d_intj (da_consj d_intj da_nilj))) da_nilj))) da_nilj)))) (dw_or1j (dt_cmpj o_lt (d_ixj x_ixE (d_varj 3) d_intj (fun _ _=>rfl)) d_intj (nomark _))))) (ds_onej (dst_retj d_blj)) ds_nilj))) (ds_onej (dst_retj (d_callj c__law_due (hr.mono (by decide)) rfl (da_consj (d_varj 0) (da_consj (d_varj 1) (da_consj (d_ixj x_ixE (d_varj 2) d_intj (fun _ _=>rfl)) (da_consj (d_ixj x_ixE (d_varj 2) d_intj (fun _ _=>rfl)) (da_consj (d_ixj x_ixE (d_varj 2) d_intj (fun _ _=>rfl)) da_nilj))))))))))),fun ds S k h=>?_⟩)
 ·obtain⟨_,_,_,_,_,_,_,_,rfl,_⟩:=h
  rfl
 ·obtain⟨p,c,ep,a,b,r,x,y,rfl,hp,l3,ha,hb,hr,hx,hy,h0,v0,w⟩:=h
  have cg:=(l3.cv (m:=4) ha hb hr).mono (n':=8) (m':=4) (b':=4) (by decide) (by decide) (by decide)
  have ne:=ne_of_sq h0
  have sV:=((ha.mul hx).add (hb.mul hy)).add hr
  have sn:=(ha.mul ha).add (hb.mul hb)
  refine⟨p,c,ep,x,y,rfl,hp,cg,l3.deg ne,hx,hy,by rw [l3.g1,l3.g2]; exact h0,by rw [l3.g1,l3.g2,l3.g3]; exact v0,fun S1 m x1 em=>?_⟩
  rw [l3.g1,l3.g2,l3.g3] at em
  have sm:Sz 39 m:=by rw [em]; exact(sV.div sn h0).mono (by decide)
  have eV:=told_mv h0 em
  rw [l3.g1,l3.g2,told_sq eV,hf_eq]
  have m0:=told_m eV v0
  have pos:=told_pos eV h0 v0
  have sh:Sz 3 (1 / 2:Rat):=sz_half
  have s2:Sz 2 (2:Rat):=⟨by decide,by decide⟩
  have sx:=(ha.mul sm.neg).mul sh
  have sy:=(hb.mul sm.neg).mul sh
  have ss:=sm.mul sV
  have sss:Sz 100 (m*(a*x+b*y+r)+m*(a*x+b*y+r)):=by
   rw [show m*(a*x+b*y+r)+m*(a*x+b*y+r)=2*(m*(a*x+b*y+r)) by grind]
   exact(s2.mul ss).mono (by decide)
  have np:(m*(a*x+b*y+r)).num > 0:=(num_pos_iff _).mpr pos
  have np2:(m*(a*x+b*y+r)+m*(a*x+b*y+r)).num > 0:=(num_pos_iff _).mpr (by grind)
  clear em
  refine⟨.tup,rfl,true,rfl,_,_,rfl,fun S2 x2=>ite_nb (fun z=>by cases z) (fun _=>⟨_,eq_PP,ite_dec (fun e=>(told_ne m0 h0 e).elim) (fun _=>?_)⟩)⟩
  have X2:=x1.trans x2
  refine⟨([fr (m*(a*x+b*y+r)+m*(a*x+b*y+r)),fr (m*(a*x+b*y+r))],none),rfl,?_⟩
  refine⟨trivial,few,few,_,rfl,ite_dec (fun t=>absurd t (by omega)) (fun _=>?_)⟩
  refine⟨trivial,few,few,_,rfl,ite_dec (fun t=>absurd t (by omega)) (fun _=>?_)⟩
  refine⟨trivial,p,c,ep,x,y,_,_,_,_,rfl,X2 _ _ hp,l3.lin (ha.mono (by decide)) (hb.mono (by decide)) (hr.mono (by decide)) ne,hx,hy,(hx.add sx).mono (by decide),(hy.add sy).mono (by decide),by rw [told_d]; exact sx.mono (by decide),by rw [told_d]; exact sy.mono (by decide),sss,ss.mono (by decide),by rw [told_d]; exact ss.mono (by decide),by rw [told_r eV]; exact(hr.mul (sm.neg.mul sh)).mono (by decide),?_,fun S3 t x3 et=>?_⟩
  ·rw [told_d,told_d]
   intro z
   refine told_ne (x:=0) (y:=0) m0 h0 ?_
   have z1:=sq_zero z
   rw [z1.1,z1.2]
   exact⟨Rat.add_zero 0,Rat.add_zero 0⟩
  ·have:t=true:=et.mpr ⟨fun z=>by grind,⟨-m*(1 / 2),fun z=>?_,fun k=>?_⟩,told_reach eV h0 v0⟩
   ·rw [this]
    exact w S3 (X2.trans x3)
   ·rcases Rat.mul_eq_zero.mp z with y | y
    ·exact m0 (by grind)
    ·exact absurd y (by grind)
   ·rw [show gR c k=gR (ln3 a b r) k from l3.res.at_ k,gR_ln3,gR_ln3,told_r eV,told_d,told_d]
    split
    ·grind
    split
    ·grind
    split
    ·grind
    ·grind
set_option maxHeartbeats 4000000
theorem SOK.ext {a:Addr} {S S':DH} (h:SOK S a) (x:Ext S S'):SOK S' a:=by
 obtain⟨n,b,e,q⟩:=h
 exact⟨n,b,x _ _ e,q⟩
theorem Dr.ext {a:Addr} {S S' S'':DH} (h:Dr a S S') (x:Ext S' S''):Dr a S S'':=⟨h.1.ext x,fun b o n e=>x _ _ (h.2 b o n e)⟩
def h32:Rat:=⟨3,2,by decide,by decide⟩
def q15:Rat:=⟨1,5,by decide,by decide⟩
def q14:Rat:=⟨1,4,by decide,by decide⟩
def q19:Rat:=⟨1,9,by decide,by decide⟩
structure Po (o i:Rat):Prop where
 so:Sz 60 o
 si:Sz 60 i
 sd:Sz 60 (o - i)
 o0:0 < o
 i0:0 < i
theorem pairloop {S:DH} {r c:Addr} {e:D} {all:List D} {k:DK} (hr:S r=none) (hc:S c=some (.lst all)) (kk:∀ S2,Ext S S2->S2 r=some (.lst (all.map fun d=>.tup [d,e]))->k (.ref r) S2):
  ∀ (rest don:List D) (l0:Option D) (S1:DH),all=don++rest->Ext S S1->S1 r=some (.lst (don.map fun d=>.tup [d,e]))->all.length<=100->
   dCLoop (okFor (all,some c)) r (dgName 0) (bdAll (dTup (dCons (dVar 0) (dCons (dVar 1) dNil)))) k rest (don.map fun d=>.tup [d,e]) [l0,some e] S1
 | [],don,l0,S1,ec,x1,h1,_=>by
  rw [List.append_nil] at ec
  subst ec
  exact⟨x1 _ _ hc,kk S1 x1 h1⟩
 | q::rest,don,l0,S1,ec,x1,h1,hl=>by
  have hd:don.length < 100:=by have:=congrArg List.length ec; rw [List.length_append,List.length_cons] at this; omega
  have ec':all=(don++[q])++rest:=by rw [ec]; simp
  refine⟨x1 _ _ hc,few,h1,by rw [List.length_map]; exact lim (by omega),?_⟩
  have ea:(don.map fun d=>D.tup [d,e])++[D.tup [q,e]]=(don++[q]).map fun d=>.tup [d,e]:=by simp
  show dCLoop _ _ _ _ _ _ ((don.map fun d=>D.tup [d,e])++[D.tup [q,e]]) _ (put S1 r (.lst ((don.map fun d=>D.tup [d,e])++[D.tup [q,e]])))
  rw [ea]
  exact pairloop hr hc kk rest (don++[q]) _ _ ec' (x1.put hr) put_same hl
theorem isq_pos {a b:Rat} (h:a*a+b*b≠0):0 < a*a+b*b:=by
 have h1:=sq_nn' a
 have h2:=sq_nn' b
 grind
def F__law_own_right:DSp:=fun ds S k=>∃ (p:Addr) (x y z v:Rat),ds=[.ref p,PP x y,PP z v]/\SOK S p/\Sz 4 x/\Sz 4 y/\Sz 4 z/\Sz 4 v/\(z - x)*(z - x)+(v - y)*(v - y)≠0/\∀ S',Dr p S S'->k (.bl true) S'
theorem sc__law_own_right:FnScope ["state","middle","about","ahead","square","inner","outers","edge","pairs","outer","lesser","line","many","other","some","found","due"] ["state","middle","about"] (defScope s__law_own_right):=⟨rfl,rfl,rfl,by decide +kernel,rfl,by decide +kernel,by decide +kernel⟩
theorem ok__law_own_right {P:Program} {w:World} {K:Fg} {mg:Str->Option Value} {base:Heap} {f:Addr} {fd:FuncData} (Fn:Fun K "_law_own_right" "_law_own_right" s__law_own_right f fd) (c__law_ahead:Own P w K mg base "_law_ahead" 4 F__law_ahead) (c__law_plus:Own P w K mg base "_law_plus" 3 F__law_plus) (c__law_times:Own P w K mg base "_law_times" 3 F__law_times) (c__law_above:Own P w K mg base "_law_above" 3 F__law_above) (c__law_take:Own P w K mg base "_law_take" 1 F__law_take) (c__law_line:Own P w K mg base "_law_line" 5 F__law_line) (c__law_minus:Own P w K mg base "_law_minus" 3 F__law_minus) (c__law_added:Own P w K mg base "_law_added" 4 F__law_added) (c_draws:Own P w K mg base "draws" 9 F_draws) (c__law_due:Own P w K mg base "_law_due" 6 F__law_due) (z_isinstance:mg "isinstance"=none) (z_bool:mg "bool"=none):
  FnOk P w K mg base CX0 10 f fd ["state","middle","about"] (spU K F__law_own_right):=by
 refine Fn.okJ sc__law_own_right (fun ds S k h=>?_) (fun cdv A outer s H E hr=>⟨_,(ds_consj (dst_setj (i:=3) sc__law_own_right.nd (d_callj c__law_ahead (hr.mono (by decide)) rfl (da_consj (d_varj 1) (da_consj (d_varj 2) da_nilj)))) (ds_consj (dst_setj (i:=4) sc__law_own_right.nd (d_callj c__law_plus (hr.mono (by decide)) rfl (da_consj (d_callj c__law_times (hr.mono (by decide)) rfl (da_consj (d_ixj x_ixF (d_varj 3) d_intj (fun _ _=>rfl)) (da_consj (d_ixj x_ixF (d_varj 3) d_intj (fun _ _=>rfl)) da_nilj))) (da_consj (d_callj c__law_times (hr.mono (by decide)) rfl (da_consj (d_ixj x_ixF (d_varj 3) d_intj (fun _ _=>rfl)) (da_consj (d_ixj x_ixF (d_varj 3) d_intj (fun _ _=>rfl)) da_nilj))) da_nilj)))) (ds_consj (dst_setj (i:=5) sc__law_own_right.nd (d_callj c__law_above (hr.mono (by decide)) rfl (da_consj (d_varj 0) da_nilj))) (ds_consj (dst_setj (i:=6) sc__law_own_right.nd (d_lstj (da_consj (d_callj c__law_above (hr.mono (by decide)) rfl (da_consj (d_varj 0) da_nilj)) (da_consj (d_varj 5) (da_consj (d_callj c__law_plus (hr.mono (by decide)) rfl (da_consj (d_varj 5) (da_consj (d_callj c__law_times (hr.mono (by decide)) rfl (da_consj (d_varj 4) (da_consj (d_tupj (da_consj d_intj (da_consj (d_opj o_add d_intj (d_callj c__law_take (hr.mono (by decide)) rfl (da_consj (d_varj 0) (da_consj d_intj da_nilj)))) da_nilj))) da_nilj))) da_nilj))) da_nilj))))) (ds_consj (dst_setj (i:=6) sc__law_own_right.nd (d_opj o_add (d_varj 6) (d_lstj (da_consj (d_callj c__law_times (hr.mono (by decide)) rfl (da_consj (d_varj 4) (da_consj (d_tupj (da_consj d_intj (da_consj d_intj da_nilj))) da_nilj))) (da_consj (d_callj c__law_times (hr.mono (by decide)) rfl (da_consj (d_varj 4) (da_consj (d_tupj (da_consj d_intj (da_consj d_intj da_nilj))) da_nilj))) da_nilj))))) (ds_consj (dst_setj (i:=7) sc__law_own_right.nd (d_callj c__law_times (hr.mono (by decide)) rfl (da_consj (d_varj 4) (da_consj (d_ixj x_ixF (d_lstj (da_consj (d_tupj (da_consj d_intj (da_consj d_intj da_nilj))) (da_consj (d_tupj (da_consj d_intj (da_consj d_intj da_nilj))) (da_consj (d_tupj (da_consj d_intj (da_consj d_intj da_nilj))) da_nilj)))) (d_callj c__law_take (hr.mono (by decide)) rfl (da_consj (d_varj 0) (da_consj d_intj da_nilj))) (fun _ _=>rfl)) da_nilj)))) (ds_consj (dst_compEjS (iv:=8) sc__law_own_right.nd rfl (compSc (N:=["outer","inner"]) (cap:=[none,some 5]) rfl rfl rfl rfl ⟨rfl,trivial⟩ rfl rfl ⟨⟨rfl,.inl rfl,.inl rfl⟩,trivial⟩) (d_cutEj (d_varj 6) do_nonej (do_somej d_intj)) (fun _ _ _ _=>(dg_namej (i:=0) (show List.Nodup (["outer","inner"]:List Str) from by decide +kernel))) (fun _ _ _ _=>(d_tupj (da_consj (d_varj 0) (da_consj (d_varj 1) da_nilj))))) (ds_consj (dst_setj (i:=8) sc__law_own_right.nd (d_opj o_add (d_varj 8) (d_compEj rfl (compSc (N:=["outer","edge"]) (cap:=[none,some 7]) rfl rfl rfl rfl ⟨rfl,trivial⟩ rfl rfl ⟨⟨rfl,.inl rfl,.inl rfl⟩,trivial⟩) (d_cutEj (d_varj 6) (do_somej d_intj) do_nonej) (fun _ _ _ _=>(dg_namej (i:=0) (show List.Nodup (["outer","edge"]:List Str) from by decide +kernel))) (fun _ _ _ _=>(d_tupj (da_consj (d_varj 0) (da_consj (d_varj 1) da_nilj))))))) (ds_consj (dst_forEj PassesOwn.never rfl (d_varj 8) (dg_seqE (n:=2) rfl (dgs_consj (dg_namej (i:=9) sc__law_own_right.nd) (dgs_consj (dg_namej (i:=10) sc__law_own_right.nd) dgs_nilj))) (ds_consj (dst_setj (i:=11) sc__law_own_right.nd (d_callj c__law_line (hr.mono (by decide)) rfl (da_consj (d_varj 1) (da_consj (d_varj 3) (da_consj (d_callj c__law_minus (hr.mono (by decide)) rfl (da_consj (d_varj 9) (da_consj (d_varj 10) da_nilj))) da_nilj))))) (ds_consj (dst_setj (i:=12) sc__law_own_right.nd (d_callj c__law_added (hr.mono (by decide)) rfl (da_consj d_dnewj (da_consj (d_varj 11) (da_consj (d_tupj (da_consj d_intj (da_consj d_intj da_nilj))) da_nilj))))) (ds_consj (dst_setj (i:=13) sc__law_own_right.nd (d_callj c__law_added (hr.mono (by decide)) rfl (da_consj (d_varj 11) (da_consj (d_dispj hr (pj_cons (d_tupj (da_consj d_intj (da_consj d_intj da_nilj))) (d_tupj (da_consj d_intj (da_consj d_intj da_nilj))) pj_nil)) (da_consj (d_tupj (da_consj d_intj (da_consj d_intj da_nilj))) da_nilj))))) (ds_onej (dst_forEj PassesOwn.never rfl (d_lstj (da_consj (d_varj 11) (da_consj (d_varj 12) (da_consj (d_varj 13) da_nilj)))) (dg_namej (i:=14) sc__law_own_right.nd) (ds_consj (dst_setj (i:=15) sc__law_own_right.nd (d_callj c_draws (hr.mono (by decide)) rfl (da_consj (d_varj 14) (da_consj (d_varj 1) (da_consj (d_varj 2) (da_consj (d_varj 9) (da_consj (d_varj 10) da_nilj))))))) (ds_consj (dst_setj (i:=16) sc__law_own_right.nd (d_callj c__law_due (hr.mono (by decide)) rfl (da_consj (d_varj 14) (da_consj (d_varj 1) (da_consj (d_varj 2) (da_consj (d_varj 9) (da_consj (d_varj 10) da_nilj))))))) (ds_onej (dst_ifj (WJ.pt (dw_orj (dt_notj (dt_valj (d_callBj b_isiX rfl z_isinstance bt_isinstance (da_consj (d_varj 15) (da_consj (d_tyj (n:=.bool) rfl z_bool bt_bool) da_nilj))))) (dw_or1j (dt_cmpj (o_neX hr) (d_varj 15) (d_varj 16) (nomark _))))) (ds_onej (dst_retj d_blj)) ds_nilj)))))))))) (ds_onej (dst_retj d_blj))))))))))),fun ds S k h=>?_⟩)
 ·obtain⟨_,_,_,_,_,rfl,_⟩:=h
  rfl
 ·obtain⟨p,x,y,z,v,rfl,hS,hx,hy,hz,hv,h0,w⟩:=h
  have sA:=hz.sub hx
  have sB:=hv.sub hy
  have s0:=isq_pos h0
  have ss:=(sA.mul sA).add (sB.mul sB)
  have hn:=(num_pos_iff _).mpr s0
  have s9:Sz 4 (9:Rat):=⟨by decide,by decide⟩
  have s4:Sz 3 (4:Rat):=⟨by decide,by decide⟩
  refine⟨x,y,z,v,rfl,hx.mono (by decide),hy.mono (by decide),hz.mono (by decide),hv.mono (by decide),_,rfl,_,rfl,_,_,_,_,_,rfl,den_mul_ne (z - x) (z - x),(sA).num.mono (by decide),(sA).den.mono (by decide),(sA).num.mono (by decide),(sA).den.mono (by decide),mul_of (z - x) (z - x),_,rfl,_,rfl,_,_,_,_,_,rfl,den_mul_ne (v - y) (v - y),(sB).num.mono (by decide),(sB).den.mono (by decide),(sB).num.mono (by decide),(sB).den.mono (by decide),mul_of (v - y) (v - y),_,_,_,_,_,rfl,den_mul_ne ((z - x)*(z - x)) ((v - y)*(v - y)),(sA.mul sA).num.mono (by decide),(sA.mul sA).den.mono (by decide),(sB.mul sB).num.mono (by decide),(sB.mul sB).den.mono (by decide),add_of ((z - x)*(z - x)) ((v - y)*(v - y)),?_⟩
  generalize es:(z - x)*(z - x)+(v - y)*(v - y)=s at s0 ss hn
  refine⟨p,rfl,hS,fun q1 S1 z1 p1 d1=>⟨p,rfl,d1.1,fun q2 S2 z2 p2 d2=>⟨p,9,rfl,by decide,by decide,d2.1,fun r3 S3 r30 r31 d3=>?_⟩⟩⟩
  have b3:Bt 4 (1+r3):=by unfold Bt; omega
  have n3:(s.den:Int)*(1+r3)≠0:=Int.mul_ne_zero (by have:=den_p s; omega) (by omega)
  have zQ:Sz 42 (Rat.divInt (s.num*1) ((s.den:Int)*(1+r3))):=Sz.divInt ((ss.num.mul (show Bt 1 1 by decide)).mono (by decide)) ((ss.den.mul b3).mono (by decide)) n3
  have pQ:0 < Rat.divInt (s.num*1) ((s.den:Int)*(1+r3)):=divpos (by omega) (Int.mul_pos (by have:=den_p s; omega) (by omega))
  refine⟨few,_,_,1,1+r3,_,rfl,n3,ss.num.mono (by decide),ss.den.mono (by decide),by decide,b3.mono (by decide),rfl,?_⟩
  generalize Rat.divInt (s.num*1) ((s.den:Int)*(1+r3))=Q at zQ pQ
  refine⟨_,_,_,_,_,rfl,den_mul_ne (q1) (Q),(z1).num.mono (by decide),(z1).den.mono (by decide),(zQ).num.mono (by decide),(zQ).den.mono (by decide),add_of (q1) (Q),few,fun l1 hl1=>⟨few,_,_,_,_,_,rfl,den_mul_ne (s) (9),(ss).num.mono (by decide),(ss).den.mono (by decide),(s9).num.mono (by decide),(s9).den.mono (by decide),mul_of (s) (9),few,_,_,_,_,_,rfl,den_mul_ne (s) (4),(ss).num.mono (by decide),(ss).den.mono (by decide),(s4).num.mono (by decide),(s4).den.mono (by decide),mul_of (s) (4),few,fun l2 hl2=>?_⟩⟩
  have D3:=d1.trans (d2.trans d3)
  have h12:l1≠l2:=ne_put (put_same (S:=S3) (a:=l1) (o:=.lst [fr q2,fr q1,fr (q1+Q)])) hl2
  refine⟨[fr q2,fr q1,fr (q1+Q)],[fr (s*9),fr (s*4)],by rw [put_ne h12]; exact put_same,put_same,few (ds:=[.non,.non,.non,.non,.non]),fun l3 hl3=>?_⟩
  have D4:=(D3.trans (Dr.new (o:=.lst [fr q2,fr q1,fr (q1+Q)]) D3.1 hl1))
  have D5:=(D4.trans (Dr.new (o:=.lst [fr (s*9),fr (s*4)]) D4.1 hl2))
  have D6:=(D5.trans (Dr.new (o:=.lst ([fr q2,fr q1,fr (q1+Q)]++[fr (s*9),fr (s*4)])) D5.1 hl3))
  have n3:l3≠p:=D5.1.ne hl3
  have y6:put (put (put S3 l1 (.lst [fr q2,fr q1,fr (q1+Q)])) l2 (.lst [fr (s*9),fr (s*4)])) l3 (.lst ([fr q2,fr q1,fr (q1+Q)]++[fr (s*9),fr (s*4)])) l3=some (.lst [fr q2,fr q1,fr (q1+Q),fr (s*9),fr (s*4)]):=put_same
  generalize put (put (put S3 l1 (.lst [fr q2,fr q1,fr (q1+Q)])) l2 (.lst [fr (s*9),fr (s*4)])) l3 (.lst ([fr q2,fr q1,fr (q1+Q)]++[fr (s*9),fr (s*4)]))=T6 at D6 y6 ⊢
  clear D5 D4 D3 d1 d2 d3 hl1 hl2 hl3 h12
  refine⟨few,few,few,few,fun l4 hl4=>⟨p,3,rfl,by decide,by decide,D6.1.new hl4,fun r5 T7 h5 h5' d7=>?_⟩⟩
  have y7:=d7.keep (D6.1.ne hl4) (put_same (S:=T6) (a:=l4) (o:=.lst [.tup [.int 1,.int 1],.tup [.int 1,.int 4],.tup [.int 1,.int 9]]))
  obtain⟨c,hc,hm⟩:=atI_mem (ds:=[.tup [.int 1,.int 1],.tup [.int 1,.int 4],.tup [.int 1,.int 9]]) h5 h5'
  obtain⟨E,rfl,zE,pE⟩:∃ E:Rat,c=fr E/\Sz 5 E/\0 < E:=by
   simp only [List.mem_cons,List.not_mem_nil,or_false] at hm
   rcases hm with rfl | rfl | rfl
   ·exact⟨1,rfl,⟨by decide,by decide⟩,by decide⟩
   ·exact⟨q14,rfl,⟨by decide,by decide⟩,by decide⟩
   ·exact⟨q19,rfl,⟨by decide,by decide⟩,by decide⟩
  have D7:=D6.trans ((Dr.new D6.1 hl4).trans d7)
  have o7:=d7.keep n3 (put_keep hl4 y6)
  clear y6 D6 d7 hm
  refine⟨_,_,y7,hc,_,_,_,_,_,rfl,den_mul_ne (s) (E),(ss).num.mono (by decide),(ss).den.mono (by decide),(zE).num.mono (by decide),(zE).den.mono (by decide),mul_of (s) (E),?_⟩
  clear y7 hc hl4
  refine⟨_,o7,fun c1 hc1=>⟨([fr q2,fr q1,fr (q1+Q)],some c1),by simp only [dItems,put_same]; rfl,fun r1 hr1=>?_⟩⟩
  have yc1:put T7 c1 (.lst (cutD [fr q2,fr q1,fr (q1+Q),fr (s*9),fr (s*4)] none (some 3))) c1=some (.lst [fr q2,fr q1,fr (q1+Q)]):=put_same
  have x8:Ext T7 (put T7 c1 (.lst (cutD [fr q2,fr q1,fr (q1+Q),fr (s*9),fr (s*4)] none (some 3)))):=Ext.new hc1
  generalize put T7 c1 (.lst (cutD [fr q2,fr q1,fr (q1+Q),fr (s*9),fr (s*4)] none (some 3)))=T8 at hr1 yc1 x8 ⊢
  refine pairloop (e:=fr q1) hr1 yc1 (fun T9 x9 y9=>?_) _ [] none _ rfl (Ext.new hr1) put_same (by show 3<=100; decide)
  have X9:=x8.trans x9
  refine⟨_,X9 _ _ o7,fun c2 hc2=>⟨([fr (s*9),fr (s*4)],some c2),by simp only [dItems,put_same]; rfl,fun r2 hr2=>?_⟩⟩
  have yc2:put T9 c2 (.lst (cutD [fr q2,fr q1,fr (q1+Q),fr (s*9),fr (s*4)] (some 3) none)) c2=some (.lst [fr (s*9),fr (s*4)]):=put_same
  have x10:Ext T9 (put T9 c2 (.lst (cutD [fr q2,fr q1,fr (q1+Q),fr (s*9),fr (s*4)] (some 3) none))):=Ext.new hc2
  generalize put T9 c2 (.lst (cutD [fr q2,fr q1,fr (q1+Q),fr (s*9),fr (s*4)] (some 3) none))=T10 at hr2 yc2 x10 ⊢
  refine pairloop (e:=fr (s*E)) hr2 yc2 (fun T11 x11 y11=>?_) _ [] none _ rfl (Ext.new hr2) put_same (by show 2<=100; decide)
  refine⟨_,_,x11 _ _ (x10 _ _ y9),y11,few (ds:=[.non,.non,.non,.non,.non]),fun l5 hl5=>?_⟩
  have X12:Ext T7 (put T11 l5 (DO.lst (List.map (fun d=>D.tup [d,fr q1]) [fr q2,fr q1,fr (q1+Q)]++List.map (fun d=>D.tup [d,fr (s*E)]) [fr (s*9),fr (s*4)]))):=((X9.trans x10).trans x11).trans (Ext.new hl5)
  have y12:put T11 l5 (DO.lst (List.map (fun d=>D.tup [d,fr q1]) [fr q2,fr q1,fr (q1+Q)]++List.map (fun d=>D.tup [d,fr (s*E)]) [fr (s*9),fr (s*4)])) l5=some (.lst [.tup [fr q2,fr q1],.tup [fr q1,fr q1],.tup [fr (q1+Q),fr q1],.tup [fr (s*9),fr (s*E)],.tup [fr (s*4),fr (s*E)]]):=put_same
  generalize put T11 l5 (DO.lst (List.map (fun d=>D.tup [d,fr q1]) [fr q2,fr q1,fr (q1+Q)]++List.map (fun d=>D.tup [d,fr (s*E)]) [fr (s*9),fr (s*4)]))=T12 at X12 y12 ⊢
  have D12:=D7.ext X12
  clear X12 y9 y11 x11 x10 x9 x8 X9 yc1 yc2 hr1 hr2 hc1 hc2 hl5 o7 D7 T11 T10 T9 T8 T7
  refine⟨([.tup [fr q2,fr q1],.tup [fr q1,fr q1],.tup [fr (q1+Q),fr q1],.tup [fr (s*9),fr (s*E)],.tup [fr (s*4),fr (s*E)]],some l5),by simp only [dItems,y12],?_⟩
  have pE':=Rat.mul_pos s0 pE
  have zse:=ss.mul zE
  have P9:∀ n:Rat,Sz 4 n->0 < n->Po (s*n) (s*E):=fun n hn n0=>⟨(ss.mul hn).mono (by decide),zse.mono (by decide),by rw [show s*n - s*E=s*(n - E) by grind]; exact(ss.mul (hn.sub zE)).mono (by decide),Rat.mul_pos s0 n0,pE'⟩
  subst es
  refine loop_all (P:=fun d=>∃ o i:Rat,d=.tup [fr o,fr i]/\Po o i) (fun L S'=>(∃ m4 m5 m6 m7 m8 m9 m10 m11 m12 m13 m14 m15 m16,L=[some (.ref p),some (PP x y),some (PP z v),some (W (z - x) (v - y)),m4,m5,m6,m7,m8,m9,m10,m11,m12,m13,m14,m15,m16])/\Ext T12 S') (fun L S' ⟨_,e⟩=>e _ _ y12) ?_ ?_ _ ?_ _ _ ⟨⟨_,_,_,_,_,_,_,_,_,_,_,_,_,rfl⟩,Ext.refl _⟩
  ·rintro d L S1 N1 ⟨o,i,rfl,hP⟩ ⟨⟨m4,m5,m6,m7,m8,m9,m10,m11,m12,m13,m14,m15,m16,rfl⟩,x1⟩ hN1
   have s00:Sz 1 (0:Rat):=⟨by decide,by decide⟩
   have sR:=s00.sub (((sA.mul hx).add (sB.mul hy)).add (sz_half.mul hP.sd))
   have s32:Sz 2 h32:=⟨by decide,by decide⟩
   have s15:Sz 3 q15:=⟨by decide,by decide⟩
   have ne:=ne_of_sq h0
   have t0:h32≠0:=by decide
   refine⟨([fr o,fr i],none),rfl,rfl,rfl,o,i,rfl,hP.so.mono (by decide),hP.si.mono (by decide),x,y,z - x,v - y,o - i,rfl,hx,hy,sA.mono (by decide),sB.mono (by decide),hP.sd.mono (by decide),fun S2 p2 e2 g2 x2 n2 l2 h2=>?_⟩
   have c2:=(l2.cv (m:=100) (sA.mono (by decide)) (sB.mono (by decide)) (sR.mono (by decide))).mono (n':=8) (m':=400) (b':=4) (by decide) (by decide) (by decide)
   have lin2:=l2.lin (sA.mono (by decide)) (sB.mono (by decide)) (sR.mono (by decide)) ne
   intro q hq e3
   have x3:Ext S2 (put S2 q (dTo [] e3)):=Ext.new hq
   refine⟨few,q,p2,[],g2,e3,e2,h32,rfl,put_same,x3 _ _ h2,(Cv.nil (m:=1) (b:=4)).mono (by decide) (by decide) (by decide),c2,s32.mono (by decide),fun S4 p4 e4 g4 x4 n4 r4 _ h4=>?_⟩
   have l4:=l2.times r4
   have lin4:=l4.lin ((sA.mul s32).mono (by decide)) ((sB.mul s32).mono (by decide)) ((sR.mul s32).mono (by decide)) (by
    rcases ne with n | n
    ·exact .inl fun z=>by rcases Rat.mul_eq_zero.mp z with y | y <;> contradiction
    ·exact .inr fun z=>by rcases Rat.mul_eq_zero.mp z with y | y <;> contradiction)
   have X4:=(x2.trans x3).trans x4
   have h24:=x4 _ _ (x3 _ _ h2)
   clear r4 n4 n2 x4 x3 hq
   intro q5 hq5 e5
   refine⟨few,few,e5,cvD [([0,0],q15)],put_same,rfl,by show 1<=15; decide,fun e6=>?_⟩
   have x6:Ext S4 (put (put S4 q5 (dTo [] e5)) q5 (dTo (mergeT [] (cvD [([0,0],q15)])) e6)):=(Ext.new hq5).put hq5
   have y6:put (put S4 q5 (dTo [] e5)) q5 (dTo (mergeT [] (cvD [([0,0],q15)])) e6) q5=some (dTo (cvD [([0,0],q15)]) e6):=put_same
   generalize put (put S4 q5 (dTo [] e5)) q5 (dTo (mergeT [] (cvD [([0,0],q15)])) e6)=S6 at x6 y6 ⊢
   have c15:Cv 8 400 4 [([0,0],q15)]:=⟨by decide,by decide,fun p hp=>by
    simp only [List.mem_cons,List.not_mem_nil,or_false] at hp
    subst hp
    exact⟨_,_,rfl,by decide,by decide,by decide,by decide⟩,fun p hp=>by
    simp only [List.mem_cons,List.not_mem_nil,or_false] at hp
    subst hp
    exact s15.mono (by decide)⟩
   refine⟨few,p2,q5,g2,[([0,0],q15)],e2,e6,1,rfl,x6 _ _ h24,y6,c2,c15,⟨by decide,by decide⟩,fun S7 p7 e7 g7 x7 n7 r7 _ h7=>?_⟩
   have l7:=l2.more r7
   have lin7:=l7.lin (sA.mono (by decide)) (sB.mono (by decide)) ((sR.add s15).mono (by decide)) ne
   have h27:=x7 _ _ (x6 _ _ h24)
   have h47:=x7 _ _ (x6 _ _ h4)
   have X7:=(X4.trans x6).trans x7
   clear r7 n7 x7 x6 y6 hq5
   refine⟨few,fun ql hql=>⟨([.ref p2,.ref p4,.ref p7],some ql),by simp only [dItems,put_same],?_⟩⟩
   have x8:Ext S7 (put S7 ql (.lst [.ref p2,.ref p4,.ref p7])):=Ext.new hql
   have y8:put S7 ql (.lst [.ref p2,.ref p4,.ref p7]) ql=some (.lst [.ref p2,.ref p4,.ref p7]):=put_same
   generalize put S7 ql (.lst [.ref p2,.ref p4,.ref p7])=S8 at x8 y8 ⊢
   have X8:=(x1.trans X7).trans x8
   have h28:=x8 _ _ h27
   have h48:=x8 _ _ h47
   have h78:=x8 _ _ h7
   refine loop_all (P:=fun d=>∃ a c e,d=.ref a/\S8 a=some (dTo (cvD c) e)/\Lin c) (fun L S'=>(∃ m4 m5 m6 m7 m8 m11 m12 m13 m14 m15 m16,L=[some (.ref p),some (PP x y),some (PP z v),some (W (z - x) (v - y)),m4,m5,m6,m7,m8,some (fr o),some (fr i),m11,m12,m13,m14,m15,m16])/\Ext S8 S') (fun L S' ⟨_,e⟩=>e _ _ y8) ?_ ?_ _ ?_ _ _ ⟨⟨_,_,_,_,_,_,_,_,_,_,_,rfl⟩,Ext.refl _⟩
   ·rintro d L S9 N2 ⟨a,c,e,rfl,ha,hc⟩ ⟨⟨m4,m5,m6,m7,m8,m11,m12,m13,m14,m15,m16,rfl⟩,x9⟩ hN2
    refine⟨a,c,e,x,y,z,v,o,i,rfl,x9 _ _ ha,hc,hx,hy,hz,hv,hP.so,hP.si,hP.sd,hP.o0,hP.i0,h0,fun Sa ra xa ea=>?_⟩
    refine⟨a,c,e,x,y,z,v,o,i,rfl,xa _ _ (x9 _ _ ha),hc,hx,hy,hz.mono (by decide),hv.mono (by decide),sA.mono (by decide),sB.mono (by decide),hP.so.mono (by decide),hP.si.mono (by decide),hP.sd.mono (by decide),sR.mono (by decide),h0,fun Sb rb xb eb=>?_⟩
    have er:ra=rb:=Bool.eq_iff_iff.mpr (ea.trans eb.symm)
    subst er
    have go:=hN2 [some (.ref p),some (PP x y),some (PP z v),some (W (z - x) (v - y)),m4,m5,m6,m7,m8,some (fr o),some (fr i),m11,m12,m13,some (.ref a),some (.bl ra),some (.bl ra)] Sb ⟨⟨_,_,_,_,_,_,_,_,_,_,_,rfl⟩,(x9.trans xa).trans xb⟩
    cases ra
    ·exact⟨_,rfl,true,rfl,go⟩
    ·exact⟨_,rfl,true,rfl,go⟩
   ·rintro L S9 ⟨⟨m4,m5,m6,m7,m8,m11,m12,m13,m14,m15,m16,rfl⟩,x9⟩
    exact hN1 _ _ ⟨⟨_,_,_,_,_,_,_,_,_,_,_,_,_,rfl⟩,X8.trans x9⟩
   ·intro d hd
    simp only [List.mem_cons,List.not_mem_nil,or_false] at hd
    rcases hd with rfl | rfl | rfl
    ·exact⟨_,_,_,rfl,h28,lin2⟩
    ·exact⟨_,_,_,rfl,h48,lin4⟩
    ·exact⟨_,_,_,rfl,h78,lin7⟩
  ·rintro L S1 ⟨_,x1⟩
   exact w S1 (D12.ext x1)
  ·intro d hd
   simp only [List.mem_cons,List.not_mem_nil,or_false] at hd
   rcases hd with rfl | rfl | rfl | rfl | rfl
   ·exact⟨_,_,rfl,z2.mono (by decide),z1.mono (by decide),(z2.sub z1).mono (by decide),p2,p1⟩
   ·exact⟨_,_,rfl,z1.mono (by decide),z1.mono (by decide),(z1.sub z1).mono (by decide),p1,p1⟩
   ·exact⟨_,_,rfl,(z1.add zQ).mono (by decide),z1.mono (by decide),by rw [told_d]; exact zQ.mono (by decide),by grind,p1⟩
   ·exact⟨_,_,rfl,P9 9 s9 (by decide)⟩
   ·exact⟨_,_,rfl,P9 4 (s4.mono (by decide)) (by decide)⟩
set_option maxHeartbeats 4000000
theorem seq_ifx {c:DT} {t e b2:DS} {M:DEnds} {L:Lo} {S:DH} (P:Lo->DH->Prop) (h2:∀ L S,P L S->b2 M L S) (h1:(∀ L S,P L S->b2 M L S)->dIfS c t e {M with nx:=b2 M} L S):dSeq (dIfS c t e) b2 M L S:=h1 h2
theorem L3.isS {a b r:Rat} {g:List (List Int×Rat)} (h:L3 a b r g) (k:List Int):(getT (cvD g) k).isSome=false↔gR g k=0:=by
 rcases key_or (z:=(0:Rat)) k h.res.nd with q | q
 ·rw [show getT (cvD g) k=none from getT_none q]
  exact⟨fun _=>gA_none q,fun _=>rfl⟩
 ·rw [show getT (cvD g) k=some (fr (gR g k)) from getT_some h.res.nd q]
  exact⟨fun z=>(nomatch z),fun z=>absurd z (h.res.n0 _ q)⟩
abbrev lamQ:Str:="law"++".<locals>."++"<lambda>"
abbrev tb:DO:=.tbl fun H ps=>TblOk H lamQ ps
def F_law (pT:Addr):DSp:=fun ds S k=>∃ ns:List Int,ds=[.rl (List.map D.int ns)]/\ns.length<=63/\S pT=some tb/\∀ S',k (.bl true) S'
theorem sc_law:FnScope ["script","k","state","sums","line","value","at","bent","middle","about"] ["script"] (defScope s_law):=⟨rfl,rfl,rfl,by decide +kernel,rfl,by decide +kernel,by decide +kernel⟩
theorem ok_law {P:Program} {w:World} {K:Fg} {mg:Str->Option Value} {base:Heap} {f:Addr} {fd:FuncData} {cM_law cNoCurve pT_law:Addr} (Fn:Fun K "law" "law" s_law f fd) (c__law_state:Own P w K mg base "_law_state" 2 F__law_state) (c__law_plain_point:Own P w K mg base "_law_plain_point" 4 F__law_plain_point) (c__law_own_right:Own P w K mg base "_law_own_right" 10 F__law_own_right) (c__law_small:Own P w K mg base "_law_small" 3 F__law_small) (c__law_added:Own P w K mg base "_law_added" 4 F__law_added) (c__law_plus:Own P w K mg base "_law_plus" 3 F__law_plus) (c__law_times:Own P w K mg base "_law_times" 3 F__law_times) (c__law_refused:OwnR P w K mg base "_law_refused" 7 (FrefH [(6,cNoCurve)] 6 P w K mg base)) (c__law_told_right:Own P w K mg base "_law_told_right" 7 F__law_told_right) (cx_line_cell:OwnX P w K mg base "line_cell" 5 (FX_line_cell cNoCurve)) (z_range:mg "range"=none) (z_max:mg "max"=none) (z_min:mg "min"=none) (z_len:mg "len"=none) (z_dict:mg "dict"=none) (hfc:fd.code=.ref cM_law) (hCd:PySem.W.CodeHd base cM_law pT_law) (hBl:BltB mg base):
  FnOk P w K mg base CX0 11 f fd ["script"] (spU K (F_law pT_law)):=by
 refine Fn.okC hfc sc_law (fun ds S k h=>?_) (fun A outer s H E hr=>⟨_,(ds_consj (dst_forRj PassesOwn.never rfl rfl z_range (da_consj (d_callBj b_max rfl z_max bt_max (da_consj d_intj (da_consj (d_callBj b_min rfl z_min bt_min (da_consj (d_callBj b_lenE rfl z_len bt_len (da_consj (d_varj 0) da_nilj)) (da_consj d_intj da_nilj))) da_nilj))) da_nilj) (dg_namej (i:=1) sc_law.nd) (ds_consj (dst_setj (i:=2) sc_law.nd (d_callj c__law_state (hr.mono (by decide)) rfl (da_consj (d_varj 0) (da_consj (d_varj 1) da_nilj)))) (ds_consj (dst_asgj (d_tupj (da_consj (d_callj c__law_plain_point (hr.mono (by decide)) rfl (da_consj (d_varj 2) da_nilj)) (da_consj (d_callj c__law_plain_point (hr.mono (by decide)) rfl (da_consj (d_varj 2) da_nilj)) da_nilj))) (dg_seqE (n:=2) rfl (dgs_consj (dg_namej (i:=8) sc_law.nd) (dgs_consj (dg_namej (i:=9) sc_law.nd) dgs_nilj)))) (ds_consj (dst_ifj (WJ.pt (dw_andj (dt_cmpj (o_neX hr) (d_varj 8) (d_varj 9) (nomark _)) (dw_and1j (dt_notj (dt_valj (d_callj c__law_own_right (hr.mono (by decide)) rfl (da_consj (d_varj 2) (da_consj (d_varj 8) (da_consj (d_varj 9) da_nilj))))))))) (ds_onej (dst_retj d_blj)) ds_nilj) (ds_consj (dst_setj (i:=3) sc_law.nd (d_dispj hr (pj_cons (d_tupj (da_consj d_intj (da_consj d_intj da_nilj))) (d_callj c__law_small (hr.mono (by decide)) rfl (da_consj (d_varj 2) da_nilj)) (pj_cons (d_tupj (da_consj d_intj (da_consj d_intj da_nilj))) (d_callj c__law_small (hr.mono (by decide)) rfl (da_consj (d_varj 2) da_nilj)) pj_nil)))) (ds_consj (dst_asgj (d_callj c__law_small (hr.mono (by decide)) rfl (da_consj (d_varj 2) da_nilj)) (dg_subD hr (d_varj 3) (d_tupj (da_consj d_intj (da_consj d_intj da_nilj))))) (ds_consj (dst_setj (i:=4) sc_law.nd (d_callj c__law_added (hr.mono (by decide)) rfl (da_consj d_dnewj (da_consj (d_varj 3) (da_consj (d_tupj (da_consj d_intj (da_consj d_intj da_nilj))) da_nilj))))) (ds_consj (dst_setj (i:=5) sc_law.nd (d_get2j hr (d_varj 4) (d_tupj (da_consj d_intj (da_consj d_intj da_nilj))) (d_tupj (da_consj d_intj (da_consj d_intj da_nilj))))) (ds_consj (dst_forRj PassesOwn.never rfl rfl z_range (da_consj d_intj da_nilj) (dg_namej (i:=6) sc_law.nd) (ds_onej (dst_setj (i:=5) sc_law.nd (d_callj c__law_plus (hr.mono (by decide)) rfl (da_consj (d_varj 5) (da_consj (d_callj c__law_times (hr.mono (by decide)) rfl (da_consj (d_get2j hr (d_varj 4) (d_tupj (da_consj (d_opj o_sub d_intj (d_varj 6)) (da_consj (d_varj 6) da_nilj))) (d_tupj (da_consj d_intj (da_consj d_intj da_nilj)))) (da_consj (d_ixj x_ixE (d_ixj x_ixE (d_varj 8) (d_varj 6) (fun _ _=>rfl)) d_intj (fun _ _=>rfl)) da_nilj))) da_nilj)))))) (ds_consj (dst_ifj (WJ.pt (dw_orj (WJ.pt (dw_andj (dt_cmpj (o_notInD hr) (d_tupj (da_consj d_intj (da_consj d_intj da_nilj))) (d_varj 4) (by with_unfolding_all rfl)) (dw_and1j (dt_cmpj (o_notInD hr) (d_tupj (da_consj d_intj (da_consj d_intj da_nilj))) (d_varj 4) (by with_unfolding_all rfl))))) (dw_or1j (dt_cmpj (o_eqX hr) (d_ixj x_ixE (d_varj 5) d_intj (fun _ _=>rfl)) d_intj (nomark _))))) (ds_onej (dst_ifj (dt_cmpj (o_neX hr) (d_refLHj rfl rfl c__law_refused (hr.mono (by decide)) rfl hCd hBl rfl (lamCap (N:=["line","middle"]) (cap:=[some 4,some 8]) rfl rfl rfl rfl rfl rfl ⟨rfl,rfl,trivial⟩ (fun _=>rfl) rfl ⟨⟨rfl,.inl rfl⟩,⟨rfl,.inl rfl⟩,trivial⟩) (fun _ _ _=>rfl) (fun g H ex A outer s cv hr=>(d_callLj cx_line_cell (hr.mono (by decide)) rfl (da_consj (d_varj 0) (da_consj (d_varj 1) da_nilj))))) (d_lstj (da_consj d_intj da_nilj)) (nomark _)) (ds_onej (dst_retj d_blj)) ds_nilj)) (ds_onej (dst_ifj (dt_notj (dt_valj (d_callj c__law_told_right (hr.mono (by decide)) rfl (da_consj (d_varj 4) (da_consj (d_varj 8) da_nilj))))) (ds_onej (dst_retj d_blj)) ds_nilj))) (ds_consj (dst_setj (i:=7) sc_law.nd (d_callTj (b_dict hr) rfl z_dict bt_dict (da_consj (d_varj 4) da_nilj))) (ds_consj (dst_asgj (d_tupj (da_consj d_intj (da_consj d_intj da_nilj))) (dg_subD hr (d_varj 7) (d_tupj (da_consj d_intj (da_consj d_intj da_nilj))))) (ds_onej (dst_ifj (dt_cmpj (o_neX hr) (d_refLHj rfl rfl c__law_refused (hr.mono (by decide)) rfl hCd hBl rfl (lamCap (N:=["bent","middle"]) (cap:=[some 7,some 8]) rfl rfl rfl rfl rfl rfl ⟨rfl,rfl,trivial⟩ (fun _=>rfl) rfl ⟨⟨rfl,.inl rfl⟩,⟨rfl,.inl rfl⟩,trivial⟩) (fun _ _ _=>rfl) (fun g H ex A outer s cv hr=>(d_callLj cx_line_cell (hr.mono (by decide)) rfl (da_consj (d_varj 0) (da_consj (d_varj 1) da_nilj))))) (d_lstj (da_consj d_intj da_nilj)) (nomark _)) (ds_onej (dst_retj d_blj)) ds_nilj)))))))))))))) (ds_onej (dst_retj d_blj))),fun ds S k h=>?_⟩)
 ·obtain⟨_,rfl,_⟩:=h
  rfl
 ·obtain⟨ns,rfl,hl,hT,w⟩:=h
  have hb:∀ z:Int,0<=z->z<=63->-(2 ^ 62)<=z/\z < 2 ^ 62:=fun z _ _=>by omega
  refine⟨hb _ (by split <;> (try split) <;> omega) (by rw [List.length_map]; split <;> (try split) <;> omega),?_⟩
  refine loop_all (P:=fun d=>∃ i:Int,d=.int i/\0<=i) (fun L S'=>(∃ r1 r2 r3 r4 r5 r6 r7 r8 r9,L=[some (.rl (List.map D.int ns)),r1,r2,r3,r4,r5,r6,r7,r8,r9])/\S' pT_law=some tb) (fun _ _ _=>trivial) ?_ (fun L S' _=>w S') _ ?_ _ _ ⟨⟨_,_,_,_,_,_,_,_,_,rfl⟩,hT⟩
  ·rintro d L S1 Nx ⟨i,rfl,hi⟩ ⟨⟨r1,r2,r3,r4,r5,r6,r7,r8,r9,rfl⟩,hT1⟩ hN
   refine⟨ns,i,rfl,hi,fun p n0 b hp hnb=>?_⟩
   have pT:pT_law≠p:=fun z=>by rw [z,hp] at hT1; cases hT1
   have hS:SOK (put S1 p (.lst [.int n0,.bl b])) p:=⟨n0,b,put_same,hnb⟩
   have t1:put S1 p (.lst [.int n0,.bl b]) pT_law=some tb:=by rw [put_ne pT]; exact hT1
   generalize put S1 p (.lst [.int n0,.bl b])=T1 at hS t1 ⊢
   refine⟨p,rfl,hS,fun x y T2 hx hy d2=>⟨p,rfl,d2.1,fun z v T3 hz hv d3=>⟨few,([PP x y,PP z v],none),rfl,rfl,rfl,?_⟩⟩⟩
   have t3:=d3.keep pT (d2.keep pT t1)
   dsimp only
   refine seq_ifx (fun L S'=>L=[some (.rl (List.map D.int ns)),some (.int i),some (.ref p),r3,r4,r5,r6,r7,some (PP x y),some (PP z v)]/\Dr p T3 S') ?_ (fun go=>?_)
   rotate_left
   ·have none:∀ T4,Dr p T3 T4->_:=fun T4 d4=>go [some (.rl (List.map D.int ns)),some (.int i),some (.ref p),r3,r4,r5,r6,r7,some (PP x y),some (PP z v)] T4 ⟨rfl,d4⟩
    refine⟨_,eq_PP,ite_ndec (fun ne=>?_) (fun _=>none T3 ⟨d3.1,fun _ _ _ h=>h⟩)⟩
    exact⟨p,x,y,z,v,rfl,d3.1,hx,hy,hz,hv,fun e=>ne (by have:=sq_zero e; exact⟨by grind,by grind⟩),fun T4 d4=>ite_nb (fun z=>by cases z) (fun _=>none T4 d4)⟩
   rintro L S4 ⟨rfl,d4⟩
   have t4:=d4.keep pT t3
   clear d2 d3 t3 t1 hS hT1 hp hnb
   intro ps hps e0
   have nps:ps≠p:=d4.1.ne hps
   have k0:SOK (put S4 ps (dTo [] e0)) p:=d4.1.new hps
   have t5:=put_keep (o:=dTo [] e0) hps t4
   have y5:put S4 ps (dTo [] e0) ps=some (dTo [] e0):=put_same
   generalize put S4 ps (dTo [] e0)=S5 at k0 t5 y5 ⊢
   refine⟨few,p,rfl,k0,fun a S6 za d6=>⟨few,p,rfl,d6.1,fun b S7 zb d7=>⟨e0,cvD [([1,0],a),([0,1],b)],d7.keep nps (d6.keep nps y5),rfl,by show 2<=15; decide,fun e8=>?_⟩⟩⟩
   have k8:SOK (put S7 ps (dTo (mergeT [] (cvD [([1,0],a),([0,1],b)])) e8)) p:=d7.1.set nps
   have t7:=d7.keep pT (d6.keep pT t5)
   have npt:pT_law≠ps:=fun z=>by rw [z,y5] at t5; cases t5
   have t8:put S7 ps (dTo (mergeT [] (cvD [([1,0],a),([0,1],b)])) e8) pT_law=some tb:=by rw [put_ne npt]; exact t7
   have y8:put S7 ps (dTo (mergeT [] (cvD [([1,0],a),([0,1],b)])) e8) ps=some (dTo (cvD [([1,0],a),([0,1],b)]) e8):=by rw [put_same,mergeT_nd (f:=fr) (by show(([[1,0],[0,1]]:List (List Int))).Nodup; decide)]
   generalize put S7 ps (dTo (mergeT [] (cvD [([1,0],a),([0,1],b)])) e8)=S8 at k8 t8 y8 ⊢
   refine⟨p,rfl,k8,fun r S9 zr d9=>⟨few,_,_,[0,0],d9.keep nps y8,rfl,by rw [kvD_len]; exact lim (by show 2<=100; decide),fun e10=>?_⟩⟩
   have t10:put S9 ps (dTo (putT (cvD [([1,0],a),([0,1],b)]) [0,0] (fr r)) e10) pT_law=some tb:=by rw [put_ne npt]; exact d9.keep pT t8
   have y10:put S9 ps (dTo (putT (cvD [([1,0],a),([0,1],b)]) [0,0] (fr r)) e10) ps=some (dTo (cvD (ln3 a b r)) e10):=by
    rw [put_same,putT_app (f:=fr) (l:=[([1,0],a),([0,1],b)]) (k:=[0,0]) (x:=r) (by show([0,0]:List Int)∉([[1,0],[0,1]]:List (List Int)); decide)]
    rfl
   generalize put S9 ps (dTo (putT (cvD [([1,0],a),([0,1],b)]) [0,0] (fr r)) e10)=S10 at t10 y10 ⊢
   clear d4 d6 d7 d9 t8 t7 t5 t4 k0 k8 y5 y8 hps
   intro q hq e11
   refine⟨few,q,ps,[],ln3 a b r,e11,e10,1,rfl,put_same,put_keep hq y10,(Cv.nil (m:=1) (b:=4)).mono (by decide) (by decide) (by decide),cv3 (za.mono (by decide)) (zb.mono (by decide)) (zr.mono (by decide)),⟨by decide,by decide⟩,fun S12 p12 e12 g x12 n12 r12 _ h12=>?_⟩
   have l3:=L3.once r12
   have t12:=x12 _ _ (put_keep (o:=dTo [] e11) hq t10)
   clear r12 n12 x12 hq
   have cg:=(l3.cv (m:=4) za zb zr).mono (n':=8) (m':=4) (b':=4) (by decide) (by decide) (by decide)
   have G:∀ k,(getT (cvD g) k).getD (.tup [.int 0,.int 1])=fr (gR g k):=fun k=>getT_gA (f:=fr) (z:=0)
   refine⟨⟨_,_,h12⟩,few,few,_,_,[0,0],h12,rfl,?_⟩
   rw [G,l3.g3]
   refine⟨⟨by decide,by decide⟩,?_⟩
   show dLoop _ _ _ _ [.int 0,.int 1] _ _
   refine⟨trivial,⟨_,_,h12⟩,few,few,_,_,[1,0],h12,rfl,?_⟩
   rw [G,l3.g1]
   have sax:=za.mul hx
   have s1:=zr.add sax
   have sby:=zb.mul hy
   refine⟨_,_,_,_,_,rfl,den_mul_ne (a) (x),(za).num.mono (by decide),(za).den.mono (by decide),(hx).num.mono (by decide),(hx).den.mono (by decide),mul_of (a) (x),_,_,_,_,_,rfl,den_mul_ne (r) (a*x),(zr).num.mono (by decide),(zr).den.mono (by decide),(sax).num.mono (by decide),(sax).den.mono (by decide),add_of (r) (a*x),trivial,⟨_,_,h12⟩,few,few,_,_,[0,1],h12,rfl,?_⟩
   rw [G,l3.g2]
   refine⟨_,_,_,_,_,rfl,den_mul_ne (b) (y),(zb).num.mono (by decide),(zb).den.mono (by decide),(hy).num.mono (by decide),(hy).den.mono (by decide),mul_of (b) (y),_,_,_,_,_,rfl,den_mul_ne (r+a*x) (b*y),(s1).num.mono (by decide),(s1).den.mono (by decide),(sby).num.mono (by decide),(sby).den.mono (by decide),add_of (r+a*x) (b*y),trivial,?_⟩
   have s2:=s1.add sby
   dsimp only
   refine seq_ifx (fun L S'=>(∃ m7,L=[some (.rl (List.map D.int ns)),some (.int i),some (.ref p),some (.ref ps),some (.ref p12),some (fr (r+a*x+b*y)),some (.int 1),m7,some (PP x y),some (PP z v)])/\Ext S12 S') ?_ (fun go=>?_)
   rotate_left
   ·have go':=fun S' (X:Ext S12 S')=>go [some (.rl (List.map D.int ns)),some (.int i),some (.ref p),some (.ref ps),some (.ref p12),some (fr (r+a*x+b*y)),some (.int 1),r7,some (PP x y),some (PP z v)] S' ⟨⟨_,rfl⟩,X⟩
    have nd1:a=0->b=0->¬ Deg g 1:=fun a0 b0 hd=>by
     obtain⟨⟨q,hq,e⟩,_⟩:=hd
     obtain⟨n,e2⟩:=l3.res.mem.mp hq
     have e2:gR (ln3 a b r) q.1=q.2:=e2
     rcases l3.keys q hq with k | k | k
     ·rw [k] at e2; exact n (by rw [<- e2]; exact a0)
     ·rw [k] at e2; exact n (by rw [<- e2]; exact b0)
     ·rw [k] at e; exact absurd e (by decide)
    have nv:∀ {t:Bool},((r+a*x+b*y).num == 0)=t->(t=true↔a*x+b*y+r=0):=fun {t} h=>by
     rw [<- h,beq_iff_eq,Rat.num_eq_zero]
     constructor <;> intro z <;> grind
    have i1:=l3.isS [1,0]
    have i2:=l3.isS [0,1]
    rw [l3.g1] at i1
    rw [l3.g2] at i2
    refine⟨few,_,_,[1,0],h12,rfl,ite_b (fun z1=>⟨few,_,_,[0,1],h12,rfl,ite_b (fun z2=>?_) (fun z2=>⟨_,eq_int,ite_b (fun z3=>?_) (fun z3=>⟨p12,g,e12,a,b,r,x,y,rfl,h12,l3,za,zb,zr,hx,hy,fun z=>?_,fun z=>?_,fun S' X=>ite_nb (fun z=>by cases z) (fun _=>go' S' X)⟩)⟩)⟩) (fun z1=>⟨_,eq_int,ite_b (fun z3=>?_) (fun z3=>⟨p12,g,e12,a,b,r,x,y,rfl,h12,l3,za,zb,zr,hx,hy,fun z=>?_,fun z=>?_,fun S' X=>ite_nb (fun z=>by cases z) (fun _=>go' S' X)⟩)⟩)⟩
    ·have hc:¬ Deg g 1\/a*x+b*y+r=0:=.inl (nd1 (i1.mp (by simpa using z1)) (i2.mp (by simpa using z2)))
     refine⟨t12,fun gg hg=>?_⟩
     have ag:p12≠gg:=ne_put h12 hg
     refine⟨gg,6,_,rfl,put_same,List.mem_cons_self,fun S4 e4=>⟨p12,g,e12,x,y,rfl,e4 p12 _ ag (by rw [put_ne ag]; exact h12),cg,hx,hy,by rw [l3.g1,l3.g2,l3.g3]; exact hc,fun S5 x5=>⟨rfl,x5⟩⟩,fun p1 S4 e4 hp1=>⟨few,fun q1 hq1=>?_⟩⟩
     have pq:p1≠q1:=fun z=>by rw [z,put_same] at hq1; cases hq1
     have ee:=(((Ext.new hg).trans e4).trans (Ext.new (o:=.lst [.int 6]) hp1)).trans (Ext.new (o:=.lst [.int 6]) hq1)
     exact⟨[.int 6],[.int 6],true,by rw [put_ne pq]; exact put_same,put_same,rfl,rfl,go' _ ee⟩
    ·have hc:¬ Deg g 1\/a*x+b*y+r=0:=.inr ((nv rfl).mp z3)
     refine⟨t12,fun gg hg=>?_⟩
     have ag:p12≠gg:=ne_put h12 hg
     refine⟨gg,6,_,rfl,put_same,List.mem_cons_self,fun S4 e4=>⟨p12,g,e12,x,y,rfl,e4 p12 _ ag (by rw [put_ne ag]; exact h12),cg,hx,hy,by rw [l3.g1,l3.g2,l3.g3]; exact hc,fun S5 x5=>⟨rfl,x5⟩⟩,fun p1 S4 e4 hp1=>⟨few,fun q1 hq1=>?_⟩⟩
     have pq:p1≠q1:=fun z=>by rw [z,put_same] at hq1; cases hq1
     have ee:=(((Ext.new hg).trans e4).trans (Ext.new (o:=.lst [.int 6]) hp1)).trans (Ext.new (o:=.lst [.int 6]) hq1)
     exact⟨[.int 6],[.int 6],true,by rw [put_ne pq]; exact put_same,put_same,rfl,rfl,go' _ ee⟩
    ·have:=i2.mpr (sq_zero z).2
     rw [this] at z2
     cases z2
    ·have:=(nv z3).mpr z
     cases this
    ·have hc:¬ Deg g 1\/a*x+b*y+r=0:=.inr ((nv rfl).mp z3)
     refine⟨t12,fun gg hg=>?_⟩
     have ag:p12≠gg:=ne_put h12 hg
     refine⟨gg,6,_,rfl,put_same,List.mem_cons_self,fun S4 e4=>⟨p12,g,e12,x,y,rfl,e4 p12 _ ag (by rw [put_ne ag]; exact h12),cg,hx,hy,by rw [l3.g1,l3.g2,l3.g3]; exact hc,fun S5 x5=>⟨rfl,x5⟩⟩,fun p1 S4 e4 hp1=>⟨few,fun q1 hq1=>?_⟩⟩
     have pq:p1≠q1:=fun z=>by rw [z,put_same] at hq1; cases hq1
     have ee:=(((Ext.new hg).trans e4).trans (Ext.new (o:=.lst [.int 6]) hp1)).trans (Ext.new (o:=.lst [.int 6]) hq1)
     exact⟨[.int 6],[.int 6],true,by rw [put_ne pq]; exact put_same,put_same,rfl,rfl,go' _ ee⟩
    ·have:=i1.mpr (sq_zero z).1
     rw [this] at z1
     cases z1
    ·have:=(nv z3).mpr z
     cases this
   rintro L S13 ⟨⟨m7,rfl⟩,x13⟩
   have h13:=x13 _ _ h12
   have t13:=x13 _ _ t12
   clear x13 h12 t12
   have gl:=cg.hl
   have nk:([2,0]:List Int)∉g.map (·.1):=fun z=>by
    obtain⟨q,hq,e⟩:=List.mem_map.mp z
    rcases l3.keys q hq with k | k | k <;> rw [k] at e <;> exact absurd e (by decide)
   have g3:=(l3.cv (m:=4) za zb zr)
   have cb:Cv 8 4 4 (g++[([2,0],1)]):=⟨by
    rw [List.map_append,List.nodup_append]
    refine⟨cg.nd,by simp,fun u hu w hw=>?_⟩
    have:w=[2,0]:=by simpa using hw
    rw [this]
    exact fun z=>nk (z▸hu),by rw [List.length_append]; have:=g3.hl; show g.length+1<=8; omega,fun q hq=>by
    rcases List.mem_append.mp hq with m | m
    ·exact cg.sm q m
    ·rw [List.mem_singleton.mp m]
     exact⟨_,_,rfl,by decide,by decide,by decide,by decide⟩,fun q hq=>by
    rcases List.mem_append.mp hq with m | m
    ·exact cg.hz q m
    ·rw [List.mem_singleton.mp m]
     exact⟨by decide,by decide⟩⟩
   have nd2:¬ Deg (g++[([2,0],1)]) 1:=fun hd=>by
    have:=hd.2 ([2,0],1) (by simp)
    exact absurd this (by decide)
   refine .inl ⟨_,_,h13,cg.hash,fun pb hpb eb=>⟨few,few,_,_,[2,0],put_same,rfl,by rw [kvD_len]; exact lim (by omega),fun ec=>?_⟩⟩
   have y15:put (put S13 pb (dTo (cvD g) eb)) pb (dTo (putT (cvD g) [2,0] (.tup [.int 1,.int 1])) ec) pb=some (dTo (cvD (g++[([2,0],1)])) ec):=by
    rw [put_same,show(D.tup [.int 1,.int 1])=fr 1 from rfl,putT_app (f:=fr) (l:=g) (k:=[2,0]) (x:=1) nk]
   have t15:put (put S13 pb (dTo (cvD g) eb)) pb (dTo (putT (cvD g) [2,0] (.tup [.int 1,.int 1])) ec) pT_law=some tb:=((Ext.new hpb).put hpb) _ _ t13
   generalize put (put S13 pb (dTo (cvD g) eb)) pb (dTo (putT (cvD g) [2,0] (.tup [.int 1,.int 1])) ec)=S15 at y15 t15 ⊢
   refine⟨t15,fun gg hg=>?_⟩
   have ag:pb≠gg:=ne_put y15 hg
   refine⟨gg,6,_,rfl,put_same,List.mem_cons_self,fun S4 e4=>⟨pb,_,ec,x,y,rfl,e4 pb _ ag (by rw [put_ne ag]; exact y15),cb,hx,hy,.inl nd2,fun S5 x5=>⟨rfl,x5⟩⟩,fun p1 S4 e4 hp1=>⟨few,fun q1 hq1=>?_⟩⟩
   have pq:p1≠q1:=fun z=>by rw [z,put_same] at hq1; cases hq1
   have ee:=(((Ext.new hg).trans e4).trans (Ext.new (o:=.lst [.int 6]) hp1)).trans (Ext.new (o:=.lst [.int 6]) hq1)
   exact⟨[.int 6],[.int 6],true,by rw [put_ne pq]; exact put_same,put_same,rfl,rfl,hN _ _ ⟨⟨_,_,_,_,_,_,_,_,_,rfl⟩,ee _ _ t15⟩⟩
  ·intro d hd
   obtain⟨z,_,rfl⟩:=List.mem_map.mp hd
   exact⟨_,rfl,by omega⟩
theorem law_ask (pT:Addr) (ns:List Int) (h:ns.length<=63):F_law pT [.rl (List.map D.int ns)] (tab0 [(pT,lamQ)]) (fun d _=>d=.bl true):=⟨ns,rfl,h,by simp [tab0],fun _=>rfl⟩
end My
def PySem.W.Fast.tw5178657512282334888:Unit:=()
def PySem.W.Fast.tw1791394606565987492:Unit:=()
def PySem.W.Fast.tw9732600848919194771:Unit:=()
def PySem.W.Fast.tw15994665027991946884:Unit:=()
def PySem.W.Fast.tw10578955271034786874:Unit:=()
def PySem.W.Fast.tw17313305213368834060:Unit:=()
def PySem.W.Fast.tw14965011814563032663:Unit:=()
def PySem.W.Fast.tw166087902220802345:Unit:=()
def PySem.W.Fast.tw680865838397600968:Unit:=()
def PySem.W.Fast.tw11319443404293345142:Unit:=()
def PySem.W.Fast.tw9189833225846447731:Unit:=()
def PySem.W.Fast.tw11367709111564071944:Unit:=()
def PySem.W.Fast.tw10451768944811783780:Unit:=()
def PySem.W.Fast.tw9462592438268100301:Unit:=()
def PySem.W.Fast.tw10441463837020833928:Unit:=()
def PySem.W.Fast.tw9105622206602294569:Unit:=()
def PySem.W.Fast.tw3885012731475641506:Unit:=()
namespace My
open PySem PySem.Spec PyProof.Rows L2 DL HM
set_option maxHeartbeats 4000000
theorem all_mk {l:PySem.W.OpenLaw} {w:World} {K:Fg} {h:Heap} {mg:Str->Option Value} {fa:Addr} (X:K.In h) (G:h.Ns mainGlobals mg) (hfa:mg "law"=some (.ref fa))
  {f1:Addr} {od1 an1:Option Addr} {sl1:Array (Option Value)} {oc1 kV1 dc1 pm1 cd1 ct1:Value}
  {f2:Addr} {od2 an2:Option Addr} {sl2:Array (Option Value)} {oc2 kV2 dc2 pm2 cd2 ct2:Value}
  {f3:Addr} {od3 an3:Option Addr} {sl3:Array (Option Value)} {oc3 kV3 dc3 pm3 cd3 ct3:Value}
  {f4:Addr} {od4 an4:Option Addr} {sl4:Array (Option Value)} {oc4 kV4 dc4 pm4 cd4 ct4:Value}
  {f5:Addr} {od5 an5:Option Addr} {sl5:Array (Option Value)} {oc5 kV5 dc5 pm5 cd5 ct5:Value}
  {f6:Addr} {od6 an6:Option Addr} {sl6:Array (Option Value)} {oc6 kV6 dc6 pm6 cd6 ct6:Value}
  {f7:Addr} {od7 an7:Option Addr} {sl7:Array (Option Value)} {oc7 kV7 dc7 pm7 cd7 ct7:Value}
  {f8:Addr} {od8 an8:Option Addr} {sl8:Array (Option Value)} {oc8 kV8 dc8 pm8 cd8 ct8:Value}
  {f9:Addr} {od9 an9:Option Addr} {sl9:Array (Option Value)} {oc9 kV9 dc9 pm9 cd9 ct9:Value}
  {f10:Addr} {od10 an10:Option Addr} {sl10:Array (Option Value)} {oc10 kV10 dc10 pm10 cd10 ct10:Value}
  {f11:Addr} {od11 an11:Option Addr} {sl11:Array (Option Value)} {oc11 kV11 dc11 pm11 cd11 ct11:Value}
  {f12:Addr} {od12 an12:Option Addr} {sl12:Array (Option Value)} {oc12 kV12 dc12 pm12 cd12 ct12:Value}
  {f13:Addr} {od13 an13:Option Addr} {sl13:Array (Option Value)} {oc13 kV13 dc13 pm13 cd13 ct13:Value}
  {f14:Addr} {od14 an14:Option Addr} {sl14:Array (Option Value)} {oc14 kV14 dc14 pm14 cd14 ct14:Value}
  {f15:Addr} {od15 an15:Option Addr} {sl15:Array (Option Value)} {oc15 kV15 dc15 pm15 cd15 ct15:Value}
  {f16:Addr} {od16 an16:Option Addr} {sl16:Array (Option Value)} {oc16 kV16 dc16 pm16 cd16 ct16:Value}
  {f17:Addr} {od17 an17:Option Addr} {sl17:Array (Option Value)} {oc17 kV17 dc17 pm17 cd17 ct17:Value}
  {f18:Addr} {od18 an18:Option Addr} {sl18:Array (Option Value)} {oc18 kV18 dc18 pm18 cd18 ct18:Value}
  {f19:Addr} {od19 an19:Option Addr} {sl19:Array (Option Value)} {oc19 kV19 dc19 pm19 cd19 ct19:Value}
  {f20:Addr} {od20 an20:Option Addr} {sl20:Array (Option Value)} {oc20 kV20 dc20 pm20 cd20 ct20:Value}
  {f21:Addr} {od21 an21:Option Addr} {sl21:Array (Option Value)} {oc21 kV21 dc21 pm21 cd21 ct21:Value}
  {f22:Addr} {od22 an22:Option Addr} {sl22:Array (Option Value)} {oc22 kV22 dc22 pm22 cd22 ct22:Value}
  {f23:Addr} {od23 an23:Option Addr} {sl23:Array (Option Value)} {oc23 kV23 dc23 pm23 cd23 ct23:Value}
  {f24:Addr} {od24 an24:Option Addr} {sl24:Array (Option Value)} {oc24 kV24 dc24 pm24 cd24 ct24:Value}
  {f25:Addr} {od25 an25:Option Addr} {sl25:Array (Option Value)} {oc25 kV25 dc25 pm25 cd25 ct25:Value}
  {f26:Addr} {od26 an26:Option Addr} {sl26:Array (Option Value)} {oc26 kV26 dc26 pm26 cd26 ct26:Value}
  {f27:Addr} {od27 an27:Option Addr} {sl27:Array (Option Value)} {oc27 kV27 dc27 pm27 cd27 ct27:Value}
  {f28:Addr} {od28 an28:Option Addr} {sl28:Array (Option Value)} {oc28 kV28 dc28 pm28 cd28 ct28:Value}
  {f29:Addr} {od29 an29:Option Addr} {sl29:Array (Option Value)} {oc29 kV29 dc29 pm29 cd29 ct29:Value}
  {f30:Addr} {od30 an30:Option Addr} {sl30:Array (Option Value)} {oc30 kV30 dc30 pm30 cd30 ct30:Value}
  {f31:Addr} {od31 an31:Option Addr} {sl31:Array (Option Value)} {oc31 kV31 dc31 pm31 cd31 ct31:Value}
  {f32:Addr} {od32 an32:Option Addr} {sl32:Array (Option Value)} {oc32 kV32 dc32 pm32 cd32 ct32:Value}
  {f33:Addr} {od33 an33:Option Addr} {sl33:Array (Option Value)} {oc33 kV33 dc33 pm33 cd33 ct33:Value}
  {f34:Addr} {od34 an34:Option Addr} {sl34:Array (Option Value)} {oc34 kV34 dc34 pm34 cd34 ct34:Value}
  {f35:Addr} {od35 an35:Option Addr} {sl35:Array (Option Value)} {oc35 kV35 dc35 pm35 cd35 ct35:Value}
  {f36:Addr} {od36 an36:Option Addr} {sl36:Array (Option Value)} {oc36 kV36 dc36 pm36 cd36 ct36:Value}
  {f37:Addr} {od37 an37:Option Addr} {sl37:Array (Option Value)} {oc37 kV37 dc37 pm37 cd37 ct37:Value}
  {f38:Addr} {od38 an38:Option Addr} {sl38:Array (Option Value)} {oc38 kV38 dc38 pm38 cd38 ct38:Value}
  {f39:Addr} {od39 an39:Option Addr} {sl39:Array (Option Value)} {oc39 kV39 dc39 pm39 cd39 ct39:Value}
  {f40:Addr} {od40 an40:Option Addr} {sl40:Array (Option Value)} {oc40 kV40 dc40 pm40 cd40 ct40:Value}
  {f41:Addr} {od41 an41:Option Addr} {sl41:Array (Option Value)} {oc41 kV41 dc41 pm41 cd41 ct41:Value}
  {f42:Addr} {od42 an42:Option Addr} {sl42:Array (Option Value)} {oc42 kV42 dc42 pm42 cd42 ct42:Value}
  {f43:Addr} {od43 an43:Option Addr} {sl43:Array (Option Value)} {oc43 kV43 dc43 pm43 cd43 ct43:Value}
  {f44:Addr} {od44 an44:Option Addr} {sl44:Array (Option Value)} {oc44 kV44 dc44 pm44 cd44 ct44:Value}
  {f45:Addr} {od45 an45:Option Addr} {sl45:Array (Option Value)} {oc45 kV45 dc45 pm45 cd45 ct45:Value}
  {f46:Addr} {od46 an46:Option Addr} {sl46:Array (Option Value)} {oc46 kV46 dc46 pm46 cd46 ct46:Value}
  {f47:Addr} {od47 an47:Option Addr} {sl47:Array (Option Value)} {oc47 kV47 dc47 pm47 cd47 ct47:Value}
  {f48:Addr} {od48 an48:Option Addr} {sl48:Array (Option Value)} {oc48 kV48 dc48 pm48 cd48 ct48:Value}
  {f49:Addr} {od49 an49:Option Addr} {sl49:Array (Option Value)} {oc49 kV49 dc49 pm49 cd49 ct49:Value}
  {f50:Addr} {od50 an50:Option Addr} {sl50:Array (Option Value)} {oc50 kV50 dc50 pm50 cd50 ct50:Value}
  {f51:Addr} {od51 an51:Option Addr} {sl51:Array (Option Value)} {oc51 kV51 dc51 pm51 cd51 ct51:Value}
  {f52:Addr} {od52 an52:Option Addr} {sl52:Array (Option Value)} {oc52 kV52 dc52 pm52 cd52 ct52:Value}
  {f53:Addr} {od53 an53:Option Addr} {sl53:Array (Option Value)} {oc53 kV53 dc53 pm53 cd53 ct53:Value}
  {f54:Addr} {od54 an54:Option Addr} {sl54:Array (Option Value)} {oc54 kV54 dc54 pm54 cd54 ct54:Value}
  {f55:Addr} {od55 an55:Option Addr} {sl55:Array (Option Value)} {oc55 kV55 dc55 pm55 cd55 ct55:Value}
  {f56:Addr} {od56 an56:Option Addr} {sl56:Array (Option Value)} {oc56 kV56 dc56 pm56 cd56 ct56:Value}
  {f57:Addr} {od57 an57:Option Addr} {sl57:Array (Option Value)} {oc57 kV57 dc57 pm57 cd57 ct57:Value}
  {f58:Addr} {od58 an58:Option Addr} {sl58:Array (Option Value)} {oc58 kV58 dc58 pm58 cd58 ct58:Value}
  {f59:Addr} {od59 an59:Option Addr} {sl59:Array (Option Value)} {oc59 kV59 dc59 pm59 cd59 ct59:Value}
  {f60:Addr} {od60 an60:Option Addr} {sl60:Array (Option Value)} {oc60 kV60 dc60 pm60 cd60 ct60:Value}
  {f61:Addr} {od61 an61:Option Addr} {sl61:Array (Option Value)} {oc61 kV61 dc61 pm61 cd61 ct61:Value}
  {f62:Addr} {od62 an62:Option Addr} {sl62:Array (Option Value)} {oc62 kV62 dc62 pm62 cd62 ct62:Value}
  {f63:Addr} {od63 an63:Option Addr} {sl63:Array (Option Value)} {oc63 kV63 dc63 pm63 cd63 ct63:Value}
  {f64:Addr} {od64 an64:Option Addr} {sl64:Array (Option Value)} {oc64 kV64 dc64 pm64 cd64 ct64:Value}
  {f65:Addr} {od65 an65:Option Addr} {sl65:Array (Option Value)} {oc65 kV65 dc65 pm65 cd65 ct65:Value}
  {f66:Addr} {od66 an66:Option Addr} {sl66:Array (Option Value)} {oc66 kV66 dc66 pm66 cd66 ct66:Value}
  {f67:Addr} {od67 an67:Option Addr} {sl67:Array (Option Value)} {oc67 kV67 dc67 pm67 cd67 ct67:Value}
  {p_NOUGHT:Addr} {od_NOUGHT:Option Addr} {sl_NOUGHT:Array (Option Value)} {n_NOUGHT:Nat} {t0_NOUGHT t1_NOUGHT:Tok}
  {cRodError:Addr}
  {cNoRoot:Addr}
  {cNoField:Addr}
  {cNoQuotient:Addr}
  {cNoMachine:Addr}
  {cStuck:Addr}
  {cNoMeet:Addr}
  {cBadNote:Addr}
  {cNoName:Addr}
  {cNoCurve:Addr}
  (a1:PySem.W.nsIn K mainGlobals "common_divisor"=some (some (.ref f1))) (l1:K.lookup f1=some ⟨oc1,od1,.func (PySem.W.fnOf "common_divisor" "common_divisor" (defArgs s_common_divisor) (defBody s_common_divisor) (defScope s_common_divisor) .none kV1 dc1 pm1 an1 cd1 ct1),sl1⟩) (e1:PySem.W.codeIn K cd1 "common_divisor"=true) (k1:PySem.W.keepIn K (.ref f1)=true)
  (a2:PySem.W.nsIn K mainGlobals "ratio"=some (some (.ref f2))) (l2:K.lookup f2=some ⟨oc2,od2,.func (PySem.W.fnOf "ratio" "ratio" (defArgs s_ratio) (defBody s_ratio) (defScope s_ratio) .none kV2 dc2 pm2 an2 cd2 ct2),sl2⟩) (e2:PySem.W.codeIn K cd2 "ratio"=true) (k2:PySem.W.keepIn K (.ref f2)=true)
  (a3:PySem.W.nsIn K mainGlobals "plus"=some (some (.ref f3))) (l3:K.lookup f3=some ⟨oc3,od3,.func (PySem.W.fnOf "plus" "plus" (defArgs s_plus) (defBody s_plus) (defScope s_plus) .none kV3 dc3 pm3 an3 cd3 ct3),sl3⟩) (e3:PySem.W.codeIn K cd3 "plus"=true) (k3:PySem.W.keepIn K (.ref f3)=true)
  (a4:PySem.W.nsIn K mainGlobals "minus"=some (some (.ref f4))) (l4:K.lookup f4=some ⟨oc4,od4,.func (PySem.W.fnOf "minus" "minus" (defArgs s_minus) (defBody s_minus) (defScope s_minus) .none kV4 dc4 pm4 an4 cd4 ct4),sl4⟩) (e4:PySem.W.codeIn K cd4 "minus"=true) (k4:PySem.W.keepIn K (.ref f4)=true)
  (a5:PySem.W.nsIn K mainGlobals "times"=some (some (.ref f5))) (l5:K.lookup f5=some ⟨oc5,od5,.func (PySem.W.fnOf "times" "times" (defArgs s_times) (defBody s_times) (defScope s_times) .none kV5 dc5 pm5 an5 cd5 ct5),sl5⟩) (e5:PySem.W.codeIn K cd5 "times"=true) (k5:PySem.W.keepIn K (.ref f5)=true)
  (a6:PySem.W.nsIn K mainGlobals "over"=some (some (.ref f6))) (l6:K.lookup f6=some ⟨oc6,od6,.func (PySem.W.fnOf "over" "over" (defArgs s_over) (defBody s_over) (defScope s_over) .none kV6 dc6 pm6 an6 cd6 ct6),sl6⟩) (e6:PySem.W.codeIn K cd6 "over"=true) (k6:PySem.W.keepIn K (.ref f6)=true)
  (a7:PySem.W.nsIn K mainGlobals "negative"=some (some (.ref f7))) (l7:K.lookup f7=some ⟨oc7,od7,.func (PySem.W.fnOf "negative" "negative" (defArgs s_negative) (defBody s_negative) (defScope s_negative) .none kV7 dc7 pm7 an7 cd7 ct7),sl7⟩) (e7:PySem.W.codeIn K cd7 "negative"=true) (k7:PySem.W.keepIn K (.ref f7)=true)
  (a8:PySem.W.nsIn K mainGlobals "without_sign"=some (some (.ref f8))) (l8:K.lookup f8=some ⟨oc8,od8,.func (PySem.W.fnOf "without_sign" "without_sign" (defArgs s_without_sign) (defBody s_without_sign) (defScope s_without_sign) .none kV8 dc8 pm8 an8 cd8 ct8),sl8⟩) (e8:PySem.W.codeIn K cd8 "without_sign"=true) (k8:PySem.W.keepIn K (.ref f8)=true)
  (a9:PySem.W.nsIn K mainGlobals "whole_root"=some (some (.ref f9))) (l9:K.lookup f9=some ⟨oc9,od9,.func (PySem.W.fnOf "whole_root" "whole_root" (defArgs s_whole_root) (defBody s_whole_root) (defScope s_whole_root) .none kV9 dc9 pm9 an9 cd9 ct9),sl9⟩) (e9:PySem.W.codeIn K cd9 "whole_root"=true) (k9:PySem.W.keepIn K (.ref f9)=true)
  (a10:PySem.W.nsIn K mainGlobals "square_root_or_none"=some (some (.ref f10))) (l10:K.lookup f10=some ⟨oc10,od10,.func (PySem.W.fnOf "square_root_or_none" "square_root_or_none" (defArgs s_square_root_or_none) (defBody s_square_root_or_none) (defScope s_square_root_or_none) .none kV10 dc10 pm10 an10 cd10 ct10),sl10⟩) (e10:PySem.W.codeIn K cd10 "square_root_or_none"=true) (k10:PySem.W.keepIn K (.ref f10)=true)
  (a11:PySem.W.nsIn K mainGlobals "root_in"=some (some (.ref f11))) (l11:K.lookup f11=some ⟨oc11,od11,.func (PySem.W.fnOf "root_in" "root_in" (defArgs s_root_in) (defBody s_root_in) (defScope s_root_in) .none kV11 dc11 pm11 an11 cd11 ct11),sl11⟩) (e11:PySem.W.codeIn K cd11 "root_in"=true) (k11:PySem.W.keepIn K (.ref f11)=true)
  (a12:PySem.W.nsIn K mainGlobals "is_plain"=some (some (.ref f12))) (l12:K.lookup f12=some ⟨oc12,od12,.func (PySem.W.fnOf "is_plain" "is_plain" (defArgs s_is_plain) (defBody s_is_plain) (defScope s_is_plain) .none kV12 dc12 pm12 an12 cd12 ct12),sl12⟩) (e12:PySem.W.codeIn K cd12 "is_plain"=true) (k12:PySem.W.keepIn K (.ref f12)=true)
  (a13:PySem.W.nsIn K mainGlobals "with_sign_of"=some (some (.ref f13))) (l13:K.lookup f13=some ⟨oc13,od13,.func (PySem.W.fnOf "with_sign_of" "with_sign_of" (defArgs s_with_sign_of) (defBody s_with_sign_of) (defScope s_with_sign_of) .none kV13 dc13 pm13 an13 cd13 ct13),sl13⟩) (e13:PySem.W.codeIn K cd13 "with_sign_of"=true) (k13:PySem.W.keepIn K (.ref f13)=true)
  (a14:PySem.W.nsIn K mainGlobals "made"=some (some (.ref f14))) (l14:K.lookup f14=some ⟨oc14,od14,.func (PySem.W.fnOf "made" "made" (defArgs s_made) (defBody s_made) (defScope s_made) .none kV14 dc14 pm14 an14 cd14 ct14),sl14⟩) (e14:PySem.W.codeIn K cd14 "made"=true) (k14:PySem.W.keepIn K (.ref f14)=true)
  (a15:PySem.W.nsIn K mainGlobals "field_base"=some (some (.ref f15))) (l15:K.lookup f15=some ⟨oc15,od15,.func (PySem.W.fnOf "field_base" "field_base" (defArgs s_field_base) (defBody s_field_base) (defScope s_field_base) .none kV15 dc15 pm15 an15 cd15 ct15),sl15⟩) (e15:PySem.W.codeIn K cd15 "field_base"=true) (k15:PySem.W.keepIn K (.ref f15)=true)
  (a16:PySem.W.nsIn K mainGlobals "share"=some (some (.ref f16))) (l16:K.lookup f16=some ⟨oc16,od16,.func (PySem.W.fnOf "share" "share" (defArgs s_share) (defBody s_share) (defScope s_share) .none kV16 dc16 pm16 an16 cd16 ct16),sl16⟩) (e16:PySem.W.codeIn K cd16 "share"=true) (k16:PySem.W.keepIn K (.ref f16)=true)
  (a17:PySem.W.nsIn K mainGlobals "joined"=some (some (.ref f17))) (l17:K.lookup f17=some ⟨oc17,od17,.func (PySem.W.fnOf "joined" "joined" (defArgs s_joined) (defBody s_joined) (defScope s_joined) .none kV17 dc17 pm17 an17 cd17 ct17),sl17⟩) (e17:PySem.W.codeIn K cd17 "joined"=true) (k17:PySem.W.keepIn K (.ref f17)=true)
  (a18:PySem.W.nsIn K mainGlobals "root_negative"=some (some (.ref f18))) (l18:K.lookup f18=some ⟨oc18,od18,.func (PySem.W.fnOf "root_negative" "root_negative" (defArgs s_root_negative) (defBody s_root_negative) (defScope s_root_negative) .none kV18 dc18 pm18 an18 cd18 ct18),sl18⟩) (e18:PySem.W.codeIn K cd18 "root_negative"=true) (k18:PySem.W.keepIn K (.ref f18)=true)
  (a19:PySem.W.nsIn K mainGlobals "root_plus"=some (some (.ref f19))) (l19:K.lookup f19=some ⟨oc19,od19,.func (PySem.W.fnOf "root_plus" "root_plus" (defArgs s_root_plus) (defBody s_root_plus) (defScope s_root_plus) .none kV19 dc19 pm19 an19 cd19 ct19),sl19⟩) (e19:PySem.W.codeIn K cd19 "root_plus"=true) (k19:PySem.W.keepIn K (.ref f19)=true)
  (a20:PySem.W.nsIn K mainGlobals "root_minus"=some (some (.ref f20))) (l20:K.lookup f20=some ⟨oc20,od20,.func (PySem.W.fnOf "root_minus" "root_minus" (defArgs s_root_minus) (defBody s_root_minus) (defScope s_root_minus) .none kV20 dc20 pm20 an20 cd20 ct20),sl20⟩) (e20:PySem.W.codeIn K cd20 "root_minus"=true) (k20:PySem.W.keepIn K (.ref f20)=true)
  (a21:PySem.W.nsIn K mainGlobals "sign_of"=some (some (.ref f21))) (l21:K.lookup f21=some ⟨oc21,od21,.func (PySem.W.fnOf "sign_of" "sign_of" (defArgs s_sign_of) (defBody s_sign_of) (defScope s_sign_of) .none kV21 dc21 pm21 an21 cd21 ct21),sl21⟩) (e21:PySem.W.codeIn K cd21 "sign_of"=true) (k21:PySem.W.keepIn K (.ref f21)=true)
  (a22:PySem.W.nsIn K mainGlobals "root_sign"=some (some (.ref f22))) (l22:K.lookup f22=some ⟨oc22,od22,.func (PySem.W.fnOf "root_sign" "root_sign" (defArgs s_root_sign) (defBody s_root_sign) (defScope s_root_sign) .none kV22 dc22 pm22 an22 cd22 ct22),sl22⟩) (e22:PySem.W.codeIn K cd22 "root_sign"=true) (k22:PySem.W.keepIn K (.ref f22)=true)
  (a23:PySem.W.nsIn K mainGlobals "root_less"=some (some (.ref f23))) (l23:K.lookup f23=some ⟨oc23,od23,.func (PySem.W.fnOf "root_less" "root_less" (defArgs s_root_less) (defBody s_root_less) (defScope s_root_less) .none kV23 dc23 pm23 an23 cd23 ct23),sl23⟩) (e23:PySem.W.codeIn K cd23 "root_less"=true) (k23:PySem.W.keepIn K (.ref f23)=true)
  (a24:PySem.W.nsIn K mainGlobals "plain_point"=some (some (.ref f24))) (l24:K.lookup f24=some ⟨oc24,od24,.func (PySem.W.fnOf "plain_point" "plain_point" (defArgs s_plain_point) (defBody s_plain_point) (defScope s_plain_point) .none kV24 dc24 pm24 an24 cd24 ct24),sl24⟩) (e24:PySem.W.codeIn K cd24 "plain_point"=true) (k24:PySem.W.keepIn K (.ref f24)=true)
  (a25:PySem.W.nsIn K mainGlobals "place_of"=some (some (.ref f25))) (l25:K.lookup f25=some ⟨oc25,od25,.func (PySem.W.fnOf "place_of" "place_of" (defArgs s_place_of) (defBody s_place_of) (defScope s_place_of) .none kV25 dc25 pm25 an25 cd25 ct25),sl25⟩) (e25:PySem.W.codeIn K cd25 "place_of"=true) (k25:PySem.W.keepIn K (.ref f25)=true)
  (a26:PySem.W.nsIn K mainGlobals "plain_way"=some (some (.ref f26))) (l26:K.lookup f26=some ⟨oc26,od26,.func (PySem.W.fnOf "plain_way" "plain_way" (defArgs s_plain_way) (defBody s_plain_way) (defScope s_plain_way) .none kV26 dc26 pm26 an26 cd26 ct26),sl26⟩) (e26:PySem.W.codeIn K cd26 "plain_way"=true) (k26:PySem.W.keepIn K (.ref f26)=true)
  (a27:PySem.W.nsIn K mainGlobals "product_of_ways"=some (some (.ref f27))) (l27:K.lookup f27=some ⟨oc27,od27,.func (PySem.W.fnOf "product_of_ways" "product_of_ways" (defArgs s_product_of_ways) (defBody s_product_of_ways) (defScope s_product_of_ways) .none kV27 dc27 pm27 an27 cd27 ct27),sl27⟩) (e27:PySem.W.codeIn K cd27 "product_of_ways"=true) (k27:PySem.W.keepIn K (.ref f27)=true)
  (a28:PySem.W.nsIn K mainGlobals "moved"=some (some (.ref f28))) (l28:K.lookup f28=some ⟨oc28,od28,.func (PySem.W.fnOf "moved" "moved" (defArgs s_moved) (defBody s_moved) (defScope s_moved) .none kV28 dc28 pm28 an28 cd28 ct28),sl28⟩) (e28:PySem.W.codeIn K cd28 "moved"=true) (k28:PySem.W.keepIn K (.ref f28)=true)
  (a29:PySem.W.nsIn K mainGlobals "square_of_unlike"=some (some (.ref f29))) (l29:K.lookup f29=some ⟨oc29,od29,.func (PySem.W.fnOf "square_of_unlike" "square_of_unlike" (defArgs s_square_of_unlike) (defBody s_square_of_unlike) (defScope s_square_of_unlike) .none kV29 dc29 pm29 an29 cd29 ct29),sl29⟩) (e29:PySem.W.codeIn K cd29 "square_of_unlike"=true) (k29:PySem.W.keepIn K (.ref f29)=true)
  (a30:PySem.W.nsIn K mainGlobals "without_noughts"=some (some (.ref f30))) (l30:K.lookup f30=some ⟨oc30,od30,.func (PySem.W.fnOf "without_noughts" "without_noughts" (defArgs s_without_noughts) (defBody s_without_noughts) (defScope s_without_noughts) .none kV30 dc30 pm30 an30 cd30 ct30),sl30⟩) (e30:PySem.W.codeIn K cd30 "without_noughts"=true) (k30:PySem.W.keepIn K (.ref f30)=true)
  (a31:PySem.W.nsIn K mainGlobals "common_multiple"=some (some (.ref f31))) (l31:K.lookup f31=some ⟨oc31,od31,.func (PySem.W.fnOf "common_multiple" "common_multiple" (defArgs s_common_multiple) (defBody s_common_multiple) (defScope s_common_multiple) .none kV31 dc31 pm31 an31 cd31 ct31),sl31⟩) (e31:PySem.W.codeIn K cd31 "common_multiple"=true) (k31:PySem.W.keepIn K (.ref f31)=true)
  (a32:PySem.W.nsIn K mainGlobals "common_bottom"=some (some (.ref f32))) (l32:K.lookup f32=some ⟨oc32,od32,.func (PySem.W.fnOf "common_bottom" "common_bottom" (defArgs s_common_bottom) (defBody s_common_bottom) (defScope s_common_bottom) .none kV32 dc32 pm32 an32 cd32 ct32),sl32⟩) (e32:PySem.W.codeIn K cd32 "common_bottom"=true) (k32:PySem.W.keepIn K (.ref f32)=true)
  (a33:PySem.W.nsIn K mainGlobals "tops_over"=some (some (.ref f33))) (l33:K.lookup f33=some ⟨oc33,od33,.func (PySem.W.fnOf "tops_over" "tops_over" (defArgs s_tops_over) (defBody s_tops_over) (defScope s_tops_over) .none kV33 dc33 pm33 an33 cd33 ct33),sl33⟩) (e33:PySem.W.codeIn K cd33 "tops_over"=true) (k33:PySem.W.keepIn K (.ref f33)=true)
  (a34:PySem.W.nsIn K mainGlobals "normal_of_tops"=some (some (.ref f34))) (l34:K.lookup f34=some ⟨oc34,od34,.func (PySem.W.fnOf "normal_of_tops" "normal_of_tops" (defArgs s_normal_of_tops) (defBody s_normal_of_tops) (defScope s_normal_of_tops) .none kV34 dc34 pm34 an34 cd34 ct34),sl34⟩) (e34:PySem.W.codeIn K cd34 "normal_of_tops"=true) (k34:PySem.W.keepIn K (.ref f34)=true)
  (a35:PySem.W.nsIn K mainGlobals "normal"=some (some (.ref f35))) (l35:K.lookup f35=some ⟨oc35,od35,.func (PySem.W.fnOf "normal" "normal" (defArgs s_normal) (defBody s_normal) (defScope s_normal) .none kV35 dc35 pm35 an35 cd35 ct35),sl35⟩) (e35:PySem.W.codeIn K cd35 "normal"=true) (k35:PySem.W.keepIn K (.ref f35)=true)
  (a36:PySem.W.nsIn K mainGlobals "line_from"=some (some (.ref f36))) (l36:K.lookup f36=some ⟨oc36,od36,.func (PySem.W.fnOf "line_from" "line_from" (defArgs s_line_from) (defBody s_line_from) (defScope s_line_from) .none kV36 dc36 pm36 an36 cd36 ct36),sl36⟩) (e36:PySem.W.codeIn K cd36 "line_from"=true) (k36:PySem.W.keepIn K (.ref f36)=true)
  (a37:PySem.W.nsIn K mainGlobals "degree_of"=some (some (.ref f37))) (l37:K.lookup f37=some ⟨oc37,od37,.func (PySem.W.fnOf "degree_of" "degree_of" (defArgs s_degree_of) (defBody s_degree_of) (defScope s_degree_of) .none kV37 dc37 pm37 an37 cd37 ct37),sl37⟩) (e37:PySem.W.codeIn K cd37 "degree_of"=true) (k37:PySem.W.keepIn K (.ref f37)=true)
  (a38:PySem.W.nsIn K mainGlobals "is_whole"=some (some (.ref f38))) (l38:K.lookup f38=some ⟨oc38,od38,.func (PySem.W.fnOf "is_whole" "is_whole" (defArgs s_is_whole) (defBody s_is_whole) (defScope s_is_whole) .none kV38 dc38 pm38 an38 cd38 ct38),sl38⟩) (e38:PySem.W.codeIn K cd38 "is_whole"=true) (k38:PySem.W.keepIn K (.ref f38)=true)
  (a39:PySem.W.nsIn K mainGlobals "is_fraction"=some (some (.ref f39))) (l39:K.lookup f39=some ⟨oc39,od39,.func (PySem.W.fnOf "is_fraction" "is_fraction" (defArgs s_is_fraction) (defBody s_is_fraction) (defScope s_is_fraction) .none kV39 dc39 pm39 an39 cd39 ct39),sl39⟩) (e39:PySem.W.codeIn K cd39 "is_fraction"=true) (k39:PySem.W.keepIn K (.ref f39)=true)
  (a40:PySem.W.nsIn K mainGlobals "drawn_line"=some (some (.ref f40))) (l40:K.lookup f40=some ⟨oc40,od40,.func (PySem.W.fnOf "drawn_line" "drawn_line" (defArgs s_drawn_line) (defBody s_drawn_line) (defScope s_drawn_line) .none kV40 dc40 pm40 an40 cd40 ct40),sl40⟩) (e40:PySem.W.codeIn K cd40 "drawn_line"=true) (k40:PySem.W.keepIn K (.ref f40)=true)
  (a41:PySem.W.nsIn K mainGlobals "is_number"=some (some (.ref f41))) (l41:K.lookup f41=some ⟨oc41,od41,.func (PySem.W.fnOf "is_number" "is_number" (defArgs s_is_number) (defBody s_is_number) (defScope s_is_number) .none kV41 dc41 pm41 an41 cd41 ct41),sl41⟩) (e41:PySem.W.codeIn K cd41 "is_number"=true) (k41:PySem.W.keepIn K (.ref f41)=true)
  (a42:PySem.W.nsIn K mainGlobals "can_reach"=some (some (.ref f42))) (l42:K.lookup f42=some ⟨oc42,od42,.func (PySem.W.fnOf "can_reach" "can_reach" (defArgs s_can_reach) (defBody s_can_reach) (defScope s_can_reach) .none kV42 dc42 pm42 an42 cd42 ct42),sl42⟩) (e42:PySem.W.codeIn K cd42 "can_reach"=true) (k42:PySem.W.keepIn K (.ref f42)=true)
  (a43:PySem.W.nsIn K mainGlobals "draws"=some (some (.ref f43))) (l43:K.lookup f43=some ⟨oc43,od43,.func (PySem.W.fnOf "draws" "draws" (defArgs s_draws) (defBody s_draws) (defScope s_draws) .none kV43 dc43 pm43 an43 cd43 ct43),sl43⟩) (e43:PySem.W.codeIn K cd43 "draws"=true) (k43:PySem.W.keepIn K (.ref f43)=true)
  (a44:PySem.W.nsIn K mainGlobals "line_cell"=some (some (.ref f44))) (l44:K.lookup f44=some ⟨oc44,od44,.func (PySem.W.fnOf "line_cell" "line_cell" (defArgs s_line_cell) (defBody s_line_cell) (defScope s_line_cell) .none kV44 dc44 pm44 an44 cd44 ct44),sl44⟩) (e44:PySem.W.codeIn K cd44 "line_cell"=true) (k44:PySem.W.keepIn K (.ref f44)=true)
  (a45:PySem.W.nsIn K mainGlobals "_law_cell_at"=some (some (.ref f45))) (l45:K.lookup f45=some ⟨oc45,od45,.func (PySem.W.fnOf "_law_cell_at" "_law_cell_at" (defArgs s__law_cell_at) (defBody s__law_cell_at) (defScope s__law_cell_at) .none kV45 dc45 pm45 an45 cd45 ct45),sl45⟩) (e45:PySem.W.codeIn K cd45 "_law_cell_at"=true) (k45:PySem.W.keepIn K (.ref f45)=true)
  (a46:PySem.W.nsIn K mainGlobals "_law_state"=some (some (.ref f46))) (l46:K.lookup f46=some ⟨oc46,od46,.func (PySem.W.fnOf "_law_state" "_law_state" (defArgs s__law_state) (defBody s__law_state) (defScope s__law_state) .none kV46 dc46 pm46 an46 cd46 ct46),sl46⟩) (e46:PySem.W.codeIn K cd46 "_law_state"=true) (k46:PySem.W.keepIn K (.ref f46)=true)
  (a47:PySem.W.nsIn K mainGlobals "_law_take"=some (some (.ref f47))) (l47:K.lookup f47=some ⟨oc47,od47,.func (PySem.W.fnOf "_law_take" "_law_take" (defArgs s__law_take) (defBody s__law_take) (defScope s__law_take) .none kV47 dc47 pm47 an47 cd47 ct47),sl47⟩) (e47:PySem.W.codeIn K cd47 "_law_take"=true) (k47:PySem.W.keepIn K (.ref f47)=true)
  (a48:PySem.W.nsIn K mainGlobals "_law_divisor"=some (some (.ref f48))) (l48:K.lookup f48=some ⟨oc48,od48,.func (PySem.W.fnOf "_law_divisor" "_law_divisor" (defArgs s__law_divisor) (defBody s__law_divisor) (defScope s__law_divisor) .none kV48 dc48 pm48 an48 cd48 ct48),sl48⟩) (e48:PySem.W.codeIn K cd48 "_law_divisor"=true) (k48:PySem.W.keepIn K (.ref f48)=true)
  (a49:PySem.W.nsIn K mainGlobals "_law_ratio"=some (some (.ref f49))) (l49:K.lookup f49=some ⟨oc49,od49,.func (PySem.W.fnOf "_law_ratio" "_law_ratio" (defArgs s__law_ratio) (defBody s__law_ratio) (defScope s__law_ratio) .none kV49 dc49 pm49 an49 cd49 ct49),sl49⟩) (e49:PySem.W.codeIn K cd49 "_law_ratio"=true) (k49:PySem.W.keepIn K (.ref f49)=true)
  (a50:PySem.W.nsIn K mainGlobals "_law_times"=some (some (.ref f50))) (l50:K.lookup f50=some ⟨oc50,od50,.func (PySem.W.fnOf "_law_times" "_law_times" (defArgs s__law_times) (defBody s__law_times) (defScope s__law_times) .none kV50 dc50 pm50 an50 cd50 ct50),sl50⟩) (e50:PySem.W.codeIn K cd50 "_law_times"=true) (k50:PySem.W.keepIn K (.ref f50)=true)
  (a51:PySem.W.nsIn K mainGlobals "_law_small"=some (some (.ref f51))) (l51:K.lookup f51=some ⟨oc51,od51,.func (PySem.W.fnOf "_law_small" "_law_small" (defArgs s__law_small) (defBody s__law_small) (defScope s__law_small) .none kV51 dc51 pm51 an51 cd51 ct51),sl51⟩) (e51:PySem.W.codeIn K cd51 "_law_small"=true) (k51:PySem.W.keepIn K (.ref f51)=true)
  (a52:PySem.W.nsIn K mainGlobals "_law_plus"=some (some (.ref f52))) (l52:K.lookup f52=some ⟨oc52,od52,.func (PySem.W.fnOf "_law_plus" "_law_plus" (defArgs s__law_plus) (defBody s__law_plus) (defScope s__law_plus) .none kV52 dc52 pm52 an52 cd52 ct52),sl52⟩) (e52:PySem.W.codeIn K cd52 "_law_plus"=true) (k52:PySem.W.keepIn K (.ref f52)=true)
  (a53:PySem.W.nsIn K mainGlobals "_law_minus"=some (some (.ref f53))) (l53:K.lookup f53=some ⟨oc53,od53,.func (PySem.W.fnOf "_law_minus" "_law_minus" (defArgs s__law_minus) (defBody s__law_minus) (defScope s__law_minus) .none kV53 dc53 pm53 an53 cd53 ct53),sl53⟩) (e53:PySem.W.codeIn K cd53 "_law_minus"=true) (k53:PySem.W.keepIn K (.ref f53)=true)
  (a54:PySem.W.nsIn K mainGlobals "_law_plain"=some (some (.ref f54))) (l54:K.lookup f54=some ⟨oc54,od54,.func (PySem.W.fnOf "_law_plain" "_law_plain" (defArgs s__law_plain) (defBody s__law_plain) (defScope s__law_plain) .none kV54 dc54 pm54 an54 cd54 ct54),sl54⟩) (e54:PySem.W.codeIn K cd54 "_law_plain"=true) (k54:PySem.W.keepIn K (.ref f54)=true)
  (a55:PySem.W.nsIn K mainGlobals "_law_plain_point"=some (some (.ref f55))) (l55:K.lookup f55=some ⟨oc55,od55,.func (PySem.W.fnOf "_law_plain_point" "_law_plain_point" (defArgs s__law_plain_point) (defBody s__law_plain_point) (defScope s__law_plain_point) .none kV55 dc55 pm55 an55 cd55 ct55),sl55⟩) (e55:PySem.W.codeIn K cd55 "_law_plain_point"=true) (k55:PySem.W.keepIn K (.ref f55)=true)
  (a56:PySem.W.nsIn K mainGlobals "_law_above"=some (some (.ref f56))) (l56:K.lookup f56=some ⟨oc56,od56,.func (PySem.W.fnOf "_law_above" "_law_above" (defArgs s__law_above) (defBody s__law_above) (defScope s__law_above) .none kV56 dc56 pm56 an56 cd56 ct56),sl56⟩) (e56:PySem.W.codeIn K cd56 "_law_above"=true) (k56:PySem.W.keepIn K (.ref f56)=true)
  (a57:PySem.W.nsIn K mainGlobals "_law_added"=some (some (.ref f57))) (l57:K.lookup f57=some ⟨oc57,od57,.func (PySem.W.fnOf "_law_added" "_law_added" (defArgs s__law_added) (defBody s__law_added) (defScope s__law_added) .none kV57 dc57 pm57 an57 cd57 ct57),sl57⟩) (e57:PySem.W.codeIn K cd57 "_law_added"=true) (k57:PySem.W.keepIn K (.ref f57)=true)
  (a58:PySem.W.nsIn K mainGlobals "_law_normal"=some (some (.ref f58))) (l58:K.lookup f58=some ⟨oc58,od58,.func (PySem.W.fnOf "_law_normal" "_law_normal" (defArgs s__law_normal) (defBody s__law_normal) (defScope s__law_normal) .none kV58 dc58 pm58 an58 cd58 ct58),sl58⟩) (e58:PySem.W.codeIn K cd58 "_law_normal"=true) (k58:PySem.W.keepIn K (.ref f58)=true)
  (a59:PySem.W.nsIn K mainGlobals "_law_refused"=some (some (.ref f59))) (l59:K.lookup f59=some ⟨oc59,od59,.func (PySem.W.fnOf "_law_refused" "_law_refused" (defArgs s__law_refused) (defBody s__law_refused) (defScope s__law_refused) .none kV59 dc59 pm59 an59 cd59 ct59),sl59⟩) (e59:PySem.W.codeIn K cd59 "_law_refused"=true) (k59:PySem.W.keepIn K (.ref f59)=true)
  (a60:PySem.W.nsIn K mainGlobals "_law_ahead"=some (some (.ref f60))) (l60:K.lookup f60=some ⟨oc60,od60,.func (PySem.W.fnOf "_law_ahead" "_law_ahead" (defArgs s__law_ahead) (defBody s__law_ahead) (defScope s__law_ahead) .none kV60 dc60 pm60 an60 cd60 ct60),sl60⟩) (e60:PySem.W.codeIn K cd60 "_law_ahead"=true) (k60:PySem.W.keepIn K (.ref f60)=true)
  (a61:PySem.W.nsIn K mainGlobals "_law_line"=some (some (.ref f61))) (l61:K.lookup f61=some ⟨oc61,od61,.func (PySem.W.fnOf "_law_line" "_law_line" (defArgs s__law_line) (defBody s__law_line) (defScope s__law_line) .none kV61 dc61 pm61 an61 cd61 ct61),sl61⟩) (e61:PySem.W.codeIn K cd61 "_law_line"=true) (k61:PySem.W.keepIn K (.ref f61)=true)
  (a62:PySem.W.nsIn K mainGlobals "_law_reaches"=some (some (.ref f62))) (l62:K.lookup f62=some ⟨oc62,od62,.func (PySem.W.fnOf "_law_reaches" "_law_reaches" (defArgs s__law_reaches) (defBody s__law_reaches) (defScope s__law_reaches) .none kV62 dc62 pm62 an62 cd62 ct62),sl62⟩) (e62:PySem.W.codeIn K cd62 "_law_reaches"=true) (k62:PySem.W.keepIn K (.ref f62)=true)
  (a63:PySem.W.nsIn K mainGlobals "_law_due"=some (some (.ref f63))) (l63:K.lookup f63=some ⟨oc63,od63,.func (PySem.W.fnOf "_law_due" "_law_due" (defArgs s__law_due) (defBody s__law_due) (defScope s__law_due) .none kV63 dc63 pm63 an63 cd63 ct63),sl63⟩) (e63:PySem.W.codeIn K cd63 "_law_due"=true) (k63:PySem.W.keepIn K (.ref f63)=true)
  (a64:PySem.W.nsIn K mainGlobals "_law_is_plain"=some (some (.ref f64))) (l64:K.lookup f64=some ⟨oc64,od64,.func (PySem.W.fnOf "_law_is_plain" "_law_is_plain" (defArgs s__law_is_plain) (defBody s__law_is_plain) (defScope s__law_is_plain) .none kV64 dc64 pm64 an64 cd64 ct64),sl64⟩) (e64:PySem.W.codeIn K cd64 "_law_is_plain"=true) (k64:PySem.W.keepIn K (.ref f64)=true)
  (a65:PySem.W.nsIn K mainGlobals "_law_told_right"=some (some (.ref f65))) (l65:K.lookup f65=some ⟨oc65,od65,.func (PySem.W.fnOf "_law_told_right" "_law_told_right" (defArgs s__law_told_right) (defBody s__law_told_right) (defScope s__law_told_right) .none kV65 dc65 pm65 an65 cd65 ct65),sl65⟩) (e65:PySem.W.codeIn K cd65 "_law_told_right"=true) (k65:PySem.W.keepIn K (.ref f65)=true)
  (a66:PySem.W.nsIn K mainGlobals "_law_own_right"=some (some (.ref f66))) (l66:K.lookup f66=some ⟨oc66,od66,.func (PySem.W.fnOf "_law_own_right" "_law_own_right" (defArgs s__law_own_right) (defBody s__law_own_right) (defScope s__law_own_right) .none kV66 dc66 pm66 an66 cd66 ct66),sl66⟩) (e66:PySem.W.codeIn K cd66 "_law_own_right"=true) (k66:PySem.W.keepIn K (.ref f66)=true)
  (a67:PySem.W.nsIn K mainGlobals "law"=some (some (.ref f67))) (l67:K.lookup f67=some ⟨oc67,od67,.func (PySem.W.fnOf "law" "law" (defArgs s_law) (defBody s_law) (defScope s_law) .none kV67 dc67 pm67 an67 cd67 ct67),sl67⟩) (e67:PySem.W.codeIn K cd67 "law"=true) (k67:PySem.W.keepIn K (.ref f67)=true)
  (hk_law:cd67=.ref 613)
  (ag_NOUGHT:PySem.W.nsIn K mainGlobals "NOUGHT"=some (some (.ref p_NOUGHT))) (lg_NOUGHT:K.lookup p_NOUGHT=some ⟨.type "tuple",od_NOUGHT,.seq #[.int 0 t0_NOUGHT,.int 1 t1_NOUGHT] n_NOUGHT,sl_NOUGHT⟩)
  (ac_RodError:PySem.W.nsIn K mainGlobals "RodError"=some (some (.ref cRodError)))
  (ac_NoRoot:PySem.W.nsIn K mainGlobals "NoRoot"=some (some (.ref cNoRoot)))
  (ac_NoField:PySem.W.nsIn K mainGlobals "NoField"=some (some (.ref cNoField)))
  (ac_NoQuotient:PySem.W.nsIn K mainGlobals "NoQuotient"=some (some (.ref cNoQuotient)))
  (ac_NoMachine:PySem.W.nsIn K mainGlobals "NoMachine"=some (some (.ref cNoMachine)))
  (ac_Stuck:PySem.W.nsIn K mainGlobals "Stuck"=some (some (.ref cStuck)))
  (ac_NoMeet:PySem.W.nsIn K mainGlobals "NoMeet"=some (some (.ref cNoMeet)))
  (ac_BadNote:PySem.W.nsIn K mainGlobals "BadNote"=some (some (.ref cBadNote)))
  (ac_NoName:PySem.W.nsIn K mainGlobals "NoName"=some (some (.ref cNoName)))
  (ac_NoCurve:PySem.W.nsIn K mainGlobals "NoCurve"=some (some (.ref cNoCurve)))
  (eq_NoMeet:PySem.W.excIn K cNoMeet [.type "ValueError",.type "Exception",.type "BaseException",.type "object"] "ValueError.__new__"=true)
  (eq_NoCurve:PySem.W.excIn K cNoCurve [.type "ValueError",.type "Exception",.type "BaseException",.type "object"] "ValueError.__new__"=true)
  (x1_NoCurve:PySem.W.findIn K (.ref cNoCurve) "__getattribute__"=some (some (.builtin "BaseException.__getattribute__")))
  (x2_NoCurve:PySem.W.findIn K (.ref cNoCurve) "__getattr__"=some none)
  (x3_NoCurve:PySem.W.findIn K (.ref cNoCurve) "__class__"=some (some (.builtin "object.__class__")))
  (x4_NoCurve:PySem.W.subIn K (.ref cNoCurve) (.type "BaseException")=some true)
  (x5_NoCurve:PySem.W.subIn K (.ref cNoCurve) (.type "object")=some true)
  (x6_NoCurve:(PySem.W.clsIn K cNoCurve).isSome=true)
  (vl_NoCurve:PySem.W.kitOne K (.ref cNoCurve) (.type "ValueError")=some true)
  (rd_NoCurve:PySem.W.exmOne K (.ref cNoCurve) (.ref cRodError)=some true)
  (kt0_NoCurve:PySem.W.kitOne K (.ref cNoCurve) (.ref cNoQuotient)=some false)
  (kt1_NoCurve:PySem.W.kitOne K (.ref cNoCurve) (.ref cNoField)=some false)
  (kt2_NoCurve:PySem.W.kitOne K (.ref cNoCurve) (.ref cNoRoot)=some false)
  (kt3_NoCurve:PySem.W.kitOne K (.ref cNoCurve) (.ref cNoMeet)=some false)
  (kt4_NoCurve:PySem.W.kitOne K (.ref cNoCurve) (.ref cStuck)=some false)
  (kt5_NoCurve:PySem.W.kitOne K (.ref cNoCurve) (.ref cNoMachine)=some false)
  (kt6_NoCurve:PySem.W.kitOne K (.ref cNoCurve) (.ref cNoCurve)=some true)
  (kt7_NoCurve:PySem.W.kitOne K (.ref cNoCurve) (.ref cNoName)=some false)
  (kt8_NoCurve:PySem.W.kitOne K (.ref cNoCurve) (.ref cBadNote)=some false)
  (y_abs:PySem.W.nsIn K mainGlobals "abs"=some none) (y_max:PySem.W.nsIn K mainGlobals "max"=some none) (y_len:PySem.W.nsIn K mainGlobals "len"=some none) (y_list:PySem.W.nsIn K mainGlobals "list"=some none) (y_isinstance:PySem.W.nsIn K mainGlobals "isinstance"=some none) (y_bool:PySem.W.nsIn K mainGlobals "bool"=some none) (y_int:PySem.W.nsIn K mainGlobals "int"=some none) (y_tuple:PySem.W.nsIn K mainGlobals "tuple"=some none) (y_dict:PySem.W.nsIn K mainGlobals "dict"=some none) (y_ValueError:PySem.W.nsIn K mainGlobals "ValueError"=some none) (y_range:PySem.W.nsIn K mainGlobals "range"=some none) (y_min:PySem.W.nsIn K mainGlobals "min"=some none):
  ∃ fd:FuncData,(∀ (s:Shared) (v:Value),BindsTo s fd ⟨[v],[]⟩ [("script",v)])/\∀ base:Heap,K.In base->base.Ns mainGlobals mg->BltB mg base->PySem.W.CodeAll [(613,609)] base->FnOk l.prog w K mg base CX0 11 fa fd ["script"] (spU K (F_law 609)):=by
 have e:=hfa.symm.trans (PySem.W.mg_of X G a67)
 cases e
 have z_abs:=PySem.W.mg_none_of X G y_abs
 have z_max:=PySem.W.mg_none_of X G y_max
 have z_len:=PySem.W.mg_none_of X G y_len
 have z_list:=PySem.W.mg_none_of X G y_list
 have z_isinstance:=PySem.W.mg_none_of X G y_isinstance
 have z_bool:=PySem.W.mg_none_of X G y_bool
 have z_int:=PySem.W.mg_none_of X G y_int
 have z_tuple:=PySem.W.mg_none_of X G y_tuple
 have z_dict:=PySem.W.mg_none_of X G y_dict
 have z_ValueError:=PySem.W.mg_none_of X G y_ValueError
 have z_range:=PySem.W.mg_none_of X G y_range
 have z_min:=PySem.W.mg_none_of X G y_min
 have m_RodError:=PySem.W.mg_of X G ac_RodError
 have m_NoRoot:=PySem.W.mg_of X G ac_NoRoot
 have m_NoField:=PySem.W.mg_of X G ac_NoField
 have m_NoQuotient:=PySem.W.mg_of X G ac_NoQuotient
 have m_NoMachine:=PySem.W.mg_of X G ac_NoMachine
 have m_Stuck:=PySem.W.mg_of X G ac_Stuck
 have m_NoMeet:=PySem.W.mg_of X G ac_NoMeet
 have m_BadNote:=PySem.W.mg_of X G ac_BadNote
 have m_NoName:=PySem.W.mg_of X G ac_NoName
 have m_NoCurve:=PySem.W.mg_of X G ac_NoCurve
 have g_NOUGHT:GTup K mg "NOUGHT" [0,1]:=⟨p_NOUGHT,_,_,_,PySem.W.mg_of X G ag_NOUGHT,lg_NOUGHT,rfl,rfl,Nat.le_of_ble_eq_true rfl,.cons ⟨_,rfl⟩ (.cons ⟨_,rfl⟩ (.nil))⟩
 have F1:=fun_mk (st:=s_common_divisor) l1 e1 k1
 have b1:=F1.binds (ps:=["one","other"]) fun _ _ _ _ _ _ us hl=>match us,hl with | [_,_],_=>rfl
 have F2:=fun_mk (st:=s_ratio) l2 e2 k2
 have b2:=F2.binds (ps:=["top","bottom"]) fun _ _ _ _ _ _ us hl=>match us,hl with | [_,_],_=>rfl
 have F3:=fun_mk (st:=s_plus) l3 e3 k3
 have b3:=F3.binds (ps:=["one","other"]) fun _ _ _ _ _ _ us hl=>match us,hl with | [_,_],_=>rfl
 have F4:=fun_mk (st:=s_minus) l4 e4 k4
 have b4:=F4.binds (ps:=["one","other"]) fun _ _ _ _ _ _ us hl=>match us,hl with | [_,_],_=>rfl
 have F5:=fun_mk (st:=s_times) l5 e5 k5
 have b5:=F5.binds (ps:=["one","other"]) fun _ _ _ _ _ _ us hl=>match us,hl with | [_,_],_=>rfl
 have F6:=fun_mk (st:=s_over) l6 e6 k6
 have b6:=F6.binds (ps:=["one","other"]) fun _ _ _ _ _ _ us hl=>match us,hl with | [_,_],_=>rfl
 have F7:=fun_mk (st:=s_negative) l7 e7 k7
 have b7:=F7.binds (ps:=["one"]) fun _ _ _ _ _ _ us hl=>match us,hl with | [_],_=>rfl
 have F8:=fun_mk (st:=s_without_sign) l8 e8 k8
 have b8:=F8.binds (ps:=["one"]) fun _ _ _ _ _ _ us hl=>match us,hl with | [_],_=>rfl
 have F9:=fun_mk (st:=s_whole_root) l9 e9 k9
 have b9:=F9.binds (ps:=["number"]) fun _ _ _ _ _ _ us hl=>match us,hl with | [_],_=>rfl
 have F10:=fun_mk (st:=s_square_root_or_none) l10 e10 k10
 have b10:=F10.binds (ps:=["number"]) fun _ _ _ _ _ _ us hl=>match us,hl with | [_],_=>rfl
 have F11:=fun_mk (st:=s_root_in) l11 e11 k11
 have b11:=F11.binds (ps:=["one"]) fun _ _ _ _ _ _ us hl=>match us,hl with | [_],_=>rfl
 have F12:=fun_mk (st:=s_is_plain) l12 e12 k12
 have b12:=F12.binds (ps:=["one"]) fun _ _ _ _ _ _ us hl=>match us,hl with | [_],_=>rfl
 have F13:=fun_mk (st:=s_with_sign_of) l13 e13 k13
 have b13:=F13.binds (ps:=["one","other"]) fun _ _ _ _ _ _ us hl=>match us,hl with | [_,_],_=>rfl
 have F14:=fun_mk (st:=s_made) l14 e14 k14
 have b14:=F14.binds (ps:=["part","under"]) fun _ _ _ _ _ _ us hl=>match us,hl with | [_,_],_=>rfl
 have F15:=fun_mk (st:=s_field_base) l15 e15 k15
 have b15:=F15.binds (ps:=["one","other"]) fun _ _ _ _ _ _ us hl=>match us,hl with | [_,_],_=>rfl
 have F16:=fun_mk (st:=s_share) l16 e16 k16
 have b16:=F16.binds (ps:=["one","base"]) fun _ _ _ _ _ _ us hl=>match us,hl with | [_,_],_=>rfl
 have F17:=fun_mk (st:=s_joined) l17 e17 k17
 have b17:=F17.binds (ps:=["part","portion","base"]) fun _ _ _ _ _ _ us hl=>match us,hl with | [_,_,_],_=>rfl
 have F18:=fun_mk (st:=s_root_negative) l18 e18 k18
 have b18:=F18.binds (ps:=["one"]) fun _ _ _ _ _ _ us hl=>match us,hl with | [_],_=>rfl
 have F19:=fun_mk (st:=s_root_plus) l19 e19 k19
 have b19:=F19.binds (ps:=["one","other"]) fun _ _ _ _ _ _ us hl=>match us,hl with | [_,_],_=>rfl
 have F20:=fun_mk (st:=s_root_minus) l20 e20 k20
 have b20:=F20.binds (ps:=["one","other"]) fun _ _ _ _ _ _ us hl=>match us,hl with | [_,_],_=>rfl
 have F21:=fun_mk (st:=s_sign_of) l21 e21 k21
 have b21:=F21.binds (ps:=["number"]) fun _ _ _ _ _ _ us hl=>match us,hl with | [_],_=>rfl
 have F22:=fun_mk (st:=s_root_sign) l22 e22 k22
 have b22:=F22.binds (ps:=["one"]) fun _ _ _ _ _ _ us hl=>match us,hl with | [_],_=>rfl
 have F23:=fun_mk (st:=s_root_less) l23 e23 k23
 have b23:=F23.binds (ps:=["one","other"]) fun _ _ _ _ _ _ us hl=>match us,hl with | [_,_],_=>rfl
 have F24:=fun_mk (st:=s_plain_point) l24 e24 k24
 have b24:=F24.binds (ps:=["place"]) fun _ _ _ _ _ _ us hl=>match us,hl with | [_],_=>rfl
 have F25:=fun_mk (st:=s_place_of) l25 e25 k25
 have b25:=F25.binds (ps:=["point"]) fun _ _ _ _ _ _ us hl=>match us,hl with | [_],_=>rfl
 have F26:=fun_mk (st:=s_plain_way) l26 e26 k26
 have b26:=F26.binds (ps:=["one","other"]) fun _ _ _ _ _ _ us hl=>match us,hl with | [_,_],_=>rfl
 have F27:=fun_mk (st:=s_product_of_ways) l27 e27 k27
 have b27:=F27.binds (ps:=["one","other"]) fun _ _ _ _ _ _ us hl=>match us,hl with | [_,_],_=>rfl
 have F28:=fun_mk (st:=s_moved) l28 e28 k28
 have b28:=F28.binds (ps:=["place","way","by"]) fun _ _ _ _ _ _ us hl=>match us,hl with | [_,_,_],_=>rfl
 have F29:=fun_mk (st:=s_square_of_unlike) l29 e29 k29
 have b29:=F29.binds (ps:=["way"]) fun _ _ _ _ _ _ us hl=>match us,hl with | [_],_=>rfl
 have F30:=fun_mk (st:=s_without_noughts) l30 e30 k30
 have b30:=F30.binds (ps:=["sums"]) fun _ _ _ _ _ _ us hl=>match us,hl with | [_],_=>rfl
 have F31:=fun_mk (st:=s_common_multiple) l31 e31 k31
 have b31:=F31.binds (ps:=["one","other"]) fun _ _ _ _ _ _ us hl=>match us,hl with | [_,_],_=>rfl
 have F32:=fun_mk (st:=s_common_bottom) l32 e32 k32
 have b32:=F32.binds (ps:=["fractions"]) fun _ _ _ _ _ _ us hl=>match us,hl with | [_],_=>rfl
 have F33:=fun_mk (st:=s_tops_over) l33 e33 k33
 have b33:=F33.binds (ps:=["curve","bottom"]) fun _ _ _ _ _ _ us hl=>match us,hl with | [_,_],_=>rfl
 have F34:=fun_mk (st:=s_normal_of_tops) l34 e34 k34
 have b34:=F34.binds (ps:=["tops"]) fun _ _ _ _ _ _ us hl=>match us,hl with | [_],_=>rfl
 have F35:=fun_mk (st:=s_normal) l35 e35 k35
 have b35:=F35.binds (ps:=["curve"]) fun _ _ _ _ _ _ us hl=>match us,hl with | [_],_=>rfl
 have F36:=fun_mk (st:=s_line_from) l36 e36 k36
 have b36:=F36.binds (ps:=["place","across"]) fun _ _ _ _ _ _ us hl=>match us,hl with | [_,_],_=>rfl
 have F37:=fun_mk (st:=s_degree_of) l37 e37 k37
 have b37:=F37.binds (ps:=["curve"]) fun _ _ _ _ _ _ us hl=>match us,hl with | [_],_=>rfl
 have F38:=fun_mk (st:=s_is_whole) l38 e38 k38
 have b38:=F38.binds (ps:=["thing"]) fun _ _ _ _ _ _ us hl=>match us,hl with | [_],_=>rfl
 have F39:=fun_mk (st:=s_is_fraction) l39 e39 k39
 have b39:=F39.binds (ps:=["thing"]) fun _ _ _ _ _ _ us hl=>match us,hl with | [_],_=>rfl
 have F40:=fun_mk (st:=s_drawn_line) l40 e40 k40
 have b40:=F40.binds (ps:=["middle","about","power"]) fun _ _ _ _ _ _ us hl=>match us,hl with | [_,_,_],_=>rfl
 have F41:=fun_mk (st:=s_is_number) l41 e41 k41
 have b41:=F41.binds (ps:=["thing"]) fun _ _ _ _ _ _ us hl=>match us,hl with | [_],_=>rfl
 have F42:=fun_mk (st:=s_can_reach) l42 e42 k42
 have b42:=F42.binds (ps:=["apart","outer","inner"]) fun _ _ _ _ _ _ us hl=>match us,hl with | [_,_,_],_=>rfl
 have F43:=fun_mk (st:=s_draws) l43 e43 k43
 have b43:=F43.binds (ps:=["line","middle","about","outer","inner"]) fun _ _ _ _ _ _ us hl=>match us,hl with | [_,_,_,_,_],_=>rfl
 have F44:=fun_mk (st:=s_line_cell) l44 e44 k44
 have b44:=F44.binds (ps:=["line","middle"]) fun _ _ _ _ _ _ us hl=>match us,hl with | [_,_],_=>rfl
 have F45:=fun_mk (st:=s__law_cell_at) l45 e45 k45
 have b45:=F45.binds (ps:=["script","k"]) fun _ _ _ _ _ _ us hl=>match us,hl with | [_,_],_=>rfl
 have F46:=fun_mk (st:=s__law_state) l46 e46 k46
 have b46:=F46.binds (ps:=["script","k"]) fun _ _ _ _ _ _ us hl=>match us,hl with | [_,_],_=>rfl
 have F47:=fun_mk (st:=s__law_take) l47 e47 k47
 have b47:=F47.binds (ps:=["state","many"]) fun _ _ _ _ _ _ us hl=>match us,hl with | [_,_],_=>rfl
 have F48:=fun_mk (st:=s__law_divisor) l48 e48 k48
 have b48:=F48.binds (ps:=["one","other"]) fun _ _ _ _ _ _ us hl=>match us,hl with | [_,_],_=>rfl
 have F49:=fun_mk (st:=s__law_ratio) l49 e49 k49
 have b49:=F49.binds (ps:=["top","bottom"]) fun _ _ _ _ _ _ us hl=>match us,hl with | [_,_],_=>rfl
 have F50:=fun_mk (st:=s__law_times) l50 e50 k50
 have b50:=F50.binds (ps:=["one","other"]) fun _ _ _ _ _ _ us hl=>match us,hl with | [_,_],_=>rfl
 have F51:=fun_mk (st:=s__law_small) l51 e51 k51
 have b51:=F51.binds (ps:=["state"]) fun _ _ _ _ _ _ us hl=>match us,hl with | [_],_=>rfl
 have F52:=fun_mk (st:=s__law_plus) l52 e52 k52
 have b52:=F52.binds (ps:=["one","other"]) fun _ _ _ _ _ _ us hl=>match us,hl with | [_,_],_=>rfl
 have F53:=fun_mk (st:=s__law_minus) l53 e53 k53
 have b53:=F53.binds (ps:=["one","other"]) fun _ _ _ _ _ _ us hl=>match us,hl with | [_,_],_=>rfl
 have F54:=fun_mk (st:=s__law_plain) l54 e54 k54
 have b54:=F54.binds (ps:=["fraction"]) fun _ _ _ _ _ _ us hl=>match us,hl with | [_],_=>rfl
 have F55:=fun_mk (st:=s__law_plain_point) l55 e55 k55
 have b55:=F55.binds (ps:=["state"]) fun _ _ _ _ _ _ us hl=>match us,hl with | [_],_=>rfl
 have F56:=fun_mk (st:=s__law_above) l56 e56 k56
 have b56:=F56.binds (ps:=["state"]) fun _ _ _ _ _ _ us hl=>match us,hl with | [_],_=>rfl
 have F57:=fun_mk (st:=s__law_added) l57 e57 k57
 have b57:=F57.binds (ps:=["one","other","by"]) fun _ _ _ _ _ _ us hl=>match us,hl with | [_,_,_],_=>rfl
 have F58:=fun_mk (st:=s__law_normal) l58 e58 k58
 have b58:=F58.binds (ps:=["curve"]) fun _ _ _ _ _ _ us hl=>match us,hl with | [_],_=>rfl
 have F59:=fun_mk (st:=s__law_refused) l59 e59 k59
 have b59:=F59.binds (ps:=["call"]) fun _ _ _ _ _ _ us hl=>match us,hl with | [_],_=>rfl
 have F60:=fun_mk (st:=s__law_ahead) l60 e60 k60
 have b60:=F60.binds (ps:=["middle","about"]) fun _ _ _ _ _ _ us hl=>match us,hl with | [_,_],_=>rfl
 have F61:=fun_mk (st:=s__law_line) l61 e61 k61
 have b61:=F61.binds (ps:=["middle","ahead","power"]) fun _ _ _ _ _ _ us hl=>match us,hl with | [_,_,_],_=>rfl
 have F62:=fun_mk (st:=s__law_reaches) l62 e62 k62
 have b62:=F62.binds (ps:=["ahead","outer","inner"]) fun _ _ _ _ _ _ us hl=>match us,hl with | [_,_,_],_=>rfl
 have F63:=fun_mk (st:=s__law_due) l63 e63 k63
 have b63:=F63.binds (ps:=["line","middle","about","outer","inner"]) fun _ _ _ _ _ _ us hl=>match us,hl with | [_,_,_,_,_],_=>rfl
 have F64:=fun_mk (st:=s__law_is_plain) l64 e64 k64
 have b64:=F64.binds (ps:=["thing"]) fun _ _ _ _ _ _ us hl=>match us,hl with | [_],_=>rfl
 have F65:=fun_mk (st:=s__law_told_right) l65 e65 k65
 have b65:=F65.binds (ps:=["line","middle"]) fun _ _ _ _ _ _ us hl=>match us,hl with | [_,_],_=>rfl
 have F66:=fun_mk (st:=s__law_own_right) l66 e66 k66
 have b66:=F66.binds (ps:=["state","middle","about"]) fun _ _ _ _ _ _ us hl=>match us,hl with | [_,_,_],_=>rfl
 have F67:=fun_mk (st:=s_law) l67 e67 k67
 have b67:=F67.binds (ps:=["script"]) fun _ _ _ _ _ _ us hl=>match us,hl with | [_],_=>rfl
 have hR:∀ j C,(j,C)∈[(6,cNoCurve)]->RefC K (.ref cRodError) [cNoQuotient,cNoField,cNoRoot,cNoMeet,cStuck,cNoMachine,cNoCurve,cNoName,cBadNote] j C:=by
  intro j C hm
  simp only [List.mem_cons,List.not_mem_nil,or_false,Prod.mk.injEq] at hm
  rcases hm with ⟨rfl,rfl⟩
  exact⟨⟨x1_NoCurve,x2_NoCurve,x3_NoCurve,x4_NoCurve,x5_NoCurve,x6_NoCurve⟩,kit9 kt0_NoCurve kt1_NoCurve kt2_NoCurve kt3_NoCurve kt4_NoCurve kt5_NoCurve kt6_NoCurve kt7_NoCurve kt8_NoCurve,vl_NoCurve,rd_NoCurve,by decide⟩
 refine⟨PySem.W.fnOf "law" "law" (defArgs s_law) (defBody s_law) (defScope s_law) .none kV67 dc67 pm67 an67 cd67 ct67,fun s v=>.of_eq rfl,fun base _ _ hBl hCA=>?_⟩
 have hCd_law:PySem.W.CodeHd base 613 609:=hCA.1
 have c_common_divisor:Own l.prog w K mg base "common_divisor" 1 F_common_divisor:=Own.mk' F1 (ok_common_divisor F1 z_abs) (PySem.W.mg_of X G a1) b1
 have c_ratio:Own l.prog w K mg base "ratio" 2 F_ratio:=Own.mk' F2 (ok_ratio F2 c_common_divisor) (PySem.W.mg_of X G a2) b2
 have c_plus:Own l.prog w K mg base "plus" 3 F_plus:=Own.mk' F3 (ok_plus F3 c_ratio) (PySem.W.mg_of X G a3) b3
 have c_minus:Own l.prog w K mg base "minus" 3 F_minus:=Own.mk' F4 (ok_minus F4 c_ratio) (PySem.W.mg_of X G a4) b4
 have c_times:Own l.prog w K mg base "times" 3 F_times:=Own.mk' F5 (ok_times F5 c_ratio) (PySem.W.mg_of X G a5) b5
 have c_over:Own l.prog w K mg base "over" 3 F_over:=Own.mk' F6 (ok_over F6 c_ratio) (PySem.W.mg_of X G a6) b6
 have c_negative:Own l.prog w K mg base "negative" 1 F_negative:=Own.mk' F7 (ok_negative F7) (PySem.W.mg_of X G a7) b7
 have c_without_sign:Own l.prog w K mg base "without_sign" 1 F_without_sign:=Own.mk' F8 (ok_without_sign F8 z_abs) (PySem.W.mg_of X G a8) b8
 have c_whole_root:Own l.prog w K mg base "whole_root" 1 F_whole_root:=Own.mk' F9 (ok_whole_root F9) (PySem.W.mg_of X G a9) b9
 have c_square_root_or_none:Own l.prog w K mg base "square_root_or_none" 2 F_square_root_or_none:=Own.mk' F10 (ok_square_root_or_none F10 c_whole_root) (PySem.W.mg_of X G a10) b10
 have c_root_in:Own l.prog w K mg base "root_in" 3 F_root_in:=Own.mk' F11 (ok_root_in F11 c_square_root_or_none) (PySem.W.mg_of X G a11) b11
 have c_is_plain:Own l.prog w K mg base "is_plain" 1 F_is_plain:=Own.mk' F12 (ok_is_plain F12) (PySem.W.mg_of X G a12) b12
 have c_with_sign_of:Own l.prog w K mg base "with_sign_of" 2 F_with_sign_of:=Own.mk' F13 (ok_with_sign_of F13 c_negative) (PySem.W.mg_of X G a13) b13
 have c_made:Own l.prog w K mg base "made" 4 F_made:=Own.mk' F14 (ok_made F14 c_root_in c_without_sign c_plus c_with_sign_of g_NOUGHT) (PySem.W.mg_of X G a14) b14
 have c_field_base:Own l.prog w K mg base "field_base" 2 F_field_base:=Own.mk' F15 (ok_field_base F15 c_without_sign c_is_plain) (PySem.W.mg_of X G a15) b15
 have c_share:Own l.prog w K mg base "share" 4 F_share:=Own.mk' F16 (ok_share F16 c_is_plain c_root_in c_over c_without_sign c_with_sign_of g_NOUGHT) (PySem.W.mg_of X G a16) b16
 have c_joined:Own l.prog w K mg base "joined" 4 F_joined:=Own.mk' F17 (ok_joined F17 c_times c_with_sign_of) (PySem.W.mg_of X G a17) b17
 have c_root_negative:Own l.prog w K mg base "root_negative" 2 F_root_negative:=Own.mk' F18 (ok_root_negative F18 c_negative) (PySem.W.mg_of X G a18) b18
 have c_root_plus:Own l.prog w K mg base "root_plus" 5 F_root_plus:=Own.mk' F19 (ok_root_plus F19 c_field_base c_plus c_share c_joined) (PySem.W.mg_of X G a19) b19
 have c_root_minus:Own l.prog w K mg base "root_minus" 6 F_root_minus:=Own.mk' F20 (ok_root_minus F20 c_root_plus c_root_negative) (PySem.W.mg_of X G a20) b20
 have c_sign_of:Own l.prog w K mg base "sign_of" 1 F_sign_of:=Own.mk' F21 (ok_sign_of F21) (PySem.W.mg_of X G a21) b21
 have c_root_sign:Own l.prog w K mg base "root_sign" 4 F_root_sign:=Own.mk' F22 (ok_root_sign F22 c_minus c_without_sign c_times c_sign_of) (PySem.W.mg_of X G a22) b22
 have c_root_less:Own l.prog w K mg base "root_less" 7 F_root_less:=Own.mk' F23 (ok_root_less F23 c_root_sign c_root_minus) (PySem.W.mg_of X G a23) b23
 have c_plain_point:Own l.prog w K mg base "plain_point" 1 F_plain_point:=Own.mk' F24 (ok_plain_point F24 g_NOUGHT) (PySem.W.mg_of X G a24) b24
 have c_place_of:Own l.prog w K mg base "place_of" 1 F_place_of:=Own.mk' F25 (ok_place_of F25) (PySem.W.mg_of X G a25) b25
 have c_plain_way:Own l.prog w K mg base "plain_way" 4 F_plain_way:=Own.mk' F26 (ok_plain_way F26 c_minus) (PySem.W.mg_of X G a26) b26
 have c_product_of_ways:Own l.prog w K mg base "product_of_ways" 4 F_product_of_ways:=Own.mk' F27 (ok_product_of_ways F27 c_plus c_times) (PySem.W.mg_of X G a27) b27
 have c_moved:Own l.prog w K mg base "moved" 4 F_moved:=Own.mk' F28 (ok_moved F28 c_plus c_times) (PySem.W.mg_of X G a28) b28
 have c_square_of_unlike:Own l.prog w K mg base "square_of_unlike" 5 F_square_of_unlike:=Own.mk' F29 (ok_square_of_unlike F29 c_product_of_ways) (PySem.W.mg_of X G a29) b29
 have cx_square_of_unlike:OwnX l.prog w K mg base "square_of_unlike" 5 (FX_square_of_unlike cNoMeet):=OwnX.mk' F29 (okx_square_of_unlike F29 c_product_of_ways m_NoMeet eq_NoMeet) (PySem.W.mg_of X G a29) b29
 have c_without_noughts:Own l.prog w K mg base "without_noughts" 1 F_without_noughts:=Own.mk' F30 (ok_without_noughts F30) (PySem.W.mg_of X G a30) b30
 have c_common_multiple:Own l.prog w K mg base "common_multiple" 2 F_common_multiple:=Own.mk' F31 (ok_common_multiple F31 c_common_divisor) (PySem.W.mg_of X G a31) b31
 have c_common_bottom:Own l.prog w K mg base "common_bottom" 3 F_common_bottom:=Own.mk' F32 (ok_common_bottom F32 c_common_multiple) (PySem.W.mg_of X G a32) b32
 have c_tops_over:Own l.prog w K mg base "tops_over" 1 F_tops_over:=Own.mk' F33 (ok_tops_over F33) (PySem.W.mg_of X G a33) b33
 have c_normal_of_tops:Own l.prog w K mg base "normal_of_tops" 2 F_normal_of_tops:=Own.mk' F34 (ok_normal_of_tops F34 c_common_divisor z_max) (PySem.W.mg_of X G a34) b34
 have c_normal:Own l.prog w K mg base "normal" 4 F_normal:=Own.mk' F35 (ok_normal F35 c_normal_of_tops c_tops_over c_common_bottom z_len z_list) (PySem.W.mg_of X G a35) b35
 have c_line_from:Own l.prog w K mg base "line_from" 5 F_line_from:=Own.mk' F36 (ok_line_from F36 c_without_noughts c_negative c_product_of_ways) (PySem.W.mg_of X G a36) b36
 have c_degree_of:Own l.prog w K mg base "degree_of" 1 F_degree_of:=Own.mk' F37 (ok_degree_of F37 z_max) (PySem.W.mg_of X G a37) b37
 have c_is_whole:Own l.prog w K mg base "is_whole" 1 F_is_whole:=Own.mk' F38 (ok_is_whole F38 z_isinstance z_bool z_int) (PySem.W.mg_of X G a38) b38
 have c_is_fraction:Own l.prog w K mg base "is_fraction" 2 F_is_fraction:=Own.mk' F39 (ok_is_fraction F39 c_is_whole c_common_divisor z_len z_isinstance z_tuple) (PySem.W.mg_of X G a39) b39
 have c_drawn_line:Own l.prog w K mg base "drawn_line" 6 F_drawn_line:=Own.mk' F40 (ok_drawn_line F40 c_place_of c_plain_way c_square_of_unlike c_moved c_over c_plus c_normal c_line_from) (PySem.W.mg_of X G a40) b40
 have c_is_number:Own l.prog w K mg base "is_number" 4 F_is_number:=Own.mk' F41 (ok_is_number F41 c_is_fraction c_root_in c_without_sign c_is_plain z_len z_isinstance z_tuple) (PySem.W.mg_of X G a41) b41
 have c_can_reach:Own l.prog w K mg base "can_reach" 8 F_can_reach:=Own.mk' F42 (ok_can_reach F42 c_made c_negative c_times c_plus c_root_less g_NOUGHT) (PySem.W.mg_of X G a42) b42
 have c_draws:Own l.prog w K mg base "draws" 9 F_draws:=Own.mk' F43 (ok_draws F43 c_degree_of c_drawn_line c_minus c_normal c_plain_way c_place_of c_can_reach c_product_of_ways) (PySem.W.mg_of X G a43) b43
 have c_line_cell:Own l.prog w K mg base "line_cell" 5 F_line_cell:=Own.mk' F44 (ok_line_cell F44 c_degree_of c_place_of c_plus c_product_of_ways c_moved c_negative c_over c_plain_point g_NOUGHT) (PySem.W.mg_of X G a44) b44
 have cx_line_cell:OwnX l.prog w K mg base "line_cell" 5 (FX_line_cell cNoCurve):=OwnX.mk' F44 (okx_line_cell F44 c_plus c_product_of_ways c_place_of c_degree_of g_NOUGHT m_NoCurve eq_NoCurve) (PySem.W.mg_of X G a44) b44
 have c__law_cell_at:Own l.prog w K mg base "_law_cell_at" 1 F__law_cell_at:=Own.mk' F45 (ok__law_cell_at F45 z_len) (PySem.W.mg_of X G a45) b45
 have c__law_state:Own l.prog w K mg base "_law_state" 2 F__law_state:=Own.mk' F46 (ok__law_state F46 c__law_cell_at) (PySem.W.mg_of X G a46) b46
 have c__law_take:Own l.prog w K mg base "_law_take" 1 F__law_take:=Own.mk' F47 (ok__law_take F47) (PySem.W.mg_of X G a47) b47
 have c__law_divisor:Own l.prog w K mg base "_law_divisor" 1 F__law_divisor:=Own.mk' F48 (ok__law_divisor F48 z_abs) (PySem.W.mg_of X G a48) b48
 have c__law_ratio:Own l.prog w K mg base "_law_ratio" 2 F__law_ratio:=Own.mk' F49 (ok__law_ratio F49 c__law_divisor) (PySem.W.mg_of X G a49) b49
 have c__law_times:Own l.prog w K mg base "_law_times" 3 F__law_times:=Own.mk' F50 (ok__law_times F50 c__law_ratio) (PySem.W.mg_of X G a50) b50
 have c__law_small:Own l.prog w K mg base "_law_small" 3 F__law_small:=Own.mk' F51 (ok__law_small F51 c__law_ratio c__law_take) (PySem.W.mg_of X G a51) b51
 have c__law_plus:Own l.prog w K mg base "_law_plus" 3 F__law_plus:=Own.mk' F52 (ok__law_plus F52 c__law_ratio) (PySem.W.mg_of X G a52) b52
 have c__law_minus:Own l.prog w K mg base "_law_minus" 3 F__law_minus:=Own.mk' F53 (ok__law_minus F53 c__law_ratio) (PySem.W.mg_of X G a53) b53
 have c__law_plain:Own l.prog w K mg base "_law_plain" 1 F__law_plain:=Own.mk' F54 (ok__law_plain F54) (PySem.W.mg_of X G a54) b54
 have c__law_plain_point:Own l.prog w K mg base "_law_plain_point" 4 F__law_plain_point:=Own.mk' F55 (ok__law_plain_point F55 c__law_plain c__law_small) (PySem.W.mg_of X G a55) b55
 have c__law_above:Own l.prog w K mg base "_law_above" 3 F__law_above:=Own.mk' F56 (ok__law_above F56 c__law_ratio c__law_take) (PySem.W.mg_of X G a56) b56
 have c__law_added:Own l.prog w K mg base "_law_added" 4 F__law_added:=Own.mk' F57 (ok__law_added F57 c__law_plus c__law_times z_dict) (PySem.W.mg_of X G a57) b57
 have c__law_normal:Own l.prog w K mg base "_law_normal" 2 F__law_normal:=Own.mk' F58 (ok__law_normal F58 c__law_divisor z_dict z_max) (PySem.W.mg_of X G a58) b58
 have c__law_refused:OwnR l.prog w K mg base "_law_refused" 7 (FrefH [(6,cNoCurve)] 6 l.prog w K mg base):=OwnR.mk' F59 (fun cells=>ok__law_refused F59 z_isinstance z_ValueError z_range m_RodError m_NoRoot m_NoField m_NoQuotient m_NoMachine m_Stuck m_NoMeet m_BadNote m_NoName m_NoCurve hR) (PySem.W.mg_of X G a59) b59
 have c__law_ahead:Own l.prog w K mg base "_law_ahead" 4 F__law_ahead:=Own.mk' F60 (ok__law_ahead F60 c__law_minus) (PySem.W.mg_of X G a60) b60
 have c__law_line:Own l.prog w K mg base "_law_line" 5 F__law_line:=Own.mk' F61 (ok__law_line F61 c__law_plus c__law_times c__law_added c__law_minus) (PySem.W.mg_of X G a61) b61
 have c__law_reaches:Own l.prog w K mg base "_law_reaches" 4 F__law_reaches:=Own.mk' F62 (ok__law_reaches F62 c__law_plus c__law_times c__law_minus) (PySem.W.mg_of X G a62) b62
 have c__law_due:Own l.prog w K mg base "_law_due" 6 F__law_due:=Own.mk' F63 (ok__law_due F63 c__law_ahead c__law_normal c__law_line c__law_minus c__law_reaches) (PySem.W.mg_of X G a63) b63
 have c__law_is_plain:Own l.prog w K mg base "_law_is_plain" 5 F__law_is_plain:=Own.mk' F64 (ok__law_is_plain F64 c_is_number z_len z_isinstance z_tuple) (PySem.W.mg_of X G a64) b64
 have c__law_told_right:Own l.prog w K mg base "_law_told_right" 7 F__law_told_right:=Own.mk' F65 (ok__law_told_right F65 c_line_cell c__law_is_plain c_is_number c__law_due z_len z_isinstance z_tuple) (PySem.W.mg_of X G a65) b65
 have c__law_own_right:Own l.prog w K mg base "_law_own_right" 10 F__law_own_right:=Own.mk' F66 (ok__law_own_right F66 c__law_ahead c__law_plus c__law_times c__law_above c__law_take c__law_line c__law_minus c__law_added c_draws c__law_due z_isinstance z_bool) (PySem.W.mg_of X G a66) b66
 exact ok_law F67 c__law_state c__law_plain_point c__law_own_right c__law_small c__law_added c__law_plus c__law_times c__law_refused c__law_told_right cx_line_cell z_range z_max z_min z_len z_dict hk_law hCd_law hBl
theorem walk {l:PySem.W.OpenLaw} {q:Program} {loose:List Str} {XP:(Str->Option Value)->Heap->Prop} {YP:World->Heap->Prop} {d:DefRec} {K:Params->Fg} (hn:l.most=some 63) (hdf:d.params.defaults=[])
  (hY:∀ (w:World) (h:Heap),YP w h->(K w.params).In h)
  (hnK:∀ w:World,PySem.W.noTabs (K w.params)=true) (hT:∀ (w:World) (h:Heap),YP w h->PySem.W.TabsAt [(613,609)] h)
  (F:∀ (w:World) (mg:Str->Option Value) (fa:Addr) (h:Heap),(K w.params).In h->h.Ns mainGlobals mg->mg d.name=some (.ref fa)->
   ∃ fd:FuncData,(∀ (s:Shared) (u:Value),BindsTo s fd ⟨[u],[]⟩ [("script",u)])/\∀ base:Heap,(K w.params).In base->base.Ns mainGlobals mg->BltB mg base->PySem.W.CodeAll [(613,609)] base->FnOk l.prog w (K w.params) mg base CX0 11 fa fd ["script"] (spU (K w.params) (F_law 609))):
  PySem.W.WalkO q loose XP YP l.row.toRowW d [] (fun f vs=>PySem.call f vs):=
 L2.walk_ofT (n:=63) (k:=11) (x:="script") (CX:=fun _=>CX0) (sp:=fun w=>spU (K w.params) (F_law 609)) hn (by decide) hdf ⟨rfl,by decide,by decide⟩ hY hnK hT F
  (fun w H a ns hl ho hS=>DL.law_upT (tq:=[(609,"law"++".<locals>."++"<lambda>")]) ho hS (by simp) (law_ask 609 ns hl)) fun _ _ _ _ _ z=>z
end My
open PySem PySem.W PyProof.Rows
set_option maxRecDepth 100000 in
set_option maxHeartbeats 0 in
theorem PySem.Challenge.cw_hingedraw_k84_lines_that_cells_draw_holds : PySem.Challenge.rw_hingedraw_k84_lines_that_cells_draw.Holds := by
 w_on; o_law; k_head; (case hw=>w_witness2)
 k_fill
 refine My.walk (l := PySem.Challenge.rw_hingedraw_k84_lines_that_cells_draw) rfl rfl (fun w h Y => PySem.W.km_in_of Y) ?nK ?xs ?F
 case nK=>intro w; kernel_rfl
 case xs=>intro w h Y; exact List.forall_mem_cons.mpr ⟨⟨PySem.W.codeHd_of_K (c:=613) (P:=609) (PySem.W.km_in_of Y) (by kernel_rfl),PySem.W.km_tabs_of Y 609 (by simp)⟩,fun _ h=>nomatch h⟩
 case F=>
  intro w mg fa h KX G hmg
  refine' My.all_mk KX G hmg ?a1 ?l1 ?e1 ?k1 ?a2 ?l2 ?e2 ?k2 ?a3 ?l3 ?e3 ?k3 ?a4 ?l4 ?e4 ?k4 ?a5 ?l5 ?e5 ?k5 ?a6 ?l6 ?e6 ?k6 ?a7 ?l7 ?e7 ?k7 ?a8 ?l8 ?e8 ?k8 ?a9 ?l9 ?e9 ?k9 ?a10 ?l10 ?e10 ?k10 ?a11 ?l11 ?e11 ?k11 ?a12 ?l12 ?e12 ?k12 ?a13 ?l13 ?e13 ?k13 ?a14 ?l14 ?e14 ?k14 ?a15 ?l15 ?e15 ?k15 ?a16 ?l16 ?e16 ?k16 ?a17 ?l17 ?e17 ?k17 ?a18 ?l18 ?e18 ?k18 ?a19 ?l19 ?e19 ?k19 ?a20 ?l20 ?e20 ?k20 ?a21 ?l21 ?e21 ?k21 ?a22 ?l22 ?e22 ?k22 ?a23 ?l23 ?e23 ?k23 ?a24 ?l24 ?e24 ?k24 ?a25 ?l25 ?e25 ?k25 ?a26 ?l26 ?e26 ?k26 ?a27 ?l27 ?e27 ?k27 ?a28 ?l28 ?e28 ?k28 ?a29 ?l29 ?e29 ?k29 ?a30 ?l30 ?e30 ?k30 ?a31 ?l31 ?e31 ?k31 ?a32 ?l32 ?e32 ?k32 ?a33 ?l33 ?e33 ?k33 ?a34 ?l34 ?e34 ?k34 ?a35 ?l35 ?e35 ?k35 ?a36 ?l36 ?e36 ?k36 ?a37 ?l37 ?e37 ?k37 ?a38 ?l38 ?e38 ?k38 ?a39 ?l39 ?e39 ?k39 ?a40 ?l40 ?e40 ?k40 ?a41 ?l41 ?e41 ?k41 ?a42 ?l42 ?e42 ?k42 ?a43 ?l43 ?e43 ?k43 ?a44 ?l44 ?e44 ?k44 ?a45 ?l45 ?e45 ?k45 ?a46 ?l46 ?e46 ?k46 ?a47 ?l47 ?e47 ?k47 ?a48 ?l48 ?e48 ?k48 ?a49 ?l49 ?e49 ?k49 ?a50 ?l50 ?e50 ?k50 ?a51 ?l51 ?e51 ?k51 ?a52 ?l52 ?e52 ?k52 ?a53 ?l53 ?e53 ?k53 ?a54 ?l54 ?e54 ?k54 ?a55 ?l55 ?e55 ?k55 ?a56 ?l56 ?e56 ?k56 ?a57 ?l57 ?e57 ?k57 ?a58 ?l58 ?e58 ?k58 ?a59 ?l59 ?e59 ?k59 ?a60 ?l60 ?e60 ?k60 ?a61 ?l61 ?e61 ?k61 ?a62 ?l62 ?e62 ?k62 ?a63 ?l63 ?e63 ?k63 ?a64 ?l64 ?e64 ?k64 ?a65 ?l65 ?e65 ?k65 ?a66 ?l66 ?e66 ?k66 ?a67 ?l67 ?e67 ?k67 ?hk_law ?ag_NOUGHT ?lg_NOUGHT ?ac_RodError ?ac_NoRoot ?ac_NoField ?ac_NoQuotient ?ac_NoMachine ?ac_Stuck ?ac_NoMeet ?ac_BadNote ?ac_NoName ?ac_NoCurve ?eq_NoMeet ?eq_NoCurve ?x1_NoCurve ?x2_NoCurve ?x3_NoCurve ?x4_NoCurve ?x5_NoCurve ?x6_NoCurve ?vl_NoCurve ?rd_NoCurve ?kt0_NoCurve ?kt1_NoCurve ?kt2_NoCurve ?kt3_NoCurve ?kt4_NoCurve ?kt5_NoCurve ?kt6_NoCurve ?kt7_NoCurve ?kt8_NoCurve ?y_abs ?y_max ?y_len ?y_list ?y_isinstance ?y_bool ?y_int ?y_tuple ?y_dict ?y_ValueError ?y_range ?y_min
  (case a1=>k_is)
  (case l1=>k_is)
  (case e1=>k_is)
  (case k1=>k_is)
  (case a2=>k_is)
  (case l2=>k_is)
  (case e2=>k_is)
  (case k2=>k_is)
  (case a3=>k_is)
  (case l3=>k_is)
  (case e3=>k_is)
  (case k3=>k_is)
  (case a4=>k_is)
  (case l4=>k_is)
  (case e4=>k_is)
  (case k4=>k_is)
  (case a5=>k_is)
  (case l5=>k_is)
  (case e5=>k_is)
  (case k5=>k_is)
  (case a6=>k_is)
  (case l6=>k_is)
  (case e6=>k_is)
  (case k6=>k_is)
  (case a7=>k_is)
  (case l7=>k_is)
  (case e7=>k_is)
  (case k7=>k_is)
  (case a8=>k_is)
  (case l8=>k_is)
  (case e8=>k_is)
  (case k8=>k_is)
  (case a9=>k_is)
  (case l9=>k_is)
  (case e9=>k_is)
  (case k9=>k_is)
  (case a10=>k_is)
  (case l10=>k_is)
  (case e10=>k_is)
  (case k10=>k_is)
  (case a11=>k_is)
  (case l11=>k_is)
  (case e11=>k_is)
  (case k11=>k_is)
  (case a12=>k_is)
  (case l12=>k_is)
  (case e12=>k_is)
  (case k12=>k_is)
  (case a13=>k_is)
  (case l13=>k_is)
  (case e13=>k_is)
  (case k13=>k_is)
  (case a14=>k_is)
  (case l14=>k_is)
  (case e14=>k_is)
  (case k14=>k_is)
  (case a15=>k_is)
  (case l15=>k_is)
  (case e15=>k_is)
  (case k15=>k_is)
  (case a16=>k_is)
  (case l16=>k_is)
  (case e16=>k_is)
  (case k16=>k_is)
  (case a17=>k_is)
  (case l17=>k_is)
  (case e17=>k_is)
  (case k17=>k_is)
  (case a18=>k_is)
  (case l18=>k_is)
  (case e18=>k_is)
  (case k18=>k_is)
  (case a19=>k_is)
  (case l19=>k_is)
  (case e19=>k_is)
  (case k19=>k_is)
  (case a20=>k_is)
  (case l20=>k_is)
  (case e20=>k_is)
  (case k20=>k_is)
  (case a21=>k_is)
  (case l21=>k_is)
  (case e21=>k_is)
  (case k21=>k_is)
  (case a22=>k_is)
  (case l22=>k_is)
  (case e22=>k_is)
  (case k22=>k_is)
  (case a23=>k_is)
  (case l23=>k_is)
  (case e23=>k_is)
  (case k23=>k_is)
  (case a24=>k_is)
  (case l24=>k_is)
  (case e24=>k_is)
  (case k24=>k_is)
  (case a25=>k_is)
  (case l25=>k_is)
  (case e25=>k_is)
  (case k25=>k_is)
  (case a26=>k_is)
  (case l26=>k_is)
  (case e26=>k_is)
  (case k26=>k_is)
  (case a27=>k_is)
  (case l27=>k_is)
  (case e27=>k_is)
  (case k27=>k_is)
  (case a28=>k_is)
  (case l28=>k_is)
  (case e28=>k_is)
  (case k28=>k_is)
  (case a29=>k_is)
  (case l29=>k_is)
  (case e29=>k_is)
  (case k29=>k_is)
  (case a30=>k_is)
  (case l30=>k_is)
  (case e30=>k_is)
  (case k30=>k_is)
  (case a31=>k_is)
  (case l31=>k_is)
  (case e31=>k_is)
  (case k31=>k_is)
  (case a32=>k_is)
  (case l32=>k_is)
  (case e32=>k_is)
  (case k32=>k_is)
  (case a33=>k_is)
  (case l33=>k_is)
  (case e33=>k_is)
  (case k33=>k_is)
  (case a34=>k_is)
  (case l34=>k_is)
  (case e34=>k_is)
  (case k34=>k_is)
  (case a35=>k_is)
  (case l35=>k_is)
  (case e35=>k_is)
  (case k35=>k_is)
  (case a36=>k_is)
  (case l36=>k_is)
  (case e36=>k_is)
  (case k36=>k_is)
  (case a37=>k_is)
  (case l37=>k_is)
  (case e37=>k_is)
  (case k37=>k_is)
  (case a38=>k_is)
  (case l38=>k_is)
  (case e38=>k_is)
  (case k38=>k_is)
  (case a39=>k_is)
  (case l39=>k_is)
  (case e39=>k_is)
  (case k39=>k_is)
  (case a40=>k_is)
  (case l40=>k_is)
  (case e40=>k_is)
  (case k40=>k_is)
  (case a41=>k_is)
  (case l41=>k_is)
  (case e41=>k_is)
  (case k41=>k_is)
  (case a42=>k_is)
  (case l42=>k_is)
  (case e42=>k_is)
  (case k42=>k_is)
  (case a43=>k_is)
  (case l43=>k_is)
  (case e43=>k_is)
  (case k43=>k_is)
  (case a44=>k_is)
  (case l44=>k_is)
  (case e44=>k_is)
  (case k44=>k_is)
  (case a45=>k_is)
  (case l45=>k_is)
  (case e45=>k_is)
  (case k45=>k_is)
  (case a46=>k_is)
  (case l46=>k_is)
  (case e46=>k_is)
  (case k46=>k_is)
  (case a47=>k_is)
  (case l47=>k_is)
  (case e47=>k_is)
  (case k47=>k_is)
  (case a48=>k_is)
  (case l48=>k_is)
  (case e48=>k_is)
  (case k48=>k_is)
  (case a49=>k_is)
  (case l49=>k_is)
  (case e49=>k_is)
  (case k49=>k_is)
  (case a50=>k_is)
  (case l50=>k_is)
  (case e50=>k_is)
  (case k50=>k_is)
  (case a51=>k_is)
  (case l51=>k_is)
  (case e51=>k_is)
  (case k51=>k_is)
  (case a52=>k_is)
  (case l52=>k_is)
  (case e52=>k_is)
  (case k52=>k_is)
  (case a53=>k_is)
  (case l53=>k_is)
  (case e53=>k_is)
  (case k53=>k_is)
  (case a54=>k_is)
  (case l54=>k_is)
  (case e54=>k_is)
  (case k54=>k_is)
  (case a55=>k_is)
  (case l55=>k_is)
  (case e55=>k_is)
  (case k55=>k_is)
  (case a56=>k_is)
  (case l56=>k_is)
  (case e56=>k_is)
  (case k56=>k_is)
  (case a57=>k_is)
  (case l57=>k_is)
  (case e57=>k_is)
  (case k57=>k_is)
  (case a58=>k_is)
  (case l58=>k_is)
  (case e58=>k_is)
  (case k58=>k_is)
  (case a59=>k_is)
  (case l59=>k_is)
  (case e59=>k_is)
  (case k59=>k_is)
  (case a60=>k_is)
  (case l60=>k_is)
  (case e60=>k_is)
  (case k60=>k_is)
  (case a61=>k_is)
  (case l61=>k_is)
  (case e61=>k_is)
  (case k61=>k_is)
  (case a62=>k_is)
  (case l62=>k_is)
  (case e62=>k_is)
  (case k62=>k_is)
  (case a63=>k_is)
  (case l63=>k_is)
  (case e63=>k_is)
  (case k63=>k_is)
  (case a64=>k_is)
  (case l64=>k_is)
  (case e64=>k_is)
  (case k64=>k_is)
  (case a65=>k_is)
  (case l65=>k_is)
  (case e65=>k_is)
  (case k65=>k_is)
  (case a66=>k_is)
  (case l66=>k_is)
  (case e66=>k_is)
  (case k66=>k_is)
  (case a67=>k_is)
  (case l67=>k_is)
  (case e67=>k_is)
  (case k67=>k_is)
  (case hk_law=>exact rfl)
  (case ag_NOUGHT=>k_is)
  (case lg_NOUGHT=>k_is)
  (case ac_RodError=>k_is)
  (case ac_NoRoot=>k_is)
  (case ac_NoField=>k_is)
  (case ac_NoQuotient=>k_is)
  (case ac_NoMachine=>k_is)
  (case ac_Stuck=>k_is)
  (case ac_NoMeet=>k_is)
  (case ac_BadNote=>k_is)
  (case ac_NoName=>k_is)
  (case ac_NoCurve=>k_is)
  (case eq_NoMeet=>kernel_rfl)
  (case eq_NoCurve=>kernel_rfl)
  (case x1_NoCurve=>k_is)
  (case x2_NoCurve=>k_is)
  (case x3_NoCurve=>k_is)
  (case x4_NoCurve=>k_is)
  (case x5_NoCurve=>k_is)
  (case x6_NoCurve=>kernel_rfl)
  (case vl_NoCurve=>kernel_rfl)
  (case rd_NoCurve=>kernel_rfl)
  (case kt0_NoCurve=>kernel_rfl)
  (case kt1_NoCurve=>kernel_rfl)
  (case kt2_NoCurve=>kernel_rfl)
  (case kt3_NoCurve=>kernel_rfl)
  (case kt4_NoCurve=>kernel_rfl)
  (case kt5_NoCurve=>kernel_rfl)
  (case kt6_NoCurve=>kernel_rfl)
  (case kt7_NoCurve=>kernel_rfl)
  (case kt8_NoCurve=>kernel_rfl)
  (case y_abs=>k_is)
  (case y_max=>k_is)
  (case y_len=>k_is)
  (case y_list=>k_is)
  (case y_isinstance=>k_is)
  (case y_bool=>k_is)
  (case y_int=>k_is)
  (case y_tuple=>k_is)
  (case y_dict=>k_is)
  (case y_ValueError=>k_is)
  (case y_range=>k_is)
  (case y_min=>k_is)
