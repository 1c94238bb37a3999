import PyProof.Rows.All
import Wide.All
import OpenK.AllK
import Wide.FinOn
import Lean
import PyProof.EqAt
import PyProof.EqKinds
import PyProof.TupleCall
import PySem.Challenge.RW_hingedraw_k76_whole_lines_and_circles
set_option compiler.extract_closed false
set_option genSizeOfSpec false
set_option Elab.async false
set_option linter.all false
set_option maxRecDepth 100000
set_option Elab.async false
set_option linter.all false
set_option maxRecDepth 100000
namespace L2
open PySem PySem.Spec PyProof.Rows
abbrev dG:=Sum Int Str
def rW:dG->Value->Bool
 | .inl k,v=>Value.isInt k v
 | .inr x,v=>Value.isStrOf x v
def J7 (w:World):dG->Int
 | .inl k=>hashInt k
 | .inr x=>hashStr w x
theorem cJ:∀ {k:dG} {v:Value},rW k v=true->(∃ i t,k=Sum.inl i/\v=Value.int i t)\/(∃ x t,k=Sum.inr x/\v=Value.str x t)
 | .inl i,v,h=>by
  obtain⟨t,e⟩:=Value.isInt_shape (k:=i) (v:=v) h
  exact .inl ⟨i,t,rfl,e⟩
 | .inr x,v,h=>by
  obtain⟨t,e⟩:=Value.isStrOf_shape (x:=x) (v:=v) h
  exact .inr ⟨x,t,rfl,e⟩
theorem yN (i:Int) (t:Tok):rW (.inl i) (.int i t)=true:=by simp [rW,Value.isInt]
theorem ya (x:Str) (t:Tok):rW (.inr x) (.str x t)=true:=by simp [rW,Value.isStrOf]
theorem GI (a b:Int):decide ((Sum.inl a:dG)=Sum.inl b)=(a == b):=by
 by_cases e:a=b
 ·subst e; simp
 ·have h:¬ (Sum.inl a:dG)=Sum.inl b:=fun q=>e (Sum.inl.inj q)
  rw [decide_eq_false h]
  exact(beq_eq_false_iff_ne.mpr e).symm
theorem GF (a b:Str):decide ((Sum.inr a:dG)=Sum.inr b)=decide (a=b):=by
 by_cases e:a=b
 ·subst e; simp
 ·have h:¬ (Sum.inr a:dG)=Sum.inr b:=fun q=>e (Sum.inr.inj q)
  rw [decide_eq_false h,decide_eq_false e]
theorem Go (a:Int) (b:Str):decide ((Sum.inl a:dG)=Sum.inr b)=false:=decide_eq_false (fun q=>nomatch q)
theorem FZ (a:Str) (b:Int):decide ((Sum.inr a:dG)=Sum.inl b)=false:=decide_eq_false (fun q=>nomatch q)
def dX (prog:Program) (w:World):PySem.KeyKind prog w dG where
 is:=rW
 hash:=J7 w
 inj:=fun v a b ha hb=>by
  rcases cJ ha with ⟨i,t,rfl,rfl⟩ | ⟨x,t,rfl,rfl⟩
  ·rcases cJ hb with ⟨j,u,rfl,e⟩ | ⟨y,u,rfl,e⟩
   ·injection e with e1 _; rw [e1]
   ·exact nomatch e
  ·rcases cJ hb with ⟨j,u,rfl,e⟩ | ⟨y,u,rfl,e⟩
   ·exact nomatch e
   ·injection e with e1 _; rw [e1]
 byValue:=fun k v h=>by
  rcases cJ h with ⟨i,t,rfl,rfl⟩ | ⟨x,t,rfl,rfl⟩ <;> rfl
 pyHash:=fun hv h=>by
  rcases cJ hv with ⟨i,t,rfl,rfl⟩ | ⟨x,t,rfl,rfl⟩
  ·exact wpAny_pyHash_int h
  ·exact wpAny_pyHash_str h
 eqBool:=fun hu hv h=>by
  rcases cJ hu with ⟨i,t,rfl,rfl⟩ | ⟨x,t,rfl,rfl⟩
  ·rcases cJ hv with ⟨j,u,rfl,rfl⟩ | ⟨y,u,rfl,rfl⟩
   ·rw [GI] at h; exact wpAny_eqBool_int h
   ·rw [Go] at h; exact SeqAt.EqAt.int_str i t y u _ _ _ _ h
  ·rcases cJ hv with ⟨j,u,rfl,rfl⟩ | ⟨y,u,rfl,rfl⟩
   ·rw [FZ] at h; exact SeqAt.EqAt.str_int x t j u _ _ _ _ h
   ·rw [GF] at h; exact wpAny_eqBool_str h
 «strs»:=fun k x t v h=>by
  rcases cJ h with ⟨i,u,rfl,e⟩ | ⟨y,u,rfl,e⟩
  ·exact nomatch e
  ·injection e with e1 _
   subst e1
   cases v <;> rfl
theorem vt (prog:Program) (w:World) (i:Int) (t:Tok):(dX prog w).is (.inl i) (.int i t)=true:=yN i t
theorem uE (prog:Program) (w:World) (x:Str) (t:Tok):(dX prog w).is (.inr x) (.str x t)=true:=ya x t
inductive V where
 | non | bl (b:Bool) | int (i:Int) | str (x:Str) | byt (b:Array UInt8) | flt (b:UInt64) | ref (a:Addr) | ty (n:String)
 deriving DecidableEq
def aF:V->Value->Prop
 | .non,u=>u=Value.none
 | .bl b,u=>u=Value.bool b
 | .int i,u=>∃ t,u=Value.int i t
 | .str x,u=>∃ t,u=Value.str x t
 | .byt b,u=>∃ t,u=Value.bytes b t
 | .flt b,u=>∃ t,u=Value.float b t
 | .ref a,u=>u=Value.ref a
 | .ty n,u=>u=Value.type n
abbrev aL:List V->List Value->Prop:=Paired aF
theorem aL.length {xs:List V} {us:List Value} (r:aL xs us):xs.length=us.length:=Paired.length r
theorem aL.get:∀ {xs:List V} {us:List Value} {i:Nat} {x:V},aL xs us->xs[i]?=some x->∃ u,us[i]?=some u/\aF x u
 | _,_,_,_,.nil,e=>by simp at e
 | _,_,0,_,.cons r _,e=>by simp at e; subst e; exact⟨_,rfl,r⟩
 | _,_,i+1,x,.cons _ t,e=>by
  obtain⟨u,h1,h2⟩:=aL.get (i:=i) (x:=x) t (by simpa using e)
  exact⟨u,by simpa using h1,h2⟩
theorem aL.set {x:V} {u:Value} (r:aF x u):∀ {xs:List V} {us:List Value} (i:Nat),aL xs us->aL (xs.set i x) (us.set i u)
 | _,_,_,.nil=>.nil
 | _,_,0,.cons _ t=>.cons r t
 | _,_,i+1,.cons q t=>.cons q (aL.set r i t)
theorem aL.append:∀ {xs ys:List V} {us ws:List Value},aL xs us->aL ys ws->aL (xs++ys) (us++ws)
 | _,_,_,_,.nil,s=>s
 | _,_,_,_,.cons r t,s=>.cons r (aL.append t s)
theorem aL.take:∀ {xs:List V} {us:List Value} (n:Nat),aL xs us->aL (xs.take n) (us.take n)
 | _,_,0,_=>.nil
 | _,_,_+1,.nil=>.nil
 | _,_,n+1,.cons r t=>.cons r (aL.take n t)
theorem aL.drop:∀ {xs:List V} {us:List Value} (n:Nat),aL xs us->aL (xs.drop n) (us.drop n)
 | _,_,0,r=>r
 | _,_,_+1,.nil=>.nil
 | _,_,n+1,.cons _ t=>aL.drop n t
def qW:Option V->Option Value->Prop
 | some v,some u=>aF v u
 | none,none=>True
 | _,_=>False
def KV {κ:Type}:List (κ×V)->List (κ×Value)->Prop:=Paired fun(p:κ×V) (q:κ×Value)=>p.1=q.1/\aF p.2 q.2
def kV:dG->V
 | .inl i=>.int i
 | .inr x=>.str x
inductive HO where
 | lst (xs:List V)
 | tup (xs:List V)
 | dK (kvs:List (dG×V)) | dT (kvs:List (List dG×V))
 | set (S:Int->Bool) (n:Nat)
 | ins (C dx:Addr) (fs:List (Str×V))
 | own (x:Addr)
 | xd (fs:List (Str×V))
 | met (f x:Addr)
 | rng (lo hi:Int)
 | frz (o:Obj) (u:HO)
 | tbl (ps:Array Value)
 | ext (φ:Heap->Prop)
abbrev Hp:=Addr->Option HO
def bJ (H:Hp) (a:Addr) (o:HO):Hp:=fun b=>if b=a then some o else H b
theorem bC {H:Hp} {a:Addr} {o:HO}:bJ H a o a=some o:=by unfold bJ; rw [if_pos rfl]
theorem aG {H:Hp} {a b:Addr} {o:HO} (h:b≠a):bJ H a o b=H b:=by unfold bJ; rw [if_neg h]
theorem IQ {H:Hp} {a b:Addr} {o u:HO} (h:H a=some o) (h':H b=some u) (d:o≠u):a≠b:=by
 intro e; subst e; rw [h] at h'; exact d (Option.some.inj h')
theorem b8 {H:Hp} {a b:Addr} {o:HO} (h:H a=some o) (h':H b=none):a≠b:=by
 intro e; subst e; rw [h] at h'; cases h'
section
variable (P:Program) (w:World)
def dE (H:Hp) (h:Heap) (a:Addr):HO->Prop
 | .lst xs=>xs.length<=sizeLine/\∃ (its:List Value) (n:Nat),aL xs its/\h.get? a=some {cls:=.type "list",data:=.seq its.toArray n}
 | .tup xs=>xs.length<=sizeLine/\∃ its:List Value,aL xs its/\IsTup h a its.toArray
 | .dK kvs=>kvs.length<=sizeLine/\(a == sysModules)=false/\∃ vs,KV kvs vs/\h.DictOf (dX P w) a vs
 | .dT kvs=>kvs.length<=sizeLine/\(a == sysModules)=false/\∃ xs:List (List dG×Addr×Value),
   Paired (fun (p:List dG×V) (q:List dG×Addr×Value)=>p.1=q.1/\H q.2.1=some (.tup (p.1.map kV))/\aF p.2 q.2.2) kvs xs/\
   ∃ o es ep,h.get? a=some o/\o.ExactDict/\o.data=.dict es ep/\es.toList=xs.map (entryOfKey (tupleKind (dX P w)))/\(xs.map (·.1)).Nodup
 | .set S n=>h.SetOf (intKind P w) a S n
 | .ins C dx fs=>H dx=some (.own a)/\fs.length<=1000/\dx≠a/\h.get? a=some (PySem.W.instObj C dx)/\
   ∃ mA,h.Ns1 dx mA/\(∀ f,qW (fs.lookup f) (mA f))/\PySem.Within mA (fs.map (·.1))
 | .own _=>∃ o,h.get? a=some o
 | .xd fs=>∃ mA,h.Ns1 a mA/\∀ f,qW (fs.lookup f) (mA f)
 | .rng lo hi=>∃ t u v,h.get? a=some {cls:=.type "range",data:=.fields #[.int lo t,.int hi u,.int 1 v]}
 | .frz o u=>h.get? a=some o/\dE H h a u
 | .tbl ps=>h.get? a=some {cls:=.none,data:=.fields ps}
 | .met f x=>h.get? a=some (PySem.W.methodObj (.ref f) (.ref x))
 | .ext φ=>φ h/\(∃ o,h.get? a=some o)/\∀ h1 h2:Heap,φ h1->(∀ o,h1.get? a=some o->h2.get? a=some o)->φ h2
def lF (H:Hp) (h:Heap):Prop:=∀ a o,H a=some o->dE P w H h a o
end
section
variable {P:Program} {w:World} {H H':Hp} {h h':Heap} {a:Addr} {o:HO}
theorem dE.lt (x:dE P w H h a o):a < h.objs.size:=by
 cases o with
 | lst xs=>obtain⟨_,_,_,_,e⟩:=x; exact Heap.lt_size e
 | tup xs=>obtain⟨_,_,_,p⟩:=x; exact p.lt
 | dK kvs=>obtain⟨_,_,_,_,o,_,_,e,_⟩:=x; exact Heap.lt_size e
 | dT kvs=>obtain⟨_,_,_,_,o,_,_,e,_⟩:=x; exact Heap.lt_size e
 | set S n=>obtain⟨o,_,_,_,e,_⟩:=x; exact Heap.lt_size e
 | ins C dx fs=>obtain⟨_,_,_,e,_⟩:=x; exact Heap.lt_size e
 | own y=>obtain⟨_,e⟩:=x; exact Heap.lt_size e
 | xd fs=>obtain⟨_,⟨_,_,_,e,_⟩,_⟩:=x; exact Heap.lt_size e
 | rng lo hi=>obtain⟨_,_,_,e⟩:=x; exact Heap.lt_size e
 | frz ob u=>obtain⟨e,_⟩:=x; exact Heap.lt_size e
 | tbl ps=>exact Heap.lt_size (show h.get? a=some _ from x)
 | met f y=>exact Heap.lt_size (show h.get? a=some _ from x)
 | ext φ=>obtain⟨_,⟨_,e⟩,_⟩:=x; exact Heap.lt_size e
theorem Paired.mapP {α β:Type} {F G:α->β->Prop}:∀ {l₁:List α} {l₂:List β},Paired F l₁ l₂->(∀ a b,F a b->G a b)->Paired G l₁ l₂
 | _,_,.nil,_=>.nil
 | _,_,.cons r t,f=>.cons (f _ _ r) (Paired.mapP t f)
theorem dE.stay (x:dE P w H h a o) (k:∀ b u,(b=a\/H b=some (.own a))->h.get? b=some u->h'.get? b=some u)
  (ho:∀ b,H b=some (.own a)->H' b=some (.own a)) (ht:∀ b xs,H b=some (.tup xs)->H' b=some (.tup xs)):dE P w H' h' a o:=by
 induction o with
 | lst xs=>obtain⟨z,its,n,r,e⟩:=x; exact⟨z,its,n,r,k _ _ (.inl rfl) e⟩
 | tup xs=>obtain⟨z,its,r,ob,e,c⟩:=x; exact⟨z,its,r,ob,k _ _ (.inl rfl) e,c⟩
 | dK kvs=>obtain⟨z,y,vs,r,ob,es,ep,e,c⟩:=x; exact⟨z,y,vs,r,ob,es,ep,k _ _ (.inl rfl) e,c⟩
 | dT kvs=>
  obtain⟨z,y,xs,r,ob,es,ep,e,c⟩:=x
  exact⟨z,y,xs,Paired.mapP r fun p q z=>⟨z.1,ht _ _ z.2.1,z.2.2⟩,ob,es,ep,k _ _ (.inl rfl) e,c⟩
 | set S n=>obtain⟨ob,es,ep,t,e,c⟩:=x; exact⟨ob,es,ep,t,k _ _ (.inl rfl) e,c⟩
 | ins C dx fs=>
  obtain⟨d,z,ne,e,mA,⟨od,es,ep,e2,c⟩,r⟩:=x
  exact⟨ho _ d,z,ne,k _ _ (.inl rfl) e,mA,⟨od,es,ep,k _ _ (.inr d) e2,c⟩,r⟩
 | own y=>obtain⟨ob,e⟩:=x; exact⟨ob,k _ _ (.inl rfl) e⟩
 | xd fs=>obtain⟨mA,⟨od,es,ep,e,c⟩,r⟩:=x; exact⟨mA,⟨od,es,ep,k _ _ (.inl rfl) e,c⟩,r⟩
 | rng lo hi=>obtain⟨t,u,v,e⟩:=x; exact⟨t,u,v,k _ _ (.inl rfl) e⟩
 | frz ob u ih=>obtain⟨e,q⟩:=x; exact⟨k _ _ (.inl rfl) e,ih q⟩
 | tbl ps=>
  have e:h.get? a=some {cls:=.none,data:=.fields ps}:=x
  show h'.get? a=some {cls:=.none,data:=.fields ps}
  exact k a _ (.inl rfl) e
 | met f y=>
  have e:h.get? a=some (PySem.W.methodObj (.ref f) (.ref y)):=x
  show h'.get? a=some (PySem.W.methodObj (.ref f) (.ref y))
  exact k a _ (.inl rfl) e
 | ext φ=>obtain⟨p,⟨o,e⟩,st⟩:=x; exact⟨st _ _ p fun o q=>k _ _ (.inl rfl) q,⟨o,k _ _ (.inl rfl) e⟩,st⟩
theorem lF.lt (x:lF P w H h) (e:H a=some o):a < h.objs.size:=(x a o e).lt
theorem lF.fresh (x:lF P w H h) (e:h.objs.size<=a):H a=none:=by
 cases q:H a with
 | none=>rfl
 | some u=>exact absurd (Nat.lt_of_lt_of_le (x.lt q) e) (Nat.lt_irrefl _)
theorem lF.kept (x:lF P w H h) (k:∀ b u,h.get? b=some u->h'.get? b=some u):lF P w H h':=fun a o e=>
 (x a o e).stay (fun b u _ q=>k b u q) (fun _ q=>q) fun _ _ q=>q
theorem lF.laid (x:lF P w H h) (k:∀ b u,h.get? b=some u->h'.get? b=some u) (hp:h.objs.size<=a) (new:dE P w (bJ H a o) h' a o):lF P w (bJ H a o) h':=fun b u e=>by
 have hn:=x.fresh hp
 by_cases hb:b=a
 ·subst hb; rw [bC] at e; cases e; exact new
 ·rw [aG hb] at e
  exact(x b u e).stay (fun c v _ q=>k c v q) (fun c q=>by rw [aG (b8 q hn)]; exact q) fun c xs q=>by rw [aG (b8 q hn)]; exact q
end
def Rd (H:Hp) (a:Addr) (u:HO):Prop:=H a=some u\/∃ o,H a=some (.frz o u)
theorem Rd.ok {P:Program} {w:World} {H:Hp} {h:Heap} {a:Addr} {u:HO} (r:Rd H a u) (x:lF P w H h):dE P w H h a u:=by
 rcases r with r | ⟨o,r⟩
 ·exact x a u r
 ·obtain⟨_,q⟩:=x a _ r
  exact q
def IT:Option HO->Prop
 | some (.lst _)=>True
 | some (.dK _)=>True
 | some (.dT _)=>True
 | some (.set _ _)=>True
 | some (.ins _ _ _)=>True
 | some (.ext _)=>True
 | _=>False
section
variable {P:Program} {w:World} {H:Hp} {h h':Heap} {x e:Addr} {o':HO}
theorem lF.write (ok:lF P w H h) (mu:IT (H x)) (he:e=x\/H e=some (.own x)) (k:∀ b u,b≠e->h.get? b=some u->h'.get? b=some u) (heo:∃ u,h'.get? e=some u)
  (new:dE P w (bJ H x o') h' x o'):lF P w (bJ H x o') h':=fun b u q=>by
 have nown:∀ c y,H c=some (.own y)->c≠x:=fun c y r z=>by subst z; rw [r] at mu; exact mu
 have ntup:∀ c xs,H c=some (.tup xs)->c≠x:=fun c xs r z=>by subst z; rw [r] at mu; exact mu
 by_cases hb:b=x
 ·subst hb; rw [bC] at q; cases q; exact new
 ·rw [aG hb] at q
  by_cases hbe:b=e
  ·have q':H b=some (.own x):=by
    rcases he with z | z
    ·exact absurd (hbe.trans z) hb
    ·rw [hbe]; exact z
   rw [q] at q'; cases q'
   obtain⟨v,hv⟩:=heo
   exact⟨v,by rw [hbe]; exact hv⟩
  ·refine(ok b u q).stay (fun c v hc r=>k c v ?_ r) (fun c r=>by rw [aG (nown c b r)]; exact r) fun c xs r=>by rw [aG (ntup c xs r)]; exact r
   rcases hc with rfl | hc
   ·exact hbe
   ·rintro rfl
    rcases he with z | z
    ·exact nown c b hc z
    ·rw [hc] at z; cases z; exact hb rfl
end
structure Un (fs ex:List Addr) (H H':Hp) (h h':Heap):Prop where
 keep:∀ b o,h.get? b=some o->H b=none->b∉fs->b∉ex->h'.get? b=some o
 slot:∀ b o,h.get? b=some o->H b=none->b∈fs->b∉ex->∃ sl,h'.get? b=some {o with slots:=sl}
 free:∀ b o,h.get? b=some o->H b=none->b∉ex->H' b=none
 there:∀ b o,h.get? b=some o->b∉ex->∃ o',h'.get? b=some o'
 tups:∀ b xs,H b=some (.tup xs)->H' b=some (.tup xs)
 frzs:∀ b o u,H b=some (.frz o u)->H' b=some (.frz o u)
 tbls:∀ b ps,H b=some (.tbl ps)->∃ more,H' b=some (.tbl (ps++more))
section
variable {fs fs' ex ex':List Addr} {H H1 H2:Hp} {h h1 h2 h':Heap} {a x e:Addr} {o:HO}
theorem Un.any (u:Un fs ex H H1 h h1) {b:Addr} {ob:Obj} (q:h.get? b=some ob) (n:H b=none) (hx:b∉ex):∃ sl,h1.get? b=some {ob with slots:=sl}:=by
 by_cases hb:b∈fs
 ·exact u.slot b ob q n hb hx
 ·exact⟨ob.slots,u.keep b ob q n hb hx⟩
theorem Un.trans (a:Un fs ex H H1 h h1) (b:Un fs ex H1 H2 h1 h2):Un fs ex H H2 h h2 where
 keep:=fun c ob q n hc hx=>b.keep c ob (a.keep c ob q n hc hx) (a.free c ob q n hx) hc hx
 slot:=fun c ob q n hc hx=>by
  obtain⟨sl,e1⟩:=a.slot c ob q n hc hx
  obtain⟨sl',e2⟩:=b.slot c _ e1 (a.free c ob q n hx) hc hx
  exact⟨sl',e2⟩
 free:=fun c ob q n hx=>by
  obtain⟨o',e1⟩:=a.there c ob q hx
  exact b.free c o' e1 (a.free c ob q n hx) hx
 there:=fun c ob q hx=>by
  obtain⟨o',e1⟩:=a.there c ob q hx
  exact b.there c o' e1 hx
 tups:=fun c xs q=>b.tups c xs (a.tups c xs q)
 frzs:=fun c ob xs q=>b.frzs c ob xs (a.frzs c ob xs q)
 tbls:=fun c ps q=>by
  obtain⟨m1,e1⟩:=a.tbls c ps q
  obtain⟨m2,e2⟩:=b.tbls c _ e1
  exact⟨m1++m2,by rw [e2,Array.append_assoc]⟩
theorem Un.kept (k:∀ b u,h.get? b=some u->h'.get? b=some u):Un fs ex H H h h':=
 ⟨fun b ob q _ _ _=>k b ob q,fun b ob q _ _ _=>⟨ob.slots,k b ob q⟩,fun _ _ _ n _=>n,fun b ob q _=>⟨ob,k b ob q⟩,fun _ _ q=>q,fun _ _ _ q=>q,fun _ ps q=>⟨#[],by rw [q]; simp⟩⟩
theorem Un.refl:Un fs ex H H h h:=Un.kept fun _ _ q=>q
theorem Un.laid (k:∀ b u,h.get? b=some u->h'.get? b=some u) (hp:h.objs.size<=a) (hn:H a=none):Un fs ex H (bJ H a o) h h' where
 keep:=fun b u q _ _ _=>k b u q
 slot:=fun b u q _ _ _=>⟨u.slots,k b u q⟩
 free:=fun b u q n _=>by rw [aG (Nat.ne_of_lt (Nat.lt_of_lt_of_le (Heap.lt_size q) hp))]; exact n
 there:=fun b u q _=>⟨u,k b u q⟩
 tups:=fun b xs q=>by rw [aG (b8 q hn)]; exact q
 frzs:=fun b u xs q=>by rw [aG (b8 q hn)]; exact q
 tbls:=fun b ps q=>⟨#[],by rw [aG (b8 q hn),q]; simp⟩
theorem Un.write (mu:IT (H x)) (he:e=x\/H e=some (.own x)) (k:∀ b u,b≠e->h.get? b=some u->h'.get? b=some u) (heo:∃ u,h'.get? e=some u):Un fs ex H (bJ H x o) h h':=by
 have hx:∀ b,H b=none->b≠x:=fun b n z=>by subst z; rw [n] at mu; exact mu
 have hb:∀ b,H b=none->b≠e:=fun b n z=>by
  subst z
  rcases he with r | r
  ·exact hx b n r
  ·rw [n] at r; cases r
 have hm:∀ b u,H b=some u->¬ IT (some u)->b≠x:=fun b u q nm z=>by subst z; rw [q] at mu; exact nm mu
 refine⟨fun b u q n _ _=>k b u (hb b n) q,fun b u q n _ _=>⟨u.slots,k b u (hb b n) q⟩,fun b u q n _=>by rw [aG (hx b n)]; exact n,fun b u q _=>?_,
  fun b xs q=>by rw [aG (hm b _ q fun z=>z)]; exact q,fun b u xs q=>by rw [aG (hm b _ q fun z=>z)]; exact q,fun b ps q=>⟨#[],by rw [aG (hm b _ q fun z=>z),q]; simp⟩⟩
 by_cases hbe:b=e
 ·subst hbe; exact heo
 ·exact⟨u,k b u hbe q⟩
end
def JV (h:Heap) (H:Hp):List Addr:=(List.range h.objs.size).filter fun a=>(H a).isSome
def pd (h:Heap) (H:Hp):Heap:=PySem.W.hideAll h (JV h H)
theorem zh (h:Heap) (H:Hp):(pd h H).objs.size=h.objs.size:=PySem.W.hideAll_size _ _
theorem CB {h:Heap} {H:Hp} {b:Addr} {o:Obj} (e:h.get? b=some o) (n:H b=none):(pd h H).get? b=some o:=
 PySem.W.hideAll_get _ e fun hm=>by
  have q:(H b).isSome=true:=(List.mem_filter.mp hm).2
  rw [n] at q; simp at q
theorem Dq {h:Heap} {H:Hp} {b:Addr} {o:Obj} (e:(pd h H).get? b=some o):h.get? b=some o/\H b=none:=by
 have e':h.get? b=some o:=PySem.W.of_hideAll (JV h H) e
 refine⟨e',?_⟩
 cases q:H b with
 | none=>rfl
 | some x=>
  have hm:b∈JV h H:=List.mem_filter.mpr ⟨List.mem_range.mpr (Heap.lt_size e'),by simp [q]⟩
  have z:(pd h H).get? b=none:=PySem.W.hideAll_none (JV h H) hm
  rw [z] at e; cases e
def De (g h:Heap) (L:Addr):List (Addr×Obj):=(List.range h.objs.size).filterMap fun a=>if a=L\/(g.get? a).isSome=true then none else(h.get? a).map fun o=>(a,o)
def ao (g h:Heap) (L d:Addr):List (Addr×Obj):=(De g h L).filter fun p=>decide (p.1≠d)
structure Mod (K:PySem.W.Frag) (mg:Str->Option Value) (base:Heap):Prop where
 kin:K.In base
 glob:base.Ns mainGlobals mg
 blt:∃ mb,base.Ns builtinsNs mb/\∀ x:Str,x≠"__name__"->mb x=bootBuiltins x
 nolimit:base.NoLimit
structure Cx where
 prog:Program
 w:World
 K:PySem.W.Frag
 mg:Str->Option Value
 base:Heap
 A:Around
 N:List Str
 s₀:Shared
 H₀:Hp
 env:Env
 outer:List Env
 stack:List Env
 ex:List Addr
 fn:Str->Bool
 calm:Bool
 pn:List (Addr×Obj)
 xe:Value->Shared->Prop
def ul (l:List Env):List Addr:=l.filterMap (·.frame)
abbrev Cx.fs (X:Cx):List Addr:=ul X.outer
def JU (sc:Scope) (x:Str):Prop:=sc.names.lookup x=some .local\/sc.names.lookup x=some .cell\/sc.names.lookup x=some .free
def Fb (sc:Scope) (x:Str):Prop:=sc.names.lookup x=some .local\/sc.names.lookup x=some .cell
def Ky (env:Env) (h:Heap) (m:Str->Option Value) (x:Str) (u:Value):Prop:=
 (env.kindOf x=some .local/\m x=some u)\/((env.kindOf x=some .cell\/env.kindOf x=some .free)/\∃ c,env.cells.lookup x=some c/\h.IsCell c (some u))
structure Cx.Ok (X:Cx):Prop where
 mod:Mod X.K X.mg X.base
 kind:X.env.scope.kind=.function
 glob:X.env.globals=mainGlobals
 blt:X.env.builtins=builtinsNs
 above:X.s₀.heap.objs.size<=X.env.locals
 inj:∀ x y c,X.env.cells.lookup x=some c->X.env.cells.lookup y=some c->x=y
 has:∀ x,(X.env.kindOf x=some .cell\/X.env.kindOf x=some .free)->∃ c,X.env.cells.lookup x=some c
 cab:∀ x c,X.fn x=true->X.env.cells.lookup x=some c->X.s₀.heap.objs.size<=c
 hd:X.calm=true->X.A.handled=none
 frames:X.A.frames=some X.stack
 stk:X.stack=X.outer\/(X.stack=X.env::X.outer/\X.env.frame=some X.env.locals)
 exf:∀ b∈X.ex,b≠X.env.locals/\∀ x c,X.env.cells.lookup x=some c->c≠b
 bs:∀ b o,X.base.get? b=some o->X.s₀.heap.get? b=some o/\X.H₀ b=none
 bsz:X.base.objs.size<=X.s₀.heap.objs.size
 noex:∀ b o,X.base.get? b=some o->b∉X.ex
 exfs:∀ b∈X.ex,b∉X.fs
 funs:X.s₀.heap.FunFrames X.base X.outer
 frf:∀ b∈X.fs,X.H₀ b=none
structure aA (X:Cx) (pins:List (Addr×Obj)) (σ:List (Option V)) (H:Hp) (s:Shared):Prop where
 ok:X.Ok
 os:s.os=X.s₀.os
 bare:AllBare s.gens
 base:Un X.fs X.ex X.H₀ H X.s₀.heap s.heap
 loc:∃ m,s.heap.Ns X.env.locals m/\∀ (i:Nat) (x:Str) (v:V),X.N[i]?=some x->σ[i]?=some (some v)->JU X.env.scope x->∃ u,aF v u/\Ky X.env s.heap m x u
 cell:∀ x c,X.env.cells.lookup x=some c->∃ v,s.heap.IsCell c v
 free:H X.env.locals=none
 freeC:∀ x c,X.env.cells.lookup x=some c->H c=none
 pin:∀ p∈X.pn++pins,s.heap.get? p.1=some p.2/\H p.1=none/\p.1≠X.env.locals/\p.1∉X.fs/\∀ v,p.2.data≠.cell v
 hok:lF X.prog X.w H s.heap
 len:σ.length=X.N.length
section
variable {X:Cx} {pins:List (Addr×Obj)} {σ:List (Option V)} {H H':Hp} {s:Shared} {h':Heap}
theorem Cx.Ok.nofr (ok:X.Ok) {b:Addr} {o:Obj} (e:X.base.get? b=some o):b∉X.fs:=fun hb=>by
 have:=(ok.funs.mem hb).1
 rw [e] at this; cases this
theorem aA.bs (I:aA X pins σ H s):∀ b o,X.base.get? b=some o->s.heap.get? b=some o/\H b=none:=fun b o e=>
 ⟨I.base.keep b o (I.ok.bs b o e).1 (I.ok.bs b o e).2 (I.ok.nofr e) (I.ok.noex b o e),I.base.free b o (I.ok.bs b o e).1 (I.ok.bs b o e).2 (I.ok.noex b o e)⟩
theorem aA.bk (I:aA X pins σ H s):∀ b o,X.base.get? b=some o->s.heap.get? b=some o:=fun b o e=>(I.bs b o e).1
theorem aA.mod (I:aA X pins σ H s):Mod X.K X.mg X.base:=I.ok.mod
theorem aA.kIn (I:aA X pins σ H s):X.K.In s.heap:=I.ok.mod.kin.keeps I.bk
theorem aA.nolimit (I:aA X pins σ H s):s.heap.NoLimit:=I.ok.mod.nolimit.keeps I.bk
theorem aA.lt (I:aA X pins σ H s):X.env.locals < s.heap.objs.size:=let ⟨_,hn,_⟩:=I.loc; hn.lt
theorem aA.sz (I:aA X pins σ H s):X.s₀.heap.objs.size<=s.heap.objs.size:=Nat.le_trans I.ok.above (Nat.le_of_lt I.lt)
theorem aA.nofs (I:aA X pins σ H s) {a:Addr} (h:s.heap.objs.size<=a):a∉X.fs:=fun hb=>by
 obtain⟨_,o,ho,_⟩:=I.ok.funs.mem hb
 exact absurd (Nat.lt_of_lt_of_le (Heap.lt_size ho) (Nat.le_trans I.sz h)) (Nat.lt_irrefl _)
theorem aA.cne (I:aA X pins σ H s):∀ x c,X.env.cells.lookup x=some c->c≠X.env.locals:=fun x c e z=>by
 obtain⟨v,o,ho,hd⟩:=I.cell x c e
 obtain⟨m,⟨o',es,ep,ho',hd',_⟩,_⟩:=I.loc
 rw [z,ho'] at ho; cases ho; rw [hd'] at hd; cases hd
theorem aA.funs (I:aA X pins σ H s):s.heap.FunFrames X.base X.outer:=by
 have all:∀ (l:List Env),(∀ b∈ul l,b∈X.fs)->X.s₀.heap.FunFrames X.base l->s.heap.FunFrames X.base l:=by
  intro l
  induction l with
  | nil=>intro _ _; trivial
  | cons env r ih=>
   intro hs hl
   obtain⟨hk,⟨L,o,hf,hn,ho,hd⟩,hr⟩:=hl
   have hL:L∈X.fs:=hs L (by unfold ul; rw [List.filterMap_cons,hf]; exact List.mem_cons_self)
   obtain⟨sl,e⟩:=I.base.slot L o ho (I.ok.frf L hL) hL fun z=>I.ok.exfs L z hL
   exact⟨hk,⟨L,_,hf,hn,e,hd⟩,ih (fun b hb=>hs b (by unfold ul; rw [List.filterMap_cons,hf]; exact List.mem_cons_of_mem _ hb)) hr⟩
 exact all X.outer (fun _ hb=>hb) I.ok.funs
theorem aA.stack (I:aA X pins σ H s):s.heap.FunFrames X.base X.stack:=by
 rcases I.ok.stk with e | ⟨e,hf⟩
 ·rw [e]; exact I.funs
 ·rw [e]
  obtain⟨m,hn,_⟩:=I.loc
  refine .cons (by rw [I.ok.kind]; decide) hf hn ?_ I.funs
  exact Heap.get?_none_of_le (Nat.le_trans I.ok.bsz I.ok.above)
theorem aA.stkSub (I:aA X pins σ H s):∀ b∈ul X.stack,b∈X.env.locals::X.fs:=fun b hb=>by
 rcases I.ok.stk with e | ⟨e,hf⟩
 ·rw [e] at hb; exact List.mem_cons_of_mem _ hb
 ·rw [e] at hb
  unfold ul at hb
  rw [List.filterMap_cons,hf] at hb
  exact hb
theorem aA.stkFree (I:aA X pins σ H s):∀ b∈ul X.stack,H b=none:=fun b hb=>by
 rcases List.mem_cons.mp (I.stkSub b hb) with e | hb
 ·rw [e]; exact I.free
 ·obtain⟨_,o,ho,_⟩:=I.ok.funs.mem hb
  exact I.base.free b o ho (I.ok.frf b hb) fun z=>I.ok.exfs b z hb
theorem aA.step {g':Array GenState} {t':Nat} {d':Drawn} {ch:List Addr} (I:aA X pins σ H s)
  (hch:∀ b∈ch,(b∈X.ex\/X.s₀.heap.objs.size<=b)/\b≠X.env.locals/\(∀ x c,X.env.cells.lookup x=some c->c≠b)/\∀ p∈X.pn++pins,p.1≠b)
  (keep:∀ b o,b≠X.env.locals->b∉X.fs->b∉ch->s.heap.get? b=some o->H b=none->h'.get? b=some o)
  (slot:∀ b o,b≠X.env.locals->b∈X.fs->b∉ch->s.heap.get? b=some o->H b=none->∃ sl,h'.get? b=some {o with slots:=sl}) (free:∀ b o,b∉ch->s.heap.get? b=some o->H b=none->H' b=none)
  (there:∀ b o,b∉ch->s.heap.get? b=some o->∃ o',h'.get? b=some o')
  (tups:∀ b xs,H b=some (.tup xs)->H' b=some (.tup xs)) (frzs:∀ b o u,H b=some (.frz o u)->H' b=some (.frz o u)) (tbls:∀ b ps,H b=some (.tbl ps)->∃ more,H' b=some (.tbl (ps++more)))
  (ns:∀ m,s.heap.Ns X.env.locals m->h'.Ns X.env.locals m) (hok:lF X.prog X.w H' h') (hg:AllBare g'):
  aA X pins σ H' {s with heap:=h',gens:=g',drawn:=d',toks:=t'}:=by
 have neL:∀ b o,X.s₀.heap.get? b=some o->b≠X.env.locals:=fun b o e=>Nat.ne_of_lt (Nat.lt_of_lt_of_le (Heap.lt_size e) I.ok.above)
 have neC:∀ b o,X.s₀.heap.get? b=some o->b∉X.ex->b∉ch:=fun b o e hx hb=>by
  rcases(hch b hb).1 with z | z
  ·exact hx z
  ·exact absurd (Nat.lt_of_lt_of_le (Heap.lt_size e) z) (Nat.lt_irrefl _)
 have cellK:∀ x c,X.env.cells.lookup x=some c->∀ v,s.heap.IsCell c v->h'.IsCell c v:=fun x c e v ⟨o,ho,hd⟩=>by
  have nch:c∉ch:=fun z=>(hch c z).2.2.1 x c e rfl
  by_cases hc:c∈X.fs
  ·obtain⟨sl,q⟩:=slot c o (I.cne x c e) hc nch ho (I.freeC x c e)
   exact⟨_,q,hd⟩
  ·exact⟨o,keep c o (I.cne x c e) hc nch ho (I.freeC x c e),hd⟩
 refine⟨I.ok,I.os,hg,⟨fun b o e n hb hx=>?_,fun b o e n hb hx=>?_,fun b o e n hx=>?_,fun b o e hx=>?_,fun b xs e=>tups b xs (I.base.tups b xs e),fun b o xs e=>frzs b o xs (I.base.frzs b o xs e),fun b ps e=>?_⟩,?_,fun x c e=>?_,?_,fun x c e=>?_,fun p hp=>?_,hok,I.len⟩
 ·exact keep b o (neL b o e) hb (neC b o e hx) (I.base.keep b o e n hb hx) (I.base.free b o e n hx)
 ·obtain⟨sl,e1⟩:=I.base.slot b o e n hb hx
  obtain⟨sl',e2⟩:=slot b _ (neL b o e) hb (neC b o e hx) e1 (I.base.free b o e n hx)
  exact⟨sl',e2⟩
 ·obtain⟨o',e1⟩:=I.base.there b o e hx
  exact free b o' (neC b o e hx) e1 (I.base.free b o e n hx)
 ·obtain⟨o',e1⟩:=I.base.there b o e hx
  exact there b o' (neC b o e hx) e1
 ·obtain⟨m1,e1⟩:=I.base.tbls b ps e
  obtain⟨m2,e2⟩:=tbls b _ e1
  exact⟨m1++m2,by rw [e2,Array.append_assoc]⟩
 ·obtain⟨m,hn,hl⟩:=I.loc
  refine⟨m,ns m hn,fun i x v e1 e2 e3=>?_⟩
  obtain⟨u,r,l⟩:=hl i x v e1 e2 e3
  refine⟨u,r,?_⟩
  rcases l with l | ⟨k,c,e,z⟩
  ·exact .inl l
  ·exact .inr ⟨k,c,e,cellK x c e _ z⟩
 ·obtain⟨v,z⟩:=I.cell x c e
  exact⟨v,cellK x c e v z⟩
 ·obtain⟨m,⟨o,_,_,ho,_⟩,_⟩:=I.loc
  exact free _ o (fun z=>(hch _ z).2.1 rfl) ho I.free
 ·obtain⟨v,o,ho,hd⟩:=I.cell x c e
  exact free c o (fun z=>(hch c z).2.2.1 x c e rfl) ho (I.freeC x c e)
 ·obtain⟨e,n,ne,nf,d⟩:=I.pin p hp
  have nch:p.1∉ch:=fun z=>(hch p.1 z).2.2.2 p hp rfl
  exact⟨keep p.1 p.2 ne nf nch e n,free p.1 p.2 nch e n,ne,nf,d⟩
theorem aA.un {t':Nat} (I:aA X pins σ H s) (u:Un X.fs [] H H' s.heap h') (hok:lF X.prog X.w H' h'):aA X pins σ H' {s with heap:=h',toks:=t'}:=by
 obtain⟨m,⟨o,es,ep,ho,r⟩,_⟩:=id I.loc
 obtain⟨sl,hL⟩:=u.any ho I.free (by simp)
 exact I.step (g':=s.gens) (d':=s.drawn) (ch:=[]) (fun _ z=>nomatch z) (fun b o _ hb _ e n=>u.keep b o e n hb (by simp)) (fun b o _ hb _ e n=>u.slot b o e n hb (by simp)) (fun b o _ e n=>u.free b o e n (by simp)) (fun b o _ e=>u.there b o e (by simp)) u.tups u.frzs u.tbls (fun m' hm=>by
  obtain⟨o',es',ep',ho',r'⟩:=hm
  rw [ho] at ho'; cases ho'
  exact⟨_,es',ep',hL,r'⟩) hok I.bare
theorem aA.call {g':Array GenState} {t':Nat} {d':Drawn} {ch:List Addr} (I:aA X pins σ H s) (u:Un (ul X.stack) ch H H' s.heap h') (hok:lF X.prog X.w H' h') (hg:AllBare g')
  (hch:∀ b∈ch,(b∈X.ex\/X.s₀.heap.objs.size<=b)/\b≠X.env.locals/\(∀ x c,X.env.cells.lookup x=some c->c≠b)/\∀ p∈X.pn++pins,p.1≠b):
  aA X pins σ H' {s with heap:=h',gens:=g',drawn:=d',toks:=t'}:=by
 obtain⟨m,⟨o,es,ep,ho,r⟩,_⟩:=id I.loc
 obtain⟨sl,hL⟩:=u.any ho I.free fun z=>(hch _ z).2.1 rfl
 exact I.step (ch:=ch) hch (fun b o hL hb hc e n=>u.keep b o e n (fun z=>(List.mem_cons.mp (I.stkSub b z)).elim hL hb) hc) (fun b o _ _ hc e n=>u.any e n hc) (fun b o hc e n=>u.free b o e n hc) (fun b o hc e=>u.there b o e hc) u.tups u.frzs u.tbls (fun m' hm=>by
  obtain⟨o',es',ep',ho',r'⟩:=hm
  rw [ho] at ho'; cases ho'
  exact⟨_,es',ep',hL,r'⟩) hok hg
theorem aA.turned {t':Nat} {it:Addr} (I:aA X pins σ H s) (k:∀ b o,b≠it->s.heap.get? b=some o->h'.get? b=some o) (hn:H it=none) (hL:it≠X.env.locals)
  (h1:it∈X.ex\/X.s₀.heap.objs.size<=it) (h2:∀ x c,X.env.cells.lookup x=some c->c≠it) (h3:∀ p∈X.pn++pins,p.1≠it):aA X pins σ H {s with heap:=h',toks:=t'}:=by
 have nit:∀ b u,H b=some u->b≠it:=fun b u e z=>by rw [z,hn] at e; cases e
 refine I.step (g':=s.gens) (d':=s.drawn) (ch:=[it]) (fun b hb=>?_) (fun b o _ _ hc e _=>k b o (fun z=>hc (by simp [z])) e) (fun b o _ _ hc e _=>⟨o.slots,k b o (fun z=>hc (by simp [z])) e⟩) (fun _ _ _ _ n=>n)
  (fun b o hc e=>⟨o,k b o (fun z=>hc (by simp [z])) e⟩) (fun _ _ e=>e) (fun _ _ _ e=>e) (fun b ps e=>⟨#[],by rw [e]; simp⟩) (fun m hm=>?_) (fun b u e=>?_) I.bare
 ·have e:b=it:=by simpa using hb
  subst e
  exact⟨h1,hL,h2,h3⟩
 ·obtain⟨o,es,ep,ho,r⟩:=hm
  exact⟨o,es,ep,k _ o (Ne.symm hL) ho,r⟩
 ·refine(I.hok b u e).stay (fun c v hc q=>k c v ?_ q) (fun _ q=>q) fun _ _ q=>q
  rcases hc with z | z
  ·rw [z]; exact nit b u e
  ·exact nit c _ z
theorem aA.tok (I:aA X pins σ H s) (t:Nat):aA X pins σ H {s with toks:=t}:=I.un (h':=s.heap) (t':=t) Un.refl I.hok
theorem aA.kept {t':Nat} (I:aA X pins σ H s) (k:∀ b u,s.heap.get? b=some u->h'.get? b=some u):aA X pins σ H {s with heap:=h',toks:=t'}:=I.un (Un.kept k) (I.hok.kept k)
theorem aA.laid {a:Addr} {o:HO} {t':Nat} (I:aA X pins σ H s) (k:∀ b u,s.heap.get? b=some u->h'.get? b=some u) (hp:s.heap.objs.size<=a) (new:dE X.prog X.w (bJ H a o) h' a o):
  aA X pins σ (bJ H a o) {s with heap:=h',toks:=t'}:=I.un (Un.laid k hp (I.hok.fresh hp)) (I.hok.laid k hp new)
theorem aA.write {x e:Addr} {o:HO} {t':Nat} (I:aA X pins σ H s) (mu:IT (H x)) (he:e=x\/H e=some (.own x)) (k:∀ b u,b≠e->s.heap.get? b=some u->h'.get? b=some u) (heo:∃ u,h'.get? e=some u)
  (new:dE X.prog X.w (bJ H x o) h' x o):aA X pins σ (bJ H x o) {s with heap:=h',toks:=t'}:=I.un (Un.write mu he k heo) (I.hok.write mu he k heo new)
theorem aA.pins_of {pins':List (Addr×Obj)} (I:aA X pins σ H s) (h:∀ p∈pins',s.heap.get? p.1=some p.2/\H p.1=none/\p.1≠X.env.locals/\p.1∉X.fs/\∀ v,p.2.data≠.cell v):aA X pins' σ H s:=
 ⟨I.ok,I.os,I.bare,I.base,I.loc,I.cell,I.free,I.freeC,fun p hp=>(List.mem_append.mp hp).elim (fun z=>I.pin p (List.mem_append_left _ z)) (h p),I.hok,I.len⟩
theorem uN {N:List Str} (hN:N.Nodup) {i j:Nat} {x:Str} (a:N[i]?=some x) (b:N[j]?=some x):i=j:=by
 obtain⟨h1,e1⟩:=List.getElem?_eq_some_iff.mp a
 obtain⟨h2,e2⟩:=List.getElem?_eq_some_iff.mp b
 exact(List.getElem_inj hN).mp (e1.trans e2.symm)
theorem yo {M:Model} {A:Around} {E:Value->Shared->Prop} {i:Nat} {x:Str} {v:V} {u:Value} {Q:Unit->Shared->Prop} (I:aA X pins σ H s) (hN:X.N.Nodup) (hi:X.N[i]?=some x) (hx:Fb X.env.scope x) (r:aF v u)
  (h:∀ s',aA X pins (σ.set i (some v)) H s'->(∃ a,Heap.SameBut a s.heap s'.heap/\(a=X.env.locals\/X.env.cells.lookup x=some a))->Q () s') (hf:X.fn x=true\/X.env.scope.names.lookup x=some .local:=by first | exact .inl rfl | exact .inr rfl | assumption):wpAny M A (storeName X.env x u) Q E s:=by
 obtain⟨m,hn,hl⟩:=id I.loc
 have hcls:(X.env.scope.kind == .class || (X.env.scope.kind == .module && X.env.locals != X.env.globals))=false:=by rw [I.ok.kind]; rfl
 have hiσ:i < σ.length:=by rw [I.len]; exact(List.getElem?_eq_some_iff.mp hi).1
 have cne:=I.cne
 have tracked:∀ {a:Addr} {h':Heap},(∃ o,s.heap.get? a=some o/\H a=none)->Heap.SameBut a s.heap h'->lF X.prog X.w H h':=fun {a h'} ha hs b ob e=>by
  obtain⟨_,_,hfree⟩:=ha
  refine(I.hok b ob e).stay (fun c w' hc q=>(hs.2 c ?_).trans q) (fun _ q=>q) fun _ _ q=>q
  rintro rfl
  rcases hc with rfl | hc
  ·rw [hfree] at e; cases e
  ·rw [hfree] at hc; cases hc
 rcases hx with hk | hk
 ·refine wpAny_storeName_local hk hn (fun h' hn' hs=>?_) hcls
  obtain⟨oL,_,_,hoL,_⟩:=id hn
  refine h _ ⟨I.ok,I.os,I.bare,⟨fun b o e n hb hx=>?_,fun b o e n hb hx=>?_,I.base.free,fun b o e hx=>?_,I.base.tups,I.base.frzs,I.base.tbls⟩,⟨_,hn',fun j y v' e1 e2 e3=>?_⟩,fun y c e=>?_,I.free,I.freeC,fun p hp=>?_,tracked ⟨oL,hoL,I.free⟩ hs,by simpa using I.len⟩ ⟨_,hs,.inl rfl⟩
  ·exact(hs.2 b (Nat.ne_of_lt (Nat.lt_of_lt_of_le (Heap.lt_size e) I.ok.above))).trans (I.base.keep b o e n hb hx)
  ·obtain⟨sl,e1⟩:=I.base.slot b o e n hb hx
   exact⟨sl,(hs.2 b (Nat.ne_of_lt (Nat.lt_of_lt_of_le (Heap.lt_size e) I.ok.above))).trans e1⟩
  ·obtain⟨o',e1⟩:=I.base.there b o e hx
   exact⟨o',(hs.2 b (Nat.ne_of_lt (Nat.lt_of_lt_of_le (Heap.lt_size e) I.ok.above))).trans e1⟩
  ·by_cases hj:j=i
   ·subst hj
    rw [hi] at e1; cases e1
    rw [List.getElem?_set_self hiσ] at e2
    cases e2
    exact⟨u,r,.inl ⟨hk,by simp⟩⟩
   ·rw [List.getElem?_set_ne (Ne.symm hj)] at e2
    obtain⟨u',r',q⟩:=hl j y v' e1 e2 e3
    refine⟨u',r',?_⟩
    rcases q with ⟨k,e⟩ | ⟨k,c,e,z⟩
    ·refine .inl ⟨k,?_⟩
     have:y≠x:=fun e=>hj (uN hN e1 (e▸hi))
     simp [this,e]
    ·exact .inr ⟨k,c,e,z.sameBut hs (cne y c e)⟩
  ·obtain⟨w',z⟩:=I.cell y c e
   exact⟨w',z.sameBut hs (cne y c e)⟩
  ·obtain⟨e,n,ne,nf,d⟩:=I.pin p hp
   exact⟨(hs.2 p.1 ne).trans e,n,ne,nf,d⟩
 ·have hfn:X.fn x=true:=by
   rcases hf with z | z
   ·exact z
   ·rw [z] at hk; cases hk
  obtain⟨c,hc⟩:=I.ok.has x (.inl hk)
  obtain⟨w',z⟩:=I.cell x c hc
  refine wpAny_storeName_cell I.ok.kind hk hc z (fun h' hc' hs=>?_)
  obtain⟨oc,hoc,hocd⟩:=id z
  refine h {s with heap:=h'} ⟨I.ok,I.os,I.bare,⟨fun b o e n hb hx=>?_,fun b o e n hb hx=>?_,I.base.free,fun b o e hx=>?_,I.base.tups,I.base.frzs,I.base.tbls⟩,⟨m,hn.sameBut hs (Ne.symm (cne x c hc)),fun j y v' e1 e2 e3=>?_⟩,fun y c' e=>?_,I.free,I.freeC,fun p hp=>?_,tracked ⟨oc,hoc,I.freeC x c hc⟩ hs,by simpa using I.len⟩ ⟨c,hs,.inr hc⟩
  ·exact(hs.2 b (Nat.ne_of_lt (Nat.lt_of_lt_of_le (Heap.lt_size e) (I.ok.cab x c hfn hc)))).trans (I.base.keep b o e n hb hx)
  ·obtain⟨sl,e1⟩:=I.base.slot b o e n hb hx
   exact⟨sl,(hs.2 b (Nat.ne_of_lt (Nat.lt_of_lt_of_le (Heap.lt_size e) (I.ok.cab x c hfn hc)))).trans e1⟩
  ·obtain⟨o',e1⟩:=I.base.there b o e hx
   exact⟨o',(hs.2 b (Nat.ne_of_lt (Nat.lt_of_lt_of_le (Heap.lt_size e) (I.ok.cab x c hfn hc)))).trans e1⟩
  ·by_cases hj:j=i
   ·subst hj
    rw [hi] at e1; cases e1
    rw [List.getElem?_set_self hiσ] at e2
    cases e2
    exact⟨u,r,.inr ⟨.inl hk,c,hc,hc'⟩⟩
   ·rw [List.getElem?_set_ne (Ne.symm hj)] at e2
    obtain⟨u',r',q⟩:=hl j y v' e1 e2 e3
    refine⟨u',r',?_⟩
    rcases q with q | ⟨k,c',e,z'⟩
    ·exact .inl q
    ·refine .inr ⟨k,c',e,z'.sameBut hs ?_⟩
     rintro rfl
     exact hj (uN hN e1 (I.ok.inj _ _ _ e hc▸hi))
  ·by_cases hcc:c'=c
   ·subst hcc; exact⟨_,hc'⟩
   ·obtain⟨w2,z2⟩:=I.cell y c' e
    exact⟨w2,z2.sameBut hs hcc⟩
  ·obtain⟨e,n,ne,nf,d⟩:=I.pin p hp
   refine⟨(hs.2 p.1 ?_).trans e,n,ne,nf,d⟩
   intro q
   rw [q,hoc] at e
   have q':oc=p.2:=Option.some.inj e
   exact d w' (by rw [<- q']; exact hocd)
theorem mI {M:Model} {A:Around} {E:Value->Shared->Prop} {i:Nat} {x:Str} {v:V} {u:Value} {Q:Unit->Shared->Prop} (I:aA X pins σ H s) (hN:X.N.Nodup) (hi:X.N[i]?=some x) (hx:Fb X.env.scope x) (r:aF v u)
  (h:∀ s',aA X pins (σ.set i (some v)) H s'->Q () s') (hf:X.fn x=true\/X.env.scope.names.lookup x=some .local:=by first | exact .inl rfl | exact .inr rfl | assumption):wpAny M A (storeName X.env x u) Q E s:=
 yo I hN hi hx r (fun s' I' _=>h s' I') hf
theorem aA.call' {s':Shared} {ch:List Addr} (I:aA X pins σ H s) (ho:s'.os=s.os) (u:Un (ul X.stack) ch H H' s.heap s'.heap) (hok:lF X.prog X.w H' s'.heap) (hg:AllBare s'.gens)
  (hch:∀ b∈ch,(b∈X.ex\/X.s₀.heap.objs.size<=b)/\b≠X.env.locals/\(∀ x c,X.env.cells.lookup x=some c->c≠b)/\∀ p∈X.pn++pins,p.1≠b):aA X pins σ H' s':=by
 obtain⟨h',g',d',t',o'⟩:=s'
 have e:o'=s.os:=ho
 subst e
 exact I.call (g':=g') (t':=t') (d':=d') u hok hg hch
end
abbrev XK:=Value->Option Addr->Hp->Prop
abbrev St:=List (Option V)
abbrev VK:=V->Hp->Prop
abbrev TE:=St->Hp->VK->Prop
abbrev TT:=St->Hp->(Bool->Hp->Prop)->Prop
abbrev TA:=St->Hp->(List V->Hp->Prop)->Prop
structure rj where
 nx:St->Hp->Prop
 rt:VK
 bk:St->Hp->Prop:=fun _ _=>False
 ct:St->Hp->Prop:=fun _ _=>False
abbrev TS:=rj->St->Hp->Prop
def EP (X:Cx) (pins:List (Addr×Obj)) (σ:St) (Q:VK) (u:Value) (s':Shared):Prop:=∃ v H',aA X pins σ H' s'/\aF v u/\Q v H'
def TP (X:Cx) (pins:List (Addr×Obj)) (σ:St) (Q:Bool->Hp->Prop) (b:Bool) (s':Shared):Prop:=∃ H',aA X pins σ H' s'/\Q b H'
def AP (X:Cx) (pins:List (Addr×Obj)) (σ:St) (Q:List V->Hp->Prop) (us:List Value) (s':Shared):Prop:=∃ vs H',aA X pins σ H' s'/\aL vs us/\Q vs H'
def SP (X:Cx) (pins:List (Addr×Obj)) (D:rj) (f:Flow) (s':Shared):Prop:=
 match f with
 | .next=>∃ σ' H',aA X pins σ' H' s'/\D.nx σ' H'
 | .brk=>∃ σ' H',aA X pins σ' H' s'/\D.bk σ' H'
 | .cont=>∃ σ' H',aA X pins σ' H' s'/\D.ct σ' H'
 | .ret u=>∃ v σ' H',aA X pins σ' H' s'/\aF v u/\D.rt v H'
def PE (X:Cx) (e:Expr) (t:TE):Prop:=
 ∀ (pins:List (Addr×Obj)) (s:Shared) (σ:St) (H:Hp) (Q:VK),aA X pins σ H s->t σ H Q->wpAny (model X.prog X.w) X.A (eval e X.env) (EP X pins σ Q) X.xe s
def PT (X:Cx) (e:Expr) (t:TT):Prop:=
 ∀ (pins:List (Addr×Obj)) (s:Shared) (σ:St) (H:Hp) (Q:Bool->Hp->Prop),aA X pins σ H s->t σ H Q->wpAny (model X.prog X.w) X.A (isTrue e X.env (eval e X.env)) (TP X pins σ Q) X.xe s
def PW (X:Cx) (e:Expr) (t:TT):Prop:=
 ∀ (whole:Sem Value) (pins:List (Addr×Obj)) (s:Shared) (σ:St) (H:Hp) (Q:Bool->Hp->Prop),aA X pins σ H s->t σ H Q->wpAny (model X.prog X.w) X.A (isTrue e X.env whole) (TP X pins σ Q) X.xe s
theorem PW.pt {X:Cx} {e:Expr} {t:TT} (h:PW X e t):PT X e t:=h _
def PA (X:Cx) (es:List Expr) (t:TA):Prop:=
 ∀ (pos:Pos) (pins:List (Addr×Obj)) (s:Shared) (σ:St) (H:Hp) (Q:List V->Hp->Prop),aA X pins σ H s->t σ H Q->wpAny (model X.prog X.w) X.A (spliced (backTo pos (starEach es X.env))) (AP X pins σ Q) X.xe s
def PS (X:Cx) (st:Stmt) (t:TS):Prop:=
 ∀ (pins:List (Addr×Obj)) (s:Shared) (σ:St) (H:Hp) (D:rj),aA X pins σ H s->t D σ H->wpAny (model X.prog X.w) X.A (exec st X.env) (SP X pins D) X.xe s
def nH (X:Cx) (st:List Stmt) (t:TS):Prop:=
 ∀ (pins:List (Addr×Obj)) (s:Shared) (σ:St) (H:Hp) (D:rj),aA X pins σ H s->t D σ H->wpAny (model X.prog X.w) X.A (execs st X.env) (SP X pins D) X.xe s
theorem bL {α:Type} {t:Sem α} {Q Q':α->Shared->Prop} {M:Model} {A:Around} {E:Value->Shared->Prop} {s:Shared} (h:wpAny M A t Q E s) (hQ:∀ a s,Q a s->Q' a s):wpAny M A t Q' E s:=wpAny_mono h hQ fun _ _ x=>x
section
variable {X:Cx}
def KR (i:Nat):TE:=fun σ H Q=>∃ v,σ[i]?=some (some v)/\Q v H
def tC (v:V):TE:=fun _ H Q=>Q v H
theorem FT {i:Nat} {x:Str} {pos:Pos} (hN:X.N[i]?=some x) (hv:JU X.env.scope x) (hd:(x == ("__debug__":Str))=false:=by decide) (hcd:(x == ("__classdict__":Str))=false:=by decide):PE X (.Name x pos) (KR i):=by
 intro pins s σ H Q I h
 obtain⟨v,e,h⟩:=h
 obtain⟨m,hn,hl⟩:=I.loc
 obtain⟨u,r,l⟩:=hl i x v hN e hv
 have fin:EP X pins σ Q u s:=⟨v,H,I,r,h⟩
 rcases l with ⟨hk,hm⟩ | ⟨hk,c,hc,hcell⟩
 ·exact wpAny_Name (wpAny_loadName_local I.ok.kind hk hn hm fin) hd
 ·rcases hk with hk | hk
  ·exact wpAny_Name (wpAny_loadName_cell I.ok.kind hk hc hcell fin) hd
  ·exact wpAny_Name (wpAny_loadName_free I.ok.kind hk hc hcell fin hcd) hd
theorem Gs {i j pos}:PE X (.Constant (.int i) j pos) (tC (.int i)):=fun _ _ _ H _ I h=>wpAny_Constant_int ⟨.int i,H,I.tok _,⟨_,rfl⟩,h⟩
theorem JO {b j pos}:PE X (.Constant (.bool b) j pos) (tC (.bl b)):=fun _ _ _ H _ I h=>Constant_bool ⟨.bl b,H,I,rfl,h⟩
theorem Hj {j pos}:PE X (.Constant .none j pos) (tC .non):=fun _ _ _ H _ I h=>Constant_none ⟨.non,H,I,rfl,h⟩
theorem Hk {x j pos}:PE X (.Constant (.str x) j pos) (tC (.str x)):=fun _ _ _ H _ I h=>Calls.Constant_str ⟨.str x,H,I.tok _,⟨_,rfl⟩,h⟩
def Gl (X:Cx) (x:Str):Prop:=X.env.kindOf x=some .globalImplicit
theorem xp {E:Value->Shared->Prop} {pins:List (Addr×Obj)} {s:Shared} {σ:St} {H:Hp} {x:Str} {u:Value} {pos:Pos} {Q:Value->Shared->Prop} (I:aA X pins σ H s) (hg:Gl X x) (hm:X.mg x=some u) (h:Q u s)
  (hd:(x == ("__debug__":Str))=false:=by decide):wpAny (model X.prog X.w) X.A (eval (.Name x pos) X.env) Q E s:=
 Calls.Name_function_global I.ok.kind hg (Calls.loadGlobal_global (by rw [I.ok.glob]; exact I.mod.glob.keeps I.bk) hm h) hd
theorem qe {E:Value->Shared->Prop} {pins:List (Addr×Obj)} {s:Shared} {σ:St} {H:Hp} {x:Str} {u:Value} {pos:Pos} {Q:Value->Shared->Prop} (I:aA X pins σ H s) (hg:Gl X x) (hm:X.mg x=none) (hv:bootBuiltins x=some u) (h:Q u s)
  (hn:x≠"__name__":=by decide) (hd:(x == ("__debug__":Str))=false:=by decide):wpAny (model X.prog X.w) X.A (eval (.Name x pos) X.env) Q E s:=by
 obtain⟨mb,h1,h2⟩:=I.mod.blt
 exact Calls.Name_function_global I.ok.kind hg (Calls.loadGlobal_builtin (by rw [I.ok.glob]; exact I.mod.glob.keeps I.bk) hm (by rw [I.ok.blt]; exact h1.keeps I.bk) ((h2 x hn).trans hv) h) hd
theorem xt {x:Str} {v:V} {u:Value} {pos:Pos} (hg:Gl X x) (hm:X.mg x=some u) (r:aF v u) (hd:(x == ("__debug__":Str))=false:=by decide):PE X (.Name x pos) (tC v):=
 fun _ _ _ H _ I h=>xp I hg hm ⟨v,H,I,r,h⟩ hd
variable {a b:Expr} {ta tb:TE} {pos:Pos}
def tB (t:TE):TT:=fun σ H Q=>t σ H fun x H1=>∃ c,x=.bl c/\Q c H1
theorem Hm {e:Expr} {t:TE} (h:PE X e t) (he:∀ whole,isTrue e X.env whole=(do let v <- whole; standAt e.pos; holding [v] (truthy v)):=by intro _; rfl):PT X e (tB t):=by
 intro pins s σ H Q I hw
 refine isTrue_plain (bL (h pins s σ H _ I hw) fun v s1 ⟨x,H1,I1,r1,q1⟩=>?_) (he _)
 obtain⟨d,rfl,q⟩:=q1
 cases r1
 exact wpAny_truthy_bool ⟨H1,I1,q⟩
variable {tA tB':TT} {ao:List Expr}
def J2 (t u:TT):TT:=fun σ H Q=>t σ H fun c H1=>if c=true then u σ H1 Q else Q false H1
def Lk (t u:TT):TT:=fun σ H Q=>t σ H fun c H1=>if c=true then Q true H1 else u σ H1 Q
def Kl (t:TT):TT:=fun σ H Q=>t σ H fun c H1=>Q (!c) H1
theorem Dj (ha:PT X a tA):PW X (.BoolOp .And [a] pos) tA:=by
 intro wh pins s σ H Q I h
 refine isTrue_and (bL (ha pins s σ H Q I h) fun c s1 e=>?_)
 cases c with
 | true=>exact isTrue_and_nil e
 | false=>exact e
theorem Hg (ha:PT X a tA):PW X (.BoolOp .Or [a] pos) tA:=by
 intro wh pins s σ H Q I h
 refine isTrue_or (bL (ha pins s σ H Q I h) fun c s1 e=>?_)
 cases c with
 | false=>exact isTrue_or_nil e
 | true=>exact e
theorem Gx (ha:PT X a tA) (hb:PW X (.BoolOp .And (b::ao) pos) tB'):PW X (.BoolOp .And (a::b::ao) pos) (J2 tA tB'):=by
 intro wh pins s σ H Q I h
 refine isTrue_and (bL (ha pins s σ H _ I h) fun c s1 ⟨H1,I1,q1⟩=>?_)
 cases c with
 | true=>exact hb wh pins s1 σ H1 Q I1 q1
 | false=>exact⟨H1,I1,q1⟩
theorem IG (ha:PT X a tA) (hb:PW X (.BoolOp .Or (b::ao) pos) tB'):PW X (.BoolOp .Or (a::b::ao) pos) (Lk tA tB'):=by
 intro wh pins s σ H Q I h
 refine isTrue_or (bL (ha pins s σ H _ I h) fun c s1 ⟨H1,I1,q1⟩=>?_)
 cases c with
 | true=>exact⟨H1,I1,q1⟩
 | false=>exact hb wh pins s1 σ H1 Q I1 q1
theorem GR (ha:PT X a tA):PT X (.UnaryOp .Not a pos) (Kl tA):=by
 intro pins s σ H Q I h
 exact isTrue_not (ha pins s σ H (fun c H1=>Q (!c) H1) I h)
def Jj (ta tb:TE):TE:=fun σ H Q=>ta σ H fun x H1=>∃ c,x=.bl c/\if c=true then tb σ H1 Q else Q (.bl false) H1
theorem F4 {op} {t:TE} (h:PE X a t):PE X (.BoolOp op [a] pos) t:=fun pins s σ H Q I hw=>BoolOp_one (h pins s σ H Q I hw)
theorem GG (ha:PE X a ta) (hb:PE X (.BoolOp .And (b::ao) pos) tb):PE X (.BoolOp .And (a::b::ao) pos) (Jj ta tb):=by
 intro pins s σ H Q I h
 refine BoolOp_and (bL (ha pins s σ H _ I h) fun v s1 ⟨x,H1,I1,r1,q1⟩=>?_)
 obtain⟨c,rfl,q1⟩:=q1
 cases r1
 refine wpAny_truthy_bool ?_
 cases c with
 | true=>exact hb pins s1 σ H1 Q I1 q1
 | false=>exact⟨.bl false,H1,I1,rfl,q1⟩
def LN (t:TT) (ta tb:TE):TE:=fun σ H Q=>t σ H fun c H1=>if c=true then ta σ H1 Q else tb σ H1 Q
theorem BO {c:Expr} (hc:PT X c tA) (ha:PE X a ta) (hb:PE X b tb):PE X (.IfExp c a b pos) (LN tA ta tb):=by
 intro pins s σ H Q I h
 refine wpAny_IfExp (bL (hc pins s σ H _ I h) fun d s1 ⟨H1,I1,q1⟩=>?_)
 cases d with
 | true=>exact ha pins s1 σ H1 Q I1 q1
 | false=>exact hb pins s1 σ H1 Q I1 q1
end
def jf (K:PySem.W.Frag) (H:Hp) (a:Addr) (xs:List V):Prop:=
 Rd H a (.lst xs)\/
  ∃ (o:Obj) (its:Array Value) (n:Nat),K.lookup a=some o/\o.cls=.type "list"/\o.dict=none/\o.data=.seq its n/\its.size<=sizeLine/\aL xs its.toList
def ka (K:PySem.W.Frag) (H:Hp) (a:Addr) (xs:List V):Prop:=
 Rd H a (.tup xs)\/
  ∃ (o:Obj) (its:Array Value) (n:Nat),K.lookup a=some o/\o.cls=.type "tuple"/\o.data=.seq its n/\its.size<=sizeLine/\aL xs its.toList
def K5:Value->Option V
 | .none=>some .non
 | .bool b=>some (.bl b)
 | .int i _=>some (.int i)
 | .str x _=>some (.str x)
 | .bytes b _=>some (.byt b)
 | .float b _=>some (.flt b)
 | .ref a=>some (.ref a)
 | .type n=>some (.ty n)
 | _=>none
theorem aF.abs {x:V} {u:Value} (r:aF x u):K5 u=some x:=by
 cases x with
 | non=>cases r; rfl
 | bl _=>cases r; rfl
 | int _=>obtain⟨t,rfl⟩:=r; rfl
 | str _=>obtain⟨t,rfl⟩:=r; rfl
 | byt _=>obtain⟨t,rfl⟩:=r; rfl
 | flt _=>obtain⟨t,rfl⟩:=r; rfl
 | ref _=>cases r; rfl
 | ty _=>cases r; rfl
theorem aF.inj {x y:V} {u:Value} (r:aF x u) (q:aF y u):x=y:=Option.some.inj (r.abs.symm.trans q.abs)
theorem aL.inj:∀ {xs ys:List V} {us:List Value},aL xs us->aL ys us->xs=ys
 | _,_,_,.nil,.nil=>rfl
 | _,_,_,.cons r t,.cons r' t'=>by rw [r.inj r',aL.inj t t']
section
variable {X:Cx} {pins:List (Addr×Obj)} {σ:St} {H:Hp} {s:Shared} {a:Addr} {xs ys:List V}
theorem jf.of {K:PySem.W.Frag} (h:H a=some (.lst xs)):jf K H a xs:=.inl (.inl h)
theorem ka.of {K:PySem.W.Frag} (h:H a=some (.tup xs)):ka K H a xs:=.inl (.inl h)
theorem aA.list (I:aA X pins σ H s) (h:jf X.K H a xs):∃ its:List Value,aL xs its/\PlainL s.heap a its.toArray/\xs.length<=sizeLine:=by
 rcases h with h | ⟨o,its,n,hk,hc,hd,hs,hz,r⟩
 ·obtain⟨z,its,n,r,e⟩:=h.ok I.hok
  exact⟨its,r,⟨_,n,e,rfl,rfl,rfl⟩,z⟩
 ·refine⟨its.toList,r,⟨o,n,I.kIn a o hk,hc,hd,by simpa using hs⟩,?_⟩
  have e:=r.length
  simp only [Array.length_toList] at e
  omega
theorem aA.tuple (I:aA X pins σ H s) (h:ka X.K H a xs):∃ its:List Value,aL xs its/\IsTup s.heap a its.toArray/\xs.length<=sizeLine:=by
 rcases h with h | ⟨o,its,n,hk,hc,hs,hz,r⟩
 ·obtain⟨z,its,r,p⟩:=h.ok I.hok
  exact⟨its,r,p,z⟩
 ·refine⟨its.toList,r,⟨o,I.kIn a o hk,hc,n,by simpa using hs⟩,?_⟩
  have e:=r.length
  simp only [Array.length_toList] at e
  omega
theorem aA.list_inj (I:aA X pins σ H s) (h:jf X.K H a xs) (h':jf X.K H a ys):xs=ys:=by
 obtain⟨its,r,⟨o,n,e,_,_,d⟩,_⟩:=I.list h
 obtain⟨its',r',⟨o',n',e',_,_,d'⟩,_⟩:=I.list h'
 rw [e] at e'; cases e'
 rw [d] at d'
 injection d' with d1 _
 have:its=its':=by simpa using congrArg Array.toList d1
 subst this
 exact r.inj r'
theorem aA.tuple_inj (I:aA X pins σ H s) (h:ka X.K H a xs) (h':ka X.K H a ys):xs=ys:=by
 obtain⟨its,r,⟨o,e,_,n,d⟩,_⟩:=I.tuple h
 obtain⟨its',r',⟨o',e',_,n',d'⟩,_⟩:=I.tuple h'
 rw [e] at e'; cases e'
 rw [d] at d'
 injection d' with d1 _
 have:its=its':=by simpa using congrArg Array.toList d1
 subst this
 exact r.inj r'
end
abbrev Cx.wish (X:Cx) (E:Value->Shared->Prop):Cx:={X with xe:=E}
abbrev Cx.nox (X:Cx):Cx:=X.wish fun _ _=>False
theorem Cx.Ok.wish {X:Cx} (ok:X.Ok) (E:Value->Shared->Prop):(X.wish E).Ok:=
 ⟨ok.mod,ok.kind,ok.glob,ok.blt,ok.above,ok.inj,ok.has,ok.cab,ok.hd,ok.frames,ok.stk,ok.exf,ok.bs,ok.bsz,ok.noex,ok.exfs,ok.funs,ok.frf⟩
theorem Cx.Ok.unwish {X:Cx} {E:Value->Shared->Prop} (ok:(X.wish E).Ok):X.Ok:=
 ⟨ok.mod,ok.kind,ok.glob,ok.blt,ok.above,ok.inj,ok.has,ok.cab,ok.hd,ok.frames,ok.stk,ok.exf,ok.bs,ok.bsz,ok.noex,ok.exfs,ok.funs,ok.frf⟩
section
variable {X:Cx} {pins:List (Addr×Obj)} {σ:St} {H:Hp} {s:Shared} {E:Value->Shared->Prop}
theorem aA.wish (I:aA X pins σ H s) (E:Value->Shared->Prop):aA (X.wish E) pins σ H s:=⟨I.ok.wish E,I.os,I.bare,I.base,I.loc,I.cell,I.free,I.freeC,I.pin,I.hok,I.len⟩
theorem aA.unwish (I:aA (X.wish E) pins σ H s):aA X pins σ H s:=⟨I.ok.unwish,I.os,I.bare,I.base,I.loc,I.cell,I.free,I.freeC,I.pin,I.hok,I.len⟩
theorem SP.unwish {D:rj} {f:Flow} {s':Shared} (h:SP (X.wish E) pins D f s'):SP X pins D f s':=by
 cases f with
 | next=>obtain⟨σ',H',I,q⟩:=h; exact⟨σ',H',I.unwish,q⟩
 | brk=>obtain⟨σ',H',I,q⟩:=h; exact⟨σ',H',I.unwish,q⟩
 | cont=>obtain⟨σ',H',I,q⟩:=h; exact⟨σ',H',I.unwish,q⟩
 | ret u=>obtain⟨v,σ',H',I,r,q⟩:=h; exact⟨v,σ',H',I.unwish,r,q⟩
theorem nH.nox {st:List Stmt} {t:TS} (h:nH X.nox st t):nH X st t:=fun pins s σ H D I hw=>
 wpAny_mono (h pins s σ H D (I.wish _) hw) (fun _ _ q=>q.unwish) fun _ _ z=>False.elim z
end
section
variable {X:Cx} {st:Stmt} {ao:List Stmt} {t u:TS} {e:Expr} {te:TE} {pos:Pos}
def Jz:TS:=fun D σ H=>D.nx σ H
def Jh (t u:TS):TS:=fun D σ H=>t {D with nx:=u D} σ H
theorem Ef:nH X [] Jz:=fun _ _ σ H _ I h=>wpAny_execs_nil ⟨σ,H,I,h⟩
theorem Aw (h1:PS X st t) (h2:nH X ao u):nH X (st::ao) (Jh t u):=by
 intro pins s σ H D I h
 refine wpAny_execs_cons (bL (h1 pins s σ H {D with nx:=u D} I h) fun f s1 q=>?_)
 cases f with
 | next=>
  obtain⟨σ',H',I',q⟩:=q
  exact h2 pins s1 σ' H' D I' q
 | ret v=>exact q
 | brk=>exact q
 | cont=>exact q
theorem DN (h1:PS X st t):nH X [st] t:=by
 intro pins s σ H D I h
 refine wpAny_execs_cons (bL (h1 pins s σ H D I h) fun f s1 q=>?_)
 cases f with
 | next=>exact wpAny_execs_nil q
 | ret v=>exact q
 | brk=>exact q
 | cont=>exact q
theorem aA.quiet {pins:List (Addr×Obj)} {σ:St} {H:Hp} {s:Shared} (I:aA X pins σ H s):interactive X.env=false:=by simp [interactive,I.ok.kind]
def Jg (te:TE):TS:=fun D σ H=>te σ H fun _ H1=>D.nx σ H1
theorem C7 (he:PE X e te) (hs:swapsWith e none pos.line X.env=pure false:=by rfl):PS X (.Expr e pos) (Jg te):=by
 intro pins s σ H D I h
 exact wpAny_Expr_any (bL (he pins s σ H _ I h) fun v s1 ⟨x,H1,I1,r1,q1⟩=>⟨σ,H1,I1,q1⟩) I.quiet hs
def J3 (te:TE):TS:=fun D σ H=>te σ H D.rt
theorem FK (he:PE X e te):PS X (.Return (some e) pos) (J3 te):=by
 intro pins s σ H D I h
 exact wpAny_Return_some (bL (he pins s σ H _ I h) fun v s1 ⟨x,H1,I1,r1,q1⟩=>⟨x,σ,H1,I1,r1,q1⟩)
def J1 (c:TT) (t u:TS):TS:=fun D σ H=>c σ H fun b H1=>if b=true then t D σ H1 else u D σ H1
theorem Jt {c:Expr} {a b:List Stmt} {tc:TT} (hc:PT X c tc) (ha:nH X a t) (hb:nH X b u):PS X (.If c a b pos) (J1 tc t u):=by
 intro pins s σ H D I h
 refine wpAny_If (bL (hc pins s σ H _ I h) fun d s1 ⟨H1,I1,q1⟩=>?_)
 cases d with
 | true=>exact ha pins s1 σ H1 D I1 q1
 | false=>exact hb pins s1 σ H1 D I1 q1
def GY:TS:=fun _ _ _=>False
theorem z9:PS X st GY:=fun _ _ _ _ _ _ h=>h.elim
end
abbrev TG:=V->St->Hp->(St->Hp->Prop)->Prop
abbrev A9:=List V->St->Hp->(St->Hp->Prop)->Prop
def PG (X:Cx) (target:Expr) (t:TG):Prop:=
 ∀ (pins:List (Addr×Obj)) (s:Shared) (σ:St) (H:Hp) (v:V) (u:Value) (Q:St->Hp->Prop),aA X pins σ H s->aF v u->t v σ H Q->
  wpAny (model X.prog X.w) X.A (assign target X.env u) (fun _ s'=>∃ σ' H',aA X pins σ' H' s'/\Q σ' H') X.xe s
def xO (X:Cx) (ts:List Expr) (t:A9):Prop:=
 ∀ (pins:List (Addr×Obj)) (s:Shared) (σ:St) (H:Hp) (vs:List V) (us:List Value) (Q:St->Hp->Prop),aA X pins σ H s->aL vs us->t vs σ H Q->
  wpAny (model X.prog X.w) X.A (assignInOrder ((assignEach ts X.env).map (·.2)) us) (fun _ s'=>∃ σ' H',aA X pins σ' H' s'/\Q σ' H') X.xe s
abbrev Ar:=V->V->V->Hp->(Hp->Prop)->Prop
def DD (X:Cx) (t:Ar):Prop:=
 ∀ (pins:List (Addr×Obj)) (s:Shared) (σ:St) (H:Hp) (o i v:V) (ov iv u:Value) (Q:Hp->Prop),aA X pins σ H s->aF o ov->aF i iv->aF v u->t o i v H Q->
  wpAny (model X.prog X.w) X.A (setItem ov iv u) (fun _ s'=>∃ H',aA X pins σ H' s'/\Q H') X.xe s
section
variable {X:Cx} {pos:Pos}
def ox (i:Nat):TG:=fun v σ H Q=>Q (σ.set i (some v)) H
theorem sw {i:Nat} {x:Str} (hN:X.N.Nodup) (hi:X.N[i]?=some x) (hx:Fb X.env.scope x) (hf:X.fn x=true\/X.env.scope.names.lookup x=some .local:=by first | exact .inl rfl | exact .inr rfl | assumption):PG X (.Name x pos) (ox i):=by
 intro pins s σ H v u Q I r h
 exact wpAny_assign_Name (mI I hN hi hx r (fun s' I'=>⟨_,H,I',h⟩) hf)
def J9:A9:=fun vs σ H Q=>vs=[]/\Q σ H
def Jl (t:TG) (u:A9):A9:=fun vs σ H Q=>∃ v r,vs=v::r/\t v σ H fun σ' H'=>u r σ' H' Q
theorem DY:xO X [] J9:=by
 intro pins s σ H vs us Q I r h
 obtain⟨e,h⟩:=h
 subst e
 cases r
 exact assignInOrder_nil ⟨σ,H,I,h⟩
theorem BX {e:Expr} {es:List Expr} {t:TG} {u:A9} (h1:PG X e t) (h2:xO X es u)
  (hs:(assignEach (e::es) X.env).map (·.2)=assign e X.env::(assignEach es X.env).map (·.2):=by rfl):xO X (e::es) (Jl t u):=by
 intro pins s σ H vs us Q I r h
 obtain⟨v,vr,e1,h⟩:=h
 subst e1
 cases r with
 | cons r rr=>
  rw [hs]
  refine assignInOrder_cons (bL (h1 pins s σ H _ _ _ I r h) fun _ s1 ⟨σ1,H1,I1,q1⟩=>?_)
  exact h2 pins s1 σ1 H1 _ _ Q I1 rr q1
def J_ (K:PySem.W.Frag) (n:Nat) (t:A9):TG:=fun v σ H Q=>∃ a xs,v=.ref a/\ka K H a xs/\xs.length=n/\t xs σ H Q
theorem GZ {es:List Expr} {k:Nat} {t:A9} {n:Nat} (hc:X.calm=true) (h:xO X es t)
  (hn:(assignEach es X.env).length=n:=by rfl) (hst:(assignEach es X.env).findIdx? (·.1)=none:=by rfl):PG X (.Tuple es k pos) (J_ X.K n t):=by
 intro pins s σ H v u Q I r hw
 obtain⟨a,xs,e1,hq,hl,hw⟩:=hw
 subst e1
 cases r
 obtain⟨its,rv,ht,hz⟩:=I.tuple hq
 refine assign_Tuple_tuple (I.ok.hd hc) ht (by simp [hn,<- hl,rv.length]) hst fun h' hx=>?_
 have I1:aA X pins σ H {s with heap:=h'}:=I.kept (t':=s.toks) fun b o e=>hx b o (Nat.ne_of_lt (Heap.lt_size e)) e
 exact h pins _ σ H xs _ Q I1 (by simpa using rv) hw
def KM (to ti:TE) (t:Ar):TG:=fun v σ H Q=>to σ H fun o H1=>ti σ H1 fun i H2=>t o i v H2 fun H3=>Q σ H3
theorem v8 {o i:Expr} {to ti:TE} {t:Ar} (ho:PE X o to) (hi:PE X i ti) (hs:DD X t)
  (ha:∀ v,assign (.Subscript o i pos) X.env v=(do
   let ov <- holding [v] (eval o X.env)
   let iv <- holding [v,ov] (eval i X.env)
   standAt pos
   holding [v,ov,iv] (setItem ov iv v)
   release [v,ov,iv] []):=by intro _; rfl):PG X (.Subscript o i pos) (KM to ti t):=by
 intro pins s σ H v u Q I r h
 rw [ha]
 refine wpAny_bind (wpAny_holding (bL (ho pins s σ H _ I h) fun ov s1 ⟨x,H1,I1,r1,q1⟩=>?_))
 refine wpAny_bind (wpAny_holding (bL (hi pins s1 σ H1 _ I1 q1) fun iv s2 ⟨y,H2,I2,r2,q2⟩=>?_))
 refine wpAny_bind (wpAny_standAt (wpAny_bind (wpAny_holding (bL (hs pins s2 σ H2 x y v ov iv u _ I2 r1 r2 r q2) fun _ s3 ⟨H3,I3,q3⟩=>?_))))
 exact wpAny_release ⟨σ,H3,I3,q3⟩
def Cn (te:TE) (g:TG):TS:=fun D σ H=>te σ H fun x H1=>g x σ H1 D.nx
theorem Hl {tg e:Expr} {te:TE} {g:TG} (he:PE X e te) (hg:PG X tg g) (hs:swapsWithSole [tg] e pos.line X.env=pure false:=by rfl) (hw:swappedStores [tg] e X.env=pure none:=by rfl)
  (h1:(assignEach [tg] X.env).map (·.2)=[assign tg X.env]:=by rfl):PS X (.Assign [tg] e pos) (Cn te g):=by
 intro pins s σ H D I h
 refine wpAny_Assign_stores (bL (he pins s σ H _ I h) fun v s1 ⟨x,H1,I1,r1,q1⟩=>?_) hs hw
 rw [h1]
 exact bL (hg pins s1 σ H1 x v _ I1 r1 q1) fun _ s2 q=>q
theorem Gd {i:Nat} {x:Str} {e:Expr} {te:TE} {pos':Pos} (hN:X.N.Nodup) (hi:X.N[i]?=some x) (hx:Fb X.env.scope x) (he:PE X e te) (hs:swapsWith e (some (.Name x pos')) pos.line X.env=pure false:=by rfl) (hf:X.fn x=true\/X.env.scope.names.lookup x=some .local:=by first | exact .inl rfl | exact .inr rfl | assumption):
  PS X (.Assign [.Name x pos'] e pos) (Cn te (ox i)):=by
 intro pins s σ H D I h
 refine wpAny_Assign_Name (bL (he pins s σ H _ I h) fun v s1 ⟨y,H1,I1,r1,q1⟩=>?_) hs
 exact mI I1 hN hi hx r1 (fun s2 I2=>⟨_,H1,I2,q1⟩) hf
def Kf (i j:Nat) (ta:TA):TS:=fun D σ H=>ta σ H fun vs H1=>∃ v w,vs=[v,w]/\D.nx ((σ.set i (some v)).set j (some w)) H1
theorem Gv {i j:Nat} {x y:Str} {a b:Expr} {ta:TA} {px py pt:Pos} {kt k2 pt2} (hc:X.calm=true) (hN:X.N.Nodup) (hi:X.N[i]?=some x) (hj:X.N[j]?=some y) (hij:i≠j)
  (hx:X.env.scope.names.lookup x=some .local) (hy:X.env.scope.names.lookup y=some .local) (ha:PA X [a,b] ta)
  (hw:swappedStores [.Tuple [.Name x px,.Name y py] kt pt] (.Tuple [a,b] k2 pt2) X.env=pure (some [x,y]))
  (hs:swapsWithSole [.Tuple [.Name x px,.Name y py] kt pt] (.Tuple [a,b] k2 pt2) pos.line X.env=pure false:=by rfl):
  PS X (.Assign [.Tuple [.Name x px,.Name y py] kt pt] (.Tuple [a,b] k2 pt2) pos) (Kf i j ta):=by
 intro pins s σ H D I h
 rw [exec_Assign_arm]
 refine wpAny_bind (wpAny_standAt ?_)
 rw [hs]
 refine wpAny_bind (wpAny_pure ?_)
 rw [if_neg (by decide)]
 refine wpAny_bind (Tuple_ (bL (ha _ pins s σ H _ I h) fun us s1 ⟨vs,H1,I1,r1,q1⟩=>?_))
 obtain⟨v,w,e1,q1⟩:=q1
 subst e1
 obtain⟨u1,u2,rfl,rv,rw'⟩:∃ u1 u2,us=[u1,u2]/\aF v u1/\aF w u2:=by
  cases r1 with
  | cons p q=>
   cases q with
   | cons p' q'=>
    cases q'
    exact⟨_,_,rfl,p,p'⟩
 refine wpAny_newObj_type ?_ (by show 2<=sizeLine; decide)
 have I2:aA X pins σ H1 {s1 with heap:=s1.heap.push {cls:=.type "tuple",data:=.seq [u1,u2].toArray}}:=I1.kept (t':=s1.toks) fun b o e=>Heap.get?_push_of_some _ e
 rw [hw]
 refine wpAny_bind (wpAny_pure ?_)
 show wpAny (model X.prog X.w) X.A (do rule "assign.swapped-stores"; let items <- unpackItems (.ref s1.heap.objs.size) 2 none; assignInOrder [fun v=>bindName X.env y v,fun v=>bindName X.env x v] items.reverse; pure Flow.next) _ _ _
 refine wpAny_bind (wpAny_rule (wpAny_bind (unpackItems_tuple (items:=#[u1,u2]) (I.ok.hd hc) (IsTup.new s1.heap _) fun h' hx'=>?_)))
 have I3:=I2.kept (h':=h') (t':=s1.toks) fun b o e=>hx' b o (Nat.ne_of_lt (Heap.lt_size e)) e
 show wpAny _ _ (assignInOrder [fun v=>bindName X.env y v,fun v=>bindName X.env x v] [u2,u1] >>= fun _=>pure Flow.next) _ _ _
 refine wpAny_bind (assignInOrder_cons (wpAny_bindName (mI I3 hN hj (.inl hy) rw' (fun s2 I4=>?_) (.inr hy))))
 refine assignInOrder_cons (wpAny_bindName (mI I4 hN hi (.inl hx) rv (fun s3 I5=>assignInOrder_nil (wpAny_pure ?_)) (.inr hx)))
 rw [List.set_comm _ _ (Ne.symm hij)] at I5
 exact⟨_,H1,I5,q1⟩
end
section
variable {X:Cx} {pos:Pos}
def Ht (c:TT) (tb:TS):TS:=fun D σ H=>∃ W:Nat->St->Hp->Prop,(∃ m,W m σ H)/\∀ m σ H,W m σ H->
 c σ H fun b H1=>if b=true then ∃ N:St->Hp->Prop,(∀ σ' H',N σ' H'->∃ m',m' < m/\W m' σ' H')/\tb {D with nx:=N,ct:=N,bk:=D.nx} σ H1 else D.nx σ H1
theorem BW {c:Expr} {body:List Stmt} {tc:TT} {tb:TS} (hp:PassesOwn (model X.prog X.w) X.A X.env X.xe) (hc:PT X c tc) (hb:nH X body tb):PS X (.While c body [] pos) (Ht tc tb):=by
 intro pins s σ H D I h
 obtain⟨W,⟨m0,w0⟩,turn⟩:=h
 refine wpAny_While (codeAny_whileLoop (fun n s'=>∃ σ' H',aA X pins σ' H' s'/\W n σ' H') ?_ m0 ⟨σ,H,I,w0⟩)
 rintro n s1 ⟨σ1,H1,I1,w1⟩
 refine wpAny_passesOwn hp (bL (hc pins s1 σ1 H1 _ I1 (turn n σ1 H1 w1)) fun b s2 ⟨H2,I2,q2⟩=>?_)
 cases b with
 | true=>
  obtain⟨N,hN,q2⟩:=q2
  rw [if_pos rfl]
  refine wpAny_passesOwn hp (bL (hb pins s2 σ1 H2 _ I2 q2) fun f s3 q3=>?_)
  cases f with
  | next=>
   obtain⟨σ3,H3,I3,n3⟩:=q3
   obtain⟨m',hm,w3⟩:=hN σ3 H3 n3
   exact⟨m',hm,σ3,H3,I3,w3⟩
  | cont=>
   obtain⟨σ3,H3,I3,n3⟩:=q3
   obtain⟨m',hm,w3⟩:=hN σ3 H3 n3
   exact⟨m',hm,σ3,H3,I3,w3⟩
  | brk=>exact q3
  | ret v=>exact q3
 | false=>
  rw [if_neg Bool.false_ne_true]
  exact wpAny_execs_nil ⟨σ1,H2,I2,q2⟩
end
structure It where
 go:Nat->Hp->Prop
 yld:Nat->Hp->V->Hp->Prop
 stop:Nat->Hp->Prop
def nI (X:Cx) (pins:List (Addr×Obj)) (H:Hp) (b:Addr):Prop:=
 H b=none/\b≠X.env.locals/\b∉X.fs/\(b∈X.ex\/X.s₀.heap.objs.size<=b)/\(∀ x c,X.env.cells.lookup x=some c->c≠b)/\∀ p∈X.pn++pins,p.1≠b
theorem aA.fpOk {X:Cx} {pins:List (Addr×Obj)} {σ:St} {H H':Hp} {s:Shared} {b:Addr} (I:aA X pins σ H s) (hb:s.heap.objs.size<=b) (hn:H' b=none):nI X pins H' b:=by
 refine⟨hn,Nat.ne_of_gt (Nat.lt_of_lt_of_le I.lt hb),I.nofs hb,.inr (Nat.le_trans I.sz hb),fun x c e z=>?_,fun p hp z=>?_⟩
 ·obtain⟨v,q⟩:=I.cell x c e
  exact absurd (Nat.lt_of_lt_of_le q.lt (by rw [z]; exact hb)) (Nat.lt_irrefl _)
 ·exact absurd (Nat.lt_of_lt_of_le (Heap.lt_size (I.pin p hp).1) (by rw [z]; exact hb)) (Nat.lt_irrefl _)
structure we (P:Program) (w:World) (K:PySem.W.Frag) (tg:Expr) (J:It) (fp:List Addr) (it:Addr) (tn:Nat->Heap->Prop):Prop where
 mem:it∈fp
 obj:∀ i h,tn i h->∀ b∈fp,∃ o,h.get? b=some o/\∀ v,o.data≠.cell v
 keep:∀ i h h',tn i h->(∀ b∈fp,∀ o,h.get? b=some o->h'.get? b=some o)->tn i h'
 item:∀ (X:Cx),X.prog=P->X.w=w->X.K=K->X.calm=true->∀ (i:Nat) (pins:List (Addr×Obj)) (s:Shared) (σ:St) (H:Hp) (E:Value->Shared->Prop),aA X pins σ H s->(∀ b∈fp,nI X pins H b)->tn i s.heap->J.go i H->
  wpAny (model P w) X.A (pyNext (.ref it)) (fun r s1=>∃ u,r=some u/\
   wpAny (model P w) X.A (letOwnedTupleGo tg (.ref it) u) (fun _ s2=>∃ x H',aA X pins σ H' s2/\aF x u/\J.yld i H x H'/\tn (i+1) s2.heap/\∀ b∈fp,H' b=none) E s1) E s
 done:∀ (X:Cx),X.prog=P->X.w=w->X.K=K->X.calm=true->∀ (i:Nat) (pins:List (Addr×Obj)) (s:Shared) (σ:St) (H:Hp) (E:Value->Shared->Prop),aA X pins σ H s->(∀ b∈fp,nI X pins H b)->tn i s.heap->J.stop i H->
  wpAny (model P w) X.A (pyNext (.ref it)) (fun r s1=>r=none/\aA X pins σ H s1) E s
 self:∀ (A:Around) (i:Nat) (s:Shared) (Q:Value->Shared->Prop) (E:Value->Shared->Prop),tn i s.heap->Q (.ref it) s->wpAny (model P w) A (pyIter (.ref it)) Q E s
abbrev TI:=St->Hp->(It->Hp->Prop)->Prop
def KI (X:Cx) (pins:List (Addr×Obj)) (σ:St) (tg:Expr) (R:It->Hp->Prop) (itv:Value) (s2:Shared):Prop:=
 ∃ (it:Addr) (fp:List Addr) (tn:Nat->Heap->Prop) (J:It) (H':Hp),itv=.ref it/\aA X pins σ H' s2/\we X.prog X.w X.K tg J fp it tn/\tn 0 s2.heap/\(∀ b∈fp,nI X pins H' b)/\R J H'
def PI (X:Cx) (tg iter:Expr) (wi:TI):Prop:=
 ∀ (pins:List (Addr×Obj)) (s:Shared) (σ:St) (H:Hp) (R:It->Hp->Prop),aA X pins σ H s->wi σ H R->
  wpAny (model X.prog X.w) X.A (eval iter X.env) (fun v s1=>wpAny (model X.prog X.w) X.A (pyIter v) (KI X pins σ tg R) X.xe s1) X.xe s
theorem ve {M:Model} {A:Around} {E:Value->Shared->Prop} {s:Shared} {tg:Expr} {it:Addr} {u:Value} {o:Obj} {n:String} {vs:Array Value} {Q:Unit->Shared->Prop} (ho:s.heap.get? it=some o) (hc:o.cls=.type n) (hd:o.data=.fields vs)
  (hn:["enumerate","zip","dict_itemiterator","dict_reverseitemiterator","odict_iterator","itertools.zip_longest","itertools.pairwise"].contains n=false) (hQ:Q () s):wpAny M A (letOwnedTupleGo tg (.ref it) u) Q E s:=by
 unfold letOwnedTupleGo
 cases tg <;> first
  | exact wpAny_pure hQ
  | (cases u <;> first
    | exact wpAny_pure hQ
    | (refine wpAny_bind (wpAny_load ho ?_)
       rw [hc,hd]
       show wpAny M A (if (["enumerate","zip","dict_itemiterator","dict_reverseitemiterator","odict_iterator","itertools.zip_longest","itertools.pairwise"].contains n && vs[0]? == some (rawInt _))=true then _ else _) Q E s
       rw [if_neg (by intro h; rw [hn,Bool.false_and] at h; cases h)]
       exact wpAny_pure hQ))
def HP (K:PySem.W.Frag) (a:Addr):It:=
 ⟨fun i H=>∃ xs x,jf K H a xs/\xs[i]?=some x,fun i H x H'=>H'=H/\∀ xs,jf K H a xs->xs[i]?=some x,fun i H=>∃ xs,jf K H a xs/\xs.length<=i⟩
def IL (K:PySem.W.Frag) (a:Addr):It:=
 ⟨fun i H=>∃ xs x,ka K H a xs/\xs[i]?=some x,fun i H x H'=>H'=H/\∀ xs,ka K H a xs->xs[i]?=some x,fun i H=>∃ xs,ka K H a xs/\xs.length<=i⟩
def Im (lo:Int) (n:Nat):It:=⟨fun i _=>i < n,fun i H x H'=>H'=H/\x=.int (lo+i),fun i _=>n<=i⟩
theorem yF {P:Program} {w:World} {K:PySem.W.Frag} {tg:Expr} (a it:Addr):we P w K tg (HP K a) [it] it (fun i h=>h.IsListIter it a i) where
 mem:=by simp
 obj:=fun i h st b hb=>by
  have e:b=it:=by simpa using hb
  subst e
  obtain⟨o,e,c,d⟩:=st
  exact⟨o,e,fun v z=>by rw [d] at z; cases z⟩
 keep:=fun i h h' st k=>st.at fun o e=>k it (by simp) o e
 item:=by
  intro X hP hw hK hc i pins s σ H E I hf st hg
  subst hP hw hK
  obtain⟨xs,x,hq,hx⟩:=hg
  obtain⟨its,rv,p,hz⟩:=I.list hq
  obtain⟨u,hu,ru⟩:=rv.get hx
  obtain⟨f0,f1,f2,f3,f4,f5⟩:=hf it (by simp)
  refine wpAny_pyNext_list_item st p.isList (x:=u) (by simpa using hu) fun h' st' sb=>?_
  have I1:aA X pins σ H {s with heap:=h'}:=I.turned (t':=s.toks) (fun b o hb e=>(sb.2 b hb).trans e) f0 f1 f3 f4 f5
  obtain⟨o,e,c,d⟩:=id st'
  exact⟨u,rfl,ve (s:={s with heap:=h'}) e c d (by decide) ⟨x,H,I1,ru,⟨rfl,fun ys hy=>by rw [I.list_inj hy hq]; exact hx⟩,st',fun b hb=>(hf b hb).1⟩⟩
 done:=by
  intro X hP hw hK hc i pins s σ H E I hf st hg
  subst hP hw hK
  obtain⟨xs,hq,hx⟩:=hg
  obtain⟨its,rv,p,hz⟩:=I.list hq
  obtain⟨f0,f1,f2,f3,f4,f5⟩:=hf it (by simp)
  have hl:=rv.length
  exact wpAny_pyNext_list_end (I.ok.hd hc) st p.isList (by simp; omega) fun h' eb=>⟨rfl,I.turned (t':=s.toks) (fun b o hb e=>eb b o hb e) f0 f1 f3 f4 f5⟩
 self:=fun _ _ _ _ _ st h=>wpAny_pyIter_listiter st h
theorem wG {P:Program} {w:World} {K:PySem.W.Frag} {tg:Expr} (a it:Addr):we P w K tg (IL K a) [it] it (fun i h=>h.IsTupleIter it a i) where
 mem:=by simp
 obj:=fun i h st b hb=>by
  have e:b=it:=by simpa using hb
  subst e
  obtain⟨o,e,c,d⟩:=st
  exact⟨o,e,fun v z=>by rw [d] at z; cases z⟩
 keep:=fun i h h' st k=>st.at fun o e=>k it (by simp) o e
 item:=by
  intro X hP hw hK hc i pins s σ H E I hf st hg
  subst hP hw hK
  obtain⟨xs,x,hq,hx⟩:=hg
  obtain⟨its,rv,p,hz⟩:=I.tuple hq
  obtain⟨u,hu,ru⟩:=rv.get hx
  obtain⟨f0,f1,f2,f3,f4,f5⟩:=hf it (by simp)
  refine wpAny_pyNext_tuple_item st (show s.heap.IsTuple a its.toArray from p) (x:=u) (by simpa using hu) fun h' st' sb=>?_
  have I1:aA X pins σ H {s with heap:=h'}:=I.turned (t':=s.toks) (fun b o hb e=>(sb.2 b hb).trans e) f0 f1 f3 f4 f5
  obtain⟨o,e,c,d⟩:=id st'
  exact⟨u,rfl,ve (s:={s with heap:=h'}) e c d (by decide) ⟨x,H,I1,ru,⟨rfl,fun ys hy=>by rw [I.tuple_inj hy hq]; exact hx⟩,st',fun b hb=>(hf b hb).1⟩⟩
 done:=by
  intro X hP hw hK hc i pins s σ H E I hf st hg
  subst hP hw hK
  obtain⟨xs,hq,hx⟩:=hg
  obtain⟨its,rv,p,hz⟩:=I.tuple hq
  obtain⟨f0,f1,f2,f3,f4,f5⟩:=hf it (by simp)
  have hl:=rv.length
  exact wpAny_pyNext_tuple_end (I.ok.hd hc) st (show s.heap.IsTuple a its.toArray from p) (by simp; omega) fun h' eb=>⟨rfl,I.turned (t':=s.toks) (fun b o hb e=>eb b o hb e) f0 f1 f3 f4 f5⟩
 self:=fun _ _ _ _ _ st h=>wpAny_pyIter_tupleiter st h
theorem vP {P:Program} {w:World} {K:PySem.W.Frag} {tg:Expr} (it:Addr) (lo:Int) (n:Nat):we P w K tg (Im lo n) [it] it (fun i h=>IsRangeIter h it (lo+(i:Nat)*1) ((n:Int) - (i:Nat)) 1) where
 mem:=by simp
 obj:=fun i h st b hb=>by
  have e:b=it:=by simpa using hb
  subst e
  exact⟨_,st,fun v z=>by
   have z':Data.fields _=Data.cell v:=z
   cases z'⟩
 keep:=fun i h h' st k=>k it (by simp) _ st
 item:=by
  intro X hP hw hK hc i pins s σ H E I hf st hg
  subst hP hw hK
  obtain⟨f0,f1,f2,f3,f4,f5⟩:=hf it (by simp)
  have W:=Walks.range (prog:=X.prog) (w:=X.w) (I.ok.hd hc) it lo 1 n
  refine W.item i s _ _ hg st fun v h' tk hv st' kk=>?_
  obtain⟨t,rfl⟩:=hv
  have I1:aA X pins σ H {s with heap:=h',toks:=tk}:=I.turned (fun b o hb e=>kk b o (by simpa using hb) e) f0 f1 f3 f4 f5
  refine⟨_,rfl,ve (s:={s with heap:=h',toks:=tk}) (n:="range_iterator") st' rfl rfl (by decide) ⟨.int (lo+i),H,I1,⟨t,?_⟩,⟨rfl,rfl⟩,st',fun b hb=>(hf b hb).1⟩⟩
  rw [Int.mul_one]
 done:=by
  intro X hP hw hK hc i pins s σ H E I hf st hg
  subst hP hw hK
  obtain⟨f0,f1,f2,f3,f4,f5⟩:=hf it (by simp)
  exact wpAny_pyNext_range_end (I.ok.hd hc) st (by have:n<=i:=hg; omega) fun h' eb=>⟨rfl,I.turned (t':=s.toks) (fun b o hb e=>eb b o hb e) f0 f1 f3 f4 f5⟩
 self:=fun _ _ _ _ _ st h=>wpAny_pyIter_rangeiter st h
section
variable {X:Cx} {tg:Expr}
theorem Bs {pins:List (Addr×Obj)} {σ:St} {H:Hp} {s:Shared} {R:It->Hp->Prop} {E:Value->Shared->Prop} {lo hi:Int} {t u v:Tok} {tk:Nat} (I:aA X pins σ H s) (h1:-(2 ^ 62)<=lo) (h2:lo < 2 ^ 62) (h3:-(2 ^ 62)<=hi) (h4:hi < 2 ^ 62)
  (q:R (Im lo (hi - lo).toNat) H):wpAny (model X.prog X.w) X.A (pyIter (.ref s.heap.objs.size)) (KI X pins σ tg R) E {s with heap:=s.heap.push {cls:=.type "range",data:=.fields #[.int lo t,.int hi u,.int 1 v]},toks:=tk}:=by
 refine wpAny_pyIter_range (IsRange.new ..) (small_one h1 h2 h3 h4) ?_
 have I1:aA X pins σ H {s with heap:=s.heap.push {cls:=.type "range",data:=.fields #[.int lo t,.int hi u,.int 1 v]},toks:=tk}:=I.kept fun b o e=>Heap.get?_push_of_some _ e
 refine⟨(s.heap.push {cls:=.type "range",data:=.fields #[.int lo t,.int hi u,.int 1 v]}).objs.size,[(s.heap.push {cls:=.type "range",data:=.fields #[.int lo t,.int hi u,.int 1 v]}).objs.size],_,_,H,rfl,
  I1.kept (t':=tk) fun b o e=>Heap.get?_push_of_some _ e,vP _ lo (hi - lo).toNat,?_,fun b hb=>?_,q⟩
 ·have e1:lo+((0:Nat):Int)*1=lo:=by simp
  have e2:(((hi - lo).toNat:Nat):Int) - ((0:Nat):Int)=Builtin.Range.rangeSize lo hi 1:=by rw [rangeSize_one]; split <;> omega
  show IsRangeIter _ _ (lo+((0:Nat):Int)*1) ((((hi - lo).toNat:Nat):Int) - ((0:Nat):Int)) 1
  rw [e1,e2]
  exact Heap.get?_push_size _ rfl
 ·have e:b=(s.heap.push {cls:=.type "range",data:=.fields #[.int lo t,.int hi u,.int 1 v]}).objs.size:=by simpa using hb
  subst e
  exact I1.fpOk (Nat.le_refl _) (I1.hok.fresh (Nat.le_refl _))
def Jp (ta:TA):TI:=fun σ H R=>ta σ H fun vs H1=>∃ j:Int,vs=[.int j]/\-(2 ^ 62)<=j/\j < 2 ^ 62/\R (Im 0 j.toNat) H1
theorem nJ {a:Expr} {ta:TA} {p pos:Pos} (hg:Gl X "range") (hm:X.mg "range"=none) (ha:PA X [a] ta) (hs:starEach [a] X.env=[(false,eval a X.env)]:=by rfl):PI X tg (.Call (.Name "range" p) [a] [] pos) (Jp ta):=by
 intro pins s σ H R I h
 refine Call_ (qe I hg hm boot_range (PyProof.Rows.callWith_type1 (bL (ha pos pins s σ H _ I h) fun us s1 ⟨vs,H1,I1,r1,q1⟩=>?_) hs rfl))
 obtain⟨j,e,q1,q2,q⟩:=q1
 subst e
 cases r1 with
 | cons r rr=>
  cases rr
  obtain⟨t,rfl⟩:=r
  exact call_range_1 (Bs I1 (by omega) (by omega) q1 q2 (by simpa using q))
def Kx (wi:TI) (g:TG) (tb:TS):TS:=fun D σ H=>wi σ H fun J H1=>∃ W:Nat->Nat->St->Hp->Prop,(∃ m,W 0 m σ H1)/\∀ i m σ H,W i m σ H->
 (J.stop i H/\D.nx σ H)\/(J.go i H/\∃ N:St->Hp->Prop,(∀ σ' H',N σ' H'->∃ m',m' < m/\W (i+1) m' σ' H')/\∀ x H',J.yld i H x H'->g x σ H' fun σ2 H2=>tb {D with nx:=N,ct:=N,bk:=D.nx} σ2 H2)
def pA (fp:List Addr) (h:Heap):List (Addr×Obj):=fp.filterMap fun b=>(h.get? b).map fun o=>(b,o)
theorem dI {fp:List Addr} {h:Heap} {b:Addr} {o:Obj} (hb:b∈fp) (e:h.get? b=some o):(b,o)∈pA fp h:=List.mem_filterMap.mpr ⟨b,hb,by rw [e]; rfl⟩
theorem yL {fp:List Addr} {h:Heap} {p:Addr×Obj} (hp:p∈pA fp h):p.1∈fp/\h.get? p.1=some p.2:=by
 obtain⟨b,hb,e⟩:=List.mem_filterMap.mp hp
 cases q:h.get? b with
 | none=>rw [q] at e; cases e
 | some o=>
  rw [q] at e
  have e':(b,o)=p:=Option.some.inj e
  subst e'
  exact⟨hb,q⟩
theorem aA.pinned {pins:List (Addr×Obj)} {σ:St} {H:Hp} {s:Shared} {fp:List Addr} (I:aA X pins σ H s) (hf:∀ b∈fp,nI X pins H b) (ho:∀ b∈fp,∃ o,s.heap.get? b=some o/\∀ v,o.data≠.cell v):aA X (pins++pA fp s.heap) σ H s:=
 I.pins_of fun p hp=>(List.mem_append.mp hp).elim (fun z=>I.pin p (List.mem_append_right _ z)) fun z=>by
  obtain⟨hb,e⟩:=yL z
  obtain⟨f0,f1,f2,_⟩:=hf p.1 hb
  obtain⟨o,e',d⟩:=ho p.1 hb
  rw [e] at e'; cases e'
  exact⟨e,f0,f1,f2,d⟩
theorem aA.unpinned {pins pl:List (Addr×Obj)} {σ:St} {H:Hp} {s:Shared} (I:aA X (pins++pl) σ H s):aA X pins σ H s:=I.pins_of fun p hp=>I.pin p (List.mem_append_right _ (List.mem_append_left _ hp))
theorem tu {iter:Expr} {body:List Stmt} {wi:TI} {g:TG} {tb:TS} {pos:Pos} (hp:PassesOwn (model X.prog X.w) X.A X.env X.xe) (hc:X.calm=true) (hi:PI X tg iter wi) (hg:PG X tg g) (hb:nH X body tb)
  (hs:∀ x,foldedSetIterable iter X.env x=pure x:=by intro _; rfl):PS X (.For tg iter body [] pos) (Kx wi g tb):=by
 intro pins s σ H D I h
 refine wpAny_For (bL (hi pins s σ H _ I h) fun v s1 h1=>bL h1 fun itv s2 h2=>?_) hs
 obtain⟨it,fp,tn,J,H2,e,I2,T,st2,f2,W,⟨m0,w0⟩,turn⟩:=h2
 subst e
 have stat:∀ {H':Hp},(∀ b∈fp,H' b=none)->∀ b∈fp,nI X pins H' b:=fun hn b hb=>⟨hn b hb,(f2 b hb).2⟩
 refine codeAny_forLoop_any (fun n s'=>∃ i σ' H',aA X pins σ' H' s'/\tn i s'.heap/\(∀ b∈fp,H' b=none)/\W i n σ' H') ?_ m0 ⟨0,σ,H2,I2,st2,fun b hb=>(f2 b hb).1,w0⟩
 rintro n s3 ⟨i,σ3,H3,I3,st3,fr3,w3⟩
 rcases turn i n σ3 H3 w3 with ⟨stop,qn⟩ | ⟨go,N,hN,step⟩
 ·refine wpAny_passesOwn hp (bL (T.done X rfl rfl rfl hc i pins s3 σ3 H3 X.xe I3 (stat fr3) st3 stop) fun r s4 ⟨hr,I4⟩=>?_)
  subst hr
  exact wpAny_execs_nil ⟨σ3,H3,I4,qn⟩
 ·refine wpAny_passesOwn hp (bL (T.item X rfl rfl rfl hc i pins s3 σ3 H3 X.xe I3 (stat fr3) st3 go) fun r s4 ⟨u,hr,h4⟩=>?_)
  subst hr
  refine wpAny_passesOwn hp (bL h4 fun _ s5 ⟨x,H5,I5,r5,y5,st5,fr5⟩=>?_)
  have I5':=I5.pinned (stat fr5) (T.obj _ _ st5)
  refine wpAny_passesOwn hp (bL (hg _ s5 σ3 H5 x u _ I5' r5 (step x H5 y5)) fun _ s6 ⟨σ6,H6,I6,q6⟩=>?_)
  refine wpAny_passesOwn hp (bL (hb _ s6 σ6 H6 _ I6 q6) fun f s7 q7=>?_)
  have again:∀ {σ7:St} {H7:Hp},aA X (pins++pA fp s5.heap) σ7 H7 s7->N σ7 H7->∃ m,m < n/\∃ i σ' H',aA X pins σ' H' s7/\tn i s7.heap/\(∀ b∈fp,H' b=none)/\W i m σ' H':=fun {σ7 H7} I7 n7=>by
   obtain⟨m',hm,w7⟩:=hN σ7 H7 n7
   refine⟨m',hm,i+1,σ7,H7,I7.unpinned,T.keep _ _ _ st5 fun b hb o e=>(I7.pin (b,o) (List.mem_append_right _ (List.mem_append_right _ (dI hb e)))).1,fun b hb=>?_,w7⟩
   obtain⟨o,e,d⟩:=T.obj _ _ st5 b hb
   exact(I7.pin (b,o) (List.mem_append_right _ (List.mem_append_right _ (dI hb e)))).2.1
  cases f with
  | next=>obtain⟨σ7,H7,I7,n7⟩:=q7; exact again I7 n7
  | cont=>obtain⟨σ7,H7,I7,n7⟩:=q7; exact again I7 n7
  | brk=>obtain⟨σ7,H7,I7,q7⟩:=q7; exact⟨σ7,H7,I7.unpinned,q7⟩
  | ret v=>obtain⟨x7,σ7,H7,I7,r7,q7⟩:=q7; exact⟨x7,σ7,H7,I7.unpinned,r7,q7⟩
end
abbrev R2:=V->V->Hp->VK->Prop
def fH (X:Cx) (f:Value->Value->Sem Value) (r:R2):Prop:=
 ∀ (pins:List (Addr×Obj)) (s:Shared) (σ:St) (H:Hp) (x y:V) (v u:Value) (Q:VK),aA X pins σ H s->aF x v->aF y u->r x y H Q->
  wpAny (model X.prog X.w) X.A (f v u) (EP X pins σ Q) X.xe s
def HG (X:Cx) (f:Value->Sem Value) (r:V->Hp->VK->Prop):Prop:=
 ∀ (pins:List (Addr×Obj)) (s:Shared) (σ:St) (H:Hp) (x:V) (v:Value) (Q:VK),aA X pins σ H s->aF x v->r x H Q->
  wpAny (model X.prog X.w) X.A (f v) (EP X pins σ Q) X.xe s
def cA (X:Cx) (f:Value) (r:List V->Hp->VK->Prop):Prop:=
 ∀ (pins:List (Addr×Obj)) (s:Shared) (σ:St) (H:Hp) (xs:List V) (us:List Value) (Q:VK),aA X pins σ H s->aL xs us->r xs H Q->
  wpAny (model X.prog X.w) X.A (call f us) (EP X pins σ Q) X.xe s
def HY (r:R2) (ta tb:TE):TE:=fun σ H Q=>ta σ H fun x H1=>tb σ H1 fun y H2=>r x y H2 Q
def LL (r:V->Hp->VK->Prop) (ta:TE):TE:=fun σ H Q=>ta σ H fun x H1=>r x H1 Q
def rI (C:Int->Int->Prop) (g:Int->Int->V):R2:=fun x y H Q=>∃ i j,x=.int i/\y=.int j/\C i j/\Q (g i j) H
def EV (g:Int->Int->V):R2:=fun x y H Q=>∃ i j,x=.int i/\y=.int j/\Q (g i j) H
def rU (g:Int->V):V->Hp->VK->Prop:=fun x H Q=>∃ i,x=.int i/\Q (g i) H
section
variable {X:Cx} {a b c:Expr} {ta tb tc:TE} {pos:Pos}
theorem G9 (ha:PE X a ta) (hb:PE X b tb) {pins:List (Addr×Obj)} {s:Shared} {σ:St} {H:Hp} {R:V->V->Hp->Prop} (I:aA X pins σ H s)
  (h:ta σ H fun x H1=>tb σ H1 fun y H2=>R x y H2) {Q:Value->Shared->Prop} {f:Value->Value->Sem Value}
  (hf:∀ v u s2 x y H2,aA X pins σ H2 s2->aF x v->aF y u->R x y H2->wpAny (model X.prog X.w) X.A (f v u) Q X.xe s2):
  wpAny (model X.prog X.w) X.A (eval a X.env) (fun v s₁=>wpAny (model X.prog X.w) X.A (eval b X.env) (fun u s₂=>wpAny (model X.prog X.w) X.A (f v u) Q X.xe s₂) X.xe s₁) X.xe s:=by
 refine bL (ha pins s σ H _ I h) fun v s1 ⟨x,H1,I1,r1,q1⟩=>?_
 refine bL (hb pins s1 σ H1 _ I1 q1) fun u s2 ⟨y,H2,I2,r2,q2⟩=>?_
 exact hf v u s2 x y H2 I2 r1 r2 q2
theorem HU {op:Operator} {r:R2} (ho:fH X (binaryOp op) r) (ha:PE X a ta) (hb:PE X b tb):PE X (.BinOp a op b pos) (HY r ta tb):=by
 intro pins s σ H Q I h
 exact wpAny_BinOp (G9 ha hb I h fun v u s2 x y H2 I2 rx ry q=>ho pins s2 σ H2 x y v u Q I2 rx ry q)
theorem Iy {op:UnaryOp} {r:V->Hp->VK->Prop} (ho:HG X (unaryOp op) r) (ha:PE X a ta):PE X (.UnaryOp op a pos) (LL r ta):=by
 intro pins s σ H Q I h
 exact UnaryOp_ (bL (ha pins s σ H _ I h) fun v s1 ⟨x,H1,I1,r1,q1⟩=>ho pins s1 σ H1 x v Q I1 r1 q1)
theorem HR {f:Value->Value->Sem Value} {C:Int->Int->Prop} {g:Int->Int->Int}
  (rule:∀ (i j:Int) (t u:Tok) (s:Shared) (Q:Value->Shared->Prop) (E:Value->Shared->Prop),C i j->Q (.int (g i j) s.toks) {s with toks:=s.toks+1}->wpAny (model X.prog X.w) X.A (f (.int i t) (.int j u)) Q E s):
  fH X f (rI C fun i j=>.int (g i j)):=by
 intro pins s σ H x y v u Q I rx ry h
 obtain⟨i,j,rfl,rfl,hc,q⟩:=h
 obtain⟨t,rfl⟩:=rx
 obtain⟨t',rfl⟩:=ry
 exact rule i j t t' s _ _ hc ⟨.int (g i j),H,I.tok _,⟨_,rfl⟩,q⟩
theorem Il {f:Value->Value->Sem Value} {g:Int->Int->Int}
  (rule:∀ (i j:Int) (t u:Tok) (s:Shared) (Q:Value->Shared->Prop) (E:Value->Shared->Prop),Q (.int (g i j) s.toks) {s with toks:=s.toks+1}->wpAny (model X.prog X.w) X.A (f (.int i t) (.int j u)) Q E s):
  fH X f (EV fun i j=>.int (g i j)):=by
 intro pins s σ H x y v u Q I rx ry h
 obtain⟨i,j,rfl,rfl,q⟩:=h
 obtain⟨t,rfl⟩:=rx
 obtain⟨t',rfl⟩:=ry
 exact rule i j t t' s _ _ ⟨.int (g i j),H,I.tok _,⟨_,rfl⟩,q⟩
theorem FG {f:Value->Value->Sem Value} {g:Int->Int->Bool}
  (rule:∀ (i j:Int) (t u:Tok) (s:Shared) (Q:Value->Shared->Prop) (E:Value->Shared->Prop),Q (.bool (g i j)) s->wpAny (model X.prog X.w) X.A (f (.int i t) (.int j u)) Q E s):
  fH X f (EV fun i j=>.bl (g i j)):=by
 intro pins s σ H x y v u Q I rx ry h
 obtain⟨i,j,rfl,rfl,q⟩:=h
 obtain⟨t,rfl⟩:=rx
 obtain⟨t',rfl⟩:=ry
 exact rule i j t t' s _ _ ⟨.bl (g i j),H,I,rfl,q⟩
def yj (i j:Int):Prop:=0<=j/\j<=1000000/\i.natAbs < 2 ^ 64
theorem Ga:fH X (binaryOp .Add) (EV fun i j=>.int (i+j)):=Il fun _ _ _ _ _ _ _ q=>add_int q
theorem G3:fH X (binaryOp .Sub) (EV fun i j=>.int (i - j)):=Il fun _ _ _ _ _ _ _ q=>sub_int q
theorem CM:fH X (binaryOp .Mod) (rI (fun _ j=>j≠0) fun i j=>.int (i.fmod j)):=HR fun _ _ _ _ _ _ _ hc q=>mod_int' hc q
theorem FA:fH X (binaryOp .Pow) (rI yj fun i j=>.int (i ^ j.toNat)):=HR fun _ _ _ _ _ _ _ hc q=>pow_int_small hc.1 hc.2.1 hc.2.2 q
theorem Fi:fH X (binaryOp .LShift) (rI yj fun i j=>.int (i*2 ^ j.toNat)):=HR fun _ _ _ _ _ _ _ hc q=>lshift_int_small hc.1 hc.2.1 hc.2.2 q
theorem LW {f:Value->Sem Value} {g:Int->Int}
  (rule:∀ (i:Int) (t:Tok) (s:Shared) (Q:Value->Shared->Prop) (E:Value->Shared->Prop),Q (.int (g i) s.toks) {s with toks:=s.toks+1}->wpAny (model X.prog X.w) X.A (f (.int i t)) Q E s):
  HG X f (rU fun i=>.int (g i)):=by
 intro pins s σ H x v Q I rx h
 obtain⟨i,rfl,q⟩:=h
 obtain⟨t,rfl⟩:=rx
 exact rule i t s _ _ ⟨.int (g i),H,I.tok _,⟨_,rfl⟩,q⟩
theorem F2:HG X (unaryOp .USub) (rU fun i=>.int (-i)):=LW fun _ _ _ _ _ q=>neg_int q
end
def FU:V->V->Bool
 | .non,.non=>true | .non,.int _=>true | .int _,.non=>true | .non,.bl _=>true | .bl _,.non=>true | .non,.str _=>true | .str _,.non=>true
 | .int _,.int _=>true | .bl _,.bl _=>true | .str _,.str _=>true | .byt _,.byt _=>true
 | .int _,.str _=>true | .str _,.int _=>true | .bl _,.str _=>true | .str _,.bl _=>true
 | _,_=>false
def Lz:R2:=fun x y H Q=>FU x y=true/\Q (.bl (decide (x=y))) H
def LS:R2:=fun x y H Q=>FU x y=true/\Q (.bl (!decide (x=y))) H
theorem xu {i j:Int}:decide (V.int i=V.int j)=(i == j):=by
 rw [Bool.eq_iff_iff]
 simp
theorem BG {i j:Bool}:decide (V.bl i=V.bl j)=(i == j):=by
 rw [Bool.eq_iff_iff]
 simp
theorem xb {i j:Str}:decide (V.str i=V.str j)=(i == j):=by
 rw [Bool.eq_iff_iff]
 simp
theorem xR {i j:Array UInt8}:decide (V.byt i=V.byt j)=(i.toList == j.toList):=by
 rw [Bool.eq_iff_iff]
 cases i
 cases j
 simp
section
variable {X:Cx} {a b c:Expr} {ta tb tc:TE} {pos:Pos}
theorem a9 {pins:List (Addr×Obj)} {σ:St} {H:Hp} {s:Shared} {Q:VK} {k k':Bool} (I:aA X pins σ H s) (q:Q (.bl k) H) (e:k=k'):EP X pins σ Q (.bool k') s:=by
 subst e
 exact⟨.bl k,H,I,rfl,q⟩
theorem Iq:fH X (compareOp .Eq) Lz:=by
 intro pins s σ H x y v u Q I rx ry h
 obtain⟨hs,q⟩:=h
 cases x with
 | non=>
  cases rx
  cases y with
  | non=>cases ry; exact PySem.EqNone.eq_none_none (a9 I q (by simp))
  | bl j=>cases ry; exact PySem.EqNone.eq_none_bool (a9 I q (by simp))
  | int j=>obtain⟨t',rfl⟩:=ry; exact PySem.EqNone.eq_none_int (a9 I q (by simp))
  | str j=>obtain⟨t',rfl⟩:=ry; exact PySem.EqNone.eq_none_str (a9 I q (by simp))
  | _=>exact absurd (show false=true from hs) Bool.false_ne_true
 | bl i=>
  cases rx
  cases y with
  | non=>cases ry; exact PySem.EqNone.eq_bool_none (a9 I q (by simp))
  | bl j=>cases ry; exact eq_bool (a9 I q BG)
  | str j=>obtain⟨t',rfl⟩:=ry; exact PySem.EqMixed.eq_bool_str (a9 I q (by simp))
  | _=>exact absurd (show false=true from hs) Bool.false_ne_true
 | int i=>
  obtain⟨t,rfl⟩:=rx
  cases y with
  | non=>cases ry; exact PySem.EqNone.eq_int_none (a9 I q (by simp))
  | int j=>obtain⟨t',rfl⟩:=ry; exact eq_int (a9 I q xu)
  | str j=>obtain⟨t',rfl⟩:=ry; exact PySem.EqMixed.eq_int_str (a9 I q (by simp))
  | _=>exact absurd (show false=true from hs) Bool.false_ne_true
 | str i=>
  obtain⟨t,rfl⟩:=rx
  cases y with
  | non=>cases ry; exact PySem.EqNone.eq_str_none (a9 I q (by simp))
  | bl j=>cases ry; exact PySem.EqMixed.eq_str_bool (a9 I q (by simp))
  | int j=>obtain⟨t',rfl⟩:=ry; exact PySem.EqMixed.eq_str_int (a9 I q (by simp))
  | str j=>obtain⟨t',rfl⟩:=ry; exact eq_str (a9 I q xb)
  | _=>exact absurd (show false=true from hs) Bool.false_ne_true
 | byt i=>
  obtain⟨t,rfl⟩:=rx
  cases y with
  | byt j=>obtain⟨t',rfl⟩:=ry; exact PySem.W.eq_bytes (a9 I q xR)
  | _=>exact absurd (show false=true from hs) Bool.false_ne_true
 | _=>cases y <;> exact absurd (show false=true from hs) Bool.false_ne_true
theorem JK:fH X (compareOp .NotEq) LS:=by
 intro pins s σ H x y v u Q I rx ry h
 obtain⟨hs,q⟩:=h
 cases x with
 | non=>
  cases rx
  cases y with
  | non=>cases ry; exact PySem.EqNone.ne_none_none (a9 I q (by simp))
  | bl j=>cases ry; exact PySem.EqNone.ne_none_bool (a9 I q (by simp))
  | int j=>obtain⟨t',rfl⟩:=ry; exact PySem.EqNone.ne_none_int (a9 I q (by simp))
  | str j=>obtain⟨t',rfl⟩:=ry; exact PySem.EqNone.ne_none_str (a9 I q (by simp))
  | _=>exact absurd (show false=true from hs) Bool.false_ne_true
 | bl i=>
  cases rx
  cases y with
  | non=>cases ry; exact PySem.EqNone.ne_bool_none (a9 I q (by simp))
  | bl j=>cases ry; exact ne_bool (a9 I q (congrArg not BG))
  | str j=>obtain⟨t',rfl⟩:=ry; exact PySem.EqMixed.ne_bool_str (a9 I q (by simp))
  | _=>exact absurd (show false=true from hs) Bool.false_ne_true
 | int i=>
  obtain⟨t,rfl⟩:=rx
  cases y with
  | non=>cases ry; exact PySem.EqNone.ne_int_none (a9 I q (by simp))
  | int j=>obtain⟨t',rfl⟩:=ry; exact ne_int (a9 I q (congrArg not xu))
  | str j=>obtain⟨t',rfl⟩:=ry; exact PySem.EqMixed.ne_int_str (a9 I q (by simp))
  | _=>exact absurd (show false=true from hs) Bool.false_ne_true
 | str i=>
  obtain⟨t,rfl⟩:=rx
  cases y with
  | non=>cases ry; exact PySem.EqNone.ne_str_none (a9 I q (by simp))
  | bl j=>cases ry; exact PySem.EqMixed.ne_str_bool (a9 I q (by simp))
  | int j=>obtain⟨t',rfl⟩:=ry; exact PySem.EqMixed.ne_str_int (a9 I q (by simp))
  | str j=>obtain⟨t',rfl⟩:=ry; exact ne_str (a9 I q (congrArg not xb))
  | _=>exact absurd (show false=true from hs) Bool.false_ne_true
 | byt i=>
  obtain⟨t,rfl⟩:=rx
  cases y with
  | byt j=>obtain⟨t',rfl⟩:=ry; exact PySem.W.ne_bytes (a9 I q (congrArg not xR))
  | _=>exact absurd (show false=true from hs) Bool.false_ne_true
 | _=>cases y <;> exact absurd (show false=true from hs) Bool.false_ne_true
theorem Jd:fH X (compareOp .Lt) (EV fun i j=>.bl (decide (i < j))):=FG fun _ _ _ _ _ _ _ q=>lt_int q
theorem IK:fH X (compareOp .Gt) (EV fun i j=>.bl (decide (j < i))):=FG fun _ _ _ _ _ _ _ q=>gt_int q
theorem Js:fH X (compareOp .GtE) (EV fun i j=>.bl (decide (j<=i))):=FG fun _ _ _ _ _ _ _ q=>ge_int q
theorem GO:fH X (compareOp .Is) (fun x y H Q=>y=.non/\Q (.bl (decide (x=.non))) H):=by
 intro pins s σ H x y v u Q I rx ry h
 obtain⟨rfl,q⟩:=h
 cases ry
 refine is_none_gen (a9 I q ?_)
 cases x <;> first
  | (cases rx; rfl)
  | (obtain ⟨t,rfl⟩:=rx; rfl)
theorem CS:fH X (compareOp .IsNot) (fun x y H Q=>y=.non/\Q (.bl (!decide (x=.non))) H):=by
 intro pins s σ H x y v u Q I rx ry h
 obtain⟨rfl,q⟩:=h
 cases ry
 refine isnot_none_gen (a9 I q ?_)
 cases x <;> first
  | (cases rx; rfl)
  | (obtain ⟨t,rfl⟩:=rx; rfl)
theorem ay (b:Expr) {op:CmpOp} (h:op≠.In:=by decide) (h2:op≠.NotIn:=by decide):behindInMarks op b=false:=by
 have e1:(op == CmpOp.In)=false:=by cases op <;> first | rfl | exact absurd rfl h
 have e2:(op == CmpOp.NotIn)=false:=by cases op <;> first | rfl | exact absurd rfl h2
 cases b <;> simp [behindInMarks,e1,e2]
theorem Dw {op:CmpOp} {r:R2} (ho:fH X (compareOp op) r) (ha:PE X a ta) (hb:PE X b tb) (hm:behindInMarks op b=false):PE X (.Compare a [op] [b] pos) (HY r ta tb):=by
 intro pins s σ H Q I h
 exact wpAny_Compare1 (G9 ha hb I h fun v u s2 x y H2 I2 rx ry q=>ho pins s2 σ H2 x y v u Q I2 rx ry q) hm
def E9 (t:TE):TT:=fun σ H Q=>t σ H fun x H'=>∃ k,x=.bl k/\Q k H'
theorem Df {op:CmpOp} {r:R2} (ho:fH X (compareOp op) r) (ha:PE X a ta) (hb:PE X b tb) (hm:behindInMarks op b=false):PT X (.Compare a [op] [b] pos) (E9 (HY r ta tb)):=by
 intro pins s σ H Q I h
 refine wpAny_isTrue_Compare1 (bL (ha pins s σ H _ I h) fun v s1 ⟨x,H1,I1,r1,q1⟩=>bL (hb pins s1 σ H1 _ I1 q1) fun u s2 ⟨y,H2,I2,r2,q2⟩=>
  bL (ho pins s2 σ H2 x y v u _ I2 r1 r2 q2) fun c s3 ⟨z,H3,I3,r3,k,e,q3⟩=>?_) hm
 subst e
 cases r3
 exact wpAny_truthy_bool ⟨H3,I3,q3⟩
theorem ue:(sizeLine:Nat) < 2 ^ 63:=by rw [sizeLine_eq]; decide
theorem ww:fH X (binaryOp .Add) (fun x y H Q=>∃ i j,x=.str i/\y=.str j/\i.length+j.length<=sizeLine/\Q (.str (i++j)) H):=by
 intro pins s σ H x y v u Q I rx ry h
 obtain⟨i,j,rfl,rfl,hz,q⟩:=h
 obtain⟨t,rfl⟩:=rx
 obtain⟨t',rfl⟩:=ry
 exact add_str (fun t' tk=>⟨.str (i++j),H,I.tok _,⟨_,rfl⟩,q⟩) hz
theorem j8 {x:V} {us:List Value} (r:aL [x] us):∃ u,us=[u]/\aF x u:=by
 cases r with
 | cons r1 r2=>cases r2; exact⟨_,rfl,r1⟩
theorem xL {x y:V} {us:List Value} (r:aL [x,y] us):∃ u w',us=[u,w']/\aF x u/\aF y w':=by
 cases r with
 | cons r1 r2=>
  cases r2 with
  | cons r3 r4=>cases r4; exact⟨_,_,rfl,r1,r3⟩
theorem A1:cA X (.builtin "abs") (fun xs H Q=>∃ i,xs=[.int i]/\Q (.int (if i < 0 then -i else i)) H):=by
 intro pins s σ H xs us Q I r h
 obtain⟨i,rfl,q⟩:=h
 obtain⟨u,rfl,t,rfl⟩:=j8 r
 exact call_abs_int fun u tk=>⟨.int (if i < 0 then -i else i),H,I.tok _,⟨_,rfl⟩,q⟩
theorem xV (hc:X.calm=true):cA X (.builtin "max") (fun xs H Q=>∃ i j,xs=[.int i,.int j]/\Q (.int (if j > i then j else i)) H):=by
 intro pins s σ H xs us Q I r h
 obtain⟨i,j,rfl,q⟩:=h
 obtain⟨u,w',rfl,⟨t,rfl⟩,⟨t',rfl⟩⟩:=xL r
 refine max_two_ints (I.ok.hd hc) fun h' tk k=>⟨_,H,I.kept k,?_,q⟩
 by_cases hj:j > i
 ·rw [if_pos hj,if_pos hj]; exact⟨_,rfl⟩
 ·rw [if_neg hj,if_neg hj]; exact⟨_,rfl⟩
theorem yI (hc:X.calm=true):cA X (.builtin "min") (fun xs H Q=>∃ i j,xs=[.int i,.int j]/\Q (.int (if j < i then j else i)) H):=by
 intro pins s σ H xs us Q I r h
 obtain⟨i,j,rfl,q⟩:=h
 obtain⟨u,w',rfl,⟨t,rfl⟩,⟨t',rfl⟩⟩:=xL r
 refine min_two_ints (I.ok.hd hc) fun h' tk k=>⟨_,H,I.kept k,?_,q⟩
 by_cases hj:j < i
 ·rw [if_pos hj,if_pos hj]; exact⟨_,rfl⟩
 ·rw [if_neg hj,if_neg hj]; exact⟨_,rfl⟩
theorem rP:cA X (.type "int") (fun xs H Q=>(∃ i,xs=[.int i]/\Q (.int i) H)\/∃ k,xs=[.bl k]/\Q (.int (if k then 1 else 0)) H):=by
 intro pins s σ H xs us Q I r h
 rcases h with ⟨i,rfl,q⟩ | ⟨k,rfl,q⟩
 ·obtain⟨u,rfl,t,rfl⟩:=j8 r
  exact call_int_int ⟨.int i,H,I,⟨_,rfl⟩,q⟩
 ·obtain⟨u,rfl,r1⟩:=j8 r
  cases r1
  exact call_int_bool ⟨.int (if k then 1 else 0),H,I.tok _,⟨_,rfl⟩,q⟩
end
theorem qW.some_of {v:V} {o:Option Value} (r:qW (some v) o):∃ u,o=some u/\aF v u:=by
 cases o with
 | none=>exact(show False from r).elim
 | some u=>exact⟨u,rfl,r⟩
structure cH (k:Nat) (A:Around):Prop where
 hd:A.handled=none
 dp:A.depth+3*k+5 < recursionLimit
 un:A.units+16*k+200 < cLine
theorem cH.mono {j k:Nat} {A:Around} (r:cH k A) (h:j<=k):cH j A:=⟨r.hd,by have:=r.dp; omega,by have:=r.un; omega⟩
theorem cH.deeper {k:Nat} {A:Around} (r:cH (k+1) A) (env:Env):cH k (A.deeper env):=
 ⟨r.hd,by have:=r.dp; show A.depth+1+3*k+5 < _; omega,by have:=r.un; show A.units+3+16*k+200 < _; omega⟩
theorem cH.depth {k:Nat} {A:Around} (r:cH k A):A.depth < recursionLimit:=by have:=r.dp; omega
theorem cH.units {k:Nat} {A:Around} (r:cH k A):A.units+64 < cLine:=by have:=r.un; omega
def JX:TA:=fun _ H Q=>Q [] H
def JB (ta:TE) (tr:TA):TA:=fun σ H Q=>ta σ H fun x H1=>tr σ H1 fun xs H2=>Q (x::xs) H2
section
variable {X:Cx} {e:Expr} {es:List Expr} {te:TE} {t:TA} {pos:Pos}
theorem pR:PA X [] JX:=fun _ _ _ _ H Q I h=>Calls.spliced_nil ⟨[],H,I,.nil,h⟩
theorem nv (ha:PE X e te) (hr:PA X es t) (hs:starEach (e::es) X.env=(false,eval e X.env)::starEach es X.env:=by rfl):PA X (e::es) (JB te t):=by
 intro pos pins s σ H Q I h
 rw [hs]
 show wpAny _ _ (spliced ((false,eval e X.env)::backTo pos (starEach es X.env))) _ _ s
 refine Calls.spliced_cons (bL (ha pins s σ H _ I h) fun u s1 ⟨x,H1,I1,r1,q1⟩=>?_)
 exact bL (hr pos pins s1 σ H1 _ I1 q1) fun us s2 ⟨xs,H2,I2,r2,q2⟩=>⟨x::xs,H2,I2,.cons r1 r2,q2⟩
def KD (t:TA):TE:=fun σ H Q=>t σ H fun xs H1=>xs.length<=sizeLine/\∀ p,H1 p=none->Q (.ref p) (bJ H1 p (.tup xs))
def Kz (t:TA):TE:=fun σ H Q=>t σ H fun xs H1=>xs.length<=sizeLine/\∀ p,H1 p=none->Q (.ref p) (bJ H1 p (.lst xs))
theorem G' {x1} (h:PA X es t):PE X (.Tuple es x1 pos) (KD t):=by
 intro pins s σ H Q I hq
 refine wpAny_Tuple_spliced (bL (h pos pins s σ H _ I hq) fun us s1 ⟨xs,H1,I1,r,z,q⟩=>⟨by rw [<- r.length]; exact z,?_⟩)
 have hf:H1 s1.heap.objs.size=none:=I1.hok.fresh (Nat.le_refl _)
 refine⟨.ref s1.heap.objs.size,bJ H1 s1.heap.objs.size (.tup xs),I1.laid (t':=s1.toks) (fun b u e=>Heap.get?_push_of_some _ e) (Nat.le_refl _) ?_,rfl,q _ hf⟩
 exact⟨z,us,r,⟨_,Heap.get?_push_size _ rfl,rfl,_,rfl⟩⟩
theorem G7 (h:PA X es t):PE X (.List es pos) (Kz t):=by
 intro pins s σ H Q I hq
 refine wpAny_List_spliced (bL (h pos pins s σ H _ I hq) fun us s1 ⟨xs,H1,I1,r,z,q⟩=>⟨by rw [<- r.length]; exact z,?_⟩)
 have hf:H1 s1.heap.objs.size=none:=I1.hok.fresh (Nat.le_refl _)
 refine⟨.ref s1.heap.objs.size,bJ H1 s1.heap.objs.size (.lst xs),I1.laid (t':=s1.toks) (fun b u e=>Heap.get?_push_of_some _ e) (Nat.le_refl _) ?_,rfl,q _ hf⟩
 exact⟨z,us,0,r,Heap.get?_push_size _ rfl⟩
end
abbrev Sp:=List V->Hp->VK->XK->Prop
abbrev CL:=List Env->Hp->Shared->XK->Value->Shared->Prop
structure Ew (P:Program) (w:World) (K:PySem.W.Frag) (mg:Str->Option Value) (base:Heap) (A:Around) (outer:List Env) (s:Shared) (H:Hp):Prop where
 frames:A.frames=some outer
 mod:Mod K mg base
 bs:∀ b o,base.get? b=some o->s.heap.get? b=some o/\H b=none
 bsz:base.objs.size<=s.heap.objs.size
 funs:s.heap.FunFrames base outer
 frf:∀ b∈ul outer,H b=none
 hok:lF P w H s.heap
 bare:AllBare s.gens
def CE (outer:List Env) (P:Program) (w:World) (H:Hp) (s:Shared) (Q:VK) (u:Value) (s':Shared):Prop:=
 ∃ v H',s'.os=s.os/\AllBare s'.gens/\Un (ul outer) [] H H' s.heap s'.heap/\lF P w H' s'.heap/\aF v u/\Q v H'
def CR (CX:CL) (outer:List Env) (P:Program) (w:World) (H:Hp) (s:Shared) (Q:VK) (E:XK) (r:Result) (s':Shared):Prop:=
 match r with
 | .ok (.ret u)=>CE outer P w H s Q u s'
 | .ok _=>False
 | .error e=>CX outer H s E e s'
structure aH (P:Program) (w:World) (K:PySem.W.Frag) (mg:Str->Option Value) (base:Heap) (CX:CL) (k:Nat) (f:Addr) (fd:FuncData) (ps:List Str) (sp:Sp):Prop where
 len:∀ vs H Q E,sp vs H Q E->vs.length=ps.length
 run:∀ (A:Around) (outer:List Env) (s:Shared) (H:Hp) (args:Args) (us:List Value) (vs:List V) (Q:VK) (E:XK),cH k A->Ew P w K mg base A outer s H->BindsTo s fd args (ps.zip us)->aL vs us->sp vs H Q E->
  codeAny (model P w) A (.call (.ref f) args) (CR CX outer P w H s Q E) s
section
variable {X:Cx} {pins:List (Addr×Obj)} {σ:St} {H:Hp} {s s':Shared}
theorem aA.env0 (I:aA X pins σ H s):Ew X.prog X.w X.K X.mg X.base X.A X.stack s H:=
 ⟨I.ok.frames,I.ok.mod,I.bs,Nat.le_trans I.ok.bsz I.sz,I.stack,I.stkFree,I.hok,I.bare⟩
theorem aA.after {Q:VK} {u:Value} (I:aA X pins σ H s) (h:CE X.stack X.prog X.w H s Q u s'):EP X pins σ Q u s':=by
 obtain⟨v,H',os,bare,un,hok,r,q⟩:=h
 obtain⟨hh,g,d,t,os'⟩:=s'
 obtain rfl:os'=s.os:=os
 exact⟨v,H',I.call (h':=hh) (g':=g) (d':=d) (t':=t) (ch:=[]) un hok bare (fun b z=>absurd z (by simp)),r,q⟩
end
def IE (sp:Sp) (dvs:List V) (E:XK) (t:TA):TE:=fun σ H Q=>t σ H fun vs H1=>sp (vs++dvs) H1 Q E
def qg (K:PySem.W.Frag) (fd:FuncData) (ps:List Str) (ds:List Value):Prop:=
 ∀ (s:Shared) (us:List Value),K.In s.heap->(us++ds).length=ps.length->BindsTo s fd ⟨us,[]⟩ (ps.zip (us++ds))
theorem qg.all {K:PySem.W.Frag} {fd:FuncData} {ps:List Str} (h:∀ us:List Value,us.length=ps.length->bindArgs fd ⟨us,[]⟩=pure (ps.zip us)):qg K fd ps []:=fun s us _ hl=>by
 rw [List.append_nil] at hl ⊢
 exact .of_eq (h us hl)
def vR (CX:CL) (X:Cx) (E:XK):Prop:=∀ (pins:List (Addr×Obj)) (σ:St) (H:Hp) (s:Shared) (e:Value) (s':Shared),aA X pins σ H s->CX X.stack H s E e s'->X.xe e s'
section
variable {X:Cx} {CX:CL} {k:Nat} {f C:Addr} {fd:FuncData} {ps:List Str} {sp:Sp} {dvs:List V} {ds:List Value} {E:XK} {x m:Str} {p pos apos:Pos} {e o:Expr} {es:List Expr} {ta:TE} {t:TA}
theorem G_ {pins:List (Addr×Obj)} {σ:St} {H:Hp} {s:Shared} {Q:VK} {us:List Value} {vs:List V} (F:aH X.prog X.w X.K X.mg X.base CX k f fd ps sp) (hr:cH k X.A) (hb:qg X.K fd ps ds) (hd:aL dvs ds) (hx:vR CX X E)
  (I:aA X pins σ H s) (r:aL vs us) (h:sp (vs++dvs) H Q E):wpAny (model X.prog X.w) X.A (call (.ref f) us) (EP X pins σ Q) X.xe s:=by
 have r2:aL (vs++dvs) (us++ds):=r.append hd
 have hl:(us++ds).length=ps.length:=by rw [<- r2.length]; exact F.len _ _ _ _ h
 refine wpAny_call (codeAny_mono (F.run X.A X.stack s H ⟨us,[]⟩ (us++ds) (vs++dvs) Q E hr I.env0 (hb s us I.kIn hl) r2 h) fun r s' hq=>?_)
 cases r with
 | error e=>exact hx pins σ H s e s' I hq
 | ok fl=>
  cases fl with
  | ret u=>exact I.after hq
  | next=>exact False.elim hq
  | brk=>exact False.elim hq
  | cont=>exact False.elim hq
theorem DP (F:aH X.prog X.w X.K X.mg X.base CX k f fd ps sp) (hr:cH k X.A) (hg:Gl X x) (hm:X.mg x=some (.ref f)) (hk:PySem.W.keepIn X.K (.ref f)=true) (hb:qg X.K fd ps ds) (hd:aL dvs ds) (hx:vR CX X E)
  (ha:PA X (e::es) t) (hdb:(x == ("__debug__":Str))=false:=by decide) (he:starEach (e::es) X.env=(false,eval e X.env)::starEach es X.env:=by rfl) (hpl:(backTo pos (starEach es X.env)).any (·.1)=false:=by rfl):
  PE X (.Call (.Name x p) (e::es) [] pos) (IE sp dvs E t):=by
 intro pins s σ H Q I h
 refine wpAny_Call_Name_kw (xp I hg hm ?_ hdb)
 refine PySem.W.callWith_K (h₀:=X.base) I.ok.mod.kin hk (bL (ha pos pins s σ H _ I h) fun us s1 ⟨vs,H1,I1,r,q⟩=>⟨I1.kIn,?_⟩) he hpl
 exact G_ F hr hb hd hx I1 r q
end
structure ar (N P:List Str) (sc:Scope):Prop where
 kind:sc.kind=.function
 co:sc.isCoroutine=false
 gen:sc.isGenerator=false
 nd:N.Nodup
 pre:N.take P.length=P
 par:∀ x∈P,sc.names.lookup x=some .local\/sc.names.lookup x=some .cell
 nofree:∀ y∈sc.names,y.2≠.free
theorem dN {N P:List Str} {sc:Scope} (a:sc.kind=.function:=by rfl) (b:sc.isCoroutine=false:=by rfl) (c:sc.isGenerator=false:=by rfl) (d:N.Nodup:=by decide +kernel) (e:N.take P.length=P:=by rfl) (f:∀ x∈P,sc.names.lookup x=some .local\/sc.names.lookup x=some .cell:=by decide +kernel) (g:∀ y∈sc.names,y.2≠.free:=by decide +kernel):ar N P sc:=⟨a,b,c,d,e,f,g⟩
theorem r9 {kindOf:Str->Option NameKind} {x:Str}:∀ {binds:List (Str×Value)} {m:Str->Option Value},(∀ v,(x,v)∉binds)->bindL kindOf binds m x=m x
 | [],_,_=>rfl
 | (n,v)::r,m,h=>by
  unfold bindL
  rw [r9 fun w hw=>h w (List.mem_cons_of_mem _ hw)]
  split
  ·have:x≠n:=by rintro rfl; exact h v List.mem_cons_self
   simp [this]
  ·rfl
theorem rO {kindOf:Str->Option NameKind} {x:Str}:∀ {binds:List (Str×Value)} {m:Str->Option Value},(∀ v,(x,v)∉binds)->bindC kindOf binds m x=m x
 | [],_,_=>rfl
 | (n,v)::r,m,h=>by
  unfold bindC
  rw [rO fun w hw=>h w (List.mem_cons_of_mem _ hw)]
  split
  ·rfl
  ·have:x≠n:=by rintro rfl; exact h v List.mem_cons_self
   simp [this]
theorem sj {kindOf:Str->Option NameKind} {x:Str} {v:Value}:∀ {P:List Str} {vs:List Value} {i:Nat} {m:Str->Option Value},P.Nodup->P[i]?=some x->vs[i]?=some v->kindOf x=some .local->
  bindL kindOf (P.zip vs) m x=some v
 | [],_,_,_,_,h,_,_=>by simp at h
 | _::_,[],_,_,_,_,h,_=>by simp at h
 | p::P,w::vs,0,m,nd,h1,h2,hk=>by
  simp at h1 h2; subst h1; subst h2
  show bindL kindOf ((p,w)::P.zip vs) m p=_
  unfold bindL
  rw [r9 fun v hv=>(List.nodup_cons.mp nd).1 (List.of_mem_zip hv).1,if_pos hk]
  simp
 | p::P,w::vs,i+1,m,nd,h1,h2,hk=>by
  show bindL kindOf ((p,w)::P.zip vs) m x=_
  unfold bindL
  exact sj (i:=i) (List.nodup_cons.mp nd).2 (by simpa using h1) (by simpa using h2) hk
theorem sh {kindOf:Str->Option NameKind} {x:Str} {v:Value}:∀ {P:List Str} {vs:List Value} {i:Nat} {m:Str->Option Value},P.Nodup->P[i]?=some x->vs[i]?=some v->kindOf x≠some .local->
  bindC kindOf (P.zip vs) m x=some v
 | [],_,_,_,_,h,_,_=>by simp at h
 | _::_,[],_,_,_,_,h,_=>by simp at h
 | p::P,w::vs,0,m,nd,h1,h2,hk=>by
  simp at h1 h2; subst h1; subst h2
  show bindC kindOf ((p,w)::P.zip vs) m p=_
  unfold bindC
  rw [rO fun v hv=>(List.nodup_cons.mp nd).1 (List.of_mem_zip hv).1,if_neg hk]
  simp
 | p::P,w::vs,i+1,m,nd,h1,h2,hk=>by
  show bindC kindOf ((p,w)::P.zip vs) m x=_
  unfold bindC
  exact sh (i:=i) (List.nodup_cons.mp nd).2 (by simpa using h1) (by simpa using h2) hk
def start (N:List Str) (vs:List V):St:=vs.map some++List.replicate (N.length - vs.length) none
def u8 (CX:CL) (P:Program) (w:World) (K:PySem.W.Frag) (mg:Str->Option Value) (base:Heap) (N:List Str) (qual:Str) (scope:Scope) (f:Addr) (cd:Value) (A:Around) (outer:List Env) (s:Shared) (H:Hp) (E:XK):Cx where
 prog:=P
 w:=w
 K:=K
 mg:=mg
 base:=base
 A:=A.deeper (envOfC qual scope s.heap.objs.size f cd)
 N:=N
 s₀:=s
 H₀:=H
 env:=envOfC qual scope s.heap.objs.size f cd
 outer:=outer
 stack:=envOfC qual scope s.heap.objs.size f cd::outer
 ex:=[]
 calm:=true
 fn:=fun _=>true
 pn:=[]
 xe:=fun e s'=>wpAny (model P w) (A.deeper (envOfC qual scope s.heap.objs.size f cd)) (leaving (envOfC qual scope s.heap.objs.size f cd) e) (fun _ s''=>CX outer H s E e s'') (fun e' s''=>CX outer H s E e' s'') s'
theorem uF {sc:Scope} {n:Nat} {x:Str} (h:sc.names.lookup x=some .cell):∃ c,(cellsFrom n sc.names []).lookup x=some c:=by
 have q:=PySem.W.cellsFrom_some sc.names n [] (.inl h)
 exact Option.isSome_iff_exists.mp q
theorem za {CX:CL} {P:Program} {w:World} {K:PySem.W.Frag} {mg:Str->Option Value} {base:Heap} {N ps:List Str} {qual:Str} {scope:Scope} {f:Addr} {cd:Value} {A:Around} {outer:List Env} {s s1:Shared} {H:Hp} {E:XK} {us:List Value} {vs:List V}
  (S:ar N ps scope) (hd:A.handled=none) (e0:Ew P w K mg base A outer s H) (hl:vs.length=ps.length) (r:aL vs us)
  (x:InCallC s s.heap.objs.size (bindL (envOfC qual scope s.heap.objs.size f cd).kindOf (ps.zip us) fun _=>none) (cellsFrom (s.heap.objs.size+1) scope.names []) (bindC (envOfC qual scope s.heap.objs.size f cd).kindOf (ps.zip us) fun _=>none) s1):
  aA (u8 CX P w K mg base N qual scope f cd A outer s H E) [] (start N vs) H s1:=by
 have hpl:ps.length<=N.length:=by have:=congrArg List.length S.pre; rw [List.length_take] at this; omega
 obtain⟨h1,tk,rfl,hk⟩:=x.done
 have noA:∀ b:Addr,b∉(u8 CX P w K mg base N qual scope f cd A outer s H E).ex:=fun b z=>absurd (show b∈([]:List Addr) from z) (by simp)
 refine⟨⟨e0.mod,S.kind,rfl,rfl,Nat.le_refl _,fun y z c h1 h2=>?_,fun y hy=>?_,fun y c _ h=>?_,fun _=>hd,Around.frames_deeper e0.frames,.inr ⟨rfl,rfl⟩,fun b z=>absurd z (noA b),e0.bs,e0.bsz,fun b _ _=>noA b,fun b z=>absurd z (noA b),e0.funs,e0.frf⟩,
  rfl,e0.bare,Un.kept hk,⟨_,x.toInCall.ns,fun i y v h1 h2 h3=>?_⟩,fun y c h=>⟨_,x.cell y c h⟩,e0.hok.fresh (Nat.le_refl _),fun y c h=>?_,fun p hp=>absurd (show p∈([]:List (Addr×Obj)) from hp) (by simp),e0.hok.kept hk,?_⟩
 ·exact name_of_addr x.apart (PySem.mem_of_lookup h1) (PySem.mem_of_lookup h2)
 ·have hy:scope.names.lookup y=some .cell\/scope.names.lookup y=some .free:=hy
  rcases hy with hy | hy
  ·exact uF hy
  ·exact absurd rfl (S.nofree _ (PySem.mem_of_lookup hy))
 ·exact Nat.le_of_lt (x.above y c (PySem.mem_of_lookup h))
 ·have hi:i < vs.length:=by
   unfold start at h2
   by_cases hi:i < vs.length
   ·exact hi
   ·rw [List.getElem?_append_right (by simpa using hi)] at h2
    rw [List.getElem?_replicate] at h2
    split at h2 <;> cases h2
  have ha:vs[i]?=some v:=by
   unfold start at h2
   rw [List.getElem?_append_left (by simpa using hi),List.getElem?_map] at h2
   cases e:vs[i]? with
   | none=>rw [e] at h2; cases h2
   | some a=>rw [e] at h2; cases h2; rfl
  obtain⟨u,hu,rv⟩:=r.get ha
  have hp:ps[i]?=some y:=by
   rw [<- S.pre,List.getElem?_take_of_lt (by omega)]; exact h1
  have ndP:ps.Nodup:=by rw [<- S.pre]; exact S.nd.sublist (List.take_sublist _ _)
  refine⟨u,rv,?_⟩
  rcases S.par y (List.mem_of_getElem? hp) with k | k
  ·exact .inl ⟨k,sj ndP hp hu k⟩
  ·obtain⟨c,e⟩:=uF (n:=s.heap.objs.size+1) k
   refine .inr ⟨.inl k,c,e,?_⟩
   have q:=x.cell y c e
   rw [sh ndP hp hu (by show scope.names.lookup y≠_; rw [k]; decide)] at q
   exact q
 ·exact e0.hok.fresh (Nat.le_of_lt (x.above y c (PySem.mem_of_lookup h)))
 ·unfold start
  show _=N.length
  rw [List.length_append,List.length_map,List.length_replicate]
  omega
theorem JM {CX:CL} {P:Program} {w:World} {K:PySem.W.Frag} {mg:Str->Option Value} {base:Heap} {k:Nat} {f:Addr} {name qual:Str} {params:Arguments} {body:List Stmt} {scope:Scope} {dV kV doc pm cdv ct oc:Value} {an od:Option Addr}
  {osl:Array (Option Value)} {N ps:List Str} {sp:Sp} (lk:K.lookup f=some ⟨oc,od,.func (PySem.W.fnOf name qual params body scope dV kV doc pm an cdv ct),osl⟩) (hcd:PySem.W.codeIn K cdv qual=true) (S:ar N ps scope)
  (len:∀ vs H Q E,sp vs H Q E->vs.length=ps.length)
  (hbody:∀ (A:Around) (outer:List Env) (s:Shared) (H:Hp) (vs:List V) (Q:VK) (E:XK),cH k (A.deeper (envOfC qual scope s.heap.objs.size f cdv))->sp vs H Q E->
   ∃ t,nH (u8 CX P w K mg base N qual scope f cdv A outer s H E) body t/\t {nx:=fun _ H'=>Q .non H',rt:=Q} (start N vs) H):
  aH P w K mg base CX (k+1) f (PySem.W.fnOf name qual params body scope dV kV doc pm an cdv ct) ps sp:=by
 refine⟨len,fun A outer s H args us vs Q E hr e0 hb r hsp=>?_⟩
 have hl:=len _ _ _ _ hsp
 have KX:K.In s.heap:=e0.mod.kin.keeps fun b o e=>(e0.bs b o e).1
 have lim:s.heap.NoLimit:=e0.mod.nolimit.keeps fun b o e=>(e0.bs b o e).1
 have hkind:∀ y∈ps.zip us,scope.names.lookup y.1=some .local\/(scope.names.lookup y.1=some .cell/\((cellsFrom (s.heap.objs.size+1) scope.names []).lookup y.1).isSome=true):=fun⟨n,v⟩ hy=>by
  rcases S.par n (List.of_mem_zip hy).1 with q | q
  ·exact .inl q
  ·exact .inr ⟨q,PySem.W.cellsFrom_some _ _ _ (.inl q)⟩
 refine codeAny_call_function hr.depth (KX _ _ lk) rfl S.co S.gen rfl (PySem.W.codeRec_of KX hcd) (hb _ _ _ _ ?_)
 refine wpAny_newFunctionEnv_cells S.kind hkind fun env he s1 x=>?_
 subst he
 refine⟨lim.keeps x.toInCall.keep,codeAny_func ?_⟩
 obtain⟨t,ht,hq⟩:=hbody A outer s H vs Q E (hr.deeper _) hsp
 have I:aA (u8 CX P w K mg base N qual scope f cdv A outer s H E) [] (start N vs) H s1:=za S hr.hd e0 hl r x
 refine wpAny_mono (ht [] s1 (start N vs) H _ I hq) (fun fl s' hs=>?_) fun e s' hs=>hs
 have fin:∀ {σ':St} {H':Hp} {v:V} {u:Value},aA (u8 CX P w K mg base N qual scope f cdv A outer s H E) [] σ' H' s'->aF v u->Q v H'->CE outer P w H s Q u s':=
  fun {σ' H' v u} J rv q=>⟨v,H',J.os,J.bare,J.base,J.hok,rv,q⟩
 cases fl with
 | ret u=>
  obtain⟨v,σ',H',J,rv,q⟩:=hs
  exact fin J rv q
 | next=>
  obtain⟨σ',H',J,q⟩:=hs
  exact fin (v:=V.non) (u:=Value.none) J rfl q
 | brk=>
  obtain⟨_,_,_,q⟩:=hs
  exact False.elim q
 | cont=>
  obtain⟨_,_,_,q⟩:=hs
  exact False.elim q
section
variable {X:Cx} {x:Str} {p pos:Pos} {e:Expr} {es:List Expr} {t:TA} {id T:String} {r:List V->Hp->VK->Prop}
def J0 (r:List V->Hp->VK->Prop) (t:TA):TE:=fun σ H Q=>t σ H fun vs H1=>r vs H1 Q
theorem uH (hc:cA X (.builtin id) r) (hg:Gl X x) (hm:X.mg x=none) (hv:bootBuiltins x=some (.builtin id)) (ha:PA X (e::es) t) (hn:x≠"__name__":=by decide) (hdb:(x == ("__debug__":Str))=false:=by decide)
  (he:starEach (e::es) X.env=(false,eval e X.env)::starEach es X.env:=by rfl) (hpl:(backTo pos (starEach es X.env)).any (·.1)=false:=by rfl):PE X (.Call (.Name x p) (e::es) [] pos) (J0 r t):=by
 intro pins s σ H Q I h
 refine wpAny_Call_Name_kw (qe I hg hm hv ?_ hn hdb)
 exact PyProof.Rows.callWith_builtin1 (bL (ha pos pins s σ H _ I h) fun us s1 ⟨vs,H1,I1,r1,q1⟩=>hc pins s1 σ H1 vs us Q I1 r1 q1) he hpl
theorem nL (hc:cA X (.type T) r) (hg:Gl X x) (hm:X.mg x=none) (hv:bootBuiltins x=some (.type T)) (ha:PA X (e::es) t) (hn:x≠"__name__":=by decide) (hdb:(x == ("__debug__":Str))=false:=by decide)
  (he:starEach (e::es) X.env=(false,eval e X.env)::starEach es X.env:=by rfl) (hpl:(backTo pos (starEach es X.env)).any (·.1)=false:=by rfl):PE X (.Call (.Name x p) (e::es) [] pos) (J0 r t):=by
 intro pins s σ H Q I h
 refine wpAny_Call_Name_kw (qe I hg hm hv ?_ hn hdb)
 exact PyProof.Rows.callWith_type1 (bL (ha pos pins s σ H _ I h) fun us s1 ⟨vs,H1,I1,r1,q1⟩=>hc pins s1 σ H1 vs us Q I1 r1 q1) he hpl
end
end L2
namespace HT
open PySem PyProof.Rows
section
variable {prog:Program} {w:World} {A:Around} {E:Value->Shared->Prop} {s:Shared}
theorem Ev {t b:Addr} {vs ws:List Value} {Q:Value->Shared->Prop} (ht:IsTup s.heap t vs.toArray) (hb:IsTup s.heap b ws.toArray) (hv:vs≠[])
  (h1:ws=[]->Q (.ref t) s) (h2:ws≠[]->Q (.ref s.heap.objs.size) {s with heap:=s.heap.push {cls:=.type "tuple",data:=.seq (vs++ws).toArray}})
  (hsz:vs.length+ws.length<=sizeLine):wpAny (model prog w) A (binaryOp .Add (.ref t) (.ref b)) Q E s:=by
 obtain⟨⟨cls,dd,data,sl⟩,ho,hc,n,hd⟩:=id ht
 obtain⟨⟨cls2,dd2,data2,sl2⟩,ho2,hc2,n2,hd2⟩:=id hb
 simp only at hc hd hc2 hd2
 subst hc hd hc2 hd2
 have e:vs.toArray++ws.toArray=(vs++ws).toArray:=by simp
 by_cases hw:ws=[]
 ·exact concat_meets ⟨_,ho,rfl⟩ ⟨_,ho2,rfl⟩ noFill_tuple_add seq_tuple_add PySem.F.slot_tuple_add PySem.F.entry_tuple_add (PySem.F.args_tuple_add_2 _ _)
   (tuple_addW1 t b vs.toArray ws.toArray n n2 dd dd2 sl sl2 (by simpa using hv) (by simp [hw])) ⟨ho,ho2,h1 hw⟩
 ·refine concat_meets ⟨_,ho,rfl⟩ ⟨_,ho2,rfl⟩ noFill_tuple_add seq_tuple_add PySem.F.slot_tuple_add PySem.F.entry_tuple_add (PySem.F.args_tuple_add_2 _ _)
   (tuple_addW2 t b vs.toArray ws.toArray n n2 dd dd2 sl sl2 (by simpa using hv) (by simpa using hw) (by rw [List.size_toArray,List.size_toArray]; exact hsz)) ⟨ho,ho2,?_⟩
  rw [e]
  exact h2 hw
def eu (n d:Nat):Option Int->Nat
 | none=>d
 | some v=>if v < 0 then(v+(n:Int)).toNat else min v.toNat n
theorem Hr (n d:Nat) (hd:d<=n) (o:Option Int):eu n d o<=n:=by
 cases o with
 | none=>exact hd
 | some v=>
  show(if v < 0 then(v+(n:Int)).toNat else min v.toNat n)<=n
  by_cases hv:v < 0
  ·rw [if_pos hv]; omega
  ·rw [if_neg hv]; exact Nat.min_le_right _ _
theorem xN (v:Int) (n d:Nat):(if v < 0 then max (v+(n:Int)) 0 else min v (n:Int))=((eu n d (some v):Nat):Int):=by
 show(if v < 0 then max (v+(n:Int)) 0 else min v (n:Int))=(((if v < 0 then(v+(n:Int)).toNat else min v.toNat n):Nat):Int)
 by_cases hv:v < 0
 ·simp only [if_pos hv]; omega
 ·simp only [if_neg hv]; omega
theorem wd (lo hi:Option Int) (n:Nat):Builtin.Slice.sliceAdjust lo hi 1 (n:Int)=(((eu n 0 lo:Nat):Int),((eu n n hi:Nat):Int)):=by
 have h1:¬ ((1:Int) < 0):=by omega
 unfold Builtin.Slice.sliceAdjust
 simp only [h1,if_false]
 refine Prod.ext ?_ ?_
 ·cases lo with
  | none=>rfl
  | some v=>exact xN v n 0
 ·cases hi with
  | none=>rfl
  | some v=>exact xN v n n
theorem wM (i j:Nat):Builtin.Slice.slicePlaces (i:Int) (j:Int) 1=j - i:=by
 unfold Builtin.Slice.slicePlaces
 have h1:(1:Int) > 0:=by omega
 simp only [h1,if_true,Int.ediv_one]
 split <;> omega
theorem pF {v:Value} {o:Option Int} {Q:Option Int->Shared->Prop} (p:IsPart v o) (h:Q o s):wpAny (model prog w) A (Builtin.Slice.slicePartIndex v) Q E s:=by
 cases p with
 | none=>exact slicePart_none h
 | int i t=>exact slicePart_int h
theorem oi {sl:Addr} {vl vu:Value} {lo hi:Option Int} {n:Nat} {Q:Int×Int×Nat->Shared->Prop} (hs:s.heap.IsSliceOf sl vl vu .none) (pl:IsPart vl lo) (pu:IsPart vu hi)
  (h:Q (((eu n 0 lo:Nat):Int),1,eu n n hi - eu n 0 lo) s):wpAny (model prog w) A (Builtin.Slice.sliceApplied (.ref sl) (pure (n:Int))) Q E s:=by
 obtain⟨os,hos,hcs,hds⟩:=id hs
 unfold Builtin.Slice.sliceApplied Builtin.Slice.sliceFields
 refine wpAny_bind (wpAny_bind (wpAny_field hos hds (x:=vl) rfl (wpAny_bind (wpAny_field hos hds (x:=vu) rfl (wpAny_bind (wpAny_field hos hds (x:=.none) rfl (wpAny_pure ?_)))))))
 refine wpAny_bind (slicePart_none ?_)
 show wpAny _ _ (if ((1:Int) == 0)=true then _ else _) _ _ s
 rw [if_neg (by decide)]
 refine wpAny_bind (pF pl (wpAny_bind (pF pu (wpAny_bind (wpAny_pure ?_)))))
 show wpAny _ _ (match Builtin.Slice.sliceAdjust lo hi 1 (n:Int) with | (lo,hi)=>pure (lo,(1:Int),Builtin.Slice.slicePlaces lo hi 1)) _ _ s
 rw [wd lo hi n]
 show wpAny _ _ (pure (((eu n 0 lo:Nat):Int),(1:Int),Builtin.Slice.slicePlaces ((eu n 0 lo:Nat):Int) ((eu n n hi:Nat):Int) 1)) _ _ s
 rw [wM]
 exact wpAny_pure h
theorem Ca (xs:Array Value) (i k:Nat):((List.range k).filterMap fun(m:Nat)=>xs[((i:Int)+(m:Int)*1).toNat]?).toArray=((xs.toList.drop i).take k).toArray:=by
 have e:(fun (m:Nat)=>xs[((i:Int)+(m:Int)*1).toNat]?)=fun m=>xs[i+m]?:=by
  funext m
  have:((i:Int)+(m:Int)*1).toNat=i+m:=by omega
  rw [this]
 rw [e]
 have:=pick_run xs i k
 rw [List.filterMap_map] at this
 have e2:((fun x=>xs[x]?) ∘ fun x=>i+x)=fun m=>xs[i+m]?:=rfl
 rw [e2] at this
 rw [this]
theorem mU {t sl:Addr} {items:Array Value} {vl vu:Value} {lo hi:Option Int} {Q:Value->Shared->Prop} (ht:IsTup s.heap t items) (hs:s.heap.IsSliceOf sl vl vu .none) (pl:IsPart vl lo) (pu:IsPart vu hi)
  (hw:¬ (eu items.size 0 lo=0/\eu items.size items.size hi=items.size))
  (h:Q (.ref s.heap.objs.size) {s with heap:=s.heap.push {cls:=.type "tuple",data:=.seq ((items.toList.drop (eu items.size 0 lo)).take (eu items.size items.size hi - eu items.size 0 lo)).toArray}})
  (hsz:items.size<=sizeLine):wpAny (model prog w) A (getItem (.ref t) (.ref sl)) Q E s:=by
 have htake:sizeOk (.seq ((items.toList.drop (eu items.size 0 lo)).take (eu items.size items.size hi - eu items.size 0 lo)).toArray):=by
  show((items.toList.drop (eu items.size 0 lo)).take (eu items.size items.size hi - eu items.size 0 lo)).toArray.size<=sizeLine
  rw [List.size_toArray,List.length_take,List.length_drop,Array.length_toList]
  omega
 have hj:eu items.size items.size hi<=items.size:=Hr _ _ (Nat.le_refl _) hi
 obtain⟨os,hos,hcs,hds⟩:=id hs
 have hTs:s.TypeIs (.ref sl) "slice":=⟨os,hos,hcs⟩
 unfold getItem
 try with_reducible refine wpAny_holding ?_
 first | refine wpAny_bind (wpAny_pure ?_) | skip
 refine wpAny_bind (wpAny_sequenceKey ht.typeIs (by decide) ?_)
 refine wpAny_bind (wpAny_callSpecial?_slot (name:=Str.ofString "__getitem__") ht.typeIs PyProof.Rows.slot_tuple_getitem
  (wpAny_call_entry PyProof.Rows.slot_tuple_getitem ht.typeIs entry_tuple_getitem ?_ (args_tuple_getitem _ _)))
 show wpAny _ _ (Builtin.Tuple.tupleItemsOf (.ref t) >>= _) _ _ s
 refine wpAny_bind (tupleItemsOf_ ht ?_)
 refine wpAny_bind (wpAny_typeOf hTs ?_)
 rw [if_pos (by decide)]
 refine wpAny_bind (oi hs pl pu ?_)
 have hno:¬ ((((eu items.size 0 lo:Nat):Int) == 0 && (1:Int) == 1 && (eu items.size items.size hi - eu items.size 0 lo) == items.size)=true):=by
  intro q
  rw [Bool.and_eq_true,Bool.and_eq_true] at q
  have q1:((eu items.size 0 lo:Nat):Int)=0:=eq_of_beq q.1.1
  have q2:eu items.size items.size hi - eu items.size 0 lo=items.size:=eq_of_beq q.2
  exact hw ⟨by omega,by omega⟩
 show wpAny _ _ (if (((eu items.size 0 lo:Nat):Int) == 0 && (1:Int) == 1 && (eu items.size items.size hi - eu items.size 0 lo) == items.size)=true then _ else _) _ _ s
 rw [if_neg hno,Ca]
 first
  | exact wpAny_bind (m:=Builtin.Tuple.tupleExact _) (wpAny_newObj_type (wpAny_pure ⟨_,rfl,wpAny_pure h⟩) htake)
  | exact wpAny_bind (m:=Builtin.Tuple.tupleExact _) (wpAny_newObj_type (wpAny_bind (wpAny_pure (wpAny_pure ⟨_,rfl,wpAny_pure h⟩))) htake)
  | exact wpAny_bind (wpAny_bind (m:=Builtin.Tuple.tupleExact _) (wpAny_newObj_type (wpAny_pure (wpAny_pure ⟨_,rfl,wpAny_pure h⟩)) htake))
  | exact wpAny_bind (wpAny_bind (m:=Builtin.Tuple.tupleExact _) (wpAny_newObj_type (wpAny_pure ⟨_,rfl,wpAny_pure h⟩) htake))
end
end HT
namespace L2
open PySem PySem.Spec PyProof.Rows
abbrev TO:=St->Hp->(Option Int->Hp->Prop)->Prop
def PO (X:Cx) (e:Option Expr) (t:TO):Prop:=
 ∀ (pins:List (Addr×Obj)) (s:Shared) (σ:St) (H:Hp) (Q:Option Int->Hp->Prop),aA X pins σ H s->t σ H Q->
  wpAny (model X.prog X.w) X.A (evalPart e X.env) (fun u s'=>∃ o H',aA X pins σ H' s'/\IsPart u o/\Q o H') X.xe s
def CT:TO:=fun _ H Q=>Q none H
def IP (t:TE):TO:=fun σ H Q=>t σ H fun x H1=>∃ i,x=.int i/\Q (some i) H1
theorem wv {ns:List Int}:∀ {us:List Value},aL (ns.map V.int) us->IntsAre us ns:=by
 induction ns with
 | nil=>intro us r; rw [List.map_nil] at r; cases r; exact .nil
 | cons n ns ih=>
  intro us r
  rw [List.map_cons] at r
  cases r with
  | cons r1 r2=>
   obtain⟨t,e⟩:=r1
   subst e
   exact .cons n t (ih r2)
section
variable {X:Cx} {e:Expr} {te:TE} {lo hi:Option Expr} {tl th:TO} {pos p2:Pos}
theorem Ee:PO X none CT:=by
 intro pins s σ H Q I h
 rw [evalPart_none]
 exact wpAny_pure ⟨none,H,I,.none,h⟩
theorem C0 (h:PE X e te):PO X (some e) (IP te):=by
 intro pins s σ H Q I hw
 rw [evalPart_some]
 refine bL (h pins s σ H _ I hw) fun u s1 ⟨x,H1,I1,r1,q1⟩=>?_
 obtain⟨i,rfl,q⟩:=q1
 obtain⟨t,rfl⟩:=r1
 exact⟨some i,H1,I1,.int i t,q⟩
def EX (X:Cx) (r:V->Option Int->Option Int->Hp->VK->Prop):Prop:=
 ∀ (pins:List (Addr×Obj)) (s:Shared) (σ:St) (H:Hp) (x:V) (v vl vu:Value) (lo hi:Option Int) (sl:Addr) (Q:VK),aA X pins σ H s->aF x v->s.heap.IsSliceOf sl vl vu .none->IsPart vl lo->IsPart vu hi->r x lo hi H Q->
  ∃ T id,typeLookup (.type T) "__getitem__"=pure (some (.builtin id))/\s.TypeIs v T/\wpAny (model X.prog X.w) X.A (getItem v (.ref sl)) (EP X pins σ Q) X.xe s
theorem EX.or {r r':V->Option Int->Option Int->Hp->VK->Prop} (h:EX X r) (h':EX X r'):EX X (fun x lo hi H Q=>r x lo hi H Q\/r' x lo hi H Q):=by
 intro pins s σ H x v vl vu lo hi sl Q I rx hs pl pu q
 rcases q with q | q
 ·exact h pins s σ H x v vl vu lo hi sl Q I rx hs pl pu q
 ·exact h' pins s σ H x v vl vu lo hi sl Q I rx hs pl pu q
def LQ (r:V->Option Int->Option Int->Hp->VK->Prop) (te:TE) (tl th:TO):TE:=fun σ H Q=>te σ H fun x H1=>tl σ H1 fun l H2=>th σ H2 fun u H3=>r x l u H3 Q
theorem AH {r:V->Option Int->Option Int->Hp->VK->Prop} (hr:EX X r) (he:PE X e te) (hl:PO X lo tl) (hu:PO X hi th):PE X (.Subscript e (.Slice lo hi none p2) pos) (LQ r te tl th):=by
 intro pins s σ H Q I h
 refine Subscript_ (bL (he pins s σ H _ I h) fun v s1 ⟨x,H1,I1,r1,q1⟩=>?_)
 refine wpAny_Slice (bL (hl pins s1 σ H1 _ I1 q1) fun vl s2 ⟨l,H2,I2,pl,q2⟩=>bL (hu pins s2 σ H2 _ I2 q2) fun vu s3 ⟨u,H3,I3,pu,q3⟩=>?_)
 rw [evalPart_none]
 refine wpAny_pure ?_
 have I4:aA X pins σ H3 {s3 with heap:=s3.heap.push {cls:=.type "slice",data:=.fields #[vl,vu,.none]}}:=I3.kept (t':=s3.toks) fun b ob q=>Heap.get?_push_of_some _ q
 obtain⟨T,id,hT,ht,hg⟩:=hr pins {s3 with heap:=s3.heap.push {cls:=.type "slice",data:=.fields #[vl,vu,.none]}} σ H3 x v vl vu l u s3.heap.objs.size Q I4 r1 (Heap.IsSliceOf.new ..) pl pu q3
 show wpAny (model X.prog X.w) X.A (subscriptTail e (.Slice lo hi none p2) v (.ref s3.heap.objs.size)) (EP X pins σ Q) X.xe {s3 with heap:=s3.heap.push {cls:=.type "slice",data:=.fields #[vl,vu,.none]}}
 exact tail_any (ops:=[.ref s3.heap.objs.size,v]) ht hT hg (by with_unfolding_all rfl)
def qQ (xs:List V) (lo hi:Option Int):List V:=(xs.drop (HT.eu xs.length 0 lo)).take (HT.eu xs.length xs.length hi - HT.eu xs.length 0 lo)
theorem oz (xs:List V) (lo hi:Option Int):(qQ xs lo hi).length<=xs.length:=by
 unfold qQ
 rw [List.length_take,List.length_drop]
 omega
def Ks (K:PySem.W.Frag):V->Option Int->Option Int->Hp->VK->Prop:=fun x lo hi H Q=>∃ a xs,x=.ref a/\ka K H a xs/\
 ¬ (HT.eu xs.length 0 lo=0/\HT.eu xs.length xs.length hi=xs.length)/\∀ p,H p=none->Q (.ref p) (bJ H p (.tup (qQ xs lo hi)))
theorem Hb:EX X (Ks X.K):=by
 intro pins s σ H x v vl vu lo hi sl Q I rx hs pl pu h
 obtain⟨a,xs,rfl,hx,hw,q⟩:=h
 cases rx
 obtain⟨its,r,ht,hz⟩:=I.tuple hx
 have hlen:its.toArray.size=xs.length:=by rw [List.size_toArray]; exact r.length.symm
 refine⟨"tuple",_,PyProof.Rows.slot_tuple_getitem.lookup,ht.typeIs,?_⟩
 refine HT.mU ht hs pl pu (by rw [hlen]; exact hw) ?_ (by rw [hlen]; exact hz)
 rw [hlen]
 refine⟨.ref s.heap.objs.size,_,I.laid (t':=s.toks) (o:=.tup (qQ xs lo hi)) (fun b ob q=>Heap.get?_push_of_some _ q) (Nat.le_refl _) ?_,rfl,q _ (I.hok.fresh (Nat.le_refl _))⟩
 exact⟨Nat.le_trans (oz xs lo hi) hz,_,(r.drop (HT.eu xs.length 0 lo)).take (HT.eu xs.length xs.length hi - HT.eu xs.length 0 lo),IsTup.new _ _⟩
def IV (K:PySem.W.Frag):R2:=fun x y H Q=>∃ a b xs ys,x=.ref a/\y=.ref b/\ka K H a xs/\ka K H b ys/\xs≠[]/\xs.length+ys.length<=sizeLine/\
 (ys=[]->Q (.ref a) H)/\(ys≠[]->∀ p,H p=none->Q (.ref p) (bJ H p (.tup (xs++ys))))
theorem aL.nil_iff {xs:List V} {us:List Value} (r:aL xs us):us=[]↔xs=[]:=by
 cases r with
 | nil=>simp
 | cons _ _=>simp
theorem xD:fH X (binaryOp .Add) (IV X.K):=by
 intro pins s σ H x y v u Q I rx ry h
 obtain⟨a,b,xs,ys,rfl,rfl,ha,hb,hx,hz,q1,q2⟩:=h
 cases rx
 cases ry
 obtain⟨its,r1,p1,_⟩:=I.tuple ha
 obtain⟨its2,r2,p2,_⟩:=I.tuple hb
 refine HT.Ev p1 p2 (fun z=>hx (r1.nil_iff.mp z)) (fun z=>⟨.ref a,H,I,rfl,q1 (r2.nil_iff.mp z)⟩) (fun z=>?_) (by rw [<- r1.length,<- r2.length]; exact hz)
 refine⟨.ref s.heap.objs.size,_,I.laid (t':=s.toks) (o:=.tup (xs++ys)) (fun b ob q=>Heap.get?_push_of_some _ q) (Nat.le_refl _) ?_,rfl,q2 (fun w=>z (r2.nil_iff.mpr w)) _ (I.hok.fresh (Nat.le_refl _))⟩
 exact⟨by rw [List.length_append]; exact hz,_,r1.append r2,IsTup.new _ _⟩
end
def AA (n:Nat) (i:Int):Option Nat:=if 0<=i then(if i < n then some i.toNat else none) else if -(n:Int)<=i then some (i+n).toNat else none
def atI {α:Type} (xs:List α) (i:Int):Option α:=(AA xs.length i).bind fun j=>xs[j]?
theorem xg {n:Nat} {i:Int} {j:Nat} (h:AA n i=some j):seqIndex? i n=some j/\j < n/\-(n:Int)<=i/\i < n:=by
 unfold AA at h
 by_cases h0:0<=i
 ·rw [if_pos h0] at h
  by_cases h1:i < n
  ·rw [if_pos h1] at h
   have e:i.toNat=j:=Option.some.inj h
   exact⟨by rw [seqIndex_of h0 h1,e],by omega,by omega,h1⟩
  ·rw [if_neg h1] at h; cases h
 ·rw [if_neg h0] at h
  by_cases h1:-(n:Int)<=i
  ·rw [if_pos h1] at h
   have e:(i+n).toNat=j:=Option.some.inj h
   exact⟨by rw [seqIndex_neg (by omega) h1,e],by omega,h1,by omega⟩
  ·rw [if_neg h1] at h; cases h
theorem wT {α:Type} {xs:List α} {i:Int} {v:α} (h:atI xs i=some v):∃ j,seqIndex? i xs.length=some j/\xs[j]?=some v/\j < xs.length/\-(xs.length:Int)<=i/\i < xs.length:=by
 unfold atI at h
 cases e:AA xs.length i with
 | none=>rw [e] at h; cases h
 | some j=>
  rw [e] at h
  obtain⟨h1,h2,h3,h4⟩:=xg e
  exact⟨j,h1,h,h2,h3,h4⟩
theorem jv {α:Type} {xs:List α} {j:Nat} {v:α} (h:xs[j]?=some v):atI xs (j:Int)=some v:=by
 have hj:j < xs.length:=(List.getElem?_eq_some_iff.mp h).1
 have e:AA xs.length (j:Int)=some j:=by
  unfold AA
  rw [if_pos (by omega),if_pos (by omega)]; simp
 unfold atI; rw [e]; exact h
def sF (b:Expr):Prop:=∀ o i,subscripted b false o i=operate [o,i] (getItem o i)
def z6 (X:Cx) (r:R2):Prop:=
 ∀ (value slice:Expr) (pins:List (Addr×Obj)) (s:Shared) (σ:St) (H:Hp) (x y:V) (v u:Value) (Q:VK),aA X pins σ H s->aF x v->aF y u->r x y H Q->
  subscripted slice false v u=operate [v,u] (getItem v u)->wpAny (model X.prog X.w) X.A (subscriptTail value slice v u) (EP X pins σ Q) X.xe s
def K_ (X:Cx) (id:String) (r:V->List V->Hp->VK->Prop):Prop:=
 ∀ (pins:List (Addr×Obj)) (s:Shared) (σ:St) (H:Hp) (x:V) (xs:List V) (v:Value) (us:List Value) (Q:VK),aA X pins σ H s->aF x v->aL xs us->r x xs H Q->
  wpAny (model X.prog X.w) X.A (call (.builtin id) (v::us)) (EP X pins σ Q) X.xe s
section
variable {X:Cx} {a b:Expr} {ta tb:TE} {pos:Pos}
theorem JG {r:R2} (hr:z6 X r) (ha:PE X a ta) (hb:PE X b tb) (hs:sF b):PE X (.Subscript a b pos) (HY r ta tb):=by
 intro pins s σ H Q I h
 exact Subscript_ (G9 ha hb I h fun v u s2 x y H2 I2 rx ry q=>hr a b pins s2 σ H2 x y v u Q I2 rx ry q (hs _ _))
def Kq (K:PySem.W.Frag):R2:=fun x y H Q=>∃ p xs i v,x=.ref p/\y=.int i/\jf K H p xs/\atI xs i=some v/\Q v H
def KA (K:PySem.W.Frag):R2:=fun x y H Q=>∃ p xs i v,x=.ref p/\y=.int i/\ka K H p xs/\atI xs i=some v/\Q v H
theorem xA:z6 X (Kq X.K):=by
 intro value slice pins s σ H x y v u Q I rx ry h hs
 obtain⟨p,xs,i,z,rfl,rfl,hq,he,q⟩:=h
 cases rx
 obtain⟨t,rfl⟩:=ry
 obtain⟨its,r,pl,hz⟩:=I.list hq
 obtain⟨j,h1,h2,h3,h4,h5⟩:=wT he
 obtain⟨w,ew,rw'⟩:=r.get h2
 have hl:=r.length
 have hn:=ue
 have fin:EP X pins σ Q w s:=⟨z,H,I,rw',q⟩
 by_cases h0:0<=i
 ·have hj:i.toNat=j:=by
   rw [seqIndex_of h0 h5] at h1
   exact Option.some.inj h1
  exact item_listR pl.isList h0 (by omega) (by rw [hj]; simpa using ew) fin hs
 ·have hj:(i+(its.toArray.size:Int)).toNat=j:=by
   rw [seqIndex_neg (by omega) h4] at h1
   rw [List.size_toArray,<- hl]
   exact Option.some.inj h1
  exact subscriptTail_builtinR (x:=w) pl.isList.typeIs slot_list_getitem.lookup
   (wpAny_getItem_list_neg (Q:=fun r s'=>r=w/\EP X pins σ Q r s') pl.isList (by omega) (by rw [List.size_toArray] <;> omega) (by omega) (by rw [hj]; simpa using ew) ⟨rfl,fin⟩) hs
theorem FF:z6 X (KA X.K):=by
 intro value slice pins s σ H x y v u Q I rx ry h hs
 obtain⟨p,xs,i,z,rfl,rfl,hq,he,q⟩:=h
 cases rx
 obtain⟨t,rfl⟩:=ry
 obtain⟨its,r,pl,hz⟩:=I.tuple hq
 obtain⟨j,h1,h2,h3,h4,h5⟩:=wT he
 obtain⟨w,ew,rw'⟩:=r.get h2
 have hl:=r.length
 have hn:=ue
 have fin:EP X pins σ Q w s:=⟨z,H,I,rw',q⟩
 exact subscriptTail_builtinR (x:=w) pl.typeIs slot_tuple_getitem.lookup
  (getItem_tuple (j:=j) (Q:=fun r s'=>r=w/\EP X pins σ Q r s') pl (by omega) (by omega) (by rw [List.size_toArray,<- hl]; exact h1) (by simpa using ew) ⟨rfl,fin⟩) hs
theorem v9 (its:List Value) (n j:Nat) (u:Value):Obj.mapSeq (·.setIfInBounds j u) {cls:=.type "list",data:=.seq its.toArray n}={cls:=.type "list",data:=.seq (its.set j u).toArray n}:=by
 simp [Obj.mapSeq]
theorem aA.lst {pins:List (Addr×Obj)} {σ:St} {H:Hp} {s:Shared} {p:Addr} {xs:List V} (I:aA X pins σ H s) (h:H p=some (.lst xs)):
  ∃ (its:List Value) (n:Nat),aL xs its/\s.heap.get? p=some {cls:=.type "list",data:=.seq its.toArray n}/\xs.length<=sizeLine:=by
 obtain⟨z,its,n,r,e⟩:=I.hok p _ h
 exact⟨its,n,r,e,z⟩
theorem aA.lstUpd {pins:List (Addr×Obj)} {σ:St} {H:Hp} {s:Shared} {p:Addr} {xs ys:List V} {its its':List Value} {n n':Nat} {f:Obj->Obj} (I:aA X pins σ H s) (h:H p=some (.lst xs))
  (ho:s.heap.get? p=some {cls:=.type "list",data:=.seq its.toArray n}) (hf:f {cls:=.type "list",data:=.seq its.toArray n}={cls:=.type "list",data:=.seq its'.toArray n'}) (r:aL ys its') (hz:ys.length<=sizeLine) (t:Nat):
  aA X pins σ (bJ H p (.lst ys)) {s with heap:=s.heap.update p f,toks:=t}:=by
 have e:(s.heap.update p f).get? p=some {cls:=.type "list",data:=.seq its'.toArray n'}:=by
  rw [Heap.get?_update_self f ho (by rw [hf] <;> rfl),hf]
 refine I.write (x:=p) (e:=p) (by rw [h]; trivial) (.inl rfl) (fun b u hb q=>(Heap.get?_update_other _ _ (Ne.symm hb)).trans q) ⟨_,e⟩ ?_
 exact⟨hz,its',n',r,e⟩
def Ik:V->V->V->Hp->(Hp->Prop)->Prop:=fun o i v H Q=>∃ p xs k j,o=.ref p/\i=.int k/\H p=some (.lst xs)/\AA xs.length k=some j/\Q (bJ H p (.lst (xs.set j v)))
theorem Cb:DD X Ik:=by
 intro pins s σ H o i v ov iv u Q I ro ri rv h
 obtain⟨p,xs,k,j,rfl,rfl,hp,hj,q⟩:=h
 cases ro
 obtain⟨t,rfl⟩:=ri
 obtain⟨its,n,r,ho,hz⟩:=I.lst hp
 obtain⟨h1,h2,h3,h4⟩:=xg hj
 have hl:=r.length
 have hn:=ue
 have I':aA X pins σ (bJ H p (.lst (xs.set j v))) {s with heap:=s.heap.update p (Obj.mapSeq (·.setIfInBounds j u))}:=
  I.lstUpd hp ho (v9 its n j u) (r.set rv j) (by rw [List.length_set]; exact hz) s.toks
 by_cases h0:0<=k
 ·have hk:k.toNat=j:=by
   rw [seqIndex_of h0 h4] at h1
   exact Option.some.inj h1
  exact PySem.W.ki_setAt ho h0 (by omega) (by rw [List.size_toArray,<- hl]; exact h4) (by rw [hk]; exact⟨_,I',q⟩)
 ·have hk:(k+(its.toArray.size:Int)).toNat=j:=by
   rw [seqIndex_neg (by omega) h3] at h1
   rw [List.size_toArray,<- hl]
   exact Option.some.inj h1
  exact PySem.W.ki_setBack ho (by omega) (by rw [List.size_toArray,<- hl]; exact h3) (by omega) (by rw [hk]; exact⟨_,I',q⟩)
theorem tH (lo hi:Option Int) (n:Nat):(sliceBounds lo hi none n).1=((HT.eu n 0 lo:Nat):Int)/\(sliceBounds lo hi none n).2.1=((HT.eu n n hi:Nat):Int)/\(sliceBounds lo hi none n).2.2=1:=by
 refine⟨?_,?_,rfl⟩
 ·cases lo with
  | none=>simp [sliceBounds,HT.eu]
  | some i=>
   simp only [sliceBounds,HT.eu,Option.getD_none,show(1:Int) > 0 by decide,if_true]
   by_cases h:i < 0
   ·simp only [h,if_true] <;> omega
   ·simp only [h,if_false] <;> omega
 ·cases hi with
  | none=>simp [sliceBounds,HT.eu]
  | some i=>
   simp only [sliceBounds,HT.eu,Option.getD_none,show(1:Int) > 0 by decide,if_true]
   by_cases h:i < 0
   ·simp only [h,if_true] <;> omega
   ·simp only [h,if_false] <;> omega
theorem rB (its:List Value) (lo hi:Option Int):slicePick its.toArray lo hi none=((its.drop (HT.eu its.length 0 lo)).take (HT.eu its.length its.length hi - HT.eu its.length 0 lo)).toArray:=by
 obtain⟨h1,h2,h3⟩:=tH lo hi its.toArray.size
 unfold slicePick
 rw [h1,h2,h3]
 simp only [sliceRange_one,pick_run,List.size_toArray] <;> rfl
def KC (K:PySem.W.Frag):V->Option Int->Option Int->Hp->VK->Prop:=fun x lo hi H Q=>∃ a xs,x=.ref a/\jf K H a xs/\∀ p,H p=none->Q (.ref p) (bJ H p (.lst (qQ xs lo hi)))
theorem Er:EX X (KC X.K):=by
 intro pins s σ H x v vl vu lo hi sl Q I rx hs pl pu h
 obtain⟨a,xs,rfl,hx,q⟩:=h
 cases rx
 obtain⟨its,r,ht,hz⟩:=I.list hx
 have hlen:=r.length
 refine⟨"list",_,slot_list_getitem.lookup,ht.isList.typeIs,?_⟩
 refine wpAny_getItem_list_slice ht.isList hs pl pu .none (by simp) ?_ (by rw [List.size_toArray] <;> omega)
 rw [rB,<- hlen]
 refine⟨.ref s.heap.objs.size,_,I.laid (t':=s.toks) (o:=.lst (qQ xs lo hi)) (fun b ob q=>Heap.get?_push_of_some _ q) (Nat.le_refl _) ?_,rfl,q _ (I.hok.fresh (Nat.le_refl _))⟩
 exact⟨Nat.le_trans (oz xs lo hi) hz,_,0,(r.drop (HT.eu xs.length 0 lo)).take (HT.eu xs.length xs.length hi - HT.eu xs.length 0 lo),Heap.get?_push_size _ rfl⟩
theorem jQ:cA X (.builtin "len") (fun xs H Q=>∃ p ys,xs=[.ref p]/\(jf X.K H p ys\/ka X.K H p ys)/\Q (.int ys.length) H):=by
 intro pins s σ H xs us Q I r h
 obtain⟨p,ys,rfl,hq,q⟩:=h
 obtain⟨u,rfl,rx⟩:=j8 r
 cases rx
 have hn:=ue
 rcases hq with hq | hq
 ·obtain⟨its,r',pl,hz⟩:=I.list hq
  have hlen:=r'.length
  exact Calls.call_len_list pl.isList (by simp only [List.size_toArray] <;> omega) ⟨.int ys.length,H,I.tok _,⟨s.toks+1,by rw [List.size_toArray,hlen]⟩,q⟩
 ·obtain⟨its,r',pl,hz⟩:=I.tuple hq
  have hlen:=r'.length
  exact len_tuple pl (by simp only [List.size_toArray] <;> omega) ⟨.int ys.length,H,I.tok _,⟨s.toks+1,by rw [List.size_toArray,hlen]⟩,q⟩
def K8 (K:PySem.W.Frag) (T:String) (x:V) (H:Hp):Prop:=match x with
 | .str _=>T="str"
 | .int _=>T="int"
 | .ref p=>(T="list"/\∃ xs,jf K H p xs)\/(T="tuple"/\∃ o,K.lookup p=some o/\o.cls=.type "tuple"/\o.dict=none)\/
   (T="dict"/\((∃ kvs,H p=some (.dK kvs))\/∃ kvs,H p=some (.dT kvs)))\/(T="set"/\∃ S n,H p=some (.set S n))
 | _=>False
theorem zK {pins:List (Addr×Obj)} {σ:St} {H:Hp} {s:Shared} {T:String} {x:V} {v:Value} (I:aA X pins σ H s) (r:aF x v) (ty:K8 X.K T x H):
  s.TypeIs v T/\∀ a,v=.ref a->∃ ob,s.heap.get? a=some ob/\ob.dict=none:=by
 cases x with
 | str z=>
  obtain⟨t,rfl⟩:=r
  cases (show T="str" from ty)
  exact⟨typeIs_str s z t,fun _ e=>nomatch e⟩
 | int i=>
  obtain⟨t,rfl⟩:=r
  cases (show T="int" from ty)
  exact⟨typeIs_int s i t,fun _ e=>nomatch e⟩
 | ref p=>
  cases r
  rcases ty with ⟨rfl,xs,hq⟩ | ⟨rfl,o,hk,hc,hd⟩ | ⟨rfl,hk⟩ | ⟨rfl,S,n,hk⟩
  ·obtain⟨its,_,pl,_⟩:=I.list hq
   refine⟨pl.isList.typeIs,fun a e=>?_⟩
   cases e
   obtain⟨o,n,e,c,hd,_⟩:=pl
   exact⟨o,e,hd⟩
  ·refine⟨⟨o,I.kIn p o hk,hc⟩,fun a e=>?_⟩
   cases e
   exact⟨o,I.kIn _ o hk,hd⟩
  ·have z:∃ o,s.heap.get? p=some o/\o.ExactDict:=by
    rcases hk with ⟨kvs,hk⟩ | ⟨kvs,hk⟩
    ·obtain⟨_,_,_,_,o,_,_,e,ex,_⟩:=I.hok p _ hk
     exact⟨o,e,ex⟩
    ·obtain⟨_,_,_,_,o,_,_,e,ex,_⟩:=I.hok p _ hk
     exact⟨o,e,ex⟩
   obtain⟨o,e,ex⟩:=z
   refine⟨⟨o,e,ex.1⟩,fun a e2=>?_⟩
   cases e2
   exact⟨o,e,ex.2.1⟩
  ·obtain⟨o,_,_,_,e,ex,_⟩:=I.hok p _ hk
   refine⟨⟨o,e,ex.1⟩,fun a e2=>?_⟩
   cases e2
   exact⟨o,e,ex.2.1⟩
 | _=>exact False.elim ty
def KP (K:PySem.W.Frag) (T:String) (r:V->List V->Hp->VK->Prop) (to:TE):TE:=fun σ H Q=>to σ H fun x H1=>K8 K T x H1/\r x [] H1 Q
def Lq (K:PySem.W.Frag) (T:String) (r:V->List V->Hp->VK->Prop) (to:TE) (t:TA):TE:=fun σ H Q=>to σ H fun x H1=>K8 K T x H1/\t σ H1 fun xs H2=>r x xs H2 Q
variable {o e:Expr} {es:List Expr} {to:TE} {t:TA} {name:Str} {apos cpos:Pos} {T id:String} {r:V->List V->Hp->VK->Prop}
theorem F8 (pa:PlainAttrs T) (slot:Slot T name id) (hty:typeOf (.builtin id)=pure (.type "method_descriptor")) (hm:K_ X id r) (ho:PE X o to)
  (hbase:attributeBase o name X.env (eval o X.env)=eval o X.env:=by rfl) (hline:(apos.endLine == cpos.line)=true:=by rfl):PE X (.Call (.Attribute o name apos) [] [] cpos) (KP X.K T r to):=by
 intro pins s σ H Q I h
 refine wpAny_Call_method0_late hbase hline (bL (ho pins s σ H _ I h) fun v s1 ⟨x,H1,I1,r1,ty,q1⟩=>?_)
 obtain⟨h1,h2⟩:=zK I1 r1 ty
 exact⟨T,id,pa,slot,hty,h1,h2,Calls.callWith_builtin rfl (PySem.evalArgs_none (hm pins s1 σ H1 x [] v [] Q I1 r1 .nil q1))⟩
theorem JE (pa:PlainAttrs T) (slot:Slot T name id) (hty:typeOf (.builtin id)=pure (.type "method_descriptor")) (hm:K_ X id r) (ho:PE X o to) (ha:PA X (e::es) t)
  (hbase:attributeBase o name X.env (eval o X.env)=eval o X.env:=by rfl)
  (hfew:((backTo cpos (starEach (e::es) X.env)).all (fun x=>!x.1) && (backToKw cpos (keywordEach [] X.env)).all (fun x=>x.1.isSome)
   && decide ((e::es).length+([]:List Keyword).length+(if ([]:List Keyword).isEmpty then 0 else 1) < 30))=true:=by rfl)
  (hline:(apos.endLine == cpos.line)=true:=by rfl) (hs:starEach (e::es) X.env=(false,eval e X.env)::starEach es X.env:=by rfl) (hplain:(backTo cpos (starEach es X.env)).any (·.1)=false:=by rfl):
  PE X (.Call (.Attribute o name apos) (e::es) [] cpos) (Lq X.K T r to t):=by
 intro pins s σ H Q I h
 refine wpAny_Call_method_late hbase hfew hline rfl (bL (ho pins s σ H _ I h) fun v s1 ⟨x,H1,I1,r1,ty,q1⟩=>?_)
 obtain⟨h1,h2⟩:=zK I1 r1 ty
 refine⟨T,id,pa,slot,hty,h1,h2,?_⟩
 have hA:=ha cpos pins s1 σ H1 _ I1 q1
 rw [hs] at hA ⊢
 refine Calls.callWith_builtin (by show(false || (backTo cpos (starEach es X.env)).any (·.1))=false; rw [hplain] <;> rfl) (Calls.evalArgs_plain ?_)
 exact bL hA fun us s2 ⟨vs,H2,I2,r2,q2⟩=>hm pins s2 σ H2 x vs v us Q I2 r1 r2 q2
end
def LI (X:Cx) (id:String) (r:V->List V->Hp->VK->Prop):Prop:=
 ∀ (pins:List (Addr×Obj)) (s:Shared) (σ:St) (H:Hp) (x:V) (xs:List V) (v:Value) (us:List Value) (Q:VK),aA X pins σ H s->aF x v->aL xs us->r x xs H Q->
  wpAny (model X.prog X.w) X.A (call (.builtin id) (v::us)) (EP X pins σ Q) X.xe s
theorem aL.one:∀ {x:V} {us:List Value},aL [x] us->∃ u,us=[u]/\aF x u
 | _,_,.cons r .nil=>⟨_,rfl,r⟩
theorem aL.rep {xs:List V} {us:List Value} (h:aL xs us):∀ k:Nat,aL (List.replicate k xs).flatten (List.replicate k us).flatten
 | 0=>.nil
 | k+1=>by
  rw [List.replicate_succ,List.replicate_succ,List.flatten_cons,List.flatten_cons]
  exact aL.append h (aL.rep h k)
theorem si (its:List Value):∀ (k:Nat) (acc:List Value),
  List.foldl (fun x1 x2=>x1++x2) acc.toArray (List.replicate k its.toArray)=(acc++(List.replicate k its).flatten).toArray
 | 0,acc=>by simp
 | k+1,acc=>by
  have e:acc.toArray++its.toArray=(acc++its).toArray:=by simp
  have e2:(acc++its)++(List.replicate k its).flatten=acc++(List.replicate (k+1) its).flatten:=by
   rw [List.replicate_succ,List.flatten_cons,List.append_assoc]
  rw [<- e2,<- si its k (acc++its),<- e,List.replicate_succ,List.foldl_cons]
section
variable {X:Cx} {pins:List (Addr×Obj)} {σ:St} {H:Hp} {s:Shared} {l b:Addr} {xs ys zs:List V}
theorem aA.lset {its its':List Value} {n:Nat} {f:Array Value->Array Value} {t':Nat} (I:aA X pins σ H s) (hH:H l=some (.lst xs))
  (e:s.heap.get? l=some {cls:=.type "list",data:=.seq its.toArray n}) (hf:f its.toArray=its'.toArray) (hv:aL ys its') (hz:ys.length<=sizeLine):
  aA X pins σ (bJ H l (.lst ys)) {s with heap:=s.heap.update l (Obj.mapSeq f),toks:=t'}:=by
 have q:=PySem.IsL.update e f
 rw [hf] at q
 refine I.write (x:=l) (e:=l) (by rw [hH]; exact trivial) (.inl rfl) (fun b' u hb hu=>(Heap.get?_update_other s.heap (Obj.mapSeq f) (Ne.symm hb)).trans hu) ⟨_,q⟩ ?_
 exact⟨hz,its',_,hv,q⟩
theorem aA.lnew {its:List Value} {t':Nat} (I:aA X pins σ H s) (hv:aL ys its) (hz:ys.length<=sizeLine):
  aA X pins σ (bJ H s.heap.objs.size (.lst ys)) {s with heap:=s.heap.push {cls:=.type "list",data:=.seq its.toArray},toks:=t'}:=
 I.laid (fun _ _ q=>Heap.get?_push_of_some _ q) (Nat.le_refl _) ⟨hz,its,0,hv,Heap.get?_push_size _ rfl⟩
theorem aA.fresh (I:aA X pins σ H s):H s.heap.objs.size=none:=I.hok.fresh (Nat.le_refl _)
theorem aA.lstM (I:aA X pins σ H s) (hH:H l=some (.lst xs)):xs.length<=sizeLine/\∃ (its:List Value) (n:Nat),aL xs its/\xs.length=its.length/\s.heap.get? l=some {cls:=.type "list",data:=.seq its.toArray n}:=by
 obtain⟨z,its,n,r,e⟩:=I.hok l _ hH
 exact⟨z,its,n,r,r.length,e⟩
theorem Bg {n:Nat} (h:n<=sizeLine):Builtin.List.listTooLong n=false:=by
 unfold Builtin.List.listTooLong
 exact decide_eq_false (by omega)
end
section
variable {X:Cx}
def Du:V->List V->Hp->VK->Prop:=fun x vs H Q=>∃ l xs y,x=.ref l/\vs=[y]/\H l=some (.lst xs)/\xs.length < sizeLine/\Q .non (bJ H l (.lst (xs++[y])))
theorem lv:LI X "list.append" Du:=by
 intro pins s σ H x vs v us Q I rx rv h
 obtain⟨l,xs,y,rfl,rfl,hH,hz,q⟩:=h
 cases rx
 obtain⟨u,rfl,ru⟩:=rv.one
 obtain⟨z,its,n,r,hl,e⟩:=I.lstM hH
 refine call_meets F.slot_list_append ⟨_,e,rfl⟩ F.entry_list_append (F.args_list_append_2 _ _) (PySem.list_append l its.toArray n u (by rw [List.size_toArray]; omega)) ⟨e,?_⟩
 refine⟨.non,_,I.lset (its':=its++[u]) hH e (by simp) (r.append (.cons ru .nil)) ?_,rfl,q⟩
 rw [List.length_append,List.length_singleton]
 omega
def Kk:R2:=fun x y H Q=>∃ l b xs zs,x=.ref l/\y=.ref b/\H l=some (.lst xs)/\H b=some (.lst zs)/\xs.length+zs.length<=sizeLine/\∀ p,H p=none->Q (.ref p) (bJ H p (.lst (xs++zs)))
theorem F9:fH X (binaryOp .Add) Kk:=by
 intro pins s σ H x y v u Q I rx ry h
 obtain⟨l,b,xs,zs,rfl,rfl,hH,hB,hz,q⟩:=h
 cases rx
 cases ry
 obtain⟨z,its,n,r,hl,e⟩:=I.lstM hH
 obtain⟨z2,its2,n2,r2,hl2,e2⟩:=I.lstM hB
 refine PySem.P.add_list e e2 ?_ (by rw [List.size_toArray,List.size_toArray]; omega)
 have ea:its.toArray++its2.toArray=(its++its2).toArray:=by simp
 rw [ea]
 exact⟨.ref _,_,I.lnew (t':=s.toks) (r.append r2) (by rw [List.length_append]; omega),rfl,q _ I.fresh⟩
def KW:R2:=fun x y H Q=>∃ l k xs,x=.ref l/\y=.int k/\H l=some (.lst xs)/\-(2 ^ 63)<=k/\k < 2 ^ 63/\xs.length*k.toNat<=sizeLine/\
 ∀ p,H p=none->Q (.ref p) (bJ H p (.lst (List.replicate k.toNat xs).flatten))
theorem D0 {α:Type} (xs:List α) (k:Nat):(List.replicate k xs).flatten.length=k*xs.length:=by
 induction k with
 | zero=>simp
 | succ k ih=>rw [List.replicate_succ,List.flatten_cons,List.length_append,ih,Nat.succ_mul,Nat.add_comm]
theorem Gg:fH X (binaryOp .Mult) KW:=by
 intro pins s σ H x y v u Q I rx ry h
 obtain⟨l,k,xs,rfl,rfl,hH,h1,h2,hz,q⟩:=h
 cases rx
 obtain⟨t,rfl⟩:=ry
 obtain⟨z,its,n,r,hl,e⟩:=I.lstM hH
 have hlen:its.toArray.size*k.toNat<=sizeLine:=by rw [List.size_toArray,<- hl]; exact hz
 have hcap:¬ its.toArray.size*k.toNat > (2 ^ 63 - 1) / 8:=by
  have:(sizeLine:Nat)<=(2 ^ 63 - 1) / 8:=by decide
  omega
 have hfit:¬ (!Builtin.List.listFitsIndex k)=true:=by
  rw [fitsIndex_both h1 h2]
  exact Bool.false_ne_true
 have hlong:¬ Builtin.List.listTooLong (its.toArray.size*k.toNat)=true:=by
  rw [Bg hlen]
  exact Bool.false_ne_true
 have hnew:List.foldl (fun x1 x2=>x1++x2) #[] (List.replicate (if its.toArray.isEmpty=true then 0 else k.toNat) its.toArray)=(List.replicate k.toNat its).flatten.toArray:=by
  have f0:∀ m:Nat,List.foldl (fun x1 x2=>x1++x2) #[] (List.replicate m its.toArray)=(List.replicate m its).flatten.toArray:=fun m=>by
   have:=si its m []
   rw [List.nil_append] at this
   exact this
  rw [f0]
  cases its with
  | nil=>simp
  | cons a r'=>rw [if_neg (by simp)]
 refine wpAny_binaryOp_repeat_ref (T:="list") (U:="int") (by decide) ⟨_,e,rfl⟩ (fun s'=>typeIs_int s' k t) noFill_list_mul F.fills_int_mul F.slot_int_rmul repeat_list F.slot_int_index.lookup
  (call_meets F.slot_int_rmul (typeIs_int s k t) F.entry_int_rmul (F.args_int_rmul_2 _ _) (int___rmul___int_list k t l its.toArray n)
   ⟨e,rfl,⟨_,e,rfl⟩,call_meets F.slot_list_mul ⟨_,e,rfl⟩ F.entry_list_mul (F.args_list_mul_2 _ _) (AutoListH.list___mul___list_int_3 l its.toArray n k t hfit hcap hlong) ⟨e,?_⟩⟩)
 rw [hnew]
 exact⟨.ref _,_,I.lnew (t':=s.toks) (r.rep k.toNat) (by rw [D0,Nat.mul_comm]; exact hz),rfl,q _ I.fresh⟩
end
section
variable {κ:Type} [DecidableEq κ]
def oF (kvs:List (κ×V)) (k:κ):Option V:=(kvs.find? fun kv=>decide (kv.1=k)).map (·.2)
def md (kvs:List (κ×V)) (k:κ) (v:V):List (κ×V):=
 if (kvs.any fun kv=>decide (kv.1=k))=true then kvs.map (fun kv=>if kv.1=k then(kv.1,v) else kv) else kvs++[(k,v)]
theorem mG {p:κ×V} {r:List (κ×V)} {k:κ} (e:p.1=k):oF (p::r) k=some p.2:=by simp [oF,List.find?_cons,e]
theorem mL {p:κ×V} {r:List (κ×V)} {k:κ} (e:¬ p.1=k):oF (p::r) k=oF r k:=by simp [oF,List.find?_cons,e]
theorem uG (k:κ):∀ kvs:List (κ×V),(kvs.any fun kv=>decide (kv.1=k))=(oF kvs k).isSome
 | []=>rfl
 | p::r=>by
  rw [List.any_cons]
  by_cases e:p.1=k
  ·simp only [mG e,decide_eq_true e,Bool.true_or,Option.isSome_some]
  ·rw [mL e,decide_eq_false e,Bool.false_or]; exact uG k r
theorem oq (kvs:List (κ×V)) (k:κ) (v:V):(md kvs k v).length<=kvs.length+1:=by
 unfold md
 split
 ·rw [List.length_map]; omega
 ·rw [List.length_append,List.length_cons,List.length_nil]; omega
theorem qW.isSome_eq {o:Option V} {u:Option Value} (r:qW o u):o.isSome=u.isSome:=by
 cases o with
 | none=>cases u with
  | none=>rfl
  | some _=>exact(show False from r).elim
 | some _=>cases u with
  | none=>exact(show False from r).elim
  | some _=>rfl
theorem KV.val {kvs:List (κ×V)} {vs:List (κ×Value)} (r:KV kvs vs) (k:κ):qW (oF kvs k) (valueAt vs k):=by
 unfold KV at r
 induction r with
 | nil=>exact True.intro
 | @cons p q ps qs h t ih=>
  obtain⟨h1,h2⟩:=h
  by_cases e:p.1=k
  ·have e':q.1=k:=h1.symm.trans e
   have b:valueAt (q::qs) k=some q.2:=by simp [valueAt,List.find?_cons,e']
   rw [mG e,b]; exact h2
  ·have e':¬ q.1=k:=fun z=>e (h1.trans z)
   have b:valueAt (q::qs) k=valueAt qs k:=by simp [valueAt,List.find?_cons,e']
   rw [mL e,b]; exact ih
theorem KV.any {kvs:List (κ×V)} {vs:List (κ×Value)} (r:KV kvs vs) (k:κ):(kvs.any fun kv=>decide (kv.1=k))=vs.any fun kv=>decide (kv.1=k):=by
 unfold KV at r
 induction r with
 | nil=>rfl
 | cons h t ih=>rw [List.any_cons,List.any_cons,ih,h.1]
theorem KV.repl {kvs:List (κ×V)} {vs:List (κ×Value)} (r:KV kvs vs) (k:κ) {y:V} {u:Value} (ry:aF y u):
  KV (kvs.map fun kv=>if kv.1=k then(kv.1,y) else kv) (vs.map fun kv=>if kv.1=k then(kv.1,u) else kv):=by
 unfold KV at r ⊢
 induction r with
 | nil=>exact .nil
 | @cons p q ps qs h t ih=>
  rw [List.map_cons,List.map_cons]
  refine .cons ?_ ih
  obtain⟨h1,h2⟩:=h
  by_cases e:p.1=k
  ·rw [if_pos e,if_pos (h1.symm.trans e)]; exact⟨h1,ry⟩
  ·rw [if_neg e,if_neg (fun z=>e (h1.trans z))]; exact⟨h1,h2⟩
theorem KV.put {kvs:List (κ×V)} {vs:List (κ×Value)} (r:KV kvs vs) (k:κ) {y:V} {u:Value} (ry:aF y u):KV (md kvs k y) (stored vs k u):=by
 unfold md stored
 rw [r.any k]
 by_cases e:(vs.any fun kv=>decide (kv.1=k))=true
 ·rw [if_pos e,if_pos e]; exact r.repl k ry
 ·rw [if_neg e,if_neg e]; exact Paired.snoc r ⟨rfl,ry⟩
theorem KV.length {kvs:List (κ×V)} {vs:List (κ×Value)} (r:KV kvs vs):kvs.length=vs.length:=Paired.length r
end
theorem CH {P:Program} {w:World} {k:dG} {u:Value} (r:aF (kV k) u):(dX P w).is k u=true:=by
 cases k with
 | inl i=>obtain⟨t,e⟩:=(show ∃ t,u=Value.int i t from r); subst e; exact vt P w i t
 | inr x=>obtain⟨t,e⟩:=(show ∃ t,u=Value.str x t from r); subst e; exact uE P w x t
theorem rZ {P:Program} {w:World}:∀ {ks:List dG} {us:List Value},aL (ks.map kV) us->ItemsAre (dX P w) ks us
 | [],_,r=>by rw [List.map_nil] at r; cases r; exact .nil
 | k::ks,_,r=>by
  rw [List.map_cons] at r
  cases r with
  | cons h t=>exact .cons (CH h) (rZ t)
abbrev KT (H:Hp):List (List dG×V)->List (List dG×Addr×Value)->Prop:=Paired fun p q=>p.1=q.1/\H q.2.1=some (.tup (p.1.map kV))/\aF p.2 q.2.2
theorem KT.val {H:Hp} {kvs:List (List dG×V)} {xs:List (List dG×Addr×Value)} (r:KT H kvs xs) (k:List dG):qW (oF kvs k) ((atKey xs k).map (·.2)):=by
 induction r with
 | nil=>exact True.intro
 | @cons p q ps qs h t ih=>
  obtain⟨h1,_,h2⟩:=h
  by_cases e:p.1=k
  ·have e':q.1=k:=h1.symm.trans e
   have b:atKey (q::qs) k=some q.2:=by simp [atKey,List.find?_cons,e']
   rw [mG e,b]; exact h2
  ·have e':¬ q.1=k:=fun z=>e (h1.trans z)
   have b:atKey (q::qs) k=atKey qs k:=by simp [atKey,List.find?_cons,e']
   rw [mL e,b]; exact ih
theorem KT.repl {H:Hp} {kvs:List (List dG×V)} {xs:List (List dG×Addr×Value)} (r:KT H kvs xs) (k:List dG) {y:V} {u:Value} (ry:aF y u):
  KT H (kvs.map fun kv=>if kv.1=k then(kv.1,y) else kv) (xs.map (putAt k u)):=by
 induction r with
 | nil=>exact .nil
 | @cons p q ps qs h t ih=>
  rw [List.map_cons,List.map_cons]
  refine .cons ?_ ih
  obtain⟨h1,h2,h3⟩:=h
  unfold putAt
  by_cases e:p.1=k
  ·rw [if_pos e,if_pos (h1.symm.trans e)]; exact⟨h1,h2,ry⟩
  ·rw [if_neg e,if_neg (fun z=>e (h1.trans z))]; exact⟨h1,h2,h3⟩
theorem KT.put {H:Hp} {kvs:List (List dG×V)} {xs:List (List dG×Addr×Value)} (r:KT H kvs xs) (k:List dG) {b:Addr} {y:V} {u:Value} (hb:H b=some (.tup (k.map kV))) (ry:aF y u):
  KT H (md kvs k y) (storedH xs k b u):=by
 have e:(kvs.any fun kv=>decide (kv.1=k))=(atKey xs k).isSome:=by
  rw [uG,(r.val k).isSome_eq,Option.isSome_map]
 unfold md storedH
 rw [e]
 by_cases q:(atKey xs k).isSome=true
 ·rw [if_pos q,if_pos q]; exact r.repl k ry
 ·rw [if_neg q,if_neg q]; exact Paired.snoc r ⟨rfl,hb,ry⟩
theorem KT.keeps {H H':Hp} {kvs:List (List dG×V)} {xs:List (List dG×Addr×Value)} (r:KT H kvs xs) (ht:∀ b ys,H b=some (.tup ys)->H' b=some (.tup ys)):KT H' kvs xs:=
 Paired.mapP r fun _ _ z=>⟨z.1,ht _ _ z.2.1,z.2.2⟩
section
variable {P:Program} {w:World} {H:Hp} {h:Heap} {a:Addr}
theorem EH {u:HO} (ok:lF P w H h) (e:Rd H a u):dE P w H h a u:=e.ok ok
theorem zS {kvs:List (dG×V)} (ok:lF P w H h) (e:Rd H a (.dK kvs)):kvs.length<=sizeLine/\(a == sysModules)=false/\∃ vs,KV kvs vs/\h.DictOf (dX P w) a vs:=
 show dE P w H h a (.dK kvs) from EH ok e
theorem Io {kvs:List (dG×V)} (ok:lF P w H h) (e:H a=some (.dK kvs)):kvs.length<=sizeLine/\(a == sysModules)=false/\∃ vs,KV kvs vs/\h.DictOf (dX P w) a vs:=zS ok (.inl e)
theorem vE {ks:List dG} (ok:lF P w H h) (e:H a=some (.tup (ks.map kV))):(tupleKind (dX P w)).is h ks a:=by
 obtain⟨_,its,r,o,h1,h2,n,h3⟩:=(show dE P w H h a (.tup (ks.map kV)) from ok a _ e)
 exact⟨o,its.toArray,n,h1,h2,h3,by simpa using rZ r⟩
theorem A3 {kvs:List (List dG×V)} (ok:lF P w H h) (e:Rd H a (.dT kvs)):kvs.length<=sizeLine/\(a == sysModules)=false/\
  ∃ xs,KT H kvs xs/\h.DictOfH (tupleKind (dX P w)) a xs:=by
 obtain⟨z,y,xs,r,o,es,ep,h1,h2,h3,h4,h5⟩:=(show dE P w H h a (.dT kvs) from EH ok e)
 refine⟨z,y,xs,r,o,es,ep,h1,h2,h3,h4,fun x hx=>?_,h5⟩
 have all:∀ {l:List (List dG×V)} {m:List (List dG×Addr×Value)},KT H l m->∀ x∈m,(tupleKind (dX P w)).is h x.1 x.2.1:=by
  intro l m q
  induction q with
  | nil=>intro x hx; exact nomatch hx
  | @cons p q ps qs hq t ih=>
   intro x hx
   rcases List.mem_cons.mp hx with e | hx
   ·subst e
    exact vE ok (by rw [<- hq.1]; exact hq.2.1)
   ·exact ih x hx
 exact all r x hx
theorem Ie {kvs:List (List dG×V)} (ok:lF P w H h) (e:H a=some (.dT kvs)):kvs.length<=sizeLine/\(a == sysModules)=false/\
  ∃ xs,KT H kvs xs/\h.DictOfH (tupleKind (dX P w)) a xs:=A3 ok (.inl e)
end
def y9 (H:Hp) (a:Addr) (y:V) (r:Option V):Prop:=
 (∃ kvs k,Rd H a (.dK kvs)/\y=kV k/\r=oF kvs k)\/∃ kvs k b,Rd H a (.dT kvs)/\y=.ref b/\H b=some (.tup (k.map kV))/\r=oF kvs k
def C8 (H:Hp) (a:Addr) (y v:V) (H':Hp):Prop:=
 (∃ kvs k,H a=some (.dK kvs)/\y=kV k/\kvs.length < sizeLine/\H'=bJ H a (.dK (md kvs k v)))\/
 ∃ kvs k b,H a=some (.dT kvs)/\y=.ref b/\H b=some (.tup (k.map kV))/\kvs.length < sizeLine/\H'=bJ H a (.dT (md kvs k v))
theorem y9.k {H:Hp} {a:Addr} {kvs:List (dG×V)} {k:dG} (e:H a=some (.dK kvs)):y9 H a (kV k) (oF kvs k):=.inl ⟨kvs,k,.inl e,rfl,rfl⟩
theorem C8.k {H:Hp} {a:Addr} {kvs:List (dG×V)} {k:dG} {v:V} (e:H a=some (.dK kvs)) (hl:kvs.length < sizeLine):C8 H a (kV k) v (bJ H a (.dK (md kvs k v))):=.inl ⟨kvs,k,e,rfl,hl,rfl⟩
section
variable {X:Cx} {pins:List (Addr×Obj)} {σ:St} {H:Hp} {s:Shared} {a:Addr} {y v:V} {u r:Value} {o:Option V} {A:Around} {E:Value->Shared->Prop}
theorem aA.big (I:aA X pins σ H s):sysModules < s.heap.objs.size:=by
 have h:mainGlobals < s.heap.objs.size:=(I.mod.glob.keeps I.bk).lt
 exact Nat.lt_trans (by decide) h
theorem yT {Q:Value->Shared->Prop} (hu:A.units+1 < cLine) (I:aA X pins σ H s) (g:y9 H a y (some v)) (ry:aF y u) (h:∀ w' s',aA X pins σ H s'->aF v w'->Q w' s'):
  wpAny (model X.prog X.w) A (getItem (.ref a) u) Q E s:=by
 rcases g with ⟨kvs,k,e,ey,l⟩ | ⟨kvs,k,b,e,ey,eb,l⟩
 ·subst ey
  obtain⟨z,hd,vs,rel,dd⟩:=zS I.hok e
  obtain⟨w',hw,rw'⟩:=qW.some_of (v:=v) (o:=valueAt vs k) (by rw [l]; exact rel.val k)
  exact wpAny_getItem_of (CH ry) dd.mapOf hw (h w' _ (I.tok _) rw')
 ·subst ey
  cases (show u=Value.ref b from ry)
  obtain⟨z,hd,xs,rel,dd⟩:=A3 I.hok e
  obtain⟨w',hw,rw'⟩:=qW.some_of (v:=v) (o:=(atKey xs k).map (·.2)) (by rw [l]; exact rel.val k)
  obtain⟨p,hp,hp2⟩:=Option.map_eq_some_iff.mp hw
  refine wpAny_getItem_heap (tupleKind_room_in1 hu) (vE I.hok eb) dd hp ?_
  rw [hp2]
  exact h w' _ (I.tok _) rw'
theorem o0 {h':Heap} {t':Nat} {ob:HO} (I:aA X pins σ H s) (mu:IT (H a)) (hs:Heap.SameBut a s.heap h') (he:∃ q,h'.get? a=some q) (new:dE X.prog X.w (bJ H a ob) h' a ob):
  aA X pins σ (bJ H a ob) {s with heap:=h',toks:=t'}:=
 I.write (x:=a) (e:=a) mu (.inl rfl) (fun b q hb z=>(hs.2 b hb).trans z) he new
theorem G6 {P:Program} {w:World} {H':Hp} {h':Heap} {kvs:List (dG×V)} {vs:List (dG×Value)} (z:kvs.length<=sizeLine) (hd:(a == sysModules)=false) (rel:KV kvs vs) (dd:h'.DictOf (dX P w) a vs):
  dE P w H' h' a (.dK kvs):=⟨z,hd,vs,rel,dd⟩
theorem x_ {H':Hp} {Q:Unit->Shared->Prop} (hu:A.units+1 < cLine) (I:aA X pins σ H s) (g:C8 H a y v H') (ry:aF y u) (rv:aF v r) (h:∀ s',aA X pins σ H' s'->Q () s'):
  wpAny (model X.prog X.w) A (setItem (.ref a) u r) Q E s:=by
 rcases g with ⟨kvs,k,e,ey,l,eH⟩ | ⟨kvs,k,b,e,ey,eb,l,eH⟩
 ·subst ey eH
  obtain⟨z,hd,vs,rel,dd⟩:=Io I.hok e
  have hz:vs.length<=sizeLine:=by rw [<- rel.length]; exact z
  have hl:(md kvs k v).length<=sizeLine:=by have:=oq kvs k v; omega
  refine wpAny_setItem_pairs (hsz:=hz) (CH ry) dd fun h' dd' hs=>h _ ?_
  have he:∃ q,h'.get? a=some q:=let ⟨q,_,_,hq,_⟩:=dd'; ⟨q,hq⟩
  exact o0 I (by rw [e]; exact True.intro) hs he (G6 hl hd (rel.put k rv) dd')
 ·subst ey eH
  cases (show u=Value.ref b from ry)
  obtain⟨z,hd,xs,rel,dd⟩:=Ie I.hok e
  have hz:xs.length<=sizeLine:=by rw [<- Paired.length rel]; exact z
  have hl:(md kvs k v).length<=sizeLine:=by have:=oq kvs k v; omega
  refine wpAny_setItem_heap (hsz:=hz) (tupleKind_room_in1 hu) (vE I.hok eb) dd fun h' dd' hs=>h _ ?_
  obtain⟨q,es,ep,hq,h2,h3,h4,_,h5⟩:=dd'
  refine o0 I (by rw [e]; exact True.intro) hs ⟨q,hq⟩ ⟨hl,hd,_,(rel.put k eb rv).keeps fun c ys ec=>?_,q,es,ep,hq,h2,h3,h4,h5⟩
  rw [aG (IQ ec e (fun z=>nomatch z))]
  exact ec
end
def Ae (i:Expr):Prop:=∀ ov iv,subscripted i false ov iv=operate [ov,iv] (getItem ov iv)
theorem w5 {prog:Program} {w:World} {A:Around} {E:Value->Shared->Prop} {s:Shared} {env:Env} {value slice:Expr} {pos:Pos} {T id:String} {Q:Value->Shared->Prop}
  (hl:typeLookup (.type T) "__getitem__"=pure (some (.builtin id))) (hs:Ae slice)
  (h:wpAny (model prog w) A (eval value env) (fun o s₁=>wpAny (model prog w) A (eval slice env) (fun i s₂=>s₂.TypeIs o T/\wpAny (model prog w) A (getItem o i) Q E s₂) E s₁) E s):
  wpAny (model prog w) A (eval (.Subscript value slice pos) env) Q E s:=by
 refine Subscript_ (wpAny_mono h (fun o s₁ h₁=>wpAny_mono h₁ (fun i s₂ h₂=>?_) fun _ _ x=>x) fun _ _ x=>x)
 obtain⟨hT,h₂⟩:=h₂
 unfold subscriptTail
 refine wpAny_bind ?_
 rw [getitemInPython_of_ne hT.not_modules]
 refine wpAny_bind (wpAny_specialOf hT hl ?_)
 have fin:wpAny (model prog w) A (subscripted slice false o i) (fun r s₃=>wpAny (model prog w) A (letTemporaryGo value o r >>= fun _=>pure r) Q E s₃) E s₂:=by
  rw [hs o i]
  exact wpAny_operating (wpAny_mono h₂ (fun r s₃ h₃=>wpAny_bind (wpAny_letTemporaryGo (wpAny_pure h₃))) fun _ _ x=>x)
 first
  | exact wpAny_pure (wpAny_bind fin)
  | exact wpAny_bind (wpAny_pure (wpAny_bind fin))
  | exact wpAny_bind fin
theorem uL {X:Cx} {pins:List (Addr×Obj)} {σ:St} {H:Hp} {s:Shared} {a:Addr} {y:V} {o:Option V} (I:aA X pins σ H s) (g:y9 H a y o):s.TypeIs (.ref a) "dict":=by
 rcases g with ⟨kvs,k,e,_,_⟩ | ⟨kvs,k,b,e,_,_,_⟩
 ·obtain⟨_,_,vs,_,dd⟩:=zS I.hok e
  exact dd.typeIs
 ·obtain⟨_,_,xs,_,dd⟩:=A3 I.hok e
  exact dd.typeIs
def IZ (td ty:TE):TE:=fun σ H Q=>td σ H fun x H1=>ty σ H1 fun y H2=>∃ a v,x=.ref a/\y9 H2 a y (some v)/\Q v H2
section
variable {X:Cx} {o i e value:Expr} {pos pos' tpos:Pos} {td ty tv:TE}
theorem Dp (hu:X.A.units+1 < cLine) (ho:PE X o td) (hi:PE X i ty) (hs:Ae i):PE X (.Subscript o i pos) (IZ td ty):=by
 intro pins s σ H Q I h
 refine w5 PySem.F.slot_dict_getitem.lookup hs (bL (ho pins s σ H _ I h) fun u s1 ⟨x,H1,I1,rx,q1⟩=>bL (hi pins s1 σ H1 _ I1 q1) fun iv s2 ⟨y,H2,I2,ry,a,v,ex,g,q2⟩=>?_)
 subst ex
 obtain rfl:u=Value.ref a:=rx
 exact⟨uL I2 g,yT hu I2 g ry fun w' s3 I3 rw'=>⟨v,H2,I3,rw',q2⟩⟩
end
theorem zZ {P:Program} {w:World} {H:Hp} (h:Heap) (hb:sysModules < h.objs.size):dE P w H (h.push {cls:=.type "dict",data:=.dict #[]}) h.objs.size (.dK []):=
 ⟨Nat.zero_le _,beq_eq_false_iff_ne.mpr (Ne.symm (Nat.ne_of_lt hb)),[],.nil,Heap.DictOf.new h⟩
def Hi:TE:=fun _ H Q=>∀ p,H p=none->Q (.ref p) (bJ H p (.dK []))
section
variable {X:Cx} {pos:Pos}
theorem zw:PE X (.Dict [] [] pos) Hi:=fun pins s σ H Q I h=>
 wpAny_Dict_empty ⟨.ref s.heap.objs.size,_,I.laid (a:=s.heap.objs.size) (o:=.dK []) (t':=s.toks) (fun _ _ q=>Heap.get?_push_of_some _ q) (Nat.le_refl _) (zZ s.heap I.big),rfl,h _ (I.hok.fresh (Nat.le_refl _))⟩
end
def z5:List (TE×TE)->St->Hp->(List (V×V)->Hp->Prop)->Prop
 | [],_,H,Q=>Q [] H
 | (tk,tv)::r,σ,H,Q=>tk σ H fun x H1=>tv σ H1 fun y H2=>z5 r σ H2 fun ps H3=>Q ((x,y)::ps) H3
abbrev VV:List (V×V)->List (Value×Value)->Prop:=Paired fun p q=>aF p.1 q.1/\aF p.2 q.2
def tw (X:Cx) (pos:Pos) (keys:List (Option Expr)) (values:List Expr) (trs:List (TE×TE)):Prop:=
 ∀ (pins:List (Addr×Obj)) (s:Shared) (σ:St) (H:Hp) (Q:List (V×V)->Hp->Prop),aA X pins σ H s->z5 trs σ H Q->
  wpAny (model X.prog X.w) X.A (evalPairs (pairTrees keys values X.env pos)) (fun vs s'=>∃ ps H',aA X pins σ H' s'/\VV ps vs/\Q ps H') X.xe s
structure M1 (X:Cx) (o:Expr) (m:Str) (apos:Pos) (e:Expr) (cpos:Pos):Prop where
 base:attributeBase o m X.env (eval o X.env)=eval o X.env
 few:((backTo cpos (starEach [e] X.env)).all (fun x=>!x.1) && (backToKw cpos (keywordEach [] X.env)).all (fun x=>x.1.isSome)
  && decide (([e]:List Expr).length+([]:List Keyword).length+(if ([]:List Keyword).isEmpty then 0 else 1) < 30))=true
 line:(apos.endLine == cpos.line)=true
 trees:backTo cpos (starEach [e] X.env)=[(false,eval e X.env)]
structure M2 (X:Cx) (o:Expr) (m:Str) (apos:Pos) (e f:Expr) (cpos:Pos):Prop where
 base:attributeBase o m X.env (eval o X.env)=eval o X.env
 few:((backTo cpos (starEach [e,f] X.env)).all (fun x=>!x.1) && (backToKw cpos (keywordEach [] X.env)).all (fun x=>x.1.isSome)
  && decide (([e,f]:List Expr).length+([]:List Keyword).length+(if ([]:List Keyword).isEmpty then 0 else 1) < 30))=true
 line:(apos.endLine == cpos.line)=true
 trees:backTo cpos (starEach [e,f] X.env)=[(false,eval e X.env),(false,eval f X.env)]
def bZ (H:Hp) (a:Addr):Prop:=(∃ kvs,Rd H a (.dK kvs))\/∃ kvs,Rd H a (.dT kvs)
end L2
namespace Att
open PySem PySem.W PySem.Calls PyProof.Rows
theorem oG {P:Params} {h:Heap}:∀ (ns:List Int) (vs:List Value),WellAll P h vs (ns.map WData.int)->IntsAre vs ns:=by
 intro ns
 induction ns with
 | nil=>
  intro vs w
  rw [List.map_nil] at w
  cases w
  exact .nil
 | cons n ns ih=>
  intro vs w
  rw [List.map_cons] at w
  cases w with
  | cons a b=>
   cases a
   exact .cons _ _ (ih _ b)
theorem yK {l:OpenLaw} {n:Nat} (hn:l.most=some n) {P:Params} {h:Heap} {args:List WData} {vals:List Value}
  (hpre:l.row.toRowW.claim.pre args=true) (hwl:WellAll P h vals args):
  ∃ a vs ns,vals=[Value.ref a]/\args=[WData.list (ns.map WData.int)]/\h.get? a=some {cls:=.type "list",data:=.seq vs.toArray}/\IntsAre vs ns/\ns.length<=n:=by
 have hsh:WShape.hasAll [] args [.list .int]=true:=(pre_splitW hpre).1
 have hc:l.pre.holds [] {args:=args}=true:=(pre_splitW hpre).2
 obtain⟨d,r,rfl,h1,h2⟩:=hasAllW_cons hsh
 obtain rfl:=hasAllW_nil h2
 obtain⟨xs,rfl,h3⟩:=hasW_list h1
 obtain⟨ns,rfl⟩:=items_int h3
 have hlen:ns.length<=n:=by
  unfold OpenLaw.pre at hc
  have h4:(WTm.not (.lt (.lit (.int (n:Int))) (.len (.arg 0)))).holds [] {args:=[.list (ns.map .int)]}=true:=by
   have h4:=(holds_andW hc).1
   rw [hn] at h4
   exact h4
  have h5:=condW_of h4 (w_not (w_lt w_lit (w_len_list (w_arg rfl))))
  rw [List.length_map] at h5
  refine Nat.le_of_not_lt fun q=>?_
  have q':(n:Int) < ((ns.length:Nat):Int):=by omega
  first
   | (rw [decide_eq_true q'] at h5; exact absurd h5 (by decide))
   | (simp at h5; omega)
 cases hwl with
 | cons w1 w2=>
  cases w2
  cases w1 with
  | list ho hall=>exact⟨_,_,ns,rfl,rfl,ho,oG ns _ hall,hlen⟩
theorem yh (l:OpenLaw) (args:List WData):l.row.toRowW.claim.post args (.bool true) args=true:=
 postW_of (r:=l.row.toRowW) (X:=(true == true))
  (show WShape.has [] (.bool true) .bool=true by first | rfl | decide | simp [WShape.has,WShape.arms,WShape.armsAll])
  (show (WTm.eq .res (.lit (.bool true))).value [] {args:=args,res:=some (.bool true),after:=args}=some (.bool (true == true)) from w_eq_bool (w_res rfl) w_lit) rfl
theorem attach_call {l:OpenLaw} {n:Nat} {q:Program} {loose:List Str} {XP:(Str->Option Value)->Heap->Prop} {YP:World->Heap->Prop} {d:DefRec}
  (hn:l.most=some n) (hdf:d.params.defaults=[])
  (call:∀ (w:World) (s₀ s₁:Shared) (mg mb:Str->Option Value) (fa:Addr) (o:Obj) (pm cd doc:Value) (a:Addr) (vs:List Value) (ns:List Int),
   Ground q loose [] XP w s₀ mg mb s₁.heap->YP w s₁.heap->
   s₁.heap.get? fa=some o->o.data=.func (docDef d.name d.params d.body d.scope pm cd doc)->s₁.heap.CodeRec cd d.name->mg d.name=some (.ref fa)->
   s₁.heap.get? a=some {cls:=.type "list",data:=.seq vs.toArray}->IntsAre vs ns->ns.length<=n->s₁.gens=#[]->
   codeAny (model l.prog w) callerA (.call (.ref fa) ⟨[.ref a],[]⟩) (fun r s'=>r=.ok (.ret (.bool true))/\OldK s₁.heap s'.heap/\s'.os=s₁.os/\AllBare s'.gens) s₁):
  WalkO q loose XP YP l.row.toRowW d [] (fun f vs=>PySem.call f vs):=by
 intro w s₀ s₁ mg mb G Y fa o pm cd doc dV kV ho hd hcd hD hmg hg args vals as hpre hlay hrd hwl hlo
 obtain rfl:dV=.none:=Dflts.none hD hdf
 obtain rfl:kV=.none:=Dflts.noKw hD
 obtain⟨a,vs,ns,rfl,rfl,hobj,hints,hlen⟩:=yK hn hpre hwl
 refine enter_call (codeAny_mono (call w s₀ s₁ mg mb fa o pm cd doc a vs ns G Y ho (fd_plain hd) hcd hmg hobj hints hlen hg) fun r s' hq=>?_)
 obtain⟨rfl,h2,h3,h4⟩:=hq
 exact⟨.inl ⟨.bool true,.bool true,[],rfl,fun _=>rfl,.bool true,yh l _,fun _=>⟨List.Pairwise.nil,fun _ hm=>(nomatch hm)⟩⟩,h2,h3,h4⟩
section
variable {prog:Program} {w:World} {A:Around} {E:Value->Shared->Prop} {s:Shared} {K:Frag}
def KB (h:Heap) (L d:Addr):List (Addr×Obj):=(List.range h.objs.size).filterMap fun a=>if a=L\/a=d then none else(h.get? a).map fun o=>(a,o)
end
end Att
namespace L2
open PySem PySem.Spec PyProof.Rows
theorem sf:∀ {vs:List Value} {ns:List Int},IntsAre vs ns->aL (ns.map V.int) vs
 | _,_,.nil=>.nil
 | _,_,.cons n t h=>.cons ⟨t,rfl⟩ (sf h)
abbrev LY {K:PySem.W.Frag} {h:Heap} (_:K.In h):PySem.W.Frag:=K
def fx (s:Stmt):Arguments:=match s with
 | .FunctionDef _ a _ _ _ _ _ _ _ _=>a
 | _=>{posonlyargs:=[],args:=[],vararg:=none,kwonlyargs:=[],kw_defaults:=[],kwarg:=none,defaults:=[]}
def dF (s:Stmt):List Stmt:=match s with
 | .FunctionDef _ _ b _ _ _ _ _ _ _=>b
 | _=>[]
def ap (s:Stmt):Scope:=match s with
 | .FunctionDef _ _ _ _ _ _ sc _ _ _=>sc
 | _=>{kind:=.function,names:=[],isGenerator:=false,isCoroutine:=false}
abbrev cQ:CL:=fun _ _ _ _ _ _=>False
abbrev E0:XK:=fun _ _ _=>False
theorem Ia {X:Cx}:vR cQ X E0:=fun _ _ _ _ _ _ _ h=>h.elim
structure cT (K:PySem.W.Frag) (x qual:Str) (st:Stmt) (f:Addr) (fd:FuncData):Prop where
 ex:∃ (oc:Value) (od:Option Addr) (kV doc pm:Value) (an:Option Addr) (cdv ct:Value) (osl:Array (Option Value)),
  fd=PySem.W.fnOf x qual (fx st) (dF st) (ap st) .none kV doc pm an cdv ct/\K.lookup f=some ⟨oc,od,.func fd,osl⟩/\PySem.W.codeIn K cdv qual=true
 kp:PySem.W.keepIn K (.ref f)=true
section
variable {P:Program} {w:World} {K:PySem.W.Frag} {mg:Str->Option Value} {base:Heap}
theorem cT.ok {x qual:Str} {st:Stmt} {f:Addr} {fd:FuncData} {N ps:List Str} {k:Nat} {sp:Sp} (F:cT K x qual st f fd) (S:ar N ps (ap st)) (len:∀ vs H Q E,sp vs H Q E->vs.length=ps.length)
  (hbody:∀ (cdv:Value) (A:Around) (outer:List Env) (s:Shared) (H:Hp) (vs:List V) (Q:VK) (E:XK),cH k (A.deeper (envOfC qual (ap st) s.heap.objs.size f cdv))->sp vs H Q E->
   ∃ t,nH (u8 cQ P w K mg base N qual (ap st) f cdv A outer s H E).nox (dF st) t/\t {nx:=fun _ H'=>Q .non H',rt:=Q} (start N vs) H):aH P w K mg base cQ (k+1) f fd ps sp:=by
 obtain⟨oc,od,kV,doc,pm,an,cdv,ct,osl,rfl,lk,hcd⟩:=F.ex
 refine JM lk hcd S len fun A outer s H vs Q E hr hsp=>?_
 obtain⟨t,h,q⟩:=hbody cdv A outer s H vs Q E hr hsp
 exact⟨t,h.nox,q⟩
theorem cT.binds {x qual:Str} {st:Stmt} {f:Addr} {fd:FuncData} {ps:List Str} (F:cT K x qual st f fd)
  (h:∀ (kV doc pm:Value) (an:Option Addr) (cdv ct:Value) (us:List Value),us.length=ps.length->bindArgs (PySem.W.fnOf x qual (fx st) (dF st) (ap st) .none kV doc pm an cdv ct) ⟨us,[]⟩=pure (ps.zip us)):qg K fd ps []:=by
 obtain⟨oc,od,kV,doc,pm,an,cdv,ct,osl,rfl,lk,hcd⟩:=F.ex
 exact .all (h kV doc pm an cdv ct)
theorem A7 {x qual:Str} {st:Stmt} {f:Addr} {oc:Value} {od an:Option Addr} {osl:Array (Option Value)} {kV doc pm cdv ct:Value} (l:K.lookup f=some ⟨oc,od,.func (PySem.W.fnOf x qual (fx st) (dF st) (ap st) .none kV doc pm an cdv ct),osl⟩)
  (c:PySem.W.codeIn K cdv qual=true) (k:PySem.W.keepIn K (.ref f)=true):cT K x qual st f (PySem.W.fnOf x qual (fx st) (dF st) (ap st) .none kV doc pm an cdv ct):=⟨⟨oc,od,kV,doc,pm,an,cdv,ct,osl,rfl,l,c⟩,k⟩
end
theorem AI {A B:Prop} (h:B):if false=true then A else B:=by
 rw [if_neg Bool.false_ne_true]
 exact h
theorem Jx {A B:Prop} (h:A):if true=true then A else B:=by
 rw [if_pos rfl]
 exact h
end L2
set_option linter.all false
namespace HM
theorem vB (a b:Int):Int.gcd b (a.fmod b)=Int.gcd a b:=by
 have h:=Int.gcd_sub_mul_right_right b a (a.fdiv b)
 rw [Int.fmod_def,Int.mul_comm b,h,Int.gcd_comm]
theorem wP (a b:Int) (h:b≠0):(a.fmod b).natAbs < b.natAbs:=by
 rcases Int.lt_or_gt_of_ne h with hb | hb
 ·have e:a.fmod b=-((-a).fmod (-b)):=by rw [Int.neg_fmod_neg,Int.neg_neg]
  have h1:=Int.fmod_nonneg_of_pos (-a) (show 0 < -b by omega)
  have h2:=Int.fmod_lt_of_pos (-a) (show 0 < -b by omega)
  omega
 ·have h1:=Int.fmod_nonneg_of_pos a hb
  have h2:=Int.fmod_lt_of_pos a hb
  omega
theorem uy (a:Int):((Int.gcd a 0:Nat):Int)=if a < 0 then -a else a:=by
 rw [Int.gcd_zero_right]
 split <;> omega
def zq (t b:Int):Int:=if b < 0 then -((Int.gcd t b:Nat):Int) else((Int.gcd t b:Nat):Int)
theorem Bz {t b:Int} (h:b≠0):zq t b≠0:=by
 have h1:Int.gcd t b≠0:=fun e=>h (Int.gcd_eq_zero_iff.mp e).2
 unfold zq
 split <;> omega
theorem sH {t b:Int} (h:b≠0):t.fdiv (zq t b)=(Rat.divInt t b).num:=by
 have hg:((Int.gcd t b:Nat):Int) ∣ t:=Int.gcd_dvd_left t b
 rw [Rat.num_divInt,Int.gcd_comm b t]
 unfold zq
 rcases Int.lt_or_gt_of_ne h with hb | hb
 ·rw [if_pos hb,Int.sign_eq_neg_one_of_neg hb,Int.fdiv_eq_ediv_of_dvd (Int.neg_dvd.mpr hg),Int.ediv_neg,Int.neg_mul,Int.one_mul,Int.neg_ediv_of_dvd hg]
 ·rw [if_neg (by omega),Int.sign_eq_one_of_pos hb,Int.fdiv_eq_ediv_of_dvd hg,Int.one_mul]
theorem ua {t b:Int} (h:b≠0):b.fdiv (zq t b)=((Rat.divInt t b).den:Int):=by
 have hg:((Int.gcd t b:Nat):Int) ∣ b:=Int.gcd_dvd_right t b
 rw [Rat.den_divInt,Int.gcd_comm b t,if_neg h]
 unfold zq
 rcases Int.lt_or_gt_of_ne h with hb | hb
 ·rw [if_pos hb,Int.fdiv_eq_ediv_of_dvd (Int.neg_dvd.mpr hg),Int.ediv_neg,Int.natCast_ediv]
  rw [show ((b.natAbs:Nat):Int)=-b by omega,Int.neg_ediv_of_dvd hg]
 ·rw [if_neg (by omega),Int.fdiv_eq_ediv_of_dvd hg,Int.natCast_ediv]
  rw [show ((b.natAbs:Nat):Int)=b by omega]
theorem nZ (a b:Rat):Rat.divInt (a.num*b.den+b.num*a.den) (a.den*b.den)=a+b:=by
 rw [Rat.add_def',Rat.mkRat_eq_div,Rat.divInt_eq_div]; simp [Rat.intCast_natCast]
theorem Ac (a b:Rat):Rat.divInt (a.num*b.den - b.num*a.den) (a.den*b.den)=a - b:=by
 rw [Rat.sub_def',Rat.mkRat_eq_div,Rat.divInt_eq_div]; simp [Rat.intCast_natCast]
theorem iO (a b:Rat):Rat.divInt (a.num*b.num) (a.den*b.den)=a*b:=by
 rw [Rat.mul_def',Rat.mkRat_eq_div,Rat.divInt_eq_div]; simp [Rat.intCast_natCast]
theorem A_ (a b:Rat):Rat.divInt (a.num*b.den) (a.den*b.num)=a / b:=by
 rw [Rat.div_def,<- Rat.num_divInt_den b,Rat.inv_divInt]
 conv=>rhs; rw [<- Rat.num_divInt_den a]
 rw [Rat.divInt_mul_divInt,Rat.num_divInt_den]
def jV:Nat->Nat
 | 0=>0
 | n+1=>if (jV n+1)*(jV n+1)<=n+1 then jV n+1 else jV n
theorem rM:∀ n,jV n*jV n<=n/\n < (jV n+1)*(jV n+1)
 | 0=>by decide
 | n+1=>by
  obtain⟨h1,h2⟩:=rM n
  unfold jV
  split
  ·rename_i h
   refine⟨h,?_⟩
   have:(jV n+1+1)*(jV n+1+1)=(jV n+1)*(jV n+1)+2*(jV n+1)+1:=by grind
   omega
  ·rename_i h
   exact⟨Nat.le_succ_of_le h1,Nat.lt_of_not_le h⟩
def jX (n:Int):Int:=(jV n.toNat:Nat)
structure Rt (n r:Int):Prop where
 nn:0<=r
 le:r*r<=n
 lt:n < (r+1)*(r+1)
theorem kW {n:Int} (h:0<=n):Rt n (jX n):=by
 obtain⟨h1,h2⟩:=rM n.toNat
 refine⟨by unfold jX; omega,?_,?_⟩
 ·unfold jX
  have:((jV n.toNat*jV n.toNat:Nat):Int)<=(n.toNat:Int):=Int.ofNat_le.mpr h1
  rw [Int.natCast_mul] at this
  omega
 ·unfold jX
  have:((n.toNat:Nat):Int) < (((jV n.toNat+1)*(jV n.toNat+1):Nat):Int):=Int.ofNat_lt.mpr h2
  rw [Int.natCast_mul,Int.natCast_add] at this
  rw [show ((n.toNat:Nat):Int)=n by omega] at this
  exact this
theorem mT {a b:Int} (ha:0<=a) (h:a<=b):a*a<=b*b:=Int.mul_le_mul h h ha (by omega)
theorem Rt.le_of {n r x:Int} (h:Rt n r) (hx:x*x<=n):x<=r:=by
 apply Int.not_lt.mp
 intro hl
 have:=mT (a:=r+1) (b:=x) (by have:=h.nn; omega) (by omega)
 have:=h.lt
 omega
theorem Rt.uniq {n r q:Int} (h:Rt n r) (h':Rt n q):r=q:=Int.le_antisymm (h'.le_of h.le) (h.le_of h'.le)
theorem BU {n r:Int} (h:Rt n r):jX n=r:=(kW (Int.le_trans (by have:=mT (Int.le_refl 0) h.nn; omega) h.le)).uniq h
theorem Ad {n x:Int} (e:x*x=n):jX n*jX n=n:=by
 have h:Rt n x.natAbs:=by
  refine⟨by omega,?_,?_⟩
  ·rw [Int.natAbs_mul_self' x]; omega
  ·have:((x.natAbs:Int)+1)*((x.natAbs:Int)+1)=(x.natAbs:Int)*(x.natAbs:Int)+2*x.natAbs+1:=by grind
   rw [Int.natAbs_mul_self' x] at this
   omega
 rw [BU h,Int.natAbs_mul_self' x]
 exact e
theorem yJ {n g r:Int} (hg:0 < g) (hr:0<=r) (h:r*r<=n):r<=(g+n / g) / 2:=by
 apply Int.not_lt.mp
 intro hl
 have h1:g+n / g+1<=2*r:=by omega
 have hn:0<=n:=by have:=mT (Int.le_refl 0) hr; omega
 have hq:0<=n / g:=Int.ediv_nonneg hn (by omega)
 have h2:=mT (a:=g+n / g+1) (b:=2*r) (by omega) h1
 have h3:n < (n / g+1)*g:=by
  have:=Int.lt_ediv_add_one_mul_self n hg
  exact this
 have h4:0<=(g - (n / g+1))*(g - (n / g+1)):=by
  rw [<- Int.natAbs_mul_self' (g - (n / g+1))]; exact Int.natCast_nonneg _
 generalize n / g=q at*
 grind
theorem yM {n g r:Int} (hn:0<=n) (h:Rt n r) (hg:r < g):(g+n / g) / 2 < g:=by
 have h0:=h.nn
 have h1:n / g < r+1:=by
  apply Int.ediv_lt_of_lt_mul (by omega)
  have:=h.lt
  have h2:(r+1)*(r+1)<=(r+1)*g:=Int.mul_le_mul_of_nonneg_left (by omega) (by omega)
  omega
 omega
def Bt (n:Nat) (x:Int):Prop:=x.natAbs < 2 ^ n
theorem o9 {m n:Nat} (h:m<=n):2 ^ m<=2 ^ n:=Nat.pow_le_pow_right (by decide) h
theorem Bt.mono {m n:Nat} {x:Int} (h:Bt m x) (hm:m<=n):Bt n x:=Nat.lt_of_lt_of_le h (o9 hm)
theorem Bt.mul {m n:Nat} {x y:Int} (hx:Bt m x) (hy:Bt n y):Bt (m+n) (x*y):=by
 unfold Bt at*
 rw [Int.natAbs_mul,Nat.pow_add]
 exact Nat.mul_lt_mul'' hx hy
theorem Bt.add {m n:Nat} {x y:Int} (hx:Bt m x) (hy:Bt n y):Bt (max m n+1) (x+y):=by
 have h1:=hx.mono (Nat.le_max_left m n)
 have h2:=hy.mono (Nat.le_max_right m n)
 unfold Bt at*
 have:=Int.natAbs_add_le x y
 rw [Nat.pow_succ]
 omega
theorem Bt.neg {m:Nat} {x:Int} (hx:Bt m x):Bt m (-x):=by unfold Bt at *; omega
theorem Bt.sub {m n:Nat} {x y:Int} (hx:Bt m x) (hy:Bt n y):Bt (max m n+1) (x - y):=by
 rw [Int.sub_eq_add_neg]; exact hx.add hy.neg
theorem Bt.le {m:Nat} {x y:Int} (hx:Bt m x) (h:y.natAbs<=x.natAbs):Bt m y:=Nat.lt_of_le_of_lt h hx
structure Sz (n:Nat) (q:Rat):Prop where
 num:Bt n q.num
 den:Bt n q.den
theorem Sz.mono {m n:Nat} {q:Rat} (h:Sz m q) (hm:m<=n):Sz n q:=⟨h.num.mono hm,h.den.mono hm⟩
theorem aC:∀ a b:Int,(a.fdiv b).natAbs<=a.natAbs
 | .ofNat 0,b=>by
  have e:Int.fdiv (.ofNat 0) b=0:=Int.zero_fdiv b
  rw [e]; exact Nat.zero_le _
 | .ofNat (k+1),.ofNat j=>Nat.div_le_self (k+1) j
 | .ofNat (k+1),.negSucc j=>Nat.succ_le_succ (Nat.div_le_self k (j+1))
 | .negSucc _,.ofNat 0=>Nat.zero_le _
 | .negSucc k,.ofNat (j+1)=>Nat.succ_le_succ (Nat.div_le_self k (j+1))
 | .negSucc k,.negSucc j=>Nat.div_le_self (k+1) (j+1)
theorem Sz.divInt {n:Nat} {t b:Int} (ht:Bt n t) (hb:Bt n b) (h:b≠0):Sz n (Rat.divInt t b):=
 ⟨by rw [<- sH h]; exact ht.le (aC _ _),by rw [<- ua h]; exact hb.le (aC _ _)⟩
theorem fE (q:Rat):(q.den:Int)≠0:=by have:=q.den_nz; omega
theorem aI (p q:Rat):(p.den:Int)*q.den≠0:=Int.mul_ne_zero (fE p) (fE q)
theorem Sz.add {m n:Nat} {a b:Rat} (ha:Sz m a) (hb:Sz n b):Sz (m+n+1) (a+b):=by
 rw [<- nZ]
 refine .divInt ?_ ?_ (aI a b)
 ·exact((ha.num.mul hb.den).add (hb.num.mul ha.den)).mono (by omega)
 ·exact(ha.den.mul hb.den).mono (by omega)
theorem Sz.sub {m n:Nat} {a b:Rat} (ha:Sz m a) (hb:Sz n b):Sz (m+n+1) (a - b):=by
 rw [<- Ac]
 refine .divInt ?_ ?_ (aI a b)
 ·exact((ha.num.mul hb.den).sub (hb.num.mul ha.den)).mono (by omega)
 ·exact(ha.den.mul hb.den).mono (by omega)
theorem Sz.mul {m n:Nat} {a b:Rat} (ha:Sz m a) (hb:Sz n b):Sz (m+n) (a*b):=by
 rw [<- iO]
 exact .divInt (ha.num.mul hb.num) (ha.den.mul hb.den) (aI a b)
theorem sG {q:Rat} (h:q≠0):q.num≠0:=fun e=>h (Rat.num_eq_zero.mp e)
theorem Sz.div {m n:Nat} {a b:Rat} (ha:Sz m a) (hb:Sz n b) (h:b≠0):Sz (m+n) (a / b):=by
 rw [<- A_]
 exact .divInt (ha.num.mul hb.den) (ha.den.mul hb.num) (Int.mul_ne_zero (fE a) (sG h))
theorem Sz.neg {m:Nat} {a:Rat} (ha:Sz m a):Sz m (-a):=⟨by rw [Rat.neg_num]; exact ha.num.neg,by rw [Rat.neg_den]; exact ha.den⟩
theorem zO (r:Rat):(r*r).num=r.num*r.num:=by
 have h:=Rat.num_pow r 2
 rw [show r ^ 2=r*r by grind,show r.num ^ 2=r.num*r.num by grind] at h
 exact h
theorem Cz (r:Rat):(r*r).den=r.den*r.den:=by
 have h:=Rat.den_pow r 2
 rw [show r ^ 2=r*r by grind,show r.den ^ 2=r.den*r.den by grind] at h
 exact h
def Ko (u:Rat):Prop:=∀ r:Rat,r*r≠u
theorem F_ {n:Int} (h:0<=n):jX n<=n:=by
 have rt:=kW h
 have h0:=rt.nn
 have h1:=rt.le
 rcases Int.lt_or_le (jX n) 1 with h2 | h2
 ·omega
 ·have:jX n*1<=jX n*jX n:=Int.mul_le_mul_of_nonneg_left h2 h0
  omega
theorem Gq {n:Int} {m:Nat} (h:0<=n) (hb:Bt m n):Bt m (jX n):=hb.le (by have:=F_ h; have:=(kW h).nn; omega)
theorem Cc:jX 0=0:=by decide
theorem ow (a:Int) {b:Int} (h:0 < b):a.fdiv b=a / b:=Int.fdiv_eq_ediv_of_nonneg a (by omega)
abbrev rC (a:Int):Int:=if a < 0 then -a else a
theorem xc (a:Int):0<=rC a:=by unfold rC; split <;> omega
theorem ck (r:Rat):0<=r*r:=by
 rcases Rat.le_total (a:=0) (b:=r) with h | h
 ·exact Rat.mul_nonneg h h
 ·have:0<=-r:=by grind
  have:=Rat.mul_nonneg this this
  grind
theorem iG (w:Rat):(w.num:Rat)=w*(w.den:Rat):=by
 have h:=Rat.num_divInt_den w
 rw [Rat.divInt_eq_div,Rat.intCast_natCast] at h
 have hd:(w.den:Rat)≠0:=by
  have:=w.den_nz
  exact fun e=>this (by exact_mod_cast e)
 grind
theorem pe (w:Rat):(w.den:Rat)≠0:=by
 have:=w.den_nz
 exact fun e=>this (by exact_mod_cast e)
def ab (b:Rat):Rat:=if b < 0 then -b else b
theorem Ce (b:Rat):0<=ab b:=by unfold ab; split <;> grind
theorem uO (b:Rat):ab b*ab b=b*b:=by unfold ab; split <;> grind
def ss (b:Rat):Rat:=b*ab b
theorem gu (q:Rat):q.num < 0↔q < 0:=by
 have:=Rat.num_nonneg (q:=q)
 constructor
 ·intro h
  apply Rat.not_le.mp
  intro h2
  have:=this.mpr h2
  omega
 ·intro h
  apply Int.not_le.mp
  intro h2
  exact absurd (this.mp h2) (Rat.not_le.mpr h)
theorem Fu (q:Rat):(ab q).num=rC q.num:=by
 unfold ab rC
 by_cases h:q < 0
 ·rw [if_pos h,if_pos ((gu q).mpr h),Rat.neg_num]
 ·rw [if_neg h,if_neg (fun e=>h ((gu q).mp e))]
theorem FO (q:Rat):(ab q).den=q.den:=by
 unfold ab
 split
 ·exact Rat.neg_den _
 ·rfl
theorem vh {x:Int} (h:0<=x):jX (x*x)=x:=BU ⟨h,Int.le_refl _,by grind⟩
theorem oU {b u:Rat} (hu:0 < u):ss b*u=0↔b=0:=by
 unfold ss ab
 constructor
 ·intro h
  have hu':u≠0:=by grind
  split at h <;> grind
 ·intro h
  subst h
  grind
theorem IW {b u:Rat} (hu:0 < u):ab (ss b*u)=b*b*u:=by
 have h2:=ck b
 have h3:=Rat.mul_nonneg h2 (Rat.le_of_lt hu)
 unfold ss
 by_cases h:b < 0
 ·have e:b*ab b*u=-(b*b*u):=by unfold ab; rw [if_pos h]; grind
  rw [e]
  have hp:0 < b*b*u:=by
   have h4:0 < -b:=by grind
   have h5:=Rat.mul_pos h4 h4
   have h6:=Rat.mul_pos h5 hu
   grind
  unfold ab
  rw [if_pos (by grind)]
  grind
 ·have e:b*ab b*u=b*b*u:=by unfold ab; rw [if_neg h]
  rw [e]
  unfold ab
  rw [if_neg (by grind)]
theorem Cf {b u:Rat} (hu:0 < u):ss b*u < 0↔b < 0:=by
 have h2:=ck b
 have h3:=Rat.mul_nonneg h2 (Rat.le_of_lt hu)
 unfold ss ab
 constructor
 ·intro h
  split at h
  ·assumption
  ·exfalso; grind
 ·intro h
  rw [if_pos h]
  have h4:0 < -b:=by grind
  have h5:=Rat.mul_pos h4 h4
  have h6:=Rat.mul_pos h5 hu
  grind
def sg (p q:Rat):Rat:=if q < 0 then -p else p
def Le (q:Rat):Int:=if 0 < q then 1 else if q < 0 then -1 else 0
theorem tri (q:Rat):0 < q\/q < 0\/q=0:=by
 rcases Rat.le_total (a:=0) (b:=q) with h | h
 ·by_cases e:q=0
  ·exact .inr (.inr e)
  ·exact .inl (by grind)
 ·by_cases e:q=0
  ·exact .inr (.inr e)
  ·exact .inr (.inl (by grind))
def LZ (a b u:Rat):Int:=if 0 < a*a - b*b*u then Le a else Le b
theorem vI {x y:Rat} (hx:0<=x) (hy:0<=y):0<=x / y:=by
 by_cases h:y=0
 ·subst h
  rw [show x / 0=0 by grind]
  exact Rat.le_refl
 ·apply Rat.not_lt.mp
  intro hl
  have h1:=Rat.mul_pos (show 0 < -(x / y) by grind) (show 0 < y by grind)
  have h2:x / y*y=x:=by grind
  grind
theorem t8 {q:Rat} (h:0<=q):0<=q.num:=Rat.num_nonneg.mpr h
theorem wg {q r:Rat} (h0:0<=r) (e:r*r=q):jX q.num=r.num/\jX (q.den:Int)=(r.den:Int):=by
 subst e
 rw [zO,Cz]
 refine⟨vh (t8 h0),?_⟩
 rw [Int.natCast_mul]
 exact vh (by omega)
theorem wx {q:Rat} (h0:0<=q) (s1:jX q.num*jX q.num=q.num) (s2:jX (q.den:Int)*jX (q.den:Int)=(q.den:Int)):∃ r:Rat,0<=r/\r*r=q:=by
 have n1:=(kW (t8 h0)).nn
 have n2:=(kW (n:=(q.den:Int)) (by omega)).nn
 generalize jX q.num=x at s1 n1
 generalize jX (q.den:Int)=y at s2 n2
 have t1:(x:Rat)*x=(q.num:Rat):=by
  have:=congrArg (fun z:Int=>(z:Rat)) s1
  simpa [Rat.intCast_mul] using this
 have t2:(y:Rat)*y=(q.den:Rat):=by
  have:=congrArg (fun z:Int=>(z:Rat)) s2
  simpa [Rat.intCast_mul,Rat.intCast_natCast] using this
 have hd:=pe q
 have hy0:(y:Rat)≠0:=by intro e; rw [e] at t2; exact hd (by grind)
 have hwn:=iG q
 have x0:(0:Rat)<=x:=by exact_mod_cast n1
 have y0:(0:Rat)<=y:=by exact_mod_cast n2
 refine⟨(x:Rat) / y,?_,by grind⟩
 exact vI x0 y0
theorem wV {e:Rat} (h:e≠0):ab e≠0:=by unfold ab; split <;> grind
theorem Id {r s:Rat} (hr:0<=r) (hs:0<=s) (e:r*r=s*s):r=s:=by
 by_cases h:r+s=0
 ·grind
 ·have:(r - s)*(r+s)=0:=by grind
  grind
theorem v7 {b e u r:Rat} (u0:0 < u) (he:e≠0) (hr:0<=r) (h:r*r=(b*b*u) / (e*e*u)):r=ab b / ab e:=by
 have u1:u≠0:=by grind
 have e1:=uO e
 have b1:=uO b
 have e2:=wV he
 apply Id hr (vI (Ce b) (Ce e))
 rw [h]
 have:ab b / ab e*(ab b / ab e)=(ab b*ab b) / (ab e*ab e):=by grind
 rw [this,e1,b1]
 grind
theorem Ai {b e u:Rat} (u0:0 < u) (he:e≠0):(ab b / ab e)*(ab b / ab e)=(b*b*u) / (e*e*u):=by
 have u1:u≠0:=by grind
 have e1:=uO e
 have b1:=uO b
 have e2:=wV he
 have:ab b / ab e*(ab b / ab e)=(ab b*ab b) / (ab e*ab e):=by grind
 rw [this,e1,b1]
 grind
theorem Bo {b e u:Rat} (u0:0 < u):sg (ab b / ab e) (ss b*u)=b / ab e:=by
 unfold sg
 by_cases h:b < 0
 ·rw [if_pos ((Cf u0).mpr h)]
  unfold ab
  rw [if_pos h]
  grind
 ·rw [if_neg (fun z=>h ((Cf u0).mp z))]
  unfold ab
  rw [if_neg h]
def pick (b d:Rat):Rat:=if b=0 then d else b
theorem AT {b u:Rat} (u0:0 < u):ab (ss b*u)=b*b*u:=IW u0
theorem Sz.ab {n:Nat} {q:Rat} (h:Sz n q):Sz n (HM.ab q):=by
 unfold HM.ab
 split
 ·exact h.neg
 ·exact h
theorem Sz.ss {n:Nat} {q:Rat} (h:Sz n q):Sz (n+n) (HM.ss q):=h.mul h.ab
theorem Sz.zero:Sz 1 0:=⟨by show(0:Int).natAbs < 2 ^ 1; decide,by show((1:Nat):Int).natAbs < 2 ^ 1; decide⟩
theorem Sz.pick {n:Nat} {b d:Rat} (hb:Sz n b) (hd:Sz n d):Sz n (HM.pick b d):=by
 unfold HM.pick
 split
 ·exact hd
 ·exact hb
theorem Sz.div' {m n:Nat} {a b:Rat} (ha:Sz m a) (hb:Sz n b):Sz (m+n+1) (a / b):=by
 by_cases h:b=0
 ·subst h
  rw [show a / 0=0 by grind]
  exact Sz.zero.mono (by omega)
 ·exact(ha.div hb h).mono (by omega)
theorem oy (q:Rat):q.num > 0↔0 < q:=by
 constructor
 ·intro h
  rcases tri q with h1 | h1 | h1
  ·exact h1
  ·have:=(gu q).mpr h1; omega
  ·subst h1; exact absurd h (by decide)
 ·intro h
  have:=t8 (Rat.le_of_lt h)
  have n0:q.num≠0:=sG (by grind)
  omega
end HM
namespace L2
open PySem PySem.Spec PyProof.Rows
theorem sC (elt target iter:Expr) (scope:Scope) (pos:Pos) (it acc:Value) (env:Env):
  compTurn (.ListComp elt [⟨target,iter,[],0⟩] scope pos) 0 it acc env=(standAt iter.pos >>= fun _=>pyNext it >>= fun r=>match r with
   | none=>pure (.done .next)
   | some v=>letOwnedTupleGo target it v >>= fun _=>assign target env v >>= fun _=>
    (eval elt env >>= fun x=>call (.builtin "list.append") [acc,x] >>= fun _=>pure ()) >>= fun _=>
     again (.compLoop (.ListComp elt [⟨target,iter,[],0⟩] scope pos) 0 it acc env)):=by rfl
section
variable {prog:Program} {w:World} {A:Around} {R:Result->Shared->Prop} {s:Shared}
abbrev sN:Value->Shared->Prop:=fun _ _=>False
theorem At {α:Type} {M:Model} {A:Around} {t:Sem α} {Q:α->Shared->Prop} {E:Value->Shared->Prop} {s:Shared} (h:wpAny M A t Q sN s):wpAny M A t Q E s:=wpAny_mono h (fun _ _ q=>q) fun _ _ z=>z.elim
theorem mM {elt target iter:Expr} {scope:Scope} {pos:Pos} {it acc:Value} {env:Env} (I:Nat->Shared->Prop)
  (turn:∀ n s,I n s->wpAny (model prog w) A (pyNext it) (fun r s1=>match r with
   | none=>R (.ok .next) s1
   | some v=>wpAny (model prog w) A (letOwnedTupleGo target it v) (fun _ s2=>wpAny (model prog w) A (assign target env v) (fun _ s3=>wpAny (model prog w) A (eval elt env) (fun x s4=>
     wpAny (model prog w) A (call (.builtin "list.append") [acc,x]) (fun _ s5=>∃ m,m < n/\I m s5) sN s4) sN s3) sN s2) sN s1) sN s)
  (n:Nat) (h:I n s):codeAny (model prog w) A (.compLoop (.ListComp elt [⟨target,iter,[],0⟩] scope pos) 0 it acc env) R s:=by
 refine codeAny_loop rfl I (fun n s hI=>?_) n h
 show wpAny _ _ ((compTurn (.ListComp elt [⟨target,iter,[],0⟩] scope pos) 0 it acc env).onRaise (fun x=>do noteFrame x env; theTreesLotGoes x)) _ _ s
 refine wpAny_noted ?_
 rw [sC]
 refine wpAny_bind (wpAny_standAt (wpAny_bind (At (wpAny_mono (turn n s hI) (fun r s1 h1=>?_) fun _ _ z=>z))))
 cases r with
 | none=>exact wpAny_pure h1
 | some v=>
  exact wpAny_bind (At (bL h1 fun _ s2 h2=>wpAny_bind (At (bL h2 fun _ s3 h3=>wpAny_bind (wpAny_bind (At (bL h3 fun x s4 h4=>wpAny_bind (At (bL h4 fun _ s5 h5=>wpAny_pure (wpAny_pure ⟨rfl,h5⟩))))))))))
theorem oR {M:Model} {A:Around} {E:Value->Shared->Prop} {c:Expr} {env:Env} {Q:Bool->Shared->Prop} {s:Shared} (h:wpAny M A (PySem.isTrue c env (eval c env)) Q E s):
  wpAny M A (forIn [c] true fun c r=>if r=true then do let ok <- PySem.isTrue c env (eval c env); pure (ForInStep.yield ok) else pure (ForInStep.yield r)) Q E s:=by
 rw [List.forIn_cons]
 refine wpAny_bind ?_
 rw [if_pos rfl]
 refine wpAny_bind (bL h fun ok s1 q=>wpAny_pure ?_)
 show wpAny M A (forIn [] ok _) Q E s1
 rw [List.forIn_nil]
 exact wpAny_pure q
theorem tz {elt target iter c:Expr} {scope:Scope} {pos:Pos} {it acc:Value} {env:Env} (I:Nat->Shared->Prop)
  (turn:∀ n s,I n s->wpAny (model prog w) A (pyNext it) (fun r s1=>match r with
   | none=>R (.ok .next) s1
   | some v=>wpAny (model prog w) A (letOwnedTupleGo target it v) (fun _ s2=>wpAny (model prog w) A (assign target env v) (fun _ s3=>wpAny (model prog w) A (isTrue c env (eval c env)) (fun b s3'=>
     if b=true then wpAny (model prog w) A (eval elt env) (fun x s4=>wpAny (model prog w) A (call (.builtin "list.append") [acc,x]) (fun _ s5=>∃ m,m < n/\I m s5) sN s4) sN s3'
     else ∃ m,m < n/\I m s3') sN s3) sN s2) sN s1) sN s)
  (n:Nat) (h:I n s):codeAny (model prog w) A (.compLoop (.ListComp elt [⟨target,iter,[c],0⟩] scope pos) 0 it acc env) R s:=by
 refine codeAny_loop rfl I (fun n s hI=>?_) n h
 show wpAny _ _ ((compTurn (.ListComp elt [⟨target,iter,[c],0⟩] scope pos) 0 it acc env).onRaise (fun x=>do noteFrame x env; theTreesLotGoes x)) _ _ s
 refine wpAny_noted ?_
 rw [compTurn_list]
 refine wpAny_bind (wpAny_standAt (wpAny_bind (At (wpAny_mono (turn n s hI) (fun r s1 h1=>?_) fun _ _ z=>z))))
 cases r with
 | none=>exact wpAny_pure h1
 | some v=>
  refine wpAny_bind (At (bL h1 fun _ s2 h2=>wpAny_bind (At (bL h2 fun _ s3 h3=>wpAny_bind (oR (At (bL h3 fun b s3' h3'=>?_)))))))
  cases b with
  | true=>
   rw [if_pos rfl] at h3' ⊢
   exact wpAny_bind (wpAny_bind (At (bL h3' fun x s4 h4=>wpAny_bind (At (bL h4 fun _ s5 h5=>wpAny_pure (wpAny_pure ⟨rfl,h5⟩))))))
  | false=>
   rw [if_neg Bool.false_ne_true] at h3' ⊢
   exact wpAny_pure ⟨rfl,h3'⟩
end
def js (X:Cx) (scope:Scope) (cl:List (Str×Addr)) (N:List Str) (s0:Shared) (H0:Hp) (ex:List Addr) (C:Addr):Cx where
 prog:=X.prog
 w:=X.w
 K:=X.K
 mg:=X.mg
 base:=X.base
 A:=X.A
 N:=N
 s₀:=s0
 H₀:=H0
 env:=compEnvC scope cl C X.env
 outer:=X.stack
 stack:=X.stack
 ex:=ex
 fn:=fun _=>false
 calm:=X.calm
 pn:=[]
 xe:=sN
structure gC (X:Cx) (scope:Scope) (cl:List (Str×Addr)) (N:List Str) (cap:List (Option Nat)):Prop where
 kind:scope.kind=.function
 clos:closureFor scope X.env=pure cl
 nocell:(scope.names.all fun y=>y.2 != NameKind.cell)=true
 names:(scope.names.all fun y=>y.2 != NameKind.local || scope.names.lookup y.1 == some NameKind.local)=true
 sub:∀ p∈cl,X.env.cells.lookup p.1=some p.2
 has:((relabel scope X.env).names.all fun y=>(y.2 != NameKind.cell && y.2 != NameKind.free) || (cl.lookup y.1).isSome)=true
 len:cap.length=N.length
 caps:∀ (i j:Nat) (x:Str),cap[i]?=some (some j)->N[i]?=some x->X.N[j]?=some x/\(X.env.scope.names.lookup x=some .cell\/X.env.scope.names.lookup x=some .free)/\((relabel scope X.env).names.lookup x=some .cell\/(relabel scope X.env).names.lookup x=some .free)
def mS (cap:List (Option Nat)) (σ:St):St:=cap.map fun o=>match o with
 | some j=>(σ[j]?).join
 | none=>none
theorem yE {cap:List (Option Nat)} {σ:St} {i:Nat} {v:V} (h:(mS cap σ)[i]?=some (some v)):∃ j,cap[i]?=some (some j)/\σ[j]?=some (some v):=by
 unfold mS at h
 rw [List.getElem?_map] at h
 cases e:cap[i]? with
 | none=>rw [e] at h; cases h
 | some o=>
  rw [e] at h
  cases o with
  | none=>cases h
  | some j=>
   refine⟨j,rfl,?_⟩
   have h:(σ[j]?).join=some v:=Option.some.inj h
   cases e2:σ[j]? with
   | none=>rw [e2] at h; cases h
   | some q=>rw [e2] at h; exact congrArg some h
theorem fI {X:Cx} {cl:List (Str×Addr)} (h:∀ p∈cl,X.env.cells.lookup p.1=some p.2) {x:Str} {c:Addr} (e:cl.lookup x=some c):X.env.cells.lookup x=some c:=h (x,c) (PySem.mem_of_lookup e)
theorem pS {X:Cx} {scope:Scope} {cl:List (Str×Addr)} {N:List Str} {cap:List (Option Nat)} (Sc:gC X scope cl N cap) {pins:List (Addr×Obj)} {σ:St} {H:Hp} {s:Shared} {fp:List Addr} (I:aA X pins σ H s)
  (hf:∀ b∈fp,nI X pins H b) (ho:∀ b∈fp,∃ o,s.heap.get? b=some o) {h1 h1':Heap} {m:Str->Option Value} {tk:Nat} {ob:Obj}
  (hD:s.heap.push {cls:=.type "list",data:=.seq ([]:List Value).toArray}=h1') (hns:h1.Ns h1'.objs.size m) (hsb:Heap.SameBut h1'.objs.size (h1'.push ob) h1):
  aA (js X scope cl N {s with heap:=h1'} (bJ H s.heap.objs.size (.lst [])) fp h1'.objs.size) [] (mS cap σ) (bJ H s.heap.objs.size (.lst [])) {s with heap:=h1,toks:=tk}/\
   Un (ul X.stack) fp H (bJ H s.heap.objs.size (.lst [])) s.heap h1':=by
 have hC:h1'.objs.size=s.heap.objs.size+1:=by rw [<- hD,Heap.size_push]
 have k1:∀ b o,s.heap.get? b=some o->h1'.get? b=some o:=fun b o e=>by rw [<- hD]; exact Heap.get?_push_of_some _ e
 have k2:∀ b o,h1'.get? b=some o->h1.get? b=some o:=fun b o e=>(hsb.2 b (Nat.ne_of_lt (Heap.lt_size e))).trans (Heap.get?_push_of_some _ e)
 have hHn:H s.heap.objs.size=none:=I.hok.fresh (Nat.le_refl _)
 have neD:∀ b o,s.heap.get? b=some o->b≠s.heap.objs.size:=fun b o e=>Nat.ne_of_lt (Heap.lt_size e)
 have un1:Un (ul X.stack) fp H (bJ H s.heap.objs.size (.lst [])) s.heap h1':=Un.laid k1 (Nat.le_refl _) hHn
 have new:dE X.prog X.w (bJ H s.heap.objs.size (.lst [])) h1' s.heap.objs.size (.lst []):=⟨Nat.zero_le _,[],0,.nil,by rw [<- hD]; exact Heap.get?_push_size _ rfl⟩
 have hok1:lF X.prog X.w (bJ H s.heap.objs.size (.lst [])) h1':=I.hok.laid k1 (Nat.le_refl _) new
 have fsub:∀ b∈fp,b∉ul X.stack:=fun b hb z=>by
  obtain⟨_,f1,f2,_⟩:=hf b hb
  rcases List.mem_cons.mp (I.stkSub b z) with e | e
  ·exact f1 e
  ·exact f2 e
 have cellK:∀ x c,cl.lookup x=some c->∃ v,s.heap.IsCell c v:=fun x c e=>I.cell x c (fI Sc.sub e)
 refine⟨⟨⟨I.ok.mod,?_,I.ok.glob,I.ok.blt,Nat.le_refl _,fun x y c e1 e2=>I.ok.inj x y c (fI Sc.sub e1) (fI Sc.sub e2),fun x hx=>?_,fun x c z=>(by cases z),I.ok.hd,I.ok.frames,.inl rfl,fun b hb=>⟨?_,fun x c e=>?_⟩,fun b o e=>⟨?_,?_⟩,?_,fun b o e hb=>?_,fsub,?_,fun b hb=>?_⟩,
  rfl,I.bare,Un.kept k2,⟨m,hns,fun i x v e1 e2 e3=>?_⟩,fun x c e=>?_,?_,fun x c e=>?_,fun p hp=>absurd hp (by simp [js]),hok1.kept k2,?_⟩,un1⟩
 ·exact Sc.kind
 ·have hx:(relabel scope X.env).names.lookup x=some .cell\/(relabel scope X.env).names.lookup x=some .free:=hx
  have ha:=List.all_eq_true.mp Sc.has
  show ∃ c,cl.lookup x=some c
  rcases hx with hx | hx
  ·have:=ha _ (PySem.mem_of_lookup hx)
   exact Option.isSome_iff_exists.mp (by simpa using this)
  ·have:=ha _ (PySem.mem_of_lookup hx)
   exact Option.isSome_iff_exists.mp (by simpa using this)
 ·obtain⟨o,e⟩:=ho b hb
  have:=Heap.lt_size e
  show b≠h1'.objs.size
  rw [hC]
  exact Nat.ne_of_lt (Nat.lt_succ_of_lt this)
 ·exact(hf b hb).2.2.2.2.1 x c (fI Sc.sub e)
 ·exact k1 b o (I.bk b o e)
 ·show bJ H s.heap.objs.size (.lst []) b=none
  rw [aG (neD b o (I.bk b o e))]
  exact(I.bs b o e).2
 ·show X.base.objs.size<=h1'.objs.size
  rw [hC]
  exact Nat.le_succ_of_le (Nat.le_trans I.ok.bsz I.sz)
 ·obtain⟨_,_,_,f3,_⟩:=hf b hb
  rcases f3 with f3 | f3
  ·exact I.ok.noex b o e f3
  ·have q1:=Heap.lt_size e
   have q2:=I.ok.bsz
   exact absurd (Nat.lt_of_lt_of_le q1 (Nat.le_trans q2 f3)) (Nat.lt_irrefl _)
 ·exact I.stack.of_keeps fun b o e _=>⟨o,k1 b o e,rfl⟩
 ·show bJ H s.heap.objs.size (.lst []) b=none
  obtain⟨_,o,e,_⟩:=I.stack.mem hb
  rw [aG (neD b o e)]
  exact I.stkFree b hb
 ·obtain⟨j,c1,c2⟩:=yE e2
  obtain⟨d1,d2,d3⟩:=Sc.caps i j x c1 e1
  obtain⟨m0,_,l0⟩:=I.loc
  obtain⟨u,ru,lk⟩:=l0 j x v d1 c2 (d2.elim (fun z=>.inr (.inl z)) fun z=>.inr (.inr z))
  refine⟨u,ru,.inr ⟨d3,?_⟩⟩
  rcases lk with ⟨z,_⟩ | ⟨_,c,z1,z2⟩
  ·have z:X.env.scope.names.lookup x=some .local:=z
   rcases d2 with q | q <;> (rw [q] at z; cases z)
  ·have ha:=List.all_eq_true.mp Sc.has
   have hs:∃ c',cl.lookup x=some c':=by
    rcases d3 with q | q
    ·exact Option.isSome_iff_exists.mp (by simpa using ha _ (PySem.mem_of_lookup q))
    ·exact Option.isSome_iff_exists.mp (by simpa using ha _ (PySem.mem_of_lookup q))
   obtain⟨c',q⟩:=hs
   have q2:=fI Sc.sub q
   rw [z1] at q2
   cases q2
   obtain⟨o,e,d⟩:=z2
   exact⟨c,q,o,k2 _ _ (k1 _ _ e),d⟩
 ·obtain⟨v,o,e1,d⟩:=cellK x c e
  exact⟨v,o,k2 _ _ (k1 _ _ e1),d⟩
 ·show bJ H s.heap.objs.size (.lst []) h1'.objs.size=none
  rw [hC,aG (Nat.succ_ne_self _)]
  exact I.hok.fresh (Nat.le_succ _)
 ·obtain⟨v,o,e1,d⟩:=cellK x c e
  show bJ H s.heap.objs.size (.lst []) c=none
  rw [aG (neD c o e1)]
  exact I.freeC x c (fI Sc.sub e)
 ·show(mS cap σ).length=N.length
  unfold mS
  rw [List.length_map]
  exact Sc.len
def zM (cap:List (Option Nat)) (wi:TI) (g:TG) (te:TE):TE:=fun σ H Q=>wi σ H fun J H1=>∀ D,H1 D=none->∃ W:Nat->Nat->St->Hp->Prop,(∃ m,W 0 m (mS cap σ) (bJ H1 D (.lst [])))/\∀ i m σ' H',W i m σ' H'->
 (J.stop i H'/\Q (.ref D) H')\/(J.go i H'/\∃ N:St->Hp->Prop,(∀ σ2 H2,N σ2 H2->∃ m',m' < m/\W (i+1) m' σ2 H2)/\∀ x H2,J.yld i H' x H2->g x σ' H2 fun σ3 H3=>te σ3 H3 fun v H4=>∃ ys,H4 D=some (.lst ys)/\ys.length < sizeLine/\N σ3 (bJ H4 D (.lst (ys++[v]))))
def xF (cap:List (Option Nat)) (wi:TI) (g:TG) (tc:TT) (te:TE):TE:=fun σ H Q=>wi σ H fun J H1=>∀ D,H1 D=none->∃ W:Nat->Nat->St->Hp->Prop,(∃ m,W 0 m (mS cap σ) (bJ H1 D (.lst [])))/\∀ i m σ' H',W i m σ' H'->
 (J.stop i H'/\Q (.ref D) H')\/(J.go i H'/\∃ N:St->Hp->Prop,(∀ σ2 H2,N σ2 H2->∃ m',m' < m/\W (i+1) m' σ2 H2)/\∀ x H2,J.yld i H' x H2->g x σ' H2 fun σ3 H3=>tc σ3 H3 fun b H3'=>if b=true then te σ3 H3' fun v H4=>∃ ys,H4 D=some (.lst ys)/\ys.length < sizeLine/\N σ3 (bJ H4 D (.lst (ys++[v]))) else N σ3 H3')
section
variable {X:Cx} {elt tg iter c:Expr} {scope:Scope} {cl:List (Str×Addr)} {N:List Str} {cap:List (Option Nat)} {pos:Pos} {wi:TI} {g:TG} {te:TE} {tc:TT}
theorem vk (Sc:gC X scope cl N cap) {pins:List (Addr×Obj)} {σ σ3:St} {H2 H3:Hp} {s2 s4:Shared} {fp:List Addr} {h1':Heap} {C:Addr} (I2:aA X pins σ H2 s2) (f2:∀ b∈fp,nI X pins H2 b) {H1:Hp}
  (un3:Un (ul X.stack) fp H2 H1 s2.heap h1') (I4:aA (js X scope cl N {s2 with heap:=h1'} H1 fp C) [] σ3 H3 s4) {h':Heap} (hC:s2.heap.objs.size<=C) (sb:Heap.SameBut C s4.heap h'):aA X pins σ H3 {s4 with heap:=h'}:=by
 have u:Un (ul X.stack) fp H2 H3 s2.heap s4.heap:=un3.trans I4.base
 have ne:∀ b o,s2.heap.get? b=some o->b≠C:=fun b o e=>Nat.ne_of_lt (Nat.lt_of_lt_of_le (Heap.lt_size e) hC)
 have u':Un (ul X.stack) fp H2 H3 s2.heap h':=⟨fun b o e n hb hx=>(sb.2 b (ne b o e)).trans (u.keep b o e n hb hx),fun b o e n hb hx=>by
   obtain⟨sl,q⟩:=u.slot b o e n hb hx
   exact⟨sl,(sb.2 b (ne b o e)).trans q⟩,u.free,fun b o e hx=>by
   obtain⟨o',q⟩:=u.there b o e hx
   exact⟨o',(sb.2 b (ne b o e)).trans q⟩,u.tups,u.frzs,u.tbls⟩
 have hok:lF X.prog X.w H3 h':=fun b ob e=>by
  refine(I4.hok b ob e).stay (fun c w' hc q=>(sb.2 c ?_).trans q) (fun _ q=>q) fun _ _ q=>q
  rintro rfl
  have hfree:H3 c=none:=I4.free
  rcases hc with rfl | hc
  ·rw [hfree] at e; cases e
  ·rw [hfree] at hc; cases hc
 refine I2.call' (s':={s4 with heap:=h'}) (ch:=fp) I4.os u' hok I4.bare fun b hb=>?_
 obtain⟨_,f1,_,f3,f4,f5⟩:=f2 b hb
 exact⟨f3,f1,f4,f5⟩
theorem gU {s0:Shared} {H0:Hp} {C:Addr} {fp:List Addr} {σ:St} {H:Hp} {s:Shared} (I:aA (js X scope cl N s0 H0 fp C) [] σ H s) (hn:∀ b∈fp,H b=none):∀ b∈fp,nI (js X scope cl N s0 H0 fp C) [] H b:=fun b hb=>
 ⟨hn b hb,(I.ok.exf b hb).1,I.ok.exfs b hb,.inl hb,(I.ok.exf b hb).2,fun p hp=>absurd hp (by simp [js])⟩
theorem s_ (hc:X.calm=true) (Sc:gC X scope cl N cap) (hi:PI X tg iter wi) (hg:∀ s0 H0 ex C,PG (js X scope cl N s0 H0 ex C) tg g) (he:∀ s0 H0 ex C,PE (js X scope cl N s0 H0 ex C) elt te)
  (hs:∀ x,foldedSetIterable iter X.env x=pure x:=by intro _; rfl):PE X (.ListComp elt [⟨tg,iter,[],0⟩] scope pos) (zM cap wi g te):=by
 intro pins s σ H Q I h
 rw [eval_ListComp]
 have hcell:∀ y∈scope.names,y.2≠.cell:=fun y hy=>by simpa using List.all_eq_true.mp Sc.nocell y hy
 have hnames:∀ y∈scope.names,y.2=.local->scope.names.lookup y.1=some .local:=fun y hy e=>by
  have:=List.all_eq_true.mp Sc.names y hy
  rw [e] at this
  simpa using this
 refine wpAny_comprehension_free (use:=none) rfl hs Sc.clos Sc.kind hnames (bL (hi pins s σ H _ I h) fun v s1 h1=>bL h1 fun itv s2 h2=>?_)
 obtain⟨it,fp,tn,J,H2,e,I2,T,st2,f2,hW⟩:=h2
 subst e
 refine wpAny_newObj_type (wpAny_newFunctionEnv hcell (by intro y hy; simp at hy) (fun h1 hns hsb=>?_) Sc.kind)
 obtain⟨W,⟨m0,w0⟩,turn⟩:=hW s2.heap.objs.size I2.fresh
 dsimp only at hns hsb ⊢
 generalize hD:s2.heap.push {cls:=.type "list",dict:=none,data:=.seq ([]:List Value).toArray}=h1' at hns hsb ⊢
 obtain⟨I3,un3⟩:=pS (tk:=s2.toks+([]:List (Str×Value)).length) Sc I2 f2 (fun b hb=>let ⟨o,e,_⟩:=T.obj 0 _ st2 b hb; ⟨o,e⟩) hD hns hsb
 have hC:s2.heap.objs.size<=h1'.objs.size:=by rw [<- hD,Heap.size_push]; exact Nat.le_succ _
 have k1:∀ b o,s2.heap.get? b=some o->h1.get? b=some o:=fun b o e=>by
  have e1:h1'.get? b=some o:=by rw [<- hD]; exact Heap.get?_push_of_some _ e
  exact(hsb.2 b (Nat.ne_of_lt (Heap.lt_size e1))).trans (Heap.get?_push_of_some _ e1)
 have st3:tn 0 h1:=T.keep 0 _ _ st2 fun b _ o e=>k1 b o e
 have fr3:∀ b∈fp,(bJ H2 s2.heap.objs.size (.lst [])) b=none:=fun b hb=>by
  obtain⟨o,e,_⟩:=T.obj 0 _ st2 b hb
  rw [aG (Nat.ne_of_lt (Heap.lt_size e))]
  exact(f2 b hb).1
 have loop:∀ s3:Shared,s3={s2 with heap:=h1,toks:=s2.toks+([]:List (Str×Value)).length}->
   codeAny (model X.prog X.w) X.A (.compLoop (.ListComp elt [⟨tg,iter,[],0⟩] scope pos) 0 (.ref it) (.ref s2.heap.objs.size) (compEnvC scope cl h1'.objs.size X.env))
    (compPost (model X.prog X.w) X.A X.xe none (EP X pins σ Q) (.ref s2.heap.objs.size) h1'.objs.size) s3:=by
  rintro s3 rfl
  refine mM (fun n s'=>∃ i σ' H',aA (js X scope cl N {s2 with heap:=h1'} (bJ H2 s2.heap.objs.size (.lst [])) fp h1'.objs.size) [] σ' H' s'/\tn i s'.heap/\(∀ b∈fp,H' b=none)/\W i n σ' H') ?_ m0 ⟨0,_,_,I3,st3,fr3,w0⟩
  rintro n s3 ⟨i,σ3,H3,I3,st3,fr3,w3⟩
  rcases turn i n σ3 H3 w3 with ⟨stop,qn⟩ | ⟨go,Nn,hN,step⟩
  ·refine bL (T.done (js X scope cl N {s2 with heap:=h1'} (bJ H2 s2.heap.objs.size (.lst [])) fp h1'.objs.size) rfl rfl rfl hc i [] s3 σ3 H3 sN I3 (gU I3 fr3) st3 stop) fun r s4 ⟨hr,I4⟩=>?_
   subst hr
   obtain⟨m,hm,_⟩:=I4.loc
   exact⟨m,hm,fun h' sb=>⟨.ref _,H3,vk Sc I2 f2 un3 I4 hC sb,rfl,qn⟩⟩
  ·refine bL (T.item (js X scope cl N {s2 with heap:=h1'} (bJ H2 s2.heap.objs.size (.lst [])) fp h1'.objs.size) rfl rfl rfl hc i [] s3 σ3 H3 sN I3 (gU I3 fr3) st3 go) fun r s4 ⟨u,hr,h4⟩=>?_
   subst hr
   refine bL h4 fun _ s5 ⟨x,H5,I5,r5,y5,st5,fr5⟩=>?_
   have I5':=I5.pinned (gU I5 fr5) (T.obj _ _ st5)
   refine bL (hg _ _ _ _ _ s5 σ3 H5 x u _ I5' r5 (step x H5 y5)) fun _ s6 ⟨σ6,H6,I6,q6⟩=>?_
   refine bL (he _ _ _ _ _ s6 σ6 H6 _ I6 q6) fun uv s7 ⟨v,H7,I7,r7,ys,hy,hl,q7⟩=>?_
   refine bL (lv (X:=js X scope cl N {s2 with heap:=h1'} (bJ H2 s2.heap.objs.size (.lst [])) fp h1'.objs.size) _ s7 σ6 H7 (.ref s2.heap.objs.size) [v] (.ref s2.heap.objs.size) [uv] (fun _ H8=>Nn σ6 H8) I7 rfl (.cons r7 .nil) ⟨_,ys,v,rfl,rfl,hy,hl,q7⟩) fun _ s8 ⟨_,H8,I8,_,n8⟩=>?_
   obtain⟨m',hm,w8⟩:=hN σ6 H8 n8
   refine⟨m',hm,i+1,σ6,H8,I8.unpinned,T.keep _ _ _ st5 fun b hb o e=>(I8.pin (b,o) (List.mem_append_right _ (List.mem_append_right _ (dI hb e)))).1,fun b hb=>?_,w8⟩
   obtain⟨o,e,d⟩:=T.obj _ _ st5 b hb
   exact(I8.pin (b,o) (List.mem_append_right _ (List.mem_append_right _ (dI hb e)))).2.1
 exact codeAny_compStart_list (loop _ rfl) (T.self _ 0 _ _ _ st3 (loop _ rfl))
end
end L2
namespace DL
open PySem PySem.Spec PyProof.Rows L2
abbrev Fg:=PySem.W.Frag
inductive Ty where
 | non | bool | int | str | tup | lst | dic | verr
def Ty.name:Ty->String
 | .non=>"NoneType" | .bool=>"bool" | .int=>"int" | .str=>"str" | .tup=>"tuple" | .lst=>"list" | .dic=>"dict" | .verr=>"ValueError"
inductive D where
 | non | bl (b:Bool) | int (i:Int) | str (x:Str) | tup (ds:List D) | rl (ds:List D) | ref (a:Addr) | ty (n:Ty)
def HL (K:Fg) (H:Hp) (a:Addr) (xs:List V):Prop:=
 (∃ o,H a=some (.frz o (.lst xs)))\/∃ (o:Obj) (its:Array Value) (n:Nat),K.lookup a=some o/\o.cls=.type "list"/\o.dict=none/\o.data=.seq its n/\its.size<=sizeLine/\aL xs its.toList
theorem HL.sq {K:Fg} {H:Hp} {a:Addr} {xs:List V} (h:HL K H a xs):jf K H a xs:=by
 rcases h with h | h
 ·exact .inl (.inr h)
 ·exact .inr h
mutual
def bZ (K:Fg) (H:Hp):D->V->Prop
 | .non,v=>v=.non
 | .bl b,v=>v=.bl b
 | .int i,v=>v=.int i
 | .str x,v=>v=.str x
 | .tup ds,v=>∃ a xs,v=.ref a/\ka K H a xs/\IsDs K H ds xs
 | .rl ds,v=>∃ a xs,v=.ref a/\HL K H a xs/\IsDs K H ds xs
 | .ref a,v=>v=.ref a
 | .ty n,v=>v=.ty n.name
def IsDs (K:Fg) (H:Hp):List D->List V->Prop
 | [],vs=>vs=[]
 | d::ds,vs=>∃ v r,vs=v::r/\bZ K H d v/\IsDs K H ds r
end
def JT:HO->Prop
 | .tup _=>True
 | .frz _ _=>True
 | _=>False
def Kp (H H':Hp):Prop:=∀ a o,H a=some o->JT o->H' a=some o
theorem Kp.refl (H:Hp):Kp H H:=fun _ _ h _=>h
theorem Kp.trans {H H1 H2:Hp} (a:Kp H H1) (b:Kp H1 H2):Kp H H2:=fun c o h i=>b c o (a c o h i) i
theorem Kp.tup {K:Fg} {H H':Hp} {a:Addr} {xs:List V} (k:Kp H H') (h:ka K H a xs):ka K H' a xs:=by
 rcases h with (h | ⟨o,h⟩) | h
 ·exact .inl (.inl (k _ _ h trivial))
 ·exact .inl (.inr ⟨o,k _ _ h trivial⟩)
 ·exact .inr h
theorem Kp.fro {K:Fg} {H H':Hp} {a:Addr} {xs:List V} (k:Kp H H') (h:HL K H a xs):HL K H' a xs:=by
 rcases h with ⟨o,h⟩ | h
 ·exact .inl ⟨o,k _ _ h trivial⟩
 ·exact .inr h
theorem Kp.new {H:Hp} {p:Addr} {o:HO} (h:H p=none):Kp H (bJ H p o):=fun b u e _=>by rw [aG (b8 e h)]; exact e
theorem Kp.mut {H:Hp} {p:Addr} {o u:HO} (h:H p=some u) (n:¬ JT u):Kp H (bJ H p o):=fun b z e i=>by
 rw [aG (fun q=>by subst q; rw [h] at e; cases e; exact n i)]; exact e
mutual
theorem bZ.kp {K:Fg} {H H':Hp} (k:Kp H H'):∀ {d:D} {v:V},bZ K H d v->bZ K H' d v
 | .non,_,h=>by unfold bZ at *; exact h
 | .bl _,_,h=>by unfold bZ at *; exact h
 | .int _,_,h=>by unfold bZ at *; exact h
 | .str _,_,h=>by unfold bZ at *; exact h
 | .ref _,_,h=>by unfold bZ at *; exact h
 | .ty _,_,h=>by unfold bZ at *; exact h
 | .tup ds,_,h=>by
  unfold bZ at*
  obtain⟨a,xs,e,t,r⟩:=h
  exact⟨a,xs,e,k.tup t,IsDs.kp k r⟩
 | .rl ds,_,h=>by
  unfold bZ at*
  obtain⟨a,xs,e,t,r⟩:=h
  exact⟨a,xs,e,k.fro t,IsDs.kp k r⟩
theorem IsDs.kp {K:Fg} {H H':Hp} (k:Kp H H'):∀ {ds:List D} {vs:List V},IsDs K H ds vs->IsDs K H' ds vs
 | [],_,h=>by unfold IsDs at *; exact h
 | d::ds,_,h=>by
  unfold IsDs at*
  obtain⟨v,r,e,h1,h2⟩:=h
  exact⟨v,r,e,bZ.kp k h1,IsDs.kp k h2⟩
end
section
variable {K:Fg} {H:Hp}
theorem isInt {i:Int} {v:V}:bZ K H (.int i) v↔v=.int i:=by unfold bZ; exact Iff.rfl
theorem cg {b:Bool} {v:V}:bZ K H (.bl b) v↔v=.bl b:=by unfold bZ; exact Iff.rfl
theorem je {b:Str} {v:V}:bZ K H (.str b) v↔v=.str b:=by unfold bZ; exact Iff.rfl
theorem c8 {v:V}:bZ K H .non v↔v=.non:=by unfold bZ; exact Iff.rfl
theorem aP {a:Addr} {v:V}:bZ K H (.ref a) v↔v=.ref a:=by unfold bZ; exact Iff.rfl
theorem Kw {a:Ty} {v:V}:bZ K H (.ty a) v↔v=.ty a.name:=by unfold bZ; exact Iff.rfl
theorem cz {ds:List D} {v:V}:bZ K H (.tup ds) v↔∃ a xs,v=.ref a/\ka K H a xs/\IsDs K H ds xs:=by unfold bZ; exact Iff.rfl
theorem uQ {ds:List D} {v:V}:bZ K H (.rl ds) v↔∃ a xs,v=.ref a/\HL K H a xs/\IsDs K H ds xs:=by unfold bZ; exact Iff.rfl
theorem iI {vs:List V}:IsDs K H [] vs↔vs=[]:=by unfold IsDs; exact Iff.rfl
theorem cD {d:D} {ds:List D} {vs:List V}:IsDs K H (d::ds) vs↔∃ v r,vs=v::r/\bZ K H d v/\IsDs K H ds r:=by
 constructor
 ·intro h; unfold IsDs at h; exact h
 ·intro h; unfold IsDs; exact h
theorem IsDs.nil:IsDs K H [] []:=iI.mpr rfl
theorem IsDs.cons {d:D} {ds:List D} {v:V} {vs:List V} (h1:bZ K H d v) (h2:IsDs K H ds vs):IsDs K H (d::ds) (v::vs):=cD.mpr ⟨v,vs,rfl,h1,h2⟩
theorem IsDs.length:∀ {ds:List D} {vs:List V},IsDs K H ds vs->ds.length=vs.length
 | [],_,h=>by rw [iI.mp h]; rfl
 | d::ds,_,h=>by
  obtain⟨v,r,rfl,_,h2⟩:=cD.mp h
  rw [List.length_cons,List.length_cons,IsDs.length h2]
theorem IsDs.get:∀ {ds:List D} {vs:List V} {i:Nat} {d:D},IsDs K H ds vs->ds[i]?=some d->∃ v,vs[i]?=some v/\bZ K H d v
 | [],_,_,_,_,e=>by simp at e
 | c::ds,_,0,d,h,e=>by
  obtain⟨v,r,rfl,h1,h2⟩:=cD.mp h
  simp at e
  subst e
  exact⟨v,rfl,h1⟩
 | c::ds,_,i+1,d,h,e=>by
  obtain⟨v,r,rfl,h1,h2⟩:=cD.mp h
  obtain⟨u,q1,q2⟩:=IsDs.get (i:=i) (d:=d) h2 (by simpa using e)
  exact⟨u,by simpa using q1,q2⟩
theorem IsDs.set:∀ {ds:List D} {vs:List V} {d:D} {v:V} (i:Nat),IsDs K H ds vs->bZ K H d v->IsDs K H (ds.set i d) (vs.set i v)
 | [],_,_,_,_,h,_=>by rw [iI.mp h]; exact IsDs.nil
 | c::ds,_,d,v,0,h,hd=>by
  obtain⟨u,r,rfl,h1,h2⟩:=cD.mp h
  exact IsDs.cons hd h2
 | c::ds,_,d,v,i+1,h,hd=>by
  obtain⟨u,r,rfl,h1,h2⟩:=cD.mp h
  exact IsDs.cons h1 (IsDs.set i h2 hd)
theorem IsDs.append:∀ {ds es:List D} {vs us:List V},IsDs K H ds vs->IsDs K H es us->IsDs K H (ds++es) (vs++us)
 | [],_,_,_,h,h'=>by rw [iI.mp h]; exact h'
 | c::ds,_,_,_,h,h'=>by
  obtain⟨u,r,rfl,h1,h2⟩:=cD.mp h
  exact IsDs.cons h1 (IsDs.append h2 h')
theorem IsDs.drop:∀ {ds:List D} {vs:List V} (n:Nat),IsDs K H ds vs->IsDs K H (ds.drop n) (vs.drop n)
 | _,_,0,h=>h
 | [],_,n+1,h=>by rw [iI.mp h]; exact IsDs.nil
 | c::ds,_,n+1,h=>by
  obtain⟨u,r,rfl,h1,h2⟩:=cD.mp h
  exact IsDs.drop n h2
theorem IsDs.take:∀ {ds:List D} {vs:List V} (n:Nat),IsDs K H ds vs->IsDs K H (ds.take n) (vs.take n)
 | _,_,0,h=>by simpa using IsDs.nil
 | [],_,n+1,h=>by rw [iI.mp h]; exact IsDs.nil
 | c::ds,_,n+1,h=>by
  obtain⟨u,r,rfl,h1,h2⟩:=cD.mp h
  exact IsDs.cons h1 (IsDs.take n h2)
end
def jZ (ks:List Int):Int:=reduceHash (Builtin.Tuple.tupleHashOf (ks.map hashInt))
def eT (x:List Int×Addr×Value):DictEntry:=⟨jZ x.1,.ref x.2.1,x.2.2⟩
def lO (es:Array DictEntry) (ep:Nat):Obj:={cls:=.type "dict",dict:=none,data:=.dict es ep,slots:=#[]}
def j7 (a:Addr) (xs:List (List Int×Addr×Value)) (ep:Nat):Heap->Prop:=fun h=>(a == sysModules)=false/\xs.length<=sizeLine/\(xs.map (·.1)).Nodup/\h.get? a=some (lO (xs.map eT).toArray ep)
inductive ED where
 | dT (kvs:List (List Int×D)) (ep:Nat)
 | dK (kvs:List (dG×D))
abbrev lA (K:Fg) (H:Hp):List (List Int×D)->List (List Int×Addr×Value)->Prop:=Paired fun p q=>p.1=q.1/\ka K H q.2.1 (p.1.map V.int)/\∃ v,aF v q.2.2/\bZ K H p.2 v
def nV (K:Fg) (H:Hp) (a:Addr):ED->Prop
 | .dT kvs ep=>∃ xs,H a=some (.ext (j7 a xs ep))/\lA K H kvs xs
 | .dK kvs=>∃ ys,H a=some (.dK ys)/\Paired (fun (p:dG×D) (q:dG×V)=>p.1=q.1/\bZ K H p.2 q.2) kvs ys
theorem lA.kp {K:Fg} {H H':Hp} {kvs:List (List Int×D)} {xs:List (List Int×Addr×Value)} (r:lA K H kvs xs) (k:Kp H H'):lA K H' kvs xs:=
 Paired.mapP r fun _ _ ⟨a,b,v,c,d⟩=>⟨a,k.tup b,v,c,d.kp k⟩
theorem nV.there {K:Fg} {H:Hp} {a:Addr} {g:ED} (h:nV K H a g):∃ o,H a=some o/\¬ JT o:=by
 cases g with
 | dT kvs ep=>obtain⟨xs,e,_⟩:=h; exact⟨_,e,fun z=>z⟩
 | dK kvs=>obtain⟨xs,e,_⟩:=h; exact⟨_,e,fun z=>z⟩
theorem nV.step {K:Fg} {H H':Hp} {a:Addr} {g:ED} (h:nV K H a g) (k:Kp H H') (s:H' a=H a):nV K H' a g:=by
 cases g with
 | dT kvs ep=>obtain⟨xs,e,r⟩:=h; exact⟨xs,s.trans e,r.kp k⟩
 | dK kvs=>obtain⟨xs,e,r⟩:=h; exact⟨xs,s.trans e,Paired.mapP r fun _ _ z=>⟨z.1,z.2.kp k⟩⟩
inductive DO where
 | lst (ds:List D)
 | dic
 | exc (C:Addr)
 | fn (φ:Hp->Prop)
 | tbl (ψ:Hp->Array Value->Prop)
 | gen (g:ED)
abbrev DH:=Addr->Option DO
def put (S:DH) (a:Addr) (o:DO):DH:=fun b=>if b=a then some o else S b
theorem ak {S:DH} {a:Addr} {o:DO}:put S a o a=some o:=by unfold put; rw [if_pos rfl]
theorem bo {S:DH} {a b:Addr} {o:DO} (h:b≠a):put S a o b=S b:=by unfold put; rw [if_neg h]
theorem wY {S:DH} {a:Addr} {o u:DO}:put (put S a o) a u=put S a u:=by funext b; unfold put; split <;> rfl
theorem gJ {S:DH} {a p:Addr} {o:DO} (h:S a=some o) (h':S p=none):a≠p:=by intro e; subst e; rw [h] at h'; cases h'
def yb (K:Fg) (H:Hp) (a:Addr):DO->Prop
 | .lst ds=>∃ xs,H a=some (.lst xs)/\IsDs K H ds xs
 | .dic=>∃ kvs,H a=some (.dK kvs)
 | .exc C=>∃ o u,H a=some (.frz o u)/\o.cls=.ref C
 | .fn φ=>(∃ o u,H a=some (.frz o u))/\∀ H',Kp H H'->φ H'
 | .tbl ψ=>∃ ps,H a=some (.tbl ps)/\∀ H',Kp H H'->ψ H' ps
 | .gen g=>nV K H a g
def Hs (K:Fg) (H:Hp) (S:DH):Prop:=∀ a o,S a=some o->yb K H a o
section
variable {K:Fg} {H H':Hp} {S:DH} {p:Addr}
theorem Hs.lst {ds:List D} (h:Hs K H S) (e:S p=some (.lst ds)):∃ xs,H p=some (.lst xs)/\IsDs K H ds xs:=h p _ e
theorem Hs.free (h:Hs K H S) (e:H p=none):S p=none:=by
 cases q:S p with
 | none=>rfl
 | some o=>
  have z:=h p o q
  cases o with
  | lst ds=>obtain⟨xs,z,_⟩:=z; rw [e] at z; cases z
  | dic=>obtain⟨xs,z⟩:=z; rw [e] at z; cases z
  | exc C=>obtain⟨_,_,z,_⟩:=z; rw [e] at z; cases z
  | fn φ=>obtain⟨⟨_,_,z⟩,_⟩:=z; rw [e] at z; cases z
  | tbl ψ=>obtain⟨_,z,_⟩:=z; rw [e] at z; cases z
  | gen g=>obtain⟨_,z,_⟩:=nV.there z; rw [e] at z; cases z
theorem Hs.step (h:Hs K H S) (k:Kp H H') (s:∀ a o,S a=some o->H' a=H a):Hs K H' S:=fun a o e=>by
 have z:=h a o e
 cases o with
 | lst ds=>obtain⟨xs,z,r⟩:=z; exact⟨xs,by rw [s a _ e]; exact z,r.kp k⟩
 | dic=>obtain⟨xs,z⟩:=z; exact⟨xs,by rw [s a _ e]; exact z⟩
 | exc C=>obtain⟨x,y,z,r⟩:=z; exact⟨x,y,by rw [s a _ e]; exact z,r⟩
 | fn φ=>obtain⟨⟨x,y,z⟩,r⟩:=z; exact⟨⟨x,y,by rw [s a _ e]; exact z⟩,fun H2 k2=>r H2 (k.trans k2)⟩
 | tbl ψ=>obtain⟨ps,z,r⟩:=z; exact⟨ps,by rw [s a _ e]; exact z,fun H2 k2=>r H2 (k.trans k2)⟩
 | gen g=>exact nV.step z k (s a _ e)
theorem Hs.new {o:HO} (h:Hs K H S) (e:H p=none):Hs K (bJ H p o) S:=h.step (Kp.new e) fun a u q=>by
 rw [aG]; intro z; subst z; rw [h.free e] at q; cases q
theorem Hs.newL {xs:List V} {ds:List D} (h:Hs K H S) (e:H p=none) (r:IsDs K H ds xs):Hs K (bJ H p (.lst xs)) (put S p (.lst ds)):=fun a o q=>by
 by_cases z:a=p
 ·subst z
  rw [ak] at q
  cases q
  exact⟨xs,bC,r.kp (Kp.new e)⟩
 ·rw [bo z] at q
  exact(h.new e) a o q
theorem Hs.setL {xs ys:List V} {ds:List D} (h:Hs K H S) (e:H p=some (.lst xs)) (r:IsDs K H ds ys):Hs K (bJ H p (.lst ys)) (put S p (.lst ds)):=fun a o q=>by
 have k:Kp H (bJ H p (.lst ys)):=Kp.mut e (fun z=>z)
 by_cases z:a=p
 ·subst z
  rw [ak] at q
  cases q
  exact⟨ys,bC,r.kp k⟩
 ·rw [bo z] at q
  have w:=h a o q
  cases o with
  | lst ds=>obtain⟨xs,w,r⟩:=w; exact⟨xs,by rw [aG z]; exact w,r.kp k⟩
  | dic=>obtain⟨xs,w⟩:=w; exact⟨xs,by rw [aG z]; exact w⟩
  | exc C=>obtain⟨x,y,w,r⟩:=w; exact⟨x,y,by rw [aG z]; exact w,r⟩
  | fn φ=>obtain⟨⟨x,y,w⟩,r⟩:=w; exact⟨⟨x,y,by rw [aG z]; exact w⟩,fun H2 k2=>r H2 (k.trans k2)⟩
  | tbl ψ=>obtain⟨ps,w,r⟩:=w; exact⟨ps,by rw [aG z]; exact w,fun H2 k2=>r H2 (k.trans k2)⟩
  | gen g=>exact nV.step w k (aG z)
end
abbrev Lo:=List (Option D)
def Lc (K:Fg) (H:Hp):Lo->L2.St->Prop
 | [],σ=>σ=[]
 | none::L,σ=>∃ x r,σ=x::r/\Lc K H L r
 | some d::L,σ=>∃ v r,σ=some v::r/\bZ K H d v/\Lc K H L r
section
variable {K:Fg} {H H':Hp}
theorem Lc.kp (k:Kp H H'):∀ {L:Lo} {σ:L2.St},Lc K H L σ->Lc K H' L σ
 | [],_,h=>h
 | none::L,_,h=>by
  obtain⟨x,r,e,h⟩:=h
  exact⟨x,r,e,Lc.kp k h⟩
 | some d::L,_,h=>by
  obtain⟨v,r,e,h1,h⟩:=h
  exact⟨v,r,e,h1.kp k,Lc.kp k h⟩
theorem Lc.get:∀ {L:Lo} {σ:L2.St} {i:Nat} {d:D},Lc K H L σ->L[i]?=some (some d)->∃ v,σ[i]?=some (some v)/\bZ K H d v
 | [],_,_,_,_,e=>by simp at e
 | none::L,_,0,_,_,e=>by simp at e
 | some c::L,_,0,d,h,e=>by
  obtain⟨v,r,rfl,h1,h⟩:=h
  simp at e
  subst e
  exact⟨v,rfl,h1⟩
 | none::L,_,i+1,d,h,e=>by
  obtain⟨x,r,rfl,h⟩:=h
  obtain⟨u,q1,q2⟩:=Lc.get (i:=i) (d:=d) h (by simpa using e)
  exact⟨u,by simpa using q1,q2⟩
 | some c::L,_,i+1,d,h,e=>by
  obtain⟨v,r,rfl,_,h⟩:=h
  obtain⟨u,q1,q2⟩:=Lc.get (i:=i) (d:=d) h (by simpa using e)
  exact⟨u,by simpa using q1,q2⟩
theorem Lc.set {d:D} {v:V} (hd:bZ K H d v):∀ {L:Lo} {σ:L2.St} (i:Nat),Lc K H L σ->Lc K H (L.set i (some d)) (σ.set i (some v))
 | [],_,_,h=>by
  have e:_=[]:=h
  subst e
  exact rfl
 | none::L,_,0,h=>by
  obtain⟨x,r,rfl,h⟩:=h
  exact⟨v,r,rfl,hd,h⟩
 | some c::L,_,0,h=>by
  obtain⟨x,r,rfl,_,h⟩:=h
  exact⟨v,r,rfl,hd,h⟩
 | none::L,_,i+1,h=>by
  obtain⟨x,r,rfl,h⟩:=h
  exact⟨x,r.set i (some v),rfl,Lc.set hd i h⟩
 | some c::L,_,i+1,h=>by
  obtain⟨x,r,rfl,h1,h⟩:=h
  exact⟨x,r.set i (some v),rfl,h1,Lc.set hd i h⟩
theorem Lc.none:∀ (n:Nat),Lc K H (List.replicate n .none) (List.replicate n .none)
 | 0=>rfl
 | n+1=>⟨_,_,rfl,Lc.none n⟩
theorem Lc.start:∀ {ds:List D} {vs:List V} (n:Nat),IsDs K H ds vs->Lc K H (ds.map some++List.replicate n .none) (vs.map some++List.replicate n .none)
 | [],_,n,h=>by rw [iI.mp h]; exact Lc.none n
 | d::ds,_,n,h=>by
  obtain⟨v,r,rfl,h1,h2⟩:=cD.mp h
  exact⟨v,_,rfl,h1,Lc.start n h2⟩
end
abbrev DK:=D->DH->Prop
abbrev DE:=Lo->DH->DK->Prop
abbrev DT:=Lo->DH->(Bool->DH->Prop)->Prop
abbrev DA:=Lo->DH->(List D->DH->Prop)->Prop
structure nh where
 nx:Lo->DH->Prop
 rt:DK
 bk:Lo->DH->Prop:=fun _ _=>False
 ct:Lo->DH->Prop:=fun _ _=>False
abbrev DS:=nh->Lo->DH->Prop
def up (K:Fg) (g:DE):TE:=fun σ H Q=>∃ L S k,Lc K H L σ/\Hs K H S/\g L S k/\∀ d S' v H',k d S'->Kp H H'->Hs K H' S'->bZ K H' d v->Q v H'
def lD (K:Fg) (g:DT):TT:=fun σ H Q=>∃ L S k,Lc K H L σ/\Hs K H S/\g L S k/\∀ b S' H',k b S'->Kp H H'->Hs K H' S'->Q b H'
def oJ (K:Fg) (g:DA):TA:=fun σ H Q=>∃ L S k,Lc K H L σ/\Hs K H S/\g L S k/\∀ ds S' vs H',k ds S'->Kp H H'->Hs K H' S'->IsDs K H' ds vs->Q vs H'
structure HC (K:Fg) (H:Hp) (M:nh) (N:rj):Prop where
 nx:∀ L S σ H',M.nx L S->Kp H H'->Lc K H' L σ->Hs K H' S->N.nx σ H'
 rt:∀ d S v H',M.rt d S->Kp H H'->Hs K H' S->bZ K H' d v->N.rt v H'
 bk:∀ L S σ H',M.bk L S->Kp H H'->Lc K H' L σ->Hs K H' S->N.bk σ H'
 ct:∀ L S σ H',M.ct L S->Kp H H'->Lc K H' L σ->Hs K H' S->N.ct σ H'
theorem HC.kp {K:Fg} {H H1:Hp} {M:nh} {N:rj} (r:HC K H M N) (k:Kp H H1):HC K H1 M N:=
 ⟨fun L S σ H' h k'=>r.nx L S σ H' h (k.trans k'),fun d S v H' h k'=>r.rt d S v H' h (k.trans k'),fun L S σ H' h k'=>r.bk L S σ H' h (k.trans k'),fun L S σ H' h k'=>r.ct L S σ H' h (k.trans k')⟩
def nG (K:Fg) (g:DS):TS:=fun N σ H=>∃ L S M,Lc K H L σ/\Hs K H S/\g M L S/\HC K H M N
theorem PE.imp {X:Cx} {e:Expr} {t t':TE} (h:PE X e t) (i:∀ σ H Q,t' σ H Q->t σ H Q):PE X e t':=fun pins s σ H Q I q=>h pins s σ H Q I (i σ H Q q)
theorem PT.imp {X:Cx} {e:Expr} {t t':TT} (h:PT X e t) (i:∀ σ H Q,t' σ H Q->t σ H Q):PT X e t':=fun pins s σ H Q I q=>h pins s σ H Q I (i σ H Q q)
theorem PW.imp {X:Cx} {e:Expr} {t t':TT} (h:PW X e t) (i:∀ σ H Q,t' σ H Q->t σ H Q):PW X e t':=fun w pins s σ H Q I q=>h w pins s σ H Q I (i σ H Q q)
theorem PA.imp {X:Cx} {e:List Expr} {t t':TA} (h:PA X e t) (i:∀ σ H Q,t' σ H Q->t σ H Q):PA X e t':=fun pos pins s σ H Q I q=>h pos pins s σ H Q I (i σ H Q q)
theorem PS.imp {X:Cx} {e:Stmt} {t t':TS} (h:PS X e t) (i:∀ N σ H,t' N σ H->t N σ H):PS X e t':=fun pins s σ H Q I q=>h pins s σ H Q I (i Q σ H q)
theorem nH.imp {X:Cx} {e:List Stmt} {t t':TS} (h:nH X e t) (i:∀ N σ H,t' N σ H->t N σ H):nH X e t':=fun pins s σ H Q I q=>h pins s σ H Q I (i Q σ H q)
theorem up.go {K:Fg} {g:DE} {σ:L2.St} {H:Hp} {Q:VK} {L:Lo} {S:DH} {k:DK} (hL:Lc K H L σ) (hS:Hs K H S) (h:g L S k)
  (n:∀ d S' v H',k d S'->Kp H H'->Lc K H' L σ->Hs K H' S'->bZ K H' d v->Q v H'):up K g σ H Q:=
 ⟨L,S,k,hL,hS,h,fun d S' v H' a b c e=>n d S' v H' a b (hL.kp b) c e⟩
theorem lD.go {K:Fg} {g:DT} {σ:L2.St} {H:Hp} {Q:Bool->Hp->Prop} {L:Lo} {S:DH} {k:Bool->DH->Prop} (hL:Lc K H L σ) (hS:Hs K H S) (h:g L S k)
  (n:∀ b S' H',k b S'->Kp H H'->Lc K H' L σ->Hs K H' S'->Q b H'):lD K g σ H Q:=
 ⟨L,S,k,hL,hS,h,fun b S' H' a c e=>n b S' H' a c (hL.kp c) e⟩
theorem oJ.go {K:Fg} {g:DA} {σ:L2.St} {H:Hp} {Q:List V->Hp->Prop} {L:Lo} {S:DH} {k:List D->DH->Prop} (hL:Lc K H L σ) (hS:Hs K H S) (h:g L S k)
  (n:∀ ds S' vs H',k ds S'->Kp H H'->Lc K H' L σ->Hs K H' S'->IsDs K H' ds vs->Q vs H'):oJ K g σ H Q:=
 ⟨L,S,k,hL,hS,h,fun d S' v H' a b c e=>n d S' v H' a b (hL.kp b) c e⟩
section
variable {X:Cx} {a b c:Expr} {ga gb gc:DE} {pos:Pos}
def cP (i:Nat):DE:=fun L S k=>match L[i]? with
 | some (some d)=>k d S
 | _=>False
def dC (d:D):DE:=fun _ S k=>k d S
theorem JA (i:Nat) {x:Str} (hN:X.N[i]?=some x:=by rfl) (hv:JU X.env.scope x:=by first | exact Or.inl rfl | exact Or.inr (Or.inl rfl) | exact Or.inr (Or.inr rfl)) (hd:(x == ("__debug__":Str))=false:=by decide)
  (hcd:(x == ("__classdict__":Str))=false:=by decide):PE X (.Name x pos) (up X.K (cP i)):=
 PE.imp (FT hN hv hd hcd) fun σ H Q ⟨L,S,k,hL,hS,h,n⟩=>by
  unfold cP at h
  split at h
  ·rename_i d e
   obtain⟨v,e1,e2⟩:=hL.get e
   exact⟨v,e1,n d S v H h (Kp.refl H) hS e2⟩
  ·exact h.elim
theorem HK {e:Expr} {d:D} {v:V} (h:PE X e (tC v)) (hd:∀ H,bZ X.K H d v):PE X e (up X.K (dC d)):=
 PE.imp h fun σ H Q ⟨L,S,k,hL,hS,h,n⟩=>n d S v H h (Kp.refl H) hS (hd H)
theorem Jc {i j pos}:PE X (.Constant (.int i) j pos) (up X.K (dC (.int i))):=HK Gs fun _=>isInt.mpr rfl
theorem KH {i j pos}:PE X (.Constant (.bool i) j pos) (up X.K (dC (.bl i))):=HK JO fun _=>cg.mpr rfl
theorem I0 {j pos}:PE X (.Constant .none j pos) (up X.K (dC .non)):=HK Hj fun _=>c8.mpr rfl
theorem HS {i j pos}:PE X (.Constant (.str i) j pos) (up X.K (dC (.str i))):=HK Hk fun _=>je.mpr rfl
def EW:Expr->Bool
 | .Starred _ _=>true
 | _=>false
theorem bW {a:Expr} {es:List Expr} {env:Env} (h:EW a=false):starEach (a::es) env=(false,eval a env)::starEach es env:=by
 cases a <;> first | rfl | cases h
theorem eE {pos:Pos} {env:Env}:∀ {es:List Expr},(es.all fun e=>!EW e)=true->(backTo pos (starEach es env)).any (·.1)=false
 | [],_=>rfl
 | e::es,h=>by
  rw [List.all_cons,Bool.and_eq_true] at h
  rw [bW (by simpa using h.1)]
  exact eE h.2
def iS:DA:=fun _ S k=>k [] S
def bq (g:DE) (t:DA):DA:=fun L S k=>g L S fun d S1=>t L S1 fun ds S2=>k (d::ds) S2
theorem GU:PA X [] (oJ X.K iS):=PA.imp pR fun σ H Q ⟨L,S,k,hL,hS,h,n⟩=>n [] S [] H h (Kp.refl H) hS IsDs.nil
theorem Eb {es:List Expr} {t:DA} (ha:PE X a (up X.K ga)) (hr:PA X es (oJ X.K t)) (hs:starEach (a::es) X.env=(false,eval a X.env)::starEach es X.env:=by exact bW rfl):PA X (a::es) (oJ X.K (bq ga t)):=
 PA.imp (nv ha hr hs) fun σ H Q ⟨L,S,k,hL,hS,h,n⟩=>up.go hL hS h fun d S1 v H1 h1 k1 hL1 hS1 i1=>oJ.go hL1 hS1 h1 fun ds S2 vs H2 h2 k2 hL2 hS2 i2=>
  n (d::ds) S2 (v::vs) H2 h2 (k1.trans k2) hS2 (IsDs.cons (i1.kp k2) i2)
def vC (t:DA):DE:=fun L S k=>t L S fun ds S1=>ds.length<=sizeLine/\k (.tup ds) S1
def Ds (t:DA):DE:=fun L S k=>t L S fun ds S1=>ds.length<=sizeLine/\∀ p,S1 p=none->k (.ref p) (put S1 p (.lst ds))
theorem JP {es:List Expr} {x1} {t:DA} (h:PA X es (oJ X.K t)):PE X (.Tuple es x1 pos) (up X.K (vC t)):=
 PE.imp (G' h) fun σ H Q ⟨L,S,k,hL,hS,h,n⟩=>oJ.go hL hS h fun ds S1 vs H1 h1 k1 hL1 hS1 i1=>by
  refine⟨by rw [<- i1.length]; exact h1.1,fun p hp=>?_⟩
  have k2:Kp H1 (bJ H1 p (.tup vs)):=Kp.new hp
  exact n (.tup ds) S1 _ _ h1.2 (k1.trans k2) (hS1.new hp) (cz.mpr ⟨p,vs,rfl,ka.of bC,i1.kp k2⟩)
theorem JQ {es:List Expr} {t:DA} (h:PA X es (oJ X.K t)):PE X (.List es pos) (up X.K (Ds t)):=
 PE.imp (G7 h) fun σ H Q ⟨L,S,k,hL,hS,h,n⟩=>oJ.go hL hS h fun ds S1 vs H1 h1 k1 hL1 hS1 i1=>by
  refine⟨by rw [<- i1.length]; exact h1.1,fun p hp=>?_⟩
  exact n (.ref p) _ _ _ (h1.2 p (hS1.free hp)) (k1.trans (Kp.new hp)) (hS1.newL hp i1) (aP.mpr rfl)
abbrev D2:=D->D->DH->DK->Prop
def j5 (K:Fg) (r:D2):R2:=fun x y H Q=>∃ d e S k,bZ K H d x/\bZ K H e y/\Hs K H S/\r d e S k/\∀ d' S' v H',k d' S'->Kp H H'->Hs K H' S'->bZ K H' d' v->Q v H'
def kB (r:D2) (ga gb:DE):DE:=fun L S k=>ga L S fun x S1=>gb L S1 fun y S2=>r x y S2 k
theorem ug {K:Fg} {r:D2}:∀ σ H Q,up K (kB r ga gb) σ H Q->HY (j5 K r) (up K ga) (up K gb) σ H Q:=fun σ H Q ⟨L,S,k,hL,hS,h,n⟩=>
 up.go hL hS h fun d S1 v H1 h1 k1 hL1 hS1 i1=>up.go hL1 hS1 h1 fun e S2 u H2 h2 k2 hL2 hS2 i2=>
  ⟨d,e,S2,k,i1.kp k2,i2,hS2,h2,fun d' S' v H' q k3 z1 z2=>n d' S' v H' q (k1.trans (k2.trans k3)) z1 z2⟩
theorem KU {op:Operator} {r:D2} (ho:fH X (binaryOp op) (j5 X.K r)) (ha:PE X a (up X.K ga)) (hb:PE X b (up X.K gb)):PE X (.BinOp a op b pos) (up X.K (kB r ga gb)):=PE.imp (HU ho ha hb) ug
theorem IY {op:CmpOp} {r:D2} (ho:fH X (compareOp op) (j5 X.K r)) (ha:PE X a (up X.K ga)) (hb:PE X b (up X.K gb)) (hm:behindInMarks op b=false):PE X (.Compare a [op] [b] pos) (up X.K (kB r ga gb)):=PE.imp (Dw ho ha hb hm) ug
theorem Kr {r:D2} (hr:z6 X (j5 X.K r)) (ha:PE X a (up X.K ga)) (hb:PE X b (up X.K gb)) (hs:sF b):PE X (.Subscript a b pos) (up X.K (kB r ga gb)):=PE.imp (JG hr ha hb hs) ug
abbrev D1:=D->DH->DK->Prop
def Ki (K:Fg) (r:D1):V->Hp->VK->Prop:=fun x H Q=>∃ d S k,bZ K H d x/\Hs K H S/\r d S k/\∀ d' S' v H',k d' S'->Kp H H'->Hs K H' S'->bZ K H' d' v->Q v H'
def HF (r:D1) (ga:DE):DE:=fun L S k=>ga L S fun x S1=>r x S1 k
theorem KF {op:UnaryOp} {r:D1} (ho:HG X (unaryOp op) (Ki X.K r)) (ha:PE X a (up X.K ga)):PE X (.UnaryOp op a pos) (up X.K (HF r ga)):=
 PE.imp (Iy ho ha) fun σ H Q ⟨L,S,k,hL,hS,h,n⟩=>up.go hL hS h fun d S1 v H1 h1 k1 hL1 hS1 i1=>⟨d,S1,k,i1,hS1,h1,fun d' S' v H' q k3 z1 z2=>n d' S' v H' q (k1.trans k3) z1 z2⟩
def pH (g:DE):DT:=fun L S k=>g L S fun d S1=>match d with
 | .bl c=>k c S1
 | _=>False
theorem u6 {K:Fg} {g:DE}:∀ σ H Q,lD K (pH g) σ H Q->E9 (up K g) σ H Q:=fun σ H Q ⟨L,S,k,hL,hS,h,n⟩=>
 up.go hL hS h fun d S1 v H1 h1 k1 hL1 hS1 i1=>by
  cases d with
  | bl c=>
   have e:=cg.mp i1
   subst e
   exact⟨c,rfl,n c S1 H1 h1 k1 hS1⟩
  | _=>exact(show False from h1).elim
theorem Fq {op:CmpOp} {r:D2} (ho:fH X (compareOp op) (j5 X.K r)) (ha:PE X a (up X.K ga)) (hb:PE X b (up X.K gb)) (hm:behindInMarks op b=false):PT X (.Compare a [op] [b] pos) (lD X.K (pH (kB r ga gb))):=
 PT.imp (PT.imp (Df ho ha hb hm) fun σ H Q h=>ug σ H _ h) u6
theorem F5 {e:Expr} {g:DE} (h:PE X e (up X.K g)) (he:∀ whole,isTrue e X.env whole=(do let v <- whole; standAt e.pos; holding [v] (truthy v)):=by intro _; rfl):PT X e (lD X.K (pH g)):=
 PT.imp (Hm h he) u6
variable {tA tB':DT} {ao:List Expr}
def zQ (t u:DT):DT:=fun L S k=>t L S fun c S1=>if c=true then u L S1 k else k false S1
def Iz (t u:DT):DT:=fun L S k=>t L S fun c S1=>if c=true then k true S1 else u L S1 k
def E_ (t:DT):DT:=fun L S k=>t L S fun c S1=>k (!c) S1
theorem Dx (ha:PT X a (lD X.K tA)):PW X (.BoolOp .And [a] pos) (lD X.K tA):=Dj ha
theorem FE (ha:PT X a (lD X.K tA)):PW X (.BoolOp .Or [a] pos) (lD X.K tA):=Hg ha
theorem Gj (ha:PT X a (lD X.K tA)) (hb:PW X (.BoolOp .And (b::ao) pos) (lD X.K tB')):PW X (.BoolOp .And (a::b::ao) pos) (lD X.K (zQ tA tB')):=
 PW.imp (Gx ha hb) fun σ H Q ⟨L,S,k,hL,hS,h,n⟩=>lD.go hL hS h fun c S1 H1 h1 k1 hL1 hS1=>by
  cases c with
  | true=>
   rw [if_pos rfl] at h1 ⊢
   exact lD.go hL1 hS1 h1 fun c2 S2 H2 h2 k2 _ hS2=>n c2 S2 H2 h2 (k1.trans k2) hS2
  | false=>
   rw [if_neg Bool.false_ne_true] at h1 ⊢
   exact n false S1 H1 h1 k1 hS1
theorem IH (ha:PT X a (lD X.K tA)) (hb:PW X (.BoolOp .Or (b::ao) pos) (lD X.K tB')):PW X (.BoolOp .Or (a::b::ao) pos) (lD X.K (Iz tA tB')):=
 PW.imp (IG ha hb) fun σ H Q ⟨L,S,k,hL,hS,h,n⟩=>lD.go hL hS h fun c S1 H1 h1 k1 hL1 hS1=>by
  cases c with
  | true=>
   rw [if_pos rfl] at h1 ⊢
   exact n true S1 H1 h1 k1 hS1
  | false=>
   rw [if_neg Bool.false_ne_true] at h1 ⊢
   exact lD.go hL1 hS1 h1 fun c2 S2 H2 h2 k2 _ hS2=>n c2 S2 H2 h2 (k1.trans k2) hS2
theorem GN (ha:PT X a (lD X.K tA)):PT X (.UnaryOp .Not a pos) (lD X.K (E_ tA)):=
 PT.imp (GR ha) fun σ H Q ⟨L,S,k,hL,hS,h,n⟩=>lD.go hL hS h fun c S1 H1 h1 k1 hL1 hS1=>n _ S1 H1 h1 k1 hS1
def BK (ga gb:DE):DE:=fun L S k=>ga L S fun x S1=>match x with
 | .bl c=>if c=true then gb L S1 k else k (.bl false) S1
 | _=>False
theorem I_ {op} (h:PE X a (up X.K ga)):PE X (.BoolOp op [a] pos) (up X.K ga):=F4 h
theorem Ir (ha:PE X a (up X.K ga)) (hb:PE X (.BoolOp .And (b::ao) pos) (up X.K gb)):PE X (.BoolOp .And (a::b::ao) pos) (up X.K (BK ga gb)):=
 PE.imp (GG ha hb) fun σ H Q ⟨L,S,k,hL,hS,h,n⟩=>up.go hL hS h fun d S1 v H1 h1 k1 hL1 hS1 i1=>by
  cases d with
  | bl c=>
   have e:=cg.mp i1
   subst e
   refine⟨c,rfl,?_⟩
   have h1:if c=true then _ else _:=h1
   cases c with
   | true=>
    rw [if_pos rfl] at h1 ⊢
    exact up.go hL1 hS1 h1 fun d2 S2 v2 H2 h2 k2 _ hS2 i2=>n d2 S2 v2 H2 h2 (k1.trans k2) hS2 i2
   | false=>
    rw [if_neg Bool.false_ne_true] at h1 ⊢
    exact n _ S1 _ H1 h1 k1 hS1 (cg.mpr rfl)
  | _=>exact(show False from h1).elim
def Lg (t:DT) (ga gb:DE):DE:=fun L S k=>t L S fun c S1=>if c=true then ga L S1 k else gb L S1 k
theorem J4 {c:Expr} (hc:PT X c (lD X.K tA)) (ha:PE X a (up X.K ga)) (hb:PE X b (up X.K gb)):PE X (.IfExp c a b pos) (up X.K (Lg tA ga gb)):=
 PE.imp (BO hc ha hb) fun σ H Q ⟨L,S,k,hL,hS,h,n⟩=>lD.go hL hS h fun d S1 H1 h1 k1 hL1 hS1=>by
  cases d with
  | true=>
   rw [if_pos rfl] at h1 ⊢
   exact up.go hL1 hS1 h1 fun d2 S2 v2 H2 h2 k2 _ hS2 i2=>n d2 S2 v2 H2 h2 (k1.trans k2) hS2 i2
  | false=>
   rw [if_neg Bool.false_ne_true] at h1 ⊢
   exact up.go hL1 hS1 h1 fun d2 S2 v2 H2 h2 k2 _ hS2 i2=>n d2 S2 v2 H2 h2 (k1.trans k2) hS2 i2
end
section
variable {X:Cx}
theorem nc {K:Fg} {H:Hp} {S:DH} {k:DK} {Q:VK} {d:D} {v:V} (n:∀ d' S' v H',k d' S'->Kp H H'->Hs K H' S'->bZ K H' d' v->Q v H') (hS:Hs K H S) (h:k d S) (i:bZ K H d v):Q v H:=n d S v H h (Kp.refl H) hS i
def Gf (C:Int->Int->Prop) (g:Int->Int->D):D2:=fun d e S k=>match d,e with
 | .int i,.int j=>C i j/\k (g i j) S
 | _,_=>False
theorem yC {f:Value->Value->Sem Value} {C:Int->Int->Prop} {g:Int->Int->D} {gV:Int->Int->V} (ho:fH X f (rI C gV)) (hg:∀ i j H,bZ X.K H (g i j) (gV i j)):fH X f (j5 X.K (Gf C g)):=by
 intro pins s σ H x y v u Q I rx ry h
 obtain⟨d,e,S,k,i1,i2,hS,r,n⟩:=h
 cases d with
 | int i=>
  cases e with
  | int j=>
   have e1:=isInt.mp i1
   have e2:=isInt.mp i2
   subst e1
   subst e2
   exact ho pins s σ H _ _ v u Q I rx ry ⟨i,j,rfl,rfl,r.1,nc n hS r.2 (hg i j H)⟩
  | _=>exact(show False from r).elim
 | _=>exact(show False from r).elim
def BZ (g:Int->Int->D):D2:=fun d e S k=>match d,e with
 | .int i,.int j=>k (g i j) S
 | _,_=>False
theorem w_ {f:Value->Value->Sem Value} {g:Int->Int->D} {gV:Int->Int->V} (ho:fH X f (EV gV)) (hg:∀ i j H,bZ X.K H (g i j) (gV i j)):fH X f (j5 X.K (BZ g)):=by
 intro pins s σ H x y v u Q I rx ry h
 obtain⟨d,e,S,k,i1,i2,hS,r,n⟩:=h
 cases d with
 | int i=>
  cases e with
  | int j=>
   have e1:=isInt.mp i1
   have e2:=isInt.mp i2
   subst e1
   subst e2
   exact ho pins s σ H _ _ v u Q I rx ry ⟨i,j,rfl,rfl,nc n hS r (hg i j H)⟩
  | _=>exact(show False from r).elim
 | _=>exact(show False from r).elim
def xj (i j:Int):Prop:=j≠0/\j.natAbs.log2 < 9000
abbrev Kb:D2:=BZ fun i j=>.int (i - j)
abbrev Ib:D2:=Gf IntMulOk fun i j=>.int (i*j)
abbrev Jm:D2:=Gf xj fun i j=>.int (i.fdiv j)
abbrev KL:D2:=Gf (fun _ j=>j≠0) fun i j=>.int (i.fmod j)
abbrev Kc:D2:=Gf yj fun i j=>.int (i ^ j.toNat)
abbrev Km:D2:=Gf yj fun i j=>.int (i*2 ^ j.toNat)
abbrev Lw:D2:=BZ fun i j=>.bl (decide (i < j))
abbrev Lr:D2:=BZ fun i j=>.bl (decide (j < i))
abbrev LU:D2:=BZ fun i j=>.bl (decide (j<=i))
theorem j6:fH X (binaryOp .Sub) (j5 X.K Kb):=w_ G3 fun _ _ _=>isInt.mpr rfl
theorem aV:fH X (binaryOp .Mult) (j5 X.K Ib):=yC (C:=IntMulOk) (gV:=fun i j=>.int (i*j)) (HR fun _ _ _ _ _ _ _ hc q=>mul_int q hc) fun _ _ _=>isInt.mpr rfl
theorem lK:fH X (binaryOp .FloorDiv) (j5 X.K Jm):=yC (C:=xj) (gV:=fun i j=>.int (i.fdiv j)) (HR fun _ _ _ _ _ _ _ hc q=>floordiv_int hc.1 q (.inl (PyProof.noPylong_of_log2 hc.2))) fun _ _ _=>isInt.mpr rfl
theorem mK:fH X (binaryOp .Mod) (j5 X.K KL):=yC CM fun _ _ _=>isInt.mpr rfl
theorem EG:fH X (binaryOp .Pow) (j5 X.K Kc):=yC FA fun _ _ _=>isInt.mpr rfl
theorem Jq:fH X (binaryOp .LShift) (j5 X.K Km):=yC Fi fun _ _ _=>isInt.mpr rfl
theorem xY:fH X (compareOp .Lt) (j5 X.K Lw):=w_ Jd fun _ _ _=>cg.mpr rfl
theorem AG:fH X (compareOp .Gt) (j5 X.K Lr):=w_ IK fun _ _ _=>cg.mpr rfl
theorem KZ:fH X (compareOp .GtE) (j5 X.K LU):=w_ Js fun _ _ _=>cg.mpr rfl
def CA:D2:=fun d e S k=>match d,e with
 | .int i,.int j=>k (.int (i+j)) S
 | .str x,.str y=>x.length+y.length<=sizeLine/\k (.str (x++y)) S
 | .tup xs,.tup ys=>xs≠[]/\ys≠[]/\xs.length+ys.length<=sizeLine/\k (.tup (xs++ys)) S
 | .ref a,.ref b=>∃ xs ys,S a=some (.lst xs)/\S b=some (.lst ys)/\xs.length+ys.length<=sizeLine/\∀ p,S p=none->k (.ref p) (put S p (.lst (xs++ys)))
 | _,_=>False
theorem nQ {K:Fg} {H:Hp} {ds:List D} {vs:List V} (i:IsDs K H ds vs) (h:ds≠[]):vs≠[]:=by
 intro e
 subst e
 have:=i.length
 exact h (List.length_eq_zero_iff.mp this)
theorem cB:fH X (binaryOp .Add) (j5 X.K CA):=by
 intro pins s σ H x y v u Q I rx ry h
 obtain⟨d,e,S,k,i1,i2,hS,r,n⟩:=h
 cases d with
 | int i=>
  cases e with
  | int j=>
   have e1:=isInt.mp i1
   have e2:=isInt.mp i2
   subst e1
   subst e2
   exact Ga pins s σ H _ _ v u Q I rx ry ⟨i,j,rfl,rfl,nc n hS r (isInt.mpr rfl)⟩
  | _=>exact(show False from r).elim
 | str i=>
  cases e with
  | str j=>
   have e1:=je.mp i1
   have e2:=je.mp i2
   subst e1
   subst e2
   exact ww pins s σ H _ _ v u Q I rx ry ⟨i,j,rfl,rfl,r.1,nc n hS r.2 (je.mpr rfl)⟩
  | _=>exact(show False from r).elim
 | tup xs=>
  cases e with
  | tup ys=>
   obtain⟨a,vs,rfl,t1,j1⟩:=cz.mp i1
   obtain⟨b,us,rfl,t2,j2⟩:=cz.mp i2
   obtain⟨h1,h2,h3,r⟩:=r
   refine xD pins s σ H _ _ v u Q I rx ry ⟨a,b,vs,us,rfl,rfl,t1,t2,nQ j1 h1,by rw [<- j1.length,<- j2.length]; exact h3,fun z=>absurd z (nQ j2 h2),fun _ p hp=>?_⟩
   have kp:Kp H (bJ H p (.tup (vs++us))):=Kp.new hp
   exact n _ S _ _ r kp (hS.new hp) (cz.mpr ⟨p,_,rfl,ka.of bC,(j1.append j2).kp kp⟩)
  | _=>exact(show False from r).elim
 | ref a=>
  cases e with
  | ref b=>
   have e1:=aP.mp i1
   have e2:=aP.mp i2
   subst e1
   subst e2
   obtain⟨xs,ys,h1,h2,h3,r⟩:=r
   obtain⟨vs,q1,j1⟩:=hS.lst h1
   obtain⟨us,q2,j2⟩:=hS.lst h2
   refine F9 pins s σ H _ _ v u Q I rx ry ⟨a,b,vs,us,rfl,rfl,q1,q2,by rw [<- j1.length,<- j2.length]; exact h3,fun p hp=>?_⟩
   exact n _ _ _ _ (r p (hS.free hp)) (Kp.new hp) (hS.newL hp (j1.append j2)) (aP.mpr rfl)
  | _=>exact(show False from r).elim
 | _=>exact(show False from r).elim
def HI:D->D->Option Bool
 | .int i,.int j=>some (decide (i=j))
 | .bl i,.bl j=>some (decide (i=j))
 | .str i,.str j=>some (decide (i=j))
 | _,_=>none
def JZ:D2:=fun d e S k=>match HI d e with
 | some b=>k (.bl b) S
 | none=>False
def JS:D2:=fun d e S k=>match HI d e with
 | some b=>k (.bl (!b)) S
 | none=>False
theorem EE {K:Fg} {H:Hp} {d e:D} {x y:V} {b:Bool} (h:HI d e=some b) (i1:bZ K H d x) (i2:bZ K H e y):FU x y=true/\decide (x=y)=b:=by
 unfold HI at h
 split at h
 ·have e1:=isInt.mp i1
  have e2:=isInt.mp i2
  subst e1; subst e2
  cases h
  exact⟨rfl,by simp⟩
 ·have e1:=cg.mp i1
  have e2:=cg.mp i2
  subst e1; subst e2
  cases h
  exact⟨rfl,by simp⟩
 ·have e1:=je.mp i1
  have e2:=je.mp i2
  subst e1; subst e2
  cases h
  exact⟨rfl,by simp⟩
 ·cases h
theorem gE:fH X (compareOp .Eq) (j5 X.K JZ):=by
 intro pins s σ H x y v u Q I rx ry h
 obtain⟨d,e,S,k,i1,i2,hS,r,n⟩:=h
 unfold JZ at r
 cases q:HI d e with
 | none=>rw [q] at r; exact r.elim
 | some b=>
  rw [q] at r
  obtain⟨h1,h2⟩:=EE q i1 i2
  exact Iq pins s σ H _ _ v u Q I rx ry ⟨h1,by rw [h2]; exact nc n hS r (cg.mpr rfl)⟩
theorem yl:fH X (compareOp .NotEq) (j5 X.K JS):=by
 intro pins s σ H x y v u Q I rx ry h
 obtain⟨d,e,S,k,i1,i2,hS,r,n⟩:=h
 unfold JS at r
 cases q:HI d e with
 | none=>rw [q] at r; exact r.elim
 | some b=>
  rw [q] at r
  obtain⟨h1,h2⟩:=EE q i1 i2
  exact JK pins s σ H _ _ v u Q I rx ry ⟨h1,by rw [h2]; exact nc n hS r (cg.mpr rfl)⟩
def vT:D->Bool
 | .non=>true
 | _=>false
def Lh:D2:=fun d e S k=>match d,e with
 | .bl c,.bl b=>k (.bl (c == b)) S
 | d,.non=>k (.bl (vT d)) S
 | _,_=>False
def wl:D2:=fun d e S k=>match d,e with
 | .bl c,.bl b=>k (.bl (!(c == b))) S
 | d,.non=>k (.bl (!vT d)) S
 | _,_=>False
theorem uT {K:Fg} {H:Hp} {d:D} {x:V} (i:bZ K H d x):decide (x=.non)=vT d:=by
 cases d with
 | non=>rw [c8.mp i]; rfl
 | bl b=>rw [cg.mp i]; rfl
 | int b=>rw [isInt.mp i]; rfl
 | str b=>rw [je.mp i]; rfl
 | ref b=>rw [aP.mp i]; rfl
 | ty b=>rw [Kw.mp i]; rfl
 | tup b=>obtain⟨a,xs,rfl,_⟩:=cz.mp i; rfl
 | rl b=>obtain⟨a,xs,rfl,_⟩:=uQ.mp i; rfl
theorem BV:fH X (compareOp .Is) (j5 X.K Lh):=by
 intro pins s σ H x y v u Q I rx ry h
 obtain⟨d,e,S,k,i1,i2,hS,r,n⟩:=h
 unfold Lh at r
 split at r
 ·rename_i c b
  have e1:=cg.mp i1
  have e2:=cg.mp i2
  subst e1; subst e2
  cases rx; cases ry
  exact is_bool ⟨.bl _,H,I,rfl,nc n hS r (cg.mpr rfl)⟩
 ·have e2:=c8.mp i2
  exact GO pins s σ H _ _ v u Q I rx ry ⟨e2,by rw [uT i1]; exact nc n hS r (cg.mpr rfl)⟩
 ·exact r.elim
theorem xK:fH X (compareOp .IsNot) (j5 X.K wl):=by
 intro pins s σ H x y v u Q I rx ry h
 obtain⟨d,e,S,k,i1,i2,hS,r,n⟩:=h
 unfold wl at r
 split at r
 ·rename_i c b
  have e1:=cg.mp i1
  have e2:=cg.mp i2
  subst e1; subst e2
  cases rx; cases ry
  exact isnot_bool ⟨.bl _,H,I,rfl,nc n hS r (cg.mpr rfl)⟩
 ·have e2:=c8.mp i2
  exact CS pins s σ H _ _ v u Q I rx ry ⟨e2,by rw [uT i1]; exact nc n hS r (cg.mpr rfl)⟩
 ·exact r.elim
def Fj:D1:=fun d S k=>match d with
 | .int i=>k (.int (-i)) S
 | _=>False
theorem fg:HG X (unaryOp .USub) (Ki X.K Fj):=by
 intro pins s σ H x v Q I rx h
 obtain⟨d,S,k,i1,hS,r,n⟩:=h
 cases d with
 | int i=>
  have e1:=isInt.mp i1
  subst e1
  exact F2 pins s σ H _ v Q I rx ⟨i,rfl,nc n hS r (isInt.mpr rfl)⟩
 | _=>exact(show False from r).elim
def vV:D2:=fun d e S k=>match d,e with
 | .tup ds,.int i=>(match atI ds i with
  | some c=>k c S
  | none=>False)
 | .rl ds,.int i=>(match atI ds i with
  | some c=>k c S
  | none=>False)
 | .ref a,.int i=>(match S a with
  | some (.lst ds)=>(match atI ds i with
   | some c=>k c S
   | none=>False)
  | _=>False)
 | _,_=>False
theorem IsDs.atI {K:Fg} {H:Hp} {ds:List D} {vs:List V} {i:Int} {d:D} (r:IsDs K H ds vs) (h:atI ds i=some d):∃ v,L2.atI vs i=some v/\bZ K H d v:=by
 unfold L2.atI at h ⊢
 rw [<- r.length]
 cases q:AA ds.length i with
 | none=>rw [q] at h; cases h
 | some j=>
  rw [q] at h
  exact r.get h
theorem KS:z6 X (j5 X.K vV):=by
 intro value slice pins s σ H x y v u Q I rx ry h hs
 obtain⟨d,e,S,k,i1,i2,hS,r,n⟩:=h
 cases e with
 | int i=>
  have e2:=isInt.mp i2
  subst e2
  cases d with
  | tup ds=>
   obtain⟨a,vs,rfl,t,j⟩:=cz.mp i1
   cases q:atI ds i with
   | none=>simp only [vV,q] at r
   | some c=>
    simp only [vV,q] at r
    obtain⟨w,e1,e2⟩:=j.atI q
    exact FF value slice pins s σ H _ _ v u Q I rx ry ⟨a,vs,i,w,rfl,rfl,t,e1,nc n hS r e2⟩ hs
  | rl ds=>
   obtain⟨a,vs,rfl,t,j⟩:=uQ.mp i1
   cases q:atI ds i with
   | none=>simp only [vV,q] at r
   | some c=>
    simp only [vV,q] at r
    obtain⟨w,e1,e2⟩:=j.atI q
    exact xA value slice pins s σ H _ _ v u Q I rx ry ⟨a,vs,i,w,rfl,rfl,t.sq,e1,nc n hS r e2⟩ hs
  | ref a=>
   have e1:=aP.mp i1
   subst e1
   cases z:S a with
   | none=>simp only [vV,z] at r
   | some o=>
    cases o with
    | dic=>simp only [vV,z] at r
    | exc _=>simp only [vV,z] at r
    | fn _=>simp only [vV,z] at r
    | tbl _=>simp only [vV,z] at r
    | gen _=>simp only [vV,z] at r
    | lst ds=>
     obtain⟨vs,hl,j⟩:=hS.lst z
     cases q:atI ds i with
     | none=>simp only [vV,z,q] at r
     | some c=>
      simp only [vV,z,q] at r
      obtain⟨w,e1,e2⟩:=j.atI q
      exact xA value slice pins s σ H _ _ v u Q I rx ry ⟨a,vs,i,w,rfl,rfl,jf.of hl,e1,nc n hS r e2⟩ hs
  | _=>exact(show False from r).elim
 | _=>
  cases d <;> exact(show False from r).elim
end
abbrev b_:=List D->DH->DK->Prop
def rD (K:Fg) (r:b_):List V->Hp->VK->Prop:=fun xs H Q=>∃ ds S k,IsDs K H ds xs/\Hs K H S/\r ds S k/\∀ d' S' v H',k d' S'->Kp H H'->Hs K H' S'->bZ K H' d' v->Q v H'
def fz (r:b_) (t:DA):DE:=fun L S k=>t L S fun ds S1=>r ds S1 k
section
variable {X:Cx} {x:Str} {p pos:Pos} {e:Expr} {es:List Expr} {t:DA} {id T:String} {r:b_}
theorem va {K:Fg}:∀ σ H Q,up K (fz r t) σ H Q->J0 (rD K r) (oJ K t) σ H Q:=fun σ H Q ⟨L,S,k,hL,hS,h,n⟩=>
 oJ.go hL hS h fun ds S1 vs H1 h1 k1 hL1 hS1 i1=>⟨ds,S1,k,i1,hS1,h1,fun d' S' v H' q k3 z1 z2=>n d' S' v H' q (k1.trans k3) z1 z2⟩
theorem C_ (hc:cA X (.builtin id) (rD X.K r)) (hg:Gl X x) (hm:X.mg x=none) (hv:bootBuiltins x=some (.builtin id)) (ha:PA X (e::es) (oJ X.K t)) (hn:x≠"__name__":=by decide) (hdb:(x == ("__debug__":Str))=false:=by decide)
  (he:starEach (e::es) X.env=(false,eval e X.env)::starEach es X.env:=by exact bW rfl) (hpl:(backTo pos (starEach es X.env)).any (·.1)=false:=by exact eE rfl):PE X (.Call (.Name x p) (e::es) [] pos) (up X.K (fz r t)):=
 PE.imp (uH hc hg hm hv ha hn hdb he hpl) va
theorem C5 (hc:cA X (.type T) (rD X.K r)) (hg:Gl X x) (hm:X.mg x=none) (hv:bootBuiltins x=some (.type T)) (ha:PA X (e::es) (oJ X.K t)) (hn:x≠"__name__":=by decide) (hdb:(x == ("__debug__":Str))=false:=by decide)
  (he:starEach (e::es) X.env=(false,eval e X.env)::starEach es X.env:=by exact bW rfl) (hpl:(backTo pos (starEach es X.env)).any (·.1)=false:=by exact eE rfl):PE X (.Call (.Name x p) (e::es) [] pos) (up X.K (fz r t)):=
 PE.imp (nL hc hg hm hv ha hn hdb he hpl) va
def cY (K:Fg) (F:b_):Sp:=fun vs H Q _=>rD K F vs H Q
structure aQ (P:Program) (w:World) (K:Fg) (mg:Str->Option Value) (base:Heap) (x:Str) (n:Nat) (F:b_):Prop where
 ex:∃ f fd ps,aH P w K mg base cQ n f fd ps (cY K F)/\mg x=some (.ref f)/\PySem.W.keepIn K (.ref f)=true/\qg K fd ps []
theorem Hx {n:Nat} {F:b_} (c:aQ X.prog X.w X.K X.mg X.base x n F) (hr:cH n X.A) (hg:Gl X x) (ha:PA X (e::es) (oJ X.K t)) (hdb:(x == ("__debug__":Str))=false:=by decide)
  (he:starEach (e::es) X.env=(false,eval e X.env)::starEach es X.env:=by exact bW rfl) (hpl:(backTo pos (starEach es X.env)).any (·.1)=false:=by exact eE rfl):
  PE X (.Call (.Name x p) (e::es) [] pos) (up X.K (fz F t)):=by
 obtain⟨f,fd,ps,F1,h1,h2,h3⟩:=c.ex
 refine PE.imp (DP F1 hr hg h1 h2 h3 .nil Ia ha hdb he hpl) fun σ H Q ⟨L,S,k,hL,hS,h,n⟩=>?_
 refine oJ.go hL hS h fun ds S1 vs H1 h1 k1 hL1 hS1 i1=>?_
 show cY X.K F (vs++[]) H1 Q E0
 rw [List.append_nil]
 exact⟨ds,S1,k,i1,hS1,h1,fun d' S' v H' q k3 z1 z2=>n d' S' v H' q (k1.trans k3) z1 z2⟩
def JL:b_:=fun ds S k=>match ds with
 | [.int i]=>k (.int (if i < 0 then -i else i)) S
 | _=>False
theorem gO {K:Fg} {H:Hp} {d:D} {xs:List V} (h:IsDs K H [d] xs):∃ x,xs=[x]/\bZ K H d x:=by
 obtain⟨v,r,rfl,h1,h2⟩:=cD.mp h
 rw [iI.mp h2]
 exact⟨v,rfl,h1⟩
theorem uV {K:Fg} {H:Hp} {d e:D} {xs:List V} (h:IsDs K H [d,e] xs):∃ x y,xs=[x,y]/\bZ K H d x/\bZ K H e y:=by
 obtain⟨v,r,rfl,h1,h2⟩:=cD.mp h
 obtain⟨y,rfl,h3⟩:=gO h2
 exact⟨v,y,rfl,h1,h3⟩
theorem wU:cA X (.builtin "abs") (rD X.K JL):=by
 intro pins s σ H xs us Q I rs h
 obtain⟨ds,S,k,i,hS,r,n⟩:=h
 unfold JL at r
 split at r
 ·obtain⟨x,rfl,i1⟩:=gO i
  have e1:=isInt.mp i1
  subst e1
  exact A1 pins s σ H _ us Q I rs ⟨_,rfl,nc n hS r (isInt.mpr rfl)⟩
 ·exact r.elim
def F7:b_:=fun ds S k=>match ds with
 | [.tup xs]=>k (.int xs.length) S
 | [.rl xs]=>k (.int xs.length) S
 | [.ref a]=>(match S a with
  | some (.lst xs)=>k (.int xs.length) S
  | _=>False)
 | _=>False
theorem Iu:cA X (.builtin "len") (rD X.K F7):=by
 intro pins s σ H xs us Q I rs h
 obtain⟨ds,S,k,i,hS,r,n⟩:=h
 unfold F7 at r
 split at r
 ·obtain⟨x,rfl,i1⟩:=gO i
  obtain⟨a,vs,rfl,t,j⟩:=cz.mp i1
  exact jQ pins s σ H _ us Q I rs ⟨a,vs,rfl,.inr t,by rw [<- j.length]; exact nc n hS r (isInt.mpr rfl)⟩
 ·obtain⟨x,rfl,i1⟩:=gO i
  obtain⟨a,vs,rfl,t,j⟩:=uQ.mp i1
  exact jQ pins s σ H _ us Q I rs ⟨a,vs,rfl,.inl t.sq,by rw [<- j.length]; exact nc n hS r (isInt.mpr rfl)⟩
 ·obtain⟨x,rfl,i1⟩:=gO i
  have e1:=aP.mp i1
  subst e1
  split at r
  ·rename_i z
   obtain⟨vs,hl,j⟩:=hS.lst z
   exact jQ pins s σ H _ us Q I rs ⟨_,vs,rfl,.inl (jf.of hl),by rw [<- j.length]; exact nc n hS r (isInt.mpr rfl)⟩
  ·exact r.elim
 ·exact r.elim
def G1:b_:=fun ds S k=>match ds with
 | [.int i,.int j]=>k (.int (if j > i then j else i)) S
 | _=>False
def IF:b_:=fun ds S k=>match ds with
 | [.int i,.int j]=>k (.int (if j < i then j else i)) S
 | _=>False
theorem E6 (hc:X.calm=true:=by rfl):cA X (.builtin "max") (rD X.K G1):=by
 intro pins s σ H xs us Q I rs h
 obtain⟨ds,S,k,i,hS,r,n⟩:=h
 unfold G1 at r
 split at r
 ·obtain⟨x,y,rfl,i1,i2⟩:=uV i
  have e1:=isInt.mp i1
  have e2:=isInt.mp i2
  subst e1; subst e2
  exact xV hc pins s σ H _ us Q I rs ⟨_,_,rfl,nc n hS r (isInt.mpr rfl)⟩
 ·exact r.elim
theorem Ja (hc:X.calm=true:=by rfl):cA X (.builtin "min") (rD X.K IF):=by
 intro pins s σ H xs us Q I rs h
 obtain⟨ds,S,k,i,hS,r,n⟩:=h
 unfold IF at r
 split at r
 ·obtain⟨x,y,rfl,i1,i2⟩:=uV i
  have e1:=isInt.mp i1
  have e2:=isInt.mp i2
  subst e1; subst e2
  exact yI hc pins s σ H _ us Q I rs ⟨_,_,rfl,nc n hS r (isInt.mpr rfl)⟩
 ·exact r.elim
def JD:b_:=fun ds S k=>match ds with
 | [.int i]=>k (.int i) S
 | [.bl b]=>k (.int (if b then 1 else 0)) S
 | _=>False
theorem Fe:cA X (.type "int") (rD X.K JD):=by
 intro pins s σ H xs us Q I rs h
 obtain⟨ds,S,k,i,hS,r,n⟩:=h
 unfold JD at r
 split at r
 ·obtain⟨x,rfl,i1⟩:=gO i
  have e1:=isInt.mp i1
  subst e1
  exact rP pins s σ H _ us Q I rs (.inl ⟨_,rfl,nc n hS r (isInt.mpr rfl)⟩)
 ·obtain⟨x,rfl,i1⟩:=gO i
  have e1:=cg.mp i1
  subst e1
  exact rP pins s σ H _ us Q I rs (.inr ⟨_,rfl,nc n hS r (isInt.mpr rfl)⟩)
 ·exact r.elim
def Ff:D1:=fun d S k=>match d with
 | .int i=>k (.int ((Builtin.Int.intBits i:Nat):Int)) S
 | _=>False
theorem FP {o:Expr} {g:DE} {apos cpos:Pos} (ho:PE X o (up X.K g)) (hbase:attributeBase o "bit_length" X.env (eval o X.env)=eval o X.env:=by rfl) (hline:(apos.endLine == cpos.line)=true:=by rfl):
  PE X (.Call (.Attribute o "bit_length" apos) [] [] cpos) (up X.K (HF Ff g)):=by
 refine PE.imp (F8 PySem.F.plainAttrs_int PySem.F.slot_int_bit_length PySem.F.type_int_bit_length (r:=fun x xs H Q=>∃ i,x=.int i/\xs=[]/\Q (.int ((Builtin.Int.intBits i:Nat):Int)) H) ?_ ho hbase hline) fun σ H Q ⟨L,S,k,hL,hS,h,n⟩=>?_
 ·intro pins s σ H x xs v us Q I rx rs h
  obtain⟨i,rfl,rfl,q⟩:=h
  obtain⟨t,rfl⟩:=rx
  cases rs
  exact call_int_bit_length ⟨.int _,H,I.tok _,⟨_,rfl⟩,q⟩
 ·refine up.go hL hS h fun d S1 v H1 h1 k1 hL1 hS1 i1=>?_
  cases d with
  | int i=>
   have e1:=isInt.mp i1
   subst e1
   exact⟨rfl,i,rfl,rfl,n _ S1 _ H1 h1 k1 hS1 (isInt.mpr rfl)⟩
  | _=>exact(show False from h1).elim
def yG (xs:List D) (lo hi:Option Int):List D:=(xs.drop (HT.eu xs.length 0 lo)).take (HT.eu xs.length xs.length hi - HT.eu xs.length 0 lo)
abbrev HD:=Lo->DH->(Option Int->DH->Prop)->Prop
def JY (K:Fg) (g:HD):TO:=fun σ H Q=>∃ L S k,Lc K H L σ/\Hs K H S/\g L S k/\∀ i S' H',k i S'->Kp H H'->Hs K H' S'->Q i H'
def EI:HD:=fun _ S k=>k none S
def EF (g:DE):HD:=fun L S k=>g L S fun d S1=>match d with
 | .int i=>k (some i) S1
 | _=>False
theorem Et:PO X none (JY X.K EI):=by
 intro pins s σ H Q I h
 obtain⟨L,S,k,hL,hS,h,n⟩:=h
 exact Ee pins s σ H Q I (n none S H h (Kp.refl H) hS)
theorem D_ {e:Expr} {g:DE} (he:PE X e (up X.K g)):PO X (some e) (JY X.K (EF g)):=by
 intro pins s σ H Q I h
 obtain⟨L,S,k,hL,hS,h,n⟩:=h
 refine C0 he pins s σ H Q I (up.go hL hS h fun d S1 v H1 h1 k1 hL1 hS1 i1=>?_)
 cases d with
 | int i=>
  have e1:=isInt.mp i1
  subst e1
  exact⟨i,rfl,n (some i) S1 H1 h1 k1 hS1⟩
 | _=>exact(show False from h1).elim
end
section
variable {X:Cx} {st:Stmt} {ao:List Stmt} {g h:DS} {e:Expr} {ge:DE} {pos:Pos}
def Fc:DS:=fun M L S=>M.nx L S
def rb (g h:DS):DS:=fun M L S=>g {M with nx:=h M} L S
theorem Hy:nH X [] (nG X.K Fc):=nH.imp Ef fun N σ H ⟨L,S,M,hL,hS,h,r⟩=>r.nx L S σ H h (Kp.refl H) hL hS
theorem Dy {K:Fg}:∀ N σ H,nG K (rb g h) N σ H->Jh (nG K g) (nG K h) N σ H:=fun N σ H ⟨L,S,M,hL,hS,q,r⟩=>
 ⟨L,S,{M with nx:=h M},hL,hS,q,⟨fun L' S' σ' H' q' k' hL' hS'=>⟨L',S',M,hL',hS',q',r.kp k'⟩,r.rt,r.bk,r.ct⟩⟩
theorem Dv (h1:PS X st (nG X.K g)) (h2:nH X ao (nG X.K h)):nH X (st::ao) (nG X.K (rb g h)):=nH.imp (Aw h1 h2) Dy
theorem Hf (h1:PS X st (nG X.K g)):nH X [st] (nG X.K g):=DN h1
def EU (ge:DE):DS:=fun M L S=>ge L S fun _ S1=>M.nx L S1
theorem zB (he:PE X e (up X.K ge)) (hs:swapsWith e none pos.line X.env=pure false:=by rfl):PS X (.Expr e pos) (nG X.K (EU ge)):=
 PS.imp (C7 he hs) fun N σ H ⟨L,S,M,hL,hS,h,r⟩=>up.go hL hS h fun d S1 v H1 h1 k1 hL1 hS1 _=>r.nx L S1 σ H1 h1 k1 hL1 hS1
def Ck (ge:DE):DS:=fun M L S=>ge L S M.rt
theorem DV (he:PE X e (up X.K ge)):PS X (.Return (some e) pos) (nG X.K (Ck ge)):=
 PS.imp (FK he) fun N σ H ⟨L,S,M,hL,hS,h,r⟩=>up.go hL hS h fun d S1 v H1 h1 k1 _ hS1 i1=>r.rt d S1 v H1 h1 k1 hS1 i1
def C' (c:DT) (g h:DS):DS:=fun M L S=>c L S fun b S1=>if b=true then g M L S1 else h M L S1
theorem Ge {c:Expr} {a b:List Stmt} {gc:DT} (hc:PT X c (lD X.K gc)) (ha:nH X a (nG X.K g)) (hb:nH X b (nG X.K h)):PS X (.If c a b pos) (nG X.K (C' gc g h)):=
 PS.imp (Jt hc ha hb) fun N σ H ⟨L,S,M,hL,hS,q,r⟩=>lD.go hL hS q fun t S1 H1 h1 k1 hL1 hS1=>by
  cases t with
  | true=>
   rw [if_pos rfl] at h1 ⊢
   exact⟨L,S1,M,hL1,hS1,h1,r.kp k1⟩
  | false=>
   rw [if_neg Bool.false_ne_true] at h1 ⊢
   exact⟨L,S1,M,hL1,hS1,h1,r.kp k1⟩
def AN:DS:=fun _ _ _=>False
theorem xZ:PS X st (nG X.K AN):=PS.imp z9 fun N σ H ⟨L,S,M,hL,hS,h,r⟩=>h.elim
def qY (i:Nat) (ge:DE):DS:=fun M L S=>ge L S fun d S1=>M.nx (L.set i (some d)) S1
theorem DZ {i:Nat} {x:Str} {pos':Pos} (hN:X.N.Nodup) (he:PE X e (up X.K ge)) (hi:X.N[i]?=some x:=by rfl) (hx:Fb X.env.scope x:=by first | exact Or.inl rfl | exact Or.inr rfl) (hs:swapsWith e (some (.Name x pos')) pos.line X.env=pure false:=by rfl)
  (hf:X.fn x=true\/X.env.scope.names.lookup x=some .local:=by first | exact .inl rfl | exact .inr rfl | assumption):PS X (.Assign [.Name x pos'] e pos) (nG X.K (qY i ge)):=
 PS.imp (Gd hN hi hx he hs hf) fun N σ H ⟨L,S,M,hL,hS,h,r⟩=>up.go hL hS h fun d S1 v H1 h1 k1 hL1 hS1 i1=>r.nx _ S1 _ H1 h1 k1 (hL1.set i1 i) hS1
def Jw (i j:Nat) (ta:DA):DS:=fun M L S=>ta L S fun ds S1=>match ds with
 | [d,e]=>M.nx ((L.set i (some d)).set j (some e)) S1
 | _=>False
theorem Ey {i j:Nat} {x y:Str} {a b:Expr} {ta:DA} {px py pt:Pos} {kt k2 pt2} (hc:X.calm=true) (hN:X.N.Nodup) (hij:i≠j) (ha:PA X [a,b] (oJ X.K ta)) (hi:X.N[i]?=some x:=by rfl) (hj:X.N[j]?=some y:=by rfl)
  (hx:X.env.scope.names.lookup x=some .local:=by rfl) (hy:X.env.scope.names.lookup y=some .local:=by rfl)
  (hw:swappedStores [.Tuple [.Name x px,.Name y py] kt pt] (.Tuple [a,b] k2 pt2) X.env=pure (some [x,y]):=by rfl)
  (hs:swapsWithSole [.Tuple [.Name x px,.Name y py] kt pt] (.Tuple [a,b] k2 pt2) pos.line X.env=pure false:=by rfl):
  PS X (.Assign [.Tuple [.Name x px,.Name y py] kt pt] (.Tuple [a,b] k2 pt2) pos) (nG X.K (Jw i j ta)):=
 PS.imp (Gv hc hN hi hj hij hx hy ha hw hs) fun N σ H ⟨L,S,M,hL,hS,h,r⟩=>oJ.go hL hS h fun ds S1 vs H1 h1 k1 hL1 hS1 i1=>by
  split at h1
  ·obtain⟨v,u,rfl,j1,j2⟩:=uV i1
   exact⟨v,u,rfl,r.nx _ S1 _ H1 h1 k1 ((hL1.set j1 i).set j2 j) hS1⟩
  ·exact h1.elim
abbrev DG:=D->Lo->DH->(Lo->DH->Prop)->Prop
def zt (K:Fg) (g:DG):TG:=fun v σ H Q=>∃ d L S k,bZ K H d v/\Lc K H L σ/\Hs K H S/\g d L S k/\∀ L' S' σ' H',k L' S'->Kp H H'->Lc K H' L' σ'->Hs K H' S'->Q σ' H'
theorem PG.imp {e:Expr} {t t':TG} (h:PG X e t) (i:∀ v σ H Q,t' v σ H Q->t v σ H Q):PG X e t':=fun pins s σ H v u Q I rv q=>h pins s σ H v u Q I rv (i v σ H Q q)
def iR (i:Nat):DG:=fun d L S k=>k (L.set i (some d)) S
theorem C6 {i:Nat} {x:Str} (hN:X.N.Nodup) (hi:X.N[i]?=some x:=by rfl) (hx:Fb X.env.scope x:=by first | exact Or.inl rfl | exact Or.inr rfl) (hf:X.fn x=true\/X.env.scope.names.lookup x=some .local:=by first | exact .inl rfl | exact .inr rfl | assumption):PG X (.Name x pos) (zt X.K (iR i)):=
 PG.imp (sw hN hi hx hf) fun v σ H Q ⟨d,L,S,k,i1,hL,hS,h,n⟩=>n _ S _ H h (Kp.refl H) (hL.set i1 i) hS
abbrev CC:=List D->Lo->DH->(Lo->DH->Prop)->Prop
def CY (K:Fg) (g:CC):A9:=fun v σ H Q=>∃ d L S k,IsDs K H d v/\Lc K H L σ/\Hs K H S/\g d L S k/\∀ L' S' σ' H',k L' S'->Kp H H'->Lc K H' L' σ'->Hs K H' S'->Q σ' H'
theorem xO.imp {e:List Expr} {t t':A9} (h:xO X e t) (i:∀ v σ H Q,t' v σ H Q->t v σ H Q):xO X e t':=fun pins s σ H v u Q I rv q=>h pins s σ H v u Q I rv (i v σ H Q q)
def Cr:CC:=fun ds L S k=>ds=[]/\k L S
def tj (t:DG) (u:CC):CC:=fun ds L S k=>match ds with
 | d::r=>t d L S fun L1 S1=>u r L1 S1 k
 | []=>False
theorem EC:xO X [] (CY X.K Cr):=xO.imp DY fun v σ H Q ⟨d,L,S,k,i1,hL,hS,h,n⟩=>by
 obtain⟨rfl,h⟩:=h
 exact⟨iI.mp i1,n L S σ H h (Kp.refl H) hL hS⟩
theorem Cl {es:List Expr} {t:DG} {u:CC} (h1:PG X e (zt X.K t)) (h2:xO X es (CY X.K u)) (hs:(assignEach (e::es) X.env).map (·.2)=assign e X.env::(assignEach es X.env).map (·.2):=by rfl):xO X (e::es) (CY X.K (tj t u)):=
 xO.imp (BX h1 h2 hs) fun vs σ H Q ⟨ds,L,S,k,i1,hL,hS,h,n⟩=>by
  cases ds with
  | nil=>exact(show False from h).elim
  | cons d r=>
   obtain⟨v,vr,rfl,j1,j2⟩:=cD.mp i1
   exact⟨v,vr,rfl,d,L,S,_,j1,hL,hS,h,fun L1 S1 σ1 H1 q k1 hL1 hS1=>⟨r,L1,S1,k,j2.kp k1,hL1,hS1,q,fun L' S' σ' H' q' k'=>n L' S' σ' H' q' (k1.trans k')⟩⟩
def Hq (ge:DE) (g:DG):DS:=fun M L S=>ge L S fun d S1=>g d L S1 M.nx
theorem DF {tg e:Expr} {g:DG} (he:PE X e (up X.K ge)) (hg:PG X tg (zt X.K g)) (hs:swapsWithSole [tg] e pos.line X.env=pure false:=by rfl) (hw:swappedStores [tg] e X.env=pure none:=by rfl)
  (h1:(assignEach [tg] X.env).map (·.2)=[assign tg X.env]:=by rfl):PS X (.Assign [tg] e pos) (nG X.K (Hq ge g)):=
 PS.imp (Hl he hg hs hw h1) fun N σ H ⟨L,S,M,hL,hS,h,r⟩=>up.go hL hS h fun d S1 v H1 h1 k1 hL1 hS1 i1=>
  ⟨d,L,S1,M.nx,i1,hL1,hS1,h1,fun L' S' σ' H' q k' hL' hS'=>r.nx L' S' σ' H' q (k1.trans k') hL' hS'⟩
def Bu (c:DT) (b:DS):DS:=fun M L S=>∃ W:Nat->Lo->DH->Prop,(∃ m,W m L S)/\∀ m L S,W m L S->
 c L S fun t S1=>if t=true then ∃ N:Lo->DH->Prop,(∀ L' S',N L' S'->∃ m',m' < m/\W m' L' S')/\b {M with nx:=N,ct:=N,bk:=M.nx} L S1 else M.nx L S1
theorem zm {c:Expr} {body:List Stmt} {gc:DT} (hp:PassesOwn (model X.prog X.w) X.A X.env X.xe) (hc:PT X c (lD X.K gc)) (hb:nH X body (nG X.K g)):PS X (.While c body [] pos) (nG X.K (Bu gc g)):=
 PS.imp (BW hp hc hb) fun N σ H ⟨L,S,M,hL,hS,⟨W,⟨m0,w0⟩,turn⟩,r⟩=>by
  refine⟨fun m σ H1=>∃ L S,Lc X.K H1 L σ/\Hs X.K H1 S/\W m L S/\Kp H H1,⟨m0,L,S,hL,hS,w0,Kp.refl H⟩,?_⟩
  rintro m σ1 H1 ⟨L1,S1,hL1,hS1,w1,k1⟩
  refine lD.go hL1 hS1 (turn m L1 S1 w1) fun t S2 H2 h2 k2 hL2 hS2=>?_
  cases t with
  | true=>
   rw [if_pos rfl] at h2 ⊢
   obtain⟨N',hN,hb⟩:=h2
   refine⟨fun σ' H'=>∃ L' S',Lc X.K H' L' σ'/\Hs X.K H' S'/\N' L' S'/\Kp H H',?_,L1,S2,_,hL2,hS2,hb,?_⟩
   ·rintro σ' H' ⟨L',S',hL',hS',n',k'⟩
    obtain⟨m',hm,w'⟩:=hN L' S' n'
    exact⟨m',hm,L',S',hL',hS',w',k'⟩
   ·have r2:=r.kp (k1.trans k2)
    exact⟨fun L' S' σ' H' n' k' hL' hS'=>⟨L',S',hL',hS',n',(k1.trans k2).trans k'⟩,r2.rt,r2.nx,fun L' S' σ' H' n' k' hL' hS'=>⟨L',S',hL',hS',n',(k1.trans k2).trans k'⟩⟩
  | false=>
   rw [if_neg Bool.false_ne_true] at h2 ⊢
   exact(r.kp (k1.trans k2)).nx L1 S2 σ1 H2 h2 (Kp.refl H2) hL2 hS2
def iK (ok:DH->Prop) (g:DG) (b:DS) (M:nh):List D->Lo->DH->Prop
 | [],L,S=>ok S/\M.nx L S
 | d::r,L,S=>ok S/\g d L S fun L1 S1=>b {M with nx:=fun L2 S2=>iK ok g b M r L2 S2,ct:=fun L2 S2=>iK ok g b M r L2 S2,bk:=M.nx} L1 S1
theorem mV {K:Fg} {ok:DH->Prop} {gg:DG} {b:DS} {M:nh} {ds:List D} {L:Lo} {S:DH} {N:rj} {σ:L2.St} {H:Hp} {J:It} (hL:Lc K H L σ) (hS:Hs K H S) (h:iK ok gg b M ds L S) (r:HC K H M N)
  (hgo:∀ i d S1 H1,ds[i]?=some d->Kp H H1->Hs K H1 S1->ok S1->J.go i H1/\∀ x H',J.yld i H1 x H'->H'=H1/\bZ K H1 d x)
  (hst:∀ S1 H1,Kp H H1->Hs K H1 S1->ok S1->J.stop ds.length H1):
  ∃ W:Nat->Nat->L2.St->Hp->Prop,(∃ m,W 0 m σ H)/\∀ i m σ H,W i m σ H->
   (J.stop i H/\N.nx σ H)\/(J.go i H/\∃ N':L2.St->Hp->Prop,(∀ σ' H',N' σ' H'->∃ m',m' < m/\W (i+1) m' σ' H')/\∀ x H',J.yld i H x H'->zt K gg x σ H' fun σ2 H2=>nG K b {N with nx:=N',ct:=N',bk:=N.nx} σ2 H2):=by
 refine⟨fun i m σ1 H1=>m=ds.length - i/\i<=ds.length/\∃ L1 S1,Lc K H1 L1 σ1/\Hs K H1 S1/\Kp H H1/\iK ok gg b M (ds.drop i) L1 S1,⟨ds.length,by simp,Nat.zero_le _,L,S,hL,hS,Kp.refl H,h⟩,?_⟩
 rintro i m σ1 H1 ⟨rfl,hi,L1,S1,hL1,hS1,k1,w1⟩
 by_cases hlt:i < ds.length
 ·have e:ds.drop i=ds[i]::ds.drop (i+1):=List.drop_eq_getElem_cons hlt
  rw [e] at w1
  obtain⟨o1,w1⟩:=w1
  obtain⟨g1,y1⟩:=hgo i ds[i] S1 H1 (by simp [hlt]) k1 hS1 o1
  refine .inr ⟨g1,fun σ' H'=>i+1<=ds.length/\∃ L' S',Lc K H' L' σ'/\Hs K H' S'/\Kp H H'/\iK ok gg b M (ds.drop (i+1)) L' S',fun σ' H' ⟨q1,q2⟩=>⟨ds.length - (i+1),by omega,rfl,q1,q2⟩,fun x H' y=>?_⟩
  obtain⟨rfl,ix⟩:=y1 x H' y
  refine⟨ds[i],L1,S1,_,ix,hL1,hS1,w1,fun L2 S2 σ2 H2 q k2 hL2 hS2=>⟨L2,S2,_,hL2,hS2,q,?_⟩⟩
  have r2:=r.kp (k1.trans k2)
  exact⟨fun L3 S3 σ3 H3 q3 k3 hL3 hS3=>⟨hlt,L3,S3,hL3,hS3,(k1.trans k2).trans k3,q3⟩,r2.rt,r2.nx,fun L3 S3 σ3 H3 q3 k3 hL3 hS3=>⟨hlt,L3,S3,hL3,hS3,(k1.trans k2).trans k3,q3⟩⟩
 ·have e:i=ds.length:=by omega
  subst e
  rw [List.drop_length] at w1
  obtain⟨o1,w1⟩:=w1
  exact .inl ⟨hst S1 H1 k1 hS1 o1,r.nx L1 S1 σ1 H1 w1 k1 hL1 hS1⟩
def aU (S:DH):D->Option (List D×Option Addr)
 | .tup ds=>some (ds,none)
 | .rl ds=>some (ds,none)
 | .ref a=>(match S a with
  | some (.lst ds)=>some (ds,some a)
  | _=>none)
 | _=>none
def mX:List D×Option Addr->DH->Prop
 | (_,none)=>fun _=>True
 | (ds,some a)=>fun S=>S a=some (.lst ds)
theorem PI.imp {tg e:Expr} {w w':TI} (h:PI X tg e w) (i:∀ σ H R,w' σ H R->w σ H R):PI X tg e w':=fun pins s σ H R I q=>h pins s σ H R I (i σ H R q)
def Kt (K:Fg) (t:TE):TI:=fun σ H R=>t σ H fun x H1=>∃ a,x=.ref a/\(((∃ xs,jf K H1 a xs)/\R (HP K a) H1)\/((∃ xs,ka K H1 a xs)/\R (IL K a) H1))
theorem Co {tg l:Expr} {tl:TE} (hl:PE X l tl):PI X tg l (Kt X.K tl):=by
 intro pins s σ H R I h
 refine bL (hl pins s σ H _ I h) fun v s1 ⟨x,H1,I1,r1,q1⟩=>?_
 obtain⟨a,e,q1⟩:=q1
 subst e
 cases r1
 rcases q1 with ⟨⟨xs,hq⟩,q⟩ | ⟨⟨xs,hq⟩,q⟩
 ·obtain⟨its,rv,p,hz⟩:=I1.list hq
  refine wpAny_pyIter_list p.isList ?_
  refine⟨s1.heap.objs.size,[s1.heap.objs.size],_,_,H1,rfl,I1.kept (t':=s1.toks) fun b o e=>Heap.get?_push_of_some _ e,yF a _,⟨_,Heap.get?_push_size _ rfl,rfl,rfl⟩,fun b hb=>?_,q⟩
  have e:b=s1.heap.objs.size:=by simpa using hb
  subst e
  exact I1.fpOk (Nat.le_refl _) (I1.hok.fresh (Nat.le_refl _))
 ·obtain⟨its,rv,p,hz⟩:=I1.tuple hq
  refine wpAny_pyIter_tuple (show s1.heap.IsTuple a its.toArray from p) ?_
  refine⟨s1.heap.objs.size,[s1.heap.objs.size],_,_,H1,rfl,I1.kept (t':=s1.toks) fun b o e=>Heap.get?_push_of_some _ e,wG a _,⟨_,Heap.get?_push_size _ rfl,rfl,rfl⟩,fun b hb=>?_,q⟩
  have e:b=s1.heap.objs.size:=by simpa using hb
  subst e
  exact I1.fpOk (Nat.le_refl _) (I1.hok.fresh (Nat.le_refl _))
def E1 (ta:DA) (g:DG) (b:DS):DS:=fun M L S=>ta L S fun ds S1=>match ds with
 | [.int n]=>(-(2 ^ 62)<=n/\n < 2 ^ 62)/\iK (fun _=>True) g b M ((List.range n.toNat).map fun i=>D.int (i:Nat)) L S1
 | _=>False
theorem zW {tg a:Expr} {body:List Stmt} {ta:DA} {gg:DG} {p pos':Pos} (hp:PassesOwn (model X.prog X.w) X.A X.env X.xe) (hc:X.calm=true) (hgl:Gl X "range") (hm:X.mg "range"=none) (ha:PA X [a] (oJ X.K ta)) (hg:PG X tg (zt X.K gg)) (hb:nH X body (nG X.K g))
  (hs1:starEach [a] X.env=[(false,eval a X.env)]:=by rfl) (hs:∀ x,foldedSetIterable (.Call (.Name "range" p) [a] [] pos') X.env x=pure x:=by intro _; rfl):PS X (.For tg (.Call (.Name "range" p) [a] [] pos') body [] pos) (nG X.K (E1 ta gg g)):=
 PS.imp (tu hp hc (nJ hgl hm ha hs1) hg hb hs) fun N σ H ⟨L,S,M,hL,hS,h,r⟩=>oJ.go hL hS h fun ds S1 vs H1 h1 k1 hL1 hS1 i1=>by
  split at h1
  ·obtain⟨v,rfl,j⟩:=gO i1
   have e:=isInt.mp j
   subst e
   obtain⟨⟨h2,h3⟩,h1⟩:=h1
   refine⟨_,rfl,h2,h3,mV hL1 hS1 h1 (r.kp k1) (fun i d S2 H2 e k2 hS2 _=>?_) fun S2 H2 k2 hS2 _=>?_⟩
   ·rw [List.getElem?_map] at e
    cases q:(List.range (Int.toNat _))[i]? with
    | none=>rw [q] at e; cases e
    | some z=>
     rw [q] at e
     cases e
     have hz:=List.getElem?_eq_some_iff.mp q
     obtain⟨hz1,hz2⟩:=hz
     rw [List.length_range] at hz1
     rw [List.getElem_range] at hz2
     subst hz2
     exact⟨hz1,fun x H' y=>⟨y.1,by rw [y.2]; exact isInt.mpr (by rw [Int.zero_add])⟩⟩
   ·rw [List.length_map,List.length_range]
    exact Nat.le_refl _
  ·exact h1.elim
end
section
variable {P:Program} {w:World} {K:Fg} {mg:Str->Option Value} {base:Heap}
theorem _root_.L2.cT.okD {x qual:Str} {st:Stmt} {f:Addr} {fd:FuncData} {N ps:List Str} {k:Nat} {F:b_} (Fn:cT K x qual st f fd) (Sc:ar N ps (ap st)) (len:∀ ds S k,F ds S k->ds.length=ps.length)
  (hbody:∀ (cdv:Value) (A:Around) (outer:List Env) (s:Shared) (H:Hp) (E:XK),cH k (A.deeper (envOfC qual (ap st) s.heap.objs.size f cdv))->
   ∃ g,nH (u8 cQ P w K mg base N qual (ap st) f cdv A outer s H E).nox (dF st) (nG K g)/\
    ∀ ds S k,F ds S k->g {nx:=fun _ S'=>k .non S',rt:=k} (ds.map some++List.replicate (N.length - ps.length) none) S):aH P w K mg base cQ (k+1) f fd ps (cY K F):=by
 refine Fn.ok Sc (fun vs H Q E h=>?_) (fun cdv A outer s H vs Q E hr h=>?_)
 ·obtain⟨ds,S,k,i,_,q,_⟩:=h
  rw [<- i.length]
  exact len ds S k q
 ·obtain⟨g,hg,q⟩:=hbody cdv A outer s H E hr
  obtain⟨ds,S,k',i,hS,h,n⟩:=h
  refine⟨_,hg,ds.map some++List.replicate (N.length - ps.length) none,S,_,?_,hS,q ds S k' h,?_⟩
  ·unfold L2.start
   rw [<- i.length,len ds S k' h]
   exact Lc.start _ i
  ·exact⟨fun L S' σ H' h1 k1 _ hS'=>n _ S' _ H' h1 k1 hS' (c8.mpr rfl),fun d S' v H' h1 k1 hS' i1=>n d S' v H' h1 k1 hS' i1,fun _ _ _ _ h1=>h1.elim,fun _ _ _ _ h1=>h1.elim⟩
theorem aQ.mk' {x qual:Str} {st:Stmt} {f:Addr} {fd:FuncData} {ps:List Str} {n:Nat} {F:b_} (Fn:cT K x qual st f fd) (h:aH P w K mg base cQ n f fd ps (cY K F)) (hm:mg x=some (.ref f)) (hb:qg K fd ps []):aQ P w K mg base x n F:=
 ⟨f,fd,ps,h,hm,Fn.kp,hb⟩
end
end DL
namespace DL
open PySem PySem.Spec PyProof.Rows L2 HM
theorem iB {m n:Nat} {x y:Int} (hx:Bt m x) (hy:Bt n y) (h:m+n<=134217728:=by decide):IntMulOk x y:=IntMulOk.of_le (intBits_le_iff.mpr hx) (intBits_le_iff.mpr hy) h
theorem Cg {m:Nat} {y:Int} (h0:y≠0) (hy:Bt m y) (h:m<=9000:=by decide):xj x y:=⟨h0,(Nat.log2_lt (by omega)).mpr (hy.mono h)⟩
def pr (a b:Int):D:=.tup [.int a,.int b]
def fr (q:Rat):D:=pr q.num (q.den:Int)
end DL
namespace DL
theorem ye {x:D} {r:List D}:L2.atI (x::r) 0=some x:=L2.jv (j:=0) rfl
theorem Kh {x y:D} {r:List D}:L2.atI (x::y::r) 1=some y:=L2.jv (j:=1) rfl
theorem Ic {n:Nat}:L2.AA (n+1) 0=some 0:=by
 unfold L2.AA
 rw [if_pos (by decide),if_pos (by omega)]
 rfl
end DL
namespace DL
open PySem PySem.Spec PyProof.Rows L2
def C9:D->D->Option Bool
 | .int i,.int j=>some (i == j)
 | .bl i,.bl j=>some (i == j)
 | .str i,.str j=>some (i == j)
 | .non,.non=>some true
 | .non,.int _=>some false
 | .int _,.non=>some false
 | .non,.bl _=>some false
 | .bl _,.non=>some false
 | .bl a,.int j=>some ((if a then 1 else 0) == j)
 | .int i,.bl b=>some (i == (if b then 1 else 0))
 | _,_=>none
def j_ (f:D->D->Option Bool):List D->List D->Option Bool
 | [],[]=>some true
 | [],_::_=>some false
 | _::_,[]=>some false
 | x::xs,y::ys=>match f x y,j_ f xs ys with
  | some a,some b=>some (a && b)
  | _,_=>none
def mF:Nat->D->D->Option Bool
 | 0,d,e=>C9 d e
 | n+1,.tup xs,.tup ys=>j_ (mF n) xs ys
 | _+1,d,e=>C9 d e
theorem pI (n:Nat) (d e:D):mF (n+1) d e=(match d,e with | .tup xs,.tup ys=>j_ (mF n) xs ys | d,e=>C9 d e):=by
 cases d <;> cases e <;> rfl
def i8 (f:D->D->Option Bool):List D->List D->Nat->Bool
 | x::_,y::_,0=>(f x y).getD false
 | _::xs,_::ys,j+1=>i8 f xs ys j
 | _,_,_=>false
theorem B5 (e:Nat->Bool) (m:Nat):(List.range (m+1)).all e=(e 0 && (List.range m).all fun j=>e (j+1)):=by
 rw [List.range_succ_eq_map,List.all_cons,List.all_map]
 rfl
theorem nD {f:D->D->Option Bool}:∀ {xs ys:List D} {b:Bool},j_ f xs ys=some b->((List.range (min xs.length ys.length)).all (i8 f xs ys) && xs.length == ys.length)=b
 | [],[],b,h=>by unfold j_ at h; cases h; rfl
 | [],_::_,b,h=>by unfold j_ at h; cases h; simp
 | _::_,[],b,h=>by unfold j_ at h; cases h; simp
 | x::xs,y::ys,b,h=>by
  unfold j_ at h
  split at h
  ·rename_i a c e1 e2
   cases h
   have ih:=nD e2
   rw [List.length_cons,List.length_cons,Nat.succ_min_succ,B5]
   have e3:i8 f (x::xs) (y::ys) 0=a:=by unfold i8; rw [e1]; rfl
   rw [e3,Bool.and_assoc]
   have e4:(fun j=>i8 f (x::xs) (y::ys) (j+1))=i8 f xs ys:=by funext j; rfl
   rw [e4]
   have e5:(xs.length+1 == ys.length+1)=(xs.length == ys.length):=by simp
   rw [e5,ih]
  ·cases h
theorem o5 {f:D->D->Option Bool}:∀ {xs ys:List D} {b:Bool} {j:Nat} {x y:D},j_ f xs ys=some b->xs[j]?=some x->ys[j]?=some y->f x y=some (i8 f xs ys j)
 | [],_,_,_,_,_,_,e,_=>by simp at e
 | _::_,[],_,_,_,_,_,_,e=>by simp at e
 | x::xs,y::ys,b,0,x',y',h,e1,e2=>by
  simp at e1 e2
  subst e1; subst e2
  unfold j_ at h
  split at h
  ·rename_i a c q1 q2
   unfold i8
   rw [q1]
   rfl
  ·cases h
 | x::xs,y::ys,b,j+1,x',y',h,e1,e2=>by
  unfold j_ at h
  split at h
  ·rename_i a c q1 q2
   unfold i8
   exact o5 q2 (by simpa using e1) (by simpa using e2)
  ·cases h
section
variable {X:Cx} {pins:List (Addr×Obj)} {σ:L2.St} {H:Hp} {s:Shared}
theorem sk {K:Fg} {ds es:List D} {xs ys:List V} {us ws:List Value} {j:Nat} (i1:IsDs K H ds xs) (i2:IsDs K H es ys) (r1:aL xs us) (r2:aL ys ws) (h1:j < us.length) (h2:j < ws.length):
  ∃ d e x y,ds[j]?=some d/\es[j]?=some e/\bZ K H d x/\bZ K H e y/\aF x us[j]/\aF y ws[j]:=by
 have l1:=i1.length
 have l2:=i2.length
 have l3:=r1.length
 have l4:=r2.length
 have e1:ds[j]?=some ds[j]:=by simp [show j < ds.length by omega]
 have e2:es[j]?=some es[j]:=by simp [show j < es.length by omega]
 obtain⟨x,q1,d1⟩:=i1.get e1
 obtain⟨y,q2,d2⟩:=i2.get e2
 obtain⟨u,q3,rx⟩:=r1.get q1
 obtain⟨w,q4,ry⟩:=r2.get q2
 have f1:us[j]=u:=(List.getElem?_eq_some_iff.mp q3).2
 have f2:ws[j]=w:=(List.getElem?_eq_some_iff.mp q4).2
 exact⟨_,_,x,y,e1,e2,d1,d2,by rw [f1]; exact rx,by rw [f2]; exact ry⟩
theorem AX {K:Fg} {A:Around} {d e:D} {x y:V} {u w:Value} {b:Bool} (h:C9 d e=some b) (i1:bZ K H d x) (i2:bZ K H e y) (rx:aF x u) (ry:aF y w):SeqAt.EqAt A s u w b/\SeqAt.RcAt A s u w b:=by
 unfold C9 at h
 split at h
 ·cases h; rw [isInt.mp i1] at rx; rw [isInt.mp i2] at ry; obtain⟨t,rfl⟩:=rx; obtain⟨t',rfl⟩:=ry; exact⟨(SeqAt.EqAt.int_int _ _ _ _),(SeqAt.RcAt.int_int _ _ _ _)⟩
 ·cases h; rw [cg.mp i1] at rx; rw [cg.mp i2] at ry; cases rx; cases ry; exact⟨(SeqAt.EqAt.bool_bool _ _),(SeqAt.RcAt.bool_bool _ _)⟩
 ·cases h; rw [je.mp i1] at rx; rw [je.mp i2] at ry; obtain⟨t,rfl⟩:=rx; obtain⟨t',rfl⟩:=ry; exact⟨(SeqAt.EqAt.str_str _ _ _ _),(SeqAt.RcAt.str_str _ _ _ _)⟩
 ·cases h; rw [c8.mp i1] at rx; rw [c8.mp i2] at ry; cases rx; cases ry; exact⟨SeqAt.EqAt.same _,SeqAt.RcAt.none_none⟩
 ·cases h; rw [c8.mp i1] at rx; rw [isInt.mp i2] at ry; cases rx; obtain⟨t',rfl⟩:=ry; exact⟨(SeqAt.EqAt.none_int _ _),(SeqAt.RcAt.none_int _ _)⟩
 ·cases h; rw [isInt.mp i1] at rx; rw [c8.mp i2] at ry; obtain⟨t,rfl⟩:=rx; cases ry; exact⟨(SeqAt.EqAt.int_none _ _),(SeqAt.RcAt.int_none _ _)⟩
 ·cases h; rw [c8.mp i1] at rx; rw [cg.mp i2] at ry; cases rx; cases ry; exact⟨(SeqAt.EqAt.none_bool _),(SeqAt.RcAt.none_bool _)⟩
 ·cases h; rw [cg.mp i1] at rx; rw [c8.mp i2] at ry; cases rx; cases ry; exact⟨(SeqAt.EqAt.bool_none _),(SeqAt.RcAt.bool_none _)⟩
 ·cases h; rw [cg.mp i1] at rx; rw [isInt.mp i2] at ry; cases rx; obtain⟨t',rfl⟩:=ry; exact⟨(SeqAt.EqAt.bool_int _ _ _),(SeqAt.RcAt.bool_int _ _ _)⟩
 ·cases h; rw [isInt.mp i1] at rx; rw [cg.mp i2] at ry; obtain⟨t,rfl⟩:=rx; cases ry; exact⟨(SeqAt.EqAt.int_bool _ _ _),(SeqAt.RcAt.int_bool _ _ _)⟩
 ·cases h
theorem vv {K:Fg} {d e:D} {x:V} {b:Bool} (h:C9 d e=some b) (i1:bZ K H d x) (i2:bZ K H e x):b=true:=by
 unfold C9 at h
 split at h
 ·cases h; have e1:=isInt.mp i1; have e2:=isInt.mp i2; rw [e1] at e2; cases e2; simp
 ·cases h; have e1:=cg.mp i1; have e2:=cg.mp i2; rw [e1] at e2; cases e2; simp
 ·cases h; have e1:=je.mp i1; have e2:=je.mp i2; rw [e1] at e2; cases e2; simp
 ·cases h; rfl
 ·have e1:=c8.mp i1; have e2:=isInt.mp i2; rw [e1] at e2; cases e2
 ·have e1:=isInt.mp i1; have e2:=c8.mp i2; rw [e1] at e2; cases e2
 ·have e1:=c8.mp i1; have e2:=cg.mp i2; rw [e1] at e2; cases e2
 ·have e1:=cg.mp i1; have e2:=c8.mp i2; rw [e1] at e2; cases e2
 ·have e1:=cg.mp i1; have e2:=isInt.mp i2; rw [e1] at e2; cases e2
 ·have e1:=isInt.mp i1; have e2:=cg.mp i2; rw [e1] at e2; cases e2
 ·cases h
theorem rR {K:Fg} {f:D->D->Option Bool} (hf:∀ d e x b,f d e=some b->bZ K H d x->bZ K H e x->b=true):∀ {ds es:List D} {xs:List V} {b:Bool},j_ f ds es=some b->IsDs K H ds xs->IsDs K H es xs->b=true
 | [],[],_,_,h,_,_=>by unfold j_ at h; cases h; rfl
 | [],_::_,_,_,_,i1,i2=>by
  have e1:=iI.mp i1
  obtain⟨v,r,e2,_⟩:=cD.mp i2
  rw [e1] at e2; cases e2
 | _::_,[],_,_,_,i1,i2=>by
  have e1:=iI.mp i2
  obtain⟨v,r,e2,_⟩:=cD.mp i1
  rw [e1] at e2; cases e2
 | d::ds,e::es,xs,b,h,i1,i2=>by
  obtain⟨v,r,e1,h1,h2⟩:=cD.mp i1
  obtain⟨v',r',e2,h3,h4⟩:=cD.mp i2
  rw [e1] at e2
  cases e2
  unfold j_ at h
  split at h
  ·rename_i a c q1 q2
   cases h
   rw [hf _ _ _ _ q1 h1 h3,rR hf q2 h2 h4]
   rfl
  ·cases h
theorem vA (I:aA X pins σ H s):∀ (n:Nat) (d e:D) (x:V) (b:Bool),mF n d e=some b->bZ X.K H d x->bZ X.K H e x->b=true
 | 0,d,e,x,b,h,i1,i2=>vv (by unfold mF at h; exact h) i1 i2
 | n+1,d,e,x,b,h,i1,i2=>by
  rw [pI] at h
  split at h
  ·rename_i xs ys
   obtain⟨a,vs,e1,t1,j1⟩:=cz.mp i1
   obtain⟨a',vs',e2,t2,j2⟩:=cz.mp i2
   rw [e1] at e2
   cases e2
   have q:=I.tuple_inj t1 t2
   subst q
   exact rR (fun d e x b=>vA I n d e x b) h j1 j2
  ·exact vv h i1 i2
theorem t5 (I:aA X pins σ H s):∀ (n:Nat) (A:Around) (d e:D) (x y:V) (u w:Value) (b:Bool),A.units+n < cLine->mF n d e=some b->bZ X.K H d x->bZ X.K H e y->aF x u->aF y w->SeqAt.EqAt A s u w b/\SeqAt.RcAt A s u w b
 | 0,A,d,e,x,y,u,w,b,hu,h,i1,i2,rx,ry=>AX (by unfold mF at h; exact h) i1 i2 rx ry
 | n+1,A,d,e,x,y,u,w,b,hu,h,i1,i2,rx,ry=>by
  have h0:=h
  rw [pI] at h
  split at h
  ·rename_i xs ys
   obtain⟨p,vs,rfl,t1,j1⟩:=cz.mp i1
   obtain⟨q,vs',rfl,t2,j2⟩:=cz.mp i2
   cases rx
   cases ry
   obtain⟨us,r1,p1,_⟩:=I.tuple t1
   obtain⟨ws,r2,p2,_⟩:=I.tuple t2
   have l1:=j1.length
   have l2:=j2.length
   have l3:=r1.length
   have l4:=r2.length
   have rc:SeqAt.RcAt A s (.ref p) (.ref q) b:=by
    have e:=nD h
    have z:=SeqAt.RcAt.tuples (A:=A) (s:=s) (items:=us.toArray) (items2:=ws.toArray) (e:=i8 (mF n) xs ys) (show s.heap.IsTuple p us.toArray from p1) (show s.heap.IsTuple q ws.toArray from p2) (by omega) (fun j h1 h2=>by
     simp only [List.size_toArray] at h1 h2
     obtain⟨d,e,x,y,q1,q2,d1,d2,rx,ry⟩:=sk j1 j2 r1 r2 h1 h2
     have:=(t5 I n A.in1 d e x y us[j] ws[j] _ (by show A.units+1+n < cLine; omega) (o5 h q1 q2) d1 d2 rx ry).1
     simpa using this)
    simp only [List.size_toArray] at z
    rw [<- l3,<- l4,<- l1,<- l2,e] at z
    exact z
   refine⟨?_,rc⟩
   by_cases hpq:p=q
   ·subst hpq
    have:=vA I (n+1) _ _ _ _ h0 i1 i2
    subst this
    exact SeqAt.EqAt.same _
   ·exact SeqAt.EqAt.of_refs hpq rc
  ·exact AX h i1 i2 rx ry
theorem Ax {K:Fg} {A:Around} {d e:D} {x y:V} {u w:Value} {b:Bool} (h:C9 d e=some b) (i1:bZ K H d x) (i2:bZ K H e y) (rx:aF x u) (ry:aF y w):SeqAt.RcNeAt A s u w (!b):=by
 unfold C9 at h
 split at h
 ·cases h; rw [isInt.mp i1] at rx; rw [isInt.mp i2] at ry; obtain⟨t,rfl⟩:=rx; obtain⟨t',rfl⟩:=ry; exact(SeqAt.RcNeAt.int_int _ _ _ _)
 ·cases h; rw [cg.mp i1] at rx; rw [cg.mp i2] at ry; cases rx; cases ry; exact(SeqAt.RcNeAt.bool_bool _ _)
 ·cases h; rw [je.mp i1] at rx; rw [je.mp i2] at ry; obtain⟨t,rfl⟩:=rx; obtain⟨t',rfl⟩:=ry; exact(SeqAt.RcNeAt.str_str _ _ _ _)
 ·cases h; rw [c8.mp i1] at rx; rw [c8.mp i2] at ry; cases rx; cases ry; exact SeqAt.RcNeAt.none_none
 ·cases h; rw [c8.mp i1] at rx; rw [isInt.mp i2] at ry; cases rx; obtain⟨t',rfl⟩:=ry; exact(SeqAt.RcNeAt.none_int _ _)
 ·cases h; rw [isInt.mp i1] at rx; rw [c8.mp i2] at ry; obtain⟨t,rfl⟩:=rx; cases ry; exact(SeqAt.RcNeAt.int_none _ _)
 ·cases h; rw [c8.mp i1] at rx; rw [cg.mp i2] at ry; cases rx; cases ry; exact(SeqAt.RcNeAt.none_bool _)
 ·cases h; rw [cg.mp i1] at rx; rw [c8.mp i2] at ry; cases rx; cases ry; exact(SeqAt.RcNeAt.bool_none _)
 ·cases h; rw [cg.mp i1] at rx; rw [isInt.mp i2] at ry; cases rx; obtain⟨t',rfl⟩:=ry; exact(SeqAt.RcNeAt.bool_int _ _ _)
 ·cases h; rw [isInt.mp i1] at rx; rw [cg.mp i2] at ry; obtain⟨t,rfl⟩:=rx; cases ry; exact(SeqAt.RcNeAt.int_bool _ _ _)
 ·cases h
theorem Gi (I:aA X pins σ H s) (n:Nat) (A:Around) (d e:D) (x y:V) (u w:Value) (b:Bool) (hu:A.units+n < cLine) (h:mF n d e=some b) (i1:bZ X.K H d x) (i2:bZ X.K H e y) (rx:aF x u) (ry:aF y w):SeqAt.RcNeAt A s u w (!b):=by
 cases n with
 | zero=>exact Ax (by unfold mF at h; exact h) i1 i2 rx ry
 | succ n=>
  rw [pI] at h
  split at h
  ·rename_i xs ys
   obtain⟨p,vs,rfl,t1,j1⟩:=cz.mp i1
   obtain⟨q,vs',rfl,t2,j2⟩:=cz.mp i2
   cases rx
   cases ry
   obtain⟨us,r1,p1,_⟩:=I.tuple t1
   obtain⟨ws,r2,p2,_⟩:=I.tuple t2
   have l1:=j1.length
   have l2:=j2.length
   have l3:=r1.length
   have l4:=r2.length
   have e:=nD h
   have z:=SeqAt.RcNeAt.tuples (A:=A) (s:=s) (items:=us.toArray) (items2:=ws.toArray) (e:=i8 (mF n) xs ys) (show s.heap.IsTuple p us.toArray from p1) (show s.heap.IsTuple q ws.toArray from p2) (by omega) (fun j h1 h2=>by
    simp only [List.size_toArray] at h1 h2
    obtain⟨d,e,x,y,q1,q2,d1,d2,rx,ry⟩:=sk j1 j2 r1 r2 h1 h2
    have:=(t5 I n A.in1 d e x y us[j] ws[j] _ (by show A.units+1+n < cLine; omega) (o5 h q1 q2) d1 d2 rx ry).1
    simpa using this)
   simp only [List.size_toArray] at z
   rw [<- l3,<- l4,<- l1,<- l2,e] at z
   exact z
  ·exact Ax h i1 i2 rx ry
end
structure EJ (X:Cx) (e:Expr) (g:DE):Prop where
 h:PE X e (up X.K g)
structure TJ (X:Cx) (e:Expr) (g:DT):Prop where
 h:PT X e (lD X.K g)
structure WJ (X:Cx) (e:Expr) (g:DT):Prop where
 h:PW X e (lD X.K g)
structure AJ (X:Cx) (e:List Expr) (g:DA):Prop where
 h:PA X e (oJ X.K g)
structure SJ (X:Cx) (e:Stmt) (g:DS):Prop where
 h:PS X e (nG X.K g)
structure zo (X:Cx) (e:List Stmt) (g:DS):Prop where
 h:nH X e (nG X.K g)
structure GJ (X:Cx) (e:Expr) (g:DG):Prop where
 h:PG X e (zt X.K g)
structure JI (X:Cx) (e:List Expr) (g:CC):Prop where
 h:xO X e (CY X.K g)
structure OJ (X:Cx) (e:Option Expr) (g:HD):Prop where
 h:PO X e (JY X.K g)
theorem WJ.pt {X:Cx} {e:Expr} {g:DT} (h:WJ X e g):TJ X e g:=⟨PW.pt h.h⟩
section
variable {X:Cx} {a b c:Expr} {ga gb gc:DE} {pos:Pos}
theorem ac (i:Nat) {x:Str} (hN:X.N[i]?=some x:=by rfl) (hv:JU X.env.scope x:=by first | exact Or.inl rfl | exact Or.inr (Or.inl rfl) | exact Or.inr (Or.inr rfl)) (hd:(x == ("__debug__":Str))=false:=by decide) (hcd:(x == ("__classdict__":Str))=false:=by decide):EJ X (.Name x pos) (cP i):=⟨JA (i:=i) (hN:=hN) (hv:=hv) (hd:=hd) (hcd:=hcd)⟩
end
section
variable {X:Cx} {a b c:Expr} {ga gb gc:DE} {pos:Pos}
theorem ad {i j pos}:EJ X (.Constant (.int i) j pos) (dC (.int i)):=⟨Jc⟩
end
section
variable {X:Cx} {a b c:Expr} {ga gb gc:DE} {pos:Pos}
theorem kJ {i j pos}:EJ X (.Constant (.bool i) j pos) (dC (.bl i)):=⟨KH⟩
end
section
variable {X:Cx} {a b c:Expr} {ga gb gc:DE} {pos:Pos}
theorem eo {j pos}:EJ X (.Constant .none j pos) (dC .non):=⟨I0⟩
end
section
variable {X:Cx} {a b c:Expr} {ga gb gc:DE} {pos:Pos}
theorem cE {i j pos}:EJ X (.Constant (.str i) j pos) (dC (.str i)):=⟨HS⟩
end
section
variable {X:Cx} {a b c:Expr} {ga gb gc:DE} {pos:Pos}
theorem ae:AJ X [] iS:=⟨GU⟩
end
section
variable {X:Cx} {a b c:Expr} {ga gb gc:DE} {pos:Pos}
theorem aa {es:List Expr} {t:DA} (ha:EJ X a ga) (hr:AJ X es t) (hs:starEach (a::es) X.env=(false,eval a X.env)::starEach es X.env:=by exact bW rfl):AJ X (a::es) (bq ga t):=⟨Eb (ha:=ha.h) (hr:=hr.h) (hs:=hs)⟩
end
section
variable {X:Cx} {a b c:Expr} {ga gb gc:DE} {pos:Pos}
theorem aq {es:List Expr} {x1} {t:DA} (h:AJ X es t):EJ X (.Tuple es x1 pos) (vC t):=⟨JP (h:=h.h)⟩
end
section
variable {X:Cx} {a b c:Expr} {ga gb gc:DE} {pos:Pos}
theorem fN {es:List Expr} {t:DA} (h:AJ X es t):EJ X (.List es pos) (Ds t):=⟨JQ (h:=h.h)⟩
end
section
variable {X:Cx} {a b c:Expr} {ga gb gc:DE} {pos:Pos}
theorem au {op:Operator} {r:D2} (ho:fH X (binaryOp op) (j5 X.K r)) (ha:EJ X a ga) (hb:EJ X b gb):EJ X (.BinOp a op b pos) (kB r ga gb):=⟨KU (ho:=ho) (ha:=ha.h) (hb:=hb.h)⟩
end
section
variable {X:Cx} {a b c:Expr} {ga gb gc:DE} {pos:Pos}
theorem kK {op:CmpOp} {r:D2} (ho:fH X (compareOp op) (j5 X.K r)) (ha:EJ X a ga) (hb:EJ X b gb) (hm:behindInMarks op b=false):EJ X (.Compare a [op] [b] pos) (kB r ga gb):=⟨IY (ho:=ho) (ha:=ha.h) (hb:=hb.h) (hm:=hm)⟩
end
section
variable {X:Cx} {a b c:Expr} {ga gb gc:DE} {pos:Pos}
theorem ai {r:D2} (hr:z6 X (j5 X.K r)) (ha:EJ X a ga) (hb:EJ X b gb) (hs:sF b):EJ X (.Subscript a b pos) (kB r ga gb):=⟨Kr (hr:=hr) (ha:=ha.h) (hb:=hb.h) (hs:=hs)⟩
end
section
variable {X:Cx} {a b c:Expr} {ga gb gc:DE} {pos:Pos}
theorem fv {op:UnaryOp} {r:D1} (ho:HG X (unaryOp op) (Ki X.K r)) (ha:EJ X a ga):EJ X (.UnaryOp op a pos) (HF r ga):=⟨KF (ho:=ho) (ha:=ha.h)⟩
end
section
variable {X:Cx} {a b c:Expr} {ga gb gc:DE} {pos:Pos}
theorem ax {op:CmpOp} {r:D2} (ho:fH X (compareOp op) (j5 X.K r)) (ha:EJ X a ga) (hb:EJ X b gb) (hm:behindInMarks op b=false):TJ X (.Compare a [op] [b] pos) (pH (kB r ga gb)):=⟨Fq (ho:=ho) (ha:=ha.h) (hb:=hb.h) (hm:=hm)⟩
end
section
variable {X:Cx} {a b c:Expr} {ga gb gc:DE} {pos:Pos}
theorem lh {e:Expr} {g:DE} (h:EJ X e g) (he:∀ whole,isTrue e X.env whole=(do let v <- whole; standAt e.pos; holding [v] (truthy v)):=by intro _; rfl):TJ X e (pH g):=⟨F5 (h:=h.h) (he:=he)⟩
end
section
variable {X:Cx} {a b c:Expr} {ga gb gc:DE} {pos:Pos}
variable {tA tB':DT} {ao:List Expr}
theorem po (ha:TJ X a tA):WJ X (.BoolOp .And [a] pos) tA:=⟨Dx (ha:=ha.h)⟩
end
section
variable {X:Cx} {a b c:Expr} {ga gb gc:DE} {pos:Pos}
variable {tA tB':DT} {ao:List Expr}
theorem w4 (ha:TJ X a tA):WJ X (.BoolOp .Or [a] pos) tA:=⟨FE (ha:=ha.h)⟩
end
section
variable {X:Cx} {a b c:Expr} {ga gb gc:DE} {pos:Pos}
variable {tA tB':DT} {ao:List Expr}
theorem tN (ha:TJ X a tA) (hb:WJ X (.BoolOp .And (b::ao) pos) tB'):WJ X (.BoolOp .And (a::b::ao) pos) (zQ tA tB'):=⟨Gj (ha:=ha.h) (hb:=hb.h)⟩
end
section
variable {X:Cx} {a b c:Expr} {ga gb gc:DE} {pos:Pos}
variable {tA tB':DT} {ao:List Expr}
theorem AR (ha:TJ X a tA) (hb:WJ X (.BoolOp .Or (b::ao) pos) tB'):WJ X (.BoolOp .Or (a::b::ao) pos) (Iz tA tB'):=⟨IH (ha:=ha.h) (hb:=hb.h)⟩
end
section
variable {X:Cx} {a b c:Expr} {ga gb gc:DE} {pos:Pos}
variable {tA tB':DT} {ao:List Expr}
theorem Dd (ha:TJ X a tA):TJ X (.UnaryOp .Not a pos) (E_ tA):=⟨GN (ha:=ha.h)⟩
end
section
variable {X:Cx} {a b c:Expr} {ga gb gc:DE} {pos:Pos}
variable {tA tB':DT} {ao:List Expr}
theorem GA {op} (h:EJ X a ga):EJ X (.BoolOp op [a] pos) ga:=⟨I_ (h:=h.h)⟩
end
section
variable {X:Cx} {a b c:Expr} {ga gb gc:DE} {pos:Pos}
variable {tA tB':DT} {ao:List Expr}
theorem GE (ha:EJ X a ga) (hb:EJ X (.BoolOp .And (b::ao) pos) gb):EJ X (.BoolOp .And (a::b::ao) pos) (BK ga gb):=⟨Ir (ha:=ha.h) (hb:=hb.h)⟩
end
section
variable {X:Cx} {a b c:Expr} {ga gb gc:DE} {pos:Pos}
variable {tA tB':DT} {ao:List Expr}
theorem lM {c:Expr} (hc:TJ X c tA) (ha:EJ X a ga) (hb:EJ X b gb):EJ X (.IfExp c a b pos) (Lg tA ga gb):=⟨J4 (hc:=hc.h) (ha:=ha.h) (hb:=hb.h)⟩
end
section
variable {X:Cx} {x:Str} {p pos:Pos} {e:Expr} {es:List Expr} {t:DA} {id T:String} {r:b_}
theorem cU (hc:cA X (.builtin id) (rD X.K r)) (hg:Gl X x) (hm:X.mg x=none) (hv:bootBuiltins x=some (.builtin id)) (ha:AJ X (e::es) t) (hn:x≠"__name__":=by decide) (hdb:(x == ("__debug__":Str))=false:=by decide) (he:starEach (e::es) X.env=(false,eval e X.env)::starEach es X.env:=by exact bW rfl) (hpl:(backTo pos (starEach es X.env)).any (·.1)=false:=by exact eE rfl):EJ X (.Call (.Name x p) (e::es) [] pos) (fz r t):=⟨C_ (hc:=hc) (hg:=hg) (hm:=hm) (hv:=hv) (ha:=ha.h) (hn:=hn) (hdb:=hdb) (he:=he) (hpl:=hpl)⟩
end
section
variable {X:Cx} {x:Str} {p pos:Pos} {e:Expr} {es:List Expr} {t:DA} {id T:String} {r:b_}
theorem m8 (hc:cA X (.type T) (rD X.K r)) (hg:Gl X x) (hm:X.mg x=none) (hv:bootBuiltins x=some (.type T)) (ha:AJ X (e::es) t) (hn:x≠"__name__":=by decide) (hdb:(x == ("__debug__":Str))=false:=by decide) (he:starEach (e::es) X.env=(false,eval e X.env)::starEach es X.env:=by exact bW rfl) (hpl:(backTo pos (starEach es X.env)).any (·.1)=false:=by exact eE rfl):EJ X (.Call (.Name x p) (e::es) [] pos) (fz r t):=⟨C5 (hc:=hc) (hg:=hg) (hm:=hm) (hv:=hv) (ha:=ha.h) (hn:=hn) (hdb:=hdb) (he:=he) (hpl:=hpl)⟩
end
section
variable {X:Cx} {x:Str} {p pos:Pos} {e:Expr} {es:List Expr} {t:DA} {id T:String} {r:b_}
theorem CU {n:Nat} {F:b_} (c:aQ X.prog X.w X.K X.mg X.base x n F) (hr:cH n X.A) (hg:Gl X x) (ha:AJ X (e::es) t) (hdb:(x == ("__debug__":Str))=false:=by decide) (he:starEach (e::es) X.env=(false,eval e X.env)::starEach es X.env:=by exact bW rfl) (hpl:(backTo pos (starEach es X.env)).any (·.1)=false:=by exact eE rfl):EJ X (.Call (.Name x p) (e::es) [] pos) (fz F t):=⟨Hx (c:=c) (hr:=hr) (hg:=hg) (ha:=ha.h) (hdb:=hdb) (he:=he) (hpl:=hpl)⟩
theorem dq {n m:Nat} {F:b_} (c:aQ X.prog X.w X.K X.mg X.base x n F) (hr:cH m X.A) (ha:AJ X (e::es) t) (hg:Gl X x:=by exact rfl) (le:n<=m:=by decide) (hdb:(x == ("__debug__":Str))=false:=by decide) (he:starEach (e::es) X.env=(false,eval e X.env)::starEach es X.env:=by exact bW rfl) (hpl:(backTo pos (starEach es X.env)).any (·.1)=false:=by exact eE rfl):EJ X (.Call (.Name x p) (e::es) [] pos) (fz F t):=CU c (hr.mono le) hg ha hdb he hpl
end
section
variable {X:Cx} {x:Str} {p pos:Pos} {e:Expr} {es:List Expr} {t:DA} {id T:String} {r:b_}
theorem CW {o:Expr} {g:DE} {apos cpos:Pos} (ho:EJ X o g) (hbase:attributeBase o "bit_length" X.env (eval o X.env)=eval o X.env:=by rfl) (hline:(apos.endLine == cpos.line)=true:=by rfl):EJ X (.Call (.Attribute o "bit_length" apos) [] [] cpos) (HF Ff g):=⟨FP (ho:=ho.h) (hbase:=hbase) (hline:=hline)⟩
end
section
variable {X:Cx} {x:Str} {p pos:Pos} {e:Expr} {es:List Expr} {t:DA} {id T:String} {r:b_}
theorem vm:OJ X none EI:=⟨Et⟩
end
section
variable {X:Cx} {x:Str} {p pos:Pos} {e:Expr} {es:List Expr} {t:DA} {id T:String} {r:b_}
theorem c9 {e:Expr} {g:DE} (he:EJ X e g):OJ X (some e) (EF g):=⟨D_ (he:=he.h)⟩
end
section
variable {X:Cx} {st:Stmt} {ao:List Stmt} {g h:DS} {e:Expr} {ge:DE} {pos:Pos}
theorem aD:zo X [] Fc:=⟨Hy⟩
end
section
variable {X:Cx} {st:Stmt} {ao:List Stmt} {g h:DS} {e:Expr} {ge:DE} {pos:Pos}
theorem af (h1:SJ X st g) (h2:zo X ao h):zo X (st::ao) (rb g h):=⟨Dv (h1:=h1.h) (h2:=h2.h)⟩
end
section
variable {X:Cx} {st:Stmt} {ao:List Stmt} {g h:DS} {e:Expr} {ge:DE} {pos:Pos}
theorem ah (h1:SJ X st g):zo X [st] g:=⟨Hf (h1:=h1.h)⟩
end
section
variable {X:Cx} {st:Stmt} {ao:List Stmt} {g h:DS} {e:Expr} {ge:DE} {pos:Pos}
theorem ja (he:EJ X e ge) (hs:swapsWith e none pos.line X.env=pure false:=by rfl):SJ X (.Expr e pos) (EU ge):=⟨zB (he:=he.h) (hs:=hs)⟩
end
section
variable {X:Cx} {st:Stmt} {ao:List Stmt} {g h:DS} {e:Expr} {ge:DE} {pos:Pos}
theorem am (he:EJ X e ge):SJ X (.Return (some e) pos) (Ck ge):=⟨DV (he:=he.h)⟩
end
section
variable {X:Cx} {st:Stmt} {ao:List Stmt} {g h:DS} {e:Expr} {ge:DE} {pos:Pos}
theorem aE {c:Expr} {a b:List Stmt} {gc:DT} (hc:TJ X c gc) (ha:zo X a g) (hb:zo X b h):SJ X (.If c a b pos) (C' gc g h):=⟨Ge (hc:=hc.h) (ha:=ha.h) (hb:=hb.h)⟩
end
section
variable {X:Cx} {st:Stmt} {ao:List Stmt} {g h:DS} {e:Expr} {ge:DE} {pos:Pos}
theorem jh:SJ X st AN:=⟨xZ⟩
end
section
variable {X:Cx} {st:Stmt} {ao:List Stmt} {g h:DS} {e:Expr} {ge:DE} {pos:Pos}
theorem ag {i:Nat} {x:Str} {pos':Pos} (hN:X.N.Nodup) (he:EJ X e ge) (hi:X.N[i]?=some x:=by rfl) (hx:Fb X.env.scope x:=by first | exact Or.inl rfl | exact Or.inr rfl) (hs:swapsWith e (some (.Name x pos')) pos.line X.env=pure false:=by rfl) (hf:X.fn x=true\/X.env.scope.names.lookup x=some .local:=by first | exact .inl rfl | exact .inr rfl | assumption):SJ X (.Assign [.Name x pos'] e pos) (qY i ge):=⟨DZ (hN:=hN) (he:=he.h) (hi:=hi) (hx:=hx) (hs:=hs) (hf:=hf)⟩
end
section
variable {X:Cx} {st:Stmt} {ao:List Stmt} {g h:DS} {e:Expr} {ge:DE} {pos:Pos}
theorem Cm {i j:Nat} {x y:Str} {a b:Expr} {ta:DA} {px py pt:Pos} {kt k2 pt2} (hc:X.calm=true) (hN:X.N.Nodup) (hij:i≠j) (ha:AJ X [a,b] ta) (hi:X.N[i]?=some x:=by rfl) (hj:X.N[j]?=some y:=by rfl) (hx:X.env.scope.names.lookup x=some .local:=by rfl) (hy:X.env.scope.names.lookup y=some .local:=by rfl) (hw:swappedStores [.Tuple [.Name x px,.Name y py] kt pt] (.Tuple [a,b] k2 pt2) X.env=pure (some [x,y]):=by rfl) (hs:swapsWithSole [.Tuple [.Name x px,.Name y py] kt pt] (.Tuple [a,b] k2 pt2) pos.line X.env=pure false:=by rfl):SJ X (.Assign [.Tuple [.Name x px,.Name y py] kt pt] (.Tuple [a,b] k2 pt2) pos) (Jw i j ta):=⟨Ey (hc:=hc) (hN:=hN) (hij:=hij) (ha:=ha.h) (hi:=hi) (hj:=hj) (hx:=hx) (hy:=hy) (hw:=hw) (hs:=hs)⟩
end
section
variable {X:Cx} {st:Stmt} {ao:List Stmt} {g h:DS} {e:Expr} {ge:DE} {pos:Pos}
theorem aw {i:Nat} {x:Str} (hN:X.N.Nodup) (hi:X.N[i]?=some x:=by rfl) (hx:Fb X.env.scope x:=by first | exact Or.inl rfl | exact Or.inr rfl) (hf:X.fn x=true\/X.env.scope.names.lookup x=some .local:=by first | exact .inl rfl | exact .inr rfl | assumption):GJ X (.Name x pos) (iR i):=⟨C6 (hN:=hN) (hi:=hi) (hx:=hx) (hf:=hf)⟩
end
section
variable {X:Cx} {st:Stmt} {ao:List Stmt} {g h:DS} {e:Expr} {ge:DE} {pos:Pos}
theorem dP:JI X [] Cr:=⟨EC⟩
end
section
variable {X:Cx} {st:Stmt} {ao:List Stmt} {g h:DS} {e:Expr} {ge:DE} {pos:Pos}
theorem aJ {es:List Expr} {t:DG} {u:CC} (h1:GJ X e t) (h2:JI X es u) (hs:(assignEach (e::es) X.env).map (·.2)=assign e X.env::(assignEach es X.env).map (·.2):=by rfl):JI X (e::es) (tj t u):=⟨Cl (h1:=h1.h) (h2:=h2.h) (hs:=hs)⟩
end
section
variable {X:Cx} {st:Stmt} {ao:List Stmt} {g h:DS} {e:Expr} {ge:DE} {pos:Pos}
theorem cS {tg e:Expr} {g:DG} (he:EJ X e ge) (hg:GJ X tg g) (hs:swapsWithSole [tg] e pos.line X.env=pure false:=by rfl) (hw:swappedStores [tg] e X.env=pure none:=by rfl) (h1:(assignEach [tg] X.env).map (·.2)=[assign tg X.env]:=by rfl):SJ X (.Assign [tg] e pos) (Hq ge g):=⟨DF (he:=he.h) (hg:=hg.h) (hs:=hs) (hw:=hw) (h1:=h1)⟩
end
section
variable {X:Cx} {st:Stmt} {ao:List Stmt} {g h:DS} {e:Expr} {ge:DE} {pos:Pos}
theorem ir {c:Expr} {body:List Stmt} {gc:DT} (hp:PassesOwn (model X.prog X.w) X.A X.env X.xe) (hc:TJ X c gc) (hb:zo X body g):SJ X (.While c body [] pos) (Bu gc g):=⟨zm (hp:=hp) (hc:=hc.h) (hb:=hb.h)⟩
end
section
variable {X:Cx} {st:Stmt} {ao:List Stmt} {g h:DS} {e:Expr} {ge:DE} {pos:Pos}
theorem jd {tg a:Expr} {body:List Stmt} {ta:DA} {gg:DG} {p pos':Pos} (hp:PassesOwn (model X.prog X.w) X.A X.env X.xe) (hc:X.calm=true) (hgl:Gl X "range") (hm:X.mg "range"=none) (ha:AJ X [a] ta) (hg:GJ X tg gg) (hb:zo X body g) (hs1:starEach [a] X.env=[(false,eval a X.env)]:=by rfl) (hs:∀ x,foldedSetIterable (.Call (.Name "range" p) [a] [] pos') X.env x=pure x:=by intro _; rfl):SJ X (.For tg (.Call (.Name "range" p) [a] [] pos') body [] pos) (E1 ta gg g):=⟨zW (hp:=hp) (hc:=hc) (hgl:=hgl) (hm:=hm) (ha:=ha.h) (hg:=hg.h) (hb:=hb.h) (hs1:=hs1) (hs:=hs)⟩
end
section
variable {P:Program} {w:World} {K:Fg} {mg:Str->Option Value} {base:Heap}
theorem _root_.L2.cT.okJ {x qual:Str} {st:Stmt} {f:Addr} {fd:FuncData} {N ps:List Str} {k:Nat} {F:b_} (Fn:cT K x qual st f fd) (Sc:ar N ps (ap st)) (len:∀ ds S k,F ds S k->ds.length=ps.length)
  (hbody:∀ (cdv:Value) (A:Around) (outer:List Env) (s:Shared) (H:Hp) (E:XK),cH k (A.deeper (envOfC qual (ap st) s.heap.objs.size f cdv))->
   ∃ g,zo (u8 cQ P w K mg base N qual (ap st) f cdv A outer s H E).nox (dF st) g/\
    ∀ ds S k,F ds S k->g {nx:=fun _ S'=>k .non S',rt:=k} (ds.map some++List.replicate (N.length - ps.length) none) S):aH P w K mg base cQ (k+1) f fd ps (cY K F):=
 Fn.okD Sc len fun cdv A outer s H E hr=>let ⟨g,h,q⟩:=hbody cdv A outer s H E hr; ⟨g,h.h,q⟩
end
end DL
namespace L2
open PySem PySem.Spec PyProof.Rows
section
variable {X:Cx} {pos:Pos}
def K9 (K:PySem.W.Frag) (n:Nat) (t:A9):TG:=fun v σ H Q=>∃ a xs,v=.ref a/\jf K H a xs/\xs.length=n/\t xs σ H Q
theorem GH {es:List Expr} {k:Nat} {t:A9} {n:Nat} (hc:X.calm=true) (h:xO X es t)
  (hn:(assignEach es X.env).length=n:=by rfl) (hst:(assignEach es X.env).findIdx? (·.1)=none:=by rfl):PG X (.Tuple es k pos) (K9 X.K n t):=by
 intro pins s σ H v u Q I r hw
 obtain⟨a,xs,e1,hq,hl,hw⟩:=hw
 subst e1
 cases r
 obtain⟨its,rv,ht,hz⟩:=I.list hq
 have e2:(assignEach es X.env).length=its.toArray.size:=by simp [hn,<- hl,rv.length]
 rw [arm_assign_Tuple]
 refine wpAny_bind (wpAny_standAt ?_)
 unfold unpack
 rw [e2,hst]
 refine wpAny_bind (wpAny_holding (PySem.W.kun_itemsOf (I.ok.hd hc) ht.isList fun h' hx=>?_))
 have I1:aA X pins σ H {s with heap:=h'}:=I.kept (t':=s.toks) fun b o e=>hx b o (Nat.ne_of_lt (Heap.lt_size e)) e
 exact h pins _ σ H xs _ Q I1 (by simpa using rv) hw
theorem PG.or {e:Expr} {t t':TG} (h:PG X e t) (h':PG X e t'):PG X e (fun v σ H Q=>t v σ H Q\/t' v σ H Q):=by
 intro pins s σ H v u Q I r q
 rcases q with q | q
 ·exact h pins s σ H v u Q I r q
 ·exact h' pins s σ H v u Q I r q
end
def oo (X:Cx) (scope:Scope):List (Option Nat)->List Str->Prop
 | some j::r,x::xs=>(X.N[j]?=some x/\(X.env.scope.names.lookup x=some .cell\/X.env.scope.names.lookup x=some .free)/\((relabel scope X.env).names.lookup x=some .cell\/(relabel scope X.env).names.lookup x=some .free))/\oo X scope r xs
 | none::r,_::xs=>oo X scope r xs
 | _,_=>True
theorem oo.get {X:Cx} {scope:Scope}:∀ {cap:List (Option Nat)} {N:List Str},oo X scope cap N->∀ (i j:Nat) (x:Str),cap[i]?=some (some j)->N[i]?=some x->
  X.N[j]?=some x/\(X.env.scope.names.lookup x=some .cell\/X.env.scope.names.lookup x=some .free)/\((relabel scope X.env).names.lookup x=some .cell\/(relabel scope X.env).names.lookup x=some .free)
 | [],_,_,_,_,_,h,_=>by simp at h
 | _::_,[],_,_,_,_,_,h=>by simp at h
 | some _::_,_::_,h,0,j,x,h1,h2=>by
  simp at h1 h2
  subst h1 h2
  exact h.1
 | none::_,_::_,_,0,j,x,h1,_=>by simp at h1
 | some _::_,_::_,h,i+1,j,x,h1,h2=>oo.get h.2 i j x (by simpa using h1) (by simpa using h2)
 | none::r,_::xs,h,i+1,j,x,h1,h2=>oo.get (show oo X scope r xs from h) i j x (by simpa using h1) (by simpa using h2)
def uZ (X:Cx):List (Str×Addr)->Prop
 | []=>True
 | p::r=>X.env.cells.lookup p.1=some p.2/\uZ X r
theorem uZ.mem {X:Cx}:∀ {cl:List (Str×Addr)},uZ X cl->∀ p∈cl,X.env.cells.lookup p.1=some p.2
 | [],_,p,hp=>by simp at hp
 | q::r,h,p,hp=>by
  rcases List.mem_cons.mp hp with e | e
  ·subst e; exact h.1
  ·exact uZ.mem h.2 p e
theorem jz {X:Cx} {scope:Scope} {cl:List (Str×Addr)} {N:List Str} {cap:List (Option Nat)} (h1:scope.kind=.function) (h2:closureFor scope X.env=pure cl) (h3:(scope.names.all fun y=>y.2 != NameKind.cell)=true)
  (h4:(scope.names.all fun y=>y.2 != NameKind.local || scope.names.lookup y.1 == some NameKind.local)=true) (h5:uZ X cl)
  (h6:((relabel scope X.env).names.all fun y=>(y.2 != NameKind.cell && y.2 != NameKind.free) || (cl.lookup y.1).isSome)=true) (h7:cap.length=N.length) (h8:oo X scope cap N):gC X scope cl N cap:=⟨h1,h2,h3,h4,h5.mem,h6,h7,h8.get⟩
end L2
namespace DL
open PySem PySem.Spec PyProof.Rows L2
section
variable {X:Cx} {pos:Pos}
def mO (n:Nat) (t:CC):DG:=fun d L S k=>match aU S d with
 | some p=>p.1.length=n/\t p.1 L S k
 | none=>False
theorem FX {es:List Expr} {k:Nat} {t:CC} {n:Nat} (hc:X.calm=true) (h:JI X es t) (hn:(assignEach es X.env).length=n:=by rfl) (hst:(assignEach es X.env).findIdx? (·.1)=none:=by rfl):GJ X (.Tuple es k pos) (mO n t):=
 ⟨PG.imp (PG.or (GZ hc h.h hn hst) (GH hc h.h hn hst)) fun v σ H Q ⟨d,L,S,k,i1,hL,hS,h,m⟩=>by
  cases d with
  | tup ds=>
   obtain⟨a,xs,rfl,t1,j⟩:=cz.mp i1
   exact .inl ⟨a,xs,rfl,t1,by rw [<- j.length]; exact h.1,ds,L,S,k,j,hL,hS,h.2,m⟩
  | rl ds=>
   obtain⟨a,xs,rfl,t1,j⟩:=uQ.mp i1
   exact .inr ⟨a,xs,rfl,t1.sq,by rw [<- j.length]; exact h.1,ds,L,S,k,j,hL,hS,h.2,m⟩
  | ref a=>
   have e1:=aP.mp i1
   subst e1
   cases z:S a with
   | none=>simp only [mO,aU,z] at h
   | some o=>
    cases o with
    | dic=>simp only [mO,aU,z] at h
    | exc _=>simp only [mO,aU,z] at h
    | fn _=>simp only [mO,aU,z] at h
    | tbl _=>simp only [mO,aU,z] at h
    | gen _=>simp only [mO,aU,z] at h
    | lst ds=>
     simp only [mO,aU,z] at h
     obtain⟨xs,hl,j⟩:=hS.lst z
     exact .inr ⟨a,xs,rfl,jf.of hl,by rw [<- j.length]; exact h.1,ds,L,S,k,j,hL,hS,h.2,m⟩
  | _=>exact(show False from h).elim⟩
end
def Bv (cap:List (Option Nat)) (L:Lo):Lo:=cap.map fun o=>match o with
 | some j=>(L[j]?).join
 | none=>none
theorem Lc.cap {K:Fg} {H:Hp} {L:Lo} {σ:L2.St} (hL:Lc K H L σ):∀ cap:List (Option Nat),Lc K H (Bv cap L) (mS cap σ)
 | []=>rfl
 | Option.none::r=>⟨_,_,rfl,Lc.cap hL r⟩
 | Option.some j::r=>by
  show Lc K H ((L[j]?).join::Bv r L) ((σ[j]?).join::mS r σ)
  cases e:L[j]? with
  | none=>exact⟨_,_,rfl,Lc.cap hL r⟩
  | some o=>
   cases o with
   | none=>exact⟨_,_,rfl,Lc.cap hL r⟩
   | some d=>
    obtain⟨v,e1,e2⟩:=hL.get e
    rw [e1]
    exact⟨v,_,rfl,e2,Lc.cap hL r⟩
abbrev DB:=Lo->DH->(Option D->DH->Prop)->Prop
def gL (ge:DE):DB:=fun L S k=>ge L S fun v S1=>k (some v) S1
def zn (c:DT) (ge:DE):DB:=fun L S k=>c L S fun b S1=>if b=true then ge L S1 fun v S2=>k (some v) S2 else k none S1
def cw (ok:DH->Prop) (p:Addr) (g:DG) (bd:DB) (k:DK):List D->List D->Lo->DH->Prop
 | [],_,_,S=>ok S/\k (.ref p) S
 | d::r,acc,L,S=>ok S/\g d L S fun L1 S1=>bd L1 S1 fun o S2=>match o with
  | some v=>S2 p=some (.lst acc)/\acc.length < sizeLine/\cw ok p g bd k r (acc++[v]) L1 (put S2 p (.lst (acc++[v])))
  | none=>cw ok p g bd k r acc L1 S2
def Cw (cap:List (Option Nat)) (ta:DA) (g:DG) (bd:DB):DE:=fun L S k=>ta L S fun ds S1=>match ds with
 | [.int n]=>(-(2 ^ 62)<=n/\n < 2 ^ 62)/\∀ p,S1 p=none->cw (fun _=>True) p g bd k ((List.range n.toNat).map fun i=>D.int (i:Nat)) [] (Bv cap L) (put S1 p (.lst []))
 | _=>False
section
variable {K:Fg} {ok:DH->Prop} {gg:DG} {ge:DE} {gc:DT} {k:DK} {ds:List D} {L:Lo} {S:DH} {σ:L2.St} {H:Hp} {J:It} {Q:VK} {p:Addr}
theorem lm (hL:Lc K H L σ) (hS:Hs K H S) (hp:H p=none) (h:cw ok p gg (gL ge) k ds [] L (put S p (.lst [])))
  (n:∀ d S' v H',k d S'->Kp H H'->Hs K H' S'->bZ K H' d v->Q v H')
  (hgo:∀ i d S1 H1,ds[i]?=some d->Kp H H1->Hs K H1 S1->ok S1->J.go i H1/\∀ x H',J.yld i H1 x H'->H'=H1/\bZ K H1 d x)
  (hst:∀ S1 H1,Kp H H1->Hs K H1 S1->ok S1->J.stop ds.length H1):
  ∃ W:Nat->Nat->L2.St->Hp->Prop,(∃ m,W 0 m σ (bJ H p (.lst [])))/\∀ i m σ' H',W i m σ' H'->
   (J.stop i H'/\Q (.ref p) H')\/(J.go i H'/\∃ N:L2.St->Hp->Prop,(∀ σ2 H2,N σ2 H2->∃ m',m' < m/\W (i+1) m' σ2 H2)/\∀ x H2,J.yld i H' x H2->zt K gg x σ' H2 fun σ3 H3=>up K ge σ3 H3 fun v H4=>∃ ys,H4 p=some (.lst ys)/\ys.length < sizeLine/\N σ3 (bJ H4 p (.lst (ys++[v])))):=by
 refine⟨fun i m σ1 H1=>m=ds.length - i/\i<=ds.length/\∃ acc L1 S1,Lc K H1 L1 σ1/\Hs K H1 S1/\Kp H H1/\cw ok p gg (gL ge) k (ds.drop i) acc L1 S1,⟨ds.length,by simp,Nat.zero_le _,[],L,_,hL.kp (Kp.new hp),hS.newL hp IsDs.nil,Kp.new hp,h⟩,?_⟩
 rintro i m σ1 H1 ⟨rfl,hi,acc,L1,S1,hL1,hS1,k1,w1⟩
 by_cases hlt:i < ds.length
 ·have e:ds.drop i=ds[i]::ds.drop (i+1):=List.drop_eq_getElem_cons hlt
  rw [e] at w1
  obtain⟨o1,w1⟩:=w1
  obtain⟨g1,y1⟩:=hgo i ds[i] S1 H1 (by simp [hlt]) k1 hS1 o1
  refine .inr ⟨g1,fun σ' H'=>i+1<=ds.length/\∃ acc L' S',Lc K H' L' σ'/\Hs K H' S'/\Kp H H'/\cw ok p gg (gL ge) k (ds.drop (i+1)) acc L' S',fun σ' H' ⟨q1,q2⟩=>⟨ds.length - (i+1),by omega,rfl,q1,q2⟩,fun x H' y=>?_⟩
  obtain⟨rfl,ix⟩:=y1 x H' y
  refine⟨ds[i],L1,S1,_,ix,hL1,hS1,w1,fun L2 S2 σ2 H2 q k2 hL2 hS2=>up.go hL2 hS2 q fun d S3 v H3 h3 k3 hL3 hS3 i3=>?_⟩
  obtain⟨z1,z2,z3⟩:=h3
  obtain⟨xs,hl,j⟩:=hS3.lst z1
  have k4:Kp H3 (bJ H3 p (.lst (xs++[v]))):=Kp.mut hl (fun z=>z)
  exact⟨xs,hl,by rw [<- j.length]; exact z2,hlt,_,L2,_,hL3.kp k4,hS3.setL hl (j.append (IsDs.cons i3 IsDs.nil)),((k1.trans k2).trans k3).trans k4,z3⟩
 ·have e:i=ds.length:=by omega
  subst e
  rw [List.drop_length] at w1
  obtain⟨o1,w1⟩:=w1
  exact .inl ⟨hst S1 H1 k1 hS1 o1,n _ S1 _ H1 w1 k1 hS1 (aP.mpr rfl)⟩
end
theorem vc {K:Fg} {H:Hp} {n:Int}:∀ i d (S1:DH) H1,((List.range n.toNat).map fun i=>D.int (i:Nat))[i]?=some d->Kp H H1->Hs K H1 S1->(fun _=>True:DH->Prop) S1->(Im 0 n.toNat).go i H1/\∀ x H',(Im 0 n.toNat).yld i H1 x H'->H'=H1/\bZ K H1 d x:=by
 intro i d S1 H1 e _ _ _
 rw [List.getElem?_map] at e
 cases q:(List.range (Int.toNat _))[i]? with
 | none=>rw [q] at e; cases e
 | some z=>
  rw [q] at e
  cases e
  obtain⟨hz1,hz2⟩:=List.getElem?_eq_some_iff.mp q
  rw [List.length_range] at hz1
  rw [List.getElem_range] at hz2
  subst hz2
  exact⟨hz1,fun x H' y=>⟨y.1,by rw [y.2]; exact isInt.mpr (by rw [Int.zero_add])⟩⟩
section
variable {X:Cx} {elt tg iter c a:Expr} {scope:Scope} {cl:List (Str×Addr)} {N:List Str} {cap:List (Option Nat)} {pos p pos':Pos} {gg:DG} {ge gi:DE} {gc:DT} {ta:DA}
theorem Cd (hc:X.calm=true) (Sc:gC X scope cl N cap) (hgl:Gl X "range") (hm:X.mg "range"=none) (ha:AJ X [a] ta) (hg:∀ s0 H0 ex C,GJ (js X scope cl N s0 H0 ex C) tg gg) (he:∀ s0 H0 ex C,EJ (js X scope cl N s0 H0 ex C) elt ge)
  (hs1:starEach [a] X.env=[(false,eval a X.env)]:=by exact bW rfl) (hs:∀ x,foldedSetIterable (.Call (.Name "range" p) [a] [] pos') X.env x=pure x:=by intro _; rfl):
  EJ X (.ListComp elt [⟨tg,.Call (.Name "range" p) [a] [] pos',[],0⟩] scope pos) (Cw cap ta gg (gL ge)):=
 ⟨PE.imp (s_ hc Sc (nJ hgl hm ha.h hs1) (fun s0 H0 ex C=>(hg s0 H0 ex C).h) (fun s0 H0 ex C=>(he s0 H0 ex C).h) hs) fun σ H Q ⟨L,S,k,hL,hS,h,n⟩=>oJ.go hL hS h fun ds S1 vs H1 h1 k1 hL1 hS1 i1=>by
  split at h1
  ·obtain⟨v,rfl,j⟩:=gO i1
   have e:=isInt.mp j
   subst e
   obtain⟨⟨h2,h3⟩,h1⟩:=h1
   refine⟨_,rfl,h2,h3,fun D hD=>lm (hL1.cap cap) hS1 hD (h1 D (hS1.free hD)) (fun d S' v H' q k3=>n d S' v H' q (k1.trans k3)) vc fun S2 H2 k2 hS2 _=>?_⟩
   rw [List.length_map,List.length_range]
   exact Nat.le_refl _
  ·exact h1.elim⟩
end
def qU (K:Fg) (mg:Str->Option Value) (x:Str) (ns:List Int):Prop:=∃ p o its n,mg x=some (.ref p)/\K.lookup p=some o/\o.cls=.type "tuple"/\o.data=.seq its n/\its.size<=sizeLine/\aL (ns.map V.int) its.toList
theorem ol {K:Fg} {H:Hp}:∀ ns:List Int,IsDs K H (ns.map D.int) (ns.map V.int)
 | []=>IsDs.nil
 | _::ns=>IsDs.cons (isInt.mpr rfl) (ol ns)
theorem fM {X:Cx} {x:Str} {ns:List Int} {pos:Pos} (g:qU X.K X.mg x ns) (hg:Gl X x) (hd:(x == ("__debug__":Str))=false:=by decide):EJ X (.Name x pos) (dC (.tup (ns.map D.int))):=by
 obtain⟨p,o,its,n,hm,h1,h2,h3,h4,h5⟩:=g
 exact⟨HK (xt (v:=.ref p) hg hm rfl hd) fun H=>cz.mpr ⟨p,_,rfl,.inr ⟨o,its,n,h1,h2,h3,h4,h5⟩,ol ns⟩⟩
theorem j5.imp {K:Fg} {r r':D2} (i:∀ d e S k,r' d e S k->r d e S k):∀ x y H Q,j5 K r' x y H Q->j5 K r x y H Q:=fun x y H Q ⟨d,e,S,k,a,b,c,h,n⟩=>⟨d,e,S,k,a,b,c,i d e S k h,n⟩
theorem rD.imp {K:Fg} {r r':b_} (i:∀ ds S k,r' ds S k->r ds S k):∀ xs H Q,rD K r' xs H Q->rD K r xs H Q:=fun xs H Q ⟨ds,S,k,a,b,h,n⟩=>⟨ds,S,k,a,b,i ds S k h,n⟩
theorem z6.imp {X:Cx} {r r':R2} (h:z6 X r) (i:∀ x y H Q,r' x y H Q->r x y H Q):z6 X r':=fun value slice pins s σ H x y v u Q I rx ry q=>h value slice pins s σ H x y v u Q I rx ry (i x y H Q q)
theorem cA.imp {X:Cx} {f:Value} {r r':List V->Hp->VK->Prop} (h:cA X f r) (i:∀ xs H Q,r' xs H Q->r xs H Q):cA X f r':=fun pins s σ H xs us Q I rs q=>h pins s σ H xs us Q I rs (i xs H Q q)
def kg:D2:=fun d e S k=>match d,e with
 | .tup ds,.int i=>(match L2.atI ds i with
  | some c=>k c S
  | none=>False)
 | .rl ds,.int i=>∃ c,L2.atI ds i=some c/\k c S
 | .ref a,.int i=>∃ ds c,S a=some (.lst ds)/\L2.atI ds i=some c/\k c S
 | _,_=>False
theorem aj {X:Cx}:z6 X (j5 X.K kg):=z6.imp KS (j5.imp fun d e S k h=>by
 unfold kg at h
 split at h
 ·exact h
 ·obtain⟨c,h1,h2⟩:=h
  simp only [vV,h1]
  exact h2
 ·obtain⟨ds,c,h0,h1,h2⟩:=h
  simp only [vV,h0,h1]
  exact h2
 ·exact h.elim)
def Fh:b_:=fun ds S k=>match ds with
 | [.tup xs]=>k (.int xs.length) S
 | [.rl xs]=>k (.int xs.length) S
 | [.ref a]=>∃ xs,S a=some (.lst xs)/\k (.int xs.length) S
 | _=>False
theorem BP {X:Cx}:cA X (.builtin "len") (rD X.K Fh):=cA.imp Iu (rD.imp fun ds S k h=>by
 unfold Fh at h
 split at h
 ·exact h
 ·exact h
 ·obtain⟨xs,h1,h2⟩:=h
  simp only [F7,h1]
  exact h2
 ·exact h.elim)
def ID (gi:DE) (g:DG) (b:DS):DS:=fun M L S=>gi L S fun d S1=>∃ p,aU S1 d=some p/\iK (mX p) g b M p.1 L S1
def BN (n:Nat) (t:CC):DG:=fun d L S k=>∃ p,aU S d=some p/\p.1.length=n/\t p.1 L S k
theorem GJ.imp {X:Cx} {e:Expr} {g g':DG} (h:GJ X e g) (i:∀ d L S k,g' d L S k->g d L S k):GJ X e g':=⟨PG.imp h.h fun v σ H Q ⟨d,L,S,k,a,hL,hS,q,n⟩=>⟨d,L,S,k,a,hL,hS,i d L S k q,n⟩⟩
theorem fC {X:Cx} {pos:Pos} {es:List Expr} {k:Nat} {t:CC} {n:Nat} (hc:X.calm=true) (h:JI X es t) (hn:(assignEach es X.env).length=n:=by rfl) (hst:(assignEach es X.env).findIdx? (·.1)=none:=by rfl):GJ X (.Tuple es k pos) (BN n t):=
 GJ.imp (FX hc h hn hst) fun d L S k ⟨p,h1,h2⟩=>by
  simp only [mO,h1]
  exact h2
section
variable {X:Cx} {pos:Pos}
def FJ (go gi:DE):DG:=fun d L S k=>go L S fun o S1=>gi L S1 fun i S2=>match o,i with
 | .ref a,.int j=>∃ ds n,S2 a=some (.lst ds)/\AA ds.length j=some n/\k L (put S2 a (.lst (ds.set n d)))
 | _,_=>False
theorem xJ {o i:Expr} {go gi:DE} (ho:EJ X o go) (hi:EJ X i gi)
  (ha:∀ v,assign (.Subscript o i pos) X.env v=(do
   let ov <- holding [v] (eval o X.env)
   let iv <- holding [v,ov] (eval i X.env)
   standAt pos
   holding [v,ov,iv] (setItem ov iv v)
   release [v,ov,iv] []):=by intro _; rfl):GJ X (.Subscript o i pos) (FJ go gi):=
 ⟨PG.imp (v8 ho.h hi.h Cb ha) fun v σ H Q ⟨d,L,S,k,i1,hL,hS,h,n⟩=>up.go hL hS h fun c S1 u H1 h1 k1 hL1 hS1 j1=>up.go hL1 hS1 h1 fun c2 S2 u2 H2 h2 k2 hL2 hS2 j2=>by
  cases c with
  | ref a=>
   cases c2 with
   | int z=>
    have e1:=aP.mp j1
    have e2:=isInt.mp j2
    subst e1
    subst e2
    obtain⟨ds,m,w,q,h2⟩:=h2
    obtain⟨vs,hl,j⟩:=hS2.lst w
    refine⟨a,vs,z,m,rfl,rfl,hl,by rw [<- j.length]; exact q,?_⟩
    have k3:Kp H2 (bJ H2 a (.lst (vs.set m v))):=Kp.mut hl (fun z=>z)
    exact n L _ σ _ h2 (k1.trans (k2.trans k3)) (hL2.kp k3) (hS2.setL hl (j.set m (i1.kp (k1.trans k2))))
   | _=>exact(show False from h2).elim
  | _=>exact(show False from h2).elim⟩
theorem zG {K:Fg} {S1:DH} {H1:Hp} {d:D} {v:V} {p:List D×Option Addr} (hS1:Hs K H1 S1) (i1:bZ K H1 d v) (hp:aU S1 d=some p):∃ a,v=.ref a/\
  (((∃ xs, jf K H1 a xs) ∧ (∀ i c S2 H2, p.1[i]? = some c → Kp H1 H2 → Hs K H2 S2 → mX p S2 → (HP K a).go i H2 ∧ ∀ x H', (HP K a).yld i H2 x H' → H' = H2 ∧ bZ K H2 c x) ∧ ∀ S2 H2, Kp H1 H2 → Hs K H2 S2 → mX p S2 → (HP K a).stop p.1.length H2) ∨
   ((∃ xs,ka K H1 a xs)/\(∀ i c S2 H2,p.1[i]?=some c->Kp H1 H2->Hs K H2 S2->mX p S2->(IL K a).go i H2/\∀ x H',(IL K a).yld i H2 x H'->H'=H2/\bZ K H2 c x)/\∀ S2 H2,Kp H1 H2->Hs K H2 S2->mX p S2->(IL K a).stop p.1.length H2)):=by
 cases d with
 | tup ds=>
  cases hp
  obtain⟨a,xs,rfl,t,j⟩:=cz.mp i1
  refine⟨a,rfl,.inr ⟨⟨xs,t⟩,fun i d S2 H2 e k2 hS2 _=>?_,fun S2 H2 k2 hS2 _=>⟨xs,k2.tup t,by rw [<- j.length]; exact Nat.le_refl _⟩⟩⟩
  obtain⟨w,e1,e2⟩:=j.get e
  refine⟨⟨xs,w,k2.tup t,e1⟩,fun x H' y=>⟨y.1,?_⟩⟩
  have z:=y.2 xs (k2.tup t)
  rw [e1] at z
  cases z
  exact e2.kp k2
 | rl ds=>
  cases hp
  obtain⟨a,xs,rfl,t,j⟩:=uQ.mp i1
  refine⟨a,rfl,.inl ⟨⟨xs,t.sq⟩,fun i d S2 H2 e k2 hS2 _=>?_,fun S2 H2 k2 hS2 _=>⟨xs,(k2.fro t).sq,by rw [<- j.length]; exact Nat.le_refl _⟩⟩⟩
  obtain⟨w,e1,e2⟩:=j.get e
  refine⟨⟨xs,w,(k2.fro t).sq,e1⟩,fun x H' y=>⟨y.1,?_⟩⟩
  have z:=y.2 xs (k2.fro t).sq
  rw [e1] at z
  cases z
  exact e2.kp k2
 | ref a=>
  have e1:=aP.mp i1
  subst e1
  cases z:S1 a with
  | none=>simp only [aU,z] at hp; cases hp
  | some o=>
   cases o with
   | dic=>simp only [aU,z] at hp; cases hp
   | exc _=>simp only [aU,z] at hp; cases hp
   | fn _=>simp only [aU,z] at hp; cases hp
   | tbl _=>simp only [aU,z] at hp; cases hp
   | gen _=>simp only [aU,z] at hp; cases hp
   | lst ds=>
    simp only [aU,z] at hp
    cases hp
    obtain⟨xs,hl,j⟩:=hS1.lst z
    refine⟨a,rfl,.inl ⟨⟨xs,jf.of hl⟩,fun i d S2 H2 e k2 hS2 o2=>?_,fun S2 H2 k2 hS2 o2=>?_⟩⟩
    ·obtain⟨ys,hl2,j2⟩:=hS2.lst o2
     obtain⟨w,e1,e2⟩:=j2.get e
     refine⟨⟨ys,w,jf.of hl2,e1⟩,fun x H' y=>⟨y.1,?_⟩⟩
     have q:=y.2 ys (jf.of hl2)
     rw [e1] at q
     cases q
     exact e2
    ·obtain⟨ys,hl2,j2⟩:=hS2.lst o2
     exact⟨ys,jf.of hl2,by rw [<- j2.length]; exact Nat.le_refl _⟩
 | _=>cases hp
theorem eS {tg iter:Expr} {body:List Stmt} {gi:DE} {gg:DG} {g:DS} (hp:PassesOwn (model X.prog X.w) X.A X.env X.xe) (hc:X.calm=true) (hi:EJ X iter gi) (hg:GJ X tg gg) (hb:zo X body g)
  (hs:∀ x,foldedSetIterable iter X.env x=pure x:=by intro _; rfl):SJ X (.For tg iter body [] pos) (ID gi gg g):=
 ⟨PS.imp (tu hp hc (Co hi.h) hg.h hb.h hs) fun N σ H ⟨L,S,M,hL,hS,h,r⟩=>up.go hL hS h fun d S1 v H1 h1 k1 hL1 hS1 i1=>by
  obtain⟨p,hp,h1⟩:=h1
  obtain⟨a,e,q⟩:=zG hS1 i1 hp
  refine⟨a,e,?_⟩
  rcases q with ⟨q1,q2,q3⟩ | ⟨q1,q2,q3⟩
  ·exact .inl ⟨q1,mV hL1 hS1 h1 (r.kp k1) q2 q3⟩
  ·exact .inr ⟨q1,mV hL1 hS1 h1 (r.kp k1) q2 q3⟩⟩
def Fv (cap:List (Option Nat)) (gi:DE) (g:DG) (bd:DB):DE:=fun L S k=>gi L S fun d S1=>∃ q,aU S1 d=some q/\∀ p,S1 p=none->cw (mX q) p g bd k q.1 [] (Bv cap L) (put S1 p (.lst []))
theorem Ch {elt tg iter:Expr} {scope:Scope} {cl:List (Str×Addr)} {N:List Str} {cap:List (Option Nat)} {gg:DG} {ge gi:DE} (hc:X.calm=true) (Sc:gC X scope cl N cap) (hi:EJ X iter gi) (hg:∀ s0 H0 ex C,GJ (js X scope cl N s0 H0 ex C) tg gg) (he:∀ s0 H0 ex C,EJ (js X scope cl N s0 H0 ex C) elt ge)
  (hs:∀ x,foldedSetIterable iter X.env x=pure x:=by intro _; rfl):EJ X (.ListComp elt [⟨tg,iter,[],0⟩] scope pos) (Fv cap gi gg (gL ge)):=
 ⟨PE.imp (s_ hc Sc (Co hi.h) (fun s0 H0 ex C=>(hg s0 H0 ex C).h) (fun s0 H0 ex C=>(he s0 H0 ex C).h) hs) fun σ H Q ⟨L,S,k,hL,hS,h,n⟩=>up.go hL hS h fun d S1 v H1 h1 k1 hL1 hS1 i1=>by
  obtain⟨p,hp,h1⟩:=h1
  obtain⟨a,e,q⟩:=zG hS1 i1 hp
  refine⟨a,e,?_⟩
  have n':∀ d S' v H',k d S'->Kp H1 H'->Hs X.K H' S'->bZ X.K H' d v->Q v H':=fun d S' v H' q k3=>n d S' v H' q (k1.trans k3)
  rcases q with ⟨q1,q2,q3⟩ | ⟨q1,q2,q3⟩
  ·exact .inl ⟨q1,fun D hD=>lm (hL1.cap cap) hS1 hD (h1 D (hS1.free hD)) n' q2 q3⟩
  ·exact .inr ⟨q1,fun D hD=>lm (hL1.cap cap) hS1 hD (h1 D (hS1.free hD)) n' q2 q3⟩⟩
end
end DL
namespace L2
open PySem PySem.Spec PyProof.Rows
section
variable {X:Cx} {pins:List (Addr×Obj)} {σ:St} {H:Hp} {s:Shared} {h':Heap}
theorem aA.turnedL {t':Nat} (ch:List Addr) (I:aA X pins σ H s) (k:∀ b o,b∉ch->s.heap.get? b=some o->h'.get? b=some o) (hf:∀ b∈ch,nI X pins H b):aA X pins σ H {s with heap:=h',toks:=t'}:=by
 have nit:∀ b u,H b=some u->b∉ch:=fun b u e z=>by rw [(hf b z).1] at e; cases e
 refine I.step (g':=s.gens) (d':=s.drawn) (ch:=ch) (fun b hb=>⟨(hf b hb).2.2.2.1,(hf b hb).2.1,(hf b hb).2.2.2.2.1,(hf b hb).2.2.2.2.2⟩) (fun b o _ _ hc e _=>k b o hc e) (fun b o _ _ hc e _=>⟨o.slots,k b o hc e⟩) (fun _ _ _ _ n=>n)
  (fun b o hc e=>⟨o,k b o hc e⟩) (fun _ _ e=>e) (fun _ _ _ e=>e) (fun b ps e=>⟨#[],by rw [e]; simp⟩) (fun m hm=>?_) (fun b u e=>?_) I.bare
 ·obtain⟨o,es,ep,ho,r⟩:=hm
  exact⟨o,es,ep,k _ o (fun z=>(hf _ z).2.1 rfl) ho,r⟩
 ·refine(I.hok b u e).stay (fun c v hc q=>k c v ?_ q) (fun _ q=>q) fun _ _ q=>q
  rcases hc with z | z
  ·rw [z]; exact nit b u e
  ·exact nit c _ z
theorem aA.turnedNew {t':Nat} {T:Addr} {xs:List V} (ch:List Addr) (I:aA X pins σ H s) (k:∀ b o,b∉ch->s.heap.get? b=some o->h'.get? b=some o) (hf:∀ b∈ch,nI X pins H b) (hT:s.heap.objs.size<=T)
  (new:dE X.prog X.w (bJ H T (.tup xs)) h' T (.tup xs)):aA X pins σ (bJ H T (.tup xs)) {s with heap:=h',toks:=t'}:=by
 have hn:H T=none:=I.hok.fresh hT
 have nit:∀ b u,H b=some u->b∉ch:=fun b u e z=>by rw [(hf b z).1] at e; cases e
 have neT:∀ b o,s.heap.get? b=some o->b≠T:=fun b o e z=>by subst z; exact absurd (Nat.lt_of_lt_of_le (Heap.lt_size e) hT) (Nat.lt_irrefl _)
 refine I.step (g':=s.gens) (d':=s.drawn) (ch:=ch) (fun b hb=>⟨(hf b hb).2.2.2.1,(hf b hb).2.1,(hf b hb).2.2.2.2.1,(hf b hb).2.2.2.2.2⟩) (fun b o _ _ hc e _=>k b o hc e) (fun b o _ _ hc e _=>⟨o.slots,k b o hc e⟩) (fun b o _ e n=>by rw [aG (neT b o e)]; exact n)
  (fun b o hc e=>⟨o,k b o hc e⟩) (fun b _ e=>by rw [aG (b8 e hn)]; exact e) (fun b _ _ e=>by rw [aG (b8 e hn)]; exact e) (fun b ps e=>⟨#[],by rw [aG (b8 e hn),e]; simp⟩) (fun m hm=>?_) (fun b u e=>?_) I.bare
 ·obtain⟨o,es,ep,ho,r⟩:=hm
  exact⟨o,es,ep,k _ o (fun z=>(hf _ z).2.1 rfl) ho,r⟩
 ·by_cases hb:b=T
  ·subst hb
   rw [bC] at e
   cases e
   exact new
  ·rw [aG hb] at e
   refine(I.hok b u e).stay (fun c v hc q=>k c v ?_ q) (fun c q=>by rw [aG (b8 q hn)]; exact q) fun c _ q=>by rw [aG (b8 q hn)]; exact q
   rcases hc with z | z
   ·rw [z]; exact nit b u e
   ·exact nit c _ z
end
def K0 (b:Bool) (K:PySem.W.Frag) (H:Hp) (a:Addr) (xs:List V):Prop:=match b with | true=>jf K H a xs | false=>ka K H a xs
def sqB (b:Bool) (l:Addr) (xs:Array Value) (h:Heap):Prop:=match b with | true=>h.IsList l xs | false=>h.IsTuple l xs
section
variable {X:Cx} {pins:List (Addr×Obj)} {σ:St} {H:Hp} {s:Shared} {a:Addr} {xs ys:List V} {b:Bool}
theorem aA.sqB (I:aA X pins σ H s) (h:K0 b X.K H a xs):∃ its:List Value,aL xs its/\L2.sqB b a its.toArray s.heap:=by
 cases b with
 | true=>obtain⟨its,r,p,_⟩:=I.list h; exact⟨its,r,p.isList⟩
 | false=>obtain⟨its,r,p,_⟩:=I.tuple h; exact⟨its,r,p⟩
theorem FN {its:Array Value} {h:Heap} (e:L2.sqB b a its h):a < h.objs.size:=by
 cases b with
 | true=>obtain⟨o,e,_⟩:=e; exact Heap.lt_size e
 | false=>obtain⟨o,e,_⟩:=e; exact Heap.lt_size e
end
end L2
namespace DL
open PySem PySem.Spec PyProof.Rows L2
section
variable {K:Fg} {ok:DH->Prop} {gg:DG} {ge:DE} {k:DK} {ds:List D} {L:Lo} {S:DH} {σ:L2.St} {H:Hp} {J:It} {p:Addr} {Q:V->Hp->Prop}
theorem wf (hL:Lc K H L σ) (hS:Hs K H S) (hp:H p=none) (h:cw ok p gg (gL ge) k ds [] L (put S p (.lst [])))
  (n:∀ d S' v H',k d S'->Kp H H'->Hs K H' S'->bZ K H' d v->Q v H')
  (hgo:∀ i d S1 H1,ds[i]?=some d->Kp H H1->Hs K H1 S1->ok S1->J.go i H1/\∀ x H',J.yld i H1 x H'->Kp H1 H'/\Hs K H' S1/\bZ K H' d x)
  (hst:∀ S1 H1,Kp H H1->Hs K H1 S1->ok S1->J.stop ds.length H1):
  ∃ W:Nat->Nat->L2.St->Hp->Prop,(∃ m,W 0 m σ (bJ H p (.lst [])))/\∀ i m σ' H',W i m σ' H'->
   (J.stop i H'/\Q (.ref p) H')\/(J.go i H'/\∃ N:L2.St->Hp->Prop,(∀ σ2 H2,N σ2 H2->∃ m',m' < m/\W (i+1) m' σ2 H2)/\∀ x H2,J.yld i H' x H2->zt K gg x σ' H2 fun σ3 H3=>up K ge σ3 H3 fun v H4=>∃ ys,H4 p=some (.lst ys)/\ys.length < sizeLine/\N σ3 (bJ H4 p (.lst (ys++[v])))):=by
 refine⟨fun i m σ1 H1=>m=ds.length - i/\i<=ds.length/\∃ acc L1 S1,Lc K H1 L1 σ1/\Hs K H1 S1/\Kp H H1/\cw ok p gg (gL ge) k (ds.drop i) acc L1 S1,⟨ds.length,by simp,Nat.zero_le _,[],L,_,hL.kp (Kp.new hp),hS.newL hp IsDs.nil,Kp.new hp,h⟩,?_⟩
 rintro i m σ1 H1 ⟨rfl,hi,acc,L1,S1,hL1,hS1,k1,w1⟩
 by_cases hlt:i < ds.length
 ·have e:ds.drop i=ds[i]::ds.drop (i+1):=List.drop_eq_getElem_cons hlt
  rw [e] at w1
  obtain⟨o1,w1⟩:=w1
  obtain⟨g1,y1⟩:=hgo i ds[i] S1 H1 (by simp [hlt]) k1 hS1 o1
  refine .inr ⟨g1,fun σ' H'=>i+1<=ds.length/\∃ acc L' S',Lc K H' L' σ'/\Hs K H' S'/\Kp H H'/\cw ok p gg (gL ge) k (ds.drop (i+1)) acc L' S',fun σ' H' ⟨q1,q2⟩=>⟨ds.length - (i+1),by omega,rfl,q1,q2⟩,fun x H' y=>?_⟩
  obtain⟨k0,hS0,ix⟩:=y1 x H' y
  refine⟨ds[i],L1,S1,_,ix,hL1.kp k0,hS0,w1,fun L2 S2 σ2 H2 q k2 hL2 hS2=>up.go hL2 hS2 q fun d S3 v H3 h3 k3 hL3 hS3 i3=>?_⟩
  obtain⟨z1,z2,z3⟩:=h3
  obtain⟨xs,hl,j⟩:=hS3.lst z1
  have k4:Kp H3 (bJ H3 p (.lst (xs++[v]))):=Kp.mut hl (fun z=>z)
  exact⟨xs,hl,by rw [<- j.length]; exact z2,hlt,_,L2,_,hL3.kp k4,hS3.setL hl (j.append (IsDs.cons i3 IsDs.nil)),(((k1.trans k0).trans k2).trans k3).trans k4,z3⟩
 ·have e:i=ds.length:=by omega
  subst e
  rw [List.drop_length] at w1
  obtain⟨o1,w1⟩:=w1
  exact .inl ⟨hst S1 H1 k1 hS1 o1,n _ S1 _ H1 w1 k1 hS1 (aP.mpr rfl)⟩
end
theorem Gh {K:Fg} {S1:DH} {H1:Hp} {d:D} {v:V} {p:List D×Option Addr} (hS1:Hs K H1 S1) (i1:bZ K H1 d v) (hp:aU S1 d=some p):∃ a b,v=.ref a/\
  (∃ xs,K0 b K H1 a xs)/\∀ S2 H2,Kp H1 H2->Hs K H2 S2->mX p S2->∃ xs,K0 b K H2 a xs/\IsDs K H2 p.1 xs:=by
 cases d with
 | tup ds=>
  cases hp
  obtain⟨a,xs,rfl,t,j⟩:=cz.mp i1
  exact⟨a,false,rfl,⟨xs,t⟩,fun S2 H2 k2 _ _=>⟨xs,k2.tup t,j.kp k2⟩⟩
 | rl ds=>
  cases hp
  obtain⟨a,xs,rfl,t,j⟩:=uQ.mp i1
  exact⟨a,true,rfl,⟨xs,t.sq⟩,fun S2 H2 k2 _ _=>⟨xs,(k2.fro t).sq,j.kp k2⟩⟩
 | ref a=>
  have e1:=aP.mp i1
  subst e1
  cases z:S1 a with
  | none=>simp only [aU,z] at hp; cases hp
  | some o=>
   cases o with
   | dic=>simp only [aU,z] at hp; cases hp
   | exc _=>simp only [aU,z] at hp; cases hp
   | fn _=>simp only [aU,z] at hp; cases hp
   | tbl _=>simp only [aU,z] at hp; cases hp
   | gen _=>simp only [aU,z] at hp; cases hp
   | lst ds=>
    simp only [aU,z] at hp
    cases hp
    obtain⟨xs,hl,j⟩:=hS1.lst z
    refine⟨a,true,rfl,⟨xs,jf.of hl⟩,fun S2 H2 k2 hS2 o2=>?_⟩
    obtain⟨ys,hl2,j2⟩:=hS2.lst o2
    exact⟨ys,jf.of hl2,j2⟩
 | _=>cases hp
theorem ur {K:Fg} {H:Hp}:∀ {bs:List Bool} {xs:List V},IsDs K H (bs.map D.bl) xs->xs=bs.map V.bl
 | [],_,h=>iI.mp h
 | b::bs,_,h=>by
  obtain⟨v,r,rfl,h1,h2⟩:=cD.mp h
  rw [cg.mp h1,ur h2]
  rfl
theorem uA:∀ {bs:List Bool} {us:List Value},aL (bs.map V.bl) us->us=bs.map Value.bool
 | [],_,.nil=>rfl
 | b::bs,_,.cons r t=>by
  cases r
  rw [uA t]
  rfl
theorem DJ {S:DH} {d:D} {q:List D×Option Addr} (h:aU S d=some q):mX q S:=by
 cases d with
 | tup ds=>cases h; trivial
 | rl ds=>cases h; trivial
 | ref a=>
  simp only [aU] at h
  split at h
  ·rename_i z; cases h; exact z
  ·cases h
 | _=>cases h
section
variable {X:Cx} {o e a b c:Expr} {go ge ga gb gc:DE} {apos cpos pos:Pos}
def K6 (go ge:DE):DE:=fun L S k=>go L S fun d S1=>match d with
 | .ref a=>(∃ ds,S1 a=some (.lst ds))/\ge L S1 fun e S2=>∃ ds,S2 a=some (.lst ds)/\ds.length < sizeLine/\k .non (put S2 a (.lst (ds++[e])))
 | _=>False
theorem uh (ho:EJ X o go) (he:EJ X e ge) (hbase:attributeBase o "append" X.env (eval o X.env)=eval o X.env:=by rfl)
  (hfew:((backTo cpos (starEach [e] X.env)).all (fun x=>!x.1) && (backToKw cpos (keywordEach [] X.env)).all (fun x=>x.1.isSome) && decide ([e].length+([]:List Keyword).length+(if ([]:List Keyword).isEmpty then 0 else 1) < 30))=true:=by rfl)
  (hline:(apos.endLine == cpos.line)=true:=by rfl) (hs:starEach [e] X.env=(false,eval e X.env)::starEach [] X.env:=by rfl) (hpl:(backTo cpos (starEach [] X.env)).any (·.1)=false:=by rfl):
  EJ X (.Call (.Attribute o "append" apos) [e] [] cpos) (K6 go ge):=
 ⟨PE.imp (JE PySem.F.plainAttrs_list PySem.F.slot_list_append PySem.F.type_list_append lv ho.h (nv he.h pR hs) hbase hfew hline hs hpl) fun σ H Q ⟨L,S,k,hL,hS,h,n⟩=>up.go hL hS h fun d S1 v H1 h1 k1 hL1 hS1 i1=>by
  cases d with
  | ref a=>
   have e1:=aP.mp i1
   subst e1
   obtain⟨⟨ds1,z1⟩,h1⟩:=h1
   obtain⟨xs1,hl1,_⟩:=hS1.lst z1
   refine⟨.inl ⟨rfl,xs1,jf.of hl1⟩,up.go hL1 hS1 h1 fun d2 S2 v2 H2 h2 k2 hL2 hS2 i2=>?_⟩
   obtain⟨ds,z,hz,w⟩:=h2
   obtain⟨xs,hl,j⟩:=hS2.lst z
   have k3:Kp H2 (bJ H2 a (.lst (xs++[v2]))):=Kp.mut hl (fun z=>z)
   exact⟨a,xs,v2,rfl,rfl,hl,by rw [<- j.length]; exact hz,n _ _ _ _ w (k1.trans (k2.trans k3)) (hS2.setL hl (j.append (IsDs.cons i2 IsDs.nil))) (c8.mpr rfl)⟩
  | _=>exact(show False from h1).elim⟩
end
theorem yR {K:Fg} {ok:DH->Prop} {gg:DG} {b:DS} {M:nh} {ds:List D} {L:Lo} {S:DH} {N:rj} {σ:L2.St} {H:Hp} {J:It} (hL:Lc K H L σ) (hS:Hs K H S) (h:iK ok gg b M ds L S) (r:HC K H M N)
  (hgo:∀ i d S1 H1,ds[i]?=some d->Kp H H1->Hs K H1 S1->ok S1->J.go i H1/\∀ x H',J.yld i H1 x H'->Kp H1 H'/\Hs K H' S1/\bZ K H' d x)
  (hst:∀ S1 H1,Kp H H1->Hs K H1 S1->ok S1->J.stop ds.length H1):
  ∃ W:Nat->Nat->L2.St->Hp->Prop,(∃ m,W 0 m σ H)/\∀ i m σ H,W i m σ H->
   (J.stop i H/\N.nx σ H)\/(J.go i H/\∃ N':L2.St->Hp->Prop,(∀ σ' H',N' σ' H'->∃ m',m' < m/\W (i+1) m' σ' H')/\∀ x H',J.yld i H x H'->zt K gg x σ H' fun σ2 H2=>nG K b {N with nx:=N',ct:=N',bk:=N.nx} σ2 H2):=by
 refine⟨fun i m σ1 H1=>m=ds.length - i/\i<=ds.length/\∃ L1 S1,Lc K H1 L1 σ1/\Hs K H1 S1/\Kp H H1/\iK ok gg b M (ds.drop i) L1 S1,⟨ds.length,by simp,Nat.zero_le _,L,S,hL,hS,Kp.refl H,h⟩,?_⟩
 rintro i m σ1 H1 ⟨rfl,hi,L1,S1,hL1,hS1,k1,w1⟩
 by_cases hlt:i < ds.length
 ·have e:ds.drop i=ds[i]::ds.drop (i+1):=List.drop_eq_getElem_cons hlt
  rw [e] at w1
  obtain⟨o1,w1⟩:=w1
  obtain⟨g1,y1⟩:=hgo i ds[i] S1 H1 (by simp [hlt]) k1 hS1 o1
  refine .inr ⟨g1,fun σ' H'=>i+1<=ds.length/\∃ L' S',Lc K H' L' σ'/\Hs K H' S'/\Kp H H'/\iK ok gg b M (ds.drop (i+1)) L' S',fun σ' H' ⟨q1,q2⟩=>⟨ds.length - (i+1),by omega,rfl,q1,q2⟩,fun x H' y=>?_⟩
  obtain⟨k0,hS0,ix⟩:=y1 x H' y
  have k10:=k1.trans k0
  refine⟨ds[i],L1,S1,_,ix,hL1.kp k0,hS0,w1,fun L2 S2 σ2 H2 q k2 hL2 hS2=>⟨L2,S2,_,hL2,hS2,q,?_⟩⟩
  have r2:=r.kp (k10.trans k2)
  exact⟨fun L3 S3 σ3 H3 q3 k3 hL3 hS3=>⟨hlt,L3,S3,hL3,hS3,(k10.trans k2).trans k3,q3⟩,r2.rt,r2.nx,fun L3 S3 σ3 H3 q3 k3 hL3 hS3=>⟨hlt,L3,S3,hL3,hS3,(k10.trans k2).trans k3,q3⟩⟩
 ·have e:i=ds.length:=by omega
  subst e
  rw [List.drop_length] at w1
  obtain⟨o1,w1⟩:=w1
  exact .inl ⟨hst S1 H1 k1 hS1 o1,r.nx L1 S1 σ1 H1 w1 k1 hL1 hS1⟩
section
variable {X:Cx} {pos:Pos}
def Je (g:DE) (tl th:HD):DE:=fun L S k=>g L S fun x S1=>tl L S1 fun lo S2=>th L S2 fun hi S3=>match x with
 | .tup xs=>¬ (HT.eu xs.length 0 lo=0/\HT.eu xs.length xs.length hi=xs.length)/\k (.tup (yG xs lo hi)) S3
 | .rl xs=>∀ p,S3 p=none->k (.ref p) (put S3 p (.lst (yG xs lo hi)))
 | .ref a=>∃ xs,S3 a=some (.lst xs)/\∀ p,S3 p=none->k (.ref p) (put S3 p (.lst (yG xs lo hi)))
 | _=>False
theorem jE {e:Expr} {g:DE} {lo hi:Option Expr} {tl th:HD} {p2 pos:Pos} (he:EJ X e g) (hl:OJ X lo tl) (hu:OJ X hi th):EJ X (.Subscript e (.Slice lo hi none p2) pos) (Je g tl th):=
 ⟨PE.imp (AH (EX.or Hb Er) he.h hl.h hu.h) fun σ H Q ⟨L,S,k,hL,hS,h,n⟩=>up.go hL hS h fun d S1 v H1 h1 k1 hL1 hS1 i1=>by
  refine⟨L,S1,_,hL1,hS1,h1,fun lo' S2 H2 h2 k2 hS2=>⟨L,S2,_,hL1.kp k2,hS2,h2,fun hi' S3 H3 h3 k3 hS3=>?_⟩⟩
  cases d with
  | tup xs=>
   obtain⟨a,vs,rfl,t,j⟩:=cz.mp i1
   have j3:=j.kp (k2.trans k3)
   refine .inl ⟨a,vs,rfl,(k2.trans k3).tup t,by rw [<- j.length]; exact h3.1,fun p hp=>?_⟩
   have k4:Kp H3 (bJ H3 p (.tup (qQ vs lo' hi'))):=Kp.new hp
   refine n _ S3 _ _ h3.2 (k1.trans (k2.trans (k3.trans k4))) (hS3.new hp) (cz.mpr ⟨p,_,rfl,ka.of bC,?_⟩)
   unfold yG qQ
   rw [j.length]
   exact((j3.drop _).take _).kp k4
  | rl xs=>
   obtain⟨a,vs,rfl,t,j⟩:=uQ.mp i1
   have j3:=j.kp (k2.trans k3)
   refine .inr ⟨a,vs,rfl,((k2.trans k3).fro t).sq,fun p hp=>?_⟩
   refine n _ _ _ _ (h3 p (hS3.free hp)) (k1.trans (k2.trans (k3.trans (Kp.new hp)))) (hS3.newL hp ?_) (aP.mpr rfl)
   unfold yG qQ
   rw [j.length]
   exact(j3.drop _).take _
  | ref a=>
   have e1:=aP.mp i1
   subst e1
   obtain⟨xs,z,h3⟩:=h3
   obtain⟨vs,hl,j⟩:=hS3.lst z
   refine .inr ⟨a,vs,rfl,jf.of hl,fun p hp=>?_⟩
   refine n _ _ _ _ (h3 p (hS3.free hp)) (k1.trans (k2.trans (k3.trans (Kp.new hp)))) (hS3.newL hp ?_) (aP.mpr rfl)
   unfold yG qQ
   rw [j.length]
   exact(j.drop _).take _
  | _=>exact(show False from h3).elim⟩
theorem bh {ok:DH->Prop} {g:DG} {b:DS} {M:nh} (Iv:List D->Lo->DH->Prop) (hok:∀ r L S,Iv r L S->ok S)
  (hs:∀ d r L S N,Iv (d::r) L S->(∀ L' S',Iv r L' S'->N L' S')->g d L S fun L1 S1=>b {M with nx:=N,ct:=N,bk:=M.nx} L1 S1) (hd:∀ L S,Iv [] L S->M.nx L S):∀ r L S,Iv r L S->iK ok g b M r L S
 | [],L,S,i=>⟨hok [] L S i,hd L S i⟩
 | d::r,L,S,i=>⟨hok _ L S i,hs d r L S _ i fun L' S' i'=>bh Iv hok hs hd r L' S' i'⟩
end
end DL
namespace L2
open PySem PySem.Spec PyProof.Rows
section
variable {X:Cx} {elt tg iter c:Expr} {scope:Scope} {cl:List (Str×Addr)} {N:List Str} {cap:List (Option Nat)} {pos:Pos} {wi:TI} {g:TG} {te:TE} {tc:TT}
theorem qI (Sc:gC X scope cl N cap) {pins:List (Addr×Obj)} {σ σ3:St} {H2 H3:Hp} {s2 s4:Shared} {fp:List Addr} {h1':Heap} {C:Addr} (I2:aA X pins σ H2 s2) (f2:∀ b∈fp,nI X pins H2 b) {H1:Hp}
  (un3:Un (ul X.stack) fp H2 H1 s2.heap h1') (I4:aA (js X scope cl N {s2 with heap:=h1'} H1 fp C) [] σ3 H3 s4) (hC:s2.heap.objs.size<=C) {x:Str} {pos':Pos} {i:Nat} {D:rj} {a:Addr} (pg:PG X (.Name x pos') (ox i)) (qn:D.nx (σ.set i (some (.ref a))) H3):
  wpAny (model X.prog X.w) X.A (assign (.Name x pos') X.env (.ref a)) (fun _ s''=>∃ m,s''.heap.Ns C m/\∀ h',Heap.SameBut C s''.heap h'->∃ σ' H',aA X pins σ' H' {s'' with heap:=h'}/\D.nx σ' H') X.xe s4:=by
 have J:aA X pins σ H3 s4:=vk Sc I2 f2 un3 I4 (h':=s4.heap) hC ⟨rfl,fun _ _=>rfl⟩
 obtain⟨m,⟨o,es,ep,ho,hd,hr⟩,_⟩:=I4.loc
 have ltC:∀ b u,s2.heap.get? b=some u->b≠C:=fun b u e=>Nat.ne_of_lt (Nat.lt_of_lt_of_le (Heap.lt_size e) hC)
 have hL:C≠X.env.locals:=fun z=>by
  have:=I2.lt
  rw [<- z] at this
  exact absurd (Nat.lt_of_lt_of_le this hC) (Nat.lt_irrefl _)
 have hn:H3 C=none:=I4.free
 have J':aA X ((C,o)::pins) σ H3 s4:=⟨J.ok,J.os,J.bare,J.base,J.loc,J.cell,J.free,J.freeC,fun p hp=>by
  rcases List.mem_append.mp hp with hp | hp
  ·exact J.pin p (List.mem_append_left _ hp)
  ·rcases List.mem_cons.mp hp with rfl | hp
   ·exact⟨ho,hn,hL,I2.nofs hC,fun v z=>by rw [hd] at z; cases z⟩
   ·exact J.pin p (List.mem_append_right _ hp),J.hok,J.len⟩
 refine bL (pg _ s4 σ H3 (.ref a) (.ref a) (fun σ' H'=>σ'=σ.set i (some (.ref a))/\H'=H3) J' rfl ⟨rfl,rfl⟩) fun _ s5 h5=>?_
 obtain⟨_,_,I5,rfl,rfl⟩:=h5
 have h6:=I5.pin (C,o) (List.mem_append_right _ List.mem_cons_self)
 refine⟨m,⟨o,es,ep,h6.1,hd,hr⟩,fun h' sb=>⟨_,_,?_,qn⟩⟩
 have I6:aA X pins (σ.set i (some (.ref a))) _ s5:=⟨I5.ok,I5.os,I5.bare,I5.base,I5.loc,I5.cell,I5.free,I5.freeC,fun p hp=>I5.pin p (by
  rcases List.mem_append.mp hp with hp | hp
  ·exact List.mem_append_left _ hp
  ·exact List.mem_append_right _ (List.mem_cons_of_mem _ hp)),I5.hok,I5.len⟩
 exact I6.turned (t':=s5.toks) (it:=C) (fun b u hb e=>(sb.2 b hb).trans e) hn hL (.inr (Nat.le_trans I2.sz hC)) (fun y c e=>by
  obtain⟨v,u,q,_⟩:=I2.cell y c e
  exact ltC c u q) (fun p hp=>ltC p.1 p.2 (I2.pin p hp).1)
theorem AK {x:Str} {i:Nat} {pos' spos:Pos} (hN:X.N.Nodup) (hi':X.N[i]?=some x) (hx':X.env.scope.names.lookup x=some .local) (hsw:swapsWith (.ListComp elt [⟨tg,iter,[],0⟩] scope pos) (some (.Name x pos')) spos.line X.env=pure true) (hc:X.calm=true) (Sc:gC X scope cl N cap) (hi:PI X tg iter wi) (hg:∀ s0 H0 ex C,PG (js X scope cl N s0 H0 ex C) tg g) (he:∀ s0 H0 ex C,PE (js X scope cl N s0 H0 ex C) elt te)
  (hs:∀ x,foldedSetIterable iter X.env x=pure x:=by intro _; rfl):PS X (.Assign [.Name x pos'] (.ListComp elt [⟨tg,iter,[],0⟩] scope pos) spos) (Cn (zM cap wi g te) (ox i)):=by
 intro pins s σ H D I h
 have pg:PG X (.Name x pos') (ox i):=sw hN hi' (.inl hx') (.inr hx')
 rw [exec_Assign_Name_used _ _ _ _ hsw]
 refine wpAny_bind (wpAny_standAt (wpAny_bind ?_))
 show wpAny _ _ (evalThenUse _ X.env _) _ _ _
 unfold evalThenUse
 have Q:=fun v H1=>D.nx (σ.set i (some v)) H1
 refine wpAny_bind (wpAny_mono (Q:=fun _ s'=>∃ σ' H',aA X pins σ' H' s'/\D.nx σ' H') ?_ (fun v s' q=>wpAny_pure (wpAny_pure q)) fun _ _ q=>q)
 have hcell:∀ y∈scope.names,y.2≠.cell:=fun y hy=>by simpa using List.all_eq_true.mp Sc.nocell y hy
 have hnames:∀ y∈scope.names,y.2=.local->scope.names.lookup y.1=some .local:=fun y hy e=>by
  have:=List.all_eq_true.mp Sc.names y hy
  rw [e] at this
  simpa using this
 refine wpAny_comprehension_free (use:=some (assign (.Name x pos') X.env)) rfl hs Sc.clos Sc.kind hnames (bL (hi pins s σ H _ I h) fun v s1 h1=>bL h1 fun itv s2 h2=>?_)
 obtain⟨it,fp,tn,J,H2,e,I2,T,st2,f2,hW⟩:=h2
 subst e
 refine wpAny_newObj_type (wpAny_newFunctionEnv hcell (by intro y hy; simp at hy) (fun h1 hns hsb=>?_) Sc.kind)
 obtain⟨W,⟨m0,w0⟩,turn⟩:=hW s2.heap.objs.size I2.fresh
 dsimp only at hns hsb ⊢
 generalize hD:s2.heap.push {cls:=.type "list",dict:=none,data:=.seq ([]:List Value).toArray}=h1' at hns hsb ⊢
 obtain⟨I3,un3⟩:=pS (tk:=s2.toks+([]:List (Str×Value)).length) Sc I2 f2 (fun b hb=>let ⟨o,e,_⟩:=T.obj 0 _ st2 b hb; ⟨o,e⟩) hD hns hsb
 have hC:s2.heap.objs.size<=h1'.objs.size:=by rw [<- hD,Heap.size_push]; exact Nat.le_succ _
 have k1:∀ b o,s2.heap.get? b=some o->h1.get? b=some o:=fun b o e=>by
  have e1:h1'.get? b=some o:=by rw [<- hD]; exact Heap.get?_push_of_some _ e
  exact(hsb.2 b (Nat.ne_of_lt (Heap.lt_size e1))).trans (Heap.get?_push_of_some _ e1)
 have st3:tn 0 h1:=T.keep 0 _ _ st2 fun b _ o e=>k1 b o e
 have fr3:∀ b∈fp,(bJ H2 s2.heap.objs.size (.lst [])) b=none:=fun b hb=>by
  obtain⟨o,e,_⟩:=T.obj 0 _ st2 b hb
  rw [aG (Nat.ne_of_lt (Heap.lt_size e))]
  exact(f2 b hb).1
 have loop:∀ s3:Shared,s3={s2 with heap:=h1,toks:=s2.toks+([]:List (Str×Value)).length}->
   codeAny (model X.prog X.w) X.A (.compLoop (.ListComp elt [⟨tg,iter,[],0⟩] scope pos) 0 (.ref it) (.ref s2.heap.objs.size) (compEnvC scope cl h1'.objs.size X.env))
    (compPost (model X.prog X.w) X.A X.xe (some (assign (.Name x pos') X.env)) (fun _ s'=>∃ σ' H',aA X pins σ' H' s'/\D.nx σ' H') (.ref s2.heap.objs.size) h1'.objs.size) s3:=by
  rintro s3 rfl
  refine mM (fun n s'=>∃ i σ' H',aA (js X scope cl N {s2 with heap:=h1'} (bJ H2 s2.heap.objs.size (.lst [])) fp h1'.objs.size) [] σ' H' s'/\tn i s'.heap/\(∀ b∈fp,H' b=none)/\W i n σ' H') ?_ m0 ⟨0,_,_,I3,st3,fr3,w0⟩
  rintro n s3 ⟨i,σ3,H3,I3,st3,fr3,w3⟩
  rcases turn i n σ3 H3 w3 with ⟨stop,qn⟩ | ⟨go,Nn,hN,step⟩
  ·refine bL (T.done (js X scope cl N {s2 with heap:=h1'} (bJ H2 s2.heap.objs.size (.lst [])) fp h1'.objs.size) rfl rfl rfl hc i [] s3 σ3 H3 sN I3 (gU I3 fr3) st3 stop) fun r s4 ⟨hr,I4⟩=>?_
   subst hr
   exact qI Sc I2 f2 un3 I4 hC pg qn
  ·refine bL (T.item (js X scope cl N {s2 with heap:=h1'} (bJ H2 s2.heap.objs.size (.lst [])) fp h1'.objs.size) rfl rfl rfl hc i [] s3 σ3 H3 sN I3 (gU I3 fr3) st3 go) fun r s4 ⟨u,hr,h4⟩=>?_
   subst hr
   refine bL h4 fun _ s5 ⟨x,H5,I5,r5,y5,st5,fr5⟩=>?_
   have I5':=I5.pinned (gU I5 fr5) (T.obj _ _ st5)
   refine bL (hg _ _ _ _ _ s5 σ3 H5 x u _ I5' r5 (step x H5 y5)) fun _ s6 ⟨σ6,H6,I6,q6⟩=>?_
   refine bL (he _ _ _ _ _ s6 σ6 H6 _ I6 q6) fun uv s7 ⟨v,H7,I7,r7,ys,hy,hl,q7⟩=>?_
   refine bL (lv (X:=js X scope cl N {s2 with heap:=h1'} (bJ H2 s2.heap.objs.size (.lst [])) fp h1'.objs.size) _ s7 σ6 H7 (.ref s2.heap.objs.size) [v] (.ref s2.heap.objs.size) [uv] (fun _ H8=>Nn σ6 H8) I7 rfl (.cons r7 .nil) ⟨_,ys,v,rfl,rfl,hy,hl,q7⟩) fun _ s8 ⟨_,H8,I8,_,n8⟩=>?_
   obtain⟨m',hm,w8⟩:=hN σ6 H8 n8
   refine⟨m',hm,i+1,σ6,H8,I8.unpinned,T.keep _ _ _ st5 fun b hb o e=>(I8.pin (b,o) (List.mem_append_right _ (List.mem_append_right _ (dI hb e)))).1,fun b hb=>?_,w8⟩
   obtain⟨o,e,d⟩:=T.obj _ _ st5 b hb
   exact(I8.pin (b,o) (List.mem_append_right _ (List.mem_append_right _ (dI hb e)))).2.1
 exact codeAny_compStart_list (loop _ rfl) (T.self _ 0 _ _ _ st3 (loop _ rfl))
theorem wa {x:Str} {i:Nat} {pos' spos:Pos} (hN:X.N.Nodup) (hi':X.N[i]?=some x) (hx':X.env.scope.names.lookup x=some .local) (hsw:swapsWith (.ListComp elt [⟨tg,iter,[c],0⟩] scope pos) (some (.Name x pos')) spos.line X.env=pure true) (hc:X.calm=true) (Sc:gC X scope cl N cap) (hi:PI X tg iter wi) (hg:∀ s0 H0 ex C,PG (js X scope cl N s0 H0 ex C) tg g) (hcnd:∀ s0 H0 ex C,PT (js X scope cl N s0 H0 ex C) c tc) (he:∀ s0 H0 ex C,PE (js X scope cl N s0 H0 ex C) elt te)
  (hs:∀ x,foldedSetIterable iter X.env x=pure x:=by intro _; rfl):PS X (.Assign [.Name x pos'] (.ListComp elt [⟨tg,iter,[c],0⟩] scope pos) spos) (Cn (xF cap wi g tc te) (ox i)):=by
 intro pins s σ H D I h
 have pg:PG X (.Name x pos') (ox i):=sw hN hi' (.inl hx') (.inr hx')
 rw [exec_Assign_Name_used _ _ _ _ hsw]
 refine wpAny_bind (wpAny_standAt (wpAny_bind ?_))
 show wpAny _ _ (evalThenUse _ X.env _) _ _ _
 unfold evalThenUse
 have Q:=fun v H1=>D.nx (σ.set i (some v)) H1
 refine wpAny_bind (wpAny_mono (Q:=fun _ s'=>∃ σ' H',aA X pins σ' H' s'/\D.nx σ' H') ?_ (fun v s' q=>wpAny_pure (wpAny_pure q)) fun _ _ q=>q)
 have hcell:∀ y∈scope.names,y.2≠.cell:=fun y hy=>by simpa using List.all_eq_true.mp Sc.nocell y hy
 have hnames:∀ y∈scope.names,y.2=.local->scope.names.lookup y.1=some .local:=fun y hy e=>by
  have:=List.all_eq_true.mp Sc.names y hy
  rw [e] at this
  simpa using this
 refine wpAny_comprehension_free (use:=some (assign (.Name x pos') X.env)) rfl hs Sc.clos Sc.kind hnames (bL (hi pins s σ H _ I h) fun v s1 h1=>bL h1 fun itv s2 h2=>?_)
 obtain⟨it,fp,tn,J,H2,e,I2,T,st2,f2,hW⟩:=h2
 subst e
 refine wpAny_newObj_type (wpAny_newFunctionEnv hcell (by intro y hy; simp at hy) (fun h1 hns hsb=>?_) Sc.kind)
 obtain⟨W,⟨m0,w0⟩,turn⟩:=hW s2.heap.objs.size I2.fresh
 dsimp only at hns hsb ⊢
 generalize hD:s2.heap.push {cls:=.type "list",dict:=none,data:=.seq ([]:List Value).toArray}=h1' at hns hsb ⊢
 obtain⟨I3,un3⟩:=pS (tk:=s2.toks+([]:List (Str×Value)).length) Sc I2 f2 (fun b hb=>let ⟨o,e,_⟩:=T.obj 0 _ st2 b hb; ⟨o,e⟩) hD hns hsb
 have hC:s2.heap.objs.size<=h1'.objs.size:=by rw [<- hD,Heap.size_push]; exact Nat.le_succ _
 have k1:∀ b o,s2.heap.get? b=some o->h1.get? b=some o:=fun b o e=>by
  have e1:h1'.get? b=some o:=by rw [<- hD]; exact Heap.get?_push_of_some _ e
  exact(hsb.2 b (Nat.ne_of_lt (Heap.lt_size e1))).trans (Heap.get?_push_of_some _ e1)
 have st3:tn 0 h1:=T.keep 0 _ _ st2 fun b _ o e=>k1 b o e
 have fr3:∀ b∈fp,(bJ H2 s2.heap.objs.size (.lst [])) b=none:=fun b hb=>by
  obtain⟨o,e,_⟩:=T.obj 0 _ st2 b hb
  rw [aG (Nat.ne_of_lt (Heap.lt_size e))]
  exact(f2 b hb).1
 have loop:∀ s3:Shared,s3={s2 with heap:=h1,toks:=s2.toks+([]:List (Str×Value)).length}->
   codeAny (model X.prog X.w) X.A (.compLoop (.ListComp elt [⟨tg,iter,[c],0⟩] scope pos) 0 (.ref it) (.ref s2.heap.objs.size) (compEnvC scope cl h1'.objs.size X.env))
    (compPost (model X.prog X.w) X.A X.xe (some (assign (.Name x pos') X.env)) (fun _ s'=>∃ σ' H',aA X pins σ' H' s'/\D.nx σ' H') (.ref s2.heap.objs.size) h1'.objs.size) s3:=by
  rintro s3 rfl
  refine tz (fun n s'=>∃ i σ' H',aA (js X scope cl N {s2 with heap:=h1'} (bJ H2 s2.heap.objs.size (.lst [])) fp h1'.objs.size) [] σ' H' s'/\tn i s'.heap/\(∀ b∈fp,H' b=none)/\W i n σ' H') ?_ m0 ⟨0,_,_,I3,st3,fr3,w0⟩
  rintro n s3 ⟨i,σ3,H3,I3,st3,fr3,w3⟩
  rcases turn i n σ3 H3 w3 with ⟨stop,qn⟩ | ⟨go,Nn,hN,step⟩
  ·refine bL (T.done (js X scope cl N {s2 with heap:=h1'} (bJ H2 s2.heap.objs.size (.lst [])) fp h1'.objs.size) rfl rfl rfl hc i [] s3 σ3 H3 sN I3 (gU I3 fr3) st3 stop) fun r s4 ⟨hr,I4⟩=>?_
   subst hr
   exact qI Sc I2 f2 un3 I4 hC pg qn
  ·refine bL (T.item (js X scope cl N {s2 with heap:=h1'} (bJ H2 s2.heap.objs.size (.lst [])) fp h1'.objs.size) rfl rfl rfl hc i [] s3 σ3 H3 sN I3 (gU I3 fr3) st3 go) fun r s4 ⟨u,hr,h4⟩=>?_
   subst hr
   refine bL h4 fun _ s5 ⟨x,H5,I5,r5,y5,st5,fr5⟩=>?_
   have I5':=I5.pinned (gU I5 fr5) (T.obj _ _ st5)
   refine bL (hg _ _ _ _ _ s5 σ3 H5 x u _ I5' r5 (step x H5 y5)) fun _ s6 ⟨σ6,H6,I6,q6⟩=>?_
   have again:∀ {s8:Shared} {H8:Hp},aA (js X scope cl N {s2 with heap:=h1'} (bJ H2 s2.heap.objs.size (.lst [])) fp h1'.objs.size) ([]++pA fp s5.heap) σ6 H8 s8->Nn σ6 H8->
     ∃ m,m < n/\∃ i σ' H',aA (js X scope cl N {s2 with heap:=h1'} (bJ H2 s2.heap.objs.size (.lst [])) fp h1'.objs.size) [] σ' H' s8/\tn i s8.heap/\(∀ b∈fp,H' b=none)/\W i m σ' H':=fun {s8 H8} I8 n8=>by
    obtain⟨m',hm,w8⟩:=hN σ6 H8 n8
    refine⟨m',hm,i+1,σ6,H8,I8.unpinned,T.keep _ _ _ st5 fun b hb o e=>(I8.pin (b,o) (List.mem_append_right _ (List.mem_append_right _ (dI hb e)))).1,fun b hb=>?_,w8⟩
    obtain⟨o,e,d⟩:=T.obj _ _ st5 b hb
    exact(I8.pin (b,o) (List.mem_append_right _ (List.mem_append_right _ (dI hb e)))).2.1
   refine bL (hcnd _ _ _ _ _ s6 σ6 H6 _ I6 q6) fun b s6' ⟨H6',I6',q6'⟩=>?_
   cases b with
   | true=>
    rw [if_pos rfl] at q6' ⊢
    refine bL (he _ _ _ _ _ s6' σ6 H6' _ I6' q6') fun uv s7 ⟨v,H7,I7,r7,ys,hy,hl,q7⟩=>?_
    refine bL (lv (X:=js X scope cl N {s2 with heap:=h1'} (bJ H2 s2.heap.objs.size (.lst [])) fp h1'.objs.size) _ s7 σ6 H7 (.ref s2.heap.objs.size) [v] (.ref s2.heap.objs.size) [uv] (fun _ H8=>Nn σ6 H8) I7 rfl (.cons r7 .nil) ⟨_,ys,v,rfl,rfl,hy,hl,q7⟩) fun _ s8 ⟨_,H8,I8,_,n8⟩=>?_
    exact again I8 n8
   | false=>
    rw [if_neg Bool.false_ne_true] at q6' ⊢
    exact again I6' q6'
 exact codeAny_compStart_list (loop _ rfl) (T.self _ 0 _ _ _ st3 (loop _ rfl))
end
end L2
namespace DL
open PySem PySem.Spec PyProof.Rows L2
theorem Ji {K:Fg} {ge:DE} {tc:TE} {i:Nat} (f:∀ σ H Q,up K ge σ H Q->tc σ H Q):∀ N σ H,nG K (qY i ge) N σ H->Cn tc (ox i) N σ H:=fun N σ H ⟨L,S,M,hL,hS,h,r⟩=>
 f σ H _ (up.go hL hS h fun d S1 v H1 h1 k1 hL1 hS1 i1=>r.nx _ S1 _ H1 h1 k1 (hL1.set i1 i) hS1)
section
variable {X:Cx} {pos pos' p:Pos} {elt tg a b c:Expr} {scope:Scope} {cl:List (Str×Addr)} {N:List Str} {cap:List (Option Nat)} {gg:DG} {ge gi:DE} {gc:DT} {ta:DA}
theorem uY {xv:Str} {iv:Nat} {pv sv:Pos} (hNv:X.N.Nodup) (hc:X.calm=true) (Sc:gC X scope cl N cap) (hgl:Gl X "range") (hm:X.mg "range"=none) (ha:AJ X [a] ta) (hg:∀ s0 H0 ex C,GJ (js X scope cl N s0 H0 ex C) tg gg) (he:∀ s0 H0 ex C,EJ (js X scope cl N s0 H0 ex C) elt ge)
  (hs1:starEach [a] X.env=[(false,eval a X.env)]:=by exact bW rfl) (hs:∀ x,foldedSetIterable (.Call (.Name "range" p) [a] [] pos') X.env x=pure x:=by intro _; rfl) (hiv:X.N[iv]?=some xv:=by rfl) (hxv:X.env.scope.names.lookup xv=some .local:=by rfl) (hswv:swapsWith (.ListComp elt [⟨tg,.Call (.Name "range" p) [a] [] pos',[],0⟩] scope pos) (some (.Name xv pv)) sv.line X.env=pure true:=by rfl):SJ X (.Assign [.Name xv pv] (.ListComp elt [⟨tg,.Call (.Name "range" p) [a] [] pos',[],0⟩] scope pos) sv) (qY iv (Cw cap ta gg (gL ge))):=
 ⟨PS.imp (AK hNv hiv hxv hswv hc Sc (nJ hgl hm ha.h hs1) (fun s0 H0 ex C=>(hg s0 H0 ex C).h) (fun s0 H0 ex C=>(he s0 H0 ex C).h) hs) (Ji (fun σ H Q ⟨L,S,k,hL,hS,h,n⟩=>oJ.go hL hS h fun ds S1 vs H1 h1 k1 hL1 hS1 i1=>by
  split at h1
  ·obtain⟨v,rfl,j⟩:=gO i1
   have e:=isInt.mp j
   subst e
   obtain⟨⟨h2,h3⟩,h1⟩:=h1
   refine⟨_,rfl,h2,h3,fun D hD=>lm (hL1.cap cap) hS1 hD (h1 D (hS1.free hD)) (fun d S' v H' q k3=>n d S' v H' q (k1.trans k3)) vc fun S2 H2 k2 hS2 _=>?_⟩
   rw [List.length_map,List.length_range]
   exact Nat.le_refl _
  ·exact h1.elim))⟩
end
end DL
namespace L2
open PySem PySem.Spec PyProof.Rows
def GP (H:Hp) (qual:Str) (cv:Value):Prop:=∃ (c':Addr) (oc:Obj) (uc:HO) (vs:Array Value) (t:Tok),cv=.ref c'/\H c'=some (.frz oc uc)/\oc.data=.fields vs/\vs[1]?=some (.str qual t)
structure IX (H:Hp) (qual:Str) (ps:Array Value):Prop where
 tri:TriplesOk ps.toList
 ok:∀ pos cv,codeAmong pos ps.toList=some cv->GP H qual cv
def oS (mg:Str->Option Value) (base:Heap):Prop:=(∃ bm ob,mg "__builtins__"=some (.ref bm)/\bm≠builtinsNs/\base.get? bm=some ob/\ob.cls=.type "module"/\ob.dict=some builtinsNs/\ob.data=.plain)/\base.NoSeer
structure xa (tabs:List (Addr×Addr)) (H:Hp):Prop where
 only:∀ b,H b=none\/(∃ o xs,H b=some (.frz o (.lst xs)))\/(b∈tabs.map (·.2)/\H b=some (.tbl #[]))
 all:∀ q∈tabs,H q.2=some (.tbl #[])
theorem yv {P:Program} {w:World} {K:PySem.W.Frag} {mg mb:Str->Option Value} {CX:CL} {k:Nat} {fa a:Addr} {fd:FuncData} {x:Str} {sp:Sp} {s₁:Shared} {vs:List Value} {ns:List Int} {tabs:List (Addr×Addr)}
  (hT:PySem.W.TabsAt tabs s₁.heap) (hnK:PySem.W.noTabs K=true) (hbm:oS mg s₁.heap)
  (KX:K.In s₁.heap) (hns:s₁.heap.Ns mainGlobals mg) (hb:s₁.heap.Ns builtinsNs mb) (hbb:∀ x:Str,x≠"__name__"->mb x=bootBuiltins x) (hlim:s₁.heap.NoLimit) (hg:s₁.gens=#[])
  (ha:s₁.heap.get? a=some {cls:=.type "list",data:=.seq vs.toArray}) (hi:IntsAre vs ns) (hl:ns.length<=sizeLine) (hr:cH k callerA)
  (F:∀ base:Heap,K.In base->base.Ns mainGlobals mg->oS mg base->PySem.W.CodeAll tabs base->aH P w K mg base CX k fa fd [x] sp) (hbind:∀ (s:Shared) (u:Value),BindsTo s fd ⟨[u],[]⟩ [(x,u)])
  (hsp:∀ H:Hp,xa tabs H->jf K H a (ns.map V.int)->sp [.ref a] H (fun v _=>v=.bl true) fun _ _ _=>False)
  (hCX:∀ H e s',CX [] H s₁ (fun _ _ _=>False) e s'->False):
  codeAny (model P w) callerA (.call (.ref fa) ⟨[.ref a],[]⟩) (fun r s'=>r=.ok (.ret (.bool true))/\OldK s₁.heap s'.heap/\s'.os=s₁.os/\AllBare s'.gens) s₁:=by
 have rv:=sf hi
 have lenV:=hi.length
 have tabO:∀ b∈tabs.map (·.2),s₁.heap.get? b=some (PySem.W.tabObj #[]):=fun b hb=>by
  obtain⟨q,hq,rfl⟩:=List.mem_map.mp hb
  exact(hT q hq).2
 have naT:a∉tabs.map (·.2):=fun z=>by
  have e:=tabO a z
  rw [ha] at e
  cases e
 have nKT:∀ b o,K.lookup b=some o->b∉tabs.map (·.2):=fun b o e z=>by
  have e1:=KX b o e
  rw [tabO b z] at e1
  cases e1
  have h2:=List.all_eq_true.mp hnK (b,_) (PySem.W.mem_of_lookupK e)
  exact absurd (show false=true from h2) Bool.false_ne_true
 have core:∀ H:Hp,xa tabs H->jf K H a (ns.map V.int)->lF P w H s₁.heap->(∀ b,H b≠none->b=a\/b∈tabs.map (·.2))->(H a≠none->K.lookup a=none)->
   codeAny (model P w) callerA (.call (.ref fa) ⟨[.ref a],[]⟩) (fun r s'=>r=.ok (.ret (.bool true))/\OldK s₁.heap s'.heap/\s'.os=s₁.os/\AllBare s'.gens) s₁:=by
  intro H hO hS hok hA hK
  have base_of:∀ {b:Addr} {o:Obj},s₁.heap.get? b=some o->H b=none->(pd s₁.heap H).get? b=some o:=fun e n=>CB e n
  have noC:∀ {b:Addr} {o:Obj},s₁.heap.get? b=some o->o.cls≠.type "list"->o.cls≠.none->H b=none:=fun {b o} e d1 d2=>by
   cases q:H b with
   | none=>rfl
   | some u=>
    rcases hA b (by rw [q]; simp) with e' | e'
    ·subst e'
     rw [ha] at e; cases e
     exact absurd rfl d1
    ·rw [tabO b e'] at e; cases e
     exact absurd rfl d2
  have noA:∀ {b:Addr} {o:Obj} {es:Array DictEntry} {ep:Nat},s₁.heap.get? b=some o->o.data=.dict es ep->H b=none:=fun {b o es ep} e d=>by
   cases q:H b with
   | none=>rfl
   | some u=>
    rcases hA b (by rw [q]; simp) with e' | e'
    ·subst e'
     rw [ha] at e; cases e
     have d':Data.seq vs.toArray _=Data.dict es ep:=d
     cases d'
    ·rw [tabO b e'] at e; cases e
     cases d
  have nsK:∀ {b:Addr} {m:Str->Option Value},s₁.heap.Ns b m->(pd s₁.heap H).Ns b m:=fun {b m} ⟨o,es,ep,e,d,r⟩=>⟨o,es,ep,base_of e (noA e d),d,r⟩
  have hKb:K.In (pd s₁.heap H):=fun b o e=>base_of (KX b o e) (by
   cases q:H b with
   | none=>rfl
   | some u=>
    rcases hA b (by rw [q]; simp) with e' | e'
    ·subst e'
     rw [hK (by rw [q]; simp)] at e; cases e
    ·exact absurd e' (nKT b o e))
  have hBb:oS mg (pd s₁.heap H):=by
   obtain⟨⟨bm,ob,b1,b2,b3,b4,b5⟩,ns⟩:=hbm
   refine⟨⟨bm,ob,b1,b2,base_of b3 (noC b3 (by rw [b4]; decide) (by rw [b4]; nofun)),b4,b5⟩,?_,?_,?_,?_⟩
   ·obtain⟨mc,h1,h2⟩:=ns.statics
    exact⟨mc,nsK h1,h2⟩
   ·obtain⟨mc,h1,h2⟩:=ns.mods
    exact⟨mc,nsK h1,h2⟩
   ·obtain⟨mc,h1,h2⟩:=ns.imp
    exact⟨mc,nsK h1,h2⟩
   ·obtain⟨mg',bm',ob',h1,h2,h3,h4,h5⟩:=ns.main
    exact⟨mg',bm',ob',nsK h1,h2,base_of h3 (noC h3 (by rw [h4]; decide) (by rw [h4]; nofun)),h4,h5⟩
  have hCb:PySem.W.CodeAll tabs (pd s₁.heap H):=.of fun q hq=>by
   obtain⟨o,vs,file,tf,flags,tg,inF,text,tt,e1,r1,r2⟩:=(hT q hq).1
   exact⟨o,vs,file,tf,flags,tg,inF,text,tt,base_of e1 (noC e1 (by rw [r1]; decide) (by rw [r1]; nofun)),r1,r2⟩
  have hM:Mod K mg (pd s₁.heap H):=⟨hKb,nsK hns,⟨mb,nsK hb,hbb⟩,let ⟨mc,h1,h2⟩:=hlim; ⟨mc,nsK h1,h2⟩⟩
  have e0:Ew P w K mg (pd s₁.heap H) callerA [] s₁ H:=⟨rfl,hM,fun b o e=>Dq e,Nat.le_of_eq (zh _ _),trivial,fun b hb=>absurd (show b∈([]:List Addr) from hb) (by simp),hok,.of_eq hg⟩
  refine codeAny_mono ((F _ hKb (nsK hns) hBb hCb).run callerA [] s₁ H ⟨[.ref a],[]⟩ [.ref a] [.ref a] _ _ hr e0 (hbind s₁ (.ref a)) (.cons rfl .nil) (hsp H hO hS)) fun r s' h=>?_
  cases r with
  | error e=>exact(hCX H e s' h).elim
  | ok fl=>
   cases fl with
   | next=>exact False.elim h
   | brk=>exact False.elim h
   | cont=>exact False.elim h
   | ret u=>
    obtain⟨v,H',os,bare,un,hok',r',q⟩:=h
    have q':v=.bl true:=q
    subst q'
    obtain rfl:u=Value.bool true:=r'
    refine⟨rfl,⟨fun b o e=>?_,fun b o e=>un.there b o e (by simp)⟩,os,bare⟩
    rcases hO.only b with z | ⟨ob,xs,z⟩ | ⟨hm,z⟩
    ·exact .inl (un.keep b o e z (by intro z; exact absurd (show b∈([]:List Addr) from z) (by simp)) (by simp))
    ·have z2:=un.frzs b ob _ z
     obtain⟨e1,_⟩:=hok b _ z
     obtain⟨e2,_⟩:=hok' b _ z2
     rw [e] at e1; cases e1
     exact .inl e2
    ·obtain⟨more,z2⟩:=un.tbls b _ z
     have e2:s'.heap.get? b=some (PySem.W.tabObj (#[]++more)):=hok' b _ z2
     have e3:=tabO b hm
     obtain⟨q,hq,rfl⟩:=List.mem_map.mp hm
     rw [e] at e3
     cases e3
     exact .inr (.inl ⟨((hT q hq).1.tab (hT q hq).2).isCodeTable,rfl,#[],more,rfl,e2⟩)
 have tb:∀ b,b∈tabs.map (·.2)->lF P w (fun _=>none) s₁.heap->dE P w (fun _=>none) s₁.heap b (.tbl #[]):=fun b hb _=>tabO b hb
 cases hk:K.lookup a with
 | some o=>
  have e:=KX a o hk
  rw [ha] at e
  cases e
  refine core (fun b=>if b∈tabs.map (·.2) then some (.tbl #[]) else none) ⟨fun b=>?_,fun q hq=>if_pos (List.mem_map_of_mem hq)⟩ (.inr ⟨_,vs.toArray,_,hk,rfl,rfl,rfl,by rw [List.size_toArray,lenV]; exact hl,by simpa using rv⟩) (fun b u z=>?_) (fun b z=>?_) fun z=>?_
  ·by_cases hm:b∈tabs.map (·.2)
   ·exact .inr (.inr ⟨hm,if_pos hm⟩)
   ·exact .inl (if_neg hm)
  ·by_cases hm:b∈tabs.map (·.2)
   ·have z':=(if_pos hm).symm.trans z
    cases z'
    exact tabO b hm
   ·have z':=(if_neg hm).symm.trans z
    cases z'
  ·by_cases hm:b∈tabs.map (·.2)
   ·exact .inr hm
   ·exact absurd (if_neg hm) z
  ·exact absurd (if_neg naT) z
 | none=>
  refine core (fun b=>if b=a then some (.frz {cls:=.type "list",data:=.seq vs.toArray} (.lst (ns.map V.int))) else if b∈tabs.map (·.2) then some (.tbl #[]) else none) ⟨fun b=>?_,fun q hq=>?_⟩ (.inl (.inr ⟨{cls:=.type "list",data:=.seq vs.toArray},if_pos rfl⟩)) (fun b u z=>?_) (fun b z=>?_) fun _=>hk
  ·by_cases hb:b=a
   ·exact .inr (.inl ⟨_,_,if_pos hb⟩)
   ·by_cases hm:b∈tabs.map (·.2)
    ·exact .inr (.inr ⟨hm,(if_neg hb).trans (if_pos hm)⟩)
    ·exact .inl ((if_neg hb).trans (if_neg hm))
  ·have hm:q.2∈tabs.map (·.2):=List.mem_map_of_mem hq
   have hb:q.2≠a:=fun z=>naT (z▸hm)
   exact(if_neg hb).trans (if_pos hm)
  ·by_cases hb:b=a
   ·have z':=(if_pos hb).symm.trans z
    cases z'
    subst hb
    exact⟨ha,by rw [List.length_map]; exact hl,vs,_,rv,ha⟩
   ·by_cases hm:b∈tabs.map (·.2)
    ·have z':=((if_neg hb).trans (if_pos hm)).symm.trans z
     cases z'
     exact tabO b hm
    ·have z':=((if_neg hb).trans (if_neg hm)).symm.trans z
     cases z'
  ·by_cases hb:b=a
   ·exact .inl hb
   ·by_cases hm:b∈tabs.map (·.2)
    ·exact .inr hm
    ·exact absurd ((if_neg hb).trans (if_neg hm)) z
theorem Bl {l:PySem.W.OpenLaw} {n k:Nat} {q:Program} {loose:List Str} {XP:(Str->Option Value)->Heap->Prop} {YP:World->Heap->Prop} {d:DefRec} {K:Params->PySem.W.Frag} {CX:World->CL} {sp:World->Sp} {x:Str} {tabs:List (Addr×Addr)}
  (himp:importsNone q=true) (hn:l.most=some n) (hn2:n<=sizeLine) (hdf:d.params.defaults=[]) (hr:cH k callerA)
  (hY:∀ (w:World) (h:Heap),YP w h->(K w.params).In h) (hnK:∀ w:World,PySem.W.noTabs (K w.params)=true) (hT:∀ (w:World) (h:Heap),YP w h->PySem.W.TabsAt tabs h)
  (F:∀ (w:World) (mg:Str->Option Value) (fa:Addr) (h:Heap),(K w.params).In h->h.Ns mainGlobals mg->mg d.name=some (.ref fa)->
   ∃ fd:FuncData,(∀ (s:Shared) (u:Value),BindsTo s fd ⟨[u],[]⟩ [(x,u)])/\
    ∀ base:Heap,(K w.params).In base->base.Ns mainGlobals mg->oS mg base->PySem.W.CodeAll tabs base->aH l.prog w (K w.params) mg base (CX w) k fa fd [x] (sp w))
  (hsp:∀ (w:World) (H:Hp) (a:Addr) (ns:List Int),ns.length<=n->xa tabs H->jf (K w.params) H a (ns.map V.int)->sp w [.ref a] H (fun v _=>v=.bl true) fun _ _ _=>False)
  (hCX:∀ (w:World) (H:Hp) (s:Shared) (e:Value) (s':Shared),CX w [] H s (fun _ _ _=>False) e s'->False):
  PySem.W.WalkO q loose XP YP l.row.toRowW d [] (fun f vs=>PySem.call f vs):=by
 refine Att.attach_call hn hdf fun w s₀ s₁ mg mb fa o pm cd doc a vs ns G Y ho hd hcd hmg hobj hints hlen hg=>?_
 have KX:=hY w _ Y
 obtain⟨fd,hb,hF⟩:=F w mg fa _ KX G.T.g hmg
 have hbm:oS mg s₁.heap:=by
  obtain⟨bm,ob,b1,b2,b3,b4,b5,b6⟩:=G.T.bmain
  exact⟨⟨bm,ob,b1,b2,b3,b4,b5,b6⟩,G.T.seer himp⟩
 exact yv (hT w _ Y) (hnK w) hbm KX G.T.g G.T.b G.T.builtins G.T.nolimit hg hobj hints (Nat.le_trans hlen hn2) hr hF hb (fun H hO hS=>hsp w H a ns hlen hO hS) fun H e s'=>hCX w H s₁ e s'
end L2
namespace DL
open PySem PySem.Spec PyProof.Rows L2
theorem Bi {β:Type}:∀ {l:List (Addr×β)} {a:Addr} {b:β},l.lookup a=some b->(a,b)∈l
 | [],_,_,e=>by cases e
 | (c,x)::r,a,b,e=>by
  rw [List.lookup_cons] at e
  cases hb:a == c with
  | true=>rw [hb] at e; cases e; rw [eq_of_beq hb]; exact .head _
  | false=>rw [hb] at e; exact .tail _ (Bi e)
def D' (tq:List (Addr×Str)):DH:=fun b=>(tq.lookup b).map fun q=>DO.tbl fun H ps=>IX H q ps
theorem Db {K:Fg} {H:Hp} {a:Addr} {ns:List Int} {F:b_} {E:XK} {tabs:List (Addr×Addr)} {tq:List (Addr×Str)} (ho:xa tabs H) (hS:jf K H a (ns.map V.int)) (ht:∀ p∈tq,p.1∈tabs.map (·.2)) (h:F [.rl (ns.map D.int)] (D' tq) (fun d _=>d=.bl true)):cY K F [.ref a] H (fun v _=>v=.bl true) E:=by
 refine⟨[.rl (ns.map D.int)],D' tq,fun d _=>d=.bl true,IsDs.cons (uQ.mpr ⟨a,ns.map V.int,rfl,?_,?_⟩) IsDs.nil,fun b o e=>?_,h,fun d' S' v H' e _ _ i=>?_⟩
 ·rcases hS with (h1 | h1) | h1
  ·rcases ho.only a with z | ⟨o,xs,z⟩ | ⟨_,z⟩
   ·rw [z] at h1; cases h1
   ·rw [z] at h1; cases h1
   ·rw [z] at h1; cases h1
  ·exact .inl h1
  ·exact .inr h1
 ·clear h hS
  induction ns with
  | nil=>exact IsDs.nil
  | cons n ns ih=>exact IsDs.cons (isInt.mpr rfl) ih
 ·unfold D' at e
  cases q:tq.lookup b with
  | none=>rw [q] at e; cases e
  | some x=>
   rw [q] at e
   cases e
   obtain⟨t,ht',e2⟩:=List.mem_map.mp (ht _ (Bi q))
   have z:=ho.all t ht'
   rw [e2] at z
   exact⟨#[],z,fun H2 _=>⟨trivial,fun pos cv z2=>by cases z2⟩⟩
 ·subst e
  exact cg.mp i
end DL
namespace L2
open PySem PySem.Spec PyProof.Rows
theorem Ec {X:Cx} {n:Nat} (hr:cH n X.A) (hn:33<=n) (hB:oS X.mg X.base) (hT:X.prog.given.tree=none) (hst:X.stack=X.env::X.outer) (hg:X.env.scope.isGenerator=false) (hc:X.env.scope.isCoroutine=false):
  fH X (binaryOp .FloorDiv) (rI (fun _ j=>j≠0) fun i j=>.int (i.fdiv j)):=by
 intro pins s σ H x y v u Q I rx ry h
 obtain⟨i,j,rfl,rfl,hj,q⟩:=h
 obtain⟨t,rfl⟩:=rx
 obtain⟨t',rfl⟩:=ry
 have hd:=hr.dp
 have hN:s.heap.NoSeer:=hB.2.keeps I.bk
 exact floordiv_int hj ⟨.int (i.fdiv j),H,I.tok _,⟨_,rfl⟩,q⟩ (.inr (PylongRoom.of I.nolimit (by show X.A.depth+100 < recursionLimit; omega) (SeerAt.of hN hT (hst▸I.ok.frames) hg hc I.ok.blt I.ok.glob)))
end L2
namespace DL
open PySem PySem.Spec PyProof.Rows L2
abbrev Jk:D2:=Gf (fun _ j=>j≠0) fun i j=>.int (i.fdiv j)
theorem kY {X:Cx} {n:Nat} (hr:cH n X.A) (hB:oS X.mg X.base) (hT:X.prog.given.tree=none) (hst:X.stack=X.env::X.outer) (hg:X.env.scope.isGenerator=false) (hc:X.env.scope.isCoroutine=false) (hn:33<=n):
  fH X (binaryOp .FloorDiv) (j5 X.K Jk):=yC (C:=fun _ j=>j≠0) (gV:=fun i j=>.int (i.fdiv j)) (Ec hr hn hB hT hst hg hc) fun _ _ _=>isInt.mpr rfl
section
variable {X:Cx} {pins:List (Addr×Obj)} {σ:L2.St} {H:Hp} {s:Shared}
theorem Al (I:aA X pins σ H s) {S:DH} {a c:Addr} {ds es:List D} {b:Bool} (hS:Hs X.K H S) (h1:S a=some (.lst ds)) (h2:S c=some (.lst es)) (hl:ds.length=es.length) (A:Around) (hu:A.units+8 < cLine) (h:j_ (mF 7) ds es=some b):
  SeqAt.RcAt A s (.ref a) (.ref c) b/\SeqAt.RcNeAt A s (.ref a) (.ref c) (!b):=by
 obtain⟨xs,q1,j1⟩:=hS.lst h1
 obtain⟨ys,q2,j2⟩:=hS.lst h2
 obtain⟨us,r1,p1,_⟩:=I.list (jf.of q1)
 obtain⟨ws,r2,p2,_⟩:=I.list (jf.of q2)
 have l1:=j1.length
 have l2:=j2.length
 have l3:=r1.length
 have l4:=r2.length
 have hsz:us.toArray.size=ws.toArray.size:=by simp only [List.size_toArray]; omega
 have he:∀ j (h1:j < us.toArray.size) (h2:j < ws.toArray.size),SeqAt.EqAt A.in1 s us.toArray[j] ws.toArray[j] (i8 (mF 7) ds es j):=fun j h1 h2=>by
  simp only [List.size_toArray] at h1 h2
  obtain⟨d,e,x,y,q1,q2,d1,d2,rx,ry⟩:=sk j1 j2 r1 r2 h1 h2
  have:=(t5 I 7 A.in1 d e x y us[j] ws[j] _ (by show A.units+1+7 < cLine; omega) (o5 h q1 q2) d1 d2 rx ry).1
  simpa using this
 have e:=nD h
 rw [hl,Nat.min_self] at e
 have e:(List.range us.toArray.size).all (i8 (mF 7) ds es)=b:=by
  simp only [List.size_toArray]
  rw [<- l3,<- l1,hl]
  simpa using e
 refine⟨?_,?_⟩
 ·have z:=SeqAt.RcAt.lists p1.isList p2.isList hsz (by omega) he
  rw [e] at z
  exact z
 ·have z:=SeqAt.RcNeAt.lists p1.isList p2.isList hsz (by omega) he
  rw [e] at z
  exact z
end
def yi:D2:=fun d e S k=>match d,e with
 | .ref a,.ref c=>∃ xs ys b,S a=some (.lst xs)/\S c=some (.lst ys)/\xs.length=ys.length/\j_ (mF 7) xs ys=some b/\k (.bl b) S
 | d,e=>∃ b,mF 8 d e=some b/\k (.bl b) S
def FW:D2:=fun d e S k=>match d,e with
 | .ref a,.ref c=>∃ xs ys b,S a=some (.lst xs)/\S c=some (.lst ys)/\xs.length=ys.length/\j_ (mF 7) xs ys=some b/\k (.bl (!b)) S
 | d,e=>∃ b,mF 8 d e=some b/\k (.bl (!b)) S
theorem rN {X:Cx} {n:Nat} (hr:cH n X.A):fH X (compareOp .Eq) (j5 X.K yi):=by
 intro pins s σ H x y v u Q I rx ry h
 obtain⟨d,e,S,k,i1,i2,hS,r,m⟩:=h
 have hu:=hr.units
 unfold yi at r
 split at r
 ·obtain⟨xs,ys,b,h1,h2,h3,h4,w⟩:=r
  have e1:=aP.mp i1
  have e2:=aP.mp i2
  subst e1 e2
  cases rx
  cases ry
  exact(Al I hS h1 h2 h3 X.A (by omega) h4).1 X.prog X.w X.xe _ ⟨.bl b,H,I,rfl,nc m hS w (cg.mpr rfl)⟩
 ·obtain⟨b,h1,w⟩:=r
  exact(t5 I 8 X.A d e x y v u b (by omega) h1 i1 i2 rx ry).2 X.prog X.w X.xe _ ⟨.bl b,H,I,rfl,nc m hS w (cg.mpr rfl)⟩
theorem AO {X:Cx} {n:Nat} (hr:cH n X.A):fH X (compareOp .NotEq) (j5 X.K FW):=by
 intro pins s σ H x y v u Q I rx ry h
 obtain⟨d,e,S,k,i1,i2,hS,r,m⟩:=h
 have hu:=hr.units
 unfold FW at r
 split at r
 ·obtain⟨xs,ys,b,h1,h2,h3,h4,w⟩:=r
  have e1:=aP.mp i1
  have e2:=aP.mp i2
  subst e1 e2
  cases rx
  cases ry
  exact(Al I hS h1 h2 h3 X.A (by omega) h4).2 X.prog X.w X.xe _ ⟨.bl (!b),H,I,rfl,nc m hS w (cg.mpr rfl)⟩
 ·obtain⟨b,h1,w⟩:=r
  exact Gi I 8 X.A d e x y v u b (by omega) h1 i1 i2 rx ry X.prog X.w X.xe _ ⟨.bl (!b),H,I,rfl,nc m hS w (cg.mpr rfl)⟩
theorem isDs.rep {K:Fg} {H:Hp} {ds:List D} {vs:List V} (h:IsDs K H ds vs):∀ n:Nat,IsDs K H (List.replicate n ds).flatten (List.replicate n vs).flatten
 | 0=>IsDs.nil
 | n+1=>by
  rw [List.replicate_succ,List.flatten_cons,List.replicate_succ,List.flatten_cons]
  exact h.append (isDs.rep h n)
def Ag:D2:=fun d e S k=>match d,e with
 | .ref a,.int j=>∃ xs,S a=some (.lst xs)/\-(2 ^ 63)<=j/\j < 2 ^ 63/\xs.length*j.toNat<=sizeLine/\∀ p,S p=none->k (.ref p) (put S p (.lst (List.replicate j.toNat xs).flatten))
 | d,e=>Ib d e S k
theorem Gb {X:Cx}:fH X (binaryOp .Mult) (j5 X.K Ag):=by
 intro pins s σ H x y v u Q I rx ry h
 obtain⟨d,e,S,k,i1,i2,hS,r,m⟩:=h
 unfold Ag at r
 split at r
 ·rename_i a j
  obtain⟨xs,h1,h2,h3,h4,w⟩:=r
  have e1:=aP.mp i1
  have e2:=isInt.mp i2
  subst e1 e2
  obtain⟨vs,hl,jj⟩:=hS.lst h1
  refine Gg pins s σ H _ _ v u Q I rx ry ⟨a,j,vs,rfl,rfl,hl,h2,h3,by rw [<- jj.length]; exact h4,fun p hp=>?_⟩
  exact m _ _ _ _ (w p (hS.free hp)) (Kp.new hp) (hS.newL hp (isDs.rep jj _)) (aP.mpr rfl)
 ·exact aV pins s σ H x y v u Q I rx ry ⟨_,_,S,k,i1,i2,hS,r,m⟩
end DL
namespace HT
open PySem PyProof.Rows
theorem Be {prog:Program} {w:World} {A:Around} {E:Value->Shared->Prop} {s:Shared} {t b:Addr} {ws:List Value} {Q:Value->Shared->Prop} (ht:IsTup s.heap t ([]:List Value).toArray) (hb:IsTup s.heap b ws.toArray)
  (h0:Q (.ref b) s):wpAny (model prog w) A (binaryOp .Add (.ref t) (.ref b)) Q E s:=by
 obtain⟨⟨cls,dd,data,sl⟩,ho,hc,n,hd⟩:=id ht
 obtain⟨⟨cls2,dd2,data2,sl2⟩,ho2,hc2,n2,hd2⟩:=id hb
 simp only at hc hd hc2 hd2
 subst hc hd hc2 hd2
 exact concat_meets ⟨_,ho,rfl⟩ ⟨_,ho2,rfl⟩ noFill_tuple_add seq_tuple_add PySem.F.slot_tuple_add PySem.F.entry_tuple_add (PySem.F.args_tuple_add_2 _ _)
   (tuple_addW0 t b ([]:List Value).toArray ws.toArray n n2 dd dd2 sl sl2 (by simp)) ⟨ho,ho2,h0⟩
end HT
namespace L2
open PySem PySem.Spec PyProof.Rows
section
variable {X:Cx}
theorem AL:fH X (binaryOp .Add) (fun x y H Q=>∃ a b ys,x=.ref a/\y=.ref b/\ka X.K H a []/\ka X.K H b ys/\Q (.ref b) H):=by
 intro pins s σ H x y v u Q I rx ry h
 obtain⟨a,b,ys,rfl,rfl,ha,hb,q⟩:=h
 cases rx
 cases ry
 obtain⟨its,r1,p1,_⟩:=I.tuple ha
 obtain⟨its2,r2,p2,_⟩:=I.tuple hb
 have e:its=[]:=r1.nil_iff.mpr rfl
 subst e
 exact HT.Be p1 p2 ⟨.ref b,H,I,rfl,q⟩
theorem qr:∀ {vs:List Value} {ns:List Int},IntsAre vs ns->aL (ns.map V.int) vs
 | _,_,.nil=>.nil
 | _,_,.cons n t r=>.cons ⟨t,rfl⟩ (qr r)
end
end L2
namespace DL
open PySem PySem.Spec PyProof.Rows L2
def EY:D2:=fun d e S k=>match d,e with
 | .tup xs,.tup ys=>xs.length+ys.length<=sizeLine/\k (.tup (xs++ys)) S
 | d,e=>CA d e S k
theorem Hw {X:Cx}:fH X (binaryOp .Add) (j5 X.K EY):=by
 intro pins s σ H x y v u Q I rx ry h
 obtain⟨d,e,S,k,i1,i2,hS,r,n⟩:=h
 unfold EY at r
 split at r
 ·rename_i xs ys
  obtain⟨hl,r⟩:=r
  by_cases h1:xs=[]
  ·subst h1
   obtain⟨a,vs,rfl,t1,j1⟩:=cz.mp i1
   obtain⟨b,us,rfl,t2,j2⟩:=cz.mp i2
   have e:vs=[]:=by
    have:=j1.length
    exact List.length_eq_zero_iff.mp this.symm
   subst e
   exact AL pins s σ H _ _ v u Q I rx ry ⟨a,b,us,rfl,rfl,t1,t2,n _ S _ H r (Kp.refl H) hS i2⟩
  ·by_cases h2:ys=[]
   ·subst h2
    obtain⟨a,vs,rfl,t1,j1⟩:=cz.mp i1
    obtain⟨b,us,rfl,t2,j2⟩:=cz.mp i2
    have e:us=[]:=by
     have:=j2.length
     exact List.length_eq_zero_iff.mp this.symm
    subst e
    rw [List.append_nil] at r
    exact xD pins s σ H _ _ v u Q I rx ry ⟨a,b,vs,[],rfl,rfl,t1,t2,nQ j1 h1,by rw [<- j1.length]; exact hl,fun _=>n _ S _ H r (Kp.refl H) hS i1,fun z=>absurd rfl z⟩
   ·exact cB pins s σ H x y v u Q I rx ry ⟨_,_,S,k,i1,i2,hS,⟨h1,h2,hl,r⟩,n⟩
 ·exact cB pins s σ H x y v u Q I rx ry ⟨_,_,S,k,i1,i2,hS,r,n⟩
theorem jB {K:Fg} {H:Hp}:∀ {ns:List Int} {vs:List V},IsDs K H (ns.map D.int) vs->vs=ns.map V.int
 | [],vs,h=>by
  have:=h.length
  exact List.length_eq_zero_iff.mp this.symm
 | n::ns,vs,h=>by
  obtain⟨u,r,rfl,h1,h2⟩:=cD.mp h
  rw [isInt.mp h1,jB h2]
  rfl
theorem qF {K:Fg} {H:Hp}:∀ {ns:List Int},IsDs K H (ns.map D.int) (ns.map V.int)
 | []=>IsDs.nil
 | _::_=>IsDs.cons (isInt.mpr rfl) qF
end DL
set_option linter.all false
namespace DT
abbrev Mx:=Nat->Nat->Rat
def sm:Nat->(Nat->Rat)->Rat
 | 0,_=>0
 | n+1,f=>sm n f+f n
def sg (n:Nat):Rat:=if n % 2=0 then 1 else -1
def cl (M:Mx) (a:Nat) (u:Nat->Rat):Mx:=fun r c=>if c=a then u r else M r c
end DT
namespace DL
open PySem PySem.Spec PyProof.Rows L2
inductive yq (K:Fg):List Value->List (List Int)->Prop
 | nil:yq K [] []
 | cons {p:Addr} {o:Obj} {its:Array Value} {n:Nat} {ns:List Int} {vs:List Value} {nss:List (List Int)} (h1:K.lookup p=some o) (h2:o.cls=.type "tuple") (h3:o.data=.seq its n) (h4:its.size<=sizeLine) (h5:aL (ns.map V.int) its.toList) (r:yq K vs nss):yq K (.ref p::vs) (ns::nss)
def AW (K:Fg) (mg:Str->Option Value) (x:Str) (nss:List (List Int)):Prop:=∃ p o its n,mg x=some (.ref p)/\K.lookup p=some o/\o.cls=.type "tuple"/\o.data=.seq its n/\its.size<=sizeLine/\yq K its.toList nss
theorem yq.vals {K:Fg}:∀ {vs:List Value} {nss:List (List Int)},yq K vs nss->∃ us:List V,aL us vs/\∀ H,IsDs K H (nss.map fun ns=>.tup (ns.map D.int)) us
 | _,_,.nil=>⟨[],.nil,fun _=>IsDs.nil⟩
 | _,_,.cons (p:=p) h1 h2 h3 h4 h5 r=>by
  obtain⟨us,a,b⟩:=r.vals
  exact⟨.ref p::us,.cons rfl a,fun H=>IsDs.cons (cz.mpr ⟨p,_,rfl,.inr ⟨_,_,_,h1,h2,h3,h4,h5⟩,ol _⟩) (b H)⟩
theorem wQ {X:Cx} {x:Str} {nss:List (List Int)} {pos:Pos} (g:AW X.K X.mg x nss) (hg:Gl X x) (hd:(x == ("__debug__":Str))=false:=by decide):EJ X (.Name x pos) (dC (.tup (nss.map fun ns=>.tup (ns.map D.int)))):=by
 obtain⟨p,o,its,n,hm,h1,h2,h3,h4,h5⟩:=g
 obtain⟨us,a,b⟩:=h5.vals
 exact⟨HK (xt (v:=.ref p) hg hm rfl hd) fun H=>cz.mpr ⟨p,us,rfl,.inr ⟨o,its,n,h1,h2,h3,h4,a⟩,b H⟩⟩
end DL
namespace L2
open PySem PySem.Spec PyProof.Rows
theorem qw (val:Nat->Int):∀ k,argBest (fun i j=>decide (val i > val j)) k<=k/\∀ i,i<=k->val i<=val (argBest (fun i j=>decide (val i > val j)) k)
 | 0 => ⟨Nat.le_refl _, fun i h => by have : i = 0 := by omega
                                      subst this; exact Int.le_refl _⟩
 | k+1=>by
  obtain⟨h1,h2⟩:=qw val k
  unfold argBest
  by_cases h:val (k+1) > val (argBest (fun i j=>decide (val i > val j)) k)
  ·rw [if_pos (decide_eq_true h)]
   refine⟨Nat.le_refl _,fun i hi=>?_⟩
   by_cases e:i=k+1
   ·subst e; exact Int.le_refl _
   ·have:=h2 i (by omega); omega
  ·rw [if_neg (by simpa using h)]
   refine⟨by omega,fun i hi=>?_⟩
   by_cases e:i=k+1
   ·subst e; omega
   ·exact h2 i (by omega)
theorem pZ:∀ {ns:List Int} {vs:List Value} {i:Nat} {v:Value},aL (ns.map V.int) vs->vs[i]?=some v->∃ t,v=.int (ns.getD i 0) t
 | [],_,i,v,.nil,h=>by simp at h
 | n::ns,_,0,v,.cons r _,h=>by
  obtain⟨t,e⟩:=r
  simp at h
  exact⟨t,by rw [<- h,e]; rfl⟩
 | n::ns,u::us,i+1,v,.cons _ t,h=>by
  have h:us[i]?=some v:=by simpa using h
  obtain⟨t',e⟩:=pZ t h
  exact⟨t',by rw [e]; rfl⟩
section
variable {X:Cx}
theorem pC {pins:List (Addr×Obj)} {σ:St} {H:Hp} {s:Shared} {a:Addr} {Q:VK} {nm:String} (I:aA X pins σ H s) {v:V} {u:Value} (r:aF v u) (q:Q v H) (h':Heap) (tk:Nat)
  (kk:∀ c o,c∉[s.heap.objs.size]->(s.heap.push {cls:=.type nm,data:=.fields #[.ref a,.int 0 0]}).get? c=some o->h'.get? c=some o):EP X pins σ Q u {s with heap:=h',toks:=tk}:=by
 have I1:aA X pins σ H {s with heap:=s.heap.push {cls:=.type nm,data:=.fields #[.ref a,.int 0 0]}}:=I.kept (t':=s.toks) fun c o e=>Heap.get?_push_of_some _ e
 refine⟨v,H,aA.turnedL (s:={s with heap:=s.heap.push {cls:=.type nm,data:=.fields #[.ref a,.int 0 0]}}) (t':=tk) [s.heap.objs.size] I1 kk (fun c hc=>?_),r,q⟩
 have e:c=s.heap.objs.size:=by simpa using hc
 subst e
 exact I.fpOk (Nat.le_refl _) (I.hok.fresh (Nat.le_refl _))
theorem Bh {s:Shared} {a:Addr} {o:Obj} (hlt:a < s.heap.objs.size) (ho:o.isFreed=false:=by rfl):∀ b∈[s.heap.objs.size,a],b < (s.heap.push o).objs.size:=fun b hb=>by
 have hz:s.heap.objs.size < (s.heap.push o).objs.size:=Heap.lt_size (Heap.get?_push_size _ ho)
 simp only [List.mem_cons,List.not_mem_nil,or_false] at hb
 rcases hb with e | e
 ·rw [e]; exact hz
 ·rw [e]; exact Nat.lt_trans hlt hz
theorem yd (hc:X.calm=true):cA X (.builtin "max") (fun xs H Q=>∃ (p:Addr) (ns:List Int),xs=[.ref p]/\jf X.K H p (ns.map V.int)/\ns≠[]/\∀ m:Int,m∈ns->(∀ x∈ns,x<=m)->Q (.int m) H):=by
 intro pins s σ H xs us Q I r h
 obtain⟨p,ns,rfl,hq,hn,q⟩:=h
 obtain⟨u,rfl,rx⟩:=j8 r
 cases rx
 obtain⟨its,rv,pl,hz⟩:=I.list hq
 have hl:=rv.length
 rw [List.length_map] at hl
 have hlt:=pl.lt
 have n0:0 < ns.length:=List.length_pos_iff.mpr hn
 have hh:X.A.in1.handled=none:=I.ok.hd hc
 have hv:∀ i v,its.toArray[i]?=some v->∃ t,v=Value.int (ns.getD i 0) t:=fun i v h=>pZ (i:=i) (v:=v) rv (by rw [List.getElem?_toArray] at h; exact h)
 refine call_max_walk (wpAny_pyIter_list pl.isList ?_)
 refine⟨s.heap.objs.size,_,_,_,_,_,fun i j=>decide (ns.getD i 0 > ns.getD j 0),rfl,Walks.list hh s.heap.objs.size p (Nat.ne_of_lt hlt) its.toArray,⟨⟨_,Heap.get?_push_size _ rfl,rfl,rfl⟩,Heap.IsList.at pl.isList fun o e=>Heap.get?_push_of_some _ e⟩,Bh hlt,by rw [List.size_toArray]; omega,CmpOf.ints_gt _ hv,fun v h' tk hP kk=>?_⟩
 rw [List.size_toArray,<- hl] at hP
 obtain⟨t,rfl⟩:=hv _ _ hP
 obtain⟨b1,b2⟩:=qw (fun i=>ns.getD i 0) (ns.length - 1)
 have hm:ns.getD (argBest (fun i j=>decide (ns.getD i 0 > ns.getD j 0)) (ns.length - 1)) 0∈ns:=by
  have hlt2:argBest (fun i j=>decide (ns.getD i 0 > ns.getD j 0)) (ns.length - 1) < ns.length:=by omega
  rw [List.getD_eq_getElem?_getD,List.getElem?_eq_getElem hlt2]
  exact List.getElem_mem hlt2
 refine pC I (show aF (.int _) (.int _ t) from⟨t,rfl⟩) (q _ hm fun x hx=>?_) h' tk kk
 obtain⟨i,hi,rfl⟩:=List.mem_iff_getElem.mp hx
 have:=b2 i (by omega)
 rw [List.getD_eq_getElem?_getD,List.getElem?_eq_getElem hi] at this
 exact this
end
end L2
namespace DL
open PySem PySem.Spec PyProof.Rows L2
def Fa:b_:=fun ds S k=>match ds with
 | [.ref a]=>∃ ns:List Int,S a=some (.lst (ns.map D.int))/\ns≠[]/\∀ m:Int,m∈ns->(∀ x∈ns,x<=m)->k (.int m) S
 | ds=>G1 ds S k
theorem G0 {X:Cx} (hc:X.calm=true:=by rfl):cA X (.builtin "max") (rD X.K Fa):=by
 intro pins s σ H xs us Q I rs h
 obtain⟨ds,S,k,i,hS,r,n⟩:=h
 unfold Fa at r
 split at r
 ·obtain⟨x,rfl,i1⟩:=gO i
  have e1:=aP.mp i1
  subst e1
  obtain⟨ns,z,hl,r⟩:=r
  obtain⟨vs,q1,j⟩:=hS.lst z
  have e:=jB j
  subst e
  exact yd hc pins s σ H _ us Q I rs ⟨_,ns,rfl,jf.of q1,hl,fun m h1 h2=>n _ _ _ _ (r m h1 h2) (Kp.refl H) hS (isInt.mpr rfl)⟩
 ·exact E6 hc pins s σ H xs us Q I rs ⟨_,S,k,i,hS,r,n⟩
end DL
namespace PySem
open Sem (wp)
open Builtin DL
section
variable {prog:Program} {w:World}
def rL (c:String) (d:Addr) (i n ep:Nat):Obj:={cls:=.type c,dict:=none,data:=.fields #[.ref d,.int i 0,.int n 0,.int ep 0],slots:=#[]}
theorem LM (it d:Addr) (es:Array DictEntry) (i ep:Nat) (e:DictEntry) (hx:es[i]?=some e):
  MeetsIn prog w (Builtin.«dict_keyiterator.__next__» ⟨[.ref it],[]⟩) (fun _ R s=>s.heap.get? it=some (rL "dict_keyiterator" d i es.size ep)/\s.heap.get? d=some (lO es ep)/\
   R (.ok (.ret e.key)) {s with heap:=s.heap.update it (Obj.mapFields (·.setIfInBounds 1 (rawInt ((i:Int)+1))))}):=
 .of_wp fun A R s h=>by
  obtain⟨hp,g,dr,tk,os⟩:=s
  obtain⟨h1,h2,h⟩:=h
  wp_walk
  have z:(if (i:Int) < 0 then none else es[(i:Int).toNat]?)=some e:=by
   rw [if_neg (by omega),Int.toNat_natCast]; exact hx
  rw [z]
  wp_walk
  exact⟨_,rfl,h⟩
theorem wI {h:Heap} {it:Addr} (f:Obj->Obj) (o o':Obj):Heap.ExtBut it h (((h.update it f).push o).push o'):=fun b u nb e=>
 Heap.get?_push_of_some _ (Heap.get?_push_of_some _ ((Heap.get?_update_other _ _ (Ne.symm nb)).trans e))
theorem LG (it d:Addr) (es:Array DictEntry) (i ep:Nat) (hx:es[i]?=none):
  MeetsIn prog w (Builtin.«dict_keyiterator.__next__» ⟨[.ref it],[]⟩) (fun A R s=>A.handled=none/\s.heap.get? it=some (rL "dict_keyiterator" d i es.size ep)/\s.heap.get? d=some (lO es ep)/\
   (∀ h' e,Heap.ExtBut it s.heap h'->(∃ o,h'.get? e=some o/\o.cls=.type "StopIteration")->R (.error (.ref e)) {s with heap:=h'})):=
 .of_wp fun A R s h=>by
  obtain⟨hp,g,dr,tk,os⟩:=s
  obtain⟨h0,h1,h2,h⟩:=h
  wp_walk
  have z:(if (i:Int) < 0 then none else es[(i:Int).toNat]?)=none:=by
   rw [if_neg (by omega),Int.toNat_natCast]; exact hx
  rw [z]
  wp_walk
  unfold raiseNew
  refine wpAny_bind (wpAny_handled ?_)
  rw [show A.in1.handled=none from h0]
  exact wpAny_bind (wpAny_pure (wpAny_throw (h _ _ (wI _ _ _) ⟨_,Heap.get?_push_size _ rfl,rfl⟩)))
theorem LO (v d:Addr) (es:Array DictEntry) (ep:Nat):
  MeetsIn prog w (Builtin.«dict_items.__iter__» ⟨[.ref v],[]⟩) (fun _ R s=>s.heap.get? v=some {cls:=.type "dict_items",data:=.fields #[.ref d]}/\s.heap.get? d=some (lO es ep)/\
   R (.ok (.ret (.ref s.heap.objs.size))) {s with heap:=s.heap.push {cls:=.type "dict_itemiterator",data:=.fields #[.none,.bool false,.ref d,.int 0 0,.int es.size 0,.int ep 0,.none,.none]}}):=
 .of_wp fun A R s h=>by
  obtain⟨hp,g,dr,tk,os⟩:=s
  obtain⟨h1,h2,h⟩:=h
  wp_walk
  exact⟨_,rfl,h⟩
def yu (x d:Value) (i n ep:Nat) (ok ov:Value):Obj:={cls:=.type "dict_itemiterator",dict:=none,data:=.fields #[x,.bool false,d,.int i 0,.int n 0,.int ep 0,ok,ov],slots:=#[]}
theorem LJ (it d:Addr) (es:Array DictEntry) (i ep:Nat) (e:DictEntry) (ok ov:Value) (hx:es[i]?=some e):
  MeetsIn prog w (Builtin.«dict_itemiterator.__next__» ⟨[.ref it],[]⟩) (fun _ R s=>s.heap.get? it=some (yu .none (.ref d) i es.size ep ok ov)/\s.heap.get? d=some (lO es ep)/\
   ∀ h',h'.get? it=some (yu (rawInt s.heap.objs.size) (.ref d) (i+1) es.size ep e.key e.val)->h'.get? s.heap.objs.size=some {cls:=.type "tuple",data:=.seq #[e.key,e.val]}->
    (∀ b o,b≠it->s.heap.get? b=some o->h'.get? b=some o)->R (.ok (.ret (.ref s.heap.objs.size))) {s with heap:=h'}):=
 .of_wp fun A R s h=>by
  obtain⟨hp,g,dr,tk,os⟩:=s
  obtain⟨h1,h2,h⟩:=h
  have lt:it < hp.objs.size:=Heap.lt_size h1
  wp_walk
  have z:(if (i:Int) < 0 then none else es[(i:Int).toNat]?)=some e:=by
   rw [if_neg (by omega),Int.toNat_natCast]; exact hx
  rw [z]
  have T0:Shared.TypeIs ⟨hp,g,dr,tk,os⟩ (.ref it) "dict_itemiterator":=⟨_,h1,rfl⟩
  refine wpAny_bind (wpAny_bind (wpAny_typeNameOfWhole_itemiter T0 (wpAny_pure (wpAny_bind (wpAny_isOneOf_itemiter T0 ?_)))))
  refine wpAny_bind (m:=setField (.ref it) 3 (rawInt ((i:Int)+1))) (wpAny_setField_rec h1 (by simp) fun k1 a1 b1=>?_)
  have a2:k1.get? it=some (yu .none (.ref d) (i+1) es.size ep ok ov):=a1
  have T1:Shared.TypeIs ⟨k1,g,dr,tk,os⟩ (.ref it) "dict_itemiterator":=⟨_,a2,rfl⟩
  refine wpAny_bind (wpAny_holding (wpAny_bind (wpAny_isOneOf_itemiter T1 (wpAny_bind (wpAny_isOneOf_itemiter T1 ?_)))))
  refine wpAny_bind (m:=newTuple [e.key,e.val]) (wpAny_newTuple ?_)
  have sz:k1.objs.size=hp.objs.size:=b1.1
  generalize q2:k1.push {cls:=.type "tuple",data:=.seq #[e.key,e.val]}=k2
  have a3:k2.get? it=some (yu .none (.ref d) (i+1) es.size ep ok ov):=by rw [<- q2]; exact Heap.get?_push_of_some _ a2
  have t3:k2.get? hp.objs.size=some {cls:=.type "tuple",data:=.seq #[e.key,e.val]}:=by rw [<- q2,<- sz]; exact Heap.get?_push_size _ rfl
  have o3:∀ b o,b≠it->hp.get? b=some o->k2.get? b=some o:=fun b o nb x=>by rw [<- q2]; exact Heap.get?_push_of_some _ (b1.extBut b o nb x)
  rw [sz]
  refine wpAny_bind (wpAny_bind (wpAny_field a3 rfl (x:=.none) rfl (wpAny_pure ?_)))
  refine wpAny_bind (wpAny_field a3 rfl (x:=ok) rfl (wpAny_bind (wpAny_field a3 rfl (x:=ov) rfl ?_)))
  refine wpAny_bind (wpAny_setField_rec a3 (by simp) fun k3 a4 b4=>wpAny_bind (wpAny_setField_rec a4 (by simp) fun k4 a5 b5=>wpAny_bind (wpAny_setField_rec a5 (by simp) fun k5 a6 b6=>wpAny_bind (wpAny_setField_rec a6 (by simp) fun k6 a7 b7=>?_))))
  have far:∀ b o,b≠it->k2.get? b=some o->k6.get? b=some o:=fun b o nb x=>b7.extBut b o nb (b6.extBut b o nb (b5.extBut b o nb (b4.extBut b o nb x)))
  exact wpAny_bind (wpAny_letGo (wpAny_pure (wpAny_pure ⟨_,rfl,h k6 a7 (far _ _ (Nat.ne_of_gt lt) t3) fun b o nb x=>far b o nb (o3 b o nb x)⟩)))
theorem Ly (it d:Addr) (es:Array DictEntry) (i ep:Nat) (e:DictEntry) (hx:es[i]?=some e):
  MeetsIn prog w (Builtin.«dict_valueiterator.__next__» ⟨[.ref it],[]⟩) (fun _ R s=>s.heap.get? it=some (rL "dict_valueiterator" d i es.size ep)/\s.heap.get? d=some (lO es ep)/\
   R (.ok (.ret e.val)) {s with heap:=s.heap.update it (Obj.mapFields (·.setIfInBounds 1 (rawInt ((i:Int)+1))))}):=
 .of_wp fun A R s h=>by
  obtain⟨hp,g,dr,tk,os⟩:=s
  obtain⟨h1,h2,h⟩:=h
  wp_walk
  have z:(if (i:Int) < 0 then none else es[(i:Int).toNat]?)=some e:=by
   rw [if_neg (by omega),Int.toNat_natCast]; exact hx
  rw [z]
  wp_walk
  exact⟨_,rfl,h⟩
theorem LE (it d:Addr) (es:Array DictEntry) (i ep:Nat) (hx:es[i]?=none):
  MeetsIn prog w (Builtin.«dict_valueiterator.__next__» ⟨[.ref it],[]⟩) (fun A R s=>A.handled=none/\s.heap.get? it=some (rL "dict_valueiterator" d i es.size ep)/\s.heap.get? d=some (lO es ep)/\
   (∀ h' e,Heap.ExtBut it s.heap h'->(∃ o,h'.get? e=some o/\o.cls=.type "StopIteration")->R (.error (.ref e)) {s with heap:=h'})):=
 .of_wp fun A R s h=>by
  obtain⟨hp,g,dr,tk,os⟩:=s
  obtain⟨h0,h1,h2,h⟩:=h
  wp_walk
  have z:(if (i:Int) < 0 then none else es[(i:Int).toNat]?)=none:=by
   rw [if_neg (by omega),Int.toNat_natCast]; exact hx
  rw [z]
  wp_walk
  unfold raiseNew
  refine wpAny_bind (wpAny_handled ?_)
  rw [show A.in1.handled=none from h0]
  exact wpAny_bind (wpAny_pure (wpAny_throw (h _ _ (wI _ _ _) ⟨_,Heap.get?_push_size _ rfl,rfl⟩)))
theorem LD (it d:Addr) (es:Array DictEntry) (i ep:Nat) (ok ov:Value) (hx:es[i]?=none):
  MeetsIn prog w (Builtin.«dict_itemiterator.__next__» ⟨[.ref it],[]⟩) (fun A R s=>A.handled=none/\s.heap.get? it=some (yu .none (.ref d) i es.size ep ok ov)/\s.heap.get? d=some (lO es ep)/\
   (∀ h' e,Heap.ExtBut it s.heap h'->(∃ o,h'.get? e=some o/\o.cls=.type "StopIteration")->R (.error (.ref e)) {s with heap:=h'})):=
 .of_wp fun A R s h=>by
  obtain⟨hp,g,dr,tk,os⟩:=s
  obtain⟨h0,h1,h2,h⟩:=h
  wp_walk
  have z:(if (i:Int) < 0 then none else es[(i:Int).toNat]?)=none:=by
   rw [if_neg (by omega),Int.toNat_natCast]; exact hx
  rw [z]
  wp_walk
  unfold raiseNew
  refine wpAny_bind (wpAny_handled ?_)
  rw [show A.in1.handled=none from h0]
  exact wpAny_bind (wpAny_pure (wpAny_throw (h _ _ (wI _ _ _) ⟨_,Heap.get?_push_size _ rfl,rfl⟩)))
theorem Lj (d:Addr) (es:Array DictEntry) (ep:Nat) (hd:(d == sysModules)=false):
  MeetsIn prog w (Builtin.«dict.__iter__» ⟨[.ref d],[]⟩) (fun _ R s=>s.heap.get? d=some (lO es ep)/\R (.ok (.ret (.ref s.heap.objs.size))) {s with heap:=s.heap.push (rL "dict_keyiterator" d 0 es.size ep)}):=
 .of_wp fun A R s h=>by
  obtain⟨hp,g,dr,tk,os⟩:=s
  obtain⟨h2,h⟩:=h
  wp_walk
  exact⟨_,rfl,h⟩
theorem Lf (d:Addr) (es:Array DictEntry) (ep:Nat) (hd:(d == sysModules)=false):
  MeetsIn prog w (Builtin.«dict.values» ⟨[.ref d],[]⟩) (fun _ R s=>s.heap.get? d=some (lO es ep)/\R (.ok (.ret (.ref s.heap.objs.size))) {s with heap:=s.heap.push {cls:=.type "dict_values",data:=.fields #[.ref d]}}):=
 .of_wp fun A R s h=>by
  obtain⟨hp,g,dr,tk,os⟩:=s
  obtain⟨h2,h⟩:=h
  wp_walk
  exact⟨_,rfl,h⟩
theorem LR (d:Addr) (es:Array DictEntry) (ep:Nat) (hd:(d == sysModules)=false):
  MeetsIn prog w (Builtin.«dict.items» ⟨[.ref d],[]⟩) (fun _ R s=>s.heap.get? d=some (lO es ep)/\R (.ok (.ret (.ref s.heap.objs.size))) {s with heap:=s.heap.push {cls:=.type "dict_items",data:=.fields #[.ref d]}}):=
 .of_wp fun A R s h=>by
  obtain⟨hp,g,dr,tk,os⟩:=s
  obtain⟨h2,h⟩:=h
  wp_walk
  exact⟨_,rfl,h⟩
theorem LT (v d:Addr) (es:Array DictEntry) (ep:Nat):
  MeetsIn prog w (Builtin.«dict_values.__iter__» ⟨[.ref v],[]⟩) (fun _ R s=>s.heap.get? v=some {cls:=.type "dict_values",data:=.fields #[.ref d]}/\s.heap.get? d=some (lO es ep)/\
   R (.ok (.ret (.ref s.heap.objs.size))) {s with heap:=s.heap.push (rL "dict_valueiterator" d 0 es.size ep)}):=
 .of_wp fun A R s h=>by
  obtain⟨hp,g,dr,tk,os⟩:=s
  obtain⟨h1,h2,h⟩:=h
  wp_walk
  exact⟨_,rfl,h⟩
theorem Lm (d:Addr) (es:Array DictEntry) (ep:Nat) (hd:(d == sysModules)=false):
  MeetsIn prog w (Builtin.«dict.__len__» ⟨[.ref d],[]⟩) (fun _ R s=>s.heap.get? d=some (lO es ep)/\R (.ok (.ret (.int es.size s.toks))) {s with toks:=s.toks+1}):=
 .of_wp fun A R s h=>by
  obtain⟨hp,g,dr,tk,os⟩:=s
  obtain⟨h2,h⟩:=h
  wp_walk
  refine⟨_,rfl,?_⟩
  rw [show ((es.size:Int)+((0:Nat):Int))=es.size from Int.add_zero _]
  exact h
section
variable {A:Around} {E:Value->Shared->Prop} {s:Shared} {it d v:Addr} {es:Array DictEntry} {i ep:Nat} {e:DictEntry} {ok ov:Value}
theorem r_ {Q:Value->Shared->Prop} (hd:(d == sysModules)=false) (h2:s.heap.get? d=some (lO es ep)) (h:Q (.ref s.heap.objs.size) {s with heap:=s.heap.push (rL "dict_keyiterator" d 0 es.size ep)}):
  wpAny (model prog w) A (pyIter (.ref d)) Q E s:=
 have T:s.TypeIs (.ref d) "dict":=⟨_,h2,rfl⟩
 wpAny_pyIter_slot T F.slot_dict_iter (call_meetsIn F.slot_dict_iter T F.entry_dict_iter (F.args_dict_iter_1 _) (Lj d es ep hd) ⟨h2,"dict_keyiterator",_,⟨_,Heap.get?_push_size _ rfl,rfl⟩,F.slot_dict_keyiterator_next.lookup,h⟩)
theorem r8 {Q:Value->Shared->Prop} (h1:s.heap.get? v=some {cls:=.type "dict_values",data:=.fields #[.ref d]}) (h2:s.heap.get? d=some (lO es ep)) (h:Q (.ref s.heap.objs.size) {s with heap:=s.heap.push (rL "dict_valueiterator" d 0 es.size ep)}):
  wpAny (model prog w) A (pyIter (.ref v)) Q E s:=
 have T:s.TypeIs (.ref v) "dict_values":=⟨_,h1,rfl⟩
 wpAny_pyIter_slot T F.slot_dict_values_iter (call_meetsIn F.slot_dict_values_iter T F.entry_dict_values_iter (F.args_dict_values_iter_1 _) (LT v d es ep) ⟨h1,h2,"dict_valueiterator",_,⟨_,Heap.get?_push_size _ rfl,rfl⟩,F.slot_dict_valueiterator_next.lookup,h⟩)
theorem yx {Q:Value->Shared->Prop} (h1:s.heap.get? v=some {cls:=.type "dict_items",data:=.fields #[.ref d]}) (h2:s.heap.get? d=some (lO es ep)) (h:Q (.ref s.heap.objs.size) {s with heap:=s.heap.push (yu .none (.ref d) 0 es.size ep .none .none)}):
  wpAny (model prog w) A (pyIter (.ref v)) Q E s:=
 have T:s.TypeIs (.ref v) "dict_items":=⟨_,h1,rfl⟩
 wpAny_pyIter_slot T F.slot_dict_items_iter (call_meetsIn F.slot_dict_items_iter T F.entry_dict_items_iter (F.args_dict_items_iter_1 _) (LO v d es ep) ⟨h1,h2,"dict_itemiterator",_,⟨_,Heap.get?_push_size _ rfl,rfl⟩,F.slot_dict_itemiterator_next.lookup,h⟩)
theorem iM {T id:String} {f:Builtin} {φ} {Q:Option Value->Shared->Prop} (hs:Slot T "__next__" id) (hT:s.TypeIs (.ref it) T) (he:entryFor table id=some f) (ha:argsOk id ⟨[.ref it],[]⟩) (hm:MeetsIn prog w (f ⟨[.ref it],[]⟩) φ)
  (h:φ A (wants (fun u s'=>Q (some u) s') fun e s'=>(∃ a o,e=.ref a/\s'.heap.get? a=some o/\o.cls=.type "StopIteration")/\Q none s') s):wpAny (model prog w) A (pyNext (.ref it)) Q E s:=by
 unfold pyNext
 refine wpAny_bind (wpAny_attempt (wpAny_callSpecial?_slot (name:=Str.ofString "__next__") hT hs (wpAny_mono (call_meetsIn hs hT he ha hm h) (fun u s' q=>wpAny_pure q) fun e s' q=>?_)))
 obtain⟨⟨a,o,rfl,g,c⟩,q⟩:=q
 exact wpAny_bind (wpAny_isInstance (T:="StopIteration") (b:=true) ⟨_,g,c⟩ isSubtype_stop (wpAny_pure q))
inductive qB where
 | k | v
def qB.nm:qB->String
 | .k=>"dict_keyiterator"
 | .v=>"dict_valueiterator"
def qB.of (e:DictEntry):qB->Value
 | .k=>e.key
 | .v=>e.val
theorem Gk (c:qB) {h:Heap} {it d:Addr} {i n ep:Nat} (h1:h.get? it=some (rL c.nm d i n ep)):(h.update it (Obj.mapFields (·.setIfInBounds 1 (rawInt ((i:Int)+1))))).get? it=some (rL c.nm d (i+1) n ep):=
 Heap.get?_update_self _ h1 rfl
theorem xi (c:qB) {Q:Option Value->Shared->Prop} (h1:s.heap.get? it=some (rL c.nm d i es.size ep)) (h2:s.heap.get? d=some (lO es ep)) (hx:es[i]?=some e)
  (h:∀ h',h'.get? it=some (rL c.nm d (i+1) es.size ep)->(∀ b o,b≠it->s.heap.get? b=some o->h'.get? b=some o)->Q (some (qB.of e c)) {s with heap:=h'}):wpAny (model prog w) A (pyNext (.ref it)) Q E s:=by
 have far:∀ b o,b≠it->s.heap.get? b=some o->(s.heap.update it (Obj.mapFields (·.setIfInBounds 1 (rawInt ((i:Int)+1))))).get? b=some o:=fun b o nb x=>(Heap.get?_update_other _ _ (Ne.symm nb)).trans x
 have z:=h _ (Gk c h1) far
 cases c with
 | k=>exact iM F.slot_dict_keyiterator_next ⟨_,h1,rfl⟩ F.entry_dict_keyiterator_next (F.args_dict_keyiterator_next_1 _) (LM it d es i ep e hx) ⟨h1,h2,z⟩
 | v=>exact iM F.slot_dict_valueiterator_next ⟨_,h1,rfl⟩ F.entry_dict_valueiterator_next (F.args_dict_valueiterator_next_1 _) (Ly it d es i ep e hx) ⟨h1,h2,z⟩
theorem uD (c:qB) {Q:Option Value->Shared->Prop} (hh:A.handled=none) (h1:s.heap.get? it=some (rL c.nm d i es.size ep)) (h2:s.heap.get? d=some (lO es ep)) (hx:es[i]?=none)
  (h:∀ h',(∀ b o,b≠it->s.heap.get? b=some o->h'.get? b=some o)->Q none {s with heap:=h'}):wpAny (model prog w) A (pyNext (.ref it)) Q E s:=by
 cases c with
 | k=>exact iM F.slot_dict_keyiterator_next ⟨_,h1,rfl⟩ F.entry_dict_keyiterator_next (F.args_dict_keyiterator_next_1 _) (LG it d es i ep hx) ⟨hh,h1,h2,fun h' e x ⟨o,y1,y2⟩=>⟨⟨e,o,rfl,y1,y2⟩,h h' x⟩⟩
 | v=>exact iM F.slot_dict_valueiterator_next ⟨_,h1,rfl⟩ F.entry_dict_valueiterator_next (F.args_dict_valueiterator_next_1 _) (LE it d es i ep hx) ⟨hh,h1,h2,fun h' e x ⟨o,y1,y2⟩=>⟨⟨e,o,rfl,y1,y2⟩,h h' x⟩⟩
theorem Eo {Q:Option Value->Shared->Prop} (h1:s.heap.get? it=some (yu .none (.ref d) i es.size ep ok ov)) (h2:s.heap.get? d=some (lO es ep)) (hx:es[i]?=some e)
  (h:∀ h',h'.get? it=some (yu (rawInt s.heap.objs.size) (.ref d) (i+1) es.size ep e.key e.val)->h'.get? s.heap.objs.size=some {cls:=.type "tuple",data:=.seq #[e.key,e.val]}->(∀ b o,b≠it->s.heap.get? b=some o->h'.get? b=some o)->
   Q (some (.ref s.heap.objs.size)) {s with heap:=h'}):wpAny (model prog w) A (pyNext (.ref it)) Q E s:=
 iM F.slot_dict_itemiterator_next ⟨_,h1,rfl⟩ F.entry_dict_itemiterator_next (F.args_dict_itemiterator_next_1 _) (LJ it d es i ep e ok ov hx) ⟨h1,h2,fun h' a b c=>h h' a b c⟩
theorem BT {Q:Option Value->Shared->Prop} (hh:A.handled=none) (h1:s.heap.get? it=some (yu .none (.ref d) i es.size ep ok ov)) (h2:s.heap.get? d=some (lO es ep)) (hx:es[i]?=none)
  (h:∀ h',(∀ b o,b≠it->s.heap.get? b=some o->h'.get? b=some o)->Q none {s with heap:=h'}):wpAny (model prog w) A (pyNext (.ref it)) Q E s:=
 iM F.slot_dict_itemiterator_next ⟨_,h1,rfl⟩ F.entry_dict_itemiterator_next (F.args_dict_itemiterator_next_1 _) (LD it d es i ep ok ov hx) ⟨hh,h1,h2,fun h' e x ⟨o,y1,y2⟩=>⟨⟨e,o,rfl,y1,y2⟩,h h' x⟩⟩
theorem Ig {elts:List Expr} {x1} {pos:Pos} {T:Addr} {Q:Unit->Shared->Prop} (h1:s.heap.get? it=some (yu (rawInt T) (.ref d) i es.size ep ok ov))
  (h:∀ h',h'.get? it=some (yu .none (.ref d) i es.size ep ok ov)->(∀ b o,b≠it->s.heap.get? b=some o->h'.get? b=some o)->Q () {s with heap:=h'}):wpAny (model prog w) A (letOwnedTupleGo (.Tuple elts x1 pos) (.ref it) (.ref T)) Q E s:=
 wpAny_letOwnedTupleGo_items h1 fun h' a b=>h h' a fun c o n x=>b.extBut c o n x
theorem xf (c:qB) {n:Nat} {Q:Value->Shared->Prop} (h1:s.heap.get? it=some (rL c.nm d i n ep)) (h:Q (.ref it) s):wpAny (model prog w) A (pyIter (.ref it)) Q E s:=by
 cases c with
 | k=>exact wpAny_pyIter_keyiter ⟨_,h1,rfl,rfl⟩ h
 | v=>exact wpAny_pyIter_valiter ⟨_,h1,rfl,rfl⟩ h
theorem Dt {n:Nat} {x:Value} {Q:Value->Shared->Prop} (h1:s.heap.get? it=some (yu x (.ref d) i n ep ok ov)) (h:Q (.ref it) s):wpAny (model prog w) A (pyIter (.ref it)) Q E s:=by
 have T:s.TypeIs (.ref it) "dict_itemiterator":=⟨_,h1,rfl⟩
 have en:entryFor table "dict_itemiterator.__iter__"=some Builtin.«dict_keyiterator.__iter__»:=PySem.W.kcp_entry
 refine wpAny_pyIter_slot T F.slot_dict_itemiterator_iter (wpAny_call_entry F.slot_dict_itemiterator_iter T en ?_ (F.args_dict_itemiterator_iter_1 _))
 exact wpAny_pure ⟨_,rfl,"dict_itemiterator",_,T,F.slot_dict_itemiterator_next.lookup,h⟩
end
end
end PySem
namespace DL
open PySem PySem.Spec PyProof.Rows L2
def cL (k:List Int):D:=.tup (k.map .int)
def df (kvs:List (List Int×D)) (k:List Int):Option D:=(kvs.find? fun p=>decide (p.1=k)).map (·.2)
def iw (kvs:List (List Int×D)) (k:List Int) (d:D):List (List Int×D):=if (df kvs k).isSome then kvs.map (fun p=>if p.1=k then(p.1,d) else p) else kvs++[(k,d)]
section
variable {K:Fg} {H H':Hp} {S:DH} {p:Addr}
theorem yb.step' {a:Addr} {o:DO} (z:yb K H a o) (k:Kp H H') (s:H' a=H a):yb K H' a o:=
 Hs.step (S:=fun b=>if b=a then some o else none) (fun b u e=>by
  by_cases q:b=a
  ·subst q; cases (if_pos rfl).symm.trans e; exact z
  ·cases (if_neg q).symm.trans e) k (fun b u e=>by
  by_cases q:b=a
  ·subst q; exact s
  ·cases (if_neg q).symm.trans e) a o (if_pos rfl)
theorem Hs.setG {o u:HO} {g:ED} (h:Hs K H S) (e:H p=some u) (n:¬ JT u) (r:nV K (bJ H p o) p g):Hs K (bJ H p o) (put S p (.gen g)):=fun a ob q=>by
 by_cases z:a=p
 ·subst z
  rw [ak] at q
  cases q
  exact r
 ·rw [bo z] at q
  exact yb.step' (h a ob q) (Kp.mut e n) (aG z)
theorem Hs.newG {o:HO} {g:ED} (h:Hs K H S) (e:H p=none) (r:nV K (bJ H p o) p g):Hs K (bJ H p o) (put S p (.gen g)):=fun a ob q=>by
 by_cases z:a=p
 ·subst z
  rw [ak] at q
  cases q
  exact r
 ·rw [bo z] at q
  exact yb.step' (h a ob q) (Kp.new e) (aG z)
theorem Hs.dT {kvs:List (List Int×D)} {ep:Nat} (h:Hs K H S) (e:S p=some (.gen (.dT kvs ep))):∃ xs,H p=some (.ext (j7 p xs ep))/\lA K H kvs xs:=h p _ e
theorem jk:∀ {k:List Int} {xs:List V},IsDs K H (k.map D.int) xs↔xs=k.map V.int
 | [],xs=>iI
 | i::k,xs=>by
  rw [List.map_cons,List.map_cons,cD]
  constructor
  ·rintro⟨v,r,rfl,h1,h2⟩
   rw [isInt.mp h1,jk.mp h2]
  ·rintro rfl
   exact⟨_,_,rfl,isInt.mpr rfl,jk.mpr rfl⟩
theorem lE {k:List Int} {v:V}:bZ K H (cL k) v↔∃ b,v=.ref b/\ka K H b (k.map V.int):=by
 unfold cL
 rw [cz]
 constructor
 ·rintro⟨a,xs,e,t,j⟩
  rw [jk.mp j] at t
  exact⟨a,e,t⟩
 ·rintro⟨b,e,t⟩
  exact⟨b,_,e,t,jk.mpr rfl⟩
variable {kvs:List (List Int×D)} {xs:List (List Int×Addr×Value)}
theorem lA.get (r:lA K H kvs xs) (k:List Int):(df kvs k=none/\atKey xs k=none)\/∃ d b u v,df kvs k=some d/\atKey xs k=some (b,u)/\aF v u/\bZ K H d v:=by
 induction r with
 | nil=>exact .inl ⟨rfl,rfl⟩
 | @cons p q ps qs h t ih=>
  obtain⟨h1,h2,v,h3,h4⟩:=h
  by_cases e:p.1=k
  ·exact .inr ⟨p.2,q.2.1,q.2.2,v,by simp [df,List.find?_cons,e],by simp [atKey,List.find?_cons,h1.symm.trans e],h3,h4⟩
  ·have e':¬ q.1=k:=fun z=>e (h1.trans z)
   have a1:df (p::ps) k=df ps k:=by simp [df,List.find?_cons,e]
   have a2:atKey (q::qs) k=atKey qs k:=by simp [atKey,List.find?_cons,e']
   rw [a1,a2]
   exact ih
theorem lA.isSome (r:lA K H kvs xs) (k:List Int):(df kvs k).isSome=(atKey xs k).isSome:=by
 rcases r.get k with ⟨a,b⟩ | ⟨d,b,u,v,a,c,_⟩
 ·rw [a,b]; rfl
 ·rw [a,c]; rfl
theorem lA.put (r:lA K H kvs xs) {k:List Int} {b:Addr} {d:D} {v:V} {u:Value} (hb:ka K H b (k.map V.int)) (rv:aF v u) (hd:bZ K H d v):lA K H (iw kvs k d) (storedH xs k b u):=by
 unfold iw storedH
 rw [r.isSome k]
 by_cases q:(atKey xs k).isSome=true
 ·rw [if_pos q,if_pos q]
  clear q
  induction r with
  | nil=>exact .nil
  | @cons p q ps qs h t ih=>
   rw [List.map_cons,List.map_cons]
   refine .cons ?_ ih
   obtain⟨h1,h2,v',h3,h4⟩:=h
   unfold putAt
   by_cases e:p.1=k
   ·rw [if_pos e,if_pos (h1.symm.trans e)]; exact⟨h1,h2,v,rv,hd⟩
   ·rw [if_neg e,if_neg (fun z=>e (h1.trans z))]; exact⟨h1,h2,v',h3,h4⟩
 ·rw [if_neg q,if_neg q]
  exact Paired.snoc r ⟨rfl,hb,v,rv,hd⟩
theorem lA.length (r:lA K H kvs xs):kvs.length=xs.length:=Paired.length r
theorem lA.at_:∀ {kvs:List (List Int×D)} {xs:List (List Int×Addr×Value)} {i:Nat} {p:List Int×D},lA K H kvs xs->kvs[i]?=some p->∃ q,xs[i]?=some q/\p.1=q.1/\ka K H q.2.1 (p.1.map V.int)/\∃ v,aF v q.2.2/\bZ K H p.2 v
 | _,_,0,_,.cons h _,e=>by cases e; exact⟨_,rfl,h⟩
 | _,_,i+1,_,.cons _ t,e=>lA.at_ (i:=i) t e
end
section
variable {X:Cx} {pins:List (Addr×Obj)} {σ:L2.St} {H:Hp} {s:Shared} {a b:Addr} {kvs:List (List Int×D)} {xs:List (List Int×Addr×Value)} {ep:Nat} {k:List Int}
theorem items_int {P:Program} {w:World}:∀ {ks:List Int} {us:List Value},aL (ks.map V.int) us->PySem.ItemsAre (intKind P w) ks us
 | [],_,r=>by rw [List.map_nil] at r; cases r; exact .nil
 | k::ks,_,r=>by
  rw [List.map_cons] at r
  cases r with
  | cons h t=>
   obtain⟨tk,rfl⟩:=h
   exact .cons (by simp [intKind,Value.isInt]) (items_int t)
theorem iJ (I:aA X pins σ H s) (h:ka X.K H b (k.map V.int)):(tupleKind (intKind X.prog X.w)).is s.heap k b:=by
 obtain⟨its,r,⟨o,h1,h2,n,h3⟩,_⟩:=I.tuple h
 exact⟨o,its.toArray,n,h1,h2,h3,by simpa using items_int r⟩
theorem cC (I:aA X pins σ H s) (e:H a=some (.ext (j7 a xs ep))):(a == sysModules)=false/\xs.length<=sizeLine/\(xs.map (·.1)).Nodup/\s.heap.get? a=some (lO (xs.map eT).toArray ep):=(I.hok a _ e).1
theorem qp (I:aA X pins σ H s) (e:H a=some (.ext (j7 a xs ep))) (r:lA X.K H kvs xs):s.heap.DictOfH (tupleKind (intKind X.prog X.w)) a xs:=by
 obtain⟨_,z,nd,g⟩:=cC I e
 refine⟨_,_,ep,g,⟨rfl,rfl,rfl⟩,rfl,rfl,?_,nd⟩
 clear z nd g e
 induction r with
 | nil=>intro x hx; exact nomatch hx
 | @cons p q ps qs h t ih=>
  intro x hx
  rcases List.mem_cons.mp hx with e | hx
  ·subst e
   rw [<- h.1]
   exact iJ I h.2.1
  ·exact ih x hx
theorem wL {P:Program} {w:World} {h:Heap} (hd:(a == sysModules)=false) (z:xs.length<=sizeLine) (m:h.DictOfH (tupleKind (intKind P w)) a xs):∃ ep,j7 a xs ep h:=by
 obtain⟨⟨c,d,dt,sl⟩,es,ep,g,⟨c1,c2,c3⟩,c4,c5,_,nd⟩:=m
 have q:es=(xs.map eT).toArray:=by
  have:es.toList=xs.map eT:=c5
  rw [<- this]
 refine⟨ep,hd,z,nd,?_⟩
 rw [g]
 cases c1; cases c2; cases c3; cases c4
 rw [q]
 rfl
theorem oa {P:Program} {w:World} {h:Heap} (m:j7 a xs ep h):dE P w H h a (.ext (j7 a xs ep)):=
 ⟨m,⟨_,m.2.2.2⟩,fun h1 h2 p q=>⟨p.1,p.2.1,p.2.2.1,q _ p.2.2.2⟩⟩
theorem iF (xs:List (List Int×Addr×Value)) (k:List Int) (b:Addr) (u:Value):(storedH xs k b u).length<=xs.length+1:=by
 unfold storedH
 split
 ·rw [List.length_map]; omega
 ·rw [List.length_append]; exact Nat.le_refl _
theorem un1 {n:Nat} {A:Around} (hr:cH n A):A.units+1 < cLine:=by have:=hr.un; omega
def E7 (go gi:DE):DE:=fun L S k=>go L S fun d S1=>gi L S1 fun e S2=>match d with
 | .ref a=>∃ kvs ep ks c,S2 a=some (.gen (.dT kvs ep))/\e=cL ks/\df kvs ks=some c/\k c S2
 | _=>False
def Fr (K:Fg) (to ti:TE):TE:=fun σ H Q=>to σ H fun x H1=>ti σ H1 fun y H2=>∃ a b kvs xs ep ks p v,x=.ref a/\y=.ref b/\H2 a=some (.ext (j7 a xs ep))/\lA K H2 kvs xs/\ka K H2 b (ks.map V.int)/\atKey xs ks=some p/\aF v p.2/\Q v H2
theorem Cj {o i:Expr} {to ti:TE} {pos:Pos} {n:Nat} (hr:cH n X.A) (ho:PE X o to) (hi:PE X i ti) (hs:Ae i):PE X (.Subscript o i pos) (Fr X.K to ti):=by
 intro pins s σ H Q I h
 refine w5 PySem.F.slot_dict_getitem.lookup hs (bL (ho pins s σ H _ I h) fun u s1 ⟨x,H1,I1,rx,h1⟩=>bL (hi pins s1 σ H1 _ I1 h1) fun iv s2 ⟨y,H2,I2,ry,a,b,kvs,xs,ep,ks,p,v,ex,ey,e1,r1,t1,z2,z3,q⟩=>?_)
 subst ex ey
 obtain rfl:u=Value.ref a:=rx
 cases (show iv=Value.ref b from ry)
 have dd:=qp I2 e1 r1
 exact⟨dd.typeIs,wpAny_getItem_heap (tupleKind_room_in1 (un1 hr)) (iJ I2 t1) dd z2 ⟨v,H2,I2.tok _,z3,q⟩⟩
theorem oW {o i:Expr} {go gi:DE} {pos:Pos} {n:Nat} (hr:cH n X.A) (ho:EJ X o go) (hi:EJ X i gi) (hs:Ae i):EJ X (.Subscript o i pos) (E7 go gi):=
 ⟨PE.imp (Cj hr ho.h hi.h hs) fun σ H Q ⟨L,S,k,hL,hS,h,m⟩=>up.go hL hS h fun d S1 x H1 h1 k1 hL1 hS1 i1=>up.go hL1 hS1 h1 fun e S2 y H2 h2 k2 hL2 hS2 i2=>by
  cases d with
  | ref a=>
   obtain⟨kvs,ep,ks,c,g1,rfl,g3,h2⟩:=h2
   obtain⟨xs,e1,r1⟩:=hS2.dT g1
   obtain⟨b,rfl,t1⟩:=lE.mp i2
   have ex:=aP.mp i1
   subst ex
   rcases r1.get ks with ⟨z,_⟩ | ⟨d,b',w,v,z1,z2,z3,z4⟩
   ·rw [g3] at z; cases z
   ·rw [g3] at z1
    cases z1
    exact⟨a,b,kvs,xs,ep,ks,_,v,rfl,rfl,e1,r1,t1,z2,z3,m c S2 v H2 h2 (k1.trans k2) hS2 z4⟩
  | _=>exact(show False from h2).elim⟩
def K3 (neg:Bool):D2:=fun e d S k=>match d with
 | .ref a=>∃ kvs ep ks,S a=some (.gen (.dT kvs ep))/\e=cL ks/\k (.bl (if neg then !(df kvs ks).isSome else(df kvs ks).isSome)) S
 | _=>False
theorem I9 {n:Nat} (hr:cH n X.A):fH X (compareOp .In) (j5 X.K (K3 false)):=by
 intro pins s σ H x y v u Q I rx ry h
 obtain⟨e,d,S,k,i1,i2,hS,r,m⟩:=h
 cases d with
 | ref a=>
  obtain⟨kvs,ep,ks,g1,rfl,r⟩:=r
  obtain⟨xs,e1,r1⟩:=hS.dT g1
  obtain⟨b,rfl,t1⟩:=lE.mp i1
  have ex:=aP.mp i2
  subst ex
  cases (show u=Value.ref a from ry)
  cases (show v=Value.ref b from rx)
  refine wpAny_in_heap (tupleKind_room_in1 (un1 hr)) (iJ I t1) (cC I e1).1 (qp I e1 r1) ?_
  rw [<- r1.isSome ks]
  exact⟨.bl _,H,I.tok _,rfl,nc m hS r (cg.mpr rfl)⟩
 | _=>exact(show False from r).elim
def H_ (K:Fg):Ar:=fun x y v H Q=>∃ a b kvs xs ep ks,x=.ref a/\y=.ref b/\H a=some (.ext (j7 a xs ep))/\lA K H kvs xs/\ka K H b (ks.map V.int)/\xs.length < sizeLine/\∀ u ep',aF v u->Q (bJ H a (.ext (j7 a (storedH xs ks b u) ep')))
theorem As {n:Nat} (hr:cH n X.A):DD X (H_ X.K):=by
 intro pins s σ H o i v ov iv u Q I ro ri rv h
 obtain⟨a,b,kvs,xs,ep,ks,rfl,rfl,e1,r1,t1,z,q⟩:=h
 cases (show ov=Value.ref a from ro)
 cases (show iv=Value.ref b from ri)
 have hd:=(cC I e1).1
 refine wpAny_setItem_heap (hsz:=Nat.le_of_lt z) (tupleKind_room_in1 (un1 hr)) (iJ I t1) (qp I e1 r1) fun h' dd' hs=>?_
 have z':(storedH xs ks b u).length<=sizeLine:=by have:=iF xs ks b u; omega
 obtain⟨ep',m⟩:=wL hd z' dd'
 exact⟨_,o0 I (by rw [e1]; exact True.intro) hs ⟨_,m.2.2.2⟩ (oa m),q u ep' rv⟩
def zP (go gi:DE):DG:=fun d L S k=>go L S fun o S1=>gi L S1 fun i S2=>match o with
 | .ref a=>∃ kvs ep ks,S2 a=some (.gen (.dT kvs ep))/\i=cL ks/\kvs.length < sizeLine/\∀ ep',k L (put S2 a (.gen (.dT (iw kvs ks d) ep')))
 | _=>False
theorem fX {o i:Expr} {go gi:DE} {pos:Pos} {n:Nat} (hr:cH n X.A) (ho:EJ X o go) (hi:EJ X i gi)
  (ha:∀ v,assign (.Subscript o i pos) X.env v=(do
   let ov <- holding [v] (eval o X.env)
   let iv <- holding [v,ov] (eval i X.env)
   standAt pos
   holding [v,ov,iv] (setItem ov iv v)
   release [v,ov,iv] []):=by intro _; rfl):GJ X (.Subscript o i pos) (zP go gi):=
 ⟨PG.imp (v8 ho.h hi.h (As hr) ha) fun v σ H Q ⟨d,L,S,k,i1,hL,hS,h,m⟩=>up.go hL hS h fun c S1 u H1 h1 k1 hL1 hS1 j1=>up.go hL1 hS1 h1 fun c2 S2 u2 H2 h2 k2 hL2 hS2 j2=>by
  cases c with
  | ref a=>
   obtain⟨kvs,ep,ks,g1,rfl,z,h2⟩:=h2
   obtain⟨xs,e1,r1⟩:=hS2.dT g1
   obtain⟨b,rfl,t1⟩:=lE.mp j2
   have ex:=aP.mp j1
   subst ex
   refine⟨a,b,kvs,xs,ep,ks,rfl,rfl,e1,r1,t1,by rw [<- r1.length]; exact z,fun w ep' rw'=>?_⟩
   have k3:Kp H2 (bJ H2 a (.ext (j7 a (storedH xs ks b w) ep'))):=Kp.mut e1 (fun z=>z)
   exact m L _ σ _ (h2 ep') (k1.trans (k2.trans k3)) (hL2.kp k3) (hS2.setG e1 (fun z=>z) ⟨_,bC,(r1.put t1 rw' (i1.kp (k1.trans k2))).kp k3⟩)
  | _=>exact(show False from h2).elim⟩
def ER:DE:=fun _ S k=>∀ p,S p=none->∀ ep,k (.ref p) (put S p (.gen (.dT [] ep)))
theorem rV (h:Heap) (hb:sysModules < h.objs.size):j7 h.objs.size [] 0 (h.push {cls:=.type "dict",data:=.dict #[]}):=
 ⟨beq_eq_false_iff_ne.mpr (Ne.symm (Nat.ne_of_lt hb)),Nat.zero_le _,List.nodup_nil,Heap.get?_push_size _ rfl⟩
theorem fT {pos:Pos}:EJ X (.Dict [] [] pos) ER:=⟨fun pins s σ H Q I ⟨L,S,k,hL,hS,h,m⟩=>by
 have hn:=I.hok.fresh (Nat.le_refl s.heap.objs.size)
 refine wpAny_Dict_empty ⟨.ref s.heap.objs.size,_,I.laid (a:=s.heap.objs.size) (o:=.ext (j7 s.heap.objs.size [] 0)) (t':=s.toks) (fun _ _ q=>Heap.get?_push_of_some _ q) (Nat.le_refl _) (oa (rV s.heap I.big)),rfl,?_⟩
 exact m _ _ _ _ (h _ (hS.free hn) 0) (Kp.new hn) (hS.newG hn ⟨[],bC,.nil⟩) (aP.mpr rfl)⟩
end
end DL
namespace L2
open PySem PySem.Spec PyProof.Rows
theorem xm {X:Cx} {pins:List (Addr×Obj)} {σ:St} {H:Hp} {s:Shared} {a:Addr} {xs ys:List (List Int×Addr×Value)} {ep ep' i:Nat} {x:List Int×Addr×Value} (I:aA X pins σ H s) (e1:H a=some (.ext (DL.j7 a xs ep))) (e2:H a=some (.ext (DL.j7 a ys ep')))
  (hx:xs[i]?=some x):∃ y,ys[i]?=some y/\DL.eT y=DL.eT x:=by
 have g1:=(DL.cC I e1).2.2.2
 have g2:=(DL.cC I e2).2.2.2
 have z:=Option.some.inj (g1.symm.trans g2)
 have q:xs.map DL.eT=ys.map DL.eT:=by
  unfold DL.lO at z
  injection z with _ _ z _
  injection z with z _
  exact congrArg Array.toList z
 have w:(ys.map DL.eT)[i]?=some (DL.eT x):=by rw [<- q,List.getElem?_map,hx]; rfl
 rw [List.getElem?_map] at w
 exact Option.map_eq_some_iff.mp w
def JR (c:qB) (a:Addr) (ep n:Nat):It:=
 ⟨fun i H => ∃ xs x v, H a = some (.ext (DL.j7 a xs ep)) ∧ xs[i]? = some x ∧ xs.length = n ∧ aF v (qB.of (DL.eT x) c),
  fun i H v H'=>H'=H/\∀ xs,H a=some (.ext (DL.j7 a xs ep))->∃ x,xs[i]?=some x/\aF v (qB.of (DL.eT x) c),
  fun i H=>∃ xs,H a=some (.ext (DL.j7 a xs ep))/\xs.length=n/\n<=i⟩
theorem rG {P:Program} {w:World} {K:PySem.W.Frag} {tg:Expr} (c:qB) (a it:Addr) (ep n:Nat):we P w K tg (JR c a ep n) [it] it (fun i h=>h.get? it=some (rL c.nm a i n ep)) where
 mem:=by simp
 obj:=fun i h st b hb=>by
  have e:b=it:=by simpa using hb
  subst e
  exact⟨_,st,fun v z=>by cases z⟩
 keep:=fun i h h' st k=>k it (by simp) _ st
 item:=by
  intro X hP hw hK hc i pins s σ H E I hf st hg
  subst hP hw hK
  obtain⟨xs,x,v,e1,hx,hn,rv⟩:=hg
  have g:=(DL.cC I e1).2.2.2
  have sz:(xs.map DL.eT).toArray.size=n:=by simp [hn]
  obtain⟨f0,f1,f2,f3,f4,f5⟩:=hf it (by simp)
  refine xi c (e:=DL.eT x) (by rw [sz]; exact st) g (by simp [hx]) fun h' st' kk=>?_
  have I1:aA X pins σ H {s with heap:=h'}:=I.turned (t':=s.toks) kk f0 f1 f3 f4 f5
  rw [sz] at st'
  refine⟨_,rfl,ve (s:={s with heap:=h'}) (n:=c.nm) st' rfl rfl (by cases c <;> decide) ⟨v,H,I1,rv,⟨rfl,fun ys ey=>?_⟩,st',fun b hb=>(hf b hb).1⟩⟩
  obtain⟨y,y1,y2⟩:=xm I e1 ey hx
  exact⟨y,y1,by rw [y2]; exact rv⟩
 done:=by
  intro X hP hw hK hc i pins s σ H E I hf st hg
  subst hP hw hK
  obtain⟨xs,e1,hn,hi⟩:=hg
  have g:=(DL.cC I e1).2.2.2
  have sz:(xs.map DL.eT).toArray.size=n:=by simp [hn]
  obtain⟨f0,f1,f2,f3,f4,f5⟩:=hf it (by simp)
  exact uD c (I.ok.hd hc) (by rw [sz]; exact st) g (by simp; omega) fun h' kk=>⟨rfl,I.turned (t':=s.toks) kk f0 f1 f3 f4 f5⟩
 self:=fun _ _ _ _ _ st h=>xf c st h
def KE (a:Addr) (ep n:Nat):It:=
 ⟨fun i H => ∃ xs x v, H a = some (.ext (DL.j7 a xs ep)) ∧ xs[i]? = some x ∧ xs.length = n ∧ aF v x.2.2,
  fun i H u H'=>∃ T b v,u=.ref T/\H T=none/\H'=bJ H T (.tup [.ref b,v])/\∀ xs,H a=some (.ext (DL.j7 a xs ep))->∃ x,xs[i]?=some x/\b=x.2.1/\aF v x.2.2,
  fun i H=>∃ xs,H a=some (.ext (DL.j7 a xs ep))/\xs.length=n/\n<=i⟩
theorem vO {P:Program} {w:World} {K:PySem.W.Frag} {es:List Expr} {k:Nat} {pos:Pos} (a it:Addr) (ep n:Nat) (ne:it≠a):we P w K (.Tuple es k pos) (KE a ep n) [it] it (fun i h=>∃ ok ov,h.get? it=some (yu .none (.ref a) i n ep ok ov)) where
 mem:=by simp
 obj:=fun i h st b hb=>by
  have e:b=it:=by simpa using hb
  subst e
  obtain⟨ok,ov,st⟩:=st
  exact⟨_,st,fun v z=>by cases z⟩
 keep:=fun i h h' ⟨ok,ov,st⟩ k=>⟨ok,ov,k it (by simp) _ st⟩
 item:=by
  intro X hP hw hK hc i pins s σ H E I hf st hg
  subst hP hw hK
  obtain⟨ok,ov,st⟩:=st
  obtain⟨xs,x,v,e1,hx,hn,rv⟩:=hg
  have g:=(DL.cC I e1).2.2.2
  have sz:(xs.map DL.eT).toArray.size=n:=by simp [hn]
  have hT:H s.heap.objs.size=none:=I.hok.fresh (Nat.le_refl _)
  have old:it≠s.heap.objs.size:=Nat.ne_of_lt (Heap.lt_size st)
  refine Eo (e:=DL.eT x) (es:=(xs.map DL.eT).toArray) (by rw [sz]; exact st) g (by simp [hx]) fun h' st' tp kk=>?_
  rw [sz] at st'
  have hfi:∀ b∈[it],nI X pins H b:=fun b hb=>by
   have e:b=it:=by simpa using hb
   subst e
   exact hf b (by simp)
  have I1:aA X pins σ (bJ H s.heap.objs.size (.tup [.ref x.2.1,v])) {s with heap:=h'}:=I.turnedNew (t':=s.toks) [it] (fun b o hb e=>kk b o (fun q=>hb (by simp [q])) e) hfi (Nat.le_refl _)
   ⟨Nat.le_of_ble_eq_true rfl,[_,_],.cons rfl (.cons rv .nil),⟨_,tp,rfl,_,rfl⟩⟩
  refine⟨_,rfl,Ig (s:={s with heap:=h'}) (es:=(xs.map DL.eT).toArray) (by rw [sz]; exact st') fun h2 st2 kk2=>?_⟩
  rw [sz] at st2
  refine⟨.ref s.heap.objs.size,_,I1.turnedL (t':=s.toks) [it] (fun b o hb e=>kk2 b o (fun q=>hb (by simp [q])) e) (fun b hb=>?_),rfl,⟨_,_,v,rfl,hT,rfl,fun ys ey=>?_⟩,⟨_,_,st2⟩,fun b hb=>?_⟩
  ·have e:b=it:=by simpa using hb
   subst e
   obtain⟨f0,f1,f2,f3,f4,f5⟩:=hf b (by simp)
   exact⟨by rw [aG old]; exact f0,f1,f2,f3,f4,f5⟩
  ·obtain⟨y,y1,y2⟩:=xm I e1 ey hx
   have q1:y.2.1=x.2.1:=Value.ref.inj (congrArg DictEntry.key y2)
   have q2:y.2.2=x.2.2:=congrArg DictEntry.val y2
   exact⟨y,y1,q1.symm,by rw [q2]; exact rv⟩
  ·have e:b=it:=by simpa using hb
   subst e
   rw [aG old]
   exact(hf b (by simp)).1
 done:=by
  intro X hP hw hK hc i pins s σ H E I hf st hg
  subst hP hw hK
  obtain⟨ok,ov,st⟩:=st
  obtain⟨xs,e1,hn,hi⟩:=hg
  have g:=(DL.cC I e1).2.2.2
  have sz:(xs.map DL.eT).toArray.size=n:=by simp [hn]
  obtain⟨f0,f1,f2,f3,f4,f5⟩:=hf it (by simp)
  exact BT (I.ok.hd hc) (by rw [sz]; exact st) g (by simp; omega) fun h' kk=>⟨rfl,I.turned (t':=s.toks) kk f0 f1 f3 f4 f5⟩
 self:=fun _ _ _ _ _ ⟨_,_,st⟩ h=>Dt st h
section
variable {X:Cx} {tg l o:Expr} {tl to:TE} {apos cpos:Pos}
def Jo (tl:TE):TI:=fun σ H R=>tl σ H fun x H1=>∃ a ep xs,x=.ref a/\H1 a=some (.ext (DL.j7 a xs ep))/\R (JR .k a ep xs.length) H1
theorem Di (hl:PE X l tl):PI X tg l (Jo tl):=by
 intro pins s σ H R I h
 refine bL (hl pins s σ H _ I h) fun v s1 ⟨x,H1,I1,r1,a,ep,xs,ex,e1,q⟩=>?_
 subst ex
 cases (show v=Value.ref a from r1)
 obtain⟨hd,_,_,g⟩:=DL.cC I1 e1
 refine r_ hd g ⟨s1.heap.objs.size,[s1.heap.objs.size],_,_,H1,rfl,I1.kept (t':=s1.toks) fun b o e=>Heap.get?_push_of_some _ e,rG .k a _ ep xs.length,?_,fun b hb=>?_,q⟩
 ·show(s1.heap.push _).get? _=_
  rw [Heap.get?_push_size _ rfl]
  simp [qB.nm]
 ·have e:b=s1.heap.objs.size:=by simpa using hb
  subst e
  exact I1.fpOk (Nat.le_refl _) (I1.hok.fresh (Nat.le_refl _))
def IN (to:TE):TI:=fun σ H R=>to σ H fun x H1=>∃ a ep xs,x=.ref a/\H1 a=some (.ext (DL.j7 a xs ep))/\R (JR .v a ep xs.length) H1
theorem Do (ho:PE X o to) (hbase:attributeBase o "values" X.env (eval o X.env)=eval o X.env:=by rfl) (hline:(apos.endLine == cpos.line)=true:=by rfl):PI X tg (.Call (.Attribute o "values" apos) [] [] cpos) (IN to):=by
 intro pins s σ H R I h
 refine wpAny_Call_method0_late hbase hline (bL (ho pins s σ H _ I h) fun v s1 ⟨x,H1,I1,r1,a,ep,xs,ex,e1,q⟩=>?_)
 subst ex
 cases (show v=Value.ref a from r1)
 obtain⟨hd,_,_,g⟩:=DL.cC I1 e1
 refine⟨"dict","dict.values",F.plainAttrs_dict,F.slot_dict_values,F.type_dict_values,⟨_,g,rfl⟩,fun b e=>by cases e; exact⟨_,g,rfl⟩,Calls.callWith_builtin rfl (PySem.evalArgs_none ?_)⟩
 refine call_meetsIn F.slot_dict_values ⟨_,g,rfl⟩ F.entry_dict_values (F.args_dict_values_1 _) (Lf a _ ep hd) ⟨g,?_⟩
 have I2:aA X pins σ H1 {s1 with heap:=s1.heap.push {cls:=.type "dict_values",data:=.fields #[.ref a]}}:=I1.kept (t':=s1.toks) fun b o e=>Heap.get?_push_of_some _ e
 refine r8 (s:={s1 with heap:=s1.heap.push {cls:=.type "dict_values",data:=.fields #[.ref a]}}) (Heap.get?_push_size _ rfl) (Heap.get?_push_of_some _ g) ⟨_,[_],_,_,H1,rfl,I2.kept (t':=s1.toks) fun b o e=>Heap.get?_push_of_some _ e,rG .v a _ ep xs.length,?_,fun b hb=>?_,q⟩
 ·show(Heap.push _ _).get? _=_
  rw [Heap.get?_push_size _ rfl]
  simp [qB.nm]
 ·have e:b=(s1.heap.push {cls:=.type "dict_values",data:=.fields #[.ref a]}).objs.size:=by simpa using hb
  subst e
  exact I2.fpOk (Nat.le_refl _) (I2.hok.fresh (Nat.le_refl _))
def Hh (to:TE):TI:=fun σ H R=>to σ H fun x H1=>∃ a ep xs,x=.ref a/\H1 a=some (.ext (DL.j7 a xs ep))/\R (KE a ep xs.length) H1
theorem zA {es:List Expr} {k:Nat} {pos:Pos} (ho:PE X o to) (hbase:attributeBase o "items" X.env (eval o X.env)=eval o X.env:=by rfl) (hline:(apos.endLine == cpos.line)=true:=by rfl):PI X (.Tuple es k pos) (.Call (.Attribute o "items" apos) [] [] cpos) (Hh to):=by
 intro pins s σ H R I h
 refine wpAny_Call_method0_late hbase hline (bL (ho pins s σ H _ I h) fun v s1 ⟨x,H1,I1,r1,a,ep,xs,ex,e1,q⟩=>?_)
 subst ex
 cases (show v=Value.ref a from r1)
 obtain⟨hd,_,_,g⟩:=DL.cC I1 e1
 refine⟨"dict","dict.items",F.plainAttrs_dict,F.slot_dict_items,F.type_dict_items,⟨_,g,rfl⟩,fun b e=>by cases e; exact⟨_,g,rfl⟩,Calls.callWith_builtin rfl (PySem.evalArgs_none ?_)⟩
 refine call_meetsIn F.slot_dict_items ⟨_,g,rfl⟩ F.entry_dict_items (F.args_dict_items_1 _) (LR a _ ep hd) ⟨g,?_⟩
 have I2:aA X pins σ H1 {s1 with heap:=s1.heap.push {cls:=.type "dict_items",data:=.fields #[.ref a]}}:=I1.kept (t':=s1.toks) fun b o e=>Heap.get?_push_of_some _ e
 have ne:(s1.heap.push {cls:=.type "dict_items",data:=.fields #[.ref a]}).objs.size≠a:=Nat.ne_of_gt (Nat.lt_of_lt_of_le (Heap.lt_size g) (by rw [Heap.size_push]; omega))
 refine yx (s:={s1 with heap:=s1.heap.push {cls:=.type "dict_items",data:=.fields #[.ref a]}}) (Heap.get?_push_size _ rfl) (Heap.get?_push_of_some _ g) ⟨_,[_],_,_,H1,rfl,I2.kept (t':=s1.toks) fun b o e=>Heap.get?_push_of_some _ e,vO a _ ep xs.length ne,⟨.none,.none,?_⟩,fun b hb=>?_,q⟩
 ·show(Heap.push _ _).get? _=_
  rw [Heap.get?_push_size _ rfl]
  simp
 ·have e:b=(s1.heap.push {cls:=.type "dict_items",data:=.fields #[.ref a]}).objs.size:=by simpa using hb
  subst e
  exact I2.fpOk (Nat.le_refl _) (I2.hok.fresh (Nat.le_refl _))
end
end L2
namespace DL
open PySem PySem.Spec PyProof.Rows L2
abbrev yB:=Lo->DH->(List D->(DH->Prop)->DH->Prop)->Prop
structure Da (K:Fg) (H1:Hp) (J:It) (ds:List D) (ok:DH->Prop):Prop where
 go:∀ i d S2 H2,ds[i]?=some d->Kp H1 H2->Hs K H2 S2->ok S2->J.go i H2/\∀ x H',J.yld i H2 x H'->Kp H2 H'/\Hs K H' S2/\bZ K H' d x
 stop:∀ S2 H2,Kp H1 H2->Hs K H2 S2->ok S2->J.stop ds.length H2
def KN (K:Fg) (g:yB):TI:=fun σ H R=>∃ L S k,Lc K H L σ/\Hs K H S/\g L S k/\∀ ds ok S' H' J,k ds ok S'->Kp H H'->Lc K H' L σ->Hs K H' S'->Da K H' J ds ok->R J H'
structure IJ (X:Cx) (tg iter:Expr) (g:yB):Prop where
 h:PI X tg iter (KN X.K g)
def E2 (gi:yB) (g:DG) (b:DS):DS:=fun M L S=>gi L S fun ds ok S1=>iK ok g b M ds L S1
def t6 (cap:List (Option Nat)) (gi:yB) (g:DG) (bd:DB):DE:=fun L S k=>gi L S fun ds ok S1=>∀ p,S1 p=none->cw ok p g bd k ds [] (Bv cap L) (put S1 p (.lst []))
section
variable {K:Fg} {ok:DH->Prop} {gg:DG} {ge:DE} {gc:DT} {k:DK} {ds:List D} {L:Lo} {S:DH} {σ:L2.St} {H:Hp} {J:It} {p:Addr} {Q:V->Hp->Prop}
theorem tY (hL:Lc K H L σ) (hS:Hs K H S) (hp:H p=none) (h:cw ok p gg (zn gc ge) k ds [] L (put S p (.lst [])))
  (n:∀ d S' v H',k d S'->Kp H H'->Hs K H' S'->bZ K H' d v->Q v H') (G:Da K H J ds ok):
  ∃ W:Nat->Nat->L2.St->Hp->Prop,(∃ m,W 0 m σ (bJ H p (.lst [])))/\∀ i m σ' H',W i m σ' H'->
   (J.stop i H'/\Q (.ref p) H')\/(J.go i H'/\∃ N:L2.St->Hp->Prop,(∀ σ2 H2,N σ2 H2->∃ m',m' < m/\W (i+1) m' σ2 H2)/\∀ x H2,J.yld i H' x H2->zt K gg x σ' H2 fun σ3 H3=>lD K gc σ3 H3 fun b H3'=>if b=true then up K ge σ3 H3' fun v H4=>∃ ys,H4 p=some (.lst ys)/\ys.length < sizeLine/\N σ3 (bJ H4 p (.lst (ys++[v]))) else N σ3 H3'):=by
 refine⟨fun i m σ1 H1=>m=ds.length - i/\i<=ds.length/\∃ acc L1 S1,Lc K H1 L1 σ1/\Hs K H1 S1/\Kp H H1/\cw ok p gg (zn gc ge) k (ds.drop i) acc L1 S1,⟨ds.length,by simp,Nat.zero_le _,[],L,_,hL.kp (Kp.new hp),hS.newL hp IsDs.nil,Kp.new hp,h⟩,?_⟩
 rintro i m σ1 H1 ⟨rfl,hi,acc,L1,S1,hL1,hS1,k1,w1⟩
 by_cases hlt:i < ds.length
 ·have e:ds.drop i=ds[i]::ds.drop (i+1):=List.drop_eq_getElem_cons hlt
  rw [e] at w1
  obtain⟨o1,w1⟩:=w1
  obtain⟨g1,y1⟩:=G.go i ds[i] S1 H1 (by simp [hlt]) k1 hS1 o1
  refine .inr ⟨g1,fun σ' H'=>i+1<=ds.length/\∃ acc L' S',Lc K H' L' σ'/\Hs K H' S'/\Kp H H'/\cw ok p gg (zn gc ge) k (ds.drop (i+1)) acc L' S',fun σ' H' ⟨q1,q2⟩=>⟨ds.length - (i+1),by omega,rfl,q1,q2⟩,fun x H' y=>?_⟩
  obtain⟨k0,hS0,ix⟩:=y1 x H' y
  refine⟨ds[i],L1,S1,_,ix,hL1.kp k0,hS0,w1,fun L2 S2 σ2 H2 q k2 hL2 hS2=>lD.go hL2 hS2 q fun b S2' H2' h2 k2' hL2' hS2'=>?_⟩
  have kk:=((k1.trans k0).trans k2).trans k2'
  cases b with
  | true=>
   rw [if_pos rfl] at h2 ⊢
   refine up.go hL2' hS2' h2 fun d S3 v H3 h3 k3 hL3 hS3 i3=>?_
   obtain⟨z1,z2,z3⟩:=h3
   obtain⟨xs,hl,j⟩:=hS3.lst z1
   have k4:Kp H3 (bJ H3 p (.lst (xs++[v]))):=Kp.mut hl (fun z=>z)
   exact⟨xs,hl,by rw [<- j.length]; exact z2,hlt,_,L2,_,hL3.kp k4,hS3.setL hl (j.append (IsDs.cons i3 IsDs.nil)),(kk.trans k3).trans k4,z3⟩
  | false=>
   rw [if_neg Bool.false_ne_true] at h2 ⊢
   exact⟨hlt,acc,L2,_,hL2',hS2',kk,h2⟩
 ·have e:i=ds.length:=by omega
  subst e
  rw [List.drop_length] at w1
  obtain⟨o1,w1⟩:=w1
  exact .inl ⟨G.stop S1 H1 k1 hS1 o1,n _ S1 _ H1 w1 k1 hS1 (aP.mpr rfl)⟩
end
section
variable {X:Cx} {tg iter elt c:Expr} {gi:yB} {gg:DG} {g:DS} {ge:DE} {gc:DT} {body:List Stmt} {pos:Pos} {scope:Scope} {cl:List (Str×Addr)} {N:List Str} {cap:List (Option Nat)}
theorem dc (hp:PassesOwn (model X.prog X.w) X.A X.env X.xe) (hc:X.calm=true) (hi:IJ X tg iter gi) (hg:GJ X tg gg) (hb:zo X body g) (hs:∀ x,foldedSetIterable iter X.env x=pure x:=by intro _; rfl):
  SJ X (.For tg iter body [] pos) (E2 gi gg g):=
 ⟨PS.imp (tu hp hc hi.h hg.h hb.h hs) fun N σ H ⟨L,S,M,hL,hS,h,r⟩=>⟨L,S,_,hL,hS,h,fun ds ok S1 H1 J h1 k1 hL1 hS1 G=>yR hL1 hS1 h1 (r.kp k1) G.go G.stop⟩⟩
theorem BB {K:Fg}:∀ σ H Q,up K (t6 cap gi gg (gL ge)) σ H Q->zM cap (KN K gi) (zt K gg) (up K ge) σ H Q:=fun σ H Q ⟨L,S,k,hL,hS,h,n⟩=>
 ⟨L,S,_,hL,hS,h,fun ds ok S1 H1 J h1 k1 hL1 hS1 G D hD=>wf (hL1.cap cap) hS1 hD (h1 D (hS1.free hD)) (fun d S' v H' q k3=>n d S' v H' q (k1.trans k3)) G.go G.stop⟩
theorem v4 {K:Fg}:∀ σ H Q,up K (t6 cap gi gg (zn gc ge)) σ H Q->xF cap (KN K gi) (zt K gg) (lD K gc) (up K ge) σ H Q:=fun σ H Q ⟨L,S,k,hL,hS,h,n⟩=>
 ⟨L,S,_,hL,hS,h,fun ds ok S1 H1 J h1 k1 hL1 hS1 G D hD=>tY (hL1.cap cap) hS1 hD (h1 D (hS1.free hD)) (fun d S' v H' q k3=>n d S' v H' q (k1.trans k3)) G⟩
theorem ld (hc:X.calm=true) (Sc:gC X scope cl N cap) (hi:IJ X tg iter gi) (hg:∀ s0 H0 ex C,GJ (js X scope cl N s0 H0 ex C) tg gg) (he:∀ s0 H0 ex C,EJ (js X scope cl N s0 H0 ex C) elt ge)
  (hs:∀ x,foldedSetIterable iter X.env x=pure x:=by intro _; rfl):EJ X (.ListComp elt [⟨tg,iter,[],0⟩] scope pos) (t6 cap gi gg (gL ge)):=
 ⟨PE.imp (s_ hc Sc hi.h (fun s0 H0 ex C=>(hg s0 H0 ex C).h) (fun s0 H0 ex C=>(he s0 H0 ex C).h) hs) BB⟩
theorem qL {xv:Str} {iv:Nat} {pv sv:Pos} (hNv:X.N.Nodup) (hc:X.calm=true) (Sc:gC X scope cl N cap) (hi:IJ X tg iter gi) (hg:∀ s0 H0 ex C,GJ (js X scope cl N s0 H0 ex C) tg gg) (hcnd:∀ s0 H0 ex C,TJ (js X scope cl N s0 H0 ex C) c gc) (he:∀ s0 H0 ex C,EJ (js X scope cl N s0 H0 ex C) elt ge)
  (hs:∀ x,foldedSetIterable iter X.env x=pure x:=by intro _; rfl) (hiv:X.N[iv]?=some xv:=by rfl) (hxv:X.env.scope.names.lookup xv=some .local:=by rfl) (hswv:swapsWith (.ListComp elt [⟨tg,iter,[c],0⟩] scope pos) (some (.Name xv pv)) sv.line X.env=pure true:=by rfl):
  SJ X (.Assign [.Name xv pv] (.ListComp elt [⟨tg,iter,[c],0⟩] scope pos) sv) (qY iv (t6 cap gi gg (zn gc ge))):=
 ⟨PS.imp (wa hNv hiv hxv hswv hc Sc hi.h (fun s0 H0 ex C=>(hg s0 H0 ex C).h) (fun s0 H0 ex C=>(hcnd s0 H0 ex C).h) (fun s0 H0 ex C=>(he s0 H0 ex C).h) hs) (Ji v4)⟩
end
def uq (c:qB) (kvs:List (List Int×D)):List D:=kvs.map fun p=>match c with
 | .k=>cL p.1
 | .v=>p.2
def dL (kvs:List (List Int×D)):List D:=kvs.map fun p=>.tup [cL p.1,p.2]
def Eh (gi:DE) (f:List (List Int×D)->List D):yB:=fun L S k=>gi L S fun d S1=>match d with
 | .ref a=>∃ kvs ep,S1 a=some (.gen (.dT kvs ep))/\k (f kvs) (fun S=>S a=some (.gen (.dT kvs ep))) S1
 | _=>False
theorem rY (c:qB) {K:Fg} {H1:Hp} {a:Addr} {kvs:List (List Int×D)} {ep:Nat}:Da K H1 (JR c a ep kvs.length) (uq c kvs) (fun S=>S a=some (.gen (.dT kvs ep))) where
 go:=fun i d S2 H2 e k2 hS2 ok=>by
  obtain⟨xs,e1,r1⟩:=hS2.dT ok
  unfold uq at e
  rw [List.getElem?_map] at e
  obtain⟨p,hp,rfl⟩:=Option.map_eq_some_iff.mp e
  obtain⟨q,hq,h1,h2,v,h3,h4⟩:=r1.at_ hp
  cases c with
  | k=>
   refine⟨⟨xs,q,.ref q.2.1,e1,hq,r1.length.symm,rfl⟩,?_⟩
   rintro x H' ⟨rfl,al⟩
   obtain⟨q',hq',rv⟩:=al xs e1
   rw [hq] at hq'
   cases hq'
   rw [aF.inj (show aF x (Value.ref q.2.1) from rv) (show aF (.ref q.2.1) (Value.ref q.2.1) from rfl)]
   exact⟨Kp.refl _,hS2,lE.mpr ⟨_,rfl,h2⟩⟩
  | v=>
   refine⟨⟨xs,q,v,e1,hq,r1.length.symm,h3⟩,?_⟩
   rintro x H' ⟨rfl,al⟩
   obtain⟨q',hq',rv⟩:=al xs e1
   rw [hq] at hq'
   cases hq'
   rw [aF.inj (show aF x q.2.2 from rv) h3]
   exact⟨Kp.refl _,hS2,h4⟩
 stop:=fun S2 H2 k2 hS2 ok=>by
  obtain⟨xs,e1,r1⟩:=hS2.dT ok
  exact⟨xs,e1,r1.length.symm,by unfold uq; rw [List.length_map]; exact Nat.le_refl _⟩
theorem wu {K:Fg} {H1:Hp} {a:Addr} {kvs:List (List Int×D)} {ep:Nat}:Da K H1 (KE a ep kvs.length) (dL kvs) (fun S=>S a=some (.gen (.dT kvs ep))) where
 go:=fun i d S2 H2 e k2 hS2 ok=>by
  obtain⟨xs,e1,r1⟩:=hS2.dT ok
  unfold dL at e
  rw [List.getElem?_map] at e
  obtain⟨p,hp,rfl⟩:=Option.map_eq_some_iff.mp e
  obtain⟨q,hq,h1,h2,v,h3,h4⟩:=r1.at_ hp
  refine⟨⟨xs,q,v,e1,hq,r1.length.symm,h3⟩,?_⟩
  rintro x H' ⟨T,b,v',rfl,hT,rfl,al⟩
  obtain⟨q',hq',rfl,rv⟩:=al xs e1
  rw [hq] at hq'
  cases hq'
  rw [aF.inj rv h3]
  have kn:Kp H2 (bJ H2 T (.tup [.ref q.2.1,v])):=Kp.new hT
  exact⟨kn,hS2.new hT,cz.mpr ⟨T,_,rfl,ka.of bC,IsDs.cons (lE.mpr ⟨_,rfl,kn.tup h2⟩) (IsDs.cons (h4.kp kn) IsDs.nil)⟩⟩
 stop:=fun S2 H2 k2 hS2 ok=>by
  obtain⟨xs,e1,r1⟩:=hS2.dT ok
  exact⟨xs,e1,r1.length.symm,by unfold dL; rw [List.length_map]; exact Nat.le_refl _⟩
section
variable {X:Cx} {tg o:Expr} {go:DE} {apos cpos:Pos}
theorem nC (ho:EJ X o go):IJ X tg o (Eh go (uq .k)):=⟨PI.imp (Di ho.h) fun σ H R ⟨L,S,k,hL,hS,h,n⟩=>up.go hL hS h fun d S1 v H1 h1 k1 hL1 hS1 i1=>by
  cases d with
  | ref a=>
   obtain⟨kvs,ep,g1,h1⟩:=h1
   obtain⟨xs,e1,r1⟩:=hS1.dT g1
   have ex:=aP.mp i1
   subst ex
   exact⟨a,ep,xs,rfl,e1,n _ _ _ _ _ h1 k1 hL1 hS1 (r1.length▸rY .k)⟩
  | _=>exact(show False from h1).elim⟩
theorem xz (ho:EJ X o go) (hbase:attributeBase o "values" X.env (eval o X.env)=eval o X.env:=by rfl) (hline:(apos.endLine == cpos.line)=true:=by rfl):IJ X tg (.Call (.Attribute o "values" apos) [] [] cpos) (Eh go (uq .v)):=⟨PI.imp (Do ho.h hbase hline) fun σ H R ⟨L,S,k,hL,hS,h,n⟩=>up.go hL hS h fun d S1 v H1 h1 k1 hL1 hS1 i1=>by
  cases d with
  | ref a=>
   obtain⟨kvs,ep,g1,h1⟩:=h1
   obtain⟨xs,e1,r1⟩:=hS1.dT g1
   have ex:=aP.mp i1
   subst ex
   exact⟨a,ep,xs,rfl,e1,n _ _ _ _ _ h1 k1 hL1 hS1 (r1.length▸rY .v)⟩
  | _=>exact(show False from h1).elim⟩
theorem ff {es:List Expr} {k:Nat} {pos:Pos} (ho:EJ X o go) (hbase:attributeBase o "items" X.env (eval o X.env)=eval o X.env:=by rfl) (hline:(apos.endLine == cpos.line)=true:=by rfl):IJ X (.Tuple es k pos) (.Call (.Attribute o "items" apos) [] [] cpos) (Eh go dL):=⟨PI.imp (zA ho.h hbase hline) fun σ H R ⟨L,S,k,hL,hS,h,n⟩=>up.go hL hS h fun d S1 v H1 h1 k1 hL1 hS1 i1=>by
  cases d with
  | ref a=>
   obtain⟨kvs,ep,g1,h1⟩:=h1
   obtain⟨xs,e1,r1⟩:=hS1.dT g1
   have ex:=aP.mp i1
   subst ex
   exact⟨a,ep,xs,rfl,e1,n _ _ _ _ _ h1 k1 hL1 hS1 (r1.length▸wu)⟩
  | _=>exact(show False from h1).elim⟩
end
section
variable {X:Cx} {o e f:Expr} {go ge gf:DE} {to te tf:TE} {apos cpos:Pos}
def Gz (K:Fg) (to te tf:TE):TE:=fun σ H Q=>to σ H fun x H1=>∃ a xs ep,x=.ref a/\H1 a=some (.ext (j7 a xs ep))/\te σ H1 fun y H2=>tf σ H2 fun z H3=>∃ b kvs xs ep ks v,y=.ref b/\H3 a=some (.ext (j7 a xs ep))/\lA K H3 kvs xs/\ka K H3 b (ks.map V.int)/\(∀ r,aF z r->aF v (((atKey xs ks).map (·.2)).getD r))/\Q v H3
theorem zU {n:Nat} (hr:cH n X.A) (ho:PE X o to) (he:PE X e te) (hf:PE X f tf) (m:M2 X o "get" apos e f cpos):PE X (.Call (.Attribute o "get" apos) [e,f] [] cpos) (Gz X.K to te tf):=by
 intro pins s σ H Q I h
 refine wpAny_Call_method m.base m.few m.line PySem.F.plainAttrs_dict PySem.F.slot_dict_get PySem.F.type_dict_get (bL (ho pins s σ H _ I h) fun u s1 ⟨x,H1,I1,rx,a,xs,ep,ex,e1,q1⟩=>?_)
 subst ex
 obtain rfl:u=Value.ref a:=rx
 have g:=(cC I1 e1).2.2.2
 refine⟨⟨_,g,rfl⟩,fun b eb=>by cases eb; exact⟨_,g,rfl⟩,?_⟩
 rw [m.trees]
 refine Calls.callWith_builtin rfl (Calls.evalArgs_plain (Calls.spliced_cons (bL (he pins s1 σ H1 _ I1 q1) fun iv s2 ⟨y,H2,I2,ry,q2⟩=>Calls.spliced_cons (bL (hf pins s2 σ H2 _ I2 q2) fun r s3 ⟨z,H3,I3,rz,b,kvs,xs,ep,ks,v,ey,e3,r3,t3,g3,q3⟩=>Calls.spliced_nil ?_))))
 subst ey
 cases (show iv=Value.ref b from ry)
 have dd:=qp I3 e3 r3
 exact call_meetsIn PySem.F.slot_dict_get dd.typeIs PySem.F.entry_dict_get (PySem.F.args_dict_get_3 _ _ _) (meetsH_dict_get_default (tupleKind (intKind X.prog X.w)) a b (cC I3 e3).1 r) ⟨tupleKind_room_in1 (un1 hr),ks,xs,iJ I3 t3,dd,v,H3,I3.tok _,g3 r rz,q3⟩
def HV (go ge gf:DE):DE:=fun L S k=>go L S fun d S1=>match d with
 | .ref a=>(∃ kvs ep,S1 a=some (.gen (.dT kvs ep)))/\ge L S1 fun y S2=>gf L S2 fun z S3=>∃ kvs ep ks,S3 a=some (.gen (.dT kvs ep))/\y=cL ks/\k ((df kvs ks).getD z) S3
 | _=>False
theorem fZ {n:Nat} (hr:cH n X.A) (ho:EJ X o go) (he:EJ X e ge) (hf:EJ X f gf) (m:M2 X o "get" apos e f cpos:=by exact⟨rfl,rfl,rfl,rfl⟩):EJ X (.Call (.Attribute o "get" apos) [e,f] [] cpos) (HV go ge gf):=
 ⟨PE.imp (zU hr ho.h he.h hf.h m) fun σ H Q ⟨L,S,k,hL,hS,h,n⟩=>up.go hL hS h fun d S1 x H1 h1 k1 hL1 hS1 i1=>by
  cases d with
  | ref a=>
   obtain⟨⟨kvs,ep,g1⟩,h1⟩:=h1
   obtain⟨xs,e1,_⟩:=hS1.dT g1
   have ex:=aP.mp i1
   subst ex
   refine⟨a,xs,ep,rfl,e1,up.go hL1 hS1 h1 fun y S2 vy H2 h2 k2 hL2 hS2 i2=>up.go hL2 hS2 h2 fun z S3 vz H3 h3 k3 hL3 hS3 i3=>?_⟩
   obtain⟨kvs,ep,ks,g3,rfl,h3⟩:=h3
   obtain⟨xs,e3,r3⟩:=hS3.dT g3
   obtain⟨b,rfl,t3⟩:=lE.mp (i2.kp k3)
   have kk:=(k1.trans k2).trans k3
   rcases r3.get ks with ⟨z1,z2⟩ | ⟨d,b',w,v,z1,z2,z3,z4⟩
   ·rw [z1] at h3
    exact⟨b,kvs,xs,ep,ks,vz,rfl,e3,r3,t3,fun r q=>by rw [z2]; exact q,n _ _ _ _ h3 kk hS3 i3⟩
   ·rw [z1] at h3
    exact⟨b,kvs,xs,ep,ks,v,rfl,e3,r3,t3,fun r q=>by rw [z2]; exact z3,n _ _ _ _ h3 kk hS3 z4⟩
  | _=>exact(show False from h1).elim⟩
def Fw (K:Fg) (to te:TE):TE:=fun σ H Q=>to σ H fun x H1=>∃ a xs ep,x=.ref a/\H1 a=some (.ext (j7 a xs ep))/\te σ H1 fun y H3=>∃ b kvs xs ep ks v,y=.ref b/\H3 a=some (.ext (j7 a xs ep))/\lA K H3 kvs xs/\ka K H3 b (ks.map V.int)/\aF v (((atKey xs ks).map (·.2)).getD .none)/\Q v H3
theorem A8 {n:Nat} (hr:cH n X.A) (ho:PE X o to) (he:PE X e te) (m:M1 X o "get" apos e cpos):PE X (.Call (.Attribute o "get" apos) [e] [] cpos) (Fw X.K to te):=by
 intro pins s σ H Q I h
 refine wpAny_Call_method m.base m.few m.line PySem.F.plainAttrs_dict PySem.F.slot_dict_get PySem.F.type_dict_get (bL (ho pins s σ H _ I h) fun u s1 ⟨x,H1,I1,rx,a,xs,ep,ex,e1,q1⟩=>?_)
 subst ex
 obtain rfl:u=Value.ref a:=rx
 have g:=(cC I1 e1).2.2.2
 refine⟨⟨_,g,rfl⟩,fun b eb=>by cases eb; exact⟨_,g,rfl⟩,?_⟩
 rw [m.trees]
 refine Calls.callWith_builtin rfl (Calls.evalArgs_plain (Calls.spliced_cons (bL (he pins s1 σ H1 _ I1 q1) fun iv s2 ⟨y,H3,I3,ry,b,kvs,xs,ep,ks,v,ey,e3,r3,t3,g3,q3⟩=>Calls.spliced_nil ?_)))
 subst ey
 cases (show iv=Value.ref b from ry)
 have dd:=qp I3 e3 r3
 exact call_meetsIn PySem.F.slot_dict_get dd.typeIs PySem.F.entry_dict_get (PySem.F.args_dict_get_2 _ _) (meetsH_dict_get (tupleKind (intKind X.prog X.w)) a b (cC I3 e3).1) ⟨tupleKind_room_in1 (un1 hr),ks,xs,iJ I3 t3,dd,v,H3,I3.tok _,g3,q3⟩
def Ix (go ge:DE):DE:=fun L S k=>go L S fun d S1=>match d with
 | .ref a=>(∃ kvs ep,S1 a=some (.gen (.dT kvs ep)))/\ge L S1 fun y S3=>∃ kvs ep ks,S3 a=some (.gen (.dT kvs ep))/\y=cL ks/\k ((df kvs ks).getD .non) S3
 | _=>False
theorem xB {n:Nat} (hr:cH n X.A) (ho:EJ X o go) (he:EJ X e ge) (m:M1 X o "get" apos e cpos:=by exact⟨rfl,rfl,rfl,rfl⟩):EJ X (.Call (.Attribute o "get" apos) [e] [] cpos) (Ix go ge):=
 ⟨PE.imp (A8 hr ho.h he.h m) fun σ H Q ⟨L,S,k,hL,hS,h,n⟩=>up.go hL hS h fun d S1 x H1 h1 k1 hL1 hS1 i1=>by
  cases d with
  | ref a=>
   obtain⟨⟨kvs,ep,g1⟩,h1⟩:=h1
   obtain⟨xs,e1,_⟩:=hS1.dT g1
   have ex:=aP.mp i1
   subst ex
   refine⟨a,xs,ep,rfl,e1,up.go hL1 hS1 h1 fun y S3 vy H3 h3 k2 hL3 hS3 i2=>?_⟩
   obtain⟨kvs,ep,ks,g3,rfl,h3⟩:=h3
   obtain⟨xs,e3,r3⟩:=hS3.dT g3
   obtain⟨b,rfl,t3⟩:=lE.mp i2
   rcases r3.get ks with ⟨z1,z2⟩ | ⟨d,b',w,v,z1,z2,z3,z4⟩
   ·rw [z1] at h3
    exact⟨b,kvs,xs,ep,ks,.non,rfl,e3,r3,t3,by rw [z2]; rfl,n _ _ _ _ h3 (k1.trans k2) hS3 (c8.mpr rfl)⟩
   ·rw [z1] at h3
    exact⟨b,kvs,xs,ep,ks,v,rfl,e3,r3,t3,by rw [z2]; exact z3,n _ _ _ _ h3 (k1.trans k2) hS3 z4⟩
  | _=>exact(show False from h1).elim⟩
def EM:b_:=fun ds S k=>match ds with
 | [.ref a]=>∃ kvs ep,S a=some (.gen (.dT kvs ep))/\k (.int kvs.length) S
 | _=>False
theorem CD:cA X (.builtin "len") (rD X.K EM):=by
 intro pins s σ H xs us Q I rs h
 obtain⟨ds,S,k,i,hS,r,n⟩:=h
 unfold EM at r
 split at r
 ·rename_i a
  obtain⟨kvs,ep,g1,r⟩:=r
  obtain⟨v,rfl,j⟩:=gO i
  have ex:=aP.mp j
  subst ex
  obtain⟨ys,e1,r1⟩:=hS.dT g1
  obtain⟨u,rfl,ru⟩:=j8 rs
  cases (show u=Value.ref a from ru)
  obtain⟨hd,z,_,g⟩:=cC I e1
  have T:s.TypeIs (.ref a) "dict":=⟨_,g,rfl⟩
  have sz:(ys.map eT).toArray.size=kvs.length:=by simp [r1.length]
  have hl:(kvs.length:Int) < 2 ^ 63:=by rw [r1.length]; rw [sizeLine_eq] at z; omega
  refine PyProof.Rows.call_len_slot (n:=kvs.length) T F.slot_dict_len (fun Q' q=>call_meetsIn F.slot_dict_len T F.entry_dict_len (F.args_dict_len_1 _) (Lm a _ ep hd) ⟨g,?_⟩) (by omega) (by omega) ⟨.int kvs.length,H,I.tok _,⟨_,rfl⟩,n _ _ _ _ r (Kp.refl H) hS (isInt.mpr rfl)⟩
  rw [sz]
  exact q
 ·exact r.elim
end
abbrev EA:=Lo->DH->(List (D×D)->DH->Prop)->Prop
def Ab:EA:=fun _ S k=>k [] S
def pP (gk gv:DE) (t:EA):EA:=fun L S k=>gk L S fun x S1=>gv L S1 fun y S2=>t L S2 fun ps S3=>k ((x,y)::ps) S3
abbrev GL (K:Fg) (H:Hp):List (D×D)->List (V×V)->Prop:=Paired fun d p=>bZ K H d.1 p.1/\bZ K H d.2 p.2
def Ka (K:Fg) (t:EA):L2.St->Hp->(List (V×V)->Hp->Prop)->Prop:=fun σ H Q=>∃ L S k,Lc K H L σ/\Hs K H S/\t L S k/\∀ ds S' ps H',k ds S'->Kp H H'->Hs K H' S'->GL K H' ds ps->Q ps H'
structure PJ (X:Cx) (pos:Pos) (keys:List (Option Expr)) (values:List Expr) (t:EA):Prop where
 h:∀ (pins:List (Addr×Obj)) (s:Shared) (σ:L2.St) (H:Hp) (Q:List (V×V)->Hp->Prop),aA X pins σ H s->Ka X.K t σ H Q->
  wpAny (model X.prog X.w) X.A (evalPairs (pairTrees keys values X.env pos)) (fun vs s'=>∃ ps H',aA X pins σ H' s'/\VV ps vs/\Q ps H') X.xe s
section
variable {X:Cx} {pos:Pos}
theorem iQ:PJ X pos [] [] Ab:=⟨fun pins s σ H Q I ⟨L,S,k,hL,hS,h,n⟩=>pairTrees_nil_walk ⟨[],H,I,.nil,n [] S [] H h (Kp.refl H) hS .nil⟩⟩
theorem a_ {a b:Expr} {ks:List (Option Expr)} {vs:List Expr} {ga gb:DE} {t:EA} (ha:EJ X a ga) (hb:EJ X b gb) (hr:PJ X pos ks vs t):PJ X pos (some a::ks) (b::vs) (pP ga gb t):=
 ⟨fun pins s σ H Q I ⟨L,S,k,hL,hS,h,n⟩=>by
  refine pairTrees_cons_walk (bL (ha.h pins s σ H (fun x H1=>up X.K gb σ H1 fun y H2=>Ka X.K t σ H2 fun ps H3=>Q ((x,y)::ps) H3) I ?_) fun u s1 ⟨x,H1,I1,rx,q1⟩=>bL (hb.h pins s1 σ H1 _ I1 q1) fun w2 s2 ⟨y,H2,I2,ry,q2⟩=>
   bL (hr.h pins s2 σ H2 _ I2 q2) fun ws s3 ⟨ps,H3,I3,rel,q3⟩=>⟨(x,y)::ps,H3,I3,.cons ⟨rx,ry⟩ rel,q3⟩)
  exact up.go hL hS h fun d S1 v H1 h1 k1 hL1 hS1 i1=>up.go hL1 hS1 h1 fun e S2 u H2 h2 k2 hL2 hS2 i2=>⟨L,S2,_,hL2,hS2,h2,fun ds S3 ps H3 h3 k3 hS3 i3=>n _ S3 _ H3 h3 ((k1.trans k2).trans k3) hS3 (.cons ⟨i1.kp (k2.trans k3),i2.kp k3⟩ i3)⟩⟩
end
section
variable {prog:Program} {w:World} {A:Around} {E:Value->Shared->Prop} {d:Addr}
theorem rH (hu:A.units < cLine):∀ (vs:List (Value×Value)) (ks acc:List (List Int×Addr×Value)) (s:Shared) (Q:PUnit->Shared->Prop),Paired (fun v k=>v.1=.ref k.2.1/\v.2=k.2.2) vs ks->
  (∀ k∈ks,(tupleKind (intKind prog w)).is s.heap k.1 k.2.1)->s.heap.DictOfH (tupleKind (intKind prog w)) d acc->acc.length+ks.length<=sizeLine->
  (∀ h' tk,h'.DictOfH (tupleKind (intKind prog w)) d (ks.foldl (fun acc k=>storedH acc k.1 k.2.1 k.2.2) acc)->Heap.SameBut d s.heap h'->Q PUnit.unit {s with heap:=h',toks:=tk})->
  wpAny (model prog w) A (forIn vs PUnit.unit fun(x:Value×Value) (_:PUnit)=>(do dictSet d x.1 x.2; pure (ForInStep.yield PUnit.unit):Sem (ForInStep PUnit))) Q E s
 | _,_,acc,s,Q,.nil,_,hm,_,hQ=>by
  rw [List.forIn_nil]
  exact wpAny_pure (hQ s.heap s.toks hm (Heap.SameBut.refl _ _))
 | (_,_)::vs,k::ks,acc,s,Q,.cons h t,hk,hm,hz,hQ=>by
  obtain⟨h1,h2⟩:=h
  simp only at h1 h2
  subst h1 h2
  rw [List.length_cons] at hz
  rw [List.forIn_cons]
  have hl:=iF acc k.1 k.2.1 k.2.2
  refine wpAny_bind (wpAny_bind (wpAny_dictSet_heap (hsz:=by omega) (show (tupleKind (intKind prog w)).room A from hu) (hk k (by simp)) hm fun h1 m1 s1=>wpAny_pure (rH hu vs ks (storedH acc k.1 k.2.1 k.2.2) _ Q t (fun q hq=>?_) m1 (by omega) fun h' tk m' s'=>hQ h' tk m' (s1.trans s'))))
  obtain⟨o,es,ep,g,_,dt,_⟩:=hm
  exact(tupleKind (intKind prog w)).keeps (hk q (by simp [hq])) g dt s1
end
def bw (acc kvs:List (List Int×D)):List (List Int×D):=kvs.foldl (fun acc kv=>iw acc kv.1 kv.2) acc
theorem lA.merge {K:Fg} {H:Hp}:∀ {kvs:List (List Int×D)} {xs:List (List Int×Addr×Value)} {acc:List (List Int×D)} {ys:List (List Int×Addr×Value)},lA K H kvs xs->lA K H acc ys->lA K H (bw acc kvs) (xs.foldl (fun acc k=>storedH acc k.1 k.2.1 k.2.2) ys)
 | _,_,_,_,.nil,r=>r
 | (k,d)::_,x::_,_,_,.cons h t,r=>by
  obtain⟨h1,h2,v,h3,h4⟩:=h
  simp only at h1
  subst h1
  rename_i t1 t2 a b
  exact lA.merge (kvs:=t1) (xs:=t2) (acc:=iw a x.1 d) (ys:=storedH b x.1 x.2.1 x.2.2) t (r.put h2 h3 h4)
theorem n5:∀ (ks acc:List (List Int×Addr×Value)),(ks.foldl (fun acc k=>storedH acc k.1 k.2.1 k.2.2) acc).length<=acc.length+ks.length
 | [],acc=>Nat.le_refl _
 | k::ks,acc=>by
  have h1:=n5 ks (storedH acc k.1 k.2.1 k.2.2)
  have h2:=iF acc k.1 k.2.1 k.2.2
  rw [List.foldl_cons,List.length_cons]
  omega
theorem BJ {K:Fg} {H:Hp}:∀ {kvs:List (List Int×D)} {ps:List (V×V)} {vs:List (Value×Value)},GL K H (kvs.map fun kv=>(cL kv.1,kv.2)) ps->VV ps vs->∃ xs,lA K H kvs xs/\Paired (fun v (k:List Int×Addr×Value)=>v.1=.ref k.2.1/\v.2=k.2.2) vs xs
 | [],_,_,r,q=>by rw [List.map_nil] at r; cases r; cases q; exact⟨[],.nil,.nil⟩
 | kv::kvs,_,_,r,q=>by
  rw [List.map_cons] at r
  cases r with
  | @cons _ p _ _ h t=>
   cases q with
   | @cons _ b _ _ h' t'=>
    obtain⟨xs,a1,a2⟩:=BJ t t'
    obtain⟨c,e,t1⟩:=lE.mp h.1
    have h1:=h'.1
    rw [e] at h1
    exact⟨(kv.1,c,b.2)::xs,.cons ⟨rfl,t1,p.2,h'.2,h.2⟩ a1,.cons ⟨h1,rfl⟩ a2⟩
def GK (K:Fg) (t:L2.St->Hp->(List (V×V)->Hp->Prop)->Prop):TE:=fun σ H Q=>∀ p,H p=none->t σ (bJ H p (.ext (j7 p [] 0))) fun ps H2=>∃ ep,H2 p=some (.ext (j7 p [] ep))/\∃ kvs:List (List Int×D),GL K H2 (kvs.map fun kv=>(cL kv.1,kv.2)) ps/\kvs.length<=15/\
 ∀ xs ep',lA K H2 kvs xs->Q (.ref p) (bJ H2 p (.ext (j7 p (xs.foldl (fun acc k=>storedH acc k.1 k.2.1 k.2.2) []) ep')))
theorem Ba {X:Cx} {pos:Pos} {keys:List (Option Expr)} {values:List Expr} {t:EA} {n:Nat} (hr:cH n X.A) (h:PJ X pos keys values t) (hall:keys.all (·.isSome)=true:=by rfl) (hl:keys.length=values.length:=by rfl) (h0:keys≠[]:=by simp)
  (h15:keys.length<=15:=by decide):PE X (.Dict keys values pos) (GK X.K (Ka X.K t)):=by
 intro pins s σ H Q I q
 have hn:=I.hok.fresh (Nat.le_refl s.heap.objs.size)
 have hlen:=pairTrees_length keys values X.env pos hall hl
 have I1:=I.laid (a:=s.heap.objs.size) (o:=.ext (j7 s.heap.objs.size [] 0)) (h':=s.heap.push {cls:=.type "dict",data:=.dict #[]}) (t':=s.toks) (fun _ _ q=>Heap.get?_push_of_some _ q) (Nat.le_refl _) (oa (rV s.heap I.big))
 rw [arm_eval_Dict,zip_pairTrees keys values X.env pos hall hl,dictDisplay_pairs _ (fun e=>h0 (by rw [e] at hlen; exact List.length_eq_zero_iff.mp hlen.symm)) (by omega)]
 refine wpAny_bind (wpAny_standAt (wpAny_bind ?_))
 unfold subDict
 refine wpAny_bind (wpAny_alloc (wpAny_bind (wpAny_holding ?_)))
 rw [if_pos (by omega)]
 refine wpAny_bind (bL (h.h pins _ σ _ _ I1 (q _ hn)) fun ws s2 ⟨ps,H2,I2,rel,ep,e2,kvs,r2,lk,q2⟩=>wpAny_holding (wpAny_bind ?_))
 obtain⟨xs,rx,rw'⟩:=BJ r2 rel
 have hd:=(cC I2 e2).1
 have hz:xs.length<=15:=by rw [<- rx.length]; exact lk
 refine rH (Nat.lt_of_succ_lt (un1 hr)) ws xs [] s2 _ rw' (fun x hx=>?_) (qp I2 e2 (kvs:=[]) .nil) (by rw [sizeLine_eq,List.length_nil]; omega) fun h' tk dd' hs=>?_
 ·clear rw' hz q2
  clear r2 lk
  induction rx with
  | nil=>exact nomatch hx
  | @cons p q ps qs h t ih=>
   rcases List.mem_cons.mp hx with e | hx
   ·subst e
    rw [<- h.1]
    exact iJ I2 h.2.1
   ·exact ih hx
 ·have z':(xs.foldl (fun acc k=>storedH acc k.1 k.2.1 k.2.2) []).length<=sizeLine:=by have:=n5 xs []; rw [List.length_nil] at this; rw [sizeLine_eq]; omega
  obtain⟨ep',m⟩:=wL hd z' dd'
  exact wpAny_pure (wpAny_pure (wpAny_pure ⟨.ref s.heap.objs.size,_,o0 (t':=tk) I2 (by rw [e2]; exact True.intro) hs ⟨_,m.2.2.2⟩ (oa m),rfl,q2 xs ep' rx⟩))
def zH (t:EA):DE:=fun L S k=>∀ p,S p=none->∀ ep,t L (put S p (.gen (.dT [] ep))) fun ds S2=>∃ ep' kvs,S2 p=some (.gen (.dT [] ep'))/\ds=kvs.map (fun (kv:List Int×D)=>(cL kv.1,kv.2))/\kvs.length<=15/\∀ ep2,k (.ref p) (put S2 p (.gen (.dT (bw [] kvs) ep2)))
theorem fW {X:Cx} {pos:Pos} {keys:List (Option Expr)} {values:List Expr} {t:EA} {n:Nat} (hr:cH n X.A) (h:PJ X pos keys values t) (hall:keys.all (·.isSome)=true:=by rfl) (hl:keys.length=values.length:=by rfl) (h0:keys≠[]:=by simp)
  (h15:keys.length<=15:=by decide):EJ X (.Dict keys values pos) (zH t):=
 ⟨PE.imp (Ba hr h hall hl h0 h15) fun σ H Q ⟨L,S,k,hL,hS,h,n⟩ p hp=>by
  refine⟨L,_,_,hL.kp (Kp.new hp),hS.newG (g:=.dT [] 0) hp ⟨[],bC,.nil⟩,h p (hS.free hp) 0,fun ds S2 ps H2 h2 k2 hS2 i2=>?_⟩
  obtain⟨ep',kvs,g2,rfl,lk,h2⟩:=h2
  obtain⟨ys,e2,r2⟩:=hS2.dT g2
  cases r2
  refine⟨ep',e2,kvs,i2,lk,fun xs ep2 rx=>?_⟩
  have k3:Kp H2 (bJ H2 p (.ext (j7 p (xs.foldl (fun acc k=>storedH acc k.1 k.2.1 k.2.2) []) ep2))):=Kp.mut e2 (fun z=>z)
  exact n _ _ _ _ (h2 ep2) (((Kp.new hp).trans k2).trans k3) (hS2.setG e2 (fun z=>z) ⟨_,bC,(rx.merge .nil).kp k3⟩) (aP.mpr rfl)⟩
end DL
namespace PySem
open Sem (wp)
open Builtin DL
section
variable {prog:Program} {w:World} {A:Around} {E:Value->Shared->Prop}
theorem uk:typeLookup (.type "list") "keys"=pure none:=by rw [typeLookup_type,builtinLookup_eq_fast]; kernel_rfl
theorem zc {a:Addr} {xs:Array Value} {k:Nat} {u:Tok} {s:Shared} {R:Result->Shared->Prop} (hx:s.heap.get? a=some {cls:=.type "list",dict:=none,data:=.seq xs k,slots:=#[]}) (hA:A.handled=none)
  (h:∀ h' tk e,Heap.NewAttrErr s.heap h' e (.ref a) "keys"->R (.error (.ref e)) {s with heap:=h',toks:=tk}):codeAny (model prog w) A (.call (.builtin "list.__getattribute__") ⟨[.ref a,.str "keys" u],[]⟩) R s:=
 have T:s.TypeIs (.ref a) "list":=⟨_,hx,rfl⟩
 codeAny_call_builtin F.slot_list_getattribute.plain am_entry_list_getattribute (F.slot_list_getattribute.check _ _ _ _ _ _ _ _ T (F.args_list_getattribute_2 _ _) (meets_getattribute_miss_list a xs k #[] "keys" _ uk (by decide) (by rw [sizeLine_eq]; decide) prog w A _ _ ⟨hx,hA,h⟩))
theorem zl {a:Addr} {xs:Array Value} {k:Nat} {s:Shared} {Q:Option Value->Shared->Prop} (hx:s.heap.get? a=some {cls:=.type "list",dict:=none,data:=.seq xs k,slots:=#[]}) (hA:A.handled=none)
  (h:∀ h' tk,(∀ b o,s.heap.get? b=some o->h'.get? b=some o)->Q none {s with heap:=h',toks:=tk}):wpAny (model prog w) A (getAttr? (.ref a) "keys") Q E s:=by
 obtain⟨hp,g,d,tk,os⟩:=s
 have hT:∀ tk',(⟨hp,g,d,tk',os⟩:Shared).TypeIs (.ref a) "list":=fun _=>⟨_,hx,rfl⟩
 have c1:=sub_AttributeError
 have c2:=F.slot_list_getattribute.lookup
 have c3:=F.slot_list_getattribute.bind (.ref a)
 have c4:=am_list_getattr_none
 unfold getAttr? getAttrBy? getAttrBy
 repeat (any_goals (first | assumption | exact hT _ | wp_step))
 refine zc (s:=⟨hp,g,d,tk+1,os⟩) hx hA fun h' tk' e ne=>?_
 obtain⟨t',u',he⟩:=ne.there
 have z:=h h' tk' ne.keeps
 show wpAny _ _ (getattributeRaised _ _ _ _ _ _ _) _ _ _
 unfold getattributeRaised
 repeat (any_goals (first | assumption | wp_step))
theorem xE:entryFor table "dict.update.loop"=some Builtin.«dict.update.loop»:=entryFor_of_tree (by kernel_rfl)
theorem o4:plainId "dict.update.loop"=true:=by decide +kernel
theorem y6 {d it l T:Addr} {its:Array Value} {i n:Nat} {key val:Value} {s:Shared} {R:Result->Shared->Prop} {dd:Option Addr} {sl:Array (Option Value)} (hx:its[i]?=some (.ref T)) (st:s.heap.IsListIter it l i) (hl:s.heap.IsList l its)
  (hT:s.heap.get? T=some {cls:=.type "tuple",dict:=dd,data:=.seq #[key,val] n,slots:=sl}) (ne:T≠it)
  (h:∀ h',h'.IsListIter it l (i+1)->Heap.SameBut it s.heap h'->wpAny (model prog w) A.in1 (dictSet d key val) (fun _ s'=>codeAny (model prog w) A (.builtin "dict.update.loop" ⟨[.ref d,.ref it,rawInt ((i:Int)+1),.none],[]⟩) R s') (fun e s'=>R (.error e) s') {s with heap:=h'}):
  codeAny (model prog w) A (.builtin "dict.update.loop" ⟨[.ref d,.ref it,rawInt i,.none],[]⟩) R s:=by
 refine codeAny_builtin xE ?_
 rw [Around.under_plainId o4 _]
 refine wpAny_bind (m:=pyNext (.ref it)) (wpAny_pyNext_list_item st hl hx fun h' st' sb=>?_)
 obtain⟨hp,g,dr,tk,os⟩:=s
 have hT':Heap.get? h' T=some {cls:=.type "tuple",dict:=dd,data:=.seq #[key,val] n,slots:=sl}:=(sb.2 T ne).trans hT
 have z:=h h' st' sb
 refine wpAny_bind (wpAny_holding (wpAny_bind (wpAny_tryCatch ?_)))
 repeat (any_goals (first | assumption | (with_reducible show wpAny _ _ (dictSet _ _ _) _ _ _; refine wpAny_mono z (fun _ s' q=>wpAny_pure ⟨plainId_quiet o4 _,q⟩) fun _ _ q=>q) | wp_step))
abbrev zr (prog:Program) (w:World):HeapKind prog w (List Int):=tupleKind (intKind prog w)
theorem uP {h h':Heap} {d it:Addr} {c:String} {acc:List (List Int×Addr×Value)} (m:h.DictOfH (zr prog w) d acc) (ci:∃ o,h.get? it=some o/\o.cls=.type c) (nt:(Value.type "tuple" == Value.type c)=false) (hd:d≠it)
  (k:∀ b o,b≠it->h.get? b=some o->h'.get? b=some o):h'.DictOfH (zr prog w) d acc:=by
 obtain⟨o,es,ep,g,e1,e2,e3,e4,nd⟩:=m
 refine⟨o,es,ep,k _ _ hd g,e1,e2,e3,fun x hx=>?_,nd⟩
 obtain⟨q,its,n,g1,g2,g3⟩:=e4 x hx
 refine⟨q,its,n,k _ _ (fun z=>?_) g1,g2,g3⟩
 obtain⟨q',y1,y2⟩:=ci
 rw [z,y1] at g1
 cases g1
 rw [y2] at g2
 rw [g2] at nt
 simp at nt
theorem Av {d it l:Addr} {R:Result->Shared->Prop} (hu:A.units+1 < cLine) (hh:A.handled=none) (ts:List (Addr×List Int×Addr×Value)) (hd:d≠it) (hl:l≠it) (hld:l≠d):
  ∀ (k i:Nat) (s:Shared) (acc:List (List Int×Addr×Value)),ts.length - i=k->i<=ts.length->s.heap.IsListIter it l i->s.heap.IsList l (ts.map fun t=>Value.ref t.1).toArray->
  (∀ t∈ts,(∃ dd n sl,s.heap.get? t.1=some {cls:=.type "tuple",dict:=dd,data:=.seq #[.ref t.2.2.1,t.2.2.2] n,slots:=sl})/\(zr prog w).is s.heap t.2.1 t.2.2.1)->
  s.heap.DictOfH (zr prog w) d acc->acc.length+(ts.length - i)<=sizeLine->
  (∀ h' tk,(∀ b o,b≠it->b≠d->s.heap.get? b=some o->h'.get? b=some o)->h'.DictOfH (zr prog w) d ((ts.drop i).foldl (fun acc t=>storedH acc t.2.1 t.2.2.1 t.2.2.2) acc)->R (.ok (.ret .none)) {s with heap:=h',toks:=tk})->
  codeAny (model prog w) A (.builtin "dict.update.loop" ⟨[.ref d,.ref it,rawInt i,.none],[]⟩) R s:=by
 intro k
 induction k with
 | zero=>
  intro i s acc hk hi st hL hts hm hz hR
  have e:i=ts.length:=by omega
  subst e
  refine codeAny_builtin xE ?_
  rw [Around.under_plainId o4 _]
  have ci:∃ o,s.heap.get? it=some o/\o.cls=.type "list_iterator":=let ⟨o,a,b,_⟩:=st; ⟨o,a,b⟩
  refine wpAny_bind (m:=pyNext (.ref it)) (wpAny_pyNext_list_end (A:=A.in1) hh st hL (by simp) fun h' eb=>?_)
  have z:=hR h' s.toks (fun b o n1 _ x=>eb b o n1 x) (by rw [List.drop_length]; exact uP hm ci (by decide) hd eb)
  exact wpAny_bind (wpAny_pure (wpAny_pure z))
 | succ k ih=>
  intro i s acc hk hi st hL hts hm hz hR
  have hlt:i < ts.length:=by omega
  have mem:ts[i]∈ts:=List.getElem_mem hlt
  obtain⟨⟨dd,n,sl,gT⟩,ik⟩:=hts _ mem
  have ci:∃ o,s.heap.get? it=some o/\o.cls=.type "list_iterator":=let ⟨o,a,b,_⟩:=st; ⟨o,a,b⟩
  have cd:∃ o,s.heap.get? d=some o/\o.cls=.type "dict":=let ⟨o,_,_,a,b,_⟩:=hm; ⟨o,a,b.1⟩
  have tni:∀ {b:Addr} {o:Obj},s.heap.get? b=some o->o.cls=.type "tuple"->b≠it:=fun g c z=>by
   obtain⟨q,y1,y2⟩:=ci
   rw [z,y1] at g
   cases g
   rw [y2] at c
   simp at c
  have tnd:∀ {b:Addr} {o:Obj},s.heap.get? b=some o->o.cls=.type "tuple"->b≠d:=fun g c z=>by
   obtain⟨q,y1,y2⟩:=cd
   rw [z,y1] at g
   cases g
   rw [y2] at c
   simp at c
  have hlen:=iF acc ts[i].2.1 ts[i].2.2.1 ts[i].2.2.2
  refine y6 (T:=ts[i].1) (by simp [hlt]) st hL gT (tni gT rfl) fun h1 st1 sb=>?_
  have kk:∀ b o,b≠it->s.heap.get? b=some o->h1.get? b=some o:=fun b o n1 x=>(sb.2 b n1).trans x
  have isk:∀ t∈ts,(zr prog w).is h1 t.2.1 t.2.2.1:=fun t ht=>by
   obtain⟨q,its,m,g1,g2,g3⟩:=(hts t ht).2
   exact⟨q,its,m,kk _ _ (tni g1 g2) g1,g2,g3⟩
  have hm1:h1.DictOfH (zr prog w) d acc:=uP hm ci (by decide) hd kk
  refine wpAny_dictSet_heap (hsz:=by omega) (show (zr prog w).room A.in1 from hu) (isk _ mem) hm1 fun h2 hm2 sb2=>?_
  have e:(rawInt ((i:Int)+1))=rawInt ((i+1:Nat):Int):=rfl
  rw [e]
  have k2:∀ b o,b≠d->h1.get? b=some o->h2.get? b=some o:=fun b o n1 x=>(sb2.2 b n1).trans x
  refine ih (i+1) _ _ (by omega) hlt (st1.at fun o x=>k2 _ _ (Ne.symm hd) x) ((hL.at fun o x=>kk _ _ hl x).at fun o x=>k2 _ _ hld x) (fun t ht=>?_) hm2 (by omega) fun h' tk q1 q2=>?_
  ·obtain⟨⟨dd,n,sl,g⟩,_⟩:=hts t ht
   obtain⟨o,es,ep,g',_,dt,_⟩:=hm1
   exact⟨⟨dd,n,sl,k2 _ _ (tnd g rfl) (kk _ _ (tni g rfl) g)⟩,(zr prog w).keeps (isk t ht) g' dt sb2⟩
  ·refine hR h' tk (fun b o n1 n2 x=>q1 b o n1 n2 (k2 b o n2 (kk b o n1 x))) ?_
   rw [List.drop_eq_getElem_cons hlt,List.foldl_cons]
   exact q2
theorem ql {l:Addr} {s:Shared} {n:Nat} (hu:A.units+2 < cLine) (hh:A.handled=none) (hb:sysModules < s.heap.objs.size) (ts:List (Addr×List Int×Addr×Value)) {Q:Value->Shared->Prop}
  (gl:s.heap.get? l=some {cls:=.type "list",dict:=none,data:=.seq (ts.map fun t=>Value.ref t.1).toArray n,slots:=#[]})
  (hts:∀ t∈ts,(∃ dd n sl,s.heap.get? t.1=some {cls:=.type "tuple",dict:=dd,data:=.seq #[.ref t.2.2.1,t.2.2.2] n,slots:=sl})/\(zr prog w).is s.heap t.2.1 t.2.2.1) (hz:ts.length<=sizeLine)
  (h:∀ h' tk,(∀ b o,s.heap.get? b=some o->h'.get? b=some o)->h'.DictOfH (zr prog w) s.heap.objs.size (ts.foldl (fun acc t=>storedH acc t.2.1 t.2.2.1 t.2.2.2) [])->Q (.ref s.heap.objs.size) {s with heap:=h',toks:=tk}):
  wpAny (model prog w) A (call (.type "dict") [.ref l]) Q E s:=by
 refine callType_codes (Q₁:=fun ob s1=>ob=.ref s.heap.objs.size/\s1={s with heap:=s.heap.push {cls:=.type "dict",data:=.dict #[]}}) F.kt_called_dict (F.kt_typeCall_dict_1 _) F.entry_dict_init (kt_code_dict_new _ ⟨rfl,rfl⟩) ?_
 rintro ob s1 ⟨rfl,rfl⟩
 have hl:l < s.heap.objs.size:=Heap.lt_size gl
 have gl1:(s.heap.push {cls:=.type "dict",data:=.dict #[]}).get? l=some {cls:=.type "list",dict:=none,data:=.seq (ts.map fun t=>Value.ref t.1).toArray n,slots:=#[]}:=Heap.get?_push_of_some _ gl
 have gd1:(s.heap.push {cls:=.type "dict",data:=.dict #[]}).get? s.heap.objs.size=some (lO #[] 0):=Heap.get?_push_size _ rfl
 refine⟨⟨_,gd1,rfl⟩,F.args_dict_init_2 _ _,?_⟩
 generalize hH:s.heap.push {cls:=.type "dict",data:=.dict #[]}=H1 at gl1 gd1
 have kH:∀ b o,s.heap.get? b=some o->H1.get? b=some o:=fun b o x=>by rw [<- hH]; exact Heap.get?_push_of_some _ x
 obtain⟨hp,g,dr,tk,os⟩:=s
 have T1:(⟨H1,g,dr,tk,os⟩:Shared).TypeIs (.ref hp.objs.size) "dict":=⟨_,gd1,rfl⟩
 have hT2:(⟨H1,g,dr,tk,os⟩:Shared).TypeIs (.ref l) "list":=⟨_,gl1,rfl⟩
 refine wpAny_bind (m:=Dict.selfAndRest "__init__" _) ?_
 unfold Dict.selfAndRest
 refine wpAny_bind (wpAny_notOrdered_dict T1 ?_)
 show wpAny _ _ (pure (hp.objs.size,[Value.ref l])) _ _ _
 refine wpAny_pure ?_
 show wpAny _ _ (Dict.updateFrom "dict.__init__" hp.objs.size (.ref l) [] .none) _ _ _
 unfold Dict.updateFrom
 refine wpAny_bind (wpAny_typeOf hT2 ?_)
 rw [if_pos (by decide)]
 refine wpAny_bind (zl (s:=⟨H1,g,dr,tk,os⟩) gl1 hh fun h' tk' kk=>?_)
 rw [if_pos (show (none:Option Value).isNone=true from rfl)]
 refine wpAny_bind (wpAny_rule (wpAny_bind ?_))
 have gl2:=kk _ _ gl1
 have gd2:=kk _ _ gd1
 have iL:h'.IsList l (ts.map fun t=>Value.ref t.1).toArray:=⟨_,gl2,rfl,_,rfl⟩
 refine wpAny_pyIter_list (s:=⟨h',g,dr,tk',os⟩) iL (wpAny_pure ⟨plainId_quiet o4 _,?_⟩)
 have z1:hp.objs.size < h'.objs.size:=Heap.lt_size gd2
 refine Av (A:=A.in1) (by show A.units+1+1 < cLine; omega) hh ts (Nat.ne_of_lt z1) (Nat.ne_of_lt (Nat.lt_trans hl z1)) (Nat.ne_of_lt hl) ts.length 0 ⟨h'.push {cls:=.type "list_iterator",data:=.fields #[.ref l,.int 0 0]},g,dr,tk',os⟩ [] rfl (Nat.zero_le _) ⟨_,Heap.get?_push_size _ rfl,rfl,rfl⟩ (iL.push _) (fun t ht=>?_) ?_ (by rw [List.length_nil]; omega) fun h2 tk2 q1 q2=>⟨rfl,h h2 tk2 (fun b o x=>?_) q2⟩
 ·obtain⟨⟨dd,n',sl,g1⟩,o,its,m,g2,g3⟩:=hts t ht
  have up:∀ b o,hp.get? b=some o->(h'.push {cls:=.type "list_iterator",data:=.fields #[.ref l,.int 0 0]}).get? b=some o:=fun b o x=>Heap.get?_push_of_some _ (kk _ _ (kH _ _ x))
  exact⟨⟨dd,n',sl,up _ _ g1⟩,o,its,m,up _ _ g2,g3⟩
 ·exact⟨_,#[],0,Heap.get?_push_of_some _ gd2,⟨rfl,rfl,rfl⟩,rfl,rfl,(by intro x hx; simp at hx),List.nodup_nil⟩
 ·have b1:b < hp.objs.size:=Heap.lt_size x
  exact q1 b o (Nat.ne_of_lt (Nat.lt_trans b1 z1)) (Nat.ne_of_lt b1) (Heap.get?_push_of_some _ (kk _ _ (kH _ _ x)))
theorem uS (c:Int):∀ l:List DictEntry,(l.map (·.hash)).Nodup->(l.filter (·.hash == c)).length<=1
 | [],_=>Nat.zero_le _
 | e::l,h=>by
  rw [List.map_cons,List.nodup_cons] at h
  rw [List.filter_cons]
  by_cases q:(e.hash == c)=true
  ·rw [if_pos q]
   have z:l.filter (·.hash == c)=[]:=by
    rw [List.filter_eq_nil_iff]
    intro x hx y
    refine h.1 (List.mem_map.mpr ⟨x,hx,?_⟩)
    simp only [beq_iff_eq] at q y
    rw [q,y]
   rw [z]
   exact Nat.le_refl _
  ·rw [if_neg q]
   exact uS c l h.2
theorem sT {id:String} {o:Addr} {es:Array DictEntry} {ep:Nat} {s:Shared} {Q:Array DictEntry->Shared->Prop} (g:s.heap.get? o=some (lO es ep)) (hk:∀ e∈es.toList,∃ b q,e.key=.ref b/\s.heap.get? b=some q/\q.cls=.type "tuple") (hn:(es.toList.map (·.hash)).Nodup) (h:Q es s):
  wpAny (model prog w) A (Dict.entriesForEmpty id o) Q E s:=by
 unfold Dict.entriesForEmpty
 refine wpAny_bind (wpAny_dictEntries g rfl ?_)
 refine wpAny_bind ?_
 rw [<- Array.forIn_toList]
 refine wpAny_forIn_list _ (fun ao _ s'=>s'=s/\∀ e∈ao,e∈es.toList) _ ?_ ?_ es.toList _ ⟨rfl,fun e he=>he⟩
 ·rintro e ao _ s' ⟨rfl,hr⟩
  have me:=hr e (by simp)
  obtain⟨b,q,kb,gb,cb⟩:=hk e me
  have one:¬ (es.filter (·.hash == e.hash)).size > 1:=by
   have z:=uS e.hash es.toList hn
   rw [<- Array.length_toList,Array.toList_filter]
   omega
  rw [kb]
  have T:s'.TypeIs (.ref b) "tuple":=⟨q,gb,cb⟩
  refine wpAny_bind (wpAny_bind (wpAny_specialOf T F.slot_tuple_eq.lookup (wpAny_pure ?_)))
  rw [if_pos (by decide),if_neg one]
  exact wpAny_pure ⟨rfl,fun x hx=>hr x (by simp [hx])⟩
 ·rintro _ s' ⟨rfl,_⟩
  exact wpAny_pure h
theorem Bx {d o:Addr} {es:Array DictEntry} {ep:Nat} {s:Shared} {Q:Unit->Shared->Prop} (ne:d≠o) (ho:(o == sysModules)=false) (gd:s.heap.get? d=some (lO #[] 0)) (go:s.heap.get? o=some (lO es ep))
  (hk:∀ e∈es.toList,∃ b q,e.key=.ref b/\s.heap.get? b=some q/\q.cls=.type "tuple") (hn:(es.toList.map (·.hash)).Nodup) (hz:es.size<=sizeLine) (h:∀ h' ep',h'.get? d=some (lO es ep')->Heap.SameBut d s.heap h'->Q () {s with heap:=h'}):
  wpAny (model prog w) A (Dict.mergeDict "dict.__init__" d o) Q E s:=by
 have nb:(d == o)=false:=by simpa using ne
 unfold Dict.mergeDict Dict.showsAll
 rw [if_neg (by rw [nb]; exact Bool.false_ne_true),if_neg (by rw [ho]; exact Bool.false_ne_true)]
 refine wpAny_bind (wpAny_pure (wpAny_bind (wpAny_dictEntries go rfl ?_)))
 cases hes:es.toList with
 | nil=>
  have e0:es=#[]:=by cases es; simp at hes; rw [hes]
  subst e0
  have z:=h s.heap 0 gd (Heap.SameBut.refl _ _)
  dsimp only
  rw [if_neg (by simp)]
  refine wpAny_bind (wpAny_dictEpoch go rfl (wpAny_bind (wpAny_dictEntries go rfl ?_)))
  rw [Std.Legacy.Range.forIn_eq_forIn_range']
  exact wpAny_bind (wpAny_pure (wpAny_pure z))
 | cons e r=>
  obtain⟨b,q,kb,gb,cb⟩:=hk e (by rw [hes]; simp)
  have few:(es.size<=8 && es.all fun e=>(keyPart e.key).isSome)=false:=by
   have:(es.all fun e=>(keyPart e.key).isSome)=false:=by
    rw [<- Array.all_toList,hes,List.all_cons,kb]
    rfl
   rw [this,Bool.and_false]
  dsimp only
  rw [if_pos (by rw [few]; rfl)]
  refine wpAny_bind (wpAny_dictEntries gd rfl ?_)
  rw [if_pos (by rfl)]
  refine wpAny_bind (sT go (by rw [hes]; rw [hes] at hk; exact hk) hn ?_)
  have ne0:(!es.isEmpty)=true:=by
   cases es
   simp at hes
   rw [hes]
   rfl
  rw [if_pos ne0]
  have up:(s.heap.update d (Obj.mapDictKeys fun _=>es)).get? d=_:=Heap.get?_update_self (Obj.mapDictKeys fun _=>es) gd rfl
  refine wpAny_bind (wpAny_updateDictKeysTo gd rfl ?_ (Nat.le_succ_of_le hz))
  exact wpAny_pure (h _ _ up (Heap.SameBut.update ..))
theorem pJ {o:Addr} {es:Array DictEntry} {ep:Nat} {s:Shared} {Q:Value->Shared->Prop} (ho:(o == sysModules)=false) (go:s.heap.get? o=some (lO es ep))
  (hk:∀ e∈es.toList,∃ b q,e.key=.ref b/\s.heap.get? b=some q/\q.cls=.type "tuple") (hn:(es.toList.map (·.hash)).Nodup) (hz:es.size<=sizeLine)
  (h:∀ h' ep',h'.get? s.heap.objs.size=some (lO es ep')->(∀ b q,s.heap.get? b=some q->h'.get? b=some q)->Q (.ref s.heap.objs.size) {s with heap:=h'}):wpAny (model prog w) A (call (.type "dict") [.ref o]) Q E s:=by
 refine callType_codes (Q₁:=fun ob s1=>ob=.ref s.heap.objs.size/\s1={s with heap:=s.heap.push {cls:=.type "dict",data:=.dict #[]}}) F.kt_called_dict (F.kt_typeCall_dict_1 _) F.entry_dict_init (kt_code_dict_new _ ⟨rfl,rfl⟩) ?_
 rintro ob s1 ⟨rfl,rfl⟩
 have lo:o < s.heap.objs.size:=Heap.lt_size go
 have go1:=Heap.get?_push_of_some {cls:=.type "dict",data:=.dict #[]} go
 have gd1:(s.heap.push {cls:=.type "dict",data:=.dict #[]}).get? s.heap.objs.size=some (lO #[] 0):=Heap.get?_push_size _ rfl
 have T1:({s with heap:=s.heap.push {cls:=.type "dict",data:=.dict #[]}}:Shared).TypeIs (.ref s.heap.objs.size) "dict":=⟨_,gd1,rfl⟩
 have T2:({s with heap:=s.heap.push {cls:=.type "dict",data:=.dict #[]}}:Shared).TypeIs (.ref o) "dict":=⟨_,go1,rfl⟩
 refine⟨T1,F.args_dict_init_2 _ _,wpAny_bind (m:=Dict.selfAndRest "__init__" _) ?_⟩
 unfold Dict.selfAndRest
 refine wpAny_bind (wpAny_notOrdered_dict T1 (wpAny_pure (a:=(s.heap.objs.size,[Value.ref o])) ?_))
 show wpAny _ _ (Dict.updateFrom "dict.__init__" s.heap.objs.size (.ref o) [] .none) _ _ _
 unfold Dict.updateFrom
 refine wpAny_bind (wpAny_typeOf T2 ?_)
 rw [if_neg (by decide)]
 refine wpAny_bind ?_
 unfold Dict.merge
 refine wpAny_bind ?_
 unfold Dict.readDirectly
 refine wpAny_bind (wpAny_isInstance T2 isSubtype_dict_dict ?_)
 rw [if_neg (by decide)]
 refine wpAny_bind (wpAny_specialOf T2 F.slot_dict_iter.lookup (wpAny_pure ?_))
 rw [if_pos (by decide)]
 refine wpAny_bind (wpAny_pure (Bx (Nat.ne_of_gt lo) ho gd1 go1 (fun e he=>?_) hn hz fun h' ep' g sb=>?_))
 ·obtain⟨b,q,x1,x2,x3⟩:=hk e he
  exact⟨b,q,x1,Heap.get?_push_of_some _ x2,x3⟩
 ·exact wpAny_bind (wpAny_pure (wpAny_pure ⟨rfl,h h' ep' g fun b q x=>(sb.2 b (Nat.ne_of_lt (Heap.lt_size x))).trans (Heap.get?_push_of_some _ x)⟩))
end
section
variable {prog:Program} {w:World} {A:Around} {E:Value->Shared->Prop}
theorem IM (p q:Addr) (a b c d:Int) (t1 t2 t3 t4:Tok) (n n':Nat) (dd dd':Option Addr) (sl sl':Array (Option Value)):
  MeetsIn prog w (Builtin.«tuple.__gt__» ⟨[.ref p,.ref q],[]⟩) (fun A R s=>A.units+1 < cLine/\s.heap.get? p=some ⟨.type "tuple",dd,.seq #[.int a t1,.int b t2] n,sl⟩/\s.heap.get? q=some ⟨.type "tuple",dd',.seq #[.int c t3,.int d t4] n',sl'⟩/\
   R (.ok (.ret (.bool (decide (c < a) || (decide (a=c) && decide (d < b)))))) s):=
 .of_wp fun A R s h=>by
  obtain⟨hp,g,dr,tk,os⟩:=s
  obtain⟨hu,h1,h2,h⟩:=h
  have f:=AutoSeq1.sub_tuple_tuple
  have stp:∀ {x y:Int} {u v:Tok} {Q:Bool->Shared->Prop} {s:Shared},Q (x == y) s->wpAny (model prog w) A.in1 (eqBool (.int x u) (.int y v)) Q (fun e s'=>R (.error e) s') s:=fun h=>wpAny_eqBool_int h
  have gtp:∀ {x y:Int} {u v:Tok} {Q:Value->Shared->Prop} {s:Shared},Q (.bool (decide (y < x))) s->wpAny (model prog w) A.in1 (richCompare .Gt (.int x u) (.int y v)) Q (fun e s'=>R (.error e) s') s:=fun h=>PyProof.Rows.gt_int h
  by_cases e1:a=c
  ·subst e1
   by_cases e2:b=d
   ·subst e2
    repeat (any_goals (first | assumption | (with_reducible refine stp ?_) | (with_reducible refine gtp ?_) | wp_step))
    refine⟨_,rfl,?_⟩
    simp only [Int.lt_irrefl,decide_false,Bool.and_false,Bool.or_false] at h
    exact h
   ·have e3:(b == d)=false:=by simpa using e2
    repeat (any_goals (first | assumption | (with_reducible refine stp ?_) | (with_reducible refine gtp ?_) | wp_step))
    refine⟨_,rfl,?_⟩
    simp only [Int.lt_irrefl,decide_false,Bool.false_or,decide_true,Bool.true_and] at h
    exact h
  ·have e3:(a == c)=false:=by simpa using e1
   repeat (any_goals (first | assumption | (with_reducible refine stp ?_) | (with_reducible refine gtp ?_) | wp_step))
   refine⟨_,rfl,?_⟩
   simp only [decide_eq_false e1,Bool.false_and,Bool.or_false] at h
   exact h
theorem CN {I S:Addr} {fp wr:List Addr} {n:Nat} {P:Nat->Value->Prop} {St:Nat->Heap->Prop} {R:Result->Shared->Prop} (W:Walks prog w A.in1 I fp wr n P St) (bt:Nat->Nat->Bool) (Φ:Heap->Prop) (hS:S∉fp)
  (kΦ:∀ h h',Φ h->(∀ b o,b∉wr->b≠S->h.get? b=some o->h'.get? b=some o)->Φ h')
  (cmp:∀ i j u v (s:Shared) (Q:Value->Shared->Prop) (E:Value->Shared->Prop),Φ s.heap->P i u->P j v->Q (.bool (bt i j)) s->wpAny (model prog w) A.in1 (richCompare .Gt u v) Q E s):
  ∀ (k j:Nat) (s:Shared) (vb:Value) (c:Nat),n - (j+1)=k->j+1<=n->Φ s.heap->St (j+1) s.heap->P (argBest bt j) vb->s.heap.get? S=some {cls:=.type "list",dict:=none,data:=.seq #[vb,vb] c,slots:=#[]}->
  (∀ v h' tk,P (argBest bt (n - 1)) v->(∀ b o,b∉wr->b≠S->s.heap.get? b=some o->h'.get? b=some o)->R (.ok (.ret v)) {s with heap:=h',toks:=tk})->codeAny (model prog w) A (.builtin "max.loop" ⟨[.ref I,.none,.ref S],[]⟩) R s:=by
 have nw:S∉wr:=fun z=>hS (W.sub _ z)
 have nm:((toString "max"++toString ".loop":String))="max.loop":=by decide
 intro k
 induction k with
 | zero=>
  intro j s vb c hk hj ph st pb gS fin
  have ej:n=j+1:=by omega
  refine codeAny_builtin F.entry_max_loop ?_
  rw [Around.under_plainId F.plain_max_loop _]
  refine wpAny_bind (m:=seqItems? (.ref S)) (wpAny_seqItems gS rfl (wpAny_bind (wpAny_tryCatch (m:=pyNext (.ref I)) (W.done s _ _ (by rw [ej]; exact st) fun h' tk far=>?_))))
  have g1:=far S _ nw gS
  refine wpAny_bind (m:=updateSeq S fun _=>#[]) (wpAny_updateSeq g1 rfl (wpAny_bind (wpAny_letGo (wpAny_pure (fin vb _ tk (by rw [ej]; exact pb) fun b o n1 n2 x=>?_)))))
  exact(Heap.get?_update_other _ _ (Ne.symm n2)).trans (far b o n1 x)
 | succ k ih=>
  intro j s vb c hk hj ph st pb gS fin
  have lt:j+1 < n:=by omega
  refine codeAny_builtin F.entry_max_loop ?_
  rw [Around.under_plainId F.plain_max_loop _]
  refine wpAny_bind (m:=seqItems? (.ref S)) (wpAny_seqItems gS rfl (wpAny_bind (wpAny_tryCatch (m:=pyNext (.ref I)) (W.item (j+1) s _ _ lt st fun v h' tk pv st1 far=>?_))))
  have g1:=far S _ nw gS
  have ph1:=kΦ _ _ ph fun b o n1 _ x=>far b o n1 x
  refine wpAny_bind (wpAny_pure (wpAny_bind (wpAny_tryCatch (wpAny_holding (wpAny_bind (m:=richCompare .Gt v vb) (cmp (j+1) (argBest bt j) v vb _ _ _ ph1 pv pb (wpAny_bind (wpAny_holding (wpAny_truthy_bool (wpAny_bind (wpAny_letGo (wpAny_pure ?_))))))))))))
  by_cases hb:bt (j+1) (argBest bt j)=true
  ·rw [hb,if_pos rfl]
   refine wpAny_bind (m:=updateSeq S fun _=>#[v,v]) (wpAny_updateSeq g1 rfl (wpAny_bind (wpAny_letGo ?_)))
   have oth:∀ b o,b≠S->h'.get? b=some o->(h'.update S (Obj.mapSeq fun _=>#[v,v])).get? b=some o:=fun b o n2 x=>(Heap.get?_update_other _ _ (Ne.symm n2)).trans x
   rw [nm]
   refine wpAny_pure ⟨plainId_quiet F.plain_max_loop _,ih (j+1) _ v _ (by omega) lt (kΦ _ _ ph1 fun b o _ n2 x=>oth b o n2 x) (W.frame _ _ _ st1 fun b hb' o x=>oth b o (fun z=>hS (z▸hb')) x) (by unfold argBest; rw [hb,if_pos rfl]; exact pv) (Heap.get?_update_self _ g1 rfl) fun u h2 tk2 pu far2=>?_⟩
   exact fin u h2 tk2 pu fun b o n1 n2 x=>far2 b o n1 n2 (oth b o n2 (far b o n1 x))
  ·have hb':bt (j+1) (argBest bt j)=false:=by simpa using hb
   rw [hb',if_neg Bool.false_ne_true]
   refine wpAny_bind (wpAny_letGo ?_)
   rw [nm]
   refine wpAny_pure ⟨plainId_quiet F.plain_max_loop _,ih (j+1) _ vb c (by omega) lt ph1 st1 (by unfold argBest; rw [hb',if_neg Bool.false_ne_true]; exact pb) g1 fun u h2 tk2 pu far2=>?_⟩
   exact fin u h2 tk2 pu fun b o n1 n2 x=>far2 b o n1 n2 (far b o n1 x)
theorem Dh {x:Value} {s:Shared} {Q:Value->Shared->Prop} (h:wpAny (model prog w) A.in1 (pyIter x) (fun it s2=>∃ I fp wr n P St bt,∃ Φ:Heap->Prop,it=.ref I/\Walks prog w A.in1 I fp wr n P St/\St 0 s2.heap/\(∀ b∈fp,b < s2.heap.objs.size)/\0 < n/\Φ s2.heap/\
   (∀ S,s2.heap.objs.size<=S->∀ h h',Φ h->(∀ b o,b∉wr->b≠S->h.get? b=some o->h'.get? b=some o)->Φ h')/\
   (∀ i j u v (s:Shared) (Q:Value->Shared->Prop) (E:Value->Shared->Prop),Φ s.heap->P i u->P j v->Q (.bool (bt i j)) s->wpAny (model prog w) A.in1 (richCompare .Gt u v) Q E s)/\
   ∀ v h' tk,P (argBest bt (n - 1)) v->(∀ b o,b∉wr->s2.heap.get? b=some o->h'.get? b=some o)->Q v {s2 with heap:=h',toks:=tk}) E s):wpAny (model prog w) A (call (.builtin "max") [x]) Q E s:=by
 have nm:((toString "max"++toString ".loop":String))="max.loop":=by decide
 refine call_function_tree F.kind_max F.plain_max F.entry_max (F.args_max1 _) (wpAny_bind (m:=Builtin.Builtins.bindParams "max" ["key","default"] 0 ⟨[],[]⟩) (wpAny_of_eq (a:=[none,none]) rfl (wpAny_bind (wpAny_pure (wpAny_bind (wpAny_mono h (fun it s2 h2=>?_) fun _ _ e=>e))))))
 obtain⟨I,fp,wr,n,P,St,bt,Φ,rfl,W,st,below,n0,ph,kΦ,cmp,fin⟩:=h2
 refine wpAny_bind (wpAny_newObj_type ?_)
 have hS:s2.heap.objs.size∉fp:=fun m=>Nat.lt_irrefl _ (below _ m)
 have nw:s2.heap.objs.size∉wr:=fun m=>hS (W.sub _ m)
 have kp:∀ b o,s2.heap.get? b=some o->(s2.heap.push {cls:=.type "list",data:=.seq #[]}).get? b=some o:=fun b o x=>Heap.get?_push_of_some _ x
 have gS:(s2.heap.push {cls:=.type "list",data:=.seq #[]}).get? s2.heap.objs.size=some {cls:=.type "list",dict:=none,data:=.seq #[] 0,slots:=#[]}:=Heap.get?_push_size _ rfl
 have ph0:=kΦ _ (Nat.le_refl _) _ _ ph fun b o _ _ x=>kp b o x
 have st0:=W.frame 0 _ _ st fun b _ o x=>kp b o x
 rw [nm]
 refine wpAny_pure ⟨plainId_quiet F.plain_max_loop _,codeAny_builtin F.entry_max_loop ?_⟩
 rw [Around.under_plainId F.plain_max_loop _]
 refine wpAny_bind (m:=seqItems? (.ref s2.heap.objs.size)) (wpAny_seqItems gS rfl (wpAny_bind (wpAny_tryCatch (m:=pyNext (.ref I)) (W.item 0 _ _ _ n0 st0 fun v h' tk pv st1 far=>?_))))
 have g1:=far _ _ nw gS
 have ph1:=kΦ _ (Nat.le_refl _) _ _ ph0 fun b o n1 _ x=>far b o n1 x
 have oth:∀ b o,b≠s2.heap.objs.size->h'.get? b=some o->(h'.update s2.heap.objs.size (Obj.mapSeq fun _=>#[v,v])).get? b=some o:=fun b o n2 x=>(Heap.get?_update_other _ _ (Ne.symm n2)).trans x
 refine wpAny_bind (wpAny_pure (wpAny_bind (m:=updateSeq s2.heap.objs.size fun _=>#[v,v]) (wpAny_updateSeq g1 rfl ?_)))
 rw [nm]
 refine wpAny_pure ⟨plainId_quiet F.plain_max_loop _,CN W bt Φ hS (kΦ _ (Nat.le_refl _)) cmp _ 0 _ v _ rfl n0 (kΦ _ (Nat.le_refl _) _ _ ph1 fun b o _ n2 x=>oth b o n2 x) (W.frame _ _ _ st1 fun b hb o x=>oth b o (fun z=>hS (z▸hb)) x) pv (Heap.get?_update_self _ g1 rfl) fun u h2 tk2 pu far2=>?_⟩
 exact fin u h2 tk2 pu fun b o n1 x=>by
  have nb:b≠s2.heap.objs.size:=Nat.ne_of_lt (Heap.lt_size x)
  exact far2 b o n1 nb (oth b o nb (far b o n1 (kp b o x)))
theorem uW (c:qB) (hh:A.handled=none) (I d:Addr) (ne:d≠I) (es:Array DictEntry) (ep:Nat):Walks prog w A I [I,d] [I] es.size (fun i v=>∃ e,es[i]?=some e/\v=qB.of e c) (fun i h=>h.get? I=some (rL c.nm d i es.size ep)/\h.get? d=some (lO es ep)) where
 sub:=fun b hb=>by simp at hb; simp [hb]
 frame:=fun _ _ _ st k=>⟨k I (by simp) _ st.1,k d (by simp) _ st.2⟩
 item:=fun i s Q E hi st fin=>xi c (e:=es[i]) st.1 st.2 (by simp [hi]) fun h' a k=>fin _ h' s.toks ⟨es[i],by simp [hi],rfl⟩ ⟨a,k _ _ ne st.2⟩ fun b o hb x=>k b o (fun z=>hb (by simp [z])) x
 done:=fun s Q E st fin=>uD c hh st.1 st.2 (by simp) fun h' k=>fin h' s.toks fun b o hb x=>k b o (fun z=>hb (by simp [z])) x
 self:=fun _ _ _ _ st q=>xf c st.1 q
end
end PySem
namespace DL
open PySem PySem.Spec PyProof.Rows L2
theorem rX {X:Cx} {pins:List (Addr×Obj)} {σ:L2.St} {H:Hp} {s:Shared} (I:aA X pins σ H s):∀ {kvs:List (List Int×D)} {xs:List V} {us:List Value},IsDs X.K H (dL kvs) xs->aL xs us->
  ∃ ts:List (Addr×List Int×Addr×Value),us=ts.map (fun t=>Value.ref t.1)/\lA X.K H kvs (ts.map (·.2))/\
   ∀ t∈ts,(∃ dd n sl,s.heap.get? t.1=some {cls:=.type "tuple",dict:=dd,data:=.seq #[.ref t.2.2.1,t.2.2.2] n,slots:=sl})/\(zr X.prog X.w).is s.heap t.2.1 t.2.2.1
 | [],xs,us,i,r=>by
  have e:xs=[]:=iI.mp i
  subst e
  cases r
  exact⟨[],rfl,.nil,fun t ht=>nomatch ht⟩
 | kv::kvs,xs,us,i,r=>by
  obtain⟨v,vs,rfl,h1,h2⟩:=cD.mp (show IsDs X.K H (.tup [cL kv.1,kv.2]::dL kvs) xs from i)
  cases r with
  | @cons _ u _ us r1 r2=>
   obtain⟨ts,e,q1,q2⟩:=rX I h2 r2
   obtain⟨T,ys,rfl,t1,j⟩:=cz.mp h1
   obtain⟨y1,y2,rfl,j1,j2⟩:=uV j
   obtain⟨b,rfl,tb⟩:=lE.mp j1
   cases (show u=Value.ref T from r1)
   obtain⟨its,rv,⟨⟨cls,dd,data,sl⟩,g1,g2,n,g3⟩,_⟩:=I.tuple t1
   obtain⟨w1,w2,rfl,rw1,rw2⟩:=xL rv
   cases (show w1=Value.ref b from rw1)
   simp only at g2 g3
   subst g2 g3
   refine⟨(T,kv.1,b,w2)::ts,by rw [e]; rfl,.cons ⟨rfl,tb,y2,rw2,j2⟩ q1,fun t ht=>?_⟩
   rcases List.mem_cons.mp ht with e2 | ht2
   ·subst e2
    exact⟨⟨dd,n,sl,g1⟩,iJ I tb⟩
   ·exact q2 t ht2
theorem ze (ts:List (Addr×List Int×Addr×Value)):∀ acc,ts.foldl (fun acc t=>storedH acc t.2.1 t.2.2.1 t.2.2.2) acc=(ts.map (·.2)).foldl (fun acc k=>storedH acc k.1 k.2.1 k.2.2) acc:=by
 induction ts with
 | nil=>intro acc; rfl
 | cons t ts ih=>intro acc; exact ih _
def EQ:b_:=fun ds S k=>match ds with
 | [.ref a]=>(∃ kvs ep,S a=some (.gen (.dT kvs ep))/\(kvs.map fun p=>jZ p.1).Nodup/\∀ p,S p=none->∀ ep',k (.ref p) (put S p (.gen (.dT kvs ep'))))\/
   ∃ kvs,S a=some (.lst (dL kvs))/\∀ p,S p=none->∀ ep',k (.ref p) (put S p (.gen (.dT (bw [] kvs) ep')))
 | _=>False
theorem Af {X:Cx} {n:Nat} (hr:cH n X.A):cA X (.type "dict") (rD X.K EQ):=by
 intro pins s σ H xs us Q I rs h
 obtain⟨ds,S,k,i,hS,r,m⟩:=h
 unfold EQ at r
 split at r
 ·rename_i a
  obtain⟨v,rfl,j⟩:=gO i
  have ex:=aP.mp j
  subst ex
  obtain⟨u,rfl,ru⟩:=j8 rs
  cases (show u=Value.ref a from ru)
  have hn:=I.hok.fresh (Nat.le_refl s.heap.objs.size)
  have hb:(s.heap.objs.size == sysModules)=false:=beq_eq_false_iff_ne.mpr (Ne.symm (Nat.ne_of_lt I.big))
  have hun:=hr.un
  rcases r with ⟨kvs,ep,g1,nd,r⟩ | ⟨kvs,g1,r⟩
  ·obtain⟨ys,e1,r1⟩:=hS.dT g1
   obtain⟨hd,z,ndk,g⟩:=cC I e1
   have hash:(ys.map fun y=>jZ y.1)=kvs.map fun p=>jZ p.1:=by
    clear e1 z ndk g nd g1 r
    induction r1 with
    | nil=>rfl
    | cons h t ih=>exact congr (congrArg List.cons (congrArg jZ h.1.symm)) ih
   refine pJ hd g (fun e he=>?_) ?_ (by simp; omega) fun h' ep' g' kk=>?_
   ·simp only [List.mem_map] at he
    obtain⟨y,hy,rfl⟩:=he
    have dd:=qp I e1 r1
    obtain⟨_,_,_,_,_,_,_,al,_⟩:=dd
    obtain⟨q,its,n',q1,q2,_⟩:=al y hy
    exact⟨y.2.1,q,rfl,q1,q2⟩
   ·show((ys.map eT).map (·.hash)).Nodup
    rw [List.map_map,show((fun x:DictEntry=>x.hash) ∘ eT)=fun y:List Int×Addr×Value=>jZ y.1 from rfl,hash]
    exact nd
   ·have new:j7 s.heap.objs.size ys ep' h':=⟨hb,z,ndk,g'⟩
    refine⟨.ref s.heap.objs.size,_,I.laid (o:=.ext (j7 s.heap.objs.size ys ep')) (t':=s.toks) kk (Nat.le_refl _) (oa new),rfl,?_⟩
    exact m _ _ _ _ (r _ (hS.free hn) ep') (Kp.new hn) (hS.newG hn ⟨ys,bC,r1.kp (Kp.new hn)⟩) (aP.mpr rfl)
  ·obtain⟨vs,hl,jl⟩:=hS.lst g1
   obtain⟨z,its,c,rv,gl⟩:=(show dE X.prog X.w H s.heap a (.lst vs) from I.hok a _ hl)
   obtain⟨ts,rfl,q1,q2⟩:=rX I jl rv
   have hz:ts.length<=sizeLine:=by
    have:=rv.length
    rw [List.length_map] at this
    omega
   refine ql (by omega) hr.hd I.big ts gl q2 hz fun h' tk kk dd=>?_
   rw [ze] at dd
   have z':((ts.map (·.2)).foldl (fun acc k=>storedH acc k.1 k.2.1 k.2.2) []).length<=sizeLine:=by have:=n5 (ts.map (·.2)) []; rw [List.length_map,List.length_nil] at this; omega
   obtain⟨ep',new⟩:=wL hb z' dd
   refine⟨.ref s.heap.objs.size,_,I.laid (o:=.ext (j7 s.heap.objs.size _ ep')) (t':=tk) kk (Nat.le_refl _) (oa new),rfl,?_⟩
   exact m _ _ _ _ (r _ (hS.free hn) ep') (Kp.new hn) (hS.newG hn ⟨_,bC,(q1.merge .nil).kp (Kp.new hn)⟩) (aP.mpr rfl)
 ·exact r.elim
def sX:List Int->List Int->Bool
 | [a,b],[c,d]=>decide (c < a) || (decide (a=c) && decide (d < b))
 | _,_=>false
theorem wW (key:Nat->List Int) (h2:∀ i,∃ a b,key i=[a,b]):∀ k,argBest (fun i j=>sX (key i) (key j)) k<=k/\∀ i,i<=k->sX (key i) (key (argBest (fun i j=>sX (key i) (key j)) k))=false
 | 0=>⟨Nat.le_refl _,fun i h=>by
   have:i=0:=by omega
   subst this
   obtain⟨a,b,e⟩:=h2 0
   show sX (key 0) (key 0)=false
   rw [e]
   simp [sX]⟩
 | k+1=>by
  obtain⟨b1,b2⟩:=wW key h2 k
  obtain⟨a,b,e1⟩:=h2 (k+1)
  obtain⟨c,d,e2⟩:=h2 (argBest (fun i j=>sX (key i) (key j)) k)
  unfold argBest
  by_cases h:sX (key (k+1)) (key (argBest (fun i j=>sX (key i) (key j)) k))=true
  ·rw [if_pos h]
   refine⟨Nat.le_refl _,fun i hi=>?_⟩
   obtain⟨x,y,e3⟩:=h2 i
   rw [e1,e2] at h
   rw [e1,e3]
   by_cases q:i=k+1
   ·subst q
    rw [e1] at e3
    injection e3 with z1 z2
    injection z2 with z2 _
    subst z1 z2
    simp [sX]
   ·have z:=b2 i (by omega)
    rw [e2,e3] at z
    simp only [sX,Bool.or_eq_true,Bool.and_eq_true,decide_eq_true_eq,Bool.or_eq_false_iff,Bool.and_eq_false_iff,decide_eq_false_iff_not] at h z ⊢
    omega
  ·rw [if_neg h]
   refine⟨by omega,fun i hi=>?_⟩
   by_cases q:i=k+1
   ·subst q; simpa using h
   ·exact b2 i (by omega)
def nF (ys:List (List Int×Addr×Value)) (i:Nat):List Int:=(ys[i]?.map (·.1)).getD [0,0]
theorem jC {ys:List (List Int×Addr×Value)} {i:Nat} {y:List Int×Addr×Value} (h:ys[i]?=some y):nF ys i=y.1:=by unfold nF; rw [h]; rfl
def E8:b_:=fun ds S k=>match ds with
 | [.ref a]=>∃ kvs ep,S a=some (.gen (.dT kvs ep))/\kvs≠[]/\(∀ p∈kvs,∃ i j,p.1=[i,j])/\∀ m∈kvs,(∀ p∈kvs,sX p.1 m.1=false)->k (cL m.1) S
 | _=>False
theorem FC {X:Cx} {n:Nat} (hr:cH n X.A):cA X (.builtin "max") (rD X.K E8):=by
 intro pins s σ H xs us Q I rs h
 obtain⟨ds,S,k,i,hS,r,m⟩:=h
 unfold E8 at r
 split at r
 ·rename_i a
  obtain⟨v,rfl,j⟩:=gO i
  have ex:=aP.mp j
  subst ex
  obtain⟨u,rfl,ru⟩:=j8 rs
  cases (show u=Value.ref a from ru)
  obtain⟨kvs,ep,g1,ne,two,r⟩:=r
  obtain⟨ys,e1,r1⟩:=hS.dT g1
  obtain⟨hd,z,ndk,g⟩:=cC I e1
  have hun:=hr.un
  have la:a < s.heap.objs.size:=Heap.lt_size g
  have len:=r1.length
  have n0:0 < ys.length:=by rw [<- len]; exact List.length_pos_iff.mpr ne
  have tup:∀ y∈ys,∃ i j dd sl t1 t2 c,y.1=[i,j]/\s.heap.get? y.2.1=some ⟨.type "tuple",dd,.seq #[.int i t1,.int j t2] c,sl⟩:=fun y hy=>by
   obtain⟨q,hq,rfl⟩:=List.mem_iff_getElem.mp hy
   obtain⟨p',hp1,hp2,hp3,_⟩:=r1.at_ (i:=q) (p:=kvs[q]'(by omega)) (by simp)
   rw [List.getElem?_eq_getElem hq] at hp1
   cases hp1
   obtain⟨i,j,ee⟩:=two _ (List.getElem_mem (by omega:q < kvs.length))
   rw [ee] at hp2 hp3
   obtain⟨its,rv,⟨⟨cls,dd,data,sl⟩,h1,h2,c,h3⟩,_⟩:=I.tuple hp3
   obtain⟨w1,w2,rfl,rw1,rw2⟩:=xL rv
   obtain⟨t1,rfl⟩:=rw1
   obtain⟨t2,rfl⟩:=rw2
   simp only at h2 h3
   subst h2 h3
   exact⟨i,j,dd,sl,t1,t2,c,hp2.symm,h1⟩
  have hz:ys.length<=sizeLine:=z
  have szE:(ys.map eT).toArray.size=ys.length:=by simp
  have keyOk:∀ i,∃ a b,nF ys i=[a,b]:=fun i=>by
   unfold nF
   cases q:ys[i]? with
   | none=>exact⟨0,0,rfl⟩
   | some y=>
    obtain⟨a,b,_,_,_,_,_,e,_⟩:=tup y (List.mem_of_getElem? q)
    exact⟨a,b,e⟩
  refine Dh (r_ (A:=X.A.in1) hd g ?_)
  refine⟨s.heap.objs.size,_,_,_,_,_,fun i j=>sX (nF ys i) (nF ys j),fun h=>∀ y∈ys,∃ i j dd sl t1 t2 c,y.1=[i,j]/\h.get? y.2.1=some ⟨.type "tuple",dd,.seq #[.int i t1,.int j t2] c,sl⟩,rfl,
   uW .k (show X.A.in1.handled=none from hr.hd) s.heap.objs.size a (Nat.ne_of_lt la) _ ep,⟨Heap.get?_push_size _ rfl,Heap.get?_push_of_some _ g⟩,Bh la,by rw [szE]; exact n0,fun y hy=>?_,fun S' hS' h h' ph far y hy=>?_,fun i j u v s' Q' E' ph pu pv q=>?_,fun v h' tk pv far=>?_⟩
  ·obtain⟨i,j,dd,sl,t1,t2,c,ee,gg⟩:=tup y hy
   exact⟨i,j,dd,sl,t1,t2,c,ee,Heap.get?_push_of_some _ gg⟩
  ·obtain⟨i0,j0,dd0,sl0,t10,t20,c0,ee0,gg0⟩:=tup y hy
   have ly:y.2.1 < s.heap.objs.size:=Heap.lt_size gg0
   obtain⟨i,j,dd,sl,t1,t2,c,ee,gg⟩:=ph y hy
   have sp:s.heap.objs.size < S':=Nat.lt_of_lt_of_le (Heap.lt_size (Heap.get?_push_size s.heap (o:=rL "dict_keyiterator" a 0 (ys.map eT).toArray.size ep) rfl)) hS'
   exact⟨i,j,dd,sl,t1,t2,c,ee,far _ _ (by simp; exact Nat.ne_of_lt ly) (Nat.ne_of_lt (Nat.lt_trans ly sp)) gg⟩
  ·obtain⟨e,he,rfl⟩:=pu
   obtain⟨e',he',rfl⟩:=pv
   simp only [List.getElem?_toArray,List.getElem?_map] at he he'
   obtain⟨y,hy,rfl⟩:=Option.map_eq_some_iff.mp he
   obtain⟨y',hy',rfl⟩:=Option.map_eq_some_iff.mp he'
   obtain⟨a1,b1,dd,sl,t1,t2,c,ee,gg⟩:=ph y (List.mem_of_getElem? hy)
   obtain⟨a2,b2,dd',sl',t1',t2',c',ee',gg'⟩:=ph y' (List.mem_of_getElem? hy')
   have T1:s'.TypeIs (.ref y.2.1) "tuple":=⟨_,gg,rfl⟩
   simp only [jC hy,jC hy',ee,ee',sX] at q
   have fin:Value.bool (decide (a2 < a1) || (decide (a1=a2) && decide (b2 < b1)))≠.notImplemented/\Q' (.bool (decide (a2 < a1) || (decide (a1=a2) && decide (b2 < b1)))) s':=⟨(by intro z; cases z),q⟩
   exact wpAny_richCompare_same_room (op:=.Gt) T1 ⟨_,gg',rfl⟩ F.slot_tuple_gt (call_meetsIn F.slot_tuple_gt T1 F.entry_tuple_gt (F.args_tuple_gt_2 _ _) (IM y.2.1 y'.2.1 a1 b1 a2 b2 t1 t2 t1' t2' c c' dd dd' sl sl') ⟨by show X.A.units+1+1 < cLine; omega,gg,gg',fin⟩) (by show X.A.units+1 < cLine; omega)
  ·obtain⟨e,he,rfl⟩:=pv
   simp only [List.getElem?_toArray,List.getElem?_map] at he
   rw [szE] at he
   obtain⟨y,hy,rfl⟩:=Option.map_eq_some_iff.mp he
   obtain⟨b1,b2⟩:=wW (nF ys) keyOk (ys.length - 1)
   generalize argBest (fun i j=>sX (nF ys i) (nF ys j)) (ys.length - 1)=bi at b1 b2 hy
   have lb:bi < kvs.length:=by omega
   obtain⟨q,hq,f1,f2,_⟩:=r1.at_ (i:=bi) (p:=kvs[bi]) (by simp)
   rw [hy] at hq
   cases hq
   have kq:=r kvs[bi] (List.getElem_mem lb) fun p hp=>by
    obtain⟨x,hx,rfl⟩:=List.mem_iff_getElem.mp hp
    obtain⟨q',hq',f1',_⟩:=r1.at_ (i:=x) (p:=kvs[x]) (by simp)
    have z:=b2 x (by omega)
    rw [jC hq',jC hy,<- f1',<- f1] at z
    exact z
   have I1:aA X pins σ H {s with heap:=s.heap.push (rL "dict_keyiterator" a 0 (ys.map eT).toArray.size ep)}:=I.kept (t':=s.toks) fun c o e=>Heap.get?_push_of_some _ e
   refine⟨.ref y.2.1,H,aA.turnedL (s:={s with heap:=s.heap.push (rL "dict_keyiterator" a 0 (ys.map eT).toArray.size ep)}) (t':=tk) [s.heap.objs.size] I1 far (fun c hc=>?_),rfl,m _ S _ H kq (Kp.refl H) hS (lE.mpr ⟨_,rfl,f2⟩)⟩
   have e:c=s.heap.objs.size:=by simpa using hc
   subst e
   exact I.fpOk (Nat.le_refl _) (I.hok.fresh (Nat.le_refl _))
 ·exact r.elim
end DL
namespace L2
open PySem PySem.Spec PyProof.Rows
def HE (p a:Addr):Heap->Prop:=fun h=>h.get? p=some {cls:=.type "dict_values",data:=.fields #[.ref a]}
section
variable {X:Cx} {o:Expr} {to:TE} {apos cpos pos p0:Pos}
def IU (to:TE):TE:=fun σ H Q=>to σ H fun x H1=>∃ a xs ep,x=.ref a/\H1 a=some (.ext (DL.j7 a xs ep))/\∀ p,H1 p=none->Q (.ref p) (bJ H1 p (.ext (HE p a)))
theorem Ei (ho:PE X o to) (hbase:attributeBase o "values" X.env (eval o X.env)=eval o X.env:=by rfl) (hline:(apos.endLine == cpos.line)=true:=by rfl):PE X (.Call (.Attribute o "values" apos) [] [] cpos) (IU to):=by
 intro pins s σ H Q I h
 refine wpAny_Call_method0_late hbase hline (bL (ho pins s σ H _ I h) fun v s1 ⟨x,H1,I1,r1,a,xs,ep,ex,e1,q⟩=>?_)
 subst ex
 cases (show v=Value.ref a from r1)
 obtain⟨hd,_,_,g⟩:=DL.cC I1 e1
 refine⟨"dict","dict.values",F.plainAttrs_dict,F.slot_dict_values,F.type_dict_values,⟨_,g,rfl⟩,fun b e=>by cases e; exact⟨_,g,rfl⟩,Calls.callWith_builtin rfl (PySem.evalArgs_none ?_)⟩
 refine call_meetsIn F.slot_dict_values ⟨_,g,rfl⟩ F.entry_dict_values (F.args_dict_values_1 _) (Lf a _ ep hd) ⟨g,?_⟩
 have hn:=I1.hok.fresh (Nat.le_refl s1.heap.objs.size)
 have gp:(s1.heap.push {cls:=.type "dict_values",data:=.fields #[.ref a]}).get? s1.heap.objs.size=some {cls:=.type "dict_values",data:=.fields #[.ref a]}:=Heap.get?_push_size _ rfl
 exact⟨.ref s1.heap.objs.size,_,I1.laid (o:=.ext (HE s1.heap.objs.size a)) (t':=s1.toks) (fun b o e=>Heap.get?_push_of_some _ e) (Nat.le_refl _) ⟨gp,⟨_,gp⟩,fun h1 h2 z k=>k _ z⟩,rfl,q _ hn⟩
theorem AC {P:Program} {w:World} {p a:Addr} {es:Array DictEntry} {ep:Nat}:PySem.W.KdlSrc P w "dict_values" p a es.size (fun i v=>∃ e,es[i]?=some e/\v=qB.of e .v) (fun h=>HE p a h/\h.get? a=some (DL.lO es ep)) where
 type:=fun s ok=>⟨_,ok.1,rfl⟩
 there:=fun h ok=>⟨Heap.lt_size ok.1,Heap.lt_size ok.2⟩
 keep:=fun h h' ok k=>⟨k p (.inl rfl) _ ok.1,k a (.inr rfl) _ ok.2⟩
 notList:=by decide
 notTuple:=by decide
 hint:=fun A E s Q ok q=>PySem.W.kdl_hint_values ⟨_,ok.1,rfl⟩ q
 iter:=fun A s hh ok=>⟨rL "dict_valueiterator" a 0 es.size ep,_,fun E Q q=>r8 ok.1 ok.2 q,uW .v hh s.heap.objs.size a (Nat.ne_of_lt (Heap.lt_size ok.2)) es ep,⟨Heap.get?_push_size _ rfl,Heap.get?_push_of_some _ ok.2⟩⟩
def Gm:List V->Hp->VK->Prop:=fun xs H Q=>∃ p a ys ep vs,xs=[.ref p]/\H p=some (.ext (HE p a))/\H a=some (.ext (DL.j7 a ys ep))/\aL vs (ys.map (·.2.2))/\∀ q,H q=none->Q (.ref q) (bJ H q (.lst vs))
theorem wc (hc:X.calm=true):cA X (.type "list") Gm:=by
 intro pins s σ H xs us Q I rs h
 obtain⟨p,a,ys,ep,vs,rfl,e1,e2,rv,q⟩:=h
 obtain⟨u,rfl,ru⟩:=j8 rs
 cases (show u=Value.ref p from ru)
 have g1:=(I.hok p _ e1).1
 obtain⟨_,z,_,g2⟩:=DL.cC I e2
 have hn:=I.hok.fresh (Nat.le_refl s.heap.objs.size)
 have sz:(ys.map DL.eT).toArray.size=ys.length:=by simp
 refine PySem.W.kdl_call (AC (p:=p) (a:=a) (es:=(ys.map DL.eT).toArray) (ep:=ep)) (I.ok.hd hc) ⟨g1,g2⟩ (by rw [sz]; exact z) fun h' tk acc' c' kk gn it=>?_
 have ev:acc'.toList=ys.map (·.2.2):=by
  obtain⟨l1,l2⟩:=it
  apply List.ext_getElem?
  intro i
  rw [Array.getElem?_toList,List.getElem?_map]
  cases q1:acc'[i]? with
  | none=>
   have:acc'.size<=i:=by simpa using q1
   rw [l1,sz] at this
   rw [List.getElem?_eq_none this]
   rfl
  | some v=>
   obtain⟨e,he,rfl⟩:=l2 i v q1
   simp only [List.getElem?_toArray,List.getElem?_map] at he
   obtain⟨y,hy,rfl⟩:=Option.map_eq_some_iff.mp he
   rw [hy]
   rfl
 have ea:acc'=(ys.map (·.2.2)).toArray:=by rw [<- ev]
 refine⟨.ref s.heap.objs.size,_,I.laid (o:=.lst vs) (t':=tk) kk (Nat.le_refl _) ⟨?_,_,c',rv,by rw [gn,ea]⟩,rfl,q _ hn⟩
 rw [rv.length,List.length_map]
 exact z
end
end L2
namespace DL
open PySem PySem.Spec PyProof.Rows L2
theorem lA.vals {K:Fg} {H:Hp}:∀ {kvs:List (List Int×D)} {xs:List (List Int×Addr×Value)},lA K H kvs xs->∃ vs,aL vs (xs.map (·.2.2))/\IsDs K H (kvs.map (·.2)) vs
 | _,_,.nil=>⟨[],.nil,IsDs.nil⟩
 | _,_,.cons ⟨_,_,v,h3,h4⟩ t=>by
  obtain⟨vs,a,b⟩:=lA.vals t
  exact⟨v::vs,.cons h3 a,IsDs.cons h4 b⟩
def GV (go:DE):DE:=fun L S k=>go L S fun d S1=>match d with
 | .ref a=>∃ kvs ep,S1 a=some (.gen (.dT kvs ep))/\∀ p,S1 p=none->k (.ref p) (put S1 p (.lst (kvs.map (·.2))))
 | _=>False
theorem uK {X:Cx} {o:Expr} {go:DE} {apos cpos pos p0:Pos} (hc:X.calm=true) (hg:Gl X "list") (hm:X.mg "list"=none) (ho:EJ X o go) (hbase:attributeBase o "values" X.env (eval o X.env)=eval o X.env:=by rfl) (hline:(apos.endLine == cpos.line)=true:=by rfl):
  EJ X (.Call (.Name "list" p0) [.Call (.Attribute o "values" apos) [] [] cpos] [] pos) (GV go):=
 ⟨PE.imp (nL (wc hc) hg hm (by decide +kernel) (nv (Ei ho.h hbase hline) pR rfl)) fun σ H Q ⟨L,S,k,hL,hS,h,n⟩=>up.go hL hS h fun d S1 v H1 h1 k1 hL1 hS1 i1=>by
  cases d with
  | ref a=>
   obtain⟨kvs,ep,g1,h1⟩:=h1
   obtain⟨xs,e1,r1⟩:=hS1.dT g1
   have ex:=aP.mp i1
   subst ex
   refine⟨a,xs,ep,rfl,e1,fun p hp=>?_⟩
   obtain⟨vs,q1,q2⟩:=r1.vals
   have kn:Kp H1 (bJ H1 p (.ext (HE p a))):=Kp.new hp
   have na:a≠p:=b8 e1 hp
   refine⟨p,a,xs,ep,vs,rfl,bC,by rw [aG na]; exact e1,q1,fun q hq=>?_⟩
   have hS2:Hs X.K (bJ H1 p (.ext (HE p a))) S1:=hS1.new hp
   exact n _ _ _ _ (h1 q (hS2.free hq)) ((k1.trans kn).trans (Kp.new hq)) (hS2.newL hq (q2.kp kn)) (aP.mpr rfl)
  | _=>exact(show False from h1).elim⟩
end DL
namespace PySem
set_option maxRecDepth 100000
namespace F
theorem args_max1K (a d:Value):argsOk "max" ⟨[a],[("default",d)]⟩:=by unfold argsOk; kernel_rfl
end F
section
variable {prog:Program} {w:World} {A:Around} {E:Value->Shared->Prop}
theorem z8 {s:Shared} {id:String} {b:Builtin} {args:List Value} {kw:List (Str×Value)} {Q:Value->Shared->Prop} (hk:builtinKind id=none) (hp:plainId id=true) (hb:entryFor table id=some b) (ha:argsOk id ⟨args,kw⟩)
  (hc:wpAny (model prog w) A.in1 (b ⟨args,kw⟩) (fun fin s'=>match fin with
   | .done f=>(match (Except.ok f:Result) with | .ok (.ret v)=>Q v s' | .ok _=>False | .error e=>E e s')
   | .again c'=>c'.quiet=true/\codeAny (model prog w) A c' (fun r s'=>match r with | .ok (.ret v)=>Q v s' | .ok _=>False | .error e=>E e s') s') E s):
  wpAny (model prog w) A (call (.builtin id) args kw) Q E s:=by
 refine wpAny_call (codeAny_call_builtin hp hb ?_)
 unfold checkBuiltinCall
 rw [hk]
 unfold argsOk at ha
 dsimp only
 split at ha
 ·rename_i sg eg
  rw [eg]
  exact wpAny_of_eq ha hc
 ·rename_i eg
  rw [eg]
  exact wpAny_pure hc
theorem Eg {I S:Addr} {fp wr:List Addr} {n:Nat} {P:Nat->Value->Prop} {St:Nat->Heap->Prop} {R:Result->Shared->Prop} {kw:List (Str×Value)} (W:Walks prog w A.in1 I fp wr n P St) (bt:Nat->Nat->Bool) (hS:S∉fp) (cmp:CmpOf prog w A.in1 .Gt P bt):
  ∀ (k j:Nat) (s:Shared) (vb:Value) (c:Nat),n - (j+1)=k->j+1<=n->St (j+1) s.heap->P (argBest bt j) vb->s.heap.get? S=some {cls:=.type "list",dict:=none,data:=.seq #[vb,vb] c,slots:=#[]}->
  (∀ v h' tk,P (argBest bt (n - 1)) v->(∀ b o,b∉wr->b≠S->s.heap.get? b=some o->h'.get? b=some o)->R (.ok (.ret v)) {s with heap:=h',toks:=tk})->codeAny (model prog w) A (.builtin "max.loop" ⟨[.ref I,.none,.ref S],kw⟩) R s:=by
 have nw:S∉wr:=fun z=>hS (W.sub _ z)
 have nm:((toString "max"++toString ".loop":String))="max.loop":=by decide
 intro k
 induction k with
 | zero=>
  intro j s vb c hk hj st pb gS fin
  have ej:n=j+1:=by omega
  refine codeAny_builtin F.entry_max_loop ?_
  rw [Around.under_plainId F.plain_max_loop _]
  refine wpAny_bind (m:=seqItems? (.ref S)) (wpAny_seqItems gS rfl (wpAny_bind (wpAny_tryCatch (m:=pyNext (.ref I)) (W.done s _ _ (by rw [ej]; exact st) fun h' tk far=>?_))))
  have g1:=far S _ nw gS
  refine wpAny_bind (m:=updateSeq S fun _=>#[]) (wpAny_updateSeq g1 rfl (wpAny_bind (wpAny_letGo (wpAny_pure (fin vb _ tk (by rw [ej]; exact pb) fun b o n1 n2 x=>?_)))))
  exact(Heap.get?_update_other _ _ (Ne.symm n2)).trans (far b o n1 x)
 | succ k ih=>
  intro j s vb c hk hj st pb gS fin
  have lt:j+1 < n:=by omega
  refine codeAny_builtin F.entry_max_loop ?_
  rw [Around.under_plainId F.plain_max_loop _]
  refine wpAny_bind (m:=seqItems? (.ref S)) (wpAny_seqItems gS rfl (wpAny_bind (wpAny_tryCatch (m:=pyNext (.ref I)) (W.item (j+1) s _ _ lt st fun v h' tk pv st1 far=>?_))))
  have g1:=far S _ nw gS
  refine wpAny_bind (wpAny_pure (wpAny_bind (wpAny_tryCatch (wpAny_holding (wpAny_bind (m:=richCompare .Gt v vb) (cmp (j+1) (argBest bt j) v vb _ _ _ pv pb (wpAny_bind (wpAny_holding (wpAny_truthy_bool (wpAny_bind (wpAny_letGo (wpAny_pure ?_))))))))))))
  by_cases hb:bt (j+1) (argBest bt j)=true
  ·rw [hb,if_pos rfl]
   refine wpAny_bind (m:=updateSeq S fun _=>#[v,v]) (wpAny_updateSeq g1 rfl (wpAny_bind (wpAny_letGo ?_)))
   have oth:∀ b o,b≠S->h'.get? b=some o->(h'.update S (Obj.mapSeq fun _=>#[v,v])).get? b=some o:=fun b o n2 x=>(Heap.get?_update_other _ _ (Ne.symm n2)).trans x
   rw [nm]
   refine wpAny_pure ⟨plainId_quiet F.plain_max_loop _,ih (j+1) _ v _ (by omega) lt (W.frame _ _ _ st1 fun b hb' o x=>oth b o (fun z=>hS (z▸hb')) x) (by unfold argBest; rw [hb,if_pos rfl]; exact pv) (Heap.get?_update_self _ g1 rfl) fun u h2 tk2 pu far2=>?_⟩
   exact fin u h2 tk2 pu fun b o n1 n2 x=>far2 b o n1 n2 (oth b o n2 (far b o n1 x))
  ·have hb':bt (j+1) (argBest bt j)=false:=by simpa using hb
   rw [hb',if_neg Bool.false_ne_true]
   refine wpAny_bind (wpAny_letGo ?_)
   rw [nm]
   refine wpAny_pure ⟨plainId_quiet F.plain_max_loop _,ih (j+1) _ vb c (by omega) lt st1 (by unfold argBest; rw [hb',if_neg Bool.false_ne_true]; exact pb) g1 fun u h2 tk2 pu far2=>?_⟩
   exact fin u h2 tk2 pu fun b o n1 n2 x=>far2 b o n1 n2 (far b o n1 x)
theorem Dk {x d:Value} {s:Shared} {Q:Value->Shared->Prop} (h:wpAny (model prog w) A.in1 (pyIter x) (fun it s2=>∃ I fp wr n P St bt,it=.ref I/\Walks prog w A.in1 I fp wr n P St/\St 0 s2.heap/\(∀ b∈fp,b < s2.heap.objs.size)/\CmpOf prog w A.in1 .Gt P bt/\
   (0 < n->∀ v h' tk,P (argBest bt (n - 1)) v->(∀ b o,b∉wr->s2.heap.get? b=some o->h'.get? b=some o)->Q v {s2 with heap:=h',toks:=tk})/\
   (n=0->∀ h' tk,(∀ b o,b∉wr->s2.heap.get? b=some o->h'.get? b=some o)->Q d {s2 with heap:=h',toks:=tk})) E s):wpAny (model prog w) A (call (.builtin "max") [x] [("default",d)]) Q E s:=by
 have nm:((toString "max"++toString ".loop":String))="max.loop":=by decide
 refine z8 F.kind_max F.plain_max F.entry_max (F.args_max1K _ _) (wpAny_bind (m:=Builtin.Builtins.bindParams "max" ["key","default"] 0 ⟨[],[("default",d)]⟩) (wpAny_of_eq (a:=[none,some d]) rfl (wpAny_bind (wpAny_pure (wpAny_bind (wpAny_mono h (fun it s2 h2=>?_) fun _ _ e=>e))))))
 obtain⟨I,fp,wr,n,P,St,bt,rfl,W,st,below,cmp,fin,fin0⟩:=h2
 refine wpAny_bind (wpAny_newObj_type ?_)
 have hS:s2.heap.objs.size∉fp:=fun m=>Nat.lt_irrefl _ (below _ m)
 have nw:s2.heap.objs.size∉wr:=fun m=>hS (W.sub _ m)
 have kp:∀ b o,s2.heap.get? b=some o->(s2.heap.push {cls:=.type "list",data:=.seq #[]}).get? b=some o:=fun b o x=>Heap.get?_push_of_some _ x
 have gS:(s2.heap.push {cls:=.type "list",data:=.seq #[]}).get? s2.heap.objs.size=some {cls:=.type "list",dict:=none,data:=.seq #[] 0,slots:=#[]}:=Heap.get?_push_size _ rfl
 have st0:=W.frame 0 _ _ st fun b _ o x=>kp b o x
 rw [nm]
 refine wpAny_pure ⟨plainId_quiet F.plain_max_loop _,codeAny_builtin F.entry_max_loop ?_⟩
 rw [Around.under_plainId F.plain_max_loop _]
 by_cases n0:0 < n
 ·refine wpAny_bind (m:=seqItems? (.ref s2.heap.objs.size)) (wpAny_seqItems gS rfl (wpAny_bind (wpAny_tryCatch (m:=pyNext (.ref I)) (W.item 0 _ _ _ n0 st0 fun v h' tk pv st1 far=>?_))))
  have g1:=far _ _ nw gS
  have oth:∀ b o,b≠s2.heap.objs.size->h'.get? b=some o->(h'.update s2.heap.objs.size (Obj.mapSeq fun _=>#[v,v])).get? b=some o:=fun b o n2 x=>(Heap.get?_update_other _ _ (Ne.symm n2)).trans x
  refine wpAny_bind (wpAny_pure (wpAny_bind (m:=updateSeq s2.heap.objs.size fun _=>#[v,v]) (wpAny_updateSeq g1 rfl ?_)))
  rw [nm]
  refine wpAny_pure ⟨plainId_quiet F.plain_max_loop _,Eg W bt hS cmp _ 0 _ v _ rfl n0 (W.frame _ _ _ st1 fun b hb o x=>oth b o (fun z=>hS (z▸hb)) x) pv (Heap.get?_update_self _ g1 rfl) fun u h2 tk2 pu far2=>?_⟩
  exact fin n0 u h2 tk2 pu fun b o n1 x=>by
   have nb:b≠s2.heap.objs.size:=Nat.ne_of_lt (Heap.lt_size x)
   exact far2 b o n1 nb (oth b o nb (far b o n1 (kp b o x)))
 ·have e0:n=0:=by omega
  refine wpAny_bind (m:=seqItems? (.ref s2.heap.objs.size)) (wpAny_seqItems gS rfl (wpAny_bind (wpAny_tryCatch (m:=pyNext (.ref I)) (W.done _ _ _ (by rw [e0]; exact st0) fun h' tk far=>?_))))
  have q:=fin0 e0 h' tk fun b o n1 x=>far b o n1 (kp b o x)
  repeat (any_goals (first | assumption | wp_step))
end
end PySem
namespace L2
open PySem PySem.Spec PyProof.Rows
section
variable {X:Cx}
def EZ (X:Cx) (f:Value) (nm:Str) (r:List V->V->Hp->VK->Prop):Prop:=
 ∀ (pins:List (Addr×Obj)) (s:Shared) (σ:St) (H:Hp) (xs:List V) (us:List Value) (d:V) (u:Value) (Q:VK),aA X pins σ H s->aL xs us->aF d u->r xs d H Q->wpAny (model X.prog X.w) X.A (call f us [(nm,u)]) (EP X pins σ Q) X.xe s
theorem zj (hc:X.calm=true):EZ X (.builtin "max") "default" (fun xs d H Q=>∃ (p:Addr) (ns:List Int),xs=[.ref p]/\jf X.K H p (ns.map V.int)/\(ns=[]->Q d H)/\∀ m:Int,m∈ns->(∀ x∈ns,x<=m)->Q (.int m) H):=by
 intro pins s σ H xs us d ud Q I r rd h
 obtain⟨p,ns,rfl,hq,q0,q⟩:=h
 obtain⟨u,rfl,rx⟩:=j8 r
 cases rx
 obtain⟨its,rv,pl,hz⟩:=I.list hq
 have hl:=rv.length
 rw [List.length_map] at hl
 have hlt:=pl.lt
 have hh:X.A.in1.handled=none:=I.ok.hd hc
 have hv:∀ i v,its.toArray[i]?=some v->∃ t,v=Value.int (ns.getD i 0) t:=fun i v h=>pZ (i:=i) (v:=v) rv (by rw [List.getElem?_toArray] at h; exact h)
 refine Dk (wpAny_pyIter_list pl.isList ?_)
 refine⟨s.heap.objs.size,_,_,_,_,_,fun i j=>decide (ns.getD i 0 > ns.getD j 0),rfl,Walks.list hh s.heap.objs.size p (Nat.ne_of_lt hlt) its.toArray,⟨⟨_,Heap.get?_push_size _ rfl,rfl,rfl⟩,Heap.IsList.at pl.isList fun o e=>Heap.get?_push_of_some _ e⟩,Bh hlt,CmpOf.ints_gt _ hv,fun n0 v h' tk hP kk=>?_,fun n0 h' tk kk=>?_⟩
 ·rw [List.size_toArray,<- hl] at hP n0
  obtain⟨t,rfl⟩:=hv _ _ hP
  obtain⟨b1,b2⟩:=qw (fun i=>ns.getD i 0) (ns.length - 1)
  have hm:ns.getD (argBest (fun i j=>decide (ns.getD i 0 > ns.getD j 0)) (ns.length - 1)) 0∈ns:=by
   have hlt2:argBest (fun i j=>decide (ns.getD i 0 > ns.getD j 0)) (ns.length - 1) < ns.length:=by omega
   rw [List.getD_eq_getElem?_getD,List.getElem?_eq_getElem hlt2]
   exact List.getElem_mem hlt2
  refine pC I (show aF (.int _) (.int _ t) from⟨t,rfl⟩) (q _ hm fun x hx=>?_) h' tk kk
  obtain⟨i,hi,rfl⟩:=List.mem_iff_getElem.mp hx
  have:=b2 i (by omega)
  rw [List.getD_eq_getElem?_getD,List.getElem?_eq_getElem hi] at this
  exact this
 ·rw [List.size_toArray,<- hl] at n0
  exact pC I rd (q0 (List.length_eq_zero_iff.mp n0)) h' tk kk
theorem yg {x nm:Str} {p pos kp:Pos} {e ed:Expr} {es:List Expr} {t:TA} {id:String} {td:TE} {r:List V->V->Hp->VK->Prop} (hc:EZ X (.builtin id) nm r) (hg:Gl X x) (hm:X.mg x=none) (hv:bootBuiltins x=some (.builtin id)) (ha:PA X (e::es) t) (hd:PE X ed td) (hn:x≠"__name__":=by decide) (hdb:(x == ("__debug__":Str))=false:=by decide)
  (he:backTo pos (starEach (e::es) X.env)=(false,eval e X.env)::backTo pos (starEach es X.env):=by rfl) (hpl:(backTo pos (starEach (e::es) X.env)).any (·.1)=false:=by rfl):
  PE X (.Call (.Name x p) (e::es) [⟨some nm,ed,kp⟩] pos) (fun σ H Q=>t σ H fun xs H1=>td σ H1 fun d H2=>r xs d H2 Q):=by
 intro pins s σ H Q I h
 refine wpAny_Call_Name_kw (qe I hg hm hv ?_ hn hdb)
 refine callWith_kw (bL (ha pos pins s σ H _ I h) fun us s1 ⟨vs,H1,I1,r1,q1⟩=>kws_cons (bL (hd pins s1 σ H1 _ I1 q1) fun u s2 ⟨d,H2,I2,r2,q2⟩=>kws_nil ?_)) he hpl
 exact hc pins s2 σ H2 vs us d u Q I2 r1 r2 q2
end
end L2
namespace DL
open PySem PySem.Spec PyProof.Rows L2
def JH (t:DA):DE:=fun L S k=>t L S fun ds S1=>match ds with
 | [.ref a]=>∃ ns:List Int,S1 a=some (.lst (ns.map D.int))/\(ns=[]->k .non S1)/\∀ m:Int,m∈ns->(∀ x∈ns,x<=m)->k (.int m) S1
 | _=>False
section
variable {X:Cx} {x:Str} {p pos kp:Pos} {e ed:Expr} {t:DA}
theorem wN (hg:Gl X x) (hm:X.mg x=none) (hv:bootBuiltins x=some (.builtin "max")) (ha:AJ X [e] t) (hd:EJ X ed (dC .non)) (hc:X.calm=true:=by rfl) (hn:x≠"__name__":=by decide) (hdb:(x == ("__debug__":Str))=false:=by decide)
  (he:backTo pos (starEach [e] X.env)=(false,eval e X.env)::backTo pos (starEach [] X.env):=by rfl) (hpl:(backTo pos (starEach [e] X.env)).any (·.1)=false:=by rfl):
  EJ X (.Call (.Name x p) [e] [⟨some "default",ed,kp⟩] pos) (JH t):=
 ⟨PE.imp (yg (zj hc) hg hm hv ha.h hd.h hn hdb he hpl) fun σ H Q ⟨L,S,k,hL,hS,h,n⟩=>oJ.go hL hS h fun ds S1 vs H1 h1 k1 hL1 hS1 i1=>⟨L,S1,fun d S2=>d=.non/\S2=S1,hL1,hS1,⟨rfl,rfl⟩,fun d S2 v H2 ⟨e1,e2⟩ k2 hS2 i2=>by
  subst e1 e2
  split at h1
  ·rename_i a
   obtain⟨ns,z,r0,r⟩:=h1
   obtain⟨x,rfl,j1⟩:=gO (i1.kp k2)
   have e1:=aP.mp j1
   subst e1
   obtain⟨vs,q1,j⟩:=hS2.lst z
   have e:=jB j
   subst e
   exact⟨_,ns,rfl,jf.of q1,fun e0=>n _ _ _ _ (r0 e0) (k1.trans k2) hS2 i2,fun m a1 a2=>n _ _ _ _ (r m a1 a2) (k1.trans k2) hS2 (isInt.mpr rfl)⟩
  ·exact h1.elim⟩⟩
end
def Jr:D2:=fun d e S k=>match d,e with
 | .non,.tup _=>k (.bl true) S
 | .tup _,.non=>k (.bl true) S
 | d,e=>FW d e S k
theorem Ij {X:Cx} {n:Nat} (hr:cH n X.A):fH X (compareOp .NotEq) (j5 X.K Jr):=by
 intro pins s σ H x y v u Q I rx ry h
 obtain⟨d,e,S,k,i1,i2,hS,r,m⟩:=h
 have hu:=hr.units
 unfold Jr at r
 split at r
 ·obtain⟨a,vs,rfl,t,j⟩:=cz.mp i2
  have e1:=c8.mp i1
  subst e1
  cases rx
  cases ry
  obtain⟨its,_,p,_⟩:=I.tuple t
  exact SeqAt.RcNeAt.none_tuple p (by omega) X.prog X.w X.xe _ ⟨.bl true,H,I,rfl,nc m hS r (cg.mpr rfl)⟩
 ·obtain⟨a,vs,rfl,t,j⟩:=cz.mp i1
  have e1:=c8.mp i2
  subst e1
  cases rx
  cases ry
  obtain⟨its,_,p,_⟩:=I.tuple t
  exact SeqAt.RcNeAt.tuple_none p (by omega) X.prog X.w X.xe _ ⟨.bl true,H,I,rfl,nc m hS r (cg.mpr rfl)⟩
 ·exact AO hr pins s σ H x y v u Q I rx ry ⟨_,_,S,k,i1,i2,hS,r,m⟩
end DL
namespace PySem
open Builtin DL
def subM (m:Nat):List Nat:=(List.range 7).filter fun i=>m.testBit i
def vD (led:Bool) (m:Nat):SetTable:={mask:=if (subM m).length < 5 then 7 else 31,place:=(subM m).toArray,dummies:=#[],finger:=0,led:=led,moves:=if (subM m).length < 5 then 0 else 1,plain:=true}
def zg (led:Bool) (m v:Nat):SetTable:={vD led m with place:=(subM (m ||| 2 ^ v)).toArray}
def tM (m v:Nat):Nat:=((subM m).filter (· < v)).length
def zV (led:Bool) (m v:Nat):Bool:=
 (m.testBit v && (m ||| 2 ^ v) == m) || (!m.testBit v && (vD led m).freeSlot v == some (v,false) && decide ((vD led m).put v=(zg led m v,tM m v)) && (zg led m v).fits (subM (m ||| 2 ^ v)).length && decide (SetTable.insertAt (subM m).toArray (tM m v) v=(subM (m ||| 2 ^ v)).toArray) && decide (m ||| 2 ^ v < 128) &&
  (if (zg led m v).tooFull then decide ((zg led m v).relaid ((subM (m ||| 2 ^ v)).map fun(i:Nat)=>(i:Int)).toArray (SetTable.grown (subM (m ||| 2 ^ v)).length)=some (vD led (m ||| 2 ^ v),Array.range (subM (m ||| 2 ^ v)).length)) && (vD led (m ||| 2 ^ v)).fits (subM (m ||| 2 ^ v)).length else decide (zg led m v=vD led (m ||| 2 ^ v))))
theorem B3:∀ m∈List.range 128,∀ v∈List.range 7,(zV true m v && zV false m v)=true:=by decide +kernel
def E5 (m i:Nat):Nat:=if i=0 then 0 else(subM m).getD (i - 1) 0+1
theorem CF:∀ m∈List.range 128,∀ i∈List.range 8,i<=(subM m).length->SetTable.below (subM m).toArray (E5 m i)=i:=by decide +kernel
theorem vj:∀ m∈List.range 128,(subM m).length<=7/\((vD true m).fits (subM m).length && (vD false m).fits (subM m).length)=true:=by decide +kernel
theorem xC (led:Bool) {m v:Nat} (hm:m < 128) (hv:v < 7):zV led m v=true:=by
 have z:=B3 m (List.mem_range.mpr hm) v (List.mem_range.mpr hv)
 rw [Bool.and_eq_true] at z
 cases led
 ·exact z.2
 ·exact z.1
theorem KY (led:Bool) {m:Nat} (hm:m < 128):(vD led m).fits (subM m).length=true:=by
 have z:=(vj m (List.mem_range.mpr hm)).2
 rw [Bool.and_eq_true] at z
 cases led
 ·exact z.2
 ·exact z.1
theorem mR {m v:Nat}:v∈subM m↔v < 7/\m.testBit v=true:=by simp [subM]
theorem lH {α:Type} (l:List α) (p:Nat) (x:α):SetTable.insertAt l.toArray p x=(l.take p++x::l.drop p).toArray:=by
 unfold SetTable.insertAt
 apply Array.ext'
 simp
 exact List.take_of_length_le (by simp)
theorem rT {α:Type}:∀ l:List α,(List.range l.length).filterMap (fun i=>l[i]?)=l
 | []=>rfl
 | a::l=>by
  rw [List.length_cons,List.range_succ_eq_map,List.filterMap_cons]
  simp only [List.getElem?_cons_zero,List.filterMap_map]
  congr 1
  exact rT l
theorem wy {α:Type} (xs:Array α):(Array.range xs.size).filterMap (fun i=>xs[i]?)=xs:=by
 apply Array.ext'
 rw [Array.toList_filterMap,Array.toList_range]
 have:=rT xs.toList
 simpa using this
abbrev Sx:=Nat×Tok
def jg (xs:List Sx):Array (Int×Value):=(xs.map fun x=>((x.1:Int),Value.int x.1 x.2)).toArray
def yW (led:Bool) (m:Nat) (xs:List Sx) (ep:Nat):Obj:={cls:=.type "set",dict:=none,data:=.set (jg xs) ep (vD led m),slots:=#[]}
def oA (h:Heap) (a:Addr) (led:Bool) (m:Nat):Prop:=m < 128/\∃ xs ep,xs.map (·.1)=subM m/\h.get? a=some (yW led m xs ep)
theorem fk (xs:List Sx):(jg xs).size=xs.length:=by simp [jg]
theorem qE {v:Nat} (hv:v < 7):hashInt (v:Int)=v:=by
 have:∀ v∈List.range 7,hashInt ((v:Nat):Int)=(v:Int):=by decide
 exact this v (List.mem_range.mpr hv)
section
variable {prog:Program} {w:World} {A:Around} {E:Value->Shared->Prop} {s:Shared}
theorem y_ {xs:List Sx} (h:∀ x∈xs,x.1 < 7):ElemsOf (intKind prog w) (jg xs).toList:=fun e he=>by
 simp only [jg,List.mem_map] at he
 obtain⟨x,hx,rfl⟩:=he
 exact⟨⟨x.1,by simp [intKind,Value.isInt],(qE (h x hx)).symm⟩,rfl⟩
theorem xS (led:Bool) {m v:Nat} {xs:List Sx} {tk:Tok} (hm:m < 128) (hv:v < 7) (hx:xs.map (·.1)=subM m) (ht:m.testBit v=false):
  ∃ xs',xs'.map (·.1)=subM (m ||| 2 ^ v)/\layNew (vD led m) (jg xs) (v:Int) (.int v tk)=(jg xs',zg led m v,false,false)/\m ||| 2 ^ v < 128/\
   (((zg led m v).tooFull=true/\relayAll (zg led m v) (jg xs') (SetTable.grown (jg xs').size)=(jg xs',vD led (m ||| 2 ^ v),false))\/((zg led m v).tooFull=false/\zg led m v=vD led (m ||| 2 ^ v))):=by
 have c:=xC led hm hv
 unfold zV at c
 rw [ht] at c
 simp only [Bool.false_and,Bool.false_or,Bool.not_false,Bool.true_and,Bool.and_eq_true,beq_iff_eq,decide_eq_true_eq] at c
 obtain⟨⟨⟨⟨⟨c1,c2⟩,c3⟩,c4⟩,c5⟩,c6⟩:=c
 have e0:xs.take (tM m v)++(v,tk)::xs.drop (tM m v)=xs.take (tM m v)++(v,tk)::xs.drop (tM m v):=rfl
 generalize hx':xs.take (tM m v)++(v,tk)::xs.drop (tM m v)=xs' at e0
 have m':xs'.map (·.1)=subM (m ||| 2 ^ v):=by
  rw [lH] at c4
  rw [<- hx',List.map_append,List.map_cons,List.map_take,List.map_drop,hx]
  have c4:=congrArg Array.toList c4
  simpa using c4
 have ei:SetTable.insertAt (jg xs) (tM m v) ((v:Int),Value.int v tk)=jg xs':=by
  unfold jg
  rw [lH,<- hx',List.map_append,List.map_cons,List.map_take,List.map_drop]
 have sz:(jg xs').size=(subM (m ||| 2 ^ v)).length:=by rw [fk,<- m',List.length_map]
 refine⟨xs',m',?_,c5,?_⟩
 ·unfold layNew
  rw [c1]
  dsimp only
  rw [c2]
  dsimp only
  rw [ei,sz,c3]
  unfold SetTable.orStandIn
  rw [c3]
  rfl
 ·by_cases tf:(zg led m v).tooFull=true
  ·rw [if_pos tf] at c6
   simp only [Bool.and_eq_true,decide_eq_true_eq] at c6
   refine .inl ⟨tf,?_⟩
   have eh:(jg xs').map (·.1)=((subM (m ||| 2 ^ v)).map fun(i:Nat)=>(i:Int)).toArray:=by
    apply Array.ext'
    simp only [jg,<- m',List.map_toArray,List.map_map]
    rfl
   unfold relayAll
   rw [eh,sz,c6.1]
   dsimp only
   rw [<- sz,wy,sz,c6.2]
   have cv:coversAll (Array.range (subM (m ||| 2 ^ v)).length) (subM (m ||| 2 ^ v)).length=true:=by
    unfold coversAll
    rw [List.isPerm_iff,Array.toList_range]
   rw [cv]
   rfl
  ·rw [if_neg tf] at c6
   simp only [decide_eq_true_eq] at c6
   exact .inr ⟨by simpa using tf,c6⟩
end
section
variable {prog:Program} {w:World} {A:Around} {E:Value->Shared->Prop} {s:Shared}
theorem Dc {m:Nat} {xs:List Sx} (hx:xs.map (·.1)=subM m):∀ x∈xs,x.1 < 7:=fun x h=>(mR.mp (by rw [<- hx]; exact List.mem_map_of_mem h)).1
theorem qJ {m:Nat} (hm:m < 128):(subM m).length<=7:=(vj m (List.mem_range.mpr hm)).1
theorem ku (led:Bool) {m:Nat} {xs:List Sx} (hm:m < 128) (hx:xs.map (·.1)=subM m):(vD led m).fits (jg xs).size=true:=by
 rw [fk,<- List.length_map (f:=(·.1)),hx]
 exact KY led hm
theorem lf {m:Nat} {xs:List Sx} (hm:m < 128) (hx:xs.map (·.1)=subM m):(jg xs).size<=7:=by
 rw [fk,<- List.length_map (f:=(·.1)),hx]
 exact qJ hm
theorem A0 {h:Heap} {a:Addr} {led:Bool} {m ep:Nat} {xs:List Sx} (es:Array (Int×Value)) (t:SetTable) {es0:Array (Int×Value)} {t0:SetTable} (g:h.get? a=some {cls:=.type "set",dict:=none,data:=.set es0 ep t0,slots:=#[]}):
  (h.update a (Obj.putSet es t)).get? a=some {cls:=.type "set",dict:=none,data:=.set es (ep+1) t,slots:=#[]}:=Heap.get?_update_self _ g rfl
set_option maxHeartbeats 1600000 in
theorem Fy {a:Addr} {led:Bool} {m v:Nat} {tk:Tok} {Q:Bool->Shared->Prop} (hS:oA s.heap a led m) (hv:v < 7)
  (h:∀ b h',Heap.SameBut a s.heap h'->oA h' a led (m ||| 2 ^ v)->Q b {s with heap:=h'}):wpAny (model prog w) A (setAddHashed a (.int v tk) (hashInt v)) Q E s:=by
 obtain⟨hm,xs,ep,hx,ho⟩:=hS
 have hf:=ku led hm hx
 have lt:=Dc hx
 have hel:ElemsOf (intKind prog w) (jg xs).toList:=y_ lt
 have sm:=lf hm hx
 have hb:(jg xs).size < scanBound:=by unfold scanBound; omega
 unfold setAddHashed setAddHashedIn
 refine wpAny_holding (wpAny_bind (wpAny_setState_of ho rfl hf ?_))
 dsimp only
 rw [byScan_of (knd:=intKind prog w) (x:=.int v tk) rfl hb hel]
 simp only [↓reduceIte]
 unfold setAddByScan
 refine wpAny_bind (wpAny_bind (wpAny_rule (wpAny_bind (wpAny_setScan_of (knd:=intKind prog w) (k:=(v:Int)) (by simp [intKind,Value.isInt]) ho rfl hf hel ?_))))
 cases hr:List.findIdx? (fun e=>(intKind prog w).is (v:Int) e.2) (jg xs).toList with
 | some j=>
  dsimp only
  have ht:m.testBit v=true:=by
   obtain⟨hj,hp,_⟩:=List.findIdx?_eq_some_iff_getElem.mp hr
   have me:=List.getElem_mem hj
   generalize (jg xs).toList[j]=e at hp me
   simp only [jg,List.mem_map] at me
   obtain⟨x,hx1,rfl⟩:=me
   have:(x.1:Int)=v:=by simpa [intKind,Value.isInt] using hp
   have e2:x.1=v:=by omega
   exact e2▸(mR.mp (hx▸List.mem_map_of_mem (f:=(·.1)) hx1)).2
  have c:=xC led hm hv
  unfold zV at c
  rw [ht] at c
  simp only [Bool.true_and,Bool.not_true,Bool.false_and,Bool.or_false,beq_iff_eq] at c
  refine wpAny_pure (wpAny_pure ?_)
  have z:=h false s.heap (Heap.SameBut.refl a s.heap) ⟨by rw [c]; exact hm,xs,ep,by rw [c]; exact hx,by rw [c]; exact ho⟩
  cases s
  exact z
 | none=>
  dsimp only
  have ht:m.testBit v=false:=by
   cases e:m.testBit v with
   | false=>rfl
   | true=>
    have me:v∈xs.map (·.1):=by rw [hx]; exact mR.mpr ⟨hv,e⟩
    obtain⟨x,h1,h2⟩:=List.mem_map.mp me
    have z:=List.findIdx?_eq_none_iff.mp hr ((x.1:Int),Value.int x.1 x.2) (by simp only [jg,List.mem_map]; exact⟨x,h1,rfl⟩)
    have h2:x.1=v:=h2
    simp [intKind,Value.isInt,h2] at z
  obtain⟨xs',m',eL,lt',alt⟩:=xS led (tk:=tk) hm hv hx ht
  have sm':=lf lt' m'
  have bl:(jg xs').size<=sizeLine:=fits_of_scanBound (by unfold scanBound; omega)
  rw [qE hv,eL]
  dsimp only
  refine wpAny_bind (wpAny_pure ?_)
  rw [if_pos (show (zg led m v).plain=true from rfl),hashByValue_scannable 8 (x:=.int v tk) rfl]
  refine wpAny_bind (wpAny_pure ?_)
  rw [if_pos (show plainKind (.int v tk)=true from rfl)]
  refine wpAny_bind (wpAny_storeSet_of ho rfl ?_ bl)
  have g1:=A0 (led:=led) (m:=m) (xs:=xs) (jg xs') (zg led m v) ho
  rcases alt with ⟨tf,er⟩ | ⟨tf,et⟩
  ·rw [tf]
   simp only [Bool.not_false,Bool.true_and,↓reduceIte]
   rw [er]
   refine wpAny_bind (wpAny_pure (wpAny_bind (wpAny_storeSet_of g1 rfl ?_ bl)))
   have g2:=A0 (led:=led) (m:=m) (xs:=xs) (jg xs') (vD led (m ||| 2 ^ v)) g1
   exact wpAny_pure (wpAny_pure (h _ _ ((Heap.SameBut.update _ a _).trans (Heap.SameBut.update _ a _)) ⟨lt',xs',_,m',g2⟩))
  ·rw [tf]
   simp only [Bool.not_false,Bool.true_and,Bool.false_eq_true,↓reduceIte]
   rw [et] at g1 ⊢
   exact wpAny_pure (wpAny_pure (h _ _ (Heap.SameBut.update _ a _) ⟨lt',xs',_,m',g1⟩))
end
end PySem
namespace PySem
open PySem.Spec Builtin DL
def CJ (val:Nat->Nat):Nat->Nat
 | 0=>0
 | i+1=>CJ val i ||| 2 ^ val i
theorem zF (led:Bool):vD led 0=.fresh 0 0 led:=by cases led <;> rfl
abbrev CK (led:Bool):Obj:={cls:=.type "set",dict:=none,data:=.set #[] 0 (.fresh 0 0 led)}
section
variable {prog:Program} {w:World} {A:Around} {R:Result->Shared->Prop} {I:Addr} {fp wr:List Addr} {G:Array GenState->Array GenState->Prop} {n:Nat} {P:Nat->Value->Prop} {St:Nat->Shared->Prop}
theorem oA.keep {h h':Heap} {a:Addr} {led:Bool} {m:Nat} (x:oA h a led m) (k:∀ o,h.get? a=some o->h'.get? a=some o):oA h' a led m:=by
 obtain⟨hm,xs,ep,hx,g⟩:=x
 exact⟨hm,xs,ep,hx,k _ g⟩
theorem Ea (W:WalksS prog w A.in1 I fp wr G n P St) (S:Addr) (hSf:S∉fp) (led:Bool) (val:Nat->Nat) (hv:∀ i,val i < 7) (hval:∀ i v,P i v->∃ t,v=.int (val i:Nat) t):
  ∀ (k i:Nat) (s:Shared),n - i=k->i<=n->St i s->oA s.heap S led (CJ val i)->(∀ s',Moved (S::wr) G s s'->oA s'.heap S led (CJ val n)->R (.ok (.ret .none)) s')->
   codeAny (model prog w) A (.builtin "set.update.loop" ⟨[.ref S,.ref I],[]⟩) R s:=by
 have hSw:S∉wr:=fun h=>hSf (W.sub _ h)
 have hsub:∀ b∈wr,b∈S::wr:=fun b hb=>List.mem_cons_of_mem _ hb
 intro k
 induction k with
 | zero=>
  intro i s hk hi hst hS hR
  have hin:i=n:=by omega
  subst hin
  refine codeAny_builtin PyProof.Rows.F.entry_set_update_loop ?_
  rw [Around.under_plainId PyProof.Rows.F.plain_set_update_loop _]
  show wpAny _ A.in1 (pyNext (.ref I) >>= _) _ _ s
  refine wpAny_bind (W.done s _ _ hst fun s' hm=>?_)
  show wpAny _ A.in1 (ret Value.none) _ _ s'
  exact wpAny_pure (hR s' (hm.mono hsub) (hS.keep fun o e=>hm.heap S _ hSw e))
 | succ k ih=>
  intro i s hk hi hst hS hR
  have hlt:i < n:=by omega
  refine codeAny_builtin PyProof.Rows.F.entry_set_update_loop ?_
  rw [Around.under_plainId PyProof.Rows.F.plain_set_update_loop _]
  show wpAny _ A.in1 (pyNext (.ref I) >>= _) _ _ s
  refine wpAny_bind (W.item i s _ _ hlt hst fun v s' hP hst' hm=>?_)
  obtain⟨t,rfl⟩:=hval i v hP
  have hS':oA s'.heap S led (CJ val i):=hS.keep fun o e=>hm.heap S _ hSw e
  refine wpAny_bind (wpAny_holding ?_)
  unfold setAdd
  refine wpAny_holding (wpAny_bind ((intKind prog w).pyHash (k:=(val i:Nat)) (by simp [intKind,Value.isInt]) ?_))
  refine Fy (s:={s' with toks:=s'.toks+1}) hS' (hv i) fun b h' hsb hS2=>?_
  refine wpAny_pure ⟨plainId_quiet PyProof.Rows.F.plain_set_update_loop _,ih (i+1) _ (by omega) hlt (W.frame _ s' _ _ hst' (Nat.le_succ _) fun b hb o e=>?_) hS2 fun s'' hm'' hS''=>?_⟩
  ·rw [hsb.2 b (fun h:b=S=>hSf (by rw [<- h]; exact hb))]
   exact e
  ·refine hR s'' (Moved.trans W.gtrans ((hm.mono hsub).then_heap (Nat.le_succ _) fun b o hb e=>?_) hm'') hS''
   rw [hsb.2 b (fun h:b=S=>hb (by rw [h]; exact List.mem_cons_self))]
   exact e
end
section
variable {prog:Program} {w:World} {A:Around} {E:Value->Shared->Prop} {s:Shared}
theorem rm (a:Value) {Q₁:Value->Shared->Prop} (h:Q₁ (.ref s.heap.objs.size) {s with heap:=s.heap.push (CK (!w.params.followText "set-order"))}):
  codeAny (model prog w) A (.call (.builtin "set.__new__") ⟨[.type "set",a],[]⟩) (wants Q₁ E) s:=by
 refine codeAny_of_tree ?_
 show wpAny _ A.in1 (do checkBuiltinCall "set.__new__" ⟨[.type "set",a],[]⟩; again (.builtin "set.__new__" ⟨[.type "set",a],[]⟩)) _ _ s
 refine wpAny_bind (wpAny_of_eq (F.newCall_set_1 a) (wpAny_pure ⟨plainId_quiet F.plain_set_new _,codeAny_builtin F.entry_set_new ?_⟩))
 rw [Around.under_plainId F.plain_set_new _]
 unfold Builtin.«set.__new__» Builtin.Frozenset.newClass
 have hsub:=sub_set_self
 obtain⟨hp,g,d,tk,os⟩:=s
 dsimp only
 wp_walk
 refine wpAny_askSetting (wpAny_pure ?_)
 dsimp only
 simp only [newObj]
 exact wpAny_bind (wpAny_alloc (wpAny_pure (wpAny_pure h)))
set_option maxRecDepth 100000 in
set_option maxHeartbeats 3200000 in
theorem qv {l:Addr} {items:Array Value} {val:Nat->Nat} {led:Bool} {R:Result->Shared->Prop} (hh:A.handled=none) (hl:s.heap.IsList l items) (hv:∀ i,val i < 7) (hval:∀ (i:Nat) (v:Value),items[i]?=some v->∃ t,v=.int (val i:Nat) t)
  (h:∀ (h':Heap) (tk:Nat),oA h' s.heap.objs.size led (CJ val items.size)->(∀ b o,b < s.heap.objs.size->s.heap.get? b=some o->h'.get? b=some o)->R (.ok (.ret Value.none)) {s with heap:=h',toks:=tk}):
  wpAny (model prog w) A (Builtin.«set.__init__» ⟨[.ref s.heap.objs.size,.ref l],[]⟩) (fun fin s'=>∃ v,fin=Fin.done (Flow.ret v)/\R (.ok (.ret v)) s') (fun e s'=>R (.error e) s') {s with heap:=s.heap.push (CK led)}:=by
 obtain⟨⟨ocls,odict,odata,oslots⟩,hol,hcl,nl,hdl⟩:=id hl
 simp only at hcl hdl
 subst hcl hdl
 have hS:(s.heap.push (CK led)).get? s.heap.objs.size=some (CK led):=Heap.get?_push_size _ rfl
 have hol':=Heap.get?_push_of_some (h:=s.heap) (CK led) hol
 have s1:=F.sub_list_set
 have s2:=F.sub_list_frozenset
 have hne:(Value.type "list" == Value.type "dict")=false:=by decide
 unfold Builtin.«set.__init__» noKeywords Builtin.Frozenset.updateFrom
 generalize hPI:pyIter=PI
 wp_walk
 subst hPI
 have hl1:(s.heap.push (CK led)).IsList l items:=⟨_,hol',rfl,nl,rfl⟩
 have hlt:l < s.heap.objs.size:=Heap.lt_size hol
 have hsz:(s.heap.push (CK led)).objs.size=s.heap.objs.size+1:=Heap.size_push _ _
 refine wpAny_pyIter_list hl1 (wpAny_bind (wpAny_runValue ?_))
 refine Ea ((Walks.list (by simp [hh]) _ l (by rw [hsz]; exact Nat.ne_of_lt (Nat.lt_succ_of_lt hlt)) items).toS) s.heap.objs.size
  (by rw [hsz]; simp only [List.mem_cons,List.not_mem_nil,or_false,not_or]; exact⟨Nat.ne_of_lt (Nat.lt_succ_self _),Nat.ne_of_gt hlt⟩) led val hv hval (items.size - 0) 0 _ (by omega) (Nat.zero_le _)
  ⟨⟨_,Heap.get?_push_size _ rfl,rfl,rfl⟩,hl1.push _⟩ ?setA ?setB
 case setA=>
  exact⟨by show 0 < 128; decide,[],0,by show []=subM 0; decide,by rw [Heap.get?_push_of_some _ hS]; show some (CK led)=some (yW led 0 [] 0); unfold yW; rw [zF]; rfl⟩
 case setB=>
  rintro⟨h',g',d',tk',os'⟩ hm hS'
  cases (show g'=s.gens from hm.gens)
  cases (show d'=s.drawn from hm.drawn)
  cases (show os'=s.os from hm.os)
  refine wpAny_pure (wpAny_pure ⟨_,rfl,h h' tk' hS' fun b o hlb e=>?_⟩)
  refine hm.heap b o ?_ (Heap.get?_push_of_some _ (Heap.get?_push_of_some _ e))
  rw [hsz]
  simp only [List.mem_cons,List.not_mem_nil,or_false,not_or]
  exact⟨Nat.ne_of_lt hlb,Nat.ne_of_lt (Nat.lt_succ_of_lt hlb)⟩
set_option maxRecDepth 100000 in
set_option maxHeartbeats 3200000 in
theorem qi {l:Addr} {items:Array Value} {val:Nat->Nat} {Q:Value->Shared->Prop} (hh:A.handled=none) (hl:s.heap.IsList l items) (hv:∀ i,val i < 7) (hval:∀ (i:Nat) (v:Value),items[i]?=some v->∃ t,v=.int (val i:Nat) t)
  (h:∀ (h':Heap) (tk:Nat),oA h' s.heap.objs.size (!w.params.followText "set-order") (CJ val items.size)->(∀ b o,b < s.heap.objs.size->s.heap.get? b=some o->h'.get? b=some o)->Q (.ref s.heap.objs.size) {s with heap:=h',toks:=tk}):
  wpAny (model prog w) A (call (.type "set") [.ref l]) Q E s:=by
 obtain⟨c,tl,g1⟩:=F.called_set.mro
 have g2:=F.called_set.made
 have g3:=F.called_set.sub
 have g4:=F.called_set.notType
 have g5:=F.called_set.canCreate
 have g6:=F.typeCall_set_1 (.ref l)
 refine wpAny_call (codeAny_of_tree (show wpAny _ _ (callAny (.type "set") _) _ _ _ from wpAny_pure ⟨Code.quiet_builtin _ (by decide +kernel),codeAny_builtin F.entry_type_call ?_⟩))
 rw [Around.under_plain (weight_type_call_type "set" [.ref l] []) rfl]
 repeat (any_goals (first | assumption | wp_step))
 generalize hL:(!w.params.followText "set-order")=led at h
 refine codeAny_mono (rm (.ref l) (E:=E) (Q₁:=fun v t=>v=.ref s.heap.objs.size/\t={s with heap:=s.heap.push (CK led)}) ⟨rfl,by rw [hL]⟩) fun r t hr=>?_
 match r,hr with
 | .error e,hr=>exact hr
 | .ok (.ret v),⟨e1,e2⟩=>
  subst e1 e2
  have hT:Shared.TypeIs {s with heap:=s.heap.push (CK led)} (.ref s.heap.objs.size) "set":=⟨_,Heap.get?_push_size _ rfl,rfl⟩
  have g7:=F.called_set.init.lookup
  have g8:=F.called_set.init.bind (.ref s.heap.objs.size)
  repeat (any_goals (first | assumption | wp_step))
  refine codeAny_mono (codeAny_call_builtin (R:=wants (fun r t=>r=.none/\∃ h' tk,t={s with heap:=h',toks:=tk}/\Q (.ref s.heap.objs.size) {s with heap:=h',toks:=tk}) E) F.called_set.init.plain F.entry_set_init (check_set_init_1 hT ?_)) fun r2 t2 hr2=>?_
  ·refine wpAny_mono (qv (R:=wants (fun r t=>r=.none/\∃ h' tk,t={s with heap:=h',toks:=tk}/\Q (.ref s.heap.objs.size) {s with heap:=h',toks:=tk}) E) (by simp [hh]) hl hv hval fun h' tk a b=>⟨rfl,h',tk,rfl,h h' tk a b⟩) ?_ ?_
   ·rintro fin t ⟨v,rfl,q⟩
    exact q
   ·exact fun _ _ e=>e
  ·match r2,hr2 with
   | .error e,hr2=>exact hr2
   | .ok (.ret v),⟨e1,h',tk,e2,q⟩=>
    subst e1 e2
    repeat (any_goals (first | assumption | wp_step))
end
end PySem
namespace PySem
open Builtin DL
theorem gY:Slot "set_iterator" "__next__" "set_iterator.__next__":=
 .of (owner:="set_iterator") (n:="__next__") (by rw [typeLookup_type,builtinLookup_eq_fast]; kernel_rfl) (by decide +kernel) (by decide +kernel) (by decide +kernel)
  (by first | exact .inl (by decide +kernel) | exact .inr (by decide +kernel)) (by rw [isSubtype_type]; kernel_rfl)
theorem lN:entryFor table "set_iterator.__next__"=some Builtin.«set_iterator.__next__»:=entryFor_of_tree (by kernel_rfl)
theorem ux:Manifest.owners.lookup (String.ofList ['r','o','t','a','r','e','t','i','_','t','e','s'].reverse)=some Manifest.sig_set_iterator:=by kernel_rfl
theorem mY (a:Value):argsOk "set_iterator.__next__" ⟨[a],[]⟩:=by
 unfold argsOk; rw [signature?_of (id:="set_iterator.__next__") (n:=['_','_','t','x','e','n','_','_']) (o:=['r','o','t','a','r','e','t','i','_','t','e','s']) (by kernel_rfl) ux]; kernel_rfl
theorem mN:Slot "set_iterator" "__iter__" "set_iterator.__iter__":=
 .of (owner:="set_iterator") (n:="__iter__") (by rw [typeLookup_type,builtinLookup_eq_fast]; kernel_rfl) (by decide +kernel) (by decide +kernel) (by decide +kernel)
  (by first | exact .inl (by decide +kernel) | exact .inr (by decide +kernel)) (by rw [isSubtype_type]; kernel_rfl)
theorem qO:entryFor table "set_iterator.__iter__"=some Builtin.«dict_keyiterator.__iter__»:=entryFor_alias (id':="dict_keyiterator.__iter__") (by kernel_rfl) rfl (by decide +kernel) (by kernel_rfl)
theorem t7 (a:Value):argsOk "set_iterator.__iter__" ⟨[a],[]⟩:=by
 unfold argsOk; rw [signature?_of (id:="set_iterator.__iter__") (n:=['_','_','r','e','t','i','_','_']) (o:=['r','o','t','a','r','e','t','i','_','t','e','s']) (by kernel_rfl) ux]; kernel_rfl
theorem rh:entryFor table "set.__iter__"=some Builtin.«frozenset.__iter__»:=entryFor_alias (id':="frozenset.__iter__") (by kernel_rfl) rfl (by decide +kernel) (by kernel_rfl)
theorem qu {α:Type}:∀ (l:List α) (i:Nat) (h:i < l.length),(l[i]::l.eraseIdx i).Perm l
 | _::_,0,_=>List.Perm.refl _
 | x::l,i+1,h=>(List.Perm.swap _ _ _).trans (List.Perm.cons x (qu l i (by simpa using h)))
theorem z_ {α:Type} (next:Nat->Nat):∀ (fuel k:Nat) (left:List α) (out:Array α),fuel=left.length->(pickOrder.go next fuel k left out).toList.Perm (out.toList++left)
 | 0,_,[],out,_=>by
  unfold pickOrder.go
  rw [List.append_nil]
 | fuel+1,k,x::left,out,e=>by
  have lt:next k % (x::left).length < (x::left).length:=Nat.mod_lt _ (by simp)
  unfold pickOrder.go
  rw [List.getElem?_eq_getElem lt]
  refine(z_ next fuel (k+1) _ _ (by rw [List.length_eraseIdx_of_lt lt]; omega)).trans ?_
  rw [Array.toList_push,List.append_assoc]
  exact List.Perm.append_left _ (qu _ _ lt)
theorem xW {α:Type} (next:Nat->Nat) (xs:Array α):(pickOrder next xs).toList.Perm xs.toList:=z_ next xs.size 0 xs.toList #[] rfl
def HA (sl i:Nat) (a:Addr) (n ep:Nat):Obj:={cls:=.type "set_iterator",dict:=none,data:=.fields #[.int sl 0,.int i 0,.ref a,.int n 0,.int ep 0],slots:=#[]}
def tm (w:World) (a:Addr) (ep:Nat) (xs:List Sx):Array (Int×Value):=if w.params.followText "set-order" then pickOrder (w.params.setOrder a ep) (jg xs) else jg xs
theorem pW (w:World) (a:Addr) (ep:Nat) (xs:List Sx):(tm w a ep xs).toList.Perm (jg xs).toList:=by
 unfold tm
 split
 ·exact xW _ _
 ·exact List.Perm.refl _
theorem k8 (w:World) (a:Addr) (ep:Nat) (xs:List Sx):(tm w a ep xs).size=xs.length:=by
 rw [<- fk,<- Array.length_toList,<- Array.length_toList]
 exact(pW w a ep xs).length_eq
section
variable {prog:Program} {w:World} {A:Around} {E:Value->Shared->Prop} {s:Shared} {a it:Addr} {m ep sl i:Nat} {xs:List Sx}
theorem qj {Q:Option (Value×Nat)->Shared->Prop} (hm:m < 128) (hx:xs.map (·.1)=subM m) (ho:s.heap.get? a=some (yW (!w.params.followText "set-order") m xs ep)) (hsl:w.params.followText "set-order"=false->sl=E5 m i) (hi:i<=xs.length)
  (h:∀ sl',(w.params.followText "set-order"=false->sl'=E5 m (i+1))->Q ((tm w a ep xs)[i]?.map fun e=>(e.2,sl')) s):wpAny (model prog w) A (setNext a sl i ep) Q E s:=by
 have hf:=ku (!w.params.followText "set-order") hm hx
 unfold setNext
 refine wpAny_bind (wpAny_setState_of ho rfl hf ?_)
 dsimp only
 unfold setsByText
 refine wpAny_bind (wpAny_bind (wpAny_askSetting (wpAny_pure ?_)))
 dsimp only
 cases hF:w.params.followText "set-order" with
 | true=>
  rw [show (model prog w).w.params.followText "set-order"=true from hF,if_pos rfl,if_neg (by simp)]
  unfold setWalk
  refine wpAny_bind (wpAny_bind (wpAny_setState_of ho rfl hf ?_))
  dsimp only
  unfold setsByText
  refine wpAny_bind (wpAny_bind (wpAny_askSetting (wpAny_pure ?_)))
  dsimp only
  rw [show (model prog w).w.params.followText "set-order"=true from hF,if_pos rfl]
  refine wpAny_bind (wpAny_askSetting (wpAny_pure (wpAny_pure ?_)))
  have z:=h sl (by rw [hF]; intro q; cases q)
  unfold tm at z
  rw [hF,if_pos rfl] at z
  exact z
 | false=>
  rw [show (model prog w).w.params.followText "set-order"=false from hF,if_neg (by simp)]
  refine wpAny_ite_split (fun z=>absurd (show false=true from z) Bool.false_ne_true) (fun _=>?_)
  refine wpAny_bind (wpAny_ite_split (fun z=>absurd (show (false && !(jg xs).isEmpty)=true from z) (by simp)) (fun _=>wpAny_pure ?_))
  have l8:i < 8:=by
   have:=lf hm hx
   rw [fk] at this
   omega
  have ln:(subM m).length=xs.length:=by rw [<- hx,List.length_map]
  have eb:SetTable.below (subM m).toArray sl=i:=by
   rw [hsl hF]
   exact CF m (List.mem_range.mpr hm) i (List.mem_range.mpr l8) (by omega)
  have ew:tm w a ep xs=jg xs:=by unfold tm; rw [hF]; rfl
  rw [ew] at h
  show wpAny _ _ (pure (match (jg xs)[SetTable.below (subM m).toArray sl]?,(subM m).toArray[SetTable.below (subM m).toArray sl]? with | some (_,x),some j=>some (x,j+1) | _,_=>none)) _ _ _
  rw [eb]
  have z:=h (E5 m (i+1)) fun _=>rfl
  by_cases lt:i < xs.length
  ·have e1:(jg xs)[i]?=some ((xs[i].1:Int),Value.int xs[i].1 xs[i].2):=by simp [jg,lt]
   have e2:(subM m).toArray[i]?=some ((subM m).getD i 0):=by
    rw [List.getElem?_toArray,List.getD_eq_getElem?_getD,List.getElem?_eq_getElem (by omega)]
    rfl
   rw [e1] at z ⊢
   rw [e2]
   exact wpAny_pure z
  ·have e1:(jg xs)[i]?=none:=by simp [jg]; omega
   rw [e1] at z ⊢
   exact wpAny_pure z
theorem LF {Q:Value->Shared->Prop} (hm:m < 128) (hx:xs.map (·.1)=subM m) (led:Bool) (ho:s.heap.get? a=some (yW led m xs ep)) (h:Q (.ref s.heap.objs.size) {s with heap:=s.heap.push (HA 0 0 a xs.length ep)}):wpAny (model prog w) A (pyIter (.ref a)) Q E s:=by
 have T:s.TypeIs (.ref a) "set":=⟨_,ho,rfl⟩
 have hf:=ku led hm hx
 refine wpAny_pyIter_slot T F.slot_set_iter (wpAny_call_entry F.slot_set_iter T rh ?_ (F.args_set_iter_1 _))
 unfold Builtin.«frozenset.__iter__» Builtin.Frozenset.slot0 slotArgs
 simp only [List.isEmpty_nil,Bool.not_true,Bool.false_eq_true,↓reduceIte,bind_assoc,List.length_nil,bne_self_eq_false]
 unfold Builtin.Frozenset.addrOf Builtin.Frozenset.sizeOf
 refine wpAny_bind (wpAny_pure ?_)
 try dsimp only
 refine wpAny_bind (wpAny_pure ?_)
 refine wpAny_bind (wpAny_bind (wpAny_setEntries_of ho rfl hf (wpAny_pure ?_)))
 unfold setDrawn setsByText
 refine wpAny_bind (wpAny_bind (wpAny_setState_of ho rfl hf ?_))
 refine wpAny_bind (wpAny_bind (wpAny_askSetting (wpAny_pure (wpAny_pure ?_))))
 refine wpAny_ite_split (fun z=>absurd (show (!w.params.followText "set-order" && false)=true from z) (by simp)) (fun _=>wpAny_bind (wpAny_pure (wpAny_bind (wpAny_setEpoch_of ho rfl hf ?_))))
 refine wpAny_bind (wpAny_newObj_type (wpAny_pure ⟨_,rfl,"set_iterator",_,⟨_,Heap.get?_push_size _ rfl,rfl⟩,gY.lookup,?_⟩))
 rw [fk]
 exact h
theorem LV (it a:Addr) (m ep sl i:Nat) (xs:List Sx) (hm:m < 128) (hx:xs.map (·.1)=subM m) (hsl:w.params.followText "set-order"=false->sl=E5 m i) (e:Int×Value) (he:(tm w a ep xs)[i]?=some e):
  MeetsIn prog w (Builtin.«set_iterator.__next__» ⟨[.ref it],[]⟩) (fun _ R s=>s.heap.get? it=some (HA sl i a xs.length ep)/\s.heap.get? a=some (yW (!w.params.followText "set-order") m xs ep)/\
   ∀ sl' h',(w.params.followText "set-order"=false->sl'=E5 m (i+1))->h'.get? it=some (HA sl' (i+1) a xs.length ep)->(∀ b o,b≠it->s.heap.get? b=some o->h'.get? b=some o)->R (.ok (.ret e.2)) {s with heap:=h'}):=
 .of_wp fun A R s h=>by
  obtain⟨hp,g,dr,tk,os⟩:=s
  obtain⟨h1,h2,h⟩:=h
  have hf:=ku (!w.params.followText "set-order") hm hx
  have hi:i<=xs.length:=by
   have:=(Array.getElem?_eq_some_iff.mp he).1
   rw [k8] at this
   omega
  unfold Builtin.«set_iterator.__next__» slotArgs
  simp only [List.isEmpty_nil,Bool.not_true,Bool.false_eq_true,↓reduceIte,bind_assoc,List.length_nil,bne_self_eq_false]
  refine wpAny_bind (wpAny_pure ?_)
  refine wpAny_bind (wpAny_fieldsOf h1 rfl ?_)
  show wpAny _ _ (setEntries a >>= _) _ _ _
  refine wpAny_bind (wpAny_setEntries_of h2 rfl hf ?_)
  refine wpAny_ite_split (fun z=>absurd z (by rw [fk]; simp)) (fun _=>?_)
  refine wpAny_bind (qj (sl:=sl) (i:=i) (ep:=ep) hm hx h2 hsl hi fun sl' q=>?_)
  rw [he]
  refine wpAny_bind (m:=setField (.ref it) 0 (rawInt sl')) (wpAny_setField_rec h1 (by simp) fun k1 a1 b1=>wpAny_bind (m:=setField (.ref it) 1 (rawInt ((i:Int)+1))) (wpAny_setField_rec a1 (by simp) fun k2 a2 b2=>wpAny_pure ⟨_,rfl,h sl' k2 q a2 (fun b o nb x=>b2.extBut b o nb (b1.extBut b o nb x))⟩))
theorem Ls (it a:Addr) (m ep sl i:Nat) (xs:List Sx) (hm:m < 128) (hx:xs.map (·.1)=subM m) (hsl:w.params.followText "set-order"=false->sl=E5 m i) (hi:i=xs.length):
  MeetsIn prog w (Builtin.«set_iterator.__next__» ⟨[.ref it],[]⟩) (fun A R s=>A.handled=none/\s.heap.get? it=some (HA sl i a xs.length ep)/\s.heap.get? a=some (yW (!w.params.followText "set-order") m xs ep)/\
   (∀ h' e,Heap.ExtBut it s.heap h'->(∃ o,h'.get? e=some o/\o.cls=.type "StopIteration")->R (.error (.ref e)) {s with heap:=h'})):=
 .of_wp fun A R s h=>by
  obtain⟨hp,g,dr,tk,os⟩:=s
  obtain⟨h0,h1,h2,h⟩:=h
  have hf:=ku (!w.params.followText "set-order") hm hx
  have he:(tm w a ep xs)[i]?=none:=by rw [Array.getElem?_eq_none_iff,k8]; omega
  unfold Builtin.«set_iterator.__next__» slotArgs
  simp only [List.isEmpty_nil,Bool.not_true,Bool.false_eq_true,↓reduceIte,bind_assoc,List.length_nil,bne_self_eq_false]
  refine wpAny_bind (wpAny_pure ?_)
  refine wpAny_bind (wpAny_fieldsOf h1 rfl ?_)
  show wpAny _ _ (setEntries a >>= _) _ _ _
  refine wpAny_bind (wpAny_setEntries_of h2 rfl hf ?_)
  refine wpAny_ite_split (fun z=>absurd z (by rw [fk]; simp)) (fun _=>?_)
  refine wpAny_bind (qj (sl:=sl) (i:=i) (ep:=ep) hm hx h2 hsl (by omega) fun sl' q=>?_)
  rw [he]
  refine wpAny_bind (m:=setField (.ref it) 2 .none) (wpAny_setField_rec h1 (by simp) fun k1 a1 b1=>?_)
  wp_walk
  unfold raiseNew
  refine wpAny_bind (wpAny_handled ?_)
  rw [show A.in1.handled=none from h0]
  exact wpAny_bind (wpAny_pure (wpAny_throw (h _ _ (fun b o nb x=>Heap.get?_push_of_some _ (Heap.get?_push_of_some _ (b1.extBut b o nb x))) ⟨_,Heap.get?_push_size _ rfl,rfl⟩)))
theorem C1 {n:Nat} {Q:Value->Shared->Prop} (h1:s.heap.get? it=some (HA sl i a n ep)) (h:Q (.ref it) s):wpAny (model prog w) A (pyIter (.ref it)) Q E s:=by
 have T:s.TypeIs (.ref it) "set_iterator":=⟨_,h1,rfl⟩
 refine wpAny_pyIter_slot T mN (wpAny_call_entry mN T qO ?_ (t7 _))
 exact wpAny_pure ⟨_,rfl,"set_iterator",_,T,gY.lookup,h⟩
theorem BY (hh:A.handled=none) (I a:Addr) (ne:a≠I) (m ep:Nat) (xs:List Sx) (hm:m < 128) (hx:xs.map (·.1)=subM m):Walks prog w A I [I,a] [I] xs.length (fun i v=>∃ e,(tm w a ep xs)[i]?=some e/\v=e.2)
  (fun i h=>(∃ sl,(w.params.followText "set-order"=false->sl=E5 m i)/\h.get? I=some (HA sl i a xs.length ep))/\h.get? a=some (yW (!w.params.followText "set-order") m xs ep)) where
 sub:=fun b hb=>by simp at hb; simp [hb]
 frame:=fun _ _ _ ⟨⟨sl,q,st⟩,st2⟩ k=>⟨⟨sl,q,k I (by simp) _ st⟩,k a (by simp) _ st2⟩
 item:=fun i s Q E hi ⟨⟨sl,q,st⟩,st2⟩ fin=>by
  have lt:i < (tm w a ep xs).size:=by rw [k8]; exact hi
  have he:(tm w a ep xs)[i]?=some (tm w a ep xs)[i]:=by simp [lt]
  exact iM gY ⟨_,st,rfl⟩ lN (mY _) (LV I a m ep sl i xs hm hx q _ he) ⟨st,st2,fun sl' h' q' g k=>fin _ h' s.toks ⟨_,he,rfl⟩ ⟨⟨sl',q',g⟩,k _ _ ne st2⟩ fun b o hb x=>k b o (fun z=>hb (by simp [z])) x⟩
 done:=fun s Q E ⟨⟨sl,q,st⟩,st2⟩ fin=>iM gY ⟨_,st,rfl⟩ lN (mY _) (Ls I a m ep sl _ xs hm hx q rfl) ⟨hh,st,st2,fun h' e x ⟨o,y1,y2⟩=>⟨⟨e,o,rfl,y1,y2⟩,fin h' s.toks fun b o hb z=>x b o (fun y=>hb (by simp [y])) z⟩⟩
 self:=fun _ _ _ _ ⟨⟨sl,q,st⟩,st2⟩ z=>C1 st z
theorem C3 {r:Addr} {Q:Bool->Shared->Prop} (hT:s.TypeIs (.ref r) "set") (h:Q false s):wpAny (model prog w) A (Builtin.List.listLengthHint (.ref r)) Q E s:=by
 unfold Builtin.List.listLengthHint
 refine wpAny_bind (wpAny_specialOf hT F.slot_set_len.lookup ?_)
 generalize hid:("set.__len__":String)=id0
 wp_delta
 rw [show splitId id0=some ("set","__len__") from by subst hid; decide +kernel]
 subst hid
 refine wpAny_bind (wpAny_isInstance (T:="set") (b:=true) hT (by rw [isSubtype_type]; kernel_rfl) ?_)
 refine wpAny_ite_split (fun hab=>absurd hab (by decide)) (fun _=>?_)
 refine wpAny_ite_split (fun _=>?_) (fun hab=>absurd (by decide +kernel) hab)
 refine wpAny_bind (wpAny_typeOf hT ?_)
 exact wpAny_pure h
theorem Hu (hm:m < 128) (hx:xs.map (·.1)=subM m):PySem.W.KdlSrc prog w "set" a a xs.length (fun i v=>∃ e,(tm w a ep xs)[i]?=some e/\v=e.2) (fun h=>h.get? a=some (yW (!w.params.followText "set-order") m xs ep)) where
 type:=fun s ok=>⟨_,ok,rfl⟩
 there:=fun h ok=>⟨Heap.lt_size ok,Heap.lt_size ok⟩
 keep:=fun h h' ok k=>k a (.inl rfl) _ ok
 notList:=by decide
 notTuple:=by decide
 hint:=fun A E s Q ok q=>C3 ⟨_,ok,rfl⟩ q
 iter:=fun A s hh ok=>⟨HA 0 0 a xs.length ep,_,fun E Q q=>LF hm hx _ ok q,BY hh s.heap.objs.size a (Nat.ne_of_lt (Heap.lt_size ok)) m ep xs hm hx,⟨0,fun _=>rfl,Heap.get?_push_size _ rfl⟩,Heap.get?_push_of_some _ ok⟩
end
end PySem
namespace PySem
open Builtin DL PyProof.Rows
section
variable {prog:Program} {w:World} {A:Around} {E:Value->Shared->Prop} {s:Shared} {a it:Addr} {m ep:Nat} {xs:List Sx}
theorem uf {R:Result->Shared->Prop} (hh:A.handled=none) (hm:m < 128) (hx:xs.map (·.1)=subM m) (ho:s.heap.get? a=some (yW (!w.params.followText "set-order") m xs ep))
  (h:∀ h' tk acc c',(∀ b o,s.heap.get? b=some o->h'.get? b=some o)->h'.get? s.heap.objs.size=some {cls:=.type "list",dict:=none,data:=.seq acc c',slots:=#[]}->ItemsOf (fun i v=>∃ e,(tm w a ep xs)[i]?=some e/\v=e.2) acc xs.length->R (.ok (.ret (.ref s.heap.objs.size))) {s with heap:=h',toks:=tk}):
  codeAny (model prog w) A (.builtin "proto.collect" ⟨[.ref a],[]⟩) R s:=by
 have la:=Heap.lt_size ho
 have hz:xs.length<=sizeLine:=by
  have:=lf hm hx
  rw [fk] at this
  exact fits_of_scanBound (by unfold scanBound; omega)
 refine codeAny_builtin F.entry_proto_collect ?_
 rw [Around.under_plainId F.plain_proto_collect _]
 show wpAny _ A.in1 (newList [] >>= fun l=>again (.builtin "list.__iadd__" ⟨[l,.ref a],[]⟩)) _ _ s
 refine wpAny_bind (wpAny_newObj_type ?_)
 refine wpAny_pure ⟨plainId_quiet F.plain_list_iadd _,codeAny_builtin F.entry_list_iadd ?_⟩
 rw [Around.under_plainId F.plain_list_iadd _]
 have ho1:(s.heap.push {cls:=.type "list",data:=.seq ([]:List Value).toArray}).get? a=some (yW (!w.params.followText "set-order") m xs ep):=Heap.get?_push_of_some _ ho
 have hS1:(s.heap.push {cls:=.type "list",data:=.seq ([]:List Value).toArray}).get? s.heap.objs.size=some {cls:=.type "list",data:=.seq #[] 0}:=Heap.get?_push_size _ rfl
 exact PySem.W.kdl_extend (R:=R) (s:={s with heap:=s.heap.push {cls:=.type "list",data:=.seq ([]:List Value).toArray}}) (Hu hm hx) hh ho1 s.heap.objs.size (Nat.ne_of_gt la) (Nat.ne_of_gt la) _ 0 hS1 (fun h' tk acc c' kk gn itm=>h h' tk acc c' (fun b o e=>kk b o (Nat.ne_of_lt (Heap.lt_size e)) (Heap.get?_push_of_some _ e)) gn itm) hz
theorem wj {Q:List Value->Shared->Prop} (hh:A.handled=none) (hm:m < 128) (hx:xs.map (·.1)=subM m) (ho:s.heap.get? a=some (yW (!w.params.followText "set-order") m xs ep))
  (h:∀ h' tk acc,(∀ b o,s.heap.get? b=some o->h'.get? b=some o)->s.heap.objs.size < h'.objs.size->ItemsOf (fun i v=>∃ e,(tm w a ep xs)[i]?=some e/\v=e.2) acc xs.length->Q acc.toList {s with heap:=h',toks:=tk}):wpAny (model prog w) A (collect (.ref a)) Q E s:=by
 unfold collect
 refine wpAny_bind (wpAny_runValue (uf hh hm hx ho fun h' tk acc c' kk gn itm=>?_))
 show wpAny _ A (load s.heap.objs.size >>= _) _ _ _
 refine wpAny_bind (wpAny_load gn ?_)
 exact wpAny_pure (h h' tk acc kk (Heap.lt_size gn) itm)
theorem qH:∀ l:List (Int×Value),(∀ e∈l,∃ t,e.2=.int e.1 t)->IntsAre (l.map (·.2)) (l.map (·.1))
 | [],_=>.nil
 | e::l,h=>by
  obtain⟨t,q⟩:=h e (by simp)
  rw [List.map_cons,List.map_cons,q]
  exact .cons _ _ (qH l fun x hx=>h x (by simp [hx]))
theorem ot:∀ (l l':List Int),l.Perm l'->l.Pairwise (·<=·)->l'.Pairwise (·<=·)->l=l'
 | [],l',p,_,_=>(List.Perm.nil_eq p)
 | x::l,[],p,_,_=>absurd p.length_eq (by simp)
 | x::l,y::l',p,s1,s2=>by
  have hx:x∈y::l':=p.mem_iff.mp (by simp)
  have hy:y∈x::l:=p.mem_iff.mpr (by simp)
  have e:x=y:=by
   rcases List.mem_cons.mp hx with q | q
   ·exact q
   rcases List.mem_cons.mp hy with r | r
   ·exact r.symm
   exact Int.le_antisymm ((List.pairwise_cons.mp s1).1 y r) ((List.pairwise_cons.mp s2).1 x q)
  subst e
  rw [ot l l' (List.Perm.cons_inv p) (List.pairwise_cons.mp s1).2 (List.pairwise_cons.mp s2).2]
def subI (m:Nat):List Int:=(subM m).map fun(v:Nat)=>(v:Int)
theorem xr (m:Nat):(subI m).Pairwise (· < ·):=by
 unfold subI subM
 rw [List.pairwise_map]
 exact(List.Pairwise.filter _ List.pairwise_lt_range).imp fun h=>by omega
theorem xU {Q:Value->Shared->Prop} (hh:A.handled=none) (hm:m < 128) (hx:xs.map (·.1)=subM m) (ho:s.heap.get? a=some (yW (!w.params.followText "set-order") m xs ep))
  (h:∀ h' tk l vs e,s.heap.objs.size<=l->(∀ b o,s.heap.get? b=some o->h'.get? b=some o)->h'.get? l=some (seqObj "list" vs e)->IntsAre vs.toList (subI m)->Q (.ref l) {s with heap:=h',toks:=tk}):
  wpAny (model prog w) A (call (.builtin "sorted") [.ref a]) Q E s:=by
 refine Calls.call_function_entry kind_sorted plain_sorted entry_sorted (args_sorted1 _) ?_
 unfold Builtin.«sorted»
 refine wpAny_bind (m:=checkCount "sorted" 1 1 _) (wpAny_pure ?_)
 refine wpAny_bind (wj (A:=A.in1) hh hm hx ho fun h1 tk acc kk sz itm=>?_)
 have ev:acc.toList=(tm w a ep xs).toList.map (·.2):=by
  obtain⟨l1,l2⟩:=itm
  apply List.ext_getElem?
  intro i
  rw [Array.getElem?_toList,List.getElem?_map,Array.getElem?_toList]
  cases q1:acc[i]? with
  | none=>
   have:acc.size<=i:=by simpa using q1
   rw [Array.getElem?_eq_none (by rw [k8]; omega)]
   rfl
  | some v=>
   obtain⟨e,he,rfl⟩:=l2 i v q1
   rw [he]
   rfl
 have hI:IntsAre acc.toList ((tm w a ep xs).toList.map (·.1)):=by
  rw [ev]
  refine qH _ fun e he=>?_
  have:=(pW w a ep xs).mem_iff.mp he
  simp only [jg,List.mem_map] at this
  obtain⟨x,_,rfl⟩:=this
  exact⟨x.2,rfl⟩
 have hp:((tm w a ep xs).toList.map (·.1)).Perm (subI m):=by
  refine((pW w a ep xs).map _).trans (List.Perm.of_eq ?_)
  unfold subI
  rw [<- hx]
  simp only [jg,List.map_map]
  rfl
 have hl:acc.toList.length < 64:=by
  have:=qJ hm
  rw [ev,List.length_map,Array.length_toList,k8,<- List.length_map (f:=(·.1)),hx]
  omega
 refine wpAny_bind (wpAny_newList ?_)
 have hoL:(h1.push (seqObj "list" acc.toList.toArray 0)).get? h1.objs.size=some (seqObj "list" acc.toList.toArray 0):=Heap.get?_push_size _ rfl
 refine wpAny_bind (wpAny_holding (wpAny_call_entry slot_list_sort ⟨_,hoL,rfl⟩ entry_list_sort (list_sort_tree hoL hI hl fun out ns' a1 a2 a3=>⟨_,rfl,?_⟩) (args_list_sort _)))
 have e:ns'=subI m:=ot _ _ (a2.trans hp) a3 ((xr m).imp fun h=>Int.le_of_lt h)
 subst e
 obtain⟨ep',g⟩:=sortedHeap_at (out:=out) hoL
 refine wpAny_pure ⟨_,rfl,h _ tk _ out ep' (Nat.le_of_lt sz) (fun b o x=>?_) g a1⟩
 have lb:=Heap.lt_size (kk b o x)
 rw [sortedHeap_old (Nat.ne_of_lt lb) (by rw [size_push']; exact Nat.lt_succ_of_lt lb)]
 exact Heap.get?_push_of_some _ (kk b o x)
end
end PySem
namespace L2
open PySem PySem.Spec PyProof.Rows
def HW (led:Bool) (p:Addr) (m:Nat):Heap->Prop:=fun h=>oA h p led m
def yp (ns:List Int) (i:Nat):Nat:=(ns.getD i 0).toNat
def AE (ns:List Int):Nat:=CJ (yp ns) ns.length
theorem sY (val:Nat->Nat) (v:Nat):∀ k,(CJ val k).testBit v=true↔∃ i,i < k/\val i=v
 | 0=>by simp [CJ]
 | k+1=>by
  show(CJ val k ||| 2 ^ val k).testBit v=true↔_
  rw [Nat.testBit_or,Bool.or_eq_true,sY val v k,Nat.testBit_two_pow,decide_eq_true_eq]
  constructor
  ·rintro(⟨i,h1,h2⟩ | h)
   ·exact⟨i,by omega,h2⟩
   ·exact⟨k,by omega,h⟩
  ·rintro⟨i,h1,h2⟩
   by_cases e:i=k
   ·subst e; exact .inr h2
   ·exact .inl ⟨i,by omega,h2⟩
def m_ (ns:List Int):List Int:=subI (AE ns)
theorem DU (ns:List Int):(m_ ns).Pairwise (· < ·):=xr _
theorem ke {ns:List Int} (hb:∀ n∈ns,0<=n/\n < 7) {v:Int}:v∈m_ ns↔v∈ns:=by
 unfold m_ subI
 simp only [List.mem_map,mR]
 constructor
 ·rintro⟨u,⟨_,h2⟩,rfl⟩
  obtain⟨i,hi,e⟩:=(sY _ _ _).mp h2
  have e1:ns.getD i 0=ns[i]:=by rw [List.getD_eq_getElem?_getD,List.getElem?_eq_getElem hi]; rfl
  have m1:ns[i]∈ns:=List.getElem_mem hi
  have b1:=hb _ m1
  unfold yp at e
  rw [e1] at e
  have:(u:Int)=ns[i]:=by omega
  rw [this]
  exact m1
 ·intro h
  obtain⟨i,hi,e⟩:=List.getElem_of_mem h
  have b1:=hb _ h
  have e1:ns.getD i 0=v:=by rw [List.getD_eq_getElem?_getD,List.getElem?_eq_getElem hi,<- e]; rfl
  exact⟨v.toNat,⟨by omega,(sY _ _ _).mpr ⟨i,hi,by unfold yp; rw [e1]⟩⟩,by omega⟩
section
variable {X:Cx}
theorem yS (hc:X.calm=true):cA X (.type "set") (fun xs H Q=>∃ a ns,xs=[.ref a]/\jf X.K H a (ns.map V.int)/\(∀ n∈ns,0<=n/\n < 7)/\∀ p,H p=none->Q (.ref p) (bJ H p (.ext (HW (!X.w.params.followText "set-order") p (AE ns))))):=by
 intro pins s σ H xs us Q I r h
 obtain⟨a,ns,rfl,hq,hb,q⟩:=h
 obtain⟨u,rfl,rx⟩:=j8 r
 cases rx
 obtain⟨its,r',pl,hz⟩:=I.list hq
 have hlen:=r'.length
 rw [List.length_map] at hlen
 have hI:IntsAre its ns:=wv r'
 have nb:∀ i,0<=ns.getD i 0/\ns.getD i 0 < 7:=fun i=>by
  rw [List.getD_eq_getElem?_getD]
  cases e:ns[i]? with
  | none=>exact⟨by decide,by decide⟩
  | some v=>exact hb v (List.mem_of_getElem? e)
 refine qi (val:=yp ns) (I.ok.hd hc) pl.isList (fun i=>?_) (fun i v hv=>?_) fun h' tk hS kp=>?_
 ·have:=nb i
  unfold yp
  omega
 ·obtain⟨t,rfl⟩:=IntsAre.int_at hI i v (by simpa using hv)
  have:=nb i
  refine⟨t,?_⟩
  unfold yp
  rw [Int.toNat_of_nonneg this.1]
 have e:its.toArray.size=ns.length:=by rw [List.size_toArray]; exact hlen.symm
 rw [e] at hS
 have hS':HW (!X.w.params.followText "set-order") s.heap.objs.size (AE ns) h':=hS
 obtain⟨_,_,_,_,g⟩:=id hS
 exact⟨.ref s.heap.objs.size,_,I.laid (o:=.ext (HW (!X.w.params.followText "set-order") s.heap.objs.size (AE ns))) (t':=tk) (fun b o z=>kp b o (Heap.lt_size z) z) (Nat.le_refl _) ⟨hS',⟨_,g⟩,fun h1 h2 z k=>oA.keep z fun o e=>k o e⟩,rfl,q _ (I.hok.fresh (Nat.le_refl _))⟩
theorem wt (hc:X.calm=true):cA X (.builtin "sorted") (fun xs H Q=>∃ p m,xs=[.ref p]/\H p=some (.ext (HW (!X.w.params.followText "set-order") p m))/\∀ q,H q=none->Q (.ref q) (bJ H q (.lst ((subI m).map V.int)))):=by
 intro pins s σ H xs us Q I r h
 obtain⟨p,m,rfl,e1,q⟩:=h
 obtain⟨u,rfl,rx⟩:=j8 r
 cases rx
 obtain⟨hm,ys,ep,hx,g⟩:=(I.hok p _ e1).1
 refine xU (I.ok.hd hc) hm hx g fun h' tk l vs e le kk gl ia=>?_
 have hl:((subI m).map V.int).length<=sizeLine:=by
  have:=qJ hm
  unfold subI
  rw [List.length_map,List.length_map]
  exact fits_of_scanBound (by unfold scanBound; omega)
 exact⟨.ref l,_,I.laid (a:=l) (o:=.lst ((subI m).map V.int)) (t':=tk) kk le ⟨hl,vs.toList,e,qr ia,by simpa using gl⟩,rfl,q l (I.hok.fresh le)⟩
end
end L2
namespace DL
open PySem PySem.Spec PyProof.Rows L2
def A6 (g:DE):DE:=fun L S k=>g L S fun d S1=>match d with
 | .ref a=>∃ ns:List Int,S1 a=some (.lst (ns.map D.int))/\(∀ n∈ns,0<=n/\n < 7)/\∀ p,S1 p=none->k (.ref p) (put S1 p (.lst ((m_ ns).map D.int)))
 | _=>False
theorem vQ {X:Cx} {e:Expr} {g:DE} {p1 p2 pos1 pos2:Pos} (hc:X.calm=true) (hg1:Gl X "sorted") (hm1:X.mg "sorted"=none) (hv1:bootBuiltins "sorted"=some (.builtin "sorted")) (hg2:Gl X "set") (hm2:X.mg "set"=none) (hv2:bootBuiltins "set"=some (.type "set")) (he:EJ X e g)
  (s1:starEach [e] X.env=(false,eval e X.env)::starEach [] X.env:=by exact bW rfl) (s2:(backTo pos2 (starEach [] X.env)).any (·.1)=false:=by exact eE rfl)
  (s3:starEach [.Call (.Name "set" p2) [e] [] pos2] X.env=(false,eval (.Call (.Name "set" p2) [e] [] pos2) X.env)::starEach [] X.env:=by exact bW rfl) (s4:(backTo pos1 (starEach [] X.env)).any (·.1)=false:=by exact eE rfl):
  EJ X (.Call (.Name "sorted" p1) [.Call (.Name "set" p2) [e] [] pos2] [] pos1) (A6 g):=
 ⟨PE.imp (uH (wt hc) hg1 hm1 hv1 (nv (nL (yS hc) hg2 hm2 hv2 (nv he.h pR s1) (by decide) (by decide) s1 s2) pR s3) (by decide) (by decide) s3 s4) fun σ H Q ⟨L,S,k,hL,hS,h,n⟩=>up.go hL hS h fun d S1 v H1 h1 k1 hL1 hS1 i1=>by
  cases d with
  | ref a=>
   obtain⟨ns,g1,hb,w⟩:=h1
   have ex:=aP.mp i1
   subst ex
   obtain⟨vs,q1,j⟩:=hS1.lst g1
   have e:=jB j
   subst e
   refine⟨a,ns,rfl,jf.of q1,hb,fun p hp=>⟨p,_,rfl,bC,fun q hq=>?_⟩⟩
   have hS2:=hS1.new (o:=.ext (HW (!X.w.params.followText "set-order") p (AE ns))) hp
   exact n _ _ _ _ (w q (hS2.free hq)) ((k1.trans (Kp.new hp)).trans (Kp.new hq)) (hS2.newL hq qF) (aP.mpr rfl)
  | _=>exact(show False from h1).elim⟩
def uJ (kvs:List (dG×D)) (k:dG):Option D:=(kvs.find? fun kv=>decide (kv.1=k)).map (·.2)
def Ao (kvs:List (dG×D)) (k:dG) (d:D):List (dG×D):=if (kvs.any fun kv=>decide (kv.1=k))=true then kvs.map (fun kv=>if kv.1=k then(kv.1,d) else kv) else kvs++[(k,d)]
abbrev oX (K:Fg) (H:Hp):List (dG×D)->List (dG×V)->Prop:=Paired fun p q=>p.1=q.1/\bZ K H p.2 q.2
section
variable {K:Fg} {H H':Hp}
theorem oX.kp {kvs:List (dG×D)} {ys:List (dG×V)} (r:oX K H kvs ys) (k:Kp H H'):oX K H' kvs ys:=Paired.mapP r fun _ _ z=>⟨z.1,z.2.kp k⟩
theorem oX.val {k:dG}:∀ {kvs:List (dG×D)} {ys:List (dG×V)},oX K H kvs ys->∀ {d:D},uJ kvs k=some d->∃ v,oF ys k=some v/\bZ K H d v
 | _,_,.nil,d,h=>by simp [uJ] at h
 | (k1,d1)::kvs,(k2,v2)::ys,.cons ⟨a,b⟩ t,d,h=>by
  have a:k1=k2:=a
  subst a
  by_cases e:k1=k
  ·refine⟨v2,mG e,?_⟩
   simp [uJ,List.find?_cons,e] at h
   rw [<- h]
   exact b
  ·obtain⟨v,q1,q2⟩:=oX.val (k:=k) t (d:=d) (by simpa [uJ,List.find?_cons,e] using h)
   exact⟨v,by rw [mL e]; exact q1,q2⟩
theorem oX.any {k:dG}:∀ {kvs:List (dG×D)} {ys:List (dG×V)},oX K H kvs ys->(kvs.any fun kv=>decide (kv.1=k))=(ys.any fun kv=>decide (kv.1=k))
 | _,_,.nil=>rfl
 | (k1,d1)::kvs,(k2,v2)::ys,.cons ⟨a,b⟩ t=>by
  have a:k1=k2:=a
  rw [List.any_cons,List.any_cons,oX.any t,a]
theorem oX.map {k:dG} {d:D} {v:V} (hd:bZ K H d v):∀ {kvs:List (dG×D)} {ys:List (dG×V)},oX K H kvs ys->oX K H (kvs.map fun kv=>if kv.1=k then(kv.1,d) else kv) (ys.map fun kv=>if kv.1=k then(kv.1,v) else kv)
 | _,_,.nil=>.nil
 | (k1,d1)::kvs,(k2,v2)::ys,.cons ⟨a,b⟩ t=>by
  have a:k1=k2:=a
  subst a
  rw [List.map_cons,List.map_cons]
  refine .cons ?_ (oX.map hd t)
  dsimp only
  split
  ·exact⟨rfl,hd⟩
  ·exact⟨rfl,b⟩
theorem oX.snoc {k:dG} {d:D} {v:V} (hd:bZ K H d v):∀ {kvs:List (dG×D)} {ys:List (dG×V)},oX K H kvs ys->oX K H (kvs++[(k,d)]) (ys++[(k,v)])
 | _,_,.nil=>.cons ⟨rfl,hd⟩ .nil
 | _,_,.cons a t=>.cons a (oX.snoc hd t)
theorem oX.put {k:dG} {d:D} {v:V} {kvs:List (dG×D)} {ys:List (dG×V)} (hd:bZ K H d v) (r:oX K H kvs ys):oX K H (Ao kvs k d) (md ys k v):=by
 unfold Ao md
 rw [r.any]
 split
 ·exact oX.map hd r
 ·exact oX.snoc hd r
end
section
variable {X:Cx}
def JN:DE:=fun _ S k=>∀ p,S p=none->k (.ref p) (put S p (.gen (.dK [])))
theorem Dm {pos:Pos}:EJ X (.Dict [] [] pos) JN:=
 ⟨PE.imp zw fun σ H Q ⟨L,S,k,hL,hS,h,n⟩ p hp=>n _ _ _ _ (h p (hS.free hp)) (Kp.new hp) (hS.newG hp ⟨[],bC,.nil⟩) (aP.mpr rfl)⟩
def IC (go gi:DE):DE:=fun L S k=>go L S fun d S1=>gi L S1 fun e S2=>match d,e with
 | .ref a,.int i=>∃ kvs c,S2 a=some (.gen (.dK kvs))/\uJ kvs (.inl i)=some c/\k c S2
 | _,_=>False
theorem xQ {o i:Expr} {go gi:DE} {pos:Pos} {n:Nat} (hr:cH n X.A) (ho:EJ X o go) (hi:EJ X i gi) (hs:Ae i):EJ X (.Subscript o i pos) (IC go gi):=
 ⟨PE.imp (Dp (un1 hr) ho.h hi.h hs) fun σ H Q ⟨L,S,k,hL,hS,h,m⟩=>up.go hL hS h fun d S1 x H1 h1 k1 hL1 hS1 i1=>up.go hL1 hS1 h1 fun e S2 y H2 h2 k2 hL2 hS2 i2=>by
  split at h2
  ·rename_i a j
   obtain⟨kvs,c,g1,g2,h2⟩:=h2
   obtain⟨ys,e1,r1⟩:=(show nV X.K H2 a (.dK kvs) from hS2 a _ g1)
   have ex:=aP.mp i1
   have ey:=isInt.mp i2
   subst ex ey
   obtain⟨v,q1,q2⟩:=oX.val r1 g2
   exact⟨a,v,rfl,by rw [<- q1]; exact y9.k (k:=.inl j) e1,m c S2 v H2 h2 (k1.trans k2) hS2 q2⟩
  ·exact h2.elim⟩
def HX:Ar:=fun x y v H Q=>∃ a kvs j,x=.ref a/\y=.int j/\H a=some (.dK kvs)/\kvs.length < sizeLine/\Q (bJ H a (.dK (md kvs (.inl j) v)))
theorem zf {n:Nat} (hr:cH n X.A):DD X HX:=by
 intro pins s σ H o i v ov iv u Q I ro ri rv h
 obtain⟨a,kvs,j,rfl,rfl,e1,z,q⟩:=h
 cases (show ov=Value.ref a from ro)
 exact x_ (un1 hr) I (C8.k (k:=.inl j) e1 z) ri rv fun s' I'=>⟨_,I',q⟩
def GM (go gi:DE):DG:=fun d L S k=>go L S fun o S1=>gi L S1 fun i S2=>match o,i with
 | .ref a,.int j=>∃ kvs,S2 a=some (.gen (.dK kvs))/\kvs.length < sizeLine/\k L (put S2 a (.gen (.dK (Ao kvs (.inl j) d))))
 | _,_=>False
theorem Eu {o i:Expr} {go gi:DE} {pos:Pos} {n:Nat} (hr:cH n X.A) (ho:EJ X o go) (hi:EJ X i gi)
  (ha:∀ v,assign (.Subscript o i pos) X.env v=(do
   let ov <- holding [v] (eval o X.env)
   let iv <- holding [v,ov] (eval i X.env)
   standAt pos
   holding [v,ov,iv] (setItem ov iv v)
   release [v,ov,iv] []):=by intro _; rfl):GJ X (.Subscript o i pos) (GM go gi):=
 ⟨PG.imp (v8 ho.h hi.h (zf hr) ha) fun v σ H Q ⟨d,L,S,k,i1,hL,hS,h,m⟩=>up.go hL hS h fun c S1 u H1 h1 k1 hL1 hS1 j1=>up.go hL1 hS1 h1 fun c2 S2 u2 H2 h2 k2 hL2 hS2 j2=>by
  split at h2
  ·rename_i a j
   obtain⟨kvs,g1,z,h2⟩:=h2
   obtain⟨ys,e1,r1⟩:=(show nV X.K H2 a (.dK kvs) from hS2 a _ g1)
   have ex:=aP.mp j1
   have ey:=isInt.mp j2
   subst ex ey
   have hl:=Paired.length r1
   refine⟨a,ys,j,rfl,rfl,e1,by rw [<- hl]; exact z,?_⟩
   have k3:Kp H2 (bJ H2 a (.dK (md ys (.inl j) v))):=Kp.mut e1 (fun z=>z)
   exact m L _ σ _ h2 (k1.trans (k2.trans k3)) (hL2.kp k3) (hS2.setG e1 (fun z=>z) ⟨_,bC,(oX.put (i1.kp (k1.trans k2)) r1).kp k3⟩)
  ·exact h2.elim⟩
end
end DL
namespace ST
open PySem PySem.SetTable
def Lp (mask:Nat) (p:Probe):Probe:=
 if p.more > 0 then {p with j:=p.j+1,more:=p.more - 1} else {p with j:=(leap mask p.i p.perturb).1,more:=runEnd mask (leap mask p.i p.perturb).1 - (leap mask p.i p.perturb).1,i:=(leap mask p.i p.perturb).1,perturb:=(leap mask p.i p.perturb).2}
def at0 (mask i pt:Nat):Probe:={j:=i,more:=runEnd mask i - i,i:=i,perturb:=pt,dummy:=none}
def sq (mask:Nat) (h:Int):Nat->Probe
 | 0=>at0 mask (bits h % (mask+1)) (bits h)
 | n+1=>Lp mask (sq mask h n)
def Lu (mask:Nat):Prop:=mask=7\/mask=31\/mask=127
def Ln (xs:Array Nat):Prop:=∀ i j:Nat,i < j->∀ a b:Nat,xs[i]?=some a->xs[j]?=some b->a < b
def On (t:SetTable) (j:Nat):Prop:=∃ i:Nat,t.place[i]?=some j
def Lx (t:SetTable) (h:Int) (j:Nat):Prop:=∃ n,(sq t.mask h n).j=j/\∀ m,m < n->On t (sq t.mask h m).j
structure TI (t:SetTable) (hs:List Int):Prop where
 dm:t.dummies=#[]
 ris:Ln t.place
 sz:t.place.size=hs.length
 le:∀ j,On t j->j < t.mask+1
 msk:Lu t.mask
 way:∀ q∈t.place.toList.zip hs,Lx t q.2 q.1
def LC (t:SetTable):Prop:=t.place.size*5 < t.mask*3
end ST
namespace ST
open PySem PySem.SetTable PySem.Spec
section
variable {prog:Program} {w:World} {K:Type} [DecidableEq K] {knd:KeyKind prog w K} {A:Around} {E:Value->Shared->Prop} {s:Shared}
def ent (knd:KeyKind prog w K) (x:List K×Addr):Int×Value:=(tupleKeyHash knd x.1,.ref x.2)
structure KK (knd:KeyKind prog w K) (h:Heap) (a:Addr) (o:Obj) (es:Array (Int×Value)) (ep:Nat) (t:SetTable) (xs:List (List K×Addr)):Prop where
 get:h.get? a=some o
 ex:o.ExactSet
 data:o.data=.set es ep t
 ent:es.toList=xs.map (ent knd)
 is:∀ x∈xs,IsTupleKey knd h x.1 x.2
 ti:TI t (xs.map fun x=>tupleKeyHash knd x.1)
 lax:LC t
end
end ST
namespace ST
open PySem PySem.SetTable PySem.Spec PyProof.Rows
def II {α:Type} [DecidableEq α] (a:List α) (k:α):List α:=if k∈a then a else a++[k]
def dd {α:Type} [DecidableEq α] (l:List α):List α:=l.foldl II []
section
variable {prog:Program} {w:World} {K:Type} [DecidableEq K] {knd:KeyKind prog w K} {A:Around} {R:Result->Shared->Prop} {I:Addr} {fp wr:List Addr} {G:Array GenState->Array GenState->Prop} {n:Nat} {P:Nat->Value->Prop} {St:Nat->Shared->Prop}
def Holds (knd:KeyKind prog w K) (h:Heap) (S:Addr) (V:Addr->Prop) (l:List (List K)):Prop:=∃ o es ep t xs,KK knd h S o es ep t xs/\xs.length=(dd l).length/\(∀ k,k∈xs.map (·.1)↔k∈dd l)/\∀ x∈xs,V x.2
end
end ST
namespace DL
open PySem PySem.Spec PyProof.Rows L2
theorem A4:bootBuiltins "range"=some (.type "range"):=by decide +kernel
inductive Ip (K:Fg) (n:Str) (st:Stmt) (f:Addr) (cd:Value):Prop where
 | mk {oc kV doc pm ct:Value} {od an:Option Addr} {osl:Array (Option Value)} (l:K.lookup f=some ⟨oc,od,.func (PySem.W.fnOf n n (fx st) (dF st) (ap st) .none kV doc pm an cd ct),osl⟩):Ip K n st f cd
structure DI (K:Fg) (n:Str) (st:Stmt) (f:Addr) (cd:Value):Prop where
 a:PySem.W.nsIn K mainGlobals n=some (some (.ref f))
 x:Ip K n st f cd
 e:PySem.W.codeIn K cd n=true
 k:PySem.W.keepIn K (.ref f)=true
def Bd (n:Str) (st:Stmt) (ps:List Str):Prop:=∀ (kV doc pm:Value) (an:Option Addr) (cdv ct:Value) (us:List Value),us.length=ps.length->bindArgs (PySem.W.fnOf n n (fx st) (dF st) (ap st) .none kV doc pm an cdv ct) ⟨us,[]⟩=pure (ps.zip us)
theorem LK {n a1:Str} {st:Stmt} (h:∀ (kV doc pm:Value) (an:Option Addr) (cdv ct u1:Value),bindArgs (PySem.W.fnOf n n (fx st) (dF st) (ap st) .none kV doc pm an cdv ct) ⟨[u1],[]⟩=pure (List.zip [a1] [u1])):Bd n st [a1]:=fun _ _ _ _ _ _ us hl=>match us,hl with | [u1],_=>h _ _ _ _ _ _ _
theorem Ll {n a1 a2:Str} {st:Stmt} (h:∀ (kV doc pm:Value) (an:Option Addr) (cdv ct u1 u2:Value),bindArgs (PySem.W.fnOf n n (fx st) (dF st) (ap st) .none kV doc pm an cdv ct) ⟨[u1,u2],[]⟩=pure (List.zip [a1,a2] [u1,u2])):Bd n st [a1,a2]:=fun _ _ _ _ _ _ us hl=>match us,hl with | [u1,u2],_=>h _ _ _ _ _ _ _ _
theorem LB {n a1 a2 a3:Str} {st:Stmt} (h:∀ (kV doc pm:Value) (an:Option Addr) (cdv ct u1 u2 u3:Value),bindArgs (PySem.W.fnOf n n (fx st) (dF st) (ap st) .none kV doc pm an cdv ct) ⟨[u1,u2,u3],[]⟩=pure (List.zip [a1,a2,a3] [u1,u2,u3])):Bd n st [a1,a2,a3]:=fun _ _ _ _ _ _ us hl=>match us,hl with | [u1,u2,u3],_=>h _ _ _ _ _ _ _ _ _
theorem LH {n a1 a2 a3 a4:Str} {st:Stmt} (h:∀ (kV doc pm:Value) (an:Option Addr) (cdv ct u1 u2 u3 u4:Value),bindArgs (PySem.W.fnOf n n (fx st) (dF st) (ap st) .none kV doc pm an cdv ct) ⟨[u1,u2,u3,u4],[]⟩=pure (List.zip [a1,a2,a3,a4] [u1,u2,u3,u4])):Bd n st [a1,a2,a3,a4]:=fun _ _ _ _ _ _ us hl=>match us,hl with | [u1,u2,u3,u4],_=>h _ _ _ _ _ _ _ _ _ _
section
variable {P:Program} {w:World} {K:Fg} {mg:Str->Option Value} {base h:Heap} {n:Str} {st:Stmt} {f:Addr} {cd:Value} {ps:List Str} {k:Nat}
theorem DI.own {F:b_} (d:DI K n st f cd) (X:K.In h) (G:h.Ns mainGlobals mg) (ok:∀ fd,cT K n n st f fd->fd.code=cd->aH P w K mg base cQ k f fd ps (cY K F))
  (hb:Bd n st ps:=by first | exact LK fun _ _ _ _ _ _ _=>rfl | exact Ll fun _ _ _ _ _ _ _ _=>rfl | exact LB fun _ _ _ _ _ _ _ _ _=>rfl | exact LH fun _ _ _ _ _ _ _ _ _ _=>rfl | exact bd5 fun _ _ _ _ _ _ _ _ _ _ _=>rfl | exact bd6 fun _ _ _ _ _ _ _ _ _ _ _ _=>rfl | exact bd7 fun _ _ _ _ _ _ _ _ _ _ _ _ _=>rfl):aQ P w K mg base n k F:=by
 obtain⟨lk⟩:=d.x
 have Fn:=A7 lk d.e d.k
 exact aQ.mk' Fn (ok _ Fn rfl) (PySem.W.mg_of X G d.a) (Fn.binds hb)
theorem DI.fn (d:DI K n st f cd) (hb:∀ (kV doc pm:Value) (an:Option Addr) (ct v:Value),bindArgs (PySem.W.fnOf n n (fx st) (dF st) (ap st) .none kV doc pm an cd ct) ⟨[v],[]⟩=pure [(("script":Str),v)]:=by exact fun _ _ _ _ _ _=>rfl):∃ fd:FuncData,cT K n n st f fd/\fd.code=cd/\∀ (s:Shared) (v:Value),BindsTo s fd ⟨[v],[]⟩ [("script",v)]:=by
 obtain⟨lk⟩:=d.x
 exact⟨_,A7 lk d.e d.k,rfl,fun s v=>.of_eq (hb _ _ _ _ _ v)⟩
end
end DL
namespace L2
open PySem PySem.Spec PyProof.Rows
def HH (lo:Int) (n:Nat):It:=⟨fun i _=>i < n,fun i H x H'=>H'=H/\x=.int (lo - i),fun i _=>n<=i⟩
theorem yn {P:Program} {w:World} {K:PySem.W.Frag} {tg:Expr} (it:Addr) (lo:Int) (n:Nat):we P w K tg (HH lo n) [it] it (fun i h=>IsRangeIter h it (lo+(i:Nat)*(-1)) ((n:Int) - (i:Nat)) (-1)) where
 mem:=by simp
 obj:=fun i h st b hb=>by
  have e:b=it:=by simpa using hb
  subst e
  exact⟨_,st,fun v z=>by
   have z':Data.fields _=Data.cell v:=z
   cases z'⟩
 keep:=fun i h h' st k=>k it (by simp) _ st
 item:=by
  intro X hP hw hK hc i pins s σ H E I hf st hg
  subst hP hw hK
  obtain⟨f0,f1,f2,f3,f4,f5⟩:=hf it (by simp)
  have W:=Walks.range (prog:=X.prog) (w:=X.w) (I.ok.hd hc) it lo (-1) n
  refine W.item i s _ _ hg st fun v h' tk hv st' kk=>?_
  obtain⟨t,rfl⟩:=hv
  have I1:aA X pins σ H {s with heap:=h',toks:=tk}:=I.turned (fun b o hb e=>kk b o (by simpa using hb) e) f0 f1 f3 f4 f5
  refine⟨_,rfl,ve (s:={s with heap:=h',toks:=tk}) (n:="range_iterator") st' rfl rfl (by decide) ⟨.int (lo - i),H,I1,⟨t,?_⟩,⟨rfl,rfl⟩,st',fun b hb=>(hf b hb).1⟩⟩
  rw [show lo+(i:Int)*(-1)=lo - i by omega]
 done:=by
  intro X hP hw hK hc i pins s σ H E I hf st hg
  subst hP hw hK
  obtain⟨f0,f1,f2,f3,f4,f5⟩:=hf it (by simp)
  exact wpAny_pyNext_range_end (I.ok.hd hc) st (by have:n<=i:=hg; omega) fun h' eb=>⟨rfl,I.turned (t':=s.toks) (fun b o hb e=>eb b o hb e) f0 f1 f3 f4 f5⟩
 self:=fun _ _ _ _ _ st h=>wpAny_pyIter_rangeiter st h
theorem kU (a b:Int):Builtin.Range.rangeSize a b (-1)=if b < a then a - b else 0:=by
 unfold Builtin.Range.rangeSize
 simp only [show ¬ ((-1:Int) > 0) by decide,if_false,show -(-1:Int)=1 by decide,Int.ediv_one]
 split <;> omega
theorem v_ {a b:Int} (ha:-(2 ^ 62)<=a) (ha':a < 2 ^ 62) (hb:-(2 ^ 62)<=b) (hb':b < 2 ^ 62):Builtin.Range.small a b (-1)=true:=by
 unfold Builtin.Range.small
 rw [kU]
 simp only [Builtin.Range.rangeFitsLong,Bool.and_eq_true,Bool.or_eq_true,decide_eq_true_eq,beq_iff_eq,show ¬ ((-1:Int) > 0) by decide,if_false]
 split <;> omega
section
variable {X:Cx} {tg:Expr}
theorem A2 {pins:List (Addr×Obj)} {σ:St} {H:Hp} {s:Shared} {R:It->Hp->Prop} {E:Value->Shared->Prop} {lo hi:Int} {t u v:Tok} {tk:Nat} (I:aA X pins σ H s) (h1:-(2 ^ 62)<=lo) (h2:lo < 2 ^ 62) (h3:-(2 ^ 62)<=hi) (h4:hi < 2 ^ 62)
  (q:R (HH lo (lo - hi).toNat) H):wpAny (model X.prog X.w) X.A (pyIter (.ref s.heap.objs.size)) (KI X pins σ tg R) E {s with heap:=s.heap.push {cls:=.type "range",data:=.fields #[.int lo t,.int hi u,.int (-1) v]},toks:=tk}:=by
 refine wpAny_pyIter_range (IsRange.new ..) (v_ h1 h2 h3 h4) ?_
 have I1:aA X pins σ H {s with heap:=s.heap.push {cls:=.type "range",data:=.fields #[.int lo t,.int hi u,.int (-1) v]},toks:=tk}:=I.kept fun b o e=>Heap.get?_push_of_some _ e
 refine⟨(s.heap.push {cls:=.type "range",data:=.fields #[.int lo t,.int hi u,.int (-1) v]}).objs.size,[(s.heap.push {cls:=.type "range",data:=.fields #[.int lo t,.int hi u,.int (-1) v]}).objs.size],_,_,H,rfl,
  I1.kept (t':=tk) fun b o e=>Heap.get?_push_of_some _ e,yn _ lo (lo - hi).toNat,?_,fun b hb=>?_,q⟩
 ·have e1:lo+((0:Nat):Int)*(-1)=lo:=by simp
  have e2:(((lo - hi).toNat:Nat):Int) - ((0:Nat):Int)=Builtin.Range.rangeSize lo hi (-1):=by rw [kU]; split <;> omega
  show IsRangeIter _ _ (lo+((0:Nat):Int)*(-1)) ((((lo - hi).toNat:Nat):Int) - ((0:Nat):Int)) (-1)
  rw [e1,e2]
  exact Heap.get?_push_size _ rfl
 ·have e:b=(s.heap.push {cls:=.type "range",data:=.fields #[.int lo t,.int hi u,.int (-1) v]}).objs.size:=by simpa using hb
  subst e
  exact I1.fpOk (Nat.le_refl _) (I1.hok.fresh (Nat.le_refl _))
def H9 (ta:TA):TI:=fun σ H R=>ta σ H fun vs H1=>∃ i j:Int,vs=[.int i,.int j,.int (-1)]/\(-(2 ^ 62)<=i/\i < 2 ^ 62/\-(2 ^ 62)<=j/\j < 2 ^ 62)/\R (HH i (i - j).toNat) H1
theorem yc {a b c:Expr} {ta:TA} {p pos:Pos} (hg:Gl X "range") (hm:X.mg "range"=none) (ha:PA X [a,b,c] ta) (hs:starEach [a,b,c] X.env=[(false,eval a X.env),(false,eval b X.env),(false,eval c X.env)]:=by rfl) (hs2:starEach [b,c] X.env=[(false,eval b X.env),(false,eval c X.env)]:=by rfl):
  PI X tg (.Call (.Name "range" p) [a,b,c] [] pos) (H9 ta):=by
 intro pins s σ H R I h
 refine Call_ (qe I hg hm boot_range (PyProof.Rows.callWith_type1 (bL (ha pos pins s σ H _ I h) fun us s1 ⟨vs,H1,I1,r1,q1⟩=>?_) (by rw [hs,hs2]) (by rw [hs2]; rfl)))
 obtain⟨i,j,e,⟨q1,q2,q3,q4⟩,q⟩:=q1
 subst e
 cases r1 with
 | cons r rr=>
  cases rr with
  | cons r' rr=>
   cases rr with
   | cons r'' rr=>
    cases rr
    obtain⟨t,rfl⟩:=r
    obtain⟨t',rfl⟩:=r'
    obtain⟨t'',rfl⟩:=r''
    exact call_range_3 (by decide) (A2 I1 q1 q2 q3 q4 q) (.inl (PyProof.noPylong_small (by omega)))
end
end L2
namespace DL
open PySem PySem.Spec PyProof.Rows L2
def lI (i j:Int):List D:=(List.range (i - j).toNat).map fun k:Nat=>.int (i - (k:Int))
theorem CG {K:Fg} {H:Hp} {i j:Int}:(∀ n d (S1:DH) H1,(lI i j)[n]?=some d->Kp H H1->Hs K H1 S1->(fun _=>True:DH->Prop) S1->(HH i (i - j).toNat).go n H1/\∀ x H',(HH i (i - j).toNat).yld n H1 x H'->H'=H1/\bZ K H1 d x)/\
  ∀ (S1:DH) H1,Kp H H1->Hs K H1 S1->(fun _=>True:DH->Prop) S1->(HH i (i - j).toNat).stop (lI i j).length H1:=by
 refine⟨fun n d S1 H1 e _ _ _=>?_,fun _ _ _ _ _=>?_⟩
 ·unfold lI at e
  rw [List.getElem?_map] at e
  cases q:(List.range (i - j).toNat)[n]? with
  | none=>rw [q] at e; cases e
  | some z=>
   rw [q] at e
   cases e
   obtain⟨hz1,hz2⟩:=List.getElem?_eq_some_iff.mp q
   rw [List.length_range] at hz1
   rw [List.getElem_range] at hz2
   subst hz2
   exact⟨hz1,fun x H' y=>⟨y.1,by rw [y.2]; exact isInt.mpr rfl⟩⟩
 ·show(i - j).toNat<=(lI i j).length
  unfold lI
  rw [List.length_map,List.length_range]
  exact Nat.le_refl _
def He (ta:DA) (g:DG) (b:DS):DS:=fun M L S=>ta L S fun ds S1=>match ds with
 | [.int i,.int j,.int c]=>c=-1/\(-(2 ^ 62)<=i/\i < 2 ^ 62/\-(2 ^ 62)<=j/\j < 2 ^ 62)/\iK (fun _=>True) g b M (lI i j) L S1
 | _=>False
section
variable {X:Cx} {a b c tg:Expr} {p pos pos':Pos} {body:List Stmt} {ta:DA} {gg:DG} {g:DS}
theorem mo (hp:PassesOwn (model X.prog X.w) X.A X.env X.xe) (hc:X.calm=true) (hgl:Gl X "range") (hm:X.mg "range"=none) (ha:AJ X [a,b,c] ta) (hg:GJ X tg gg) (hb:zo X body g)
  (hs1:starEach [a,b,c] X.env=[(false,eval a X.env),(false,eval b X.env),(false,eval c X.env)]:=by rfl) (hs2:starEach [b,c] X.env=[(false,eval b X.env),(false,eval c X.env)]:=by rfl) (hs:∀ x,foldedSetIterable (.Call (.Name "range" p) [a,b,c] [] pos') X.env x=pure x:=by intro _; rfl):
  SJ X (.For tg (.Call (.Name "range" p) [a,b,c] [] pos') body [] pos) (He ta gg g):=
 ⟨PS.imp (tu hp hc (yc hgl hm ha.h hs1 hs2) hg.h hb.h hs) fun N σ H ⟨L,S,M,hL,hS,h,r⟩=>oJ.go hL hS h fun ds S1 vs H1 h1 k1 hL1 hS1 i1=>by
  split at h1
  ·obtain⟨v1,r1,rfl,j1,i2⟩:=cD.mp i1
   obtain⟨v2,v3,rfl,j2,j3⟩:=uV i2
   have e1:=isInt.mp j1
   have e2:=isInt.mp j2
   have e3:=isInt.mp j3
   subst e1
   subst e2
   subst e3
   obtain⟨rfl,hh,h1⟩:=h1
   obtain⟨z1,z2⟩:=CG (K:=X.K) (H:=H1)
   exact⟨_,_,rfl,hh,mV hL1 hS1 h1 (r.kp k1) z1 z2⟩
  ·exact h1.elim⟩
end
theorem nO:∀ (bs:List Bool),(List.range bs.length).any (fun i=>bs.getD i true)=bs.any id
 | []=>rfl
 | b::bs=>by
  rw [List.length_cons,List.range_succ_eq_map,List.any_cons,List.any_map,List.any_cons]
  exact congrArg (b || ·) (nO bs)
def EO:b_:=fun ds S k=>match ds with
 | [d]=>∃ (q:List D×Option Addr) (bs:List Bool),aU S d=some q/\q.1=bs.map D.bl/\k (.bl (bs.any id)) S
 | _=>False
theorem Fx {X:Cx} (hc:X.calm=true:=by rfl):cA X (.builtin "any") (rD X.K EO):=by
 intro pins s σ H xs us Q I rs h
 obtain⟨ds,S,k,i,hS,r,n⟩:=h
 unfold EO at r
 split at r
 ·obtain⟨x,rfl,i1⟩:=gO i
  obtain⟨q,bs,e1,e2,r⟩:=r
  obtain⟨a,b,rfl,_,y⟩:=Gh hS i1 e1
  obtain⟨vs,w1,w2⟩:=y S H (Kp.refl H) hS (DJ e1)
  rw [e2] at w2
  have ev:=ur w2
  subst ev
  obtain⟨its,rv,p⟩:=I.sqB w1
  have ei:=uA rv
  subst ei
  cases rs with
  | cons r0 rr=>
   cases rr
   cases r0
   have hh:X.A.in1.handled=none:=I.ok.hd hc
   have hlt:=FN p
   have fin:∀ (nm:String) (h':Heap) (tk:Nat),(∀ c o,c∉[s.heap.objs.size]->(s.heap.push {cls:=.type nm,data:=.fields #[.ref a,.int 0 0]}).get? c=some o->h'.get? c=some o)->
     EP X pins σ Q (.bool (bs.any id)) {s with heap:=h',toks:=tk}:=fun nm h' tk kk=>by
    have I1:aA X pins σ H {s with heap:=s.heap.push {cls:=.type nm,data:=.fields #[.ref a,.int 0 0]}}:=I.kept (t':=s.toks) fun c o e=>Heap.get?_push_of_some _ e
    refine⟨.bl (bs.any id),H,aA.turnedL (s:={s with heap:=s.heap.push {cls:=.type nm,data:=.fields #[.ref a,.int 0 0]}}) (t':=tk) [s.heap.objs.size] I1 kk (fun c hc=>?_),rfl,n _ _ _ _ r (Kp.refl H) hS (cg.mpr rfl)⟩
    have e:c=s.heap.objs.size:=by simpa using hc
    subst e
    exact I.fpOk (Nat.le_refl _) (I.hok.fresh (Nat.le_refl _))
   have len:(bs.map Value.bool).toArray.size=bs.length:=by simp
   have tr:∀ A',TruthOf X.prog X.w A' (fun i v=>(bs.map Value.bool).toArray[i]?=some v) (fun i=>bs.getD i true):=fun A' i v s' Q' E' hP hQ=>by
    have hP':(bs[i]?).map Value.bool=some v:=by simpa using hP
    cases z:bs[i]? with
    | none=>rw [z] at hP'; cases hP'
    | some c=>
     rw [z] at hP'
     cases hP'
     refine wpAny_truthy_bool ?_
     simpa [List.getD,z] using hQ
   refine call_any_walk ?_
   cases b with
   | true=>
    refine wpAny_pyIter_list (show s.heap.IsList a _ from p) ?_
    refine⟨s.heap.objs.size,_,_,_,_,_,_,rfl,Walks.list hh s.heap.objs.size a (Nat.ne_of_lt hlt) (bs.map Value.bool).toArray,⟨⟨_,Heap.get?_push_size _ rfl,rfl,rfl⟩,Heap.IsList.at p fun o e=>Heap.get?_push_of_some _ e⟩,tr _,fun h' tk kk=>?_⟩
    rw [len,nO]
    exact fin _ h' tk kk
   | false=>
    refine wpAny_pyIter_tuple (show s.heap.IsTuple a _ from p) ?_
    refine⟨s.heap.objs.size,_,_,_,_,_,_,rfl,Walks.tuple hh s.heap.objs.size a (Nat.ne_of_lt hlt) (bs.map Value.bool).toArray,⟨⟨_,Heap.get?_push_size _ rfl,rfl,rfl⟩,Heap.IsTuple.at p fun o e=>Heap.get?_push_of_some _ e⟩,tr _,fun h' tk kk=>?_⟩
    rw [len,nO]
    exact fin _ h' tk kk
 ·exact r.elim
end DL
namespace My
variable {P:Program} {w:World} {K:Fg} {mg:Str->Option Value} {base:Heap} {f:Addr} {fd:FuncData}
open PySem PySem.Spec PyProof.Rows L2 DL HM
set_option maxHeartbeats 4000000
def dH (i : Nat) : Stmt := PySem.Challenge.pw_hingedraw_k76_whole_lines_and_circles.main.body.getD i (.Pass ⟨0, 0, 0, 0⟩)
abbrev fP:Stmt:=dH 9
abbrev t_:Stmt:=dH 10
abbrev wA:Stmt:=dH 11
abbrev sW:Stmt:=dH 12
abbrev tI:Stmt:=dH 13
abbrev vZ:Stmt:=dH 14
abbrev lW:Stmt:=dH 15
abbrev iz:Stmt:=dH 16
abbrev jH:Stmt:=dH 17
abbrev du:Stmt:=dH 18
abbrev nP:Stmt:=dH 19
abbrev mr:Stmt:=dH 21
abbrev iE:Stmt:=dH 22
abbrev jG:Stmt:=dH 23
abbrev tR:Stmt:=dH 24
abbrev l_:Stmt:=dH 26
abbrev kr:Stmt:=dH 27
abbrev fy:Stmt:=dH 28
abbrev uj:Stmt:=dH 29
abbrev eR:Stmt:=dH 30
abbrev fj:Stmt:=dH 32
abbrev fm:Stmt:=dH 33
abbrev gz:Stmt:=dH 34
abbrev kh:Stmt:=dH 35
abbrev fJ:Stmt:=dH 37
abbrev qx:Stmt:=dH 38
abbrev kz:Stmt:=dH 46
abbrev iZ:Stmt:=dH 47
abbrev il:Stmt:=dH 48
abbrev hJ:Stmt:=dH 49
abbrev fw:Stmt:=dH 36
abbrev iP:Stmt:=dH 52
abbrev ng:Stmt:=dH 39
abbrev dj:Stmt:=dH 51
abbrev iu:Stmt:=dH 53
abbrev pi:Stmt:=dH 54
abbrev ju:Stmt:=dH 57
abbrev fL:Stmt:=dH 56
abbrev i6:Stmt:=dH 55
abbrev jI:Stmt:=dH 40
abbrev jJ:Stmt:=dH 41
abbrev kI:Stmt:=dH 42
abbrev i5:Stmt:=dH 43
abbrev ko:Stmt:=dH 44
abbrev lY:Stmt:=dH 45
abbrev jc:Stmt:=dH 34
abbrev iW:Stmt:=dH 59
abbrev qA:Stmt:=dH 63
abbrev wJ:Stmt:=dH 64
abbrev wb:Stmt:=dH 62
abbrev kD:Stmt:=dH 39
abbrev kE:Stmt:=dH 68
abbrev nX:Stmt:=dH 69
abbrev jq:Stmt:=dH 65
abbrev gy:Stmt:=dH 66
abbrev kS:Stmt:=dH 67
abbrev ie:Stmt:=dH 71
abbrev jN:Stmt:=dH 72
abbrev km:Stmt:=dH 73
abbrev ig:Stmt:=dH 74
abbrev jy:Stmt:=dH 75
abbrev jp:Stmt:=dH 78
abbrev ki:Stmt:=dH 76
abbrev gK:Stmt:=dH 79
abbrev i4:Stmt:=dH 86
abbrev kj:Stmt:=dH 87
abbrev jT:Stmt:=dH 88
abbrev jA:Stmt:=dH 89
abbrev kR:Stmt:=dH 90
abbrev mh:Stmt:=dH 91
abbrev AM:Stmt:=dH 92
theorem sD:bootBuiltins "abs"=some (.builtin "abs"):=by decide +kernel
theorem pj:bootBuiltins "max"=some (.builtin "max"):=by decide +kernel
theorem tL:bootBuiltins "len"=some (.builtin "len"):=by decide +kernel
theorem xh:bootBuiltins "dict"=some (.type "dict"):=by decide +kernel
theorem A4:bootBuiltins "range"=some (.type "range"):=by decide +kernel
theorem Fz:bootBuiltins "any"=some (.builtin "any"):=by decide +kernel
theorem yH:bootBuiltins "sorted"=some (.builtin "sorted"):=by decide +kernel
theorem HB:bootBuiltins "set"=some (.type "set"):=by decide +kernel
theorem Br:bootBuiltins "int"=some (.type "int"):=by decide +kernel
theorem FL:bootBuiltins "min"=some (.builtin "min"):=by decide +kernel
theorem s9 {y:Int} {A B:Prop} (h1:y≠0->A) (h2:y=0->B):if (!decide (y=0))=true then A else B:=by
 by_cases h:y=0
 ·rw [if_neg (by simp [h])]; exact h2 h
 ·rw [if_pos (by simp [h])]; exact h1 h
theorem bj {p:Prop} [Decidable p] {A B:Prop} (h1:p->A) (h2:¬ p->B):if decide p=true then A else B:=by
 by_cases h:p
 ·rw [if_pos (by simp [h])]; exact h1 h
 ·rw [if_neg (by simp [h])]; exact h2 h
theorem uC {p:Prop} [Decidable p] {A B:Prop} (h1:¬ p->A) (h2:p->B):if (!decide p)=true then A else B:=by
 by_cases h:p
 ·rw [if_neg (by simp [h])]; exact h2 h
 ·rw [if_pos (by simp [h])]; exact h1 h
theorem lJ {c:Bool} {A B:Prop} (h1:c=true->A) (h2:c=false->B):if c=true then A else B:=by
 cases c
 ·exact AI (h2 rfl)
 ·exact Jx (h1 rfl)
theorem Hn {c:Bool} {A B:Prop} (h1:c=false->A) (h2:c=true->B):if (!c)=true then A else B:=by
 cases c
 ·exact Jx (h1 rfl)
 ·exact AI (h2 rfl)
theorem tG {ds:List D} {i:Int} (h0:0<=i) (h1:i < (ds.length:Int)):∃ d,L2.atI ds i=some d/\d∈ds:=by
 obtain⟨n,rfl⟩:=Int.eq_ofNat_of_zero_le h0
 have hn:n < ds.length:=by omega
 exact⟨ds[n],jv (by simp [hn]),List.getElem_mem hn⟩
theorem pM {ok:DH->Prop} {g:DG} {b:DS} {M:nh} {P:D->Prop} (Iv:Lo->DH->Prop) (hok:∀ L S,Iv L S->ok S)
  (hs:∀ d L S N,P d->Iv L S->(∀ L' S',Iv L' S'->N L' S')->g d L S fun L1 S1=>b {M with nx:=N,ct:=N,bk:=M.nx} L1 S1) (hd:∀ L S,Iv L S->M.nx L S):∀ r,(∀ d∈r,P d)->∀ L S,Iv L S->iK ok g b M r L S
 | [],_,L,S,i=>⟨hok L S i,hd L S i⟩
 | d::r,hp,L,S,i=>⟨hok L S i,hs d L S _ (hp d List.mem_cons_self) i fun L' S' i'=>pM Iv hok hs hd r (fun e he=>hp e (List.mem_cons_of_mem _ he)) L' S' i'⟩
instance {n:Nat} {x:Int}:Decidable (Bt n x):=inferInstanceAs (Decidable (x.natAbs < 2 ^ n))
theorem av {S:DH} {p a:Addr} {o u:DO} (hp:S p=none) (h:S a=some u):put S p o a=some u:=by rw [bo (gJ h hp)]; exact h
theorem few {ds:List D} (h:Nat.ble ds.length sizeLine=true:=by rfl):ds.length<=sizeLine:=Nat.le_of_ble_eq_true h
def tK (S:DH) (a:Addr):Prop:=∃ n b,S a=some (.lst [.int n,.bl b])/\(b=false->0<=n/\n < 2147483647)
def Dr (a:Addr) (S S':DH):Prop:=tK S' a/\∀ b o,b≠a->S b=some o->S' b=some o
theorem Dr.trans {a:Addr} {S S1 S2:DH} (h1:Dr a S S1) (h2:Dr a S1 S2):Dr a S S2:=⟨h2.1,fun b o n e=>h2.2 b o n (h1.2 b o n e)⟩
theorem tK.ne {a p:Addr} {S:DH} (h:tK S a) (hp:S p=none):p≠a:=by
 obtain⟨n,b,e,_⟩:=h
 intro z
 subst z
 rw [e] at hp
 cases hp
theorem tK.new {a p:Addr} {S:DH} {o:DO} (h:tK S a) (hp:S p=none):tK (put S p o) a:=by
 have z:=h.ne hp
 obtain⟨n,b,e,q⟩:=h
 exact⟨n,b,by rw [bo (Ne.symm z)]; exact e,q⟩
theorem Dr.new {a p:Addr} {S:DH} {o:DO} (h:tK S a) (hp:S p=none):Dr a S (put S p o):=
 ⟨h.new hp,fun b u n e=>by rw [bo (gJ e hp)]; exact e⟩
theorem yD {x:Int} (h1:0<=x) (h2:x < 2147483648):Bt 31 x:=by
 unfold Bt
 omega
def N (u a b:Rat):D:=.tup [fr a,fr (ss b*u)]
structure Sm (n:Nat) (a b:Rat):Prop where
 a:Sz n a
 b:Sz n b
theorem FD {q:Rat}:D.tup [.int (-q.num),.int (q.den:Int)]=fr (-q):=by
 show _=D.tup [.int (-q).num,.int ((-q).den:Int)]
 rw [Rat.neg_num,Rat.neg_den]
theorem HZ {q:Rat}:D.tup [.int (if q.num < 0 then -q.num else q.num),.int (q.den:Int)]=fr (ab q):=by
 show _=D.tup [.int (ab q).num,.int ((ab q).den:Int)]
 rw [Fu,FO]
theorem An {n:Nat} {t b:Int} (h:b≠0) (hb:Bt n b):Bt n ((Int.gcd t b:Nat):Int):=by
 refine hb.le ?_
 have h1:Int.gcd t b ∣ b.natAbs:=by
  have:=Int.gcd_dvd_right t b
  exact(by have:=Int.natAbs_dvd_natAbs.mpr this; simpa using this)
 have:=Nat.le_of_dvd (by omega) h1
 omega
def bH:b_:=fun ds S k=>match ds with
 | [.int a,.int b]=>k (.int ((Int.gcd a b:Nat):Int)) S
 | _=>False
theorem dD:ar ["one","other","rest"] ["one","other"] (ap fP):=dN
theorem mH (Fn:cT K "common_divisor" "common_divisor" fP f fd) (lL:mg "abs"=none):
  aH P w K mg base cQ 1 f fd ["one","other"] (cY K bH):=by
 refine Fn.okJ dD (fun ds S k h=>?_) (fun cdv A outer s H E hr=>⟨_,(af (ir PassesOwn.never (ax yl (ac 1) ad (ay _)) (af (ag (i:=2) dD.nd (au mK (ac 0) (ac 1))) (af (ag (i:=0) dD.nd (ac 1)) (ah (ag (i:=1) dD.nd (ac 2)))))) (ah (am (cU wU rfl lL sD (aa (ac 0) ae))))),fun ds S k h=>?_⟩)
 ·unfold bH at h
  split at h
  ·rfl
  ·exact h.elim
 ·unfold bH at h
  split at h
  ·rename_i a b
   refine⟨fun m L S'=>S'=S/\∃ x y r,L=[some (.int x),some (.int y),r]/\m=y.natAbs/\Int.gcd x y=Int.gcd a b,⟨_,rfl,a,b,_,rfl,rfl,rfl⟩,?_⟩
   rintro m L S' ⟨rfl,x,y,r,rfl,rfl,e⟩
   refine s9 (fun hy=>⟨fun L' S''=>∃ m',m' < y.natAbs/\S''=S'/\∃ x y r,L'=[some (.int x),some (.int y),r]/\m'=y.natAbs/\Int.gcd x y=Int.gcd a b,fun _ _ z=>z,hy,?_⟩) (fun hy=>?_)
   ·exact⟨_,wP x y hy,rfl,y,x.fmod y,_,rfl,rfl,(vB x y).trans e⟩
   ·subst hy
    have e2:=uy x
    rw [e] at e2
    show k (.int (if x < 0 then -x else x)) S'
    rw [<- e2]
    exact h
  ·exact h.elim
def hE:b_:=fun ds S k=>match ds with
 | [.int t,.int b]=>b≠0/\Bt 60000000 b/\k (fr (Rat.divInt t b)) S
 | _=>False
theorem mJ {S:DH} {k:DK} {t b:Int} {q:Rat} (e:Rat.divInt t b=q) (h0:b≠0) (hb:Bt 60000000 b) (h:k (fr q) S):hE [.int t,.int b] S k:=by subst e; exact⟨h0,hb,h⟩
theorem qb:ar ["top","bottom","shared"] ["top","bottom"] (ap t_):=dN
theorem BC (Fn:cT K "ratio" "ratio" t_ f fd) (aT:aQ P w K mg base "common_divisor" 1 bH) (hBl:oS mg base) (hTr:P.given.tree=none):
  aH P w K mg base cQ 34 f fd ["top","bottom"] (cY K hE):=by
 refine Fn.okJ qb (fun ds S k h=>?_) (fun cdv A outer s H E hr=>⟨_,(af (aE (ax gE (ac 1) ad (ay _)) (ah jh) aD) (af (ag (i:=2) qb.nd (dq aT hr (aa (ac 0) (aa (ac 1) ae)))) (af (aE (ax xY (ac 1) ad (ay _)) (ah (ag (i:=2) qb.nd (fv fg (ac 2)))) aD) (ah (am (aq (aa (au (kY hr hBl hTr rfl rfl rfl (by decide)) (ac 0) (ac 2)) (aa (au (kY hr hBl hTr rfl rfl rfl (by decide)) (ac 1) (ac 2)) ae)))))))),fun ds S k h=>?_⟩)
 ·unfold hE at h
  split at h
  ·rfl
  ·exact h.elim
 ·unfold hE at h
  split at h
  ·rename_i t b
   obtain⟨h0,hb,q⟩:=h
   have hg:=An (t:=t) h0 hb
   have hs:=Bz (t:=t) h0
   have e1:=sH (t:=t) h0
   have e2:=ua (t:=t) h0
   have qq:k (.tup [.int (t.fdiv (zq t b)),.int (b.fdiv (zq t b))]) S:=by rw [e1,e2]; exact q
   unfold zq at qq hs
   refine bj (fun z=>absurd z h0) (fun _=>bj (fun hl=>?_) (fun hl=>?_))
   ·rw [if_pos hl] at qq hs
    exact⟨hs,hs,few,qq⟩
   ·rw [if_neg hl] at qq hs
    exact⟨hs,hs,few,qq⟩
  ·exact h.elim
def n6:b_:=fun ds S k=>∃ p q:Rat,ds=[fr p,fr q]/\Sz 20000000 p/\Sz 20000000 q/\k (fr (p+q)) S
theorem El:ar ["one","other"] ["one","other"] (ap wA):=dN
theorem DC (Fn:cT K "plus" "plus" wA f fd) (eG:aQ P w K mg base "ratio" 34 hE):
  aH P w K mg base cQ 35 f fd ["one","other"] (cY K n6):=by
 refine Fn.okJ El (fun ds S k h=>?_) (fun cdv A outer s H E hr=>⟨_,(ah (am (dq eG hr (aa (au cB (au aV (ai aj (ac 0) ad (fun _ _=>rfl)) (ai aj (ac 1) ad (fun _ _=>rfl))) (au aV (ai aj (ac 1) ad (fun _ _=>rfl)) (ai aj (ac 0) ad (fun _ _=>rfl)))) (aa (au aV (ai aj (ac 0) ad (fun _ _=>rfl)) (ai aj (ac 1) ad (fun _ _=>rfl))) ae))))),fun ds S k h=>?_⟩)
 ·obtain⟨_,_,rfl,_⟩:=h
  rfl
 ·obtain⟨p,q,rfl,hp,hq,w⟩:=h
  exact⟨iB hp.num hq.den,iB hq.num hp.den,iB hp.den hq.den,mJ (nZ p q) (aI p q) ((hp.den.mul hq.den).mono (by decide)) w⟩
def lr:b_:=fun ds S k=>∃ p q:Rat,ds=[fr p,fr q]/\Sz 20000000 p/\Sz 20000000 q/\k (fr (p - q)) S
theorem AD:ar ["one","other"] ["one","other"] (ap sW):=dN
theorem By (Fn:cT K "minus" "minus" sW f fd) (eG:aQ P w K mg base "ratio" 34 hE):
  aH P w K mg base cQ 35 f fd ["one","other"] (cY K lr):=by
 refine Fn.okJ AD (fun ds S k h=>?_) (fun cdv A outer s H E hr=>⟨_,(ah (am (dq eG hr (aa (au j6 (au aV (ai aj (ac 0) ad (fun _ _=>rfl)) (ai aj (ac 1) ad (fun _ _=>rfl))) (au aV (ai aj (ac 1) ad (fun _ _=>rfl)) (ai aj (ac 0) ad (fun _ _=>rfl)))) (aa (au aV (ai aj (ac 0) ad (fun _ _=>rfl)) (ai aj (ac 1) ad (fun _ _=>rfl))) ae))))),fun ds S k h=>?_⟩)
 ·obtain⟨_,_,rfl,_⟩:=h
  rfl
 ·obtain⟨p,q,rfl,hp,hq,w⟩:=h
  exact⟨iB hp.num hq.den,iB hq.num hp.den,iB hp.den hq.den,mJ (Ac p q) (aI p q) ((hp.den.mul hq.den).mono (by decide)) w⟩
def jx:b_:=fun ds S k=>∃ p q:Rat,ds=[fr p,fr q]/\Sz 20000000 p/\Sz 20000000 q/\k (fr (p*q)) S
theorem zT:ar ["one","other"] ["one","other"] (ap tI):=dN
theorem BI (Fn:cT K "times" "times" tI f fd) (eG:aQ P w K mg base "ratio" 34 hE):
  aH P w K mg base cQ 35 f fd ["one","other"] (cY K jx):=by
 refine Fn.okJ zT (fun ds S k h=>?_) (fun cdv A outer s H E hr=>⟨_,(ah (am (dq eG hr (aa (au aV (ai aj (ac 0) ad (fun _ _=>rfl)) (ai aj (ac 1) ad (fun _ _=>rfl))) (aa (au aV (ai aj (ac 0) ad (fun _ _=>rfl)) (ai aj (ac 1) ad (fun _ _=>rfl))) ae))))),fun ds S k h=>?_⟩)
 ·obtain⟨_,_,rfl,_⟩:=h
  rfl
 ·obtain⟨p,q,rfl,hp,hq,w⟩:=h
  exact⟨iB hp.num hq.num,iB hp.den hq.den,mJ (iO p q) (aI p q) ((hp.den.mul hq.den).mono (by decide)) w⟩
def mf:b_:=fun ds S k=>∃ p q:Rat,ds=[fr p,fr q]/\q≠0/\Sz 20000000 p/\Sz 20000000 q/\k (fr (p / q)) S
theorem Ek:ar ["one","other"] ["one","other"] (ap vZ):=dN
theorem CV (Fn:cT K "over" "over" vZ f fd) (eG:aQ P w K mg base "ratio" 34 hE):
  aH P w K mg base cQ 35 f fd ["one","other"] (cY K mf):=by
 refine Fn.okJ Ek (fun ds S k h=>?_) (fun cdv A outer s H E hr=>⟨_,(ah (am (dq eG hr (aa (au aV (ai aj (ac 0) ad (fun _ _=>rfl)) (ai aj (ac 1) ad (fun _ _=>rfl))) (aa (au aV (ai aj (ac 0) ad (fun _ _=>rfl)) (ai aj (ac 1) ad (fun _ _=>rfl))) ae))))),fun ds S k h=>?_⟩)
 ·obtain⟨_,_,rfl,_⟩:=h
  rfl
 ·obtain⟨p,q,rfl,h0,hp,hq,w⟩:=h
  exact⟨iB hp.num hq.den,iB hp.den hq.num,mJ (A_ p q) (Int.mul_ne_zero (fE p) (sG h0)) ((hp.den.mul hq.num).mono (by decide)) w⟩
def eO:b_:=fun ds S k=>∃ q:Rat,ds=[fr q]/\k (fr (-q)) S
theorem uU:ar ["one"] ["one"] (ap lW):=dN
theorem um (Fn:cT K "negative" "negative" lW f fd):
  aH P w K mg base cQ 1 f fd ["one"] (cY K eO):=by
 refine Fn.okJ uU (fun ds S k h=>?_) (fun cdv A outer s H E hr=>⟨_,(ah (am (aq (aa (fv fg (ai aj (ac 0) ad (fun _ _=>rfl))) (aa (ai aj (ac 0) ad (fun _ _=>rfl)) ae))))),fun ds S k h=>?_⟩)
 ·obtain⟨_,rfl,_⟩:=h
  rfl
 ·obtain⟨q,rfl,w⟩:=h
  rw [<- FD] at w
  exact⟨few,w⟩
def fo:b_:=fun ds S k=>∃ q:Rat,ds=[fr q]/\k (fr (ab q)) S
theorem oE:ar ["one"] ["one"] (ap iz):=dN
theorem oC (Fn:cT K "without_sign" "without_sign" iz f fd) (lL:mg "abs"=none):
  aH P w K mg base cQ 1 f fd ["one"] (cY K fo):=by
 refine Fn.okJ oE (fun ds S k h=>?_) (fun cdv A outer s H E hr=>⟨_,(ah (am (aq (aa (cU wU rfl lL sD (aa (ai aj (ac 0) ad (fun _ _=>rfl)) ae)) (aa (ai aj (ac 0) ad (fun _ _=>rfl)) ae))))),fun ds S k h=>?_⟩)
 ·obtain⟨_,rfl,_⟩:=h
  rfl
 ·obtain⟨q,rfl,w⟩:=h
  rw [<- HZ] at w
  exact⟨few,w⟩
set_option maxHeartbeats 4000000
structure Gu (n g:Int):Prop where
 pos:0 < g
 ge:jX n<=g
theorem Gu.next {n g:Int} (h0:1<=n) (h:Gu n g) (hl:(g+n.fdiv g).fdiv 2 < g):Gu n ((g+n.fdiv g).fdiv 2):=by
 have rt:=kW (n:=n) (by omega)
 have r1:1<=jX n:=rt.le_of (by omega)
 rw [ow _ (by decide),ow _ h.pos] at hl ⊢
 have h1:=yJ h.pos rt.nn rt.le
 exact⟨by omega,h1⟩
theorem Gu.last {n g:Int} (h0:1<=n) (h:Gu n g) (hl:¬ (g+n.fdiv g).fdiv 2 < g):g=jX n:=by
 have rt:=kW (n:=n) (by omega)
 rw [ow _ (by decide),ow _ h.pos] at hl
 have h1:=h.ge
 rcases Int.lt_or_le (jX n) g with h2 | h2
 ·exact absurd (yM (by omega) rt h2) hl
 ·omega
theorem Gu.first {n:Int} {b:Nat} (h0:1<=n) (hn:n.natAbs < 2 ^ b):Gu n ((1:Int)*2 ^ ((((b:Nat):Int)+1).fdiv 2).toNat):=by
 have e:((((b:Nat):Int)+1).fdiv 2).toNat=(b+1) / 2:=by rw [ow _ (by decide)]; omega
 rw [e,Int.one_mul]
 have hp:(0:Int) < 2 ^ ((b+1) / 2):=Int.pow_pos (by decide)
 have rt:=kW (n:=n) (by omega)
 refine⟨hp,?_⟩
 apply Int.not_lt.mp
 intro hl
 have h1:=mT (Int.le_of_lt hp) (Int.le_of_lt hl)
 have h2:=rt.le
 have h3:(2:Int) ^ ((b+1) / 2)*2 ^ ((b+1) / 2)=2 ^ ((b+1) / 2+(b+1) / 2):=(Int.pow_add _ _ _).symm
 have h4:2 ^ b<=2 ^ ((b+1) / 2+(b+1) / 2):=o9 (by omega)
 have h5:((2 ^ ((b+1) / 2+(b+1) / 2):Nat):Int)=(2:Int) ^ ((b+1) / 2+(b+1) / 2):=by rw [Int.natCast_pow]; rfl
 have h6:((2 ^ b:Nat):Int)<=((2 ^ ((b+1) / 2+(b+1) / 2):Nat):Int):=Int.ofNat_le.mpr h4
 have h7:(n.natAbs:Int) < ((2 ^ b:Nat):Int):=Int.ofNat_lt.mpr hn
 rw [h3] at h1
 rw [h5] at h6
 omega
def jS:b_:=fun ds S k=>∃ n:Int,ds=[.int n]/\0<=n/\Bt 1600000 n/\k (.int (jX n)) S
theorem ez:ar ["number","guess","better"] ["number"] (ap jH):=dN
theorem rF (Fn:cT K "whole_root" "whole_root" jH f fd) (hBl:oS mg base) (hTr:P.given.tree=none):
  aH P w K mg base cQ 34 f fd ["number"] (cY K jS):=by
 refine Fn.okJ ez (fun ds S k h=>?_) (fun cdv A outer s H E hr=>⟨_,(af (aE (ax gE (ac 0) ad (ay _)) (ah (am ad)) aD) (af (ag (i:=1) ez.nd (au Jq ad (au (kY hr hBl hTr rfl rfl rfl (by decide)) (au cB (CW (ac 0)) ad) ad))) (af (ag (i:=2) ez.nd (au (kY hr hBl hTr rfl rfl rfl (by decide)) (au cB (ac 1) (au (kY hr hBl hTr rfl rfl rfl (by decide)) (ac 0) (ac 1))) ad)) (af (ir PassesOwn.never (ax xY (ac 2) (ac 1) (ay _)) (af (ag (i:=1) ez.nd (ac 2)) (ah (ag (i:=2) ez.nd (au (kY hr hBl hTr rfl rfl rfl (by decide)) (au cB (ac 1) (au (kY hr hBl hTr rfl rfl rfl (by decide)) (ac 0) (ac 1))) ad))))) (ah (am (ac 1))))))),fun ds S k h=>?_⟩)
 ·obtain⟨_,rfl,_⟩:=h
  rfl
 ·obtain⟨n,rfl,h0,hb,q⟩:=h
  refine bj (fun e=>?_) (fun e=>?_)
  ·subst e
   rw [Cc] at q
   exact q
  ·have hbits:Builtin.Int.intBits n<=1600000:=intBits_le_iff.mpr hb
   have h1:1<=n:=by omega
   have hn:n.natAbs < 2 ^ Builtin.Int.intBits n:=intBits_le_iff.mp (Nat.le_refl _)
   have G:=Gu.first h1 hn
   have hc:yj 1 ((((Builtin.Int.intBits n:Nat):Int)+1).fdiv 2):=by
    have e2:=ow (((Builtin.Int.intBits n:Nat):Int)+1) (b:=2) (by decide)
    exact⟨by rw [e2]; omega,by rw [e2]; omega,by decide⟩
   have two:(2:Int)≠0:=by decide
   have dv:∀ g:Int,Gu n g->g≠0:=fun g G=>by have:=G.pos; omega
   refine⟨two,hc,dv _ G,two,fun m L S'=>S'=S/\∃ g,L=[some (.int n),some (.int g),some (.int ((g+n.fdiv g).fdiv 2))]/\m=g.toNat/\Gu n g,⟨_,rfl,_,rfl,rfl,G⟩,?_⟩
   rintro m L S' ⟨rfl,g,rfl,rfl,G⟩
   refine bj (fun hl=>⟨fun L' S''=>∃ m',m' < g.toNat/\S''=S'/\∃ g,L'=[some (.int n),some (.int g),some (.int ((g+n.fdiv g).fdiv 2))]/\m'=g.toNat/\Gu n g,fun _ _ z=>z,dv _ (G.next h1 hl),two,?_⟩) (fun hl=>?_)
   ·have G2:=G.next h1 hl
    exact⟨_,by have:=G2.pos; have:=G.pos; omega,rfl,_,rfl,rfl,G2⟩
   ·rw [<- G.last h1 hl] at q
    exact q
def E4 (n:Int):D:=if jX n*jX n=n then .int (jX n) else .non
def dh:b_:=fun ds S k=>∃ n:Int,ds=[.int n]/\0<=n/\Bt 1600000 n/\k (E4 n) S
theorem e_:ar ["number","root"] ["number"] (ap du):=dN
theorem jO (Fn:cT K "square_root_or_none" "square_root_or_none" du f fd) (jK:aQ P w K mg base "whole_root" 34 jS):
  aH P w K mg base cQ 35 f fd ["number"] (cY K dh):=by
 refine Fn.okJ e_ (fun ds S k h=>?_) (fun cdv A outer s H E hr=>⟨_,(af (ag (i:=1) e_.nd (dq jK hr (aa (ac 0) ae))) (ah (am (lM (ax gE (au aV (ac 1) (ac 1)) (ac 0) (ay _)) (ac 1) eo)))),fun ds S k h=>?_⟩)
 ·obtain⟨_,rfl,_⟩:=h
  rfl
 ·obtain⟨n,rfl,h0,hb,q⟩:=h
  have b2:=Gq h0 hb
  refine⟨n,rfl,h0,hb,iB b2 b2,bj (fun e=>?_) (fun e=>?_)⟩
  ·rw [E4,if_pos e] at q
   exact q
  ·rw [E4,if_neg e] at q
   exact q
def og:b_:=fun ds S k=>∃ q:Rat,ds=[fr q]/\0<=q/\Sz 1600000 q/\(∀ r,0<=r->r*r=q->k (fr r) S)/\(Ko q->k .non S)
theorem lT:ar ["one","top","bottom"] ["one"] (ap nP):=dN
theorem v5 (Fn:cT K "root_in" "root_in" nP f fd) (cy:aQ P w K mg base "square_root_or_none" 35 dh):
  aH P w K mg base cQ 36 f fd ["one"] (cY K og):=by
 refine Fn.okJ lT (fun ds S k h=>?_) (fun cdv A outer s H E hr=>⟨_,(af (ag (i:=1) lT.nd (dq cy hr (aa (ai aj (ac 0) ad (fun _ _=>rfl)) ae))) (af (aE (ax BV (ac 1) eo (ay _)) (ah (am eo)) aD) (af (ag (i:=2) lT.nd (dq cy hr (aa (ai aj (ac 0) ad (fun _ _=>rfl)) ae))) (af (aE (ax BV (ac 2) eo (ay _)) (ah (am eo)) aD) (ah (am (aq (aa (ac 1) (aa (ac 2) ae))))))))),fun ds S k h=>?_⟩)
 ·obtain⟨_,rfl,_⟩:=h
  rfl
 ·obtain⟨q,rfl,h0,hs,h1,h2⟩:=h
  have n0:=t8 h0
  by_cases e:jX q.num*jX q.num=q.num
  ·by_cases e2:jX (q.den:Int)*jX (q.den:Int)=(q.den:Int)
   ·obtain⟨r,r0,rr⟩:=wx h0 e e2
    obtain⟨e3,e4⟩:=wg r0 rr
    have w:=h1 r r0 rr
    refine⟨q.num,rfl,n0,hs.num,?_⟩
    rw [show E4 q.num=.int (jX q.num) from if_pos e]
    refine⟨(q.den:Int),rfl,by omega,hs.den,?_⟩
    rw [show E4 (q.den:Int)=.int (jX (q.den:Int)) from if_pos e2,e3,e4]
    exact⟨few,w⟩
   ·refine⟨q.num,rfl,n0,hs.num,?_⟩
    rw [show E4 q.num=.int (jX q.num) from if_pos e]
    refine⟨(q.den:Int),rfl,by omega,hs.den,?_⟩
    rw [show E4 (q.den:Int)=.non from if_neg e2]
    refine h2 fun r rr=>e2 ?_
    have:=congrArg (fun z:Rat=>(z.den:Int)) rr
    simp only [Cz,Int.natCast_mul] at this
    exact Ad this
  ·refine⟨q.num,rfl,n0,hs.num,?_⟩
   rw [show E4 q.num=.non from if_neg e]
   refine h2 fun r rr=>e ?_
   have:=congrArg Rat.num rr
   rw [zO] at this
   exact Ad this
def jn:b_:=fun ds S k=>∃ x q,ds=[.tup [x,fr q]]/\k (.bl (decide (q=0))) S
theorem u9:ar ["one"] ["one"] (ap mr):=dN
theorem uX (Fn:cT K "is_plain" "is_plain" mr f fd):
  aH P w K mg base cQ 1 f fd ["one"] (cY K jn):=by
 refine Fn.okJ u9 (fun ds S k h=>?_) (fun cdv A outer s H E hr=>⟨_,(ah (am (kK gE (ai aj (ai aj (ac 0) ad (fun _ _=>rfl)) ad (fun _ _=>rfl)) ad (ay _)))),fun ds S k h=>?_⟩)
 ·obtain⟨_,_,rfl,_⟩:=h
  rfl
 ·obtain⟨x,q,rfl,w⟩:=h
  have e:decide (q.num=0)=decide (q=0):=by
   by_cases h0:q=0
   ·subst h0; rfl
   ·rw [decide_eq_false h0,decide_eq_false (sG h0)]
  rw [<- e] at w
  exact w
def iA:b_:=fun ds S k=>∃ p q:Rat,ds=[fr p,fr q]/\k (fr (sg p q)) S
theorem oO:ar ["one","other"] ["one","other"] (ap iE):=dN
theorem oN (Fn:cT K "with_sign_of" "with_sign_of" iE f fd) (aM:aQ P w K mg base "negative" 1 eO):
  aH P w K mg base cQ 2 f fd ["one","other"] (cY K iA):=by
 refine Fn.okJ oO (fun ds S k h=>?_) (fun cdv A outer s H E hr=>⟨_,(ah (am (lM (ax xY (ai aj (ac 1) ad (fun _ _=>rfl)) ad (ay _)) (dq aM hr (aa (ac 0) ae)) (ac 0)))),fun ds S k h=>?_⟩)
 ·obtain⟨_,_,rfl,_⟩:=h
  rfl
 ·obtain⟨p,q,rfl,w⟩:=h
  unfold sg at w
  refine bj (fun hn=>?_) (fun hn=>?_)
  ·rw [if_pos ((gu q).mp hn)] at w
   exact⟨p,rfl,w⟩
  ·rw [if_neg (fun z=>hn ((gu q).mpr z))] at w
   exact w
set_option maxHeartbeats 4000000
def jM:b_:=fun ds S k=>∃ u a b c d:Rat,ds=[N u a b,N u c d]/\0 < u/\k (fr (pick b d*pick b d*u)) S
theorem rg:ar ["one","other"] ["one","other"] (ap jG):=dN
theorem q9 (Fn:cT K "field_base" "field_base" jG f fd) (cV:aQ P w K mg base "without_sign" 1 fo) (fO:aQ P w K mg base "is_plain" 1 jn):
  aH P w K mg base cQ 2 f fd ["one","other"] (cY K jM):=by
 refine Fn.okJ rg (fun ds S k h=>?_) (fun cdv A outer s H E hr=>⟨_,(ah (am (dq cV hr (aa (lM (lh (dq fO hr (aa (ac 0) ae))) (ai aj (ac 1) ad (fun _ _=>rfl)) (ai aj (ac 0) ad (fun _ _=>rfl))) ae)))),fun ds S k h=>?_⟩)
 ·obtain⟨_,_,_,_,_,rfl,_⟩:=h
  rfl
 ·obtain⟨u,a,b,c,d,rfl,u0,w⟩:=h
  refine⟨fr a,ss b*u,rfl,bj (fun e=>⟨_,rfl,?_⟩) (fun e=>⟨_,rfl,?_⟩)⟩
  ·have e2:b=0:=(oU u0).mp e
   rw [show pick b d=d from if_pos e2] at w
   rw [AT u0]
   exact w
  ·have e2:¬ b=0:=fun z=>e ((oU u0).mpr z)
   rw [show pick b d=b from if_neg e2] at w
   rw [AT u0]
   exact w
def tV:b_:=fun ds S k=>∃ u a b e:Rat,ds=[N u a b,fr (e*e*u)]/\0 < u/\(b=0\/e≠0)/\Sm 120000 b e/\Sz 2800 u/\k (fr (b / ab e)) S
theorem vp:ar ["one","base","root"] ["one","base"] (ap tR):=dN
theorem B_ (Fn:cT K "share" "share" tR f fd) (fO:aQ P w K mg base "is_plain" 1 jn) (nM:aQ P w K mg base "root_in" 36 og) (dk:aQ P w K mg base "over" 35 mf) (cV:aQ P w K mg base "without_sign" 1 fo) (im:aQ P w K mg base "with_sign_of" 2 iA) (bK:qU K mg "NOUGHT" [0,1]):
  aH P w K mg base cQ 37 f fd ["one","base"] (cY K tV):=by
 refine Fn.okJ vp (fun ds S k h=>?_) (fun cdv A outer s H E hr=>⟨_,(af (aE (lh (dq fO hr (aa (ac 0) ae))) (ah (am (fM bK rfl))) aD) (af (ag (i:=2) vp.nd (dq nM hr (aa (dq dk hr (aa (dq cV hr (aa (ai aj (ac 0) ad (fun _ _=>rfl)) ae)) (aa (ac 1) ae))) ae))) (af (aE (ax BV (ac 2) eo (ay _)) (ah jh) aD) (ah (am (dq im hr (aa (ac 2) (aa (ai aj (ac 0) ad (fun _ _=>rfl)) ae)))))))),fun ds S k h=>?_⟩)
 ·obtain⟨_,_,_,_,rfl,_⟩:=h
  rfl
 ·obtain⟨u,a,b,e,rfl,u0,hbe,hs,hu,w⟩:=h
  refine⟨fr a,ss b*u,rfl,bj (fun z=>?_) (fun z=>?_)⟩
  ·have e2:b=0:=(oU u0).mp z
   subst e2
   rw [show (0:Rat) / ab e=0 by grind] at w
   exact w
  ·have e2:¬ b=0:=fun q=>z ((oU u0).mpr q)
   have e0:e≠0:=hbe.resolve_left e2
   have ne:e*e*u≠0:=by grind
   have ea:ab (ss b*u)=b*b*u:=AT u0
   have s1:Sz 242800 (ab (ss b*u)):=(hs.a.ss.mul hu).ab
   have s2:Sz 242800 (e*e*u):=(hs.b.mul hs.b).mul hu
   have nn:0<=ab (ss b*u) / (e*e*u):=vI (Ce _) (Rat.mul_nonneg (ck e) (Rat.le_of_lt u0))
   refine⟨_,rfl,ab (ss b*u),e*e*u,rfl,ne,s1.mono (by decide),s2.mono (by decide),_,rfl,nn,(s1.div s2 ne).mono (by decide),fun r r0 rr=>?_,fun no=>?_⟩
   ·rw [ea] at rr
    have er:=v7 u0 e0 r0 rr
    subst er
    refine⟨_,ss b*u,rfl,?_⟩
    rw [Bo u0]
    exact w
   ·rw [ea] at no
    exact absurd (Ai u0 e0) (no _)
def bs (u b d:Rat):Rat:=pick b d*pick b d*u
set_option maxHeartbeats 4000000
def aN (S S':DH):Prop:=∀ b o,S b=some o->S' b=some o
theorem aN.refl (S:DH):aN S S:=fun _ _ h=>h
theorem aN.trans {S S1 S2:DH} (a:aN S S1) (b:aN S1 S2):aN S S2:=fun c o h=>b c o (a c o h)
theorem aN.new {S:DH} {p:Addr} {o:DO} (h:S p=none):aN S (put S p o):=fun b u e=>by
 unfold put
 split
 ·rename_i z; subst z; rw [h] at e; cases e
 ·exact e
theorem aN.put {S S1:DH} {p:Addr} {o:DO} (e:aN S S1) (h:S p=none):aN S (put S1 p o):=fun b u z=>by
 unfold DL.put
 split
 ·rename_i y; subst y; rw [h] at z; cases z
 ·exact e b u z
abbrev Q:=Rat×Rat
def qa (x y:Q):Q:=(x.1+y.1,x.2+y.2)
def qs (x y:Q):Q:=(x.1 - y.1,x.2 - y.2)
def qm (u:Rat) (x y:Q):Q:=(x.1*y.1+x.2*y.2*u,x.1*y.2+x.2*y.1)
abbrev Sq (n:Nat) (x:Q):Prop:=Sm n x.1 x.2
def Pq (u:Rat) (x y:Q):D:=.tup [N u x.1 x.2,N u y.1 y.2]
def qo (p:Rat):Q:=(p,0)
def W (x y:Rat):D:=.tup [fr x,fr y]
def PP (x y:Rat):D:=.tup [.tup [fr x,fr 0],.tup [fr y,fr 0]]
def jw:b_:=fun ds S k=>∃ x y:Rat,ds=[PP x y]/\k (W x y) S
theorem uR:ar ["point"] ["point"] (ap l_):=dN
theorem uu (Fn:cT K "place_of" "place_of" l_ f fd):
  aH P w K mg base cQ 1 f fd ["point"] (cY K jw):=by
 refine Fn.okJ uR (fun ds S k h=>?_) (fun cdv A outer s H E hr=>⟨_,(ah (am (aq (aa (ai aj (ai aj (ac 0) ad (fun _ _=>rfl)) ad (fun _ _=>rfl)) (aa (ai aj (ai aj (ac 0) ad (fun _ _=>rfl)) ad (fun _ _=>rfl)) ae))))),fun ds S k h=>?_⟩)
 ·obtain⟨_,_,rfl,_⟩:=h
  rfl
 ·obtain⟨x,y,rfl,w⟩:=h
  exact⟨few,w⟩
def iN:b_:=fun ds S k=>∃ x y z v:Rat,ds=[W x y,W z v]/\Sz 20000000 x/\Sz 20000000 y/\Sz 20000000 z/\Sz 20000000 v/\k (W (z - x) (v - y)) S
theorem tP:ar ["one","other"] ["one","other"] (ap kr):=dN
theorem sE (Fn:cT K "plain_way" "plain_way" kr f fd) (dW:aQ P w K mg base "minus" 35 lr):
  aH P w K mg base cQ 36 f fd ["one","other"] (cY K iN):=by
 refine Fn.okJ tP (fun ds S k h=>?_) (fun cdv A outer s H E hr=>⟨_,(ah (am (aq (aa (dq dW hr (aa (ai aj (ac 1) ad (fun _ _=>rfl)) (aa (ai aj (ac 0) ad (fun _ _=>rfl)) ae))) (aa (dq dW hr (aa (ai aj (ac 1) ad (fun _ _=>rfl)) (aa (ai aj (ac 0) ad (fun _ _=>rfl)) ae))) ae))))),fun ds S k h=>?_⟩)
 ·obtain⟨_,_,_,_,rfl,_⟩:=h
  rfl
 ·obtain⟨x,y,z,v,rfl,hx,hy,hz,hv,w⟩:=h
  exact⟨z,x,rfl,hz,hx,v,y,rfl,hv,hy,few,w⟩
def bG:b_:=fun ds S k=>∃ x y z v:Rat,ds=[W x y,W z v]/\Sz 360000 x/\Sz 360000 y/\Sz 360000 z/\Sz 360000 v/\k (fr (x*z+y*v)) S
theorem mw:ar ["one","other"] ["one","other"] (ap fy):=dN
theorem ml (Fn:cT K "product_of_ways" "product_of_ways" fy f fd) (ft:aQ P w K mg base "plus" 35 n6) (bO:aQ P w K mg base "times" 35 jx):
  aH P w K mg base cQ 36 f fd ["one","other"] (cY K bG):=by
 refine Fn.okJ mw (fun ds S k h=>?_) (fun cdv A outer s H E hr=>⟨_,(ah (am (dq ft hr (aa (dq bO hr (aa (ai aj (ac 0) ad (fun _ _=>rfl)) (aa (ai aj (ac 1) ad (fun _ _=>rfl)) ae))) (aa (dq bO hr (aa (ai aj (ac 0) ad (fun _ _=>rfl)) (aa (ai aj (ac 1) ad (fun _ _=>rfl)) ae))) ae))))),fun ds S k h=>?_⟩)
 ·obtain⟨_,_,_,_,rfl,_⟩:=h
  rfl
 ·obtain⟨x,y,z,v,rfl,hx,hy,hz,hv,w⟩:=h
  exact⟨x,z,rfl,hx.mono (by decide),hz.mono (by decide),y,v,rfl,hy.mono (by decide),hv.mono (by decide),_,_,rfl,(hx.mul hz).mono (by decide),(hy.mul hv).mono (by decide),w⟩
def t9:b_:=fun ds S k=>∃ x y a b t:Rat,ds=[W x y,W a b,fr t]/\Sz 360000 x/\Sz 360000 y/\Sz 360000 a/\Sz 360000 b/\Sz 360000 t/\k (W (x+a*t) (y+b*t)) S
theorem BD:ar ["place","way","by"] ["place","way","by"] (ap uj):=dN
theorem Au (Fn:cT K "moved" "moved" uj f fd) (ft:aQ P w K mg base "plus" 35 n6) (bO:aQ P w K mg base "times" 35 jx):
  aH P w K mg base cQ 36 f fd ["place","way","by"] (cY K t9):=by
 refine Fn.okJ BD (fun ds S k h=>?_) (fun cdv A outer s H E hr=>⟨_,(ah (am (aq (aa (dq ft hr (aa (ai aj (ac 0) ad (fun _ _=>rfl)) (aa (dq bO hr (aa (ai aj (ac 1) ad (fun _ _=>rfl)) (aa (ac 2) ae))) ae))) (aa (dq ft hr (aa (ai aj (ac 0) ad (fun _ _=>rfl)) (aa (dq bO hr (aa (ai aj (ac 1) ad (fun _ _=>rfl)) (aa (ac 2) ae))) ae))) ae))))),fun ds S k h=>?_⟩)
 ·obtain⟨_,_,_,_,_,rfl,_⟩:=h
  rfl
 ·obtain⟨x,y,a,b,t,rfl,hx,hy,ha,hb,ht,w⟩:=h
  exact⟨a,t,rfl,ha.mono (by decide),ht.mono (by decide),_,_,rfl,hx.mono (by decide),(ha.mul ht).mono (by decide),b,t,rfl,hb.mono (by decide),ht.mono (by decide),_,_,rfl,hy.mono (by decide),(hb.mul ht).mono (by decide),few,w⟩
def eK:b_:=fun ds S k=>∃ a b:Rat,ds=[W a b]/\Sz 360000 a/\Sz 360000 b/\a*a+b*b≠0/\k (fr (a*a+b*b)) S
theorem gM:ar ["way","square"] ["way"] (ap eR):=dN
theorem lC (Fn:cT K "square_of_unlike" "square_of_unlike" eR f fd) (az:aQ P w K mg base "product_of_ways" 36 bG):
  aH P w K mg base cQ 37 f fd ["way"] (cY K eK):=by
 refine Fn.okJ gM (fun ds S k h=>?_) (fun cdv A outer s H E hr=>⟨_,(af (ag (i:=1) gM.nd (dq az hr (aa (ac 0) (aa (ac 0) ae)))) (af (aE (ax gE (ai aj (ac 1) ad (fun _ _=>rfl)) ad (ay _)) (ah jh) aD) (ah (am (ac 1))))),fun ds S k h=>?_⟩)
 ·obtain⟨_,_,rfl,_⟩:=h
  rfl
 ·obtain⟨a,b,rfl,ha,hb,h0,w⟩:=h
  exact⟨a,b,a,b,rfl,ha,hb,ha,hb,bj (fun z=>absurd (Rat.num_eq_zero.mp z) h0) (fun _=>w)⟩
set_option maxHeartbeats 4000000
structure BQ (c:List (List Int×Rat)) (ns:List (List Int×Int)):Prop where
 keys:ns.map (·.1)=c.map (·.1)
 sc:∃ t:Rat,t≠0/\(∀ p∈ns,∃ q,(p.1,q)∈c/\(p.2:Rat)=t*q)/\∀ p∈c,∃ n:Int,(p.1,n)∈ns/\(n:Rat)=t*p.2
 co:∀ d:Int,(∀ p∈ns,d ∣ p.2)->d ∣ 1
 sg:∃ p∈ns,(∀ q∈ns,sX q.1 p.1=false)/\0 < p.2
theorem C4 (q:Rat):((q.den:Int):Rat)≠0:=fun z=>by
 have:=q.den_nz
 have:(q.den:Int)=0:=Rat.intCast_inj.mp (by rw [z]; rfl)
 omega
theorem pf (q:Rat):((q.den:Int):Rat)*q=(q.num:Rat):=by
 have d0:=C4 q
 have e:=Rat.num_divInt_den q
 rw [Rat.divInt_eq_div] at e
 grind
def dZ (B:Int) (q:Rat):Int:=q.num*B.fdiv (q.den:Int)
theorem lu {B:Int} {q:Rat} (h:(q.den:Int) ∣ B):((dZ B q:Int):Rat)=B*q:=by
 obtain⟨c,rfl⟩:=h
 have d0:(q.den:Int)≠0:=by have:=q.den_nz; omega
 have z:=pf q
 unfold dZ
 rw [Int.mul_fdiv_cancel_left c d0,Rat.intCast_mul,Rat.intCast_mul,<- z]
 grind
theorem Hz {c:List (List Int×Rat)} {B g:Int} (B0:B≠0) (hd:∀ p∈c,(p.2.den:Int) ∣ B) (g0:g≠0) (gd:∀ p∈c,g ∣ dZ B p.2) (gm:∀ d:Int,(∀ p∈c,d ∣ dZ B p.2)->d ∣ g)
  (hs:∃ p∈c,(∀ q∈c,sX q.1 p.1=false)/\0 < (dZ B p.2).fdiv g):BQ c (c.map fun p=>(p.1,(dZ B p.2).fdiv g)):=by
 have ex:∀ p∈c,g*(dZ B p.2).fdiv g=dZ B p.2:=fun p hp=>by
  obtain⟨x,e⟩:=gd p hp
  rw [e,Int.mul_fdiv_cancel_left x g0]
 have gr:(g:Rat)≠0:=by
  intro z
  exact g0 (Rat.intCast_inj.mp (by rw [z]; rfl))
 have tr:∀ p∈c,(((dZ B p.2).fdiv g:Int):Rat)=((B:Rat) / g)*p.2:=fun p hp=>by
  have e:=congrArg (fun z:Int=>(z:Rat)) (ex p hp)
  simp only [Rat.intCast_mul] at e
  rw [lu (hd p hp)] at e
  grind
 refine⟨by rw [List.map_map]; rfl,⟨(B:Rat) / g,?_,fun p hp=>?_,fun p hp=>⟨_,List.mem_map.mpr ⟨p,hp,rfl⟩,tr p hp⟩⟩,fun d h=>?_,?_⟩
 ·intro z
  have:(B:Rat)=0:=by grind
  exact B0 (Rat.intCast_inj.mp (by rw [this]; rfl))
 ·obtain⟨x,hx,rfl⟩:=List.mem_map.mp hp
  exact⟨x.2,hx,tr x hx⟩
 ·have z:d*g ∣ g:=gm _ fun p hp=>by
   obtain⟨x,e⟩:=h _ (List.mem_map.mpr ⟨p,hp,rfl⟩)
   simp only at e
   refine⟨x,?_⟩
   have:=ex p hp
   rw [<- this,e]
   grind
  obtain⟨y,e⟩:=z
  refine⟨y,?_⟩
  have : g * (d * y) = g * 1 := by rw [Int.mul_one]; conv => rhs; rw [e]
                                   grind
  exact(Int.eq_of_mul_eq_mul_left g0 this).symm
 ·obtain⟨p,hp,mx,pos⟩:=hs
  refine⟨_,List.mem_map.mpr ⟨p,hp,rfl⟩,fun q hq=>?_,pos⟩
  obtain⟨x,hx,rfl⟩:=List.mem_map.mp hq
  exact mx x hx
def i_ {α:Type} (f:α->D) (l:List (List Int×α)):List (List Int×D):=l.map fun p=>(p.1,f p.2)
abbrev lq:=i_ fr
abbrev aX:=i_ D.int
abbrev wq:=i_ (fun n:Int=>D.tup [.int n,.int 1])
abbrev bN (l:List (List Int×D)) (ep:Nat):DO:=.gen (.dT l ep)
section
variable {α:Type} {f:α->D}
theorem n_:∀ {l:List (List Int×α)} {k:List Int},k∉l.map (·.1)->df (i_ f l) k=none
 | [],_,_=>rfl
 | p::l,k,h=>by
  rw [List.map_cons,List.mem_cons,not_or] at h
  have e:df (i_ f (p::l)) k=df (i_ f l) k:=by simp [df,i_,List.find?_cons,Ne.symm h.1]
  rw [e]
  exact n_ h.2
theorem hG:∀ {l:List (List Int×α)} {k:List Int} {x:α},(l.map (·.1)).Nodup->(k,x)∈l->df (i_ f l) k=some (f x)
 | [],_,_,_,h=>nomatch h
 | p::l,k,x,nd,h=>by
  rw [List.map_cons,List.nodup_cons] at nd
  rcases List.mem_cons.mp h with e | m
  ·subst e
   simp [df,i_]
  ·have ne:p.1≠k:=fun z=>nd.1 (List.mem_map.mpr ⟨_,m,z.symm⟩)
   have e:df (i_ f (p::l)) k=df (i_ f l) k:=by simp [df,i_,List.find?_cons,ne]
   rw [e]
   exact hG nd.2 m
theorem gx {l:List (List Int×α)} {k:List Int} {x:α} (h:k∉l.map (·.1)):iw (i_ f l) k (f x)=i_ f (l++[(k,x)]):=by
 unfold iw
 rw [n_ h,if_neg (by simp)]
 simp [i_]
theorem eI {l:List (List Int×α)}:(i_ f l).length=l.length:=List.length_map _
theorem mt {l r:List (List Int×α)} {p:List Int×α} (h:((l++p::r).map (·.1)).Nodup):p.1∉l.map (·.1):=by
 rw [List.map_append,List.map_cons,List.nodup_append] at h
 exact fun m=>h.2.2 _ m _ List.mem_cons_self rfl
end
theorem lim {n:Nat} (h:n<=100):n < sizeLine:=Nat.lt_of_lt_of_le (by omega:n < 300) (Nat.le_of_ble_eq_true (rfl:Nat.ble 300 sizeLine=true))
theorem jb {l:List (List Int×Rat)} {g:List Int×Rat->Bool} (h:(l.map (·.1)).Nodup):((l.filter g).map (·.1)).Nodup:=List.Sublist.nodup (List.Sublist.map _ List.filter_sublist) h
theorem Bm {l:List (List Int×Rat)} {g:List Int×Rat->Bool} {k:List Int} (h:k∉l.map (·.1)):k∉(l.filter g).map (·.1):=fun m=>h (by
 obtain⟨x,hx,e⟩:=List.mem_map.mp m
 exact List.mem_map.mpr ⟨x,(List.mem_filter.mp hx).1,e⟩)
abbrev nz (l:List (List Int×Rat)):List (List Int×Rat):=l.filter fun p=>decide (p.2≠0)
def dz:b_:=fun ds S k=>∃ (a:Addr) (c:List (List Int×Rat)) (ep:Nat),ds=[.ref a]/\S a=some (bN (lq c) ep)/\(c.map (·.1)).Nodup/\c.length<=100/\∀ S' p ep',aN S S'->S p=none->S' p=some (bN (lq (nz c)) ep')->k (.ref p) S'
theorem c7:ar ["sums","told","key","fraction"] ["sums"] (ap fj):=dN
theorem lR (Fn:cT K "without_noughts" "without_noughts" fj f fd):
  aH P w K mg base cQ 1 f fd ["sums"] (cY K dz):=by
 refine Fn.okJ c7 (fun ds S k h=>?_) (fun cdv A outer s H E hr=>⟨_,(af (ag (i:=1) c7.nd fT) (af (dc PassesOwn.never rfl (ff (ac 0)) (fC (n:=2) rfl (aJ (aw (i:=2) c7.nd) (aJ (aw (i:=3) c7.nd) dP))) (ah (aE (ax yl (ai aj (ac 3) ad (fun _ _=>rfl)) ad (ay _)) (ah (cS (ac 3) (fX hr (ac 1) (ac 2)))) aD))) (ah (am (ac 1))))),fun ds S k h=>?_⟩)
 ·obtain⟨_,_,_,rfl,_⟩:=h
  rfl
 ·obtain⟨a,c,ep,rfl,ha,nd,hl,w⟩:=h
  refine fun p hp e0=>⟨_,_,av hp ha,?_⟩
  refine bh (fun r L S'=>∃ (don ao:List (List Int×Rat)) (e1:Nat) (l2 l3:Option D),c=don++ao/\r=dL (lq ao)/\L=[some (.ref a),some (.ref p),l2,l3]/\aN S S'/\S' a=some (bN (lq c) ep)/\S' p=some (bN (lq (nz don)) e1)) (fun r L S' ⟨_,_,_,_,_,_,_,_,_,h,_⟩=>h) ?_ ?_ _ _ _ ⟨[],c,e0,none,none,rfl,rfl,rfl,aN.new hp,av hp ha,ak⟩
  ·rintro d r L S1 N1 ⟨don,ao,e1,l2,l3,ec,er,rfl,x1,a1,p1⟩ hN
   cases ao with
   | nil=>cases er
   | cons q ao=>
    cases er
    have nq:=mt (p:=q) (ec▸nd)
    have lz:(nz don).length<=don.length:=List.length_filter_le _ _
    have hd:don.length < 100:=by have:=congrArg List.length ec; rw [List.length_append,List.length_cons] at this; omega
    have nap:a≠p:=gJ ha hp
    refine⟨([cL q.1,fr q.2],none),rfl,rfl,rfl,s9 (fun h0=>⟨_,_,_,p1,rfl,by rw [eI]; exact lim (by omega),fun e2=>hN _ _ ⟨don++[q],ao,e2,_,_,by rw [ec]; simp,rfl,rfl,x1.put hp,by rw [bo nap]; exact a1,?_⟩⟩) (fun h0=>hN _ _ ⟨don++[q],ao,e1,_,_,by rw [ec]; simp,rfl,rfl,x1,a1,?_⟩)⟩
    ·have q0:q.2≠0:=fun z=>h0 (by rw [z]; rfl)
     rw [ak,gx (Bm nq)]
     simp [nz,List.filter_append,q0]
    ·have q0:q.2=0:=Rat.num_eq_zero.mp h0
     rw [p1]
     simp [nz,List.filter_append,q0]
  ·rintro L S1 ⟨don,ao,e1,l2,l3,ec,er,rfl,x1,a1,p1⟩
   cases ao with
   | cons q ao=>cases er
   | nil=>
    rw [List.append_nil] at ec
    subst ec
    exact w S1 p e1 x1 hp p1
theorem xH {a b:Int} (ha:0 < a) (hb:0 < b):(a.fdiv ((Int.gcd a b:Nat):Int))*b=((Int.lcm a b:Nat):Int):=by
 have h1:((Int.gcd a b:Nat):Int) ∣ a:=Int.gcd_dvd_left a b
 have g0:((Int.gcd a b:Nat):Int)≠0:=by
  have:=Int.gcd_pos_of_ne_zero_left (a:=a) b (by omega)
  omega
 have z:((Int.gcd a b:Nat):Int)*((Int.lcm a b:Nat):Int)=a*b:=by
  have e2:=congrArg (fun n:Nat=>(n:Int)) (Int.gcd_mul_lcm a b)
  simp only [Int.natCast_mul] at e2
  rw [Int.natAbs_of_nonneg (by omega),Int.natAbs_of_nonneg (by omega)] at e2
  exact e2
 generalize ((Int.gcd a b:Nat):Int)=g at h1 g0 z
 generalize ((Int.lcm a b:Nat):Int)=l at z
 obtain⟨x,rfl⟩:=h1
 rw [Int.mul_fdiv_cancel_left x g0]
 refine Int.eq_of_mul_eq_mul_left g0 ?_
 rw [z,Int.mul_assoc]
def cK:b_:=fun ds S k=>∃ a b:Int,ds=[.int a,.int b]/\0 < a/\0 < b/\Bt 20000 a/\Bt 20000 b/\k (.int ((Int.lcm a b:Nat):Int)) S
theorem lU:ar ["one","other"] ["one","other"] (ap fm):=dN
theorem lZ (Fn:cT K "common_multiple" "common_multiple" fm f fd) (aT:aQ P w K mg base "common_divisor" 1 bH) (hBl:oS mg base) (hTr:P.given.tree=none):
  aH P w K mg base cQ 34 f fd ["one","other"] (cY K cK):=by
 refine Fn.okJ lU (fun ds S k h=>?_) (fun cdv A outer s H E hr=>⟨_,(ah (am (au aV (au (kY hr hBl hTr rfl rfl rfl (by decide)) (ac 0) (dq aT hr (aa (ac 0) (aa (ac 1) ae)))) (ac 1)))),fun ds S k h=>?_⟩)
 ·obtain⟨_,_,rfl,_⟩:=h
  rfl
 ·obtain⟨a,b,rfl,ha,hb,ba,bb,w⟩:=h
  rw [<- xH ha hb] at w
  have g0:((Int.gcd a b:Nat):Int)≠0:=by
   have:=Int.gcd_pos_of_ne_zero_left (a:=a) b (by omega)
   omega
  exact⟨g0,iB (ba.le (HM.aC _ _)) bb,w⟩
def sJ:Int->List Rat->Int
 | m,[]=>m
 | m,q::qs=>sJ ((Int.lcm m (q.den:Int):Nat):Int) qs
theorem ni {a b:Int} (ha:0 < a) (hb:0 < b):0 < ((Int.lcm a b:Nat):Int):=by
 have:=Int.lcm_pos (m:=a) (n:=b) (by omega) (by omega)
 omega
theorem CO {m n:Nat} {a b:Int} (ha:0 < a) (hb:0 < b) (ba:Bt m a) (bb:Bt n b):Bt (m+n) ((Int.lcm a b:Nat):Int):=by
 rw [<- xH ha hb]
 exact(ba.le (HM.aC _ _)).mul bb
theorem gN (q:Rat):0 < (q.den:Int):=by have:=q.den_nz; omega
theorem Aa {w:Nat}:∀ {qs:List Rat} {m:Int} {n:Nat},0 < m->Bt n m->(∀ q∈qs,Sz w q)->0 < sJ m qs/\Bt (n+w*qs.length) (sJ m qs)
 | [],_,_,h0,h,_=>⟨h0,h⟩
 | q::qs,m,n,h0,h,hq=>by
  obtain⟨a,b⟩:=Aa (qs:=qs) (ni h0 (gN q)) (CO h0 (gN q) h (hq q List.mem_cons_self).den) fun p hp=>hq p (List.mem_cons_of_mem _ hp)
  refine⟨a,b.mono ?_⟩
  rw [List.length_cons,Nat.mul_add]
  omega
theorem o7:∀ {qs:List Rat} {m:Int},m ∣ sJ m qs/\∀ q∈qs,(q.den:Int) ∣ sJ m qs
 | [],m=>⟨Int.dvd_refl m,fun q h=>nomatch h⟩
 | q::qs,m=>by
  obtain⟨a,b⟩:=o7 (qs:=qs) (m:=((Int.lcm m (q.den:Int):Nat):Int))
  refine⟨Int.dvd_trans (Int.dvd_lcm_left ..) a,fun p hp=>?_⟩
  rcases List.mem_cons.mp hp with e | m'
  ·rw [e]
   exact Int.dvd_trans (Int.dvd_lcm_right ..) a
  ·exact b p m'
theorem kf {n:Nat} {g x:Int} (h:g ∣ x) (x0:x≠0) (b:Bt n x):Bt n g:=b.le (Nat.le_of_dvd (by omega) (Int.natAbs_dvd_natAbs.mpr h))
theorem wH {B:Int}:∀ {qs:List Rat} {m:Int},m ∣ B->(∀ q∈qs,(q.den:Int) ∣ B)->sJ m qs ∣ B
 | [],_,h,_=>h
 | q::qs,m,h,hq=>wH (qs:=qs) (Int.coe_lcm_dvd h (hq q List.mem_cons_self)) fun p hp=>hq p (List.mem_cons_of_mem _ hp)
theorem sK:∀ {qs:List Rat} {m:Int},0 < m->0 < sJ m qs
 | [],_,h=>h
 | q::qs,m,h=>sK (qs:=qs) (ni h (gN q))
theorem Ha {q:Rat} {B t:Int} (b0:B≠0) (e:(B:Rat)*q=t):(q.den:Int) ∣ B:=by
 have r0:(B:Rat)≠0:=fun z=>b0 (Rat.intCast_inj.mp (by rw [z]; rfl))
 have:q=Rat.divInt t B:=by
  rw [Rat.divInt_eq_div,<- e]
  grind
 rw [this]
 rw [Rat.den_divInt,if_neg b0,Int.ofNat_dvd_left]
 exact Nat.div_dvd_of_dvd (Nat.gcd_dvd_left _ _)
def eF:b_:=fun ds S k=>∃ (a:Addr) (qs:List Rat) (B:Int),ds=[.ref a]/\S a=some (.lst (qs.map fr))/\0 < B/\Bt 3000 B/\(∀ q∈qs,(q.den:Int) ∣ B)/\k (.int (sJ 1 qs)) S
theorem cX:ar ["fractions","bottom","fraction"] ["fractions"] (ap gz):=dN
theorem nR (Fn:cT K "common_bottom" "common_bottom" gz f fd) (aO:aQ P w K mg base "common_multiple" 34 cK):
  aH P w K mg base cQ 35 f fd ["fractions"] (cY K eF):=by
 refine Fn.okJ cX (fun ds S k h=>?_) (fun cdv A outer s H E hr=>⟨_,(af (ag (i:=1) cX.nd ad) (af (eS PassesOwn.never rfl (ac 0) (aw (i:=2) cX.nd) (ah (ag (i:=1) cX.nd (dq aO hr (aa (ac 1) (aa (ai aj (ac 2) ad (fun _ _=>rfl)) ae)))))) (ah (am (ac 1))))),fun ds S k h=>?_⟩)
 ·obtain⟨_,_,_,rfl,_⟩:=h
  rfl
 ·obtain⟨a,qs,B,rfl,ha,B0,bB,hq,w⟩:=h
  refine⟨(qs.map fr,some a),by simp only [aU,ha],?_⟩
  refine bh (fun r L S'=>S'=S/\∃ (rs:List Rat) (m:Int) (l2:Option D),L=[some (.ref a),some (.int m),l2]/\r=rs.map fr/\sJ 1 qs=sJ m rs/\0 < m/\m ∣ B/\∀ q∈rs,(q.den:Int) ∣ B) (fun r L S' ⟨e,_⟩=>by rw [e]; exact ha) ?_ ?_ _ _ _ ⟨rfl,qs,1,none,rfl,rfl,rfl,by decide,Int.one_dvd B,hq⟩
  ·rintro d r L S1 N1 ⟨rfl,rs,m,l2,rfl,er,hm,m0,bm,hr⟩ hN
   cases rs with
   | nil=>cases er
   | cons q rs=>
    cases er
    have hq:=hr q List.mem_cons_self
    exact⟨m,(q.den:Int),rfl,m0,gN q,(kf bm (by omega) bB).mono (by decide),(kf hq (by omega) bB).mono (by decide),hN _ _ ⟨rfl,rs,_,_,rfl,rfl,hm,ni m0 (gN q),Int.coe_lcm_dvd bm hq,fun p hp=>hr p (List.mem_cons_of_mem _ hp)⟩⟩
  ·rintro L S1 ⟨rfl,rs,m,l2,rfl,er,hm,_⟩
   cases rs with
   | nil=>rw [hm] at w; exact w
   | cons _ _=>cases er
def Dn (B:Int) (T:Nat) (c:List (List Int×Rat)):Prop:=∀ p∈c,∃ t:Int,Bt T t/\(B:Rat)*p.2=t
theorem Dn.dv {B:Int} {T:Nat} {c:List (List Int×Rat)} (h:Dn B T c) (b0:B≠0):∀ q∈c.map (·.2),(q.den:Int) ∣ B:=fun q hq=>by
 obtain⟨p,hp,rfl⟩:=List.mem_map.mp hq
 obtain⟨t,_,e⟩:=h p hp
 exact Ha b0 e
theorem Dn.sz {B:Int} {T n:Nat} {c:List (List Int×Rat)} (h:Dn B T c) (B0:0 < B) (bB:Bt n B) (hT:T<=n):∀ p∈c,Sz n p.2:=fun p hp=>by
 obtain⟨t,bt,e⟩:=h p hp
 have r0:(B:Rat)≠0:=fun z=>by
  have:B=0:=Rat.intCast_inj.mp (by rw [z]; rfl)
  omega
 have:p.2=Rat.divInt t B:=by
  rw [Rat.divInt_eq_div,<- e]
  grind
 rw [this]
 exact Sz.divInt (bt.mono hT) bB (by omega)
def gj:b_:=fun ds S k=>∃ (a:Addr) (c:List (List Int×Rat)) (ep:Nat) (B:Int),ds=[.ref a,.int B]/\S a=some (bN (lq c) ep)/\(c.map (·.1)).Nodup/\c.length<=100/\(∀ p∈c,Sz 4000 p.2)/\Bt 4000 B/\∀ S' p ep',aN S S'->S' p=some (bN (aX (c.map fun x=>(x.1,dZ B x.2))) ep')->k (.ref p) S'
theorem gX:ar ["curve","bottom","tops","key","fraction"] ["curve","bottom"] (ap kh):=dN
theorem ui (Fn:cT K "tops_over" "tops_over" kh f fd):
  aH P w K mg base cQ 1 f fd ["curve","bottom"] (cY K gj):=by
 refine Fn.okJ gX (fun ds S k h=>?_) (fun cdv A outer s H E hr=>⟨_,(af (ag (i:=2) gX.nd fT) (af (dc PassesOwn.never rfl (ff (ac 0)) (fC (n:=2) rfl (aJ (aw (i:=3) gX.nd) (aJ (aw (i:=4) gX.nd) dP))) (ah (cS (au aV (ai aj (ac 4) ad (fun _ _=>rfl)) (au lK (ac 1) (ai aj (ac 4) ad (fun _ _=>rfl)))) (fX hr (ac 2) (ac 3))))) (ah (am (ac 2))))),fun ds S k h=>?_⟩)
 ·obtain⟨_,_,_,_,rfl,_⟩:=h
  rfl
 ·obtain⟨a,c,ep,B,rfl,ha,nd,hl,hz,bB,w⟩:=h
  refine fun p hp e0=>⟨_,_,av hp ha,?_⟩
  have nap:a≠p:=gJ ha hp
  refine bh (fun r L S'=>∃ (don ao:List (List Int×Rat)) (e1:Nat) (l2 l3:Option D),c=don++ao/\r=dL (lq ao)/\L=[some (.ref a),some (.int B),some (.ref p),l2,l3]/\aN S S'/\S' a=some (bN (lq c) ep)/\S' p=some (bN (aX (don.map fun x=>(x.1,dZ B x.2))) e1)) (fun r L S' ⟨_,_,_,_,_,_,_,_,_,h,_⟩=>h) ?_ ?_ _ _ _ ⟨[],c,e0,none,none,rfl,rfl,rfl,aN.new hp,av hp ha,ak⟩
  ·rintro d r L S1 N1 ⟨don,ao,e1,l2,l3,ec,er,rfl,x1,a1,p1⟩ hN
   cases ao with
   | nil=>cases er
   | cons q ao=>
    cases er
    have nq:=mt (p:=q) (ec▸nd)
    have hd:don.length < 100:=by have:=congrArg List.length ec; rw [List.length_append,List.length_cons] at this; omega
    have sq:Sz 4000 q.2:=hz q (by rw [ec]; simp)
    have nk:q.1∉(don.map fun x=>(x.1,dZ B x.2)).map (·.1):=by rw [List.map_map]; exact nq
    refine⟨([cL q.1,fr q.2],none),rfl,rfl,rfl,Cg (by have:=gN q.2; omega) sq.den,iB sq.num (bB.le (HM.aC _ _)),_,_,_,p1,rfl,by rw [eI,List.length_map]; exact lim (by omega),fun e2=>hN _ _ ⟨don++[q],ao,e2,_,_,by rw [ec]; simp,rfl,rfl,x1.put hp,by rw [bo nap]; exact a1,?_⟩⟩
    refine ak.trans ?_
    have z:=gx (f:=D.int) (x:=dZ B q.2) nk
    show some (DO.gen (ED.dT (iw _ q.1 (D.int (dZ B q.2))) e2))=_
    rw [z]
    simp
  ·rintro L S1 ⟨don,ao,e1,l2,l3,ec,er,rfl,x1,a1,p1⟩
   cases ao with
   | cons q ao=>cases er
   | nil=>
    rw [List.append_nil] at ec
    subst ec
    exact w S1 p e1 x1 p1
structure Gp (l:List (List Int×Int)) (g:Int):Prop where
 dv:∀ p∈l,g ∣ p.2
 mx:∀ d:Int,(∀ p∈l,d ∣ p.2)->d ∣ g
 nn:0<=g
theorem Gp.nil:Gp [] 0:=⟨(by simp),(fun d _=>Int.dvd_zero d),Int.le_refl 0⟩
theorem Gp.snoc {l:List (List Int×Int)} {g:Int} {p:List Int×Int} (h:Gp l g):Gp (l++[p]) ((Int.gcd g p.2:Nat):Int):=by
 refine⟨fun q hq=>?_,fun d hd=>Int.dvd_coe_gcd (h.mx d fun q hq=>hd q (List.mem_append_left _ hq)) (hd p (by simp)),by omega⟩
 rcases List.mem_append.mp hq with m | m
 ·exact Int.dvd_trans (Int.gcd_dvd_left ..) (h.dv q m)
 ·have e:q=p:=by simpa using m
  rw [e]
  exact Int.gcd_dvd_right ..
theorem Bf {g x:Int} (h:g ∣ x) (h0:x≠0) (hs:(x < 0->g < 0)/\(0 < x->0 < g)):0 < x.fdiv g:=by
 obtain⟨y,rfl⟩:=h
 have g0:g≠0:=fun z=>h0 (by rw [z,Int.zero_mul])
 rw [Int.mul_fdiv_cancel_left y g0]
 rcases Int.lt_trichotomy (g*y) 0 with c | c | c
 ·have:=hs.1 c
  exact Int.pos_of_mul_neg_left (Int.mul_comm g y▸c) (by omega)
 ·exact absurd c h0
 ·have:=hs.2 c
  exact Int.pos_of_mul_pos_left (Int.mul_comm g y▸c) (by omega)
def cr:b_:=fun ds S k=>∃ (a:Addr) (ts:List (List Int×Int)) (ep:Nat),ds=[.ref a]/\S a=some (bN (aX ts) ep)/\(ts.map (·.1)).Nodup/\ts.length<=100/\ts≠[]/\(∀ p∈ts,∃ i j,p.1=[i,j])/\(∀ p∈ts,p.2≠0/\Bt 8000 p.2)/\
 ∀ S' p ep' g,aN S S'->g≠0->(∀ p∈ts,g ∣ p.2)->(∀ d:Int,(∀ p∈ts,d ∣ p.2)->d ∣ g)->(∃ m∈ts,(∀ q∈ts,sX q.1 m.1=false)/\0 < m.2.fdiv g)->S' p=some (bN (wq (ts.map fun x=>(x.1,x.2.fdiv g))) ep')->k (.ref p) S'
theorem aW:ar ["tops","shared","top","told","key"] ["tops"] (ap fJ):=dN
theorem nj (Fn:cT K "normal_of_tops" "normal_of_tops" fJ f fd) (aT:aQ P w K mg base "common_divisor" 1 bH) (hZ:mg "max"=none):
  aH P w K mg base cQ 2 f fd ["tops"] (cY K cr):=by
 refine Fn.okJ aW (fun ds S k h=>?_) (fun cdv A outer s H E hr=>⟨_,(af (ag (i:=1) aW.nd ad) (af (dc PassesOwn.never rfl (xz (ac 0)) (aw (i:=2) aW.nd) (ah (ag (i:=1) aW.nd (dq aT hr (aa (ac 1) (aa (ac 2) ae)))))) (af (aE (ax xY (oW hr (ac 0) (cU (FC hr) rfl hZ pj (aa (ac 0) ae)) (fun _ _=>rfl)) ad (ay _)) (ah (ag (i:=1) aW.nd (fv fg (ac 1)))) aD) (af (ag (i:=3) aW.nd fT) (af (dc PassesOwn.never rfl (ff (ac 0)) (fC (n:=2) rfl (aJ (aw (i:=4) aW.nd) (aJ (aw (i:=2) aW.nd) dP))) (ah (cS (aq (aa (au lK (ac 2) (ac 1)) (aa ad ae))) (fX hr (ac 3) (ac 4))))) (ah (am (ac 3)))))))),fun ds S k h=>?_⟩)
 ·obtain⟨_,_,_,rfl,_⟩:=h
  rfl
 ·obtain⟨a,ts,ep,rfl,ha,nd,hl,ne,two,hz,w⟩:=h
  refine⟨_,_,ha,?_⟩
  refine bh (fun r L S'=>S'=S/\∃ (don ao:List (List Int×Int)) (g:Int) (l2:Option D),ts=don++ao/\r=ao.map (fun p=>D.int p.2)/\L=[some (.ref a),some (.int g),l2,none,none]/\Gp don g) (fun r L S' ⟨e,_⟩=>by rw [e]; exact ha) ?_ ?_ _ _ _ ⟨rfl,[],ts,0,none,rfl,by show List.map _ (List.map _ ts)=_; rw [List.map_map]; rfl,rfl,Gp.nil⟩
  ·rintro d r L S1 N1 ⟨rfl,don,ao,g,l2,ec,er,rfl,hg⟩ hN
   cases ao with
   | nil=>cases er
   | cons q ao=>
    cases er
    exact hN _ _ ⟨rfl,don++[q],ao,_,_,by rw [ec]; simp,rfl,rfl,hg.snoc⟩
  ·rintro L S1 ⟨rfl,don,ao,g,l2,ec,er,rfl,hg⟩
   cases ao with
   | cons q ao=>cases er
   | nil=>
    rw [List.append_nil] at ec
    subst ec
    have mk:∀ m∈aX ts,∃ x∈ts,m=(x.1,D.int x.2):=fun m hm=>by
     obtain⟨x,hx,rfl⟩:=List.mem_map.mp hm
     exact⟨x,hx,rfl⟩
    have ao:∀ g':Int,g'≠0->(∀ p∈ts,g' ∣ p.2)->(∀ d:Int,(∀ p∈ts,d ∣ p.2)->d ∣ g')->(∃ m∈ts,(∀ q∈ts,sX q.1 m.1=false)/\0 < m.2.fdiv g')->
      (rb (qY 3 ER) (rb (E2 (Eh (cP 0) dL) (BN 2 (tj (iR 4) (tj (iR 2) Cr))) (Hq (vC (bq (kB Jm (cP 2) (cP 1)) (bq (dC (D.int 1)) iS))) (zP (cP 3) (cP 4)))) (Ck (cP 3)))) {nx:=fun _ S'=>k D.non S',rt:=k} [some (D.ref a),some (D.int g'),l2,none,none] S1:=by
     intro g' g0 gd gm gs
     have gb:Bt 8000 g':=by
      obtain⟨m,hm,_⟩:=gs
      exact kf (gd m hm) (hz m hm).1 (hz m hm).2
     refine fun p hp e0=>⟨_,_,av hp ha,?_⟩
     have nap:a≠p:=gJ ha hp
     refine bh (fun r L S'=>∃ (don ao:List (List Int×Int)) (e1:Nat) (l2 l3:Option D),ts=don++ao/\r=dL (aX ao)/\L=[some (.ref a),some (.int g'),l2,some (.ref p),l3]/\aN S1 S'/\S' a=some (bN (aX ts) ep)/\S' p=some (bN (wq (don.map fun x=>(x.1,x.2.fdiv g'))) e1)) (fun r L S' ⟨_,_,_,_,_,_,_,_,_,h,_⟩=>h) ?_ ?_ _ _ _ ⟨[],ts,e0,l2,none,rfl,rfl,rfl,aN.new hp,av hp ha,ak⟩
     ·rintro d r L S2 N1 ⟨don,ao,e1,l2,l3,ec,er,rfl,x1,a1,p1⟩ hN
      cases ao with
      | nil=>cases er
      | cons q ao=>
       cases er
       have nq:=mt (p:=q) (ec▸nd)
       have hd:don.length < 100:=by have:=congrArg List.length ec; rw [List.length_append,List.length_cons] at this; omega
       have nk:q.1∉(don.map fun x=>(x.1,x.2.fdiv g')).map (·.1):=by rw [List.map_map]; exact nq
       refine⟨([cL q.1,.int q.2],none),rfl,rfl,rfl,Cg g0 gb,few,_,_,_,p1,rfl,by rw [eI,List.length_map]; exact lim (by omega),fun e2=>hN _ _ ⟨don++[q],ao,e2,_,_,by rw [ec]; simp,rfl,rfl,x1.put hp,by rw [bo nap]; exact a1,?_⟩⟩
       refine ak.trans ?_
       have z:=gx (f:=fun n:Int=>D.tup [.int n,.int 1]) (x:=q.2.fdiv g') nk
       show some (DO.gen (ED.dT (iw _ q.1 (D.tup [.int (q.2.fdiv g'),.int 1])) e2))=_
       rw [z]
       simp
     ·rintro L S2 ⟨don,ao,e1,l2,l3,ec,er,rfl,x1,a1,p1⟩
      cases ao with
      | cons q ao=>cases er
      | nil=>
       rw [List.append_nil] at ec
       subst ec
       exact w S2 p e1 g' x1 g0 gd gm gs p1
    refine⟨_,_,ha,fun z=>ne (List.map_eq_nil_iff.mp z),fun m hm=>?_,fun m hm mx=>?_⟩
    ·obtain⟨x,hx,rfl⟩:=mk m hm
     exact two x hx
    ·obtain⟨x,hx,rfl⟩:=mk m hm
     have g0:g≠0:=fun z=>by
      have:=hg.dv x hx
      rw [z] at this
      exact(hz x hx).1 (Int.zero_dvd.mp this)
     have mx':∀ q∈ts,sX q.1 x.1=false:=fun q hq=>mx (q.1,.int q.2) (List.mem_map.mpr ⟨q,hq,rfl⟩)
     have gn:=hg.nn
     refine⟨_,_,x.1,_,ha,rfl,hG nd hx,bj (fun neg=>ao (-g) (by omega) (fun p hp=>Int.neg_dvd.mpr (hg.dv p hp)) (fun d hd=>Int.dvd_neg.mpr (hg.mx d hd)) ⟨x,hx,mx',Bf (Int.neg_dvd.mpr (hg.dv x hx)) (hz x hx).1 ⟨fun _=>by omega,fun z=>by omega⟩⟩) (fun pos=>ao g g0 hg.dv hg.mx ⟨x,hx,mx',Bf (hg.dv x hx) (hz x hx).1 ⟨fun z=>absurd z pos,fun _=>by omega⟩⟩)⟩
def i9:b_:=fun ds S k=>∃ (a:Addr) (c:List (List Int×Rat)) (ep:Nat) (B0:Int),ds=[.ref a]/\S a=some (bN (lq c) ep)/\(c.map (·.1)).Nodup/\c.length<=100/\c≠[]/\(∀ p∈c,∃ i j,p.1=[i,j])/\(∀ p∈c,p.2≠0)/\0 < B0/\Bt 3000 B0/\Dn B0 3000 c/\∀ S' p ep' ns,aN S S'->BQ c ns->S' p=some (bN (wq ns) ep')->k (.ref p) S'
theorem yQ:ar ["curve"] ["curve"] (ap qx):=dN
theorem yZ (Fn:cT K "normal" "normal" qx f fd) (cp:aQ P w K mg base "normal_of_tops" 2 cr) (cI:aQ P w K mg base "tops_over" 1 gj) (cF:aQ P w K mg base "common_bottom" 35 eF) (j4:mg "len"=none) (nU:mg "list"=none):
  aH P w K mg base cQ 36 f fd ["curve"] (cY K i9):=by
 refine Fn.okJ yQ (fun ds S k h=>?_) (fun cdv A outer s H E hr=>⟨_,(af (aE (ax gE (cU CD rfl j4 tL (aa (ac 0) ae)) ad (ay _)) (ah jh) aD) (ah (am (dq cp hr (aa (dq cI hr (aa (ac 0) (aa (dq cF hr (aa (uK rfl rfl nU (ac 0)) ae)) ae))) ae))))),fun ds S k h=>?_⟩)
 ·obtain⟨_,_,_,_,rfl,_⟩:=h
  rfl
 ·obtain⟨a,c,ep,B1,rfl,ha,nd,hl,ne,two,n0,B1p,bB1,hD,w⟩:=h
  have hz:∀ p∈c,p.2≠0/\Sz 3000 p.2:=fun p hp=>⟨n0 p hp,hD.sz B1p bB1 (by decide) p hp⟩
  have l0:((lq c).length:Int)≠0:=by rw [eI]; exact fun z=>ne (List.length_eq_zero_iff.mp (by omega))
  refine⟨_,_,ha,bj (fun z=>absurd z l0) (fun _=>?_)⟩
  refine⟨_,_,ha,fun q hq=>?_⟩
  have x1:aN S (put S q (.lst ((i_ fr c).map (·.2)))):=aN.new hq
  have e1:(i_ fr c).map (·.2)=(c.map (·.2)).map fr:=by unfold i_; rw [List.map_map,List.map_map]; rfl
  have y1:put S q (.lst ((i_ fr c).map (·.2))) q=some (.lst ((c.map (·.2)).map fr)):=by rw [ak,e1]
  generalize put S q (.lst ((i_ fr c).map (·.2)))=S1 at x1 y1
  have B0:0 < sJ 1 (c.map (·.2)):=sK (by decide)
  have dvd1:sJ 1 (c.map (·.2)) ∣ B1:=wH (Int.one_dvd _) (hD.dv (by omega))
  have dv:=(o7 (qs:=c.map (·.2)) (m:=1)).2
  refine⟨q,_,B1,rfl,y1,B1p,bB1.mono (by decide),hD.dv (by omega),?_⟩
  have bB':Bt 3000 (sJ 1 (c.map (·.2))):=kf dvd1 (by omega) bB1
  clear dvd1
  generalize sJ 1 (c.map (·.2))=B at B0 bB' dv
  have dv':∀ p∈c,(p.2.den:Int) ∣ B:=fun p hp=>dv p.2 (List.mem_map.mpr ⟨p,hp,rfl⟩)
  have top0:∀ p∈c,dZ B p.2≠0:=fun p hp z=>by
   have e:=lu (dv' p hp)
   rw [z] at e
   have b0:(B:Rat)≠0:=fun y=>by
    have:B=0:=Rat.intCast_inj.mp (by rw [y]; rfl)
    omega
   have p0:=(hz p hp).1
   have e2:(B:Rat)*p.2=0:=by rw [<- e]; rfl
   rcases Rat.mul_eq_zero.mp e2 with y | y
   ·exact b0 y
   ·exact p0 y
  refine⟨a,c,ep,B,rfl,x1 _ _ ha,nd,by omega,fun p hp=>(hz p hp).2.mono (by decide),bB'.mono (by decide),fun S2 p2 e2 x2 h2=>?_⟩
  have tk:(c.map fun x=>(x.1,dZ B x.2)).map (·.1)=c.map (·.1):=by rw [List.map_map]; rfl
  refine⟨p2,_,e2,rfl,h2,by rw [tk]; exact nd,by rw [List.length_map]; omega,fun z=>ne (List.map_eq_nil_iff.mp z),fun p hp=>?_,fun p hp=>?_,fun S3 p3 e3 g x3 g0 gd gm gs h3=>?_⟩
  ·obtain⟨x,hx,rfl⟩:=List.mem_map.mp hp
   exact two x hx
  ·obtain⟨x,hx,rfl⟩:=List.mem_map.mp hp
   exact⟨top0 x hx,(((hz x hx).2.num).mul (bB'.le (HM.aC _ _))).mono (by decide)⟩
  ·have n1:BQ c (c.map fun p=>(p.1,(dZ B p.2).fdiv g)):=Hz (by omega) dv' g0 (fun p hp=>gd (p.1,dZ B p.2) (List.mem_map.mpr ⟨p,hp,rfl⟩)) (fun d hd=>gm d fun p hp=>by
     obtain⟨x,hx,rfl⟩:=List.mem_map.mp hp
     exact hd x hx) (by
     obtain⟨m,hm,mx,pos⟩:=gs
     obtain⟨x,hx,rfl⟩:=List.mem_map.mp hm
     exact⟨x,hx,fun q hq=>mx (q.1,dZ B q.2) (List.mem_map.mpr ⟨q,hq,rfl⟩),pos⟩)
   rw [List.map_map] at h3
   exact w S3 p3 e3 _ ((x1.trans x2).trans x3) n1 h3
theorem rQ {α:Type} {f:α->D}:∀ {ao don:List (List Int×α)},((don++ao).map (·.1)).Nodup->bw (i_ f don) (i_ f ao)=i_ f (don++ao)
 | [],don,_=>by rw [List.append_nil]; rfl
 | p::ao,don,nd=>by
  have e:bw (i_ f don) (i_ f (p::ao))=bw (iw (i_ f don) p.1 (f p.2)) (i_ f ao):=rfl
  rw [e,gx (mt nd),rQ (by rw [List.append_assoc]; exact nd),List.append_assoc]
  rfl
theorem fK {α:Type} {f:α->D} {l:List (List Int×α)} (h:(l.map (·.1)).Nodup):bw [] (i_ f l)=i_ f l:=rQ (f:=f) (don:=[]) h
abbrev zp (a b r:Rat):List (List Int×Rat):=[([1,0],a),([0,1],b),([0,0],r)]
theorem xl {w m:Nat} {c:List (List Int×Rat)} (hz:∀ p∈c,Sz w p.2) (hl:c.length<=m):∃ B,0 < B/\Bt (1+w*m) B/\Dn B (w+(1+w*m)) c:=by
 have z:=Aa (w:=w) (qs:=c.map (·.2)) (m:=1) (n:=1) (by decide) (by decide) (fun q hq=>by
  obtain⟨p,hp,rfl⟩:=List.mem_map.mp hq
  exact hz p hp)
 have bB:=z.2.mono (show 1+w*(c.map (·.2)).length<=1+w*m by rw [List.length_map]; exact Nat.add_le_add_left (Nat.mul_le_mul_left _ hl) _)
 exact⟨_,z.1,bB,fun p hp=>⟨dZ (sJ 1 (c.map (·.2))) p.2,(hz p hp).num.mul (bB.le (HM.aC _ _)),(lu ((o7 (m:=1)).2 _ (List.mem_map_of_mem hp))).symm⟩⟩
theorem Dn.up {B:Int} {T T':Nat} {c:List (List Int×Rat)} (h:Dn B T c) (hT:T<=T'):Dn B T' c:=fun p hp=>by
 obtain⟨t,bt,e⟩:=h p hp
 exact⟨t,bt.mono hT,e⟩
def kF:b_:=fun ds S k=>∃ x y a b:Rat,ds=[W x y,W a b]/\Sz 400 x/\Sz 400 y/\Sz 100 a/\Sz 100 b/\∀ S' p ep',aN S S'->S' p=some (bN (lq (nz (zp a b (-(x*a+y*b))))) ep')->k (.ref p) S'
theorem sS:ar ["place","across"] ["place","across"] (ap kz):=dN
theorem tE (Fn:cT K "line_from" "line_from" kz f fd) (bV:aQ P w K mg base "without_noughts" 1 dz) (aM:aQ P w K mg base "negative" 1 eO) (az:aQ P w K mg base "product_of_ways" 36 bG):
  aH P w K mg base cQ 37 f fd ["place","across"] (cY K kF):=by
 refine Fn.okJ sS (fun ds S k h=>?_) (fun cdv A outer s H E hr=>⟨_,(ah (am (dq bV hr (aa (fW hr (a_ (aq (aa ad (aa ad ae))) (ai aj (ac 1) ad (fun _ _=>rfl)) (a_ (aq (aa ad (aa ad ae))) (ai aj (ac 1) ad (fun _ _=>rfl)) (a_ (aq (aa ad (aa ad ae))) (dq aM hr (aa (dq az hr (aa (ac 0) (aa (ac 1) ae))) ae)) iQ)))) ae)))),fun ds S k h=>?_⟩)
 ·obtain⟨_,_,_,_,rfl,_⟩:=h
  rfl
 ·obtain⟨x,y,a,b,rfl,hx,hy,ha,hb,w⟩:=h
  refine fun p hp e0=>⟨few,few,few,x,y,a,b,rfl,hx.mono (by decide),hy.mono (by decide),ha.mono (by decide),hb.mono (by decide),_,rfl,e0,lq (zp a b (-(x*a+y*b))),ak,rfl,by show 3<=15; decide,fun e1=>?_⟩
  refine⟨p,zp a b (-(x*a+y*b)),e1,rfl,by rw [ak,fK (f:=fr) (l:=zp a b (-(x*a+y*b))) (by show(([[1,0],[0,1],[0,0]]:List (List Int))).Nodup; decide)],(by show(([[1,0],[0,1],[0,0]]:List (List Int))).Nodup; decide),by show 3<=100; decide,fun S' q e' xx _ hh=>w S' q e' (((aN.new hp).put hp).trans xx) hh⟩
abbrev yU (x y s:Rat):List (List Int×Rat):=[([2,0],1),([0,2],1),([1,0],-(x+x)),([0,1],-(y+y)),([0,0],x*x+y*y - s)]
theorem tF {x y s:Rat}:((yU x y s).map (·.1)).Nodup:=by show(([[2,0],[0,2],[1,0],[0,1],[0,0]]:List (List Int))).Nodup; decide
theorem AU {a b r:Rat}:((zp a b r).map (·.1)).Nodup:=by show(([[1,0],[0,1],[0,0]]:List (List Int))).Nodup; decide
def iY:b_:=fun ds S k=>∃ x y s:Rat,ds=[W x y,fr s]/\Sz 40 x/\Sz 40 y/\Sz 100 s/\∀ S' p ep',aN S S'->S' p=some (bN (lq (nz (yU x y s))) ep')->k (.ref p) S'
theorem fh:ar ["place","square","x","y","rest"] ["place","square"] (ap iZ):=dN
theorem pV (Fn:cT K "round_about" "round_about" iZ f fd) (ft:aQ P w K mg base "plus" 35 n6) (dW:aQ P w K mg base "minus" 35 lr) (az:aQ P w K mg base "product_of_ways" 36 bG) (bV:aQ P w K mg base "without_noughts" 1 dz) (aM:aQ P w K mg base "negative" 1 eO) (lG:qU K mg "ONE" [1,1]):
  aH P w K mg base cQ 37 f fd ["place","square"] (cY K iY):=by
 refine Fn.okJ fh (fun ds S k h=>?_) (fun cdv A outer s H E hr=>⟨_,(af (ag (i:=2) fh.nd (dq ft hr (aa (ai aj (ac 0) ad (fun _ _=>rfl)) (aa (ai aj (ac 0) ad (fun _ _=>rfl)) ae)))) (af (ag (i:=3) fh.nd (dq ft hr (aa (ai aj (ac 0) ad (fun _ _=>rfl)) (aa (ai aj (ac 0) ad (fun _ _=>rfl)) ae)))) (af (ag (i:=4) fh.nd (dq dW hr (aa (dq az hr (aa (ac 0) (aa (ac 0) ae))) (aa (ac 1) ae)))) (ah (am (dq bV hr (aa (fW hr (a_ (aq (aa ad (aa ad ae))) (fM lG rfl) (a_ (aq (aa ad (aa ad ae))) (fM lG rfl) (a_ (aq (aa ad (aa ad ae))) (dq aM hr (aa (ac 2) ae)) (a_ (aq (aa ad (aa ad ae))) (dq aM hr (aa (ac 3) ae)) (a_ (aq (aa ad (aa ad ae))) (ac 4) iQ)))))) ae))))))),fun ds S k h=>?_⟩)
 ·obtain⟨_,_,_,rfl,_⟩:=h
  rfl
 ·obtain⟨x,y,s,rfl,hx,hy,hs,w⟩:=h
  refine⟨x,x,rfl,hx.mono (by decide),hx.mono (by decide),y,y,rfl,hy.mono (by decide),hy.mono (by decide),x,y,x,y,rfl,hx.mono (by decide),hy.mono (by decide),hx.mono (by decide),hy.mono (by decide),_,s,rfl,(((hx.mul hx).add (hy.mul hy))).mono (by decide),hs.mono (by decide),?_⟩
  refine fun p hp e0=>⟨few,few,few,_,rfl,few,_,rfl,few,e0,lq (yU x y s),ak,rfl,by show 5<=15; decide,fun e1=>?_⟩
  exact⟨p,yU x y s,e1,rfl,by rw [ak,fK (f:=fr) (l:=yU x y s) tF],tF,by show 5<=100; decide,fun S' q e' xx _ hh=>w S' q e' (((aN.new hp).put hp).trans xx) hh⟩
theorem fc {l:List (List Int×Rat)} {p:List Int×Rat}:p∈nz l↔p∈l/\p.2≠0:=by
 rw [List.mem_filter]
 simp
theorem nS {l:List (List Int×Rat)}:(nz l).length<=l.length:=List.length_filter_le _ _
theorem KJ {a b r:Rat}:∀ p∈zp a b r,∃ i j,p.1=[i,j]:=by
 intro p hp
 simp only [List.mem_cons,List.not_mem_nil,or_false] at hp
 rcases hp with rfl | rfl | rfl <;> exact⟨_,_,rfl⟩
theorem KQ {a b r:Rat}:∀ p∈yU a b r,∃ i j,p.1=[i,j]:=by
 intro p hp
 simp only [List.mem_cons,List.not_mem_nil,or_false] at hp
 rcases hp with rfl | rfl | rfl | rfl | rfl <;> exact⟨_,_,rfl⟩
theorem JC {a b r:Rat} {P:Rat->Prop} (ha:P a) (hb:P b) (hr:P r):∀ p∈zp a b r,P p.2:=by
 intro p hp
 simp only [List.mem_cons,List.not_mem_nil,or_false] at hp
 rcases hp with rfl | rfl | rfl <;> assumption
theorem IB {a b:Rat} (h:a*a+b*b≠0):a≠0\/b≠0:=by
 by_cases z:a=0
 ·refine .inr fun y=>h ?_
  rw [z,y]
  grind
 ·exact .inl z
theorem FS {a b r:Rat} (h:a*a+b*b≠0):nz (zp a b r)≠[]:=by
 rcases IB h with z | z
 ·exact List.ne_nil_of_mem (fc.mpr ⟨List.mem_cons_self,z⟩)
 ·exact List.ne_nil_of_mem (fc.mpr ⟨List.mem_cons_of_mem _ List.mem_cons_self,z⟩)
abbrev Lb (x y z v:Rat):List (List Int×Rat):=zp (-(v - y)) (z - x) (-(x*-(v - y)+y*(z - x)))
def hV:b_:=fun ds S k=>∃ x y z v:Rat,ds=[PP x y,PP z v]/\Sz 20 x/\Sz 20 y/\Sz 20 z/\Sz 20 v/\(z - x)*(z - x)+(v - y)*(v - y)≠0/\∀ S' p ep' ns,aN S S'->BQ (nz (Lb x y z v)) ns->S' p=some (bN (wq ns) ep')->k (.ref p) S'
theorem gD:ar ["one","other","place","way"] ["one","other"] (ap il):=dN
theorem oP (Fn:cT K "line_through" "line_through" il f fd) (eN:aQ P w K mg base "place_of" 1 jw) (eV:aQ P w K mg base "plain_way" 36 iN) (eQ:aQ P w K mg base "square_of_unlike" 37 eK) (c_:aQ P w K mg base "normal" 36 i9) (k_:aQ P w K mg base "line_from" 37 kF) (aM:aQ P w K mg base "negative" 1 eO):
  aH P w K mg base cQ 38 f fd ["one","other"] (cY K hV):=by
 refine Fn.okJ gD (fun ds S k h=>?_) (fun cdv A outer s H E hr=>⟨_,(af (ag (i:=2) gD.nd (dq eN hr (aa (ac 0) ae))) (af (ag (i:=3) gD.nd (dq eV hr (aa (ac 2) (aa (dq eN hr (aa (ac 1) ae)) ae)))) (af (ja (dq eQ hr (aa (ac 3) ae))) (ah (am (dq c_ hr (aa (dq k_ hr (aa (ac 2) (aa (aq (aa (dq aM hr (aa (ai aj (ac 3) ad (fun _ _=>rfl)) ae)) (aa (ai aj (ac 3) ad (fun _ _=>rfl)) ae))) ae))) ae))))))),fun ds S k h=>?_⟩)
 ·obtain⟨_,_,_,_,rfl,_⟩:=h
  rfl
 ·obtain⟨x,y,z,v,rfl,hx,hy,hz,hv,h0,w⟩:=h
  have sa:=hz.sub hx
  have sb:=hv.sub hy
  have sr:=((hx.mul sb.neg).add (hy.mul sa)).neg
  refine⟨x,y,rfl,z,v,rfl,x,y,z,v,rfl,hx.mono (by decide),hy.mono (by decide),hz.mono (by decide),hv.mono (by decide),_,_,rfl,sa.mono (by decide),sb.mono (by decide),h0,?_⟩
  refine⟨_,rfl,few,x,y,_,_,rfl,hx.mono (by decide),hy.mono (by decide),sb.neg.mono (by decide),sa.mono (by decide),fun S1 p1 e1 x1 h1=>?_⟩
  obtain⟨B1,B1p,bB1,hD⟩:=xl (w:=150) (m:=3) (c:=nz (Lb x y z v)) (fun p hp=>JC (P:=Sz 150) (sb.neg.mono (by decide)) (sa.mono (by decide)) (sr.mono (by decide)) p (fc.mp hp).1) nS
  refine⟨p1,_,e1,B1,rfl,h1,jb AU,Nat.le_trans nS (by show 3<=100; decide),FS (by grind),fun p hp=>KJ p (fc.mp hp).1,fun p hp=>(fc.mp hp).2,B1p,bB1.mono (by decide),hD.up (by decide),fun S2 p2 e2 ns x2 hn h2=>w S2 p2 e2 ns (x1.trans x2) hn h2⟩
theorem G8 {x y s:Rat}:nz (yU x y s)≠[]:=List.ne_nil_of_mem (fc.mpr ⟨List.mem_cons_self,by decide⟩)
theorem Jv {x y s:Rat} {P:Rat->Prop} (h1:P 1) (ha:P (-(x+x))) (hb:P (-(y+y))) (hr:P (x*x+y*y - s)):∀ p∈yU x y s,P p.2:=by
 intro p hp
 simp only [List.mem_cons,List.not_mem_nil,or_false] at hp
 rcases hp with rfl | rfl | rfl | rfl | rfl <;> assumption
def iy:b_:=fun ds S k=>∃ x y s:Rat,ds=[PP x y,fr s]/\Sz 20 x/\Sz 20 y/\Sz 40 s/\∀ S' p ep' ns,aN S S'->BQ (nz (yU x y s)) ns->S' p=some (bN (wq ns) ep')->k (.ref p) S'
theorem oM:ar ["middle","square"] ["middle","square"] (ap hJ):=dN
theorem oH (Fn:cT K "circle_about" "circle_about" hJ f fd) (c_:aQ P w K mg base "normal" 36 i9) (iU:aQ P w K mg base "round_about" 37 iY) (eN:aQ P w K mg base "place_of" 1 jw):
  aH P w K mg base cQ 38 f fd ["middle","square"] (cY K iy):=by
 refine Fn.okJ oM (fun ds S k h=>?_) (fun cdv A outer s H E hr=>⟨_,(ah (am (dq c_ hr (aa (dq iU hr (aa (dq eN hr (aa (ac 0) ae)) (aa (ac 1) ae))) ae)))),fun ds S k h=>?_⟩)
 ·obtain⟨_,_,_,rfl,_⟩:=h
  rfl
 ·obtain⟨x,y,s,rfl,hx,hy,hs,w⟩:=h
  refine⟨x,y,rfl,x,y,s,rfl,hx.mono (by decide),hy.mono (by decide),hs.mono (by decide),fun S1 p1 e1 x1 h1=>?_⟩
  have s1:Sz 150 (1:Rat):=⟨by decide,by decide⟩
  obtain⟨B1,B1p,bB1,hD⟩:=xl (w:=150) (m:=5) (c:=nz (yU x y s)) (fun p hp=>Jv (P:=Sz 150) s1 ((hx.add hx).neg.mono (by decide)) ((hy.add hy).neg.mono (by decide)) ((((hx.mul hx).add (hy.mul hy)).sub hs).mono (by decide)) p (fc.mp hp).1) nS
  refine⟨p1,_,e1,B1,rfl,h1,jb tF,Nat.le_trans nS (by show 5<=100; decide),G8,fun p hp=>KQ p (fc.mp hp).1,fun p hp=>(fc.mp hp).2,B1p,bB1.mono (by decide),hD.up (by decide),fun S2 p2 e2 ns x2 hn h2=>w S2 p2 e2 ns (x1.trans x2) hn h2⟩
set_option maxHeartbeats 4000000
section
variable {α:Type} {f:α->D}
def gA (z:α) (c:List (List Int×α)) (k:List Int):α:=((c.find? fun p=>decide (p.1=k)).map (·.2)).getD z
theorem aK {z:α}:∀ {c:List (List Int×α)} {k:List Int},k∉c.map (·.1)->gA z c k=z
 | [],_,_=>rfl
 | p::l,k,h=>by
  rw [List.map_cons,List.mem_cons,not_or] at h
  have e:gA z (p::l) k=gA z l k:=by simp [gA,List.find?_cons,Ne.symm h.1]
  rw [e]
  exact aK h.2
theorem cZ {z:α}:∀ {c:List (List Int×α)} {k:List Int} {x:α},(c.map (·.1)).Nodup->(k,x)∈c->gA z c k=x
 | [],_,_,_,h=>nomatch h
 | p::l,k,x,nd,h=>by
  rw [List.map_cons,List.nodup_cons] at nd
  rcases List.mem_cons.mp h with e | m
  ·subst e
   simp [gA]
  ·have ne:p.1≠k:=fun z=>nd.1 (List.mem_map.mpr ⟨_,m,z.symm⟩)
   have e:gA z (p::l) k=gA z l k:=by simp [gA,List.find?_cons,ne]
   rw [e]
   exact cZ nd.2 m
theorem lw {z:α} {c:List (List Int×α)} {k:List Int}:(df (i_ f c) k).getD (f z)=f (gA z c k):=by
 induction c with
 | nil=>rfl
 | cons p l ih=>
  by_cases h:p.1=k
  ·simp [df,i_,gA,h]
  ·have e1:df (i_ f (p::l)) k=df (i_ f l) k:=by simp [df,i_,List.find?_cons,h]
   have e2:gA z (p::l) k=gA z l k:=by simp [gA,List.find?_cons,h]
   rw [e1,e2,ih]
theorem d_ {z:α} {c:List (List Int×α)} (k:List Int) (nd:(c.map (·.1)).Nodup):k∉c.map (·.1)\/(k,gA z c k)∈c:=by
 by_cases h:k∈c.map (·.1)
 ·obtain⟨p,hp,rfl⟩:=List.mem_map.mp h
  exact .inr (by rw [cZ (x:=p.2) nd hp]; exact hp)
 ·exact .inl h
end
abbrev gR:=gA (0:Rat)
abbrev gI:=gA (0:Int)
theorem rS {α:Type} [BEq α] [LawfulBEq α]:∀ {l l':List α},l.Nodup->(∀ x∈l,x∈l')->l.length<=l'.length
 | [],_,_,_=>Nat.zero_le _
 | a::l,l',nd,h=>by
  rw [List.nodup_cons] at nd
  have ma:=h a List.mem_cons_self
  have z:=rS (l:=l) (l':=l'.erase a) nd.2 fun x hx=>(List.mem_erase_of_ne fun e=>nd.1 (by rw [<- e]; exact hx)).mpr (h x (List.mem_cons_of_mem _ hx))
  rw [List.length_erase_of_mem ma] at z
  have:0 < l'.length:=List.length_pos_of_mem ma
  rw [List.length_cons]
  omega
structure Cv (n m:Nat) (b:Int) (c:List (List Int×Rat)):Prop where
 nd:(c.map (·.1)).Nodup
 hl:c.length<=n
 sm:∀ p∈c,∃ i j:Int,p.1=[i,j]/\0<=i/\0<=j/\i<=b/\j<=b
 hz:∀ p∈c,Sz m p.2
theorem IS {c:List (List Int×Rat)} (nd:(c.map (·.1)).Nodup) (k:List Int):gR (nz c) k=gR c k:=by
 rcases d_ (z:=(0:Rat)) k nd with q | q
 ·rw [show gR c k=0 from aK q]
  exact aK (Bm q)
 ·by_cases z:gR c k=0
  ·rw [z]
   refine aK fun y=>?_
   obtain⟨p,hp,rfl⟩:=List.mem_map.mp y
   obtain⟨hp,p0⟩:=fc.mp hp
   exact p0 ((cZ nd hp).symm.trans z)
  ·exact cZ (jb nd) (fc.mpr ⟨q,z⟩)
theorem rJ {α:Type} {f:α->D} {l:List (List Int×α)} {k:List Int} {x:α}:∃ l':List (List Int×α),iw (i_ f l) k (f x)=i_ f l'/\((l.map (·.1)).Nodup->(l'.map (·.1)).Nodup)/\l'.length<=l.length+1/\(∀ p∈l',p∈l\/p=(k,x))/\(k,x)∈l'/\∀ p∈l,p.1≠k->p∈l':=by
 by_cases h:k∈l.map (·.1)
 ·refine⟨l.map fun p=>if p.1=k then(p.1,x) else p,?_,fun nd=>?_,by rw [List.length_map]; omega,fun p hp=>?_,?_,fun p hp n=>?_⟩
  ·unfold iw
   obtain⟨p,hp,e⟩:=List.mem_map.mp h
   have:(df (i_ f l) k).isSome=true:=by
    have:(i_ f l).find? (fun p=>decide (p.1=k))≠none:=fun z=>by
     have:=List.find?_eq_none.mp z (p.1,f p.2) (List.mem_map.mpr ⟨p,hp,rfl⟩)
     simp [e] at this
    unfold df
    cases hh:(i_ f l).find? (fun p=>decide (p.1=k)) with
    | none=>exact absurd hh this
    | some v=>rfl
   rw [if_pos this]
   unfold i_
   rw [List.map_map,List.map_map]
   refine List.map_congr_left fun p _=>?_
   show(if p.1=k then(p.1,f x) else(p.1,f p.2))=_
   show _=((if p.1=k then(p.1,x) else p).1,f (if p.1=k then(p.1,x) else p).2)
   split <;> rfl
  ·rw [List.map_map]
   have:((fun p:List Int×α=>p.1) ∘ fun p=>if p.1=k then(p.1,x) else p)=fun p=>p.1:=by
    funext p
    show(if p.1=k then(p.1,x) else p).1=p.1
    split <;> rfl
   rw [this]
   exact nd
  ·obtain⟨q,hq,rfl⟩:=List.mem_map.mp hp
   by_cases e:q.1=k
   ·rw [if_pos e,e]
    exact .inr rfl
   ·rw [if_neg e]
    exact .inl hq
  ·obtain⟨p,hp,e⟩:=List.mem_map.mp h
   exact List.mem_map.mpr ⟨p,hp,by rw [if_pos e,e]⟩
  ·exact List.mem_map.mpr ⟨p,hp,by rw [if_neg n]⟩
 ·refine⟨l++[(k,x)],gx h,fun nd=>?_,by simp,fun p hp=>?_,by simp,fun p hp _=>by simp [hp]⟩
  ·rw [List.map_append,List.nodup_append]
   refine⟨nd,by simp,fun a ha b hb=>?_⟩
   have:b=k:=by simpa using hb
   rw [this]
   exact fun z=>h (z▸ha)
  ·rcases List.mem_append.mp hp with m | m
   ·exact .inl m
   ·exact .inr (by simpa using m)
def Ke:List Int->List Int->List Int
 | [i,j],[a,b]=>[i+a,j+b]
 | _,_=>[]
section
variable {α:Type} [Add α] [Mul α] [OfNat α 0]
def yP (p q:List Int×α) (k:List Int):α:=if Ke p.1 q.1=k then p.2*q.2 else 0
def jm (p:List Int×α) (l:List (List Int×α)) (k:List Int) (s:α):α:=l.foldl (fun s q=>s+yP p q k) s
def qT (l l':List (List Int×α)) (k:List Int):α:=l.foldl (fun s p=>jm p l' k s) 0
theorem y8 {p q:List Int×α} {l:List (List Int×α)} {k:List Int} {s:α}:jm p (l++[q]) k s=jm p l k s+yP p q k:=by
 unfold jm
 rw [List.foldl_append]
 rfl
theorem y7 {p:List Int×α} {l l':List (List Int×α)} {k:List Int}:qT (l++[p]) l' k=jm p l' k (qT l l' k):=by
 unfold qT
 rw [List.foldl_append]
 rfl
end
structure Ci (b:Int) (c:List (List Int×Int)):Prop where
 nd:(c.map (·.1)).Nodup
 sm:∀ p∈c,∃ i j:Int,p.1=[i,j]/\0<=i/\0<=j/\i<=b/\j<=b
theorem Ci.put {b:Int} {c:List (List Int×Int)} (h:Ci b c) {i j:Int} {x:Int} (i0:0<=i) (j0:0<=j) (i1:i<=b) (j1:j<=b):∃ c',iw (aX c) [i,j] (D.int x)=aX c'/\Ci b c'/\c'.length<=c.length+1/\∀ k,gI c' k=if k=[i,j] then x else gI c k:=by
 obtain⟨c',e,nd,hl,mm,m1,m2⟩:=rJ (f:=D.int) (l:=c) (k:=[i,j]) (x:=x)
 have nd':=nd h.nd
 refine⟨c',e,⟨nd',fun p hp=>?_⟩,hl,fun k=>?_⟩
 ·rcases mm p hp with q | rfl
  ·exact h.sm p q
  ·exact⟨i,j,rfl,i0,j0,i1,j1⟩
 ·by_cases ek:k=[i,j]
  ·rw [if_pos ek,ek]
   exact cZ nd' m1
  ·rw [if_neg ek]
   rcases d_ (z:=(0:Int)) k h.nd with q | q
   ·rw [show gI c k=0 from aK q]
    refine aK fun z=>?_
    obtain⟨p,hp,rfl⟩:=List.mem_map.mp z
    rcases mm p hp with y | y
    ·exact q (List.mem_map.mpr ⟨p,y,rfl⟩)
    ·exact ek (by rw [y])
   ·exact cZ nd' (m2 _ q ek)
theorem vU {α β:Type} {φ:α->β} {z:α} {k:List Int}:∀ {c:List (List Int×α)},gA (φ z) (c.map fun p=>(p.1,φ p.2)) k=φ (gA z c k)
 | []=>rfl
 | p::l=>by
  by_cases h:p.1=k
  ·simp [gA,h]
  ·have e1:gA (φ z) ((p::l).map fun p=>(p.1,φ p.2)) k=gA (φ z) (l.map fun p=>(p.1,φ p.2)) k:=by simp [gA,List.find?_cons,h]
   have e2:gA z (p::l) k=gA z l k:=by simp [gA,List.find?_cons,h]
   rw [e1,e2]
   exact vU
set_option maxHeartbeats 4000000
theorem Bk {z:Int} {l:List (List Int×Int)} {q:List Int×Int} (h:q.1∉l.map (·.1)) (k:List Int):gA z (l++[q]) k=if k=q.1 then q.2 else gA z l k:=by
 unfold gA
 rw [List.find?_append]
 by_cases e:k=q.1
 ·rw [if_pos e]
  have:l.find? (fun p=>decide (p.1=k))=none:=by
   rw [List.find?_eq_none]
   intro p hp
   have:p.1≠k:=fun y=>h (List.mem_map.mpr ⟨p,hp,y.trans e⟩)
   simpa using this
  rw [this]
  simp [e]
 ·rw [if_neg e]
  have:([q]:List (List Int×Int)).find? (fun p=>decide (p.1=k))=none:=by simp [Ne.symm e]
  rw [this]
  simp
theorem Ah:∀ i∈List.range 7,∀ j∈List.range 7,∀ a∈List.range 7,∀ b∈List.range 7,jZ [(i:Int),(j:Int)]=jZ [(a:Int),(b:Int)]->i=a/\j=b:=by decide +kernel
theorem Ci.hash {c:List (List Int×Int)} (h:Ci 6 c):((aX c).map fun p=>jZ p.1).Nodup:=by
 show(List.map (fun p=>jZ p.1) (c.map fun p=>(p.1,D.int p.2))).Nodup
 rw [List.map_map]
 have nd:=h.nd
 have sm:=h.sm
 clear h
 induction c with
 | nil=>exact List.nodup_nil
 | cons p l ih=>
  rw [List.map_cons,List.nodup_cons] at nd ⊢
  refine⟨fun z=>nd.1 ?_,ih nd.2 fun q hq=>sm q (List.mem_cons_of_mem _ hq)⟩
  obtain⟨q,hq,e⟩:=List.mem_map.mp z
  obtain⟨i,j,e1,i0,j0,i1,j1⟩:=sm p List.mem_cons_self
  obtain⟨i',j',e2,i0',j0',i1',j1'⟩:=sm q (List.mem_cons_of_mem _ hq)
  have e:jZ q.1=jZ p.1:=e
  rw [e1,e2] at e
  have r:∀ z:Int,0<=z->z<=6->∃ t∈List.range 7,z=(t:Int):=fun z _ _=>⟨z.toNat,List.mem_range.mpr (by omega),by omega⟩
  obtain⟨x1,y1,rfl⟩:=r i i0 i1
  obtain⟨x2,y2,rfl⟩:=r j j0 j1
  obtain⟨x3,y3,rfl⟩:=r i' i0' i1'
  obtain⟨x4,y4,rfl⟩:=r j' j0' j1'
  obtain⟨a,b⟩:=Ah x3 y3 x4 y4 x1 y1 x2 y2 e
  subst a b
  exact List.mem_map.mpr ⟨q,hq,by rw [e1,e2]⟩
def dy:b_:=fun ds S k=>∃ (a b:Addr) (t t':List (List Int×Int)) (e e':Nat) (u u':Int),ds=[.ref a,.ref b]/\S a=some (bN (aX t) e)/\S b=some (bN (aX t') e')/\Ci u t/\Ci u' t'/\u<=3/\u'<=3/\t.length<=10/\t'.length<=10/\(∀ p∈t,Bt 20000 p.2)/\(∀ p∈t',Bt 20000 p.2)/\∀ S' p ep g,aN S S'->S p=none->Ci (u+u') g->g.length<=100->(∀ k,gI g k=qT t t' k)->S' p=some (bN (aX g) ep)->k (.ref p) S'
theorem bp:ar ["one","other","sums","mine","top","theirs","other_top","key"] ["one","other"] (ap fw):=dN
theorem lV (Fn:cT K "product_of_tops" "product_of_tops" fw f fd):
  aH P w K mg base cQ 1 f fd ["one","other"] (cY K dy):=by
 refine Fn.okJ bp (fun ds S k h=>?_) (fun cdv A outer s H E hr=>⟨_,(af (ag (i:=2) bp.nd fT) (af (dc PassesOwn.never rfl (ff (ac 0)) (fC (n:=2) rfl (aJ (aw (i:=3) bp.nd) (aJ (aw (i:=4) bp.nd) dP))) (ah (dc PassesOwn.never rfl (ff (ac 1)) (fC (n:=2) rfl (aJ (aw (i:=5) bp.nd) (aJ (aw (i:=6) bp.nd) dP))) (af (ag (i:=7) bp.nd (aq (aa (au cB (ai aj (ac 3) ad (fun _ _=>rfl)) (ai aj (ac 5) ad (fun _ _=>rfl))) (aa (au cB (ai aj (ac 3) ad (fun _ _=>rfl)) (ai aj (ac 5) ad (fun _ _=>rfl))) ae)))) (ah (cS (au cB (fZ hr (ac 2) (ac 7) ad) (au aV (ac 4) (ac 6))) (fX hr (ac 2) (ac 7)))))))) (ah (am (ac 2))))),fun ds S k h=>?_⟩)
 ·obtain⟨_,_,_,_,_,_,_,_,rfl,_⟩:=h
  rfl
 ·obtain⟨a,b,t,t',e,e',u,u',rfl,ha,hb,ht,ht',hu,hu',hl,hl',bt,bt',w⟩:=h
  refine fun p hp e0=>⟨_,_,av hp ha,?_⟩
  have nap:a≠p:=gJ ha hp
  have nbp:b≠p:=gJ hb hp
  refine bh (fun r L S'=>∃ (don ao g:List (List Int×Int)) (e1:Nat) (l3 l4 l5 l6 l7:Option D),t=don++ao/\r=dL (aX ao)/\L=[some (.ref a),some (.ref b),some (.ref p),l3,l4,l5,l6,l7]/\aN S S'/\S' a=some (bN (aX t) e)/\S' b=some (bN (aX t') e')/\S' p=some (bN (aX g) e1)/\Ci (u+u') g/\g.length<=10*don.length/\∀ k,gI g k=qT don t' k) (fun r L S' ⟨_,_,_,_,_,_,_,_,_,_,_,_,_,h,_⟩=>h) ?_ ?_ _ _ _ ⟨[],t,[],e0,none,none,none,none,none,rfl,rfl,rfl,aN.new hp,av hp ha,av hp hb,ak,⟨List.nodup_nil,fun p h=>(nomatch h)⟩,by decide,fun k=>rfl⟩
  ·rintro d r L S1 N1 ⟨don,ao,g,e1,l3,l4,l5,l6,l7,ec,er,rfl,x1,a1,b1,p1,hg,gl,gf⟩ hN
   cases ao with
   | nil=>cases er
   | cons q ao=>
    cases er
    have mq:q∈t:=by rw [ec]; simp
    have hd:don.length < 10:=by have:=congrArg List.length ec; rw [List.length_append,List.length_cons] at this; omega
    obtain⟨i,j,ek,i0,j0,i1,j1⟩:=ht.sm q mq
    refine⟨([cL q.1,.int q.2],none),rfl,rfl,rfl,_,_,b1,?_⟩
    refine bh (fun r L S'=>∃ (don2 rest2 g:List (List Int×Int)) (e1:Nat) (l5 l6 l7:Option D),t'=don2++rest2/\r=dL (aX rest2)/\L=[some (.ref a),some (.ref b),some (.ref p),some (cL q.1),some (.int q.2),l5,l6,l7]/\aN S S'/\S' a=some (bN (aX t) e)/\S' b=some (bN (aX t') e')/\S' p=some (bN (aX g) e1)/\Ci (u+u') g/\g.length<=10*don.length+don2.length/\∀ k,gI g k=jm q don2 k (qT don t' k)) (fun r L S' ⟨_,_,_,_,_,_,_,_,_,_,_,_,h,_⟩=>h) ?_ ?_ _ _ _ ⟨[],t',g,e1,_,_,_,rfl,rfl,rfl,x1,a1,b1,p1,hg,by simpa using gl,gf⟩
    ·rintro d r L S2 N2 ⟨don2,rest2,g2,e2,m5,m6,m7,ec2,er2,rfl,x2,a2,b2,p2,hg2,gl2,gf2⟩ hN2
     cases rest2 with
     | nil=>cases er2
     | cons q2 rest2=>
      cases er2
      have mq2:q2∈t':=by rw [ec2]; simp
      have hd2:don2.length < 10:=by have:=congrArg List.length ec2; rw [List.length_append,List.length_cons] at this; omega
      obtain⟨i',j',ek2,i0',j0',i1',j1'⟩:=ht'.sm q2 mq2
      have G:(df (aX g2) [i+i',j+j']).getD (D.int 0)=D.int (gI g2 [i+i',j+j']):=lw (f:=D.int) (z:=0)
      obtain⟨g3,eg3,hg3,gl3,gf3⟩:=hg2.put (i:=i+i') (j:=j+j') (x:=gI g2 [i+i',j+j']+q.2*q2.2) (by omega) (by omega) (by omega) (by omega)
      refine⟨([cL q2.1,.int q2.2],none),rfl,rfl,rfl,?_⟩
      have fin:∀ e4:Nat,N2 [some (.ref a),some (.ref b),some (.ref p),some (cL q.1),some (.int q.2),some (cL q2.1),some (.int q2.2),some (.tup [.int (i+i'),.int (j+j')])] (put S2 p (bN (iw (aX g2) [i+i',j+j'] (.int (gI g2 [i+i',j+j']+q.2*q2.2))) e4)):=fun e4=>hN2 _ _ ⟨don2++[q2],rest2,g3,e4,_,_,_,by rw [ec2]; simp,rfl,rfl,x2.put hp,by rw [bo nap]; exact a2,by rw [bo nbp]; exact b2,by rw [ak,eg3],hg3,by rw [List.length_append]; simp; omega,fun k=>by
       rw [gf3 k,y8,<- gf2 k]
       unfold yP
       rw [ek,ek2]
       show _=gI g2 k+(if [i+i',j+j']=k then q.2*q2.2 else 0)
       by_cases e:k=[i+i',j+j']
       ·rw [if_pos e,if_pos e.symm,e]
       ·rw [if_neg e,if_neg (Ne.symm e),Int.add_zero]⟩
      rw [ek,ek2] at fin ⊢
      refine⟨few,⟨_,_,p2⟩,_,_,[i+i',j+j'],p2,rfl,iB (bt q mq) (bt' q2 mq2),?_⟩
      rw [G]
      exact⟨_,_,[i+i',j+j'],p2,rfl,by rw [eI]; exact lim (by omega),fin⟩
    ·rintro L S2 ⟨don2,rest2,g2,e2,m5,m6,m7,ec2,er2,rfl,x2,a2,b2,p2,hg2,gl2,gf2⟩
     cases rest2 with
     | cons q2 rest2=>cases er2
     | nil=>
      rw [List.append_nil] at ec2
      subst ec2
      exact hN _ _ ⟨don++[q],ao,g2,e2,_,_,_,_,_,by rw [ec]; simp,rfl,rfl,x2,a2,b2,p2,hg2,by rw [List.length_append]; simp; omega,fun k=>by rw [y7]; exact gf2 k⟩
  ·rintro L S1 ⟨don,ao,g,e1,l3,l4,l5,l6,l7,ec,er,rfl,x1,a1,b1,p1,hg,gl,gf⟩
   cases ao with
   | cons q ao=>cases er
   | nil=>
    rw [List.append_nil] at ec
    subst ec
    exact w S1 p e1 g x1 hp hg (by omega) gf p1
theorem Ci.up {u v:Int} {t:List (List Int×Int)} (h:Ci u t) (uv:u<=v):Ci v t:=⟨h.nd,fun p hp=>by
 obtain⟨i,j,e,a,b,c,d⟩:=h.sm p hp
 exact⟨i,j,e,a,b,by omega,by omega⟩⟩
def fU:b_:=fun ds S k=>∃ (a b:Addr) (t t':List (List Int×Int)) (e e':Nat) (u:Int),ds=[.ref a,.ref b]/\S a=some (bN (aX t) e)/\S b=some (bN (aX t') e')/\Ci u t/\Ci u t'/\u<=6/\t.length+t'.length<=100/\∀ S' p ep g,aN S S'->S p=none->Ci u g->g.length<=t.length+t'.length->(∀ k,gI g k=gI t k+gI t' k)->S' p=some (bN (aX g) ep)->k (.ref p) S'
theorem fA:ar ["one","other","told","key","top"] ["one","other"] (ap iP):=dN
theorem pk (Fn:cT K "sum_of_tops" "sum_of_tops" iP f fd) (nW:mg "dict"=none):
  aH P w K mg base cQ 1 f fd ["one","other"] (cY K fU):=by
 refine Fn.okJ fA (fun ds S k h=>?_) (fun cdv A outer s H E hr=>⟨_,(af (ag (i:=2) fA.nd (m8 (Af hr) rfl nW xh (aa (ac 0) ae))) (af (dc PassesOwn.never rfl (ff (ac 1)) (fC (n:=2) rfl (aJ (aw (i:=3) fA.nd) (aJ (aw (i:=4) fA.nd) dP))) (ah (cS (au cB (fZ hr (ac 2) (ac 3) ad) (ac 4)) (fX hr (ac 2) (ac 3))))) (ah (am (ac 2))))),fun ds S k h=>?_⟩)
 ·obtain⟨_,_,_,_,_,_,_,rfl,_⟩:=h
  rfl
 ·obtain⟨a,b,t,t',e,e',u,rfl,ha,hb,ht,ht',hu,hl,w⟩:=h
  refine .inl ⟨_,_,ha,(ht.up hu).hash,fun p hp e1=>⟨_,_,av hp hb,?_⟩⟩
  have nbp:b≠p:=gJ hb hp
  refine bh (fun r L S'=>∃ (don ao f:List (List Int×Int)) (e3:Nat) (l3 l4:Option D),t'=don++ao/\r=dL (aX ao)/\L=[some (.ref a),some (.ref b),some (.ref p),l3,l4]/\aN S S'/\S' b=some (bN (aX t') e')/\S' p=some (bN (aX f) e3)/\Ci u f/\f.length<=t.length+don.length/\∀ k,gI f k=gI t k+gI don k) (fun r L S' ⟨_,_,_,_,_,_,_,_,_,_,h,_⟩=>h) ?_ ?_ _ _ _ ⟨[],t',t,e1,none,none,rfl,rfl,rfl,aN.new hp,av hp hb,ak,ht,Nat.le_refl _,fun k=>(Int.add_zero _).symm⟩
  ·rintro d r L S1 N1 ⟨don,ao,f,e3,l3,l4,ec,er,rfl,x1,b1,p1,hf,fl,hg⟩ hN
   cases ao with
   | nil=>cases er
   | cons q ao=>
    cases er
    have mq:q∈t':=by rw [ec]; simp
    have nq:=mt (p:=q) (ec▸ht'.nd)
    have hd:t.length+don.length < 100:=by have:=congrArg List.length ec; rw [List.length_append,List.length_cons] at this; omega
    obtain⟨i,j,ek,i0,j0,i1,j1⟩:=ht'.sm q mq
    obtain⟨f',ef,hf',fl',gf⟩:=hf.put (i:=i) (j:=j) (x:=gI f q.1+q.2) i0 j0 i1 j1
    rw [<- ek] at ef gf
    have G:(df (aX f) q.1).getD (D.int 0)=D.int (gI f q.1):=lw (f:=D.int) (z:=0)
    refine⟨([cL q.1,.int q.2],none),rfl,rfl,rfl,⟨_,_,p1⟩,_,_,q.1,p1,rfl,?_⟩
    rw [G]
    refine⟨_,_,q.1,p1,rfl,by rw [eI]; exact lim (by omega),fun e4=>hN _ _ ⟨don++[q],ao,f',e4,_,_,by rw [ec]; simp,rfl,rfl,x1.put hp,by rw [bo nbp]; exact b1,by rw [ak,ef],hf',by rw [List.length_append]; simp; omega,fun k=>?_⟩⟩
    rw [gf k,show gI (don++[q]) k=_ from Bk nq k]
    by_cases e:k=q.1
    ·rw [if_pos e,if_pos e,hg,e,show gI don q.1=0 from aK nq,Int.add_zero]
    ·rw [if_neg e,if_neg e]
     exact hg k
  ·rintro L S1 ⟨don,ao,f,e3,l3,l4,ec,er,rfl,x1,b1,p1,hf,fl,hg⟩
   cases ao with
   | cons q ao=>cases er
   | nil=>
    rw [List.append_nil] at ec
    subst ec
    exact w S1 p e3 f x1 hp hf fl hg p1
set_option maxHeartbeats 4000000
def dg:List Int->Int
 | [i,j]=>i+j
 | _=>0
def qM (c:List (List Int×Int)) (m:Int):Prop:=(∃ p∈c,dg p.1=m)/\∀ p∈c,dg p.1<=m
theorem qM.uniq {c:List (List Int×Int)} {m n:Int} (h:qM c m) (h':qM c n):m=n:=by
 obtain⟨⟨p,hp,e⟩,h2⟩:=h
 obtain⟨⟨p',hp',e'⟩,h2'⟩:=h'
 have:=h2 p' hp'
 have:=h2' p hp
 omega
def zL (c:List (List Int×Int)):Prop:=∀ p∈c,∃ i j:Int,p.1=[i,j]/\0<=i/\0<=j/\i<=20/\j<=20
theorem vf {S:DH} {p f:Addr} {c:List (List Int×Int)} {e1:Nat} {k:DK} (hp:S p=none) (hf:S f=some (bN (aX c) e1)) (sm:zL c) (kk:∀ S2,aN S S2->S2 p=some (.lst ((c.map fun x=>dg x.1).map D.int))->k (.ref p) S2):
  ∀ (ao don:List (List Int×Int)) (l0:Option D) (S1:DH),c=don++ao->aN S S1->S1 p=some (.lst ((don.map fun x=>dg x.1).map D.int))->c.length<=100->
   cw (fun S=>S f=some (bN (aX c) e1)) p (iR 0) (gL (kB CA (kB kg (cP 0) (dC (D.int 0))) (kB kg (cP 0) (dC (D.int 1))))) k (ao.map fun x=>cL x.1) ((don.map fun x=>dg x.1).map D.int) [l0] S1
 | [],don,l0,S1,ec,x1,h1,_=>by
  rw [List.append_nil] at ec
  subst ec
  exact⟨x1 _ _ hf,kk S1 x1 h1⟩
 | q::ao,don,l0,S1,ec,x1,h1,hl=>by
  have f1:=x1 _ _ hf
  have hd:don.length < 100:=by have:=congrArg List.length ec; rw [List.length_append,List.length_cons] at this; omega
  have ec':c=(don++[q])++ao:=by rw [ec]; simp
  obtain⟨i,j,e,_⟩:=sm q (by rw [ec]; simp)
  have ea:(don.map fun x=>dg x.1).map D.int++[D.int (i+j)]=((don++[q]).map fun x=>dg x.1).map D.int:=by simp [dg,e]
  rw [List.map_cons,e]
  refine⟨f1,h1,by rw [List.length_map,List.length_map]; exact lim (by omega),?_⟩
  show cw _ _ _ _ _ _ ((don.map fun x=>dg x.1).map D.int++[D.int (i+j)]) _ (put S1 p (.lst ((don.map fun x=>dg x.1).map D.int++[D.int (i+j)])))
  rw [ea]
  exact vf hp hf sm kk ao (don++[q]) _ _ ec' (x1.put hp) ak hl
theorem Ep {c:List (List Int×Int)} {m:Int} (h1:m∈c.map fun x=>dg x.1) (h2:∀ x∈c.map fun x=>dg x.1,x<=m):qM c m:=by
 obtain⟨p,hp,e⟩:=List.mem_map.mp h1
 exact⟨⟨p,hp,e⟩,fun q hq=>h2 _ (List.mem_map.mpr ⟨q,hq,rfl⟩)⟩
theorem GW {c:List (List Int×Rat)}:uq qB.k (lq c)=c.map fun x=>cL x.1:=by show List.map _ (List.map _ c)=_; rw [List.map_map]; rfl
theorem ES {c:List (List Int×Int)}:uq qB.k (aX c)=c.map fun x=>cL x.1:=by show List.map _ (List.map _ c)=_; rw [List.map_map]; rfl
def fi:b_:=fun ds S k=>∃ (a:Addr) (c:List (List Int×Int)) (ep:Nat),ds=[.ref a]/\S a=some (bN (aX c) ep)/\c.length<=100/\zL c/\(c=[]->∀ S',aN S S'->k .non S')/\∀ S' m,aN S S'->qM c m->k (.int m) S'
theorem re:ar ["curve"] ["curve"] (ap ng):=dN
theorem qR (Fn:cT K "degree_of" "degree_of" ng f fd) (hZ:mg "max"=none):
  aH P w K mg base cQ 1 f fd ["curve"] (cY K fi):=by
 refine Fn.okJ re (fun ds S k h=>?_) (fun cdv A outer s H E hr=>⟨_,(ah (am (wN rfl hZ pj (aa (ld rfl (jz (N:=["key"]) (cap:=[none]) rfl rfl rfl rfl trivial rfl rfl trivial) (nC (ac 0)) (fun _ _ _ _=>(aw (i:=0) (show List.Nodup (["key"]:List Str) from by decide +kernel))) (fun _ _ _ _=>(au cB (ai aj (ac 0) ad (fun _ _=>rfl)) (ai aj (ac 0) ad (fun _ _=>rfl))))) ae) eo))),fun ds S k h=>?_⟩)
 ·obtain⟨_,_,_,rfl,_⟩:=h
  rfl
 ·obtain⟨a,c,ep,rfl,ha,hl,sm,w0,w⟩:=h
  refine⟨_,_,ha,fun p hp=>?_⟩
  rw [ES]
  refine vf (S:=S) hp ha sm (fun S2 x2 h2=>⟨_,h2,fun e=>w0 (List.map_eq_nil_iff.mp e) S2 x2,fun m h1 h2=>w S2 m x2 (Ep h1 h2)⟩) c [] none _ rfl (aN.new hp) ak hl
abbrev oY (l:List (List Int×Int)):List (List Int×Int):=l.filter fun p=>decide (p.2≠0)
theorem Ej {l:List (List Int×Int)} {k:List Int} (h:k∈(oY l).map (·.1)):k∈l.map (·.1):=by
 obtain⟨p,hp,e⟩:=List.mem_map.mp h
 exact List.mem_map.mpr ⟨p,(List.mem_filter.mp hp).1,e⟩
def cx:b_:=fun ds S k=>∃ (a:Addr) (c:List (List Int×Int)) (ep:Nat),ds=[.ref a]/\S a=some (bN (aX c) ep)/\(c.map (·.1)).Nodup/\c.length<=100/\∀ S' p ep',aN S S'->S p=none->S' p=some (bN (aX (oY c)) ep')->k (.ref p) S'
theorem cf:ar ["tops","told","key","top"] ["tops"] (ap dj):=dN
theorem jR (Fn:cT K "without_nought_tops" "without_nought_tops" dj f fd):
  aH P w K mg base cQ 1 f fd ["tops"] (cY K cx):=by
 refine Fn.okJ cf (fun ds S k h=>?_) (fun cdv A outer s H E hr=>⟨_,(af (ag (i:=1) cf.nd fT) (af (dc PassesOwn.never rfl (ff (ac 0)) (fC (n:=2) rfl (aJ (aw (i:=2) cf.nd) (aJ (aw (i:=3) cf.nd) dP))) (ah (aE (ax yl (ac 3) ad (ay _)) (ah (cS (ac 3) (fX hr (ac 1) (ac 2)))) aD))) (ah (am (ac 1))))),fun ds S k h=>?_⟩)
 ·obtain⟨_,_,_,rfl,_⟩:=h
  rfl
 ·obtain⟨a,c,ep,rfl,ha,nd,hl,w⟩:=h
  refine fun p hp e0=>⟨_,_,av hp ha,?_⟩
  refine bh (fun r L S'=>∃ (don ao:List (List Int×Int)) (e1:Nat) (l2 l3:Option D),c=don++ao/\r=dL (aX ao)/\L=[some (.ref a),some (.ref p),l2,l3]/\aN S S'/\S' a=some (bN (aX c) ep)/\S' p=some (bN (aX (oY don)) e1)) (fun r L S' ⟨_,_,_,_,_,_,_,_,_,h,_⟩=>h) ?_ ?_ _ _ _ ⟨[],c,e0,none,none,rfl,rfl,rfl,aN.new hp,av hp ha,ak⟩
  ·rintro d r L S1 N1 ⟨don,ao,e1,l2,l3,ec,er,rfl,x1,a1,p1⟩ hN
   cases ao with
   | nil=>cases er
   | cons q ao=>
    cases er
    have nq:=mt (p:=q) (ec▸nd)
    have lz:(oY don).length<=don.length:=List.length_filter_le _ _
    have hd:don.length < 100:=by have:=congrArg List.length ec; rw [List.length_append,List.length_cons] at this; omega
    have nap:a≠p:=gJ ha hp
    refine⟨([cL q.1,.int q.2],none),rfl,rfl,rfl,s9 (fun h0=>⟨_,_,_,p1,rfl,by rw [eI]; exact lim (by omega),fun e2=>hN _ _ ⟨don++[q],ao,e2,_,_,by rw [ec]; simp,rfl,rfl,x1.put hp,by rw [bo nap]; exact a1,?_⟩⟩) (fun h0=>hN _ _ ⟨don++[q],ao,e1,_,_,by rw [ec]; simp,rfl,rfl,x1,a1,?_⟩)⟩
    ·have q0:q.2≠0:=h0
     rw [ak,gx (f:=D.int) (fun z=>nq (Ej z))]
     simp [oY,List.filter_append,q0]
    ·have q0:q.2=0:=h0
     rw [p1]
     simp [oY,List.filter_append,q0]
  ·rintro L S1 ⟨don,ao,e1,l2,l3,ec,er,rfl,x1,a1,p1⟩
   cases ao with
   | cons q ao=>cases er
   | nil=>
    rw [List.append_nil] at ec
    subst ec
    exact w S1 p e1 x1 hp p1
set_option maxHeartbeats 4000000
theorem lQ {n:Nat} {M:Int} (h:Bt n M):∀ t,Bt (t*n+1) (M ^ t)
 | 0=>by rw [Int.pow_zero,Nat.zero_mul]; decide
 | t+1=>by rw [Int.pow_succ]; exact((lQ h t).mul h).mono (by rw [Nat.add_mul]; omega)
def fu:b_:=fun ds S k=>∃ (n:Int) (m:Nat),ds=[.int n,.int m]/\m<=10/\Bt 4000 n/\∀ S' p,aN S S'->S p=none->S' p=some (.lst ((List.range (m+1)).map fun i=>.int (n ^ i)))->k (.ref p) S'
theorem gH:ar ["number","most","told","turn"] ["number","most"] (ap iu):=dN
theorem oT (Fn:cT K "powers_up_to" "powers_up_to" iu f fd) (br:mg "range"=none):
  aH P w K mg base cQ 1 f fd ["number","most"] (cY K fu):=by
 refine Fn.okJ gH (fun ds S k h=>?_) (fun cdv A outer s H E hr=>⟨_,(af (ag (i:=2) gH.nd (fN (aa ad ae))) (af (jd PassesOwn.never rfl rfl br (aa (ac 1) ae) (aw (i:=3) gH.nd) (ah (ja (uh (ac 2) (au aV (ai aj (ac 2) (ac 3) (fun _ _=>rfl)) (ac 0)))))) (ah (am (ac 2))))),fun ds S k h=>?_⟩)
 ·obtain⟨_,_,rfl,_⟩:=h
  rfl
 ·obtain⟨n,m,rfl,hm,bn,w⟩:=h
  refine⟨few,fun p hp=>⟨⟨by omega,by omega⟩,?_⟩⟩
  refine bh (fun r L S'=>aN S S'/\∃ (i:Nat) (l3:Option D),i<=m/\L=[some (.int n),some (.int m),some (.ref p),l3]/\r=(List.range' i (m - i)).map (fun k:Nat=>D.int (k:Int))/\S' p=some (.lst ((List.range (i+1)).map fun j=>.int (n ^ j)))) (fun _ _ _ _=>trivial) ?_ ?_ _ _ _ ⟨aN.new hp,0,none,Nat.zero_le _,rfl,by rw [List.range_eq_range']; rfl,by rw [ak]; show _=some (DO.lst [D.int (n ^ 0)]); rw [Int.pow_zero]⟩
  ·rintro d r L S1 N1 ⟨x1,i,l3,hi,rfl,er,h1⟩ hN
   cases hmi:m - i with
   | zero=>rw [hmi] at er; cases er
   | succ t=>
    rw [hmi,List.range'_succ,List.map_cons] at er
    cases er
    have hat:L2.atI ((List.range (i+1)).map fun j=>D.int (n ^ j)) (i:Int)=some (.int (n ^ i)):=L2.jv (by rw [List.getElem?_map,List.getElem?_range (by omega)]; rfl)
    refine⟨⟨_,h1⟩,_,_,h1,hat,iB (lQ bn i) bn (by omega),_,h1,by rw [List.length_map,List.length_range]; exact lim (by omega),hN _ _ ⟨x1.put hp,i+1,_,by omega,rfl,by rw [show m - (i+1)=t by omega],?_⟩⟩
    rw [ak,List.range_succ (n:=i+1),List.map_append,List.map_cons,List.map_nil,Int.pow_succ]
  ·rintro L S1 ⟨x1,i,l3,hi,rfl,er,h1⟩
   cases hmi:m - i with
   | succ t=>rw [hmi,List.range'_succ] at er; cases er
   | zero=>
    have:i=m:=by omega
    subst this
    exact w S1 p x1 hp h1
set_option maxHeartbeats 4000000
def pv:List Int->Int->Int
 | [],_=>0
 | a::l,X=>a+X*pv l X
theorem sn:∀ (l:List Int) (N:Int),(∀ X:Int,N<=X->pv l X=0)->∀ a∈l,a=0
 | [],_,_,a,h=>nomatch h
 | c::l,N,h,a,ha=>by
  have c0:c=0:=by
   have hX:=h (max N (c.natAbs+1)) (by omega)
   have e:c=(max N ((c.natAbs:Int)+1))*(-(pv l (max N ((c.natAbs:Int)+1)))):=by
    unfold pv at hX
    rw [Int.mul_neg]
    omega
   have hd:(max N ((c.natAbs:Int)+1)) ∣ c:=⟨_,e⟩
   have hd2:=Int.natAbs_dvd_natAbs.mpr hd
   rcases Nat.eq_zero_or_pos c.natAbs with z | z
   ·omega
   ·have:=Nat.le_of_dvd z hd2
    omega
  have hl:∀ X:Int,max N 1<=X->pv l X=0:=fun X hx=>by
   have:=h X (by omega)
   unfold pv at this
   rw [c0,Int.zero_add] at this
   rcases Int.mul_eq_zero.mp this with z | z
   ·omega
   ·exact z
  rcases List.mem_cons.mp ha with z | z
  ·rw [z]; exact c0
  ·exact sn l _ hl a z
def gv (n:Nat) (f:Nat->Nat->Int) (X Y:Int):Int:=pv ((List.range n).map fun i=>pv ((List.range n).map fun j=>f i j) Y) X
theorem DW {n:Nat} {f:Nat->Nat->Int} (h:∀ X Y,1<=X->gv n f X Y=0) {i j:Nat} (hi:i < n) (hj:j < n):f i j=0:=by
 have h1:∀ Y,pv ((List.range n).map fun j=>f i j) Y=0:=fun Y=>sn _ 1 (fun X hX=>h X Y hX) _ (List.mem_map.mpr ⟨i,List.mem_range.mpr hi,rfl⟩)
 exact sn _ 0 (fun Y _=>h1 Y) _ (List.mem_map.mpr ⟨j,List.mem_range.mpr hj,rfl⟩)
theorem vN {α:Type} {f g:α->Int} {X:Int}:∀ {l:List α},pv (l.map fun i=>f i+g i) X=pv (l.map f) X+pv (l.map g) X
 | []=>rfl
 | a::l=>by
  show f a+g a+X*pv _ X=(f a+X*pv _ X)+(g a+X*pv _ X)
  rw [vN,Int.mul_add]
  omega
theorem pT {n:Nat} {f g:Nat->Nat->Int} {X Y:Int}:gv n (fun i j=>f i j+g i j) X Y=gv n f X Y+gv n g X Y:=by
 unfold gv
 rw [<- vN]
 congr 2
 funext i
 exact vN
theorem A5 {n:Nat} {i:Nat} {c X:Int}:∀ {k:Nat},k<=i->i < k+n->pv ((List.range' k n).map fun t=>if t=i then c else 0) X=c*X ^ (i - k):=by
 induction n with
 | zero=>intro k h1 h2; omega
 | succ n ih=>
  intro k h1 h2
  rw [List.range'_succ,List.map_cons]
  show(if k=i then c else 0)+X*pv _ X=_
  by_cases e:k=i
  ·subst e
   rw [if_pos rfl,Nat.sub_self,Int.pow_zero,Int.mul_one]
   have:∀ {m k':Nat},k < k'->pv ((List.range' k' m).map fun t=>if t=k then c else 0) X=0:=by
    intro m
    induction m with
    | zero=>intro k' _; rfl
    | succ m ih2=>
     intro k' hk
     rw [List.range'_succ,List.map_cons]
     show(if k'=k then c else 0)+X*pv _ X=0
     rw [if_neg (by omega),ih2 (by omega)]
     omega
   rw [this (by omega)]
   omega
  ·rw [if_neg e,ih (by omega) (by omega),show i - k=(i - (k+1))+1 by omega,Int.pow_succ,Int.zero_add]
   rw [<- Int.mul_assoc,Int.mul_comm X c,Int.mul_assoc,Int.mul_comm X]
theorem tW {n a b:Nat} {c X Y:Int} (ha:a < n) (hb:b < n):gv n (fun i j=>if i=a/\j=b then c else 0) X Y=c*(X ^ a*Y ^ b):=by
 unfold gv
 have e:(fun i=>pv ((List.range n).map fun j=>if i=a/\j=b then c else 0) Y)=fun i=>if i=a then c*Y ^ b else 0:=by
  funext i
  by_cases h:i=a
  ·rw [if_pos h]
   have:=A5 (n:=n) (i:=b) (c:=c) (X:=Y) (k:=0) (Nat.zero_le _) (by omega)
   rw [<- List.range_eq_range',Nat.sub_zero] at this
   rw [<- this]
   congr 2
   funext j
   by_cases hj:j=b <;> simp [h,hj]
  ·rw [if_neg h]
   have:(fun j=>if i=a/\j=b then c else(0:Int))=fun _=>0:=by funext j; simp [h]
   rw [this]
   clear this
   induction (List.range n) with
   | nil=>rfl
   | cons x l ih=>show 0+Y*pv _ Y=0; rw [ih]; omega
 rw [e]
 have:=A5 (n:=n) (i:=a) (c:=c*Y ^ b) (X:=X) (k:=0) (Nat.zero_le _) (by omega)
 rw [<- List.range_eq_range',Nat.sub_zero] at this
 rw [this,Int.mul_assoc,Int.mul_comm (Y ^ b)]
def mn (k:List Int) (X Y:Int):Int:=match k with
 | [i,j]=>X ^ i.toNat*Y ^ j.toNat
 | _=>0
def vl (t:List (List Int×Int)) (X Y:Int):Int:=t.foldr (fun p s=>p.2*mn p.1 X Y+s) 0
theorem lp {q:List Int×Int} {t:List (List Int×Int)} {k:List Int} (h:q.1∉t.map (·.1)):gI (q::t) k=(if q.1=k then q.2 else 0)+gI t k:=by
 by_cases e:q.1=k
 ·subst e
  rw [if_pos rfl,show gI t q.1=0 from aK h,Int.add_zero]
  show((List.find? _ (q::t)).map _).getD 0=q.2
  rw [List.find?_cons,decide_eq_true rfl]
  rfl
 ·rw [if_neg e,Int.zero_add]
  show((List.find? _ (q::t)).map _).getD 0=_
  rw [List.find?_cons,decide_eq_false e]
  rfl
theorem jW {n:Nat} {b:Int} {X Y:Int} (hb:b < n):∀ {t:List (List Int×Int)},Ci b t->vl t X Y=gv n (fun i j=>gI t [(i:Int),(j:Int)]) X Y
 | [],_=>by
  have:=tW (n:=n+1) (a:=0) (b:=0) (c:=0) (X:=X) (Y:=Y) (by omega) (by omega)
  show 0=gv n (fun _ _=>0) X Y
  unfold gv
  have z:∀ {l:List Nat} {Z:Int},pv (l.map fun _=>0) Z=0:=fun {l Z}=>by
   induction l with
   | nil=>rfl
   | cons x l ih=>show 0+Z*pv _ Z=0; rw [ih]; omega
  rw [show (fun i:Nat=>pv ((List.range n).map fun _:Nat=>(0:Int)) Y)=fun _=>0 from funext fun _=>z,z]
 | q::t,h=>by
  have nd:=List.nodup_cons.mp (show (q.1::t.map (·.1)).Nodup from h.nd)
  have ht:Ci b t:=⟨nd.2,fun p hp=>h.sm p (List.mem_cons_of_mem _ hp)⟩
  obtain⟨i,j,e,i0,j0,i1,j1⟩:=h.sm q List.mem_cons_self
  rw [show (fun a c:Nat=>gI (q::t) [(a:Int),(c:Int)])=fun(a c:Nat)=>(if a=i.toNat/\c=j.toNat then q.2 else 0)+gI t [(a:Int),(c:Int)] from funext fun a=>funext fun c=>by
   rw [lp nd.1,e]
   congr 1
   by_cases z:a=i.toNat/\c=j.toNat
   ·rw [if_pos z,if_pos (by rw [z.1,z.2,Int.toNat_of_nonneg i0,Int.toNat_of_nonneg j0])]
   ·rw [if_neg z,if_neg fun y=>z ?_]
    injection y with y1 y2
    injection y2 with y2 _
    omega,pT,tW (by omega) (by omega),<- jW hb ht]
  show q.2*mn q.1 X Y+vl t X Y=_
  rw [e]
  rfl
theorem v6 {b:Int} {t t':List (List Int×Int)} (h:Ci b t) (h':Ci b t') (e:∀ X Y,1<=X->vl t X Y=vl t' X Y) (k:List Int):gI t k=gI t' k:=by
 by_cases hk:∃ i j:Int,k=[i,j]/\0<=i/\0<=j/\i<=b/\j<=b
 ·obtain⟨i,j,rfl,i0,j0,i1,j1⟩:=hk
  have hb:b < ((b.toNat+1:Nat):Int):=by omega
  have z:∀ X Y,1<=X->gv (b.toNat+1) (fun a c=>gI t [(a:Int),(c:Int)]+-(gI t' [(a:Int),(c:Int)])) X Y=0:=fun X Y hX=>by
   have e1:=jW (X:=X) (Y:=Y) hb h
   have e2:=jW (X:=X) (Y:=Y) hb h'
   have e3:gv (b.toNat+1) (fun a c=>gI t' [(a:Int),(c:Int)]+-(gI t' [(a:Int),(c:Int)])) X Y=0:=by
    have:=jW (n:=b.toNat+1) (X:=X) (Y:=Y) hb (t:=[]) ⟨List.nodup_nil,fun p h=>nomatch h⟩
    rw [show (fun a c:Nat=>gI t' [(a:Int),(c:Int)]+-(gI t' [(a:Int),(c:Int)]))=fun(a c:Nat)=>gI [] [(a:Int),(c:Int)] from funext fun a=>funext fun c=>by rw [Int.add_right_neg]; rfl,<- this]
    rfl
   rw [pT] at e3 ⊢
   rw [<- e1,e X Y hX,e2]
   exact e3
  have:=DW z (i:=i.toNat) (j:=j.toNat) (by omega) (by omega)
  rw [Int.toNat_of_nonneg i0,Int.toNat_of_nonneg j0] at this
  omega
 ·have nk:∀ {s:List (List Int×Int)},Ci b s->gI s k=0:=fun hs=>aK fun z=>by
   obtain⟨p,hp,ep⟩:=List.mem_map.mp z
   obtain⟨i,j,e,q⟩:=hs.sm p hp
   exact hk ⟨i,j,by rw [<- ep,e],q⟩
  rw [nk h,nk h']
set_option maxHeartbeats 4000000
theorem FM {a b c d:Int} {X Y:Int} (ha:0<=a) (hb:0<=b) (hc:0<=c) (hd:0<=d):mn [a+c,b+d] X Y=mn [a,b] X Y*mn [c,d] X Y:=by
 show X ^ (a+c).toNat*Y ^ (b+d).toNat=X ^ a.toNat*Y ^ b.toNat*(X ^ c.toNat*Y ^ d.toNat)
 rw [show (a+c).toNat=a.toNat+c.toNat by omega,show(b+d).toNat=b.toNat+d.toNat by omega,Int.pow_add,Int.pow_add]
 rw [Int.mul_assoc,Int.mul_assoc,<- Int.mul_assoc (X ^ c.toNat),Int.mul_comm (X ^ c.toNat),Int.mul_assoc (Y ^ b.toNat)]
theorem Jb {n:Nat} {b b':Int} {p q:List Int×Int} {X Y:Int} (hn:b+b' < n) (hp:∃ i j:Int,p.1=[i,j]/\0<=i/\0<=j/\i<=b/\j<=b) (hq:∃ i j:Int,q.1=[i,j]/\0<=i/\0<=j/\i<=b'/\j<=b'):gv n (fun i j=>yP p q [(i:Int),(j:Int)]) X Y=p.2*mn p.1 X Y*(q.2*mn q.1 X Y):=by
 obtain⟨i,j,ep,i0,j0,i1,j1⟩:=hp
 obtain⟨i',j',eq,i0',j0',i1',j1'⟩:=hq
 rw [show (fun a c:Nat=>yP p q [(a:Int),(c:Int)])=fun(a c:Nat)=>(if a=(i+i').toNat/\c=(j+j').toNat then p.2*q.2 else 0) from funext fun a=>funext fun c=>by
  unfold yP
  rw [ep,eq]
  show(if [i+i',j+j']=[(a:Int),(c:Int)] then _ else _)=_
  by_cases z:a=(i+i').toNat/\c=(j+j').toNat
  ·rw [if_pos z,if_pos (by rw [z.1,z.2,Int.toNat_of_nonneg (by omega),Int.toNat_of_nonneg (by omega)])]
  ·rw [if_neg z,if_neg fun y=>z ?_]
   injection y with y1 y2
   injection y2 with y2 _
   omega,tW (by omega) (by omega),ep,eq]
 have:=FM (X:=X) (Y:=Y) i0 j0 i0' j0'
 show p.2*q.2*mn [i+i',j+j'] X Y=_
 rw [this]
 rw [Int.mul_assoc,Int.mul_assoc,Int.mul_left_comm q.2]
theorem Bw {n:Nat} {b b':Int} {p:List Int×Int} {X Y:Int} (hn:b+b' < n) (hp:∃ i j:Int,p.1=[i,j]/\0<=i/\0<=j/\i<=b/\j<=b):∀ {l:List (List Int×Int)} {φ:Nat->Nat->Int},(∀ q∈l,∃ i j:Int,q.1=[i,j]/\0<=i/\0<=j/\i<=b'/\j<=b')->
  gv n (fun i j=>jm p l [(i:Int),(j:Int)] (φ i j)) X Y=gv n φ X Y+p.2*mn p.1 X Y*vl l X Y
 | [],φ,_=>by
  show gv n φ X Y=gv n φ X Y+p.2*mn p.1 X Y*0
  rw [Int.mul_zero,Int.add_zero]
 | q::l,φ,h=>by
  have:=Bw (X:=X) (Y:=Y) hn hp (l:=l) (φ:=fun i j=>φ i j+yP p q [(i:Int),(j:Int)]) fun q' hq'=>h q' (List.mem_cons_of_mem _ hq')
  show gv n (fun i j=>jm p l [(i:Int),(j:Int)] (φ i j+yP p q [(i:Int),(j:Int)])) X Y=_
  rw [this,pT,Jb hn hp (h q List.mem_cons_self)]
  show _=gv n φ X Y+p.2*mn p.1 X Y*(q.2*mn q.1 X Y+vl l X Y)
  rw [Int.mul_add,Int.add_assoc]
theorem AZ {n:Nat} {b b':Int} {X Y:Int} {l':List (List Int×Int)} (hn:b+b' < n) (h':∀ q∈l',∃ i j:Int,q.1=[i,j]/\0<=i/\0<=j/\i<=b'/\j<=b'):∀ {l:List (List Int×Int)} {φ:Nat->Nat->Int},(∀ q∈l,∃ i j:Int,q.1=[i,j]/\0<=i/\0<=j/\i<=b/\j<=b)->
  gv n (fun i j=>l.foldl (fun s p=>jm p l' [(i:Int),(j:Int)] s) (φ i j)) X Y=gv n φ X Y+vl l X Y*vl l' X Y
 | [],φ,_=>by
  show gv n φ X Y=gv n φ X Y+0*vl l' X Y
  rw [Int.zero_mul,Int.add_zero]
 | p::l,φ,h=>by
  have:=AZ (X:=X) (Y:=Y) hn h' (l:=l) (φ:=fun i j=>jm p l' [(i:Int),(j:Int)] (φ i j)) fun q' hq'=>h q' (List.mem_cons_of_mem _ hq')
  show gv n (fun i j=>l.foldl (fun s p=>jm p l' [(i:Int),(j:Int)] s) (jm p l' [(i:Int),(j:Int)] (φ i j))) X Y=_
  rw [this,Bw hn (h p List.mem_cons_self) h']
  show _=gv n φ X Y+(p.2*mn p.1 X Y+vl l X Y)*vl l' X Y
  rw [Int.add_mul,Int.add_assoc]
theorem JW {n:Nat} {X Y:Int}:gv n (fun _ _=>0) X Y=0:=by
 unfold gv
 have z:∀ {l:List Nat} {Z:Int},pv (l.map fun _=>0) Z=0:=fun {l Z}=>by
  induction l with
  | nil=>rfl
  | cons x l ih=>show 0+Z*pv _ Z=0; rw [ih]; omega
 rw [show (fun i:Nat=>pv ((List.range n).map fun _:Nat=>(0:Int)) Y)=fun _=>0 from funext fun _=>z,z]
theorem wz {b b' b'':Int} {t t' g:List (List Int×Int)} (h:Ci b t) (h':Ci b' t') (hg:Ci b'' g) (hb:b+b'<=b'') (e:∀ k,gI g k=qT t t' k) (X Y:Int):vl g X Y=vl t X Y*vl t' X Y:=by
 have hn:b'' < ((b''.toNat+1:Nat):Int):=by omega
 rw [jW hn hg,show(fun i j:Nat=>gI g [(i:Int),(j:Int)])=fun(i j:Nat)=>t.foldl (fun s p=>jm p t' [(i:Int),(j:Int)] s) 0 from funext fun i=>funext fun j=>e _]
 have:=AZ (n:=b''.toNat+1) (X:=X) (Y:=Y) (show b+b' < ((b''.toNat+1:Nat):Int) by omega) h'.sm (φ:=fun _ _=>0) h.sm
 rw [this,JW,Int.zero_add]
theorem vW {b:Int} {t t' g:List (List Int×Int)} (h:Ci b t) (h':Ci b t') (hg:Ci b g) (e:∀ k,gI g k=gI t k+gI t' k) (X Y:Int):vl g X Y=vl t X Y+vl t' X Y:=by
 have hn:b < ((b.toNat+1:Nat):Int):=by omega
 rw [jW hn hg,jW hn h,jW hn h',<- pT]
 congr 1
 funext i j
 exact e _
theorem wX {X Y:Int}:∀ {t:List (List Int×Int)},vl (oY t) X Y=vl t X Y
 | []=>rfl
 | q::t=>by
  by_cases e:q.2=0
  ·rw [show oY (q::t)=oY t by simp [oY,List.filter_cons,e],wX]
   show _=q.2*mn q.1 X Y+vl t X Y
   rw [e,Int.zero_mul,Int.zero_add]
  ·rw [show oY (q::t)=q::oY t by simp [oY,List.filter_cons,e]]
   show q.2*mn q.1 X Y+vl (oY t) X Y=q.2*mn q.1 X Y+vl t X Y
   rw [wX]
set_option maxHeartbeats 4000000
theorem AS {p:List Int×Int} {k:List Int} {M:Nat}:∀ {l:List (List Int×Int)} {s:Int},(∀ q∈l,(p.2*q.2).natAbs<=M)->(jm p l k s).natAbs<=s.natAbs+l.length*M
 | [],s,_=>by show s.natAbs<=s.natAbs+0*M; omega
 | q::l,s,h=>by
  have h1:=AS (p:=p) (k:=k) (l:=l) (s:=s+yP p q k) fun q' hq=>h q' (List.mem_cons_of_mem _ hq)
  have h2:(yP p q k).natAbs<=M:=by
   unfold yP
   split
   ·exact h q List.mem_cons_self
   ·show(0:Int).natAbs<=M; exact Nat.zero_le _
  have h3:=Int.natAbs_add_le s (yP p q k)
  show(jm p l k (s+yP p q k)).natAbs<=s.natAbs+(l.length+1)*M
  rw [Nat.add_mul,Nat.one_mul]
  omega
theorem zE {k:List Int} {M:Nat} {l':List (List Int×Int)}:∀ {l:List (List Int×Int)} {s:Int},(∀ p∈l,∀ q∈l',(p.2*q.2).natAbs<=M)->(l.foldl (fun s p=>jm p l' k s) s).natAbs<=s.natAbs+l.length*(l'.length*M)
 | [],s,_=>by show s.natAbs<=s.natAbs+0*_; omega
 | p::l,s,h=>by
  have h1:=zE (k:=k) (l':=l') (l:=l) (s:=jm p l' k s) fun p' hp=>h p' (List.mem_cons_of_mem _ hp)
  have h2:=AS (p:=p) (k:=k) (l:=l') (s:=s) (h p List.mem_cons_self)
  show(l.foldl (fun s p=>jm p l' k s) (jm p l' k s)).natAbs<=s.natAbs+(l.length+1)*(l'.length*M)
  rw [Nat.add_mul,Nat.one_mul]
  omega
theorem tS {n n':Nat} {t t':List (List Int×Int)} {k:List Int} (hl:t.length<=10) (hl':t'.length<=10) (h:∀ p∈t,Bt n p.2) (h':∀ p∈t',Bt n' p.2):Bt (n+n'+7) (qT t t' k):=by
 have h1:=zE (k:=k) (M:=2 ^ (n+n')) (l':=t') (l:=t) (s:=0) fun p hp q hq=>Nat.le_of_lt ((h p hp).mul (h' q hq))
 have h2:t.length*(t'.length*2 ^ (n+n'))<=10*(10*2 ^ (n+n')):=Nat.mul_le_mul hl (Nat.mul_le_mul_right _ hl')
 have h3:0 < 2 ^ (n+n'):=Nat.pow_pos (by decide)
 show(qT t t' k).natAbs < 2 ^ (n+n'+7)
 rw [Nat.pow_add]
 have h4:(qT t t' k).natAbs<=(0:Int).natAbs+t.length*(t'.length*2 ^ (n+n')):=h1
 have:(0:Int).natAbs=0:=rfl
 omega
theorem Ci.len {b:Nat} {t:List (List Int×Int)} (h:Ci (b:Int) t):t.length<=(b+1)*(b+1):=by
 have:=rS h.nd (l':=(List.range (b+1)).flatMap fun i:Nat=>(List.range (b+1)).map fun j:Nat=>[(i:Int),(j:Int)]) fun x hx=>by
  obtain⟨p,hp,rfl⟩:=List.mem_map.mp hx
  obtain⟨i,j,e,i0,j0,i1,j1⟩:=h.sm p hp
  rw [e]
  refine List.mem_flatMap.mpr ⟨i.toNat,List.mem_range.mpr (by omega),List.mem_map.mpr ⟨j.toNat,List.mem_range.mpr (by omega),?_⟩⟩
  rw [Int.toNat_of_nonneg i0,Int.toNat_of_nonneg j0]
 rw [List.length_map] at this
 refine Nat.le_trans this ?_
 rw [List.length_flatMap]
 have z:∀ (l:List Nat) (c:Nat),(l.map fun _=>c).sum=l.length*c:=fun l c=>by
  induction l with
  | nil=>simp
  | cons x l ih=>rw [List.map_cons,List.sum_cons,ih,List.length_cons,Nat.add_mul,Nat.one_mul,Nat.add_comm]
 simp only [List.length_map,List.length_range,z]
 exact Nat.le_refl _
set_option maxHeartbeats 4000000
def hC (T:Int->Int->Int) (m y d i:Int):Nat->Int
 | 0=>0
 | s+1=>hC T m y d i s*y+T i (d - i - s)*m ^ s
def hO (T:Int->Int->Int) (m x y d:Int):Nat->Int
 | 0=>0
 | s+1=>hO T m x y d s*x+hC T m y d (d - s) (s+1)
theorem u7 {n:Nat} {t:List (List Int×Int)} (nd:(t.map (·.1)).Nodup) (h:∀ p∈t,Bt n p.2) (k:List Int):Bt n (gI t k):=by
 rcases d_ (z:=(0:Int)) k nd with x | x
 ·rw [show gI t k=0 from aK x]
  show(0:Int).natAbs < 2 ^ n
  exact Nat.pow_pos (by decide)
 ·exact h _ x
theorem pK {n:Nat} {t:List (List Int×Int)} (nd:(t.map (·.1)).Nodup) (h:∀ k,Bt n (gI t k)):∀ p∈t,Bt n p.2:=fun p hp=>by
 have:=h p.1
 rw [show gI t p.1=p.2 from cZ nd hp] at this
 exact this
theorem jo {S S':DH} (x:aN S S') {p:Addr} (h:S' p=none):S p=none:=by
 cases e:S p with
 | none=>rfl
 | some o=>rw [x _ _ e] at h; cases h
theorem pE {t:List (List Int×Int)} {f:List Int×Int->Bool} (nd:(t.map (·.1)).Nodup):((t.filter f).map (·.1)).Nodup:=List.Nodup.sublist (List.Sublist.map _ List.filter_sublist) nd
theorem uM {d:Nat}:lI (d:Int) (-1)=(List.range' 0 (d+1)).map fun k:Nat=>D.int ((d:Int) - (k:Int)):=by
 unfold lI
 rw [show ((d:Int) - -1).toNat=d+1 by omega,List.range_eq_range']
theorem Ci.nil {b:Int}:Ci b []:=⟨List.nodup_nil,fun p h=>nomatch h⟩
theorem Ci.one {b x:Int} (hb:0<=b):Ci b [([0,0],x)]:=⟨by simp,fun p h=>by
 have:p=([0,0],x):=by simpa using h
 subst this
 exact⟨0,0,rfl,by decide,by decide,hb,hb⟩⟩
theorem Gn {x X Y:Int}:vl [([0,0],x)] X Y=x:=by
 show x*(X ^ 0*Y ^ 0)+0=x
 rw [Int.pow_zero,Int.pow_zero]
 omega
def gq:b_:=fun ds S k=>∃ (a b c:Addr) (t tx ty:List (List Int×Int)) (e e1 e2:Nat) (m:Int) (n c' d:Nat),ds=[.ref a,.ref b,.ref c,.int m]/\S a=some (bN (aX t) e)/\S b=some (bN (aX tx) e1)/\S c=some (bN (aX ty) e2)/\Ci 2 t/\qM t d/\d<=2/\Ci 1 tx/\Ci 1 ty/\n<=8000/\c'<=2000/\(∀ p∈t,Bt n p.2)/\(∀ p∈tx,Bt c' p.2)/\(∀ p∈ty,Bt c' p.2)/\Bt c' m/\1<=n/\
 ∀ S' p ep g,aN S S'->S p=none->Ci 3 g->(∀ p∈g,p.2≠0/\Bt (n+3*(c'+9)) p.2)->(∀ X Y,vl g X Y=hO (fun i j=>gI t [i,j]) m (vl tx X Y) (vl ty X Y) d (d+1))->S' p=some (bN (aX g) ep)->k (.ref p) S'
theorem da:ar ["tops","x","y","bottom","degree","bottoms","told","i","column","j","top"] ["tops","x","y","bottom"] (ap pi):=dN
theorem yr (Fn:cT K "set_in" "set_in" pi f fd) (cc:aQ P w K mg base "degree_of" 1 fi) (cR:aQ P w K mg base "powers_up_to" 1 fu) (cM:aQ P w K mg base "sum_of_tops" 1 fU) (bF:aQ P w K mg base "product_of_tops" 1 dy) (aY:aQ P w K mg base "without_nought_tops" 1 cx) (br:mg "range"=none):
  aH P w K mg base cQ 2 f fd ["tops","x","y","bottom"] (cY K gq):=by
 refine Fn.okJ da (fun ds S k h=>?_) (fun cdv A outer s H E hr=>⟨_,(af (ag (i:=4) da.nd (dq cc hr (aa (ac 0) ae))) (af (ag (i:=5) da.nd (dq cR hr (aa (ac 3) (aa (ac 4) ae)))) (af (ag (i:=6) da.nd fT) (af (mo PassesOwn.never rfl rfl br (aa (ac 4) (aa (fv fg ad) (aa (fv fg ad) ae))) (aw (i:=7) da.nd) (af (ag (i:=8) da.nd fT) (af (mo PassesOwn.never rfl rfl br (aa (au j6 (ac 4) (ac 7)) (aa (fv fg ad) (aa (fv fg ad) ae))) (aw (i:=9) da.nd) (af (ag (i:=10) da.nd (au aV (fZ hr (ac 0) (aq (aa (ac 7) (aa (ac 9) ae))) ad) (ai aj (ac 5) (au j6 (au j6 (ac 4) (ac 7)) (ac 9)) (fun _ _=>rfl)))) (ah (ag (i:=8) da.nd (dq cM hr (aa (dq bF hr (aa (ac 8) (aa (ac 2) ae))) (aa (fW hr (a_ (aq (aa ad (aa ad ae))) (ac 10) iQ)) ae))))))) (ah (ag (i:=6) da.nd (dq cM hr (aa (dq bF hr (aa (ac 6) (aa (ac 1) ae))) (aa (ac 8) ae)))))))) (ah (am (dq aY hr (aa (ac 6) ae)))))))),fun ds S k h=>?_⟩)
 ·obtain⟨_,_,_,_,_,_,_,_,_,_,_,_,_,rfl,_⟩:=h
  rfl
 ·obtain⟨a,b,c,t,tx,ty,e,e1,e2,m,n,c',d,rfl,ha,hb,hc,ht,hd,d2,hx,hy,hn,hc',bt,bx,by_,bm,n1,w⟩:=h
  have lt:t.length<=9:=Ci.len (b:=2) ht
  have lx:tx.length<=4:=Ci.len (b:=1) hx
  have ly:ty.length<=4:=Ci.len (b:=1) hy
  refine⟨a,t,e,rfl,ha,by omega,fun p hp=>?_,fun z=>?_,fun S1 d' x1 hd'=>?_⟩
  ·obtain⟨i,j,e,i0,j0,i1,j1⟩:=ht.sm p hp
   exact⟨i,j,e,i0,j0,by omega,by omega⟩
  ·obtain⟨⟨p,hp,_⟩,_⟩:=hd
   rw [z] at hp
   cases hp
  have ed:=hd'.uniq hd
  subst ed
  refine⟨m,d,rfl,by omega,bm.mono (by omega),fun S2 p5 x2 h5 hp5=>fun p6 hp6 e6=>⟨rfl,⟨by omega,by omega,by decide,by decide⟩,?_⟩⟩
  rw [uM]
  have X2:aN S S2:=x1.trans x2
  refine bh (fun r L S'=>aN S2 S'/\∃ (s:Nat) (g:List (List Int×Int)) (q:Addr) (eq:Nat) (l7 l8 l9 l10:Option D),s<=d+1/\r=(List.range' s (d+1 - s)).map (fun k:Nat=>D.int ((d:Int) - (k:Int)))/\L=[some (.ref a),some (.ref b),some (.ref c),some (.int m),some (.int d),some (.ref p5),some (.ref q),l7,l8,l9,l10]/\S' q=some (bN (aX g) eq)/\S q=none/\Ci (s:Int) g/\(∀ p∈g,Bt (n+s*(c'+9)) p.2)/\∀ X Y,vl g X Y=hO (fun i j=>gI t [i,j]) m (vl tx X Y) (vl ty X Y) d s) (fun _ _ _ _=>trivial) ?_ ?_ _ _ _ ⟨aN.new hp6,0,[],p6,e6,none,none,none,none,Nat.zero_le _,rfl,rfl,ak,jo X2 hp6,Ci.nil,fun p h=>(nomatch h),fun X Y=>rfl⟩
  ·rintro dd r L S3 N1 ⟨x3,s,g,q,eq,l7,l8,l9,l10,hs,er,rfl,hq,hq0,hg,bg,vg⟩ hN
   cases hds:d+1 - s with
   | zero=>rw [hds] at er; cases er
   | succ s'=>
    rw [hds,List.range'_succ,List.map_cons] at er
    cases er
    have X3:aN S S3:=X2.trans x3
    refine fun p8 hp8 e8=>⟨rfl,⟨by omega,by omega,by decide,by decide⟩,?_⟩
    rw [show (d:Int) - ((d:Int) - (s:Int))=(s:Int) by omega,uM]
    refine bh (fun r L S'=>aN S3 S'/\∃ (k:Nat) (col:List (List Int×Int)) (q8:Addr) (eq8:Nat) (l9 l10:Option D),k<=s+1/\r=(List.range' k (s+1 - k)).map (fun k:Nat=>D.int ((s:Int) - (k:Int)))/\L=[some (.ref a),some (.ref b),some (.ref c),some (.int m),some (.int d),some (.ref p5),some (.ref q),some (.int ((d:Int) - (s:Int))),some (.ref q8),l9,l10]/\S' q8=some (bN (aX col) eq8)/\Ci (k:Int) col/\(∀ p∈col,Bt (n+k*(c'+8)) p.2)/\∀ X Y,vl col X Y=hC (fun i j=>gI t [i,j]) m (vl ty X Y) d ((d:Int) - (s:Int)) k) (fun _ _ _ _=>trivial) ?_ ?_ _ _ _ ⟨aN.new hp8,0,[],p8,e8,l9,l10,Nat.zero_le _,rfl,rfl,ak,Ci.nil,fun p h=>(nomatch h),fun X Y=>rfl⟩
    ·rintro dd r L S4 N2 ⟨x4,k',col,q8,eq8,l9,l10,hk,er,rfl,hq8,hcol,bcol,vcol⟩ hN2
     cases hdk:s+1 - k' with
     | zero=>rw [hdk] at er; cases er
     | succ s''=>
      rw [hdk,List.range'_succ,List.map_cons] at er
      cases er
      have X4:aN S S4:=X3.trans x4
      have h54:S4 p5=some (.lst ((List.range (d+1)).map fun i=>.int (m ^ i))):=x4 _ _ (x3 _ _ hp5)
      have hat:L2.atI ((List.range (d+1)).map fun i=>D.int (m ^ i)) ((d:Int) - ((d:Int) - (s:Int)) - ((s:Int) - (k':Int)))=some (.int (m ^ k')):=by
       rw [show (d:Int) - ((d:Int) - (s:Int)) - ((s:Int) - (k':Int))=(k':Int) by omega]
       exact L2.jv (by rw [List.getElem?_map,List.getElem?_range (by omega)]; rfl)
      have G:(df (aX t) [(d:Int) - (s:Int),(s:Int) - (k':Int)]).getD (D.int 0)=D.int (gI t [(d:Int) - (s:Int),(s:Int) - (k':Int)]):=lw (f:=D.int) (z:=0)
      have bT:=u7 ht.nd bt [(d:Int) - (s:Int),(s:Int) - (k':Int)]
      have bM:=lQ bm k'
      have lcol:col.length<=9:=Nat.le_trans (Ci.len hcol) (Nat.mul_le_mul (show k'+1<=3 by omega) (show k'+1<=3 by omega))
      have kc:k'*(c'+8)<=2*2008:=Nat.mul_le_mul (by omega) (by omega)
      have kc2:k'*c'<=k'*(c'+8):=Nat.mul_le_mul_left _ (by omega)
      refine⟨⟨_,_,X4 _ _ ha⟩,few,_,_,[(d:Int) - (s:Int),(s:Int) - (k':Int)],X4 _ _ ha,rfl,?_⟩
      rw [G]
      refine⟨_,_,h54,hat,iB bT bM (by omega),?_⟩
      refine⟨q8,c,col,ty,eq8,e2,(k':Int),1,rfl,hq8,X4 _ _ hc,hcol,hy,by omega,by decide,by omega,by omega,fun p hp=>(bcol p hp).mono (by omega),fun p hp=>(by_ p hp).mono (by omega),fun S5 p9 e9 g5 x5 h9 hg5 l5 gf5 hp9=>?_⟩
      refine fun p10 hp10 e10=>⟨few,e10,aX [([0,0],gI t [(d:Int) - (s:Int),(s:Int) - (k':Int)]*m ^ k')],ak,rfl,by show 1<=15; decide,fun e11=>?_⟩
      have l5':g5.length<=16:=Nat.le_trans (Ci.len (b:=k'+1) (by rw [show ((k'+1:Nat):Int)=(k':Int)+1 by omega]; exact hg5)) (Nat.mul_le_mul (show k'+1+1<=4 by omega) (show k'+1+1<=4 by omega))
      refine⟨p9,p10,g5,[([0,0],gI t [(d:Int) - (s:Int),(s:Int) - (k':Int)]*m ^ k')],e9,e11,(k':Int)+1,rfl,((aN.new hp10).put hp10) _ _ hp9,by rw [ak,fK (f:=D.int) (l:=[([0,0],gI t [(d:Int) - (s:Int),(s:Int) - (k':Int)]*m ^ k')]) (by simp)],hg5,Ci.one (by omega),by omega,by show g5.length+1<=100; omega,fun S6 p11 e12 g6 x6 h11 hg6 l6 gf6 hp11=>?_⟩
      have bb:∀ k,Bt (n+(k'+1)*(c'+8)) (gI g6 k):=fun k=>by
       rw [gf6 k,gf5 k]
       have b1:=tS (k:=k) (by omega) (by omega) bcol by_
       have b2:Bt (n+(k'*c'+1)) (gI [([0,0],gI t [(d:Int) - (s:Int),(s:Int) - (k':Int)]*m ^ k')] k):=u7 (by simp) (fun p hp=>by
        have:p=([0,0],gI t [(d:Int) - (s:Int),(s:Int) - (k':Int)]*m ^ k'):=by simpa using hp
        rw [this]
        exact bT.mul bM) k
       refine(b1.add b2).mono ?_
       rw [Nat.add_mul,Nat.one_mul]
       omega
      refine hN2 _ _ ⟨x4.trans (x5.trans (((aN.new hp10).put hp10).trans x6)),k'+1,g6,p11,e12,_,_,by omega,by rw [show s+1 - (k'+1)=s'' by omega],rfl,hp11,by rw [show ((k'+1:Nat):Int)=(k':Int)+1 by omega]; exact hg6,pK hg6.nd bb,fun X Y=>?_⟩
      rw [vW hg5 (Ci.one (by omega)) hg6 gf6,Gn,wz hcol hy hg5 (Int.le_refl _) gf5,vcol]
      show _=hC _ _ _ _ _ k'*vl ty X Y+gI t [(d:Int) - (s:Int),(d:Int) - ((d:Int) - (s:Int)) - (k':Int)]*m ^ k'
      rw [show (d:Int) - ((d:Int) - (s:Int)) - (k':Int)=(s:Int) - (k':Int) by omega]
    ·rintro L S4 ⟨x4,k',col,q8,eq8,l9,l10,hk,er,rfl,hq8,hcol,bcol,vcol⟩
     cases hdk:s+1 - k' with
     | succ s''=>rw [hdk,List.range'_succ] at er; cases er
     | zero=>
      have ek:k'=s+1:=by omega
      subst ek
      have X4:aN S S4:=X3.trans x4
      have lg:g.length<=9:=Nat.le_trans (Ci.len hg) (Nat.mul_le_mul (show s+1<=3 by omega) (show s+1<=3 by omega))
      have sc:s*(c'+9)<=2*2009:=Nat.mul_le_mul (by omega) (by omega)
      refine⟨q,b,g,tx,eq,e1,(s:Int),1,rfl,x4 _ _ hq,X4 _ _ hb,hg,hx,by omega,by decide,by omega,by omega,fun p hp=>(bg p hp).mono (by omega),fun p hp=>(bx p hp).mono (by omega),fun S5 p9 e9 g5 x5 h9 hg5 l5 gf5 hp9=>?_⟩
      have hcol':Ci ((s:Int)+1) col:=by rw [show ((s+1:Nat):Int)=(s:Int)+1 by omega] at hcol; exact hcol
      have l5':g5.length<=16:=Nat.le_trans (Ci.len (b:=s+1) (by rw [show ((s+1:Nat):Int)=(s:Int)+1 by omega]; exact hg5)) (Nat.mul_le_mul (show s+1+1<=4 by omega) (show s+1+1<=4 by omega))
      have lc':col.length<=16:=Nat.le_trans (Ci.len hcol) (Nat.mul_le_mul (show s+1+1<=4 by omega) (show s+1+1<=4 by omega))
      refine⟨p9,q8,g5,col,e9,eq8,(s:Int)+1,rfl,hp9,x5 _ _ hq8,hg5,hcol',by omega,by omega,fun S6 p11 e12 g6 x6 h11 hg6 l6 gf6 hp11=>?_⟩
      have bb:∀ k,Bt (n+(s+1)*(c'+9)) (gI g6 k):=fun k=>by
       rw [gf6 k,gf5 k]
       have b1:=tS (k:=k) (by omega) (by omega) bg bx
       have b2:=u7 hcol.nd bcol k
       refine(b1.add b2).mono ?_
       have:s*(c'+8)<=s*(c'+9):=Nat.mul_le_mul_left _ (by omega)
       rw [Nat.add_mul,Nat.add_mul,Nat.one_mul,Nat.one_mul]
       omega
      refine hN _ _ ⟨x3.trans (x4.trans (x5.trans x6)),s+1,g6,p11,e12,_,_,_,_,by omega,by rw [show d+1 - (s+1)=s' by omega],rfl,hp11,jo (X4.trans x5) h11,by rw [show ((s+1:Nat):Int)=(s:Int)+1 by omega]; exact hg6,pK hg6.nd bb,fun X Y=>?_⟩
      rw [vW hg5 hcol' hg6 gf6,wz hg hx hg5 (Int.le_refl _) gf5,vg,vcol]
      rfl
  ·rintro L S3 ⟨x3,s,g,q,eq,l7,l8,l9,l10,hs,er,rfl,hq,hq0,hg,bg,vg⟩
   cases hds:d+1 - s with
   | succ s'=>rw [hds,List.range'_succ] at er; cases er
   | zero=>
    have es:s=d+1:=by omega
    subst es
    have lg:g.length<=16:=Nat.le_trans (Ci.len hg) (Nat.mul_le_mul (show d+1+1<=4 by omega) (show d+1+1<=4 by omega))
    refine⟨q,g,eq,rfl,hq,hg.nd,by omega,fun S4 p e4 x4 h4 hp4=>w S4 p e4 (oY g) (X2.trans (x3.trans x4)) (jo (X2.trans x3) h4) ?_ ?_ ?_ hp4⟩
    ·exact Ci.up ⟨pE hg.nd,fun p hp=>hg.sm p (List.mem_filter.mp hp).1⟩ (by omega)
    ·intro p hp
     obtain⟨hp,p0⟩:=List.mem_filter.mp hp
     refine⟨by simpa using p0,(bg p hp).mono ?_⟩
     have:(d+1)*(c'+9)<=3*(c'+9):=Nat.mul_le_mul_right _ (by omega)
     omega
    ·intro X Y
     rw [wX,vg]
set_option maxHeartbeats 4000000
def qK (a b c d:Int):List (List Int×Int):=[([2,0],a),([0,2],a),([1,0],b),([0,1],c),([0,0],d)]
theorem mE {a b c d:Int}:Ci 2 (qK a b c d):=⟨by show([[2,0],[0,2],[1,0],[0,1],[0,0]]:List (List Int)).Nodup; decide,fun p hp=>by
 simp only [qK,List.mem_cons,List.not_mem_nil,or_false] at hp
 rcases hp with rfl | rfl | rfl | rfl | rfl
 ·exact⟨2,0,rfl,by decide,by decide,by decide,by decide⟩
 ·exact⟨0,2,rfl,by decide,by decide,by decide,by decide⟩
 ·exact⟨1,0,rfl,by decide,by decide,by decide,by decide⟩
 ·exact⟨0,1,rfl,by decide,by decide,by decide,by decide⟩
 ·exact⟨0,0,rfl,by decide,by decide,by decide,by decide⟩⟩
theorem wO {a b c d X Y:Int}:vl (qK a b c d) X Y=a*(X*X+Y*Y)+b*X+c*Y+d:=by
 show a*(X ^ 2*Y ^ 0)+(a*(X ^ 0*Y ^ 2)+(b*(X ^ 1*Y ^ 0)+(c*(X ^ 0*Y ^ 1)+(d*(X ^ 0*Y ^ 0)+0))))=_
 grind
structure GC (t:List (List Int×Int)) (a b c d:Int):Prop where
 ci:Ci 3 t
 v:∀ X Y,1<=X->vl t X Y=a*(X*X+Y*Y)+b*X+c*Y+d
 nz:∀ p∈t,p.2≠0
section
variable {t:List (List Int×Int)} {a b c d:Int}
theorem GC.at (h:GC t a b c d) (k:List Int):gI t k=gI (qK a b c d) k:=v6 h.ci (mE.up (by decide)) (fun X Y hX=>by rw [h.v X Y hX,wO]) k
theorem GC.mem (h:GC t a b c d) {p:List Int×Int} (hp:p∈t):p∈qK a b c d:=by
 have e:gI t p.1=p.2:=cZ h.ci.nd hp
 rw [h.at] at e
 rcases d_ (z:=(0:Int)) p.1 (mE (a:=a) (b:=b) (c:=c) (d:=d)).nd with q | q
 ·exact absurd (e.symm.trans (aK q)) (h.nz p hp)
 ·rw [show gA 0 (qK a b c d) p.1=p.2 from e] at q
  exact q
theorem GC.inn (h:GC t a b c d) {k:List Int} {x:Int} (e:gI (qK a b c d) k=x) (x0:x≠0):(k,x)∈t:=by
 rcases d_ (z:=(0:Int)) k h.ci.nd with q | q
 ·exact absurd (((h.at k).symm.trans (aK q)).symm.trans e).symm x0
 ·rw [show gA 0 t k=x from(h.at k).trans e] at q
  exact q
theorem GC.ci2 (h:GC t a b c d):Ci 2 t:=⟨h.ci.nd,fun p hp=>mE.sm p (h.mem hp)⟩
theorem GC.deg2 (h:GC t a b c d) (a0:a≠0):qM t 2:=⟨⟨_,h.inn (k:=[2,0]) rfl a0,rfl⟩,fun p hp=>by
 have:=h.mem hp
 simp only [qK,List.mem_cons,List.not_mem_nil,or_false] at this
 rcases this with rfl | rfl | rfl | rfl | rfl <;> dsimp only <;> decide⟩
theorem GC.deg1 (h:GC t 0 b c d) (n:b≠0\/c≠0):qM t 1:=by
 refine⟨?_,fun p hp=>?_⟩
 ·rcases n with n | n
  ·exact⟨_,h.inn (k:=[1,0]) rfl n,rfl⟩
  ·exact⟨_,h.inn (k:=[0,1]) rfl n,rfl⟩
 ·have z:=h.nz p hp
  have:=h.mem hp
  simp only [qK,List.mem_cons,List.not_mem_nil,or_false] at this
  rcases this with rfl | rfl | rfl | rfl | rfl
  ·exact absurd rfl z
  ·exact absurd rfl z
  ·show dg [1,0]<=1; decide
  ·show dg [0,1]<=1; decide
  ·show dg [0,0]<=1; decide
theorem GC.ne (h:GC t a b c d) (n:¬ (a=0/\b=0/\c=0/\d=0)):t≠[]:=by
 rintro rfl
 have f:∀ k,gI (qK a b c d) k=0:=fun k=>(h.at k).symm
 exact n ⟨f [2,0],f [1,0],f [0,1],f [0,0]⟩
end
theorem LP {T:Int->Int->Int} {m x y:Int}:hO T m x y ((2:Nat):Int) (2+1)=T 2 0*(x*x)+T 1 1*(x*y)+T 1 0*(m*x)+T 0 2*(y*y)+T 0 1*(m*y)+T 0 0*(m*m):=by
 show((0*x+(0*y+T 2 0*m ^ 0))*x+((0*y+T 1 1*m ^ 0)*y+T 1 0*m ^ 1))*x+(((0*y+T 0 2*m ^ 0)*y+T 0 1*m ^ 1)*y+T 0 0*m ^ 2)=_
 grind
theorem Lv {T:Int->Int->Int} {m x y:Int}:hO T m x y ((1:Nat):Int) (1+1)=T 1 0*x+T 0 1*y+T 0 0*m:=by
 show(0*x+(0*y+T 1 0*m ^ 0))*x+((0*y+T 0 1*m ^ 0)*y+T 0 0*m ^ 1)=_
 grind
theorem GC.set2 {t g:List (List Int×Int)} {a b c d m p q e f s:Int} (h:GC t a b c d) (ss:s*s=1) (hg:Ci 3 g) (nz:∀ p∈g,p.2≠0) (v:∀ X Y,vl g X Y=hO (fun i j=>gI t [i,j]) m (p*X+-s*q*Y+e) (q*X+s*p*Y+f) ((2:Nat):Int) (2+1)):
  GC g (a*(p*p+q*q)) (2*a*(p*e+q*f)+m*(b*p+c*q)) (s*(2*a*(p*f - q*e)+m*(c*p - b*q))) (a*(e*e+f*f)+m*(b*e+c*f)+m*m*d):=⟨hg,fun X Y _=>by
 rw [v X Y,LP]
 rw [h.at,h.at,h.at,h.at,h.at,h.at]
 show a*_+0*_+b*_+a*_+c*_+d*_=_
 grind,nz⟩
theorem GC.set1 {t g:List (List Int×Int)} {b c d m p q e f s:Int} (h:GC t 0 b c d) (hg:Ci 3 g) (nz:∀ p∈g,p.2≠0) (v:∀ X Y,vl g X Y=hO (fun i j=>gI t [i,j]) m (p*X+-s*q*Y+e) (q*X+s*p*Y+f) ((1:Nat):Int) (1+1)):
  GC g 0 (b*p+c*q) (s*(c*p - b*q)) (b*e+c*f+m*d):=⟨hg,fun X Y _=>by
 rw [v X Y,Lv]
 rw [h.at,h.at,h.at]
 show b*_+c*_+d*_=_
 grind,nz⟩
abbrev mZ (a b c d:Int):Int:=b*b+c*c - 4*(a*d)
theorem vd {a b c d m p q e f s:Int} (ss:s*s=1):mZ (a*(p*p+q*q)) (2*a*(p*e+q*f)+m*(b*p+c*q)) (s*(2*a*(p*f - q*e)+m*(c*p - b*q))) (a*(e*e+f*f)+m*(b*e+c*f)+m*m*d)=m*m*(p*p+q*q)*mZ a b c d:=by
 unfold mZ
 grind
theorem AQ {b c d m p q e f s:Int} (ss:s*s=1):mZ 0 (b*p+c*q) (s*(c*p - b*q)) (b*e+c*f+m*d)=(p*p+q*q)*mZ 0 b c d:=by
 unfold mZ
 grind
theorem EN:∀ {r:List (List Int×Int)},(∀ p∈r,p.2≠0->∃ j,p.1=[0,j]\/p.1=[1,j])->∃ A B:Int->Int,∀ X Y,vl r X Y=A Y+X*B Y
 | [],_=>⟨fun _=>0,fun _=>0,fun X Y=>by show 0=0+X*0; omega⟩
 | p::r,h=>by
  obtain⟨A,B,e⟩:=EN (r:=r) fun q hq=>h q (List.mem_cons_of_mem _ hq)
  have e':∀ X Y,vl (p::r) X Y=p.2*mn p.1 X Y+(A Y+X*B Y):=fun X Y=>by rw [<- e]; rfl
  by_cases z:p.2=0
  ·exact⟨A,B,fun X Y=>by rw [e',z]; omega⟩
  ·obtain⟨j,k | k⟩:=h p List.mem_cons_self z
   ·exact⟨fun Y=>p.2*Y ^ j.toNat+A Y,B,fun X Y=>by rw [e',k]; show p.2*(X ^ 0*Y ^ j.toNat)+_=_; grind⟩
   ·exact⟨A,fun Y=>p.2*Y ^ j.toNat+B Y,fun X Y=>by rw [e',k]; show p.2*(X ^ 1*Y ^ j.toNat)+_=_; grind⟩
theorem yy {M r h:Int} (e:r=h*M) (s:r.natAbs < M.natAbs):r=0:=by
 have hd:M.natAbs ∣ r.natAbs:=Int.natAbs_dvd_natAbs.mpr ⟨h,by rw [e,Int.mul_comm]⟩
 have:=Nat.eq_zero_of_dvd_of_lt hd s
 omega
theorem rK {A B h N Y:Int} (hN:(A.natAbs:Int)+B.natAbs < N) (e:A+N*B=h*(N*N+Y*Y)):A+N*B=0:=by
 refine yy e ?_
 have h1:=Int.natAbs_add_le A (N*B)
 rw [Int.natAbs_mul] at h1
 have n0:(N.natAbs:Int)=N:=by omega
 have h2:(N*N+Y*Y).natAbs=N.natAbs*N.natAbs+Y.natAbs*Y.natAbs:=by
  have a1:N*N=((N.natAbs*N.natAbs:Nat):Int):=(Int.natAbs_mul_self' N).symm▸(Int.natAbs_mul_self (a:=N)).symm
  have a2:Y*Y=((Y.natAbs*Y.natAbs:Nat):Int):=(Int.natAbs_mul_self (a:=Y)).symm
  rw [a1,a2]
  omega
 rw [h2]
 generalize A.natAbs=α at*
 generalize B.natAbs=β at*
 generalize N.natAbs=ν at*
 have h3:α+ν*β<=ν*(ν - 1):=by
  have z:α+β<=ν - 1:=by omega
  have z1:=Nat.mul_le_mul_left ν z
  rw [Nat.mul_add] at z1
  have z2:α<=ν*α:=Nat.le_mul_of_pos_left α (by omega)
  omega
 have h4:ν*(ν - 1) < ν*ν:=Nat.mul_lt_mul_of_pos_left (by omega) (by omega)
 have h5:0<=Y.natAbs*Y.natAbs:=Nat.zero_le _
 omega
theorem vw {A B Y:Int} {h:Int->Int} (e:∀ X,1<=X->A+X*B=h X*(X*X+Y*Y)):A=0/\B=0:=by
 have h1:=rK (N:=(A.natAbs:Int)+B.natAbs+1) (by omega) (e _ (by omega))
 have h2:=rK (N:=(A.natAbs:Int)+B.natAbs+2) (by omega) (e _ (by omega))
 have:B=0:=by
  rw [Int.add_mul] at h1 h2
  omega
 rw [this,Int.mul_zero] at h1
 exact⟨by omega,this⟩
theorem Ay {b:Int} {s s':List (List Int×Int)} {i j z:Int} (h:Ci b s) (h':Ci b s') (i0:0<=i) (j0:0<=j) (i1:i<=b) (j1:j<=b) (e:∀ k,gI s' k=if k=[i,j] then z else gI s k) (X Y:Int):vl s' X Y=vl s X Y+(z - gI s [i,j])*mn [i,j] X Y:=by
 have hn:b < ((b.toNat+1:Nat):Int):=by omega
 rw [jW hn h',jW hn h,show(fun a c:Nat=>gI s' [(a:Int),(c:Int)])=fun(a c:Nat)=>gI s [(a:Int),(c:Int)]+(if a=i.toNat/\c=j.toNat then z - gI s [i,j] else 0) from funext fun a=>funext fun c=>by
  rw [e]
  by_cases y:a=i.toNat/\c=j.toNat
  ·have:[(a:Int),(c:Int)]=[i,j]:=by rw [y.1,y.2,Int.toNat_of_nonneg i0,Int.toNat_of_nonneg j0]
   rw [if_pos y,if_pos this,this]
   omega
  ·rw [if_neg y,if_neg fun y'=>y ?_,Int.add_zero]
   injection y' with y1 y2
   injection y2 with y2 _
   omega,pT,tW (by omega) (by omega)]
 rfl
set_option maxHeartbeats 4000000
structure Tg (Nn:Nat) (c:List (List Int×Int)):Prop where
 nd:(c.map (·.1)).Nodup
 sm:∀ p∈c,∃ i j:Int,p.1=[i,j]/\0<=i/\0<=j/\i+j<=Nn
theorem Tg.ci {Nn:Nat} {c:List (List Int×Int)} (h:Tg Nn c):Ci (Nn:Int) c:=⟨h.nd,fun p hp=>by
 obtain⟨i,j,e,i0,j0,ij⟩:=h.sm p hp
 exact⟨i,j,e,i0,j0,by omega,by omega⟩⟩
theorem Tg.put {Nn:Nat} {c:List (List Int×Int)} (h:Tg Nn c) {i j x:Int} (i0:0<=i) (j0:0<=j) (ij:i+j<=Nn):∃ c',iw (aX c) [i,j] (D.int x)=aX c'/\Tg Nn c'/\∀ k,gI c' k=if k=[i,j] then x else gI c k:=by
 obtain⟨c',e,nd,hl,mm,m1,m2⟩:=rJ (f:=D.int) (l:=c) (k:=[i,j]) (x:=x)
 have nd':=nd h.nd
 refine⟨c',e,⟨nd',fun p hp=>?_⟩,fun k=>?_⟩
 ·rcases mm p hp with q | rfl
  ·exact h.sm p q
  ·exact⟨i,j,rfl,i0,j0,ij⟩
 ·by_cases ek:k=[i,j]
  ·rw [if_pos ek,ek]
   exact cZ nd' m1
  ·rw [if_neg ek]
   rcases d_ (z:=(0:Int)) k h.nd with q | q
   ·rw [show gI c k=0 from aK q]
    refine aK fun z=>?_
    obtain⟨p,hp,rfl⟩:=List.mem_map.mp z
    rcases mm p hp with y | y
    ·exact q (List.mem_map.mpr ⟨p,y,rfl⟩)
    ·exact ek (by rw [y])
   ·exact cZ nd' (m2 _ q ek)
theorem AF {X Y:Int}:∀ {l l':List (List Int×Int)},vl (l++l') X Y=vl l X Y+vl l' X Y
 | [],l'=>by show vl l' X Y=0+vl l' X Y; omega
 | p::l,l'=>by
  show p.2*mn p.1 X Y+vl (l++l') X Y=p.2*mn p.1 X Y+vl l X Y+vl l' X Y
  rw [AF]
  omega
def yV (i:Int) (p:List Int×Int):Bool:=decide (p.1.head?=some i) && decide (p.2≠0)
def j9 (i:Int) (l:List (List Int×Int)):List (List Int):=(l.filter (yV i)).map (·.1)
theorem oZ {S:DH} {p f:Addr} {c:List (List Int×Int)} {e1:Nat} {k:DK} {i:Int} (hp:S p=none) (hf:S f=some (bN (aX c) e1)) (nd:(c.map (·.1)).Nodup) (two:∀ p∈c,∃ i j,p.1=[i,j]) (kk:∀ S2,aN S S2->S2 p=some (.lst ((j9 i c).map cL))->k (.ref p) S2):
  ∀ (ao don:List (List Int×Int)) (l0:Option D) (S1:DH),c=don++ao->aN S S1->S1 p=some (.lst ((j9 i don).map cL))->c.length<=100->
   cw (fun S=>S f=some (bN (aX c) e1)) p (iR 0) (zn (zQ (pH (kB JZ (kB kg (cP 0) (dC (D.int 0))) (cP 1))) (pH (kB JS (E7 (cP 2) (cP 0)) (dC (D.int 0))))) (cP 0)) k (ao.map fun x=>cL x.1) ((j9 i don).map cL) [l0,some (.int i),some (.ref f)] S1
 | [],don,l0,S1,ec,x1,h1,_=>by
  rw [List.append_nil] at ec
  subst ec
  exact⟨x1 _ _ hf,kk S1 x1 h1⟩
 | q::ao,don,l0,S1,ec,x1,h1,hl=>by
  have f1:=x1 _ _ hf
  have hd:don.length < 100:=by have:=congrArg List.length ec; rw [List.length_append,List.length_cons] at this; omega
  have hd2:(j9 i don).length<=don.length:=by unfold j9; rw [List.length_map]; exact List.length_filter_le _ _
  have ec':c=(don++[q])++ao:=by rw [ec]; simp
  have hq:q∈c:=by rw [ec]; simp
  obtain⟨i',j,e⟩:=two q hq
  rw [List.map_cons,e]
  refine⟨f1,lJ (fun t1=>?_) (fun t1=>AI ?_)⟩
  ·have hi:i'=i:=by simpa using t1
   refine⟨_,_,q.1,_,f1,by rw [e],hG nd hq,s9 (fun h0=>⟨h1,by rw [List.length_map]; exact lim (by omega),?_⟩) (fun h0=>?_)⟩
   ·have ea:(j9 i don).map cL++[cL [i',j]]=(j9 i (don++[q])).map cL:=by simp [j9,yV,List.filter_append,e,hi,h0]
    rw [ea]
    exact oZ hp hf nd two kk ao (don++[q]) _ _ ec' (x1.put hp) ak hl
   ·have ea:j9 i don=j9 i (don++[q]):=by simp [j9,yV,List.filter_append,h0]
    rw [ea] at h1 ⊢
    exact oZ hp hf nd two kk ao (don++[q]) _ _ ec' x1 h1 hl
  ·have hi:i'≠i:=by simpa using t1
   have ea:j9 i don=j9 i (don++[q]):=by simp [j9,yV,List.filter_append,e,hi]
   rw [ea] at h1 ⊢
   exact oZ hp hf nd two kk ao (don++[q]) _ _ ec' x1 h1 hl
theorem xI {S:DH} {p f:Addr} {c:List (List Int×Int)} {e1:Nat} {k:DK} (hp:S p=none) (hf:S f=some (bN (aX c) e1)) (kk:∀ S2,aN S S2->S2 p=some (.lst ((c.map fun x=>!decide (x.2=0)).map D.bl))->k (.ref p) S2):
  ∀ (ao don:List (List Int×Int)) (l0:Option D) (S1:DH),c=don++ao->aN S S1->S1 p=some (.lst ((don.map fun x=>!decide (x.2=0)).map D.bl))->c.length<=100->
   cw (fun S=>S f=some (bN (aX c) e1)) p (iR 0) (gL (kB JS (cP 0) (dC (D.int 0)))) k (ao.map fun x=>D.int x.2) ((don.map fun x=>!decide (x.2=0)).map D.bl) [l0] S1
 | [],don,l0,S1,ec,x1,h1,_=>by
  rw [List.append_nil] at ec
  subst ec
  exact⟨x1 _ _ hf,kk S1 x1 h1⟩
 | q::ao,don,l0,S1,ec,x1,h1,hl=>by
  have f1:=x1 _ _ hf
  have hd:don.length < 100:=by have:=congrArg List.length ec; rw [List.length_append,List.length_cons] at this; omega
  have ec':c=(don++[q])++ao:=by rw [ec]; simp
  have ea:(don.map fun x=>!decide (x.2=0)).map D.bl++[D.bl (!decide (q.2=0))]=((don++[q]).map fun x=>!decide (x.2=0)).map D.bl:=by simp
  rw [List.map_cons]
  refine⟨f1,h1,by rw [List.length_map,List.length_map]; exact lim (by omega),?_⟩
  show cw _ _ _ _ _ _ ((don.map fun x=>!decide (x.2=0)).map D.bl++[D.bl (!decide (q.2=0))]) _ (put S1 p (.lst ((don.map fun x=>!decide (x.2=0)).map D.bl++[D.bl (!decide (q.2=0))])))
  rw [ea]
  exact xI hp hf kk ao (don++[q]) _ _ ec' (x1.put hp) ak hl
structure Rw (t:List (List Int×Int)) (Nn:Nat) (i:Int) (ks:List (List Int)) (told ao:List (List Int×Int)):Prop where
 tr:Tg Nn ao
 tt:Tg (Nn - 2) told
 tn:∀ p∈told,p.2≠0
 v:∀ X Y,vl t X Y=vl told X Y*(X*X+Y*Y)+vl ao X Y
 up:∀ a j,gI ao [a,j]≠0->a < i\/(a=i/\[a,j]∈ks)
 kn:ks.Nodup
 kx:∀ k∈ks,∃ j,k=[i,j]/\gI ao k≠0
 tk:∀ p∈told,∃ a j,p.1=[a,j]/\i<=a+2/\(a+2=i->[i,j]∉ks)
theorem Rw.row {t told ao:List (List Int×Int)} {Nn:Nat} {i:Int} (h:Rw t Nn (i+1) [] told ao):Rw t Nn i (j9 i ao) told ao where
 tr:=h.tr
 tt:=h.tt
 tn:=h.tn
 v:=h.v
 up:=fun a j n=>by
  rcases h.up a j n with z | z
  ·by_cases e:a=i
   ·refine .inr ⟨e,?_⟩
    rcases d_ (z:=(0:Int)) [a,j] h.tr.nd with q | q
    ·exact absurd (aK q) n
    ·refine List.mem_map.mpr ⟨_,List.mem_filter.mpr ⟨q,?_⟩,rfl⟩
     have n':¬ gA 0 ao [a,j]=0:=n
     simp [yV,e] at n' ⊢
     exact n'
   ·exact .inl (by omega)
  ·cases z.2
 kn:=pE h.tr.nd
 kx:=fun k hk=>by
  obtain⟨p,hp,rfl⟩:=List.mem_map.mp hk
  obtain⟨hp,hb⟩:=List.mem_filter.mp hp
  obtain⟨a,j,e,_⟩:=h.tr.sm p hp
  have hb:p.1.head?=some i/\p.2≠0:=by simpa [yV] using hb
  rw [e] at hb
  have:a=i:=by simpa using hb.1
  refine⟨j,by rw [e,this],?_⟩
  rw [show gI ao p.1=p.2 from cZ h.tr.nd hp]
  exact hb.2
 tk:=fun p hp=>by
  obtain⟨a,j,e,z,_⟩:=h.tk p hp
  exact⟨a,j,e,by omega,fun y=>by omega⟩
theorem Rw.step {t told ao:List (List Int×Int)} {Nn:Nat} {i j:Int} {ks:List (List Int)} (h:Rw t Nn i ([i,j]::ks) told ao) (i2:2<=i):[i - 2,j]∉told.map (·.1)/\∃ r1 r2,iw (aX ao) [i - 2,j+2] (.int (gI ao [i - 2,j+2] - gI ao [i,j]))=aX r1/\iw (aX r1) [i,j] (.int 0)=aX r2/\Tg Nn r1/\gI r1 [i,j]=gI ao [i,j]/\([i,j],gI ao [i,j])∈ao/\Rw t Nn i ks (told++[([i - 2,j],gI ao [i,j])]) r2:=by
 obtain⟨j',ej,n0⟩:=h.kx [i,j] List.mem_cons_self
 have hm:([i,j],gI ao [i,j])∈ao:=by
  rcases d_ (z:=(0:Int)) [i,j] h.tr.nd with q | q
  ·exact absurd (aK q) n0
  ·exact q
 obtain⟨i',j',e,i0,j0,ij⟩:=h.tr.sm _ hm
 injection e with e1 e2
 injection e2 with e2 _
 subst e1 e2
 have nk:[i - 2,j]∉told.map (·.1):=fun z=>by
  obtain⟨p,hp,ep⟩:=List.mem_map.mp z
  obtain⟨a,b,e,_,y⟩:=h.tk p hp
  rw [e] at ep
  injection ep with e1 e2
  injection e2 with e2 _
  subst e1 e2
  exact y (by omega) List.mem_cons_self
 obtain⟨r1,p1,g1,f1⟩:=h.tr.put (i:=i - 2) (j:=j+2) (x:=gI ao [i - 2,j+2] - gI ao [i,j]) (by omega) (by omega) (by omega)
 obtain⟨r2,p2,g2,f2⟩:=g1.put (i:=i) (j:=j) (x:=0) (by omega) (by omega) (by omega)
 have nl:([i,j]:List Int)≠[i - 2,j+2]:=fun z=>by
  injection z with z _
  omega
 have e1:gI r1 [i,j]=gI ao [i,j]:=by rw [f1,if_neg nl]
 have nd:=List.nodup_cons.mp h.kn
 refine⟨nk,r1,r2,p1,p2,g1,e1,hm,⟨g2,⟨?_,fun p hp=>?_⟩,fun p hp=>?_,fun X Y=>?_,fun a b n=>?_,nd.2,fun k hk=>?_,fun p hp=>?_⟩⟩
 ·rw [List.map_append,List.nodup_append]
  refine⟨h.tt.nd,by simp,fun a ha b hb=>?_⟩
  have:b=[i - 2,j]:=by simpa using hb
  rw [this]
  exact fun z=>nk (z▸ha)
 ·rcases List.mem_append.mp hp with m | m
  ·exact h.tt.sm p m
  ·have:p=([i - 2,j],gI ao [i,j]):=by simpa using m
   rw [this]
   exact⟨i - 2,j,rfl,by omega,j0,by omega⟩
 ·rcases List.mem_append.mp hp with m | m
  ·exact h.tn p m
  ·have:p=([i - 2,j],gI ao [i,j]):=by simpa using m
   rw [this]
   exact n0
 ·rw [h.v X Y,AF,Ay g1.ci g2.ci (by omega) (by omega) (by omega) (by omega) f2,Ay h.tr.ci g1.ci (by omega) (by omega) (by omega) (by omega) f1,e1]
  have q1:mn [i,j] X Y=X*X*mn [i - 2,j] X Y:=by
   show X ^ i.toNat*Y ^ j.toNat=X*X*(X ^ (i - 2).toNat*Y ^ j.toNat)
   rw [show i.toNat=(i - 2).toNat+2 by omega,Int.pow_add]
   grind
  have q2:mn [i - 2,j+2] X Y=Y*Y*mn [i - 2,j] X Y:=by
   show X ^ (i - 2).toNat*Y ^ (j+2).toNat=Y*Y*(X ^ (i - 2).toNat*Y ^ j.toNat)
   rw [show (j+2).toNat=j.toNat+2 by omega,Int.pow_add]
   grind
  show _=(vl told X Y+(gI ao [i,j]*mn [i - 2,j] X Y+0))*_+_
  rw [q1,q2]
  generalize mn [i - 2,j] X Y=M
  generalize gI ao [i,j]=x
  generalize gI ao [i - 2,j+2]=y
  grind
 ·rw [f2] at n
  by_cases e:[a,b]=[i,j]
  ·rw [if_pos e] at n
   exact absurd rfl n
  ·rw [if_neg e,f1] at n
   by_cases e':[a,b]=[i - 2,j+2]
   ·injection e' with e' _
    exact .inl (by omega)
   ·rw [if_neg e'] at n
    rcases h.up a b n with z | ⟨z,m⟩
    ·exact .inl z
    ·rcases List.mem_cons.mp m with y | y
     ·exact absurd y e
     ·exact .inr ⟨z,y⟩
 ·obtain⟨b,ek,n⟩:=h.kx k (List.mem_cons_of_mem _ hk)
  refine⟨b,ek,?_⟩
  rw [f2,if_neg (show ¬ k=[i,j] from fun z=>nd.1 (z▸hk)),f1,if_neg (show ¬ k=[i - 2,j+2] from fun z=>by rw [ek] at z; injection z with z _; omega)]
  exact n
 ·rcases List.mem_append.mp hp with m | m
  ·obtain⟨a,b,e,z,y⟩:=h.tk p m
   exact⟨a,b,e,z,fun y' m'=>y y' (List.mem_cons_of_mem _ m')⟩
  ·have:p=([i - 2,j],gI ao [i,j]):=by simpa using m
   rw [this]
   exact⟨i - 2,j,rfl,by omega,fun _=>nd.1⟩
theorem FH {t:List (List Int×Int)} (h:∀ p∈t,p.2=0) (X Y:Int):vl t X Y=0:=by
 induction t with
 | nil=>rfl
 | cons p l ih=>
  show p.2*mn p.1 X Y+vl l X Y=0
  rw [h p List.mem_cons_self,ih fun q hq=>h q (List.mem_cons_of_mem _ hq)]
  omega
theorem Rw.none {t told ao:List (List Int×Int)} {Nn:Nat} {i:Int} (h:Rw t Nn i [] told ao) (i2:i<=2) {p:List Int×Int} (hp:p∈ao) (p0:p.2≠0):¬ ∃ f:Int->Int->Int,∀ X Y,1<=X->vl t X Y=f X Y*(X*X+Y*Y):=by
 rintro⟨f,hf⟩
 obtain⟨A,B,e⟩:=EN (r:=ao) fun q hq n=>by
  obtain⟨a,b,eq,a0,_⟩:=h.tr.sm q hq
  have:gI ao [a,b]≠0:=by rw [<- eq,show gI ao q.1=q.2 from cZ h.tr.nd hq]; exact n
  rcases h.up a b this with z | z
  ·have:a=0\/a=1:=by omega
   rcases this with rfl | rfl
   ·exact⟨b,.inl eq⟩
   ·exact⟨b,.inr eq⟩
  ·cases z.2
 have z:∀ Y,A Y=0/\B Y=0:=fun Y=>vw (Y:=Y) (h:=fun X=>f X Y - vl told X Y) fun X hX=>by
  have h1:=h.v X Y
  rw [hf X Y hX,e X Y] at h1
  rw [Int.sub_mul]
  omega
 have:=v6 h.tr.ci (Ci.nil (b:=(Nn:Int))) (fun X Y _=>by rw [e,(z Y).1,(z Y).2]; show 0+X*0=0; omega) p.1
 rw [show gI ao p.1=p.2 from cZ h.tr.nd hp] at this
 exact p0 this
theorem ym {m:Int}:lI m 1=(List.range' 0 (m - 1).toNat).map fun k:Nat=>D.int (m - (k:Int)):=by
 unfold lI
 rw [List.range_eq_range']
def jF:b_:=fun ds S k=>∃ (a:Addr) (t:List (List Int×Int)) (e Nn:Nat),ds=[.ref a]/\S a=some (bN (aX t) e)/\Tg Nn t/\Nn<=4/\t≠[]/\(∀ S' p ep g,aN S S'->S p=none->Tg (Nn - 2) g->(∀ p∈g,p.2≠0)->(∀ X Y,vl t X Y=vl g X Y*(X*X+Y*Y))->S' p=some (bN (aX g) ep)->k (.ref p) S')/\∀ S',aN S S'->(¬ ∃ h:Int->Int->Int,∀ X Y,1<=X->vl t X Y=h X Y*(X*X+Y*Y))->k .non S'
theorem cN:ar ["tops","rest","told","i","keys","key","lower"] ["tops"] (ap ju):=dN
theorem rp (Fn:cT K "over_round" "over_round" ju f fd) (cc:aQ P w K mg base "degree_of" 1 fi) (nW:mg "dict"=none) (br:mg "range"=none) (BM:mg "any"=none):
  aH P w K mg base cQ 2 f fd ["tops"] (cY K jF):=by
 refine Fn.okJ cN (fun ds S k h=>?_) (fun cdv A outer s H E hr=>⟨_,(af (ag (i:=1) cN.nd (m8 (Af hr) rfl nW xh (aa (ac 0) ae))) (af (ag (i:=2) cN.nd fT) (af (mo PassesOwn.never rfl rfl br (aa (dq cc hr (aa (ac 0) ae)) (aa ad (aa (fv fg ad) ae))) (aw (i:=3) cN.nd) (af (qL (iv:=4) cN.nd rfl (jz (N:=["key","i","rest"]) (cap:=[none,some 3,some 1]) rfl rfl rfl rfl ⟨rfl,rfl,trivial⟩ rfl rfl ⟨⟨rfl,.inl rfl,.inl rfl⟩,⟨rfl,.inl rfl,.inl rfl⟩,trivial⟩) (nC (ac 1)) (fun _ _ _ _=>(aw (i:=0) (show List.Nodup (["key","i","rest"]:List Str) from by decide +kernel))) (fun _ _ _ _=>(WJ.pt (tN (ax gE (ai aj (ac 0) ad (fun _ _=>rfl)) (ac 1) (ay _)) (po (ax yl (oW hr (ac 2) (ac 0) (fun _ _=>rfl)) ad (ay _)))))) (fun _ _ _ _=>(ac 0))) (ah (eS PassesOwn.never rfl (ac 4) (aw (i:=5) cN.nd) (af (ag (i:=6) cN.nd (aq (aa (au j6 (ac 3) ad) (aa (au cB (ai aj (ac 5) ad (fun _ _=>rfl)) ad) ae)))) (af (cS (oW hr (ac 1) (ac 5) (fun _ _=>rfl)) (fX hr (ac 2) (aq (aa (au j6 (ac 3) ad) (aa (ai aj (ac 5) ad (fun _ _=>rfl)) ae))))) (af (cS (au j6 (fZ hr (ac 1) (ac 6) ad) (oW hr (ac 1) (ac 5) (fun _ _=>rfl))) (fX hr (ac 1) (ac 6))) (ah (cS ad (fX hr (ac 1) (ac 5))))))))))) (ah (am (lM (lh (cU Fx rfl BM Fz (aa (ld rfl (jz (N:=["top"]) (cap:=[none]) rfl rfl rfl rfl trivial rfl rfl trivial) (xz (ac 1)) (fun _ _ _ _=>(aw (i:=0) (show List.Nodup (["top"]:List Str) from by decide +kernel))) (fun _ _ _ _=>(kK yl (ac 0) ad (ay _)))) ae))) eo (ac 2))))))),fun ds S k h=>?_⟩)
 ·obtain⟨_,_,_,_,rfl,_⟩:=h
  rfl
 ·obtain⟨a,t,e,Nn,rfl,ha,ht,d4,t0,w,w0⟩:=h
  have len:∀ {c:List (List Int×Int)},Tg Nn c->c.length<=25:=fun h=>Nat.le_trans (Ci.len h.ci) (Nat.mul_le_mul (show Nn+1<=5 by omega) (show Nn+1<=5 by omega))
  have len2:∀ {c:List (List Int×Int)},Tg (Nn - 2) c->c.length<=25:=fun h=>Nat.le_trans (Ci.len h.ci) (Nat.mul_le_mul (show Nn - 2+1<=5 by omega) (show Nn - 2+1<=5 by omega))
  have lt:=len ht
  refine .inl ⟨_,_,ha,(ht.ci.up (by omega)).hash,fun p1 hp1 e1=>fun p2 hp2 e2=>?_⟩
  have n21:p2≠p1:=fun z=>by rw [z,ak] at hp2; cases hp2
  have hp2':S p2=none:=by rw [bo n21] at hp2; exact hp2
  have X2:aN S (put (put S p1 (bN (aX t) e1)) p2 (bN (aX []) e2)):=(aN.new hp1).trans (aN.new hp2)
  refine⟨a,t,e,rfl,X2 _ _ ha,by omega,fun p hp=>?_,fun z=>(t0 z).elim,fun S1 m x1 hd=>?_⟩
  ·obtain⟨i,j,e,i0,j0,ij⟩:=ht.sm p hp
   exact⟨i,j,e,i0,j0,by omega,by omega⟩
  have mb:0<=m/\m<=4:=by
   obtain⟨⟨p,hp,ep⟩,_⟩:=hd
   obtain⟨i,j,e,i0,j0,ij⟩:=ht.sm p hp
   rw [e] at ep
   have ep:i+j=m:=ep
   omega
  have R0:Rw t Nn (m+1) [] [] t:=⟨ht,⟨List.nodup_nil,fun p h=>(nomatch h)⟩,fun p h=>(nomatch h),fun X Y=>by show _=0*_+_; omega,fun a j n=>by
   rcases d_ (z:=(0:Int)) [a,j] ht.nd with q | q
   ·exact absurd (aK q) n
   ·obtain⟨i',j',e',i0,j0,ij⟩:=ht.sm _ q
    have:=hd.2 _ q
    have this:a+j<=m:=this
    injection e' with e1 e2
    injection e2 with e2 _
    exact .inl (by omega),List.nodup_nil,fun k h=>(nomatch h),fun p h=>(nomatch h)⟩
  refine⟨rfl,⟨by omega,by omega,by decide,by decide⟩,?_⟩
  rw [ym]
  have h11:S1 p1=some (bN (aX t) e1):=x1 _ _ (by rw [bo (Ne.symm n21)]; exact ak)
  have h12:S1 p2=some (bN (aX []) e2):=x1 _ _ ak
  refine bh (fun r L S'=>aN S S'/\∃ (s:Nat) (told ao:List (List Int×Int)) (e3 e4:Nat) (l3 l4 l5 l6:Option D),s<=(m - 1).toNat/\r=(List.range' s ((m - 1).toNat - s)).map (fun k:Nat=>D.int (m - (k:Int)))/\L=[some (.ref a),some (.ref p1),some (.ref p2),l3,l4,l5,l6]/\S' p1=some (bN (aX ao) e3)/\S' p2=some (bN (aX told) e4)/\Rw t Nn (m - s+1) [] told ao) (fun _ _ _ _=>trivial) ?_ ?_ _ _ _ ⟨X2.trans x1,0,[],t,e1,e2,none,none,none,none,Nat.zero_le _,rfl,rfl,h11,h12,by rw [show m - ((0:Nat):Int)+1=m+1 by omega]; exact R0⟩
  ·rintro dd r L S3 N1 ⟨x3,s,told,ao,e3,e4,l3,l4,l5,l6,hs,er,rfl,h31,h32,hR⟩ hN
   cases hds:(m - 1).toNat - s with
   | zero=>rw [hds] at er; cases er
   | succ s'=>
    rw [hds,List.range'_succ,List.map_cons] at er
    cases er
    refine⟨_,_,h31,fun p4 hp4=>?_⟩
    rw [ES]
    refine oZ (S:=S3) (i:=m - (s:Int)) hp4 h31 hR.tr.nd (fun p hp=>by obtain⟨i,j,e,_⟩:=hR.tr.sm p hp; exact⟨i,j,e⟩) (fun S4 x4 h4=>?_) ao [] none _ rfl (aN.new hp4) ak (by have:=len hR.tr; omega)
    have n41:p4≠p1:=fun z=>by rw [z,h31] at hp4; cases hp4
    have n42:p4≠p2:=fun z=>by rw [z,h32] at hp4; cases hp4
    refine⟨((j9 (m - (s:Int)) ao).map cL,some p4),by show(match S4 p4 with | some (.lst ds)=>some (ds,some p4) | _=>none)=_; rw [h4],?_⟩
    refine bh (fun r L S'=>aN S S'/\∃ (ks:List (List Int)) (told rest':List (List Int×Int)) (e3 e4:Nat) (l5 l6:Option D),r=ks.map cL/\L=[some (.ref a),some (.ref p1),some (.ref p2),some (.int (m - (s:Int))),some (.ref p4),l5,l6]/\S' p4=some (.lst ((j9 (m - (s:Int)) ao).map cL))/\S' p1=some (bN (aX rest') e3)/\S' p2=some (bN (aX told) e4)/\Rw t Nn (m - s) ks told rest') (fun r L S' h=>?_) ?_ ?_ _ _ _ ⟨x3.trans x4,j9 (m - (s:Int)) ao,told,ao,e3,e4,l5,l6,rfl,rfl,h4,x4 _ _ h31,x4 _ _ h32,Rw.row hR⟩
    ·obtain⟨_,_,_,_,_,_,_,_,_,_,h,_⟩:=h
     exact h
    ·rintro dd r L S5 N2 ⟨x5,ks,told5,rest5,e5,e6,l5,l6,er,rfl,h54,h51,h52,hR5⟩ hN2
     cases ks with
     | nil=>cases er
     | cons kq ks=>
      cases er
      obtain⟨j,ek,_⟩:=hR5.kx kq List.mem_cons_self
      subst ek
      obtain⟨nk,r1,r2,q1,q2,g1,ge,hm,hR6⟩:=hR5.step (by omega)
      have l5':=len hR5.tr
      have l6':=len2 hR5.tt
      have l7':=len g1
      have G:∀ k,(df (aX rest5) k).getD (D.int 0)=D.int (gI rest5 k):=fun k=>lw (f:=D.int) (z:=0)
      refine⟨few,_,_,[m - (s:Int),j],_,h51,rfl,hG hR5.tr.nd hm,few,_,_,[m - (s:Int) - 2,j],h52,rfl,by rw [eI]; exact lim (by omega),fun e7=>?_⟩
      have h61:put S5 p2 (bN (iw (aX told5) [m - (s:Int) - 2,j] (D.int (gI rest5 [m - (s:Int),j]))) e7) p1=some (bN (aX rest5) e5):=by rw [bo (Ne.symm n21)]; exact h51
      refine⟨⟨_,_,h61⟩,_,_,[m - (s:Int) - 2,j+2],h61,rfl,?_⟩
      rw [G]
      refine⟨_,_,[m - (s:Int),j],_,h61,rfl,hG hR5.tr.nd hm,?_⟩
      refine⟨_,_,[m - (s:Int) - 2,j+2],h61,rfl,by rw [eI]; exact lim (by omega),fun e8=>?_⟩
      refine⟨_,_,[m - (s:Int),j],ak,rfl,?_,fun e9=>?_⟩
      ·show(iw (aX rest5) _ _).length < _
       rw [q1,eI]
       exact lim (by omega)
      refine hN2 _ _ ⟨((x5.put hp2').put hp1).put hp1,ks,told5++[([m - (s:Int) - 2,j],gI rest5 [m - (s:Int),j])],r2,e9,e7,_,_,rfl,rfl,by rw [bo n41,bo n41,bo n42]; exact h54,?_,?_,hR6⟩
      ·rw [ak]
       show some (bN (iw (iw (aX rest5) _ _) _ _) e9)=_
       rw [q1,q2]
      ·rw [bo n21,bo n21,ak]
       have z:=gx (f:=D.int) (x:=gI rest5 [m - (s:Int),j]) nk
       rw [z]
    ·rintro L S5 ⟨x5,ks,told5,rest5,e5,e6,l5,l6,er,rfl,h54,h51,h52,hR5⟩
     cases ks with
     | cons kq ks=>cases er
     | nil=>exact hN _ _ ⟨x5,s+1,told5,rest5,e5,e6,_,_,_,_,by omega,by rw [show (m - 1).toNat - (s+1)=s' by omega],rfl,h51,h52,by rw [show m - ((s+1:Nat):Int)+1=m - (s:Int) by omega]; exact hR5⟩
  ·rintro L S3 ⟨x3,s,told,ao,e3,e4,l3,l4,l5,l6,hs,er,rfl,h31,h32,hR⟩
   cases hds:(m - 1).toNat - s with
   | succ s'=>rw [hds,List.range'_succ] at er; cases er
   | zero=>
    have i2:m - (s:Int)+1<=2:=by omega
    refine⟨_,_,h31,fun p8 hp8=>?_⟩
    rw [show uq qB.v (aX ao)=ao.map fun x=>D.int x.2 by show List.map _ (List.map _ ao)=_; rw [List.map_map]; rfl]
    refine xI (S:=S3) hp8 h31 (fun S4 x4 h4=>?_) ao [] none _ rfl (aN.new hp8) ak (by have:=len hR.tr; omega)
    refine⟨(_,some p8),ao.map fun x=>!decide (x.2=0),by show(match S4 p8 with | some (.lst ds)=>some (ds,some p8) | _=>none)=_; rw [h4],rfl,lJ (fun t1=>?_) (fun t1=>?_)⟩
    ·rw [List.any_map] at t1
     obtain⟨p,hp,pb⟩:=List.any_eq_true.mp t1
     exact w0 S4 (x3.trans x4) (hR.none i2 hp (by simpa using pb))
    ·refine w S4 p2 e4 told (x3.trans x4) hp2' hR.tt hR.tn (fun X Y=>?_) (x4 _ _ h32)
     rw [hR.v X Y,FH (t:=ao) fun p hp=>?_,Int.add_zero]
     rw [List.any_map] at t1
     have:=List.any_eq_false.mp t1 p hp
     simpa using this
theorem CP {A B C E:Int} (h:∀ X Y:Int,1<=X->A*(X*X+Y*Y)+B*X+C*Y+E=0):A=0/\B=0/\C=0/\E=0:=by
 have h1:=h 1 0 (by decide)
 have h2:=h 2 0 (by decide)
 have h3:=h 3 0 (by decide)
 have h4:=h 1 1 (by decide)
 refine⟨?_,?_,?_,?_⟩ <;> omega
theorem zX {X Y:Int} (hX:1<=X):X*X+Y*Y≠0:=by
 have h1:0 < X*X:=Int.mul_pos (by omega) (by omega)
 have h2:0<=Y*Y:=by rw [<- Int.natAbs_mul_self (a:=Y)]; exact Int.natCast_nonneg _
 omega
theorem yw {A B C E:Int} {f:Int->Int->Int} (h:∀ X Y,1<=X->A*(X*X+Y*Y)+B*X+C*Y+E=f X Y*(X*X+Y*Y)):B=0/\C=0/\E=0:=by
 have z:∀ Y,C*Y+E=0/\B=0:=fun Y=>vw (Y:=Y) (h:=fun X=>f X Y - A) fun X hX=>by
  have:=h X Y hX
  rw [Int.sub_mul,Int.mul_comm X B]
  omega
 have z0:=(z 0).1
 have z1:=(z 1).1
 exact⟨(z 0).2,by omega,by omega⟩
def La (S:DH) (A B C E:Int):Nat->Lo->DH->Prop:=fun m L S'=>aN S S'/\((∃ (q:Addr) (tt:List (List Int×Int)) (e r:Nat) (l0:Option D),m=r+1/\L=[l0,some (.ref q)]/\S' q=some (bN (aX tt) e)/\Tg (2+2*r) tt/\r<=1/\(∀ p∈tt,p.2≠0)/\∀ X Y,1<=X->vl tt X Y=(A*(X*X+Y*Y)+B*X+C*Y+E)*(X*X+Y*Y) ^ r)\/(∃ (q:Addr) (g:List (List Int×Int)) (e:Nat),m=0/\L=[some (.ref q),some .non]/\S' q=some (bN (aX g) e)/\GC g A B C E))
def fF:b_:=fun ds S k=>∃ (a:Addr) (t:List (List Int×Int)) (e:Nat) (A B C E:Int) (r:Nat) (z:Nat),ds=[.ref a]/\S a=some (bN (aX t) e)/\Tg (2+2*r) t/\r<=1/\(∀ p∈t,p.2≠0)/\(∀ X Y,1<=X->vl t X Y=(A*(X*X+Y*Y)+B*X+C*Y+E)*(X*X+Y*Y) ^ r)/\0 < mZ A B C E/\∀ S' p ep g,aN S S'->GC g A B C E->S' p=some (bN (aX g) ep)->k (.ref p) S'
theorem dw:ar ["tops","rest"] ["tops"] (ap fL):=dN
theorem nE (Fn:cT K "without_rounds" "without_rounds" fL f fd) (jU:aQ P w K mg base "over_round" 2 jF):
  aH P w K mg base cQ 3 f fd ["tops"] (cY K fF):=by
 refine Fn.okJ dw (fun ds S k h=>?_) (fun cdv A outer s H E hr=>⟨_,(af (ag (i:=1) dw.nd (ac 0)) (af (ir PassesOwn.never (ax xK (ac 1) eo (ay _)) (af (ag (i:=0) dw.nd (ac 1)) (ah (ag (i:=1) dw.nd (dq jU hr (aa (ac 0) ae)))))) (ah (am (ac 0))))),fun ds S k h=>?_⟩)
 ·obtain⟨_,_,_,_,_,_,_,_,_,rfl,_⟩:=h
  rfl
 ·obtain⟨a,t,e,A,B,C,E',r,z,rfl,ha,ht,r1,nz,v,ds,w⟩:=h
  refine⟨La S A B C E',⟨r+1,aN.refl _,.inl ⟨a,t,e,r,_,rfl,rfl,ha,ht,r1,nz,v⟩⟩,?_⟩
  rintro m L S' ⟨x,⟨q,tt,e,r,l0,rfl,rfl,hq,htt,r1,nz,v⟩ | ⟨q,g,e,rfl,rfl,hq,hg⟩⟩
  ·refine⟨fun L' S''=>∃ m',m' < r+1/\La S A B C E' m' L' S'',fun _ _ z=>z,?_⟩
   refine⟨q,tt,e,2+2*r,rfl,hq,htt,by omega,?_,fun S2 p ep g x2 hp hg nzg vg hpg=>?_,fun S2 x2 nd=>?_⟩
   ·rintro rfl
    have:=CP (A:=A) (B:=B) (C:=C) (E:=E') fun X Y hX=>by
     have h1:(0:Int)=_:=v X Y hX
     rcases Int.mul_eq_zero.mp h1.symm with z | z
     ·exact z
     ·exact absurd z (Int.pow_ne_zero (zX hX))
    obtain⟨rfl,rfl,rfl,rfl⟩:=this
    exact absurd ds (by decide)
   ·have r1':r=0\/r=1:=by omega
    rcases r1' with rfl | rfl
    ·obtain⟨rfl,rfl,rfl⟩:=yw (A:=A) (B:=B) (C:=C) (E:=E') (f:=vl g) fun X Y hX=>by
      rw [<- vg X Y,v X Y hX,Int.pow_zero,Int.mul_one]
     exact absurd ds (by unfold mZ; simp)
    ·refine⟨1,by decide,x.trans x2,.inl ⟨p,g,ep,0,_,rfl,rfl,hpg,hg,by decide,nzg,fun X Y hX=>?_⟩⟩
     have h1:=vg X Y
     rw [v X Y hX,Int.pow_succ,Int.pow_zero,Int.one_mul] at h1
     rw [Int.pow_zero,Int.mul_one]
     exact(Int.eq_of_mul_eq_mul_right (zX hX) h1).symm
   ·have r1':r=0\/r=1:=by omega
    rcases r1' with rfl | rfl
    ·exact⟨0,by decide,x.trans x2,.inr ⟨q,tt,e,rfl,rfl,x2 _ _ hq,htt.ci.up (by decide),fun X Y hX=>by rw [v X Y hX,Int.pow_zero,Int.mul_one],nz⟩⟩
    ·refine(nd ⟨fun X Y=>A*(X*X+Y*Y)+B*X+C*Y+E',fun X Y hX=>?_⟩).elim
     rw [v X Y hX,Int.pow_succ,Int.pow_zero,Int.one_mul]
  ·exact w S' q e g x hg hq
theorem zR {b:Int} {t ex:List (List Int×Int)} (ht:Ci b t) (hx:Ci b ex) (v:∀ X Y,1<=X->vl t X Y=vl ex X Y) (nz:∀ p∈t,p.2≠0):∀ p∈t,p∈ex:=fun p hp=>by
 have e:gI t p.1=p.2:=cZ ht.nd hp
 rw [v6 ht hx v] at e
 rcases d_ (z:=(0:Int)) p.1 hx.nd with q | q
 ·exact absurd (e.symm.trans (aK q)) (nz p hp)
 ·rw [show gA 0 ex p.1=p.2 from e] at q
  exact q
theorem uI {b:Int} {t t':List (List Int×Int)} (h:Ci b t) (h':Ci b t') (e:∀ k,gI t k=gI t' k) (X Y:Int):vl t X Y=vl t' X Y:=by
 have hn:b < ((b.toNat+1:Nat):Int):=by omega
 rw [jW hn h,jW hn h']
 congr 1
 funext i j
 exact e _
def om (P:Int) (s:Nat) (l:List (List Int×Int)):List (List Int×Int):=(l.filter fun p=>decide (dg p.1=(s:Int))).map fun p=>(p.1,p.2*P ^ s)
theorem k9 {P:Int} {s:Nat} {l:List (List Int×Int)}:(om P s l).map (·.1)=(l.filter fun p=>decide (dg p.1=(s:Int))).map (·.1):=by
 unfold om
 rw [List.map_map]
 rfl
theorem G4 {P:Int} {s:Nat} {l:List (List Int×Int)} (nd:(l.map (·.1)).Nodup) (k:List Int):gI (om P s l) k=if dg k=(s:Int) then gI l k*P ^ s else 0:=by
 have nd':((om P s l).map (·.1)).Nodup:=by rw [k9]; exact pE nd
 by_cases h:dg k=(s:Int)
 ·rw [if_pos h]
  rcases d_ (z:=(0:Int)) k nd with q | q
  ·rw [show gI l k=0 from aK q,Int.zero_mul]
   refine aK fun z=>q ?_
   rw [k9] at z
   obtain⟨p,hp,e⟩:=List.mem_map.mp z
   exact List.mem_map.mpr ⟨p,(List.mem_filter.mp hp).1,e⟩
  ·exact cZ nd' (List.mem_map.mpr ⟨_,List.mem_filter.mpr ⟨q,by simpa using h⟩,rfl⟩)
 ·rw [if_neg h]
  refine aK fun z=>h ?_
  rw [k9] at z
  obtain⟨p,hp,e⟩:=List.mem_map.mp z
  have:=(List.mem_filter.mp hp).2
  rw [e] at this
  simpa using this
theorem Cy {P:Int} {s:Nat} {l:List (List Int×Int)} (h:Ci 2 l):Ci (s:Int) (om P s l):=⟨by rw [k9]; exact pE h.nd,fun p hp=>by
 obtain⟨q,hq,rfl⟩:=List.mem_map.mp hp
 obtain⟨hq,hs⟩:=List.mem_filter.mp hq
 obtain⟨i,j,e,i0,j0,i1,j1⟩:=h.sm q hq
 rw [e] at hs
 have hs:i+j=(s:Int):=of_decide_eq_true hs
 exact⟨i,j,e,i0,j0,by omega,by omega⟩⟩
theorem uw {P:Int} {s:Nat} {l:List (List Int×Int)} {q:List Int×Int}:om P s (l++[q])=if dg q.1=(s:Int) then om P s l++[(q.1,q.2*P ^ s)] else om P s l:=by
 unfold om
 rw [List.filter_append,List.map_append]
 by_cases h:dg q.1=(s:Int) <;> simp [h]
theorem m9 {a b c d:Int} (k:List Int):gI (qK a b c d) k=if k=[2,0] then a else if k=[0,2] then a else if k=[1,0] then b else if k=[0,1] then c else if k=[0,0] then d else 0:=by
 by_cases h1:k=[2,0]
 ·subst h1; rfl
 by_cases h2:k=[0,2]
 ·subst h2; rfl
 by_cases h3:k=[1,0]
 ·subst h3; rfl
 by_cases h4:k=[0,1]
 ·subst h4; rfl
 by_cases h5:k=[0,0]
 ·subst h5; rfl
 rw [if_neg h1,if_neg h2,if_neg h3,if_neg h4,if_neg h5]
 exact aK (by simp [qK,h1,h2,h3,h4,h5])
theorem pO {t:List (List Int×Int)} {A B C E P:Int} (h:GC t A B C E) (s:Nat) (hs:s<=2) (X Y:Int):vl (om P s t) X Y=if s=0 then E else if s=1 then(B*X+C*Y)*P else A*(X*X+Y*Y)*(P*P):=by
 have key:∀ {a b c d:Int},(∀ k,(if dg k=(s:Int) then gI (qK A B C E) k*P ^ s else 0)=gI (qK a b c d) k)->vl (om P s t) X Y=a*(X*X+Y*Y)+b*X+c*Y+d:=fun {a b c d} hk=>by
  rw [<- wO]
  refine uI (b:=2) ((Cy h.ci2).up (by omega)) mE (fun k=>?_) X Y
  rw [G4 h.ci.nd,h.at,hk]
 have cs:s=0\/s=1\/s=2:=by omega
 rcases cs with rfl | rfl | rfl
 ·rw [key (a:=0) (b:=0) (c:=0) (d:=E) fun k=>?_]
  ·rw [if_pos rfl]; omega
  ·rw [m9,m9]
   by_cases h1:k=[2,0]
   ·subst h1; simp [dg]
   by_cases h2:k=[0,2]
   ·subst h2; simp [dg]
   by_cases h3:k=[1,0]
   ·subst h3; simp [dg]
   by_cases h4:k=[0,1]
   ·subst h4; simp [dg]
   by_cases h5:k=[0,0]
   ·subst h5; simp [dg]
   simp [h1,h2,h3,h4,h5]
 ·rw [key (a:=0) (b:=B*P) (c:=C*P) (d:=0) fun k=>?_]
  ·simp; grind
  ·rw [m9,m9,Int.pow_succ,Int.pow_zero,Int.one_mul]
   by_cases h1:k=[2,0]
   ·subst h1; simp [dg]
   by_cases h2:k=[0,2]
   ·subst h2; simp [dg]
   by_cases h3:k=[1,0]
   ·subst h3; simp [dg]
   by_cases h4:k=[0,1]
   ·subst h4; simp [dg]
   by_cases h5:k=[0,0]
   ·subst h5; simp [dg]
   simp [h1,h2,h3,h4,h5]
 ·rw [key (a:=A*(P*P)) (b:=0) (c:=0) (d:=0) fun k=>?_]
  ·simp; grind
  ·rw [m9,m9]
   by_cases h1:k=[2,0]
   ·subst h1; simp [dg]; grind
   by_cases h2:k=[0,2]
   ·subst h2; simp [dg]; grind
   by_cases h3:k=[1,0]
   ·subst h3; simp [dg]
   by_cases h4:k=[0,1]
   ·subst h4; simp [dg]
   by_cases h5:k=[0,0]
   ·subst h5; simp [dg]
   simp [h1,h2,h3,h4,h5]
def J5 (p q r s:Int):List (List Int×Int):=[([4,0],p),([2,2],2*p),([0,4],p),([3,0],q),([1,2],q),([2,1],r),([0,3],r),([2,0],s),([0,2],s)]
theorem IO {p q r s X Y:Int}:vl (J5 p q r s) X Y=(p*(X*X+Y*Y)+q*X+r*Y+s)*(X*X+Y*Y):=by
 show p*(X ^ 4*Y ^ 0)+(2*p*(X ^ 2*Y ^ 2)+(p*(X ^ 0*Y ^ 4)+(q*(X ^ 3*Y ^ 0)+(q*(X ^ 1*Y ^ 2)+(r*(X ^ 2*Y ^ 1)+(r*(X ^ 0*Y ^ 3)+(s*(X ^ 2*Y ^ 0)+(s*(X ^ 0*Y ^ 2)+0))))))))=_
 grind
theorem B' {p q r s:Int}:Tg 4 (J5 p q r s):=⟨by show([[4,0],[2,2],[0,4],[3,0],[1,2],[2,1],[0,3],[2,0],[0,2]]:List (List Int)).Nodup; decide,fun p hp=>by
 simp only [J5,List.mem_cons,List.not_mem_nil,or_false] at hp
 rcases hp with rfl | rfl | rfl | rfl | rfl | rfl | rfl | rfl | rfl
 ·exact⟨4,0,rfl,by decide,by decide,by decide⟩
 ·exact⟨2,2,rfl,by decide,by decide,by decide⟩
 ·exact⟨0,4,rfl,by decide,by decide,by decide⟩
 ·exact⟨3,0,rfl,by decide,by decide,by decide⟩
 ·exact⟨1,2,rfl,by decide,by decide,by decide⟩
 ·exact⟨2,1,rfl,by decide,by decide,by decide⟩
 ·exact⟨0,3,rfl,by decide,by decide,by decide⟩
 ·exact⟨2,0,rfl,by decide,by decide,by decide⟩
 ·exact⟨0,2,rfl,by decide,by decide,by decide⟩⟩
theorem G5 {a b c d:Int}:Tg 2 (qK a b c d):=⟨mE.nd,fun p hp=>by
 simp only [qK,List.mem_cons,List.not_mem_nil,or_false] at hp
 rcases hp with rfl | rfl | rfl | rfl | rfl
 ·exact⟨2,0,rfl,by decide,by decide,by decide⟩
 ·exact⟨0,2,rfl,by decide,by decide,by decide⟩
 ·exact⟨1,0,rfl,by decide,by decide,by decide⟩
 ·exact⟨0,1,rfl,by decide,by decide,by decide⟩
 ·exact⟨0,0,rfl,by decide,by decide,by decide⟩⟩
def tO (t:List (List Int×Int)) (P Q X Y:Int):Nat->Int
 | 0=>0
 | s+1=>tO t P Q X Y s*(Q*(X*X+Y*Y))+vl (om P s t) X Y
abbrev xo (Q:Int):List (List Int×Int):=[([2,0],Q),([0,2],Q)]
theorem wn {Q:Int}:Ci 2 (xo Q):=⟨by show([[2,0],[0,2]]:List (List Int)).Nodup; decide,fun p hp=>by
 simp only [xo,List.mem_cons,List.not_mem_nil,or_false] at hp
 rcases hp with rfl | rfl
 ·exact⟨2,0,rfl,by decide,by decide,by decide,by decide⟩
 ·exact⟨0,2,rfl,by decide,by decide,by decide,by decide⟩⟩
theorem IA {Q X Y:Int}:vl (xo Q) X Y=Q*(X*X+Y*Y):=by
 show Q*(X ^ 2*Y ^ 0)+(Q*(X ^ 0*Y ^ 2)+0)=_
 grind
set_option maxHeartbeats 4000000
theorem wD {t:List (List Int×Int)} {A B C E:Int} (h:GC t A B C E) (ds:0 < mZ A B C E):∃ d:Nat,qM t d/\((A=0/\d=1)\/(A≠0/\d=2)):=by
 by_cases a0:A=0
 ·subst a0
  refine⟨1,h.deg1 ?_,.inl ⟨rfl,rfl⟩⟩
  by_cases b0:B=0
  ·refine .inr fun c0=>?_
   rw [b0,c0] at ds
   unfold mZ at ds
   simp at ds
  ·exact .inl b0
 ·exact⟨2,h.deg2 a0,.inr ⟨a0,rfl⟩⟩
theorem KO {t:List (List Int×Int)} {A B C E P Q X Y:Int} (h:GC t A B C E):tO t P Q X Y 3=(E*(Q*Q)*(X*X+Y*Y)+P*Q*B*X+P*Q*C*Y+A*(P*P))*(X*X+Y*Y):=by
 show((0*(Q*(X*X+Y*Y))+vl (om P 0 t) X Y)*(Q*(X*X+Y*Y))+vl (om P 1 t) X Y)*(Q*(X*X+Y*Y))+vl (om P 2 t) X Y=_
 rw [pO h 0 (by decide),pO h 1 (by decide),pO h 2 (by decide)]
 simp
 grind
theorem Kg {t:List (List Int×Int)} {B C E P Q X Y:Int} (h:GC t 0 B C E):tO t P Q X Y 2=E*Q*(X*X+Y*Y)+P*B*X+P*C*Y+0:=by
 show(0*(Q*(X*X+Y*Y))+vl (om P 0 t) X Y)*(Q*(X*X+Y*Y))+vl (om P 1 t) X Y=_
 rw [pO h 0 (by decide),pO h 1 (by decide)]
 simp
 grind
theorem uz {A B C E P Q:Int} (h:0 < mZ A B C E) (P0:P≠0) (Q0:Q≠0):0 < mZ (E*(Q*Q)) (P*Q*B) (P*Q*C) (A*(P*P)):=by
 have e:mZ (E*(Q*Q)) (P*Q*B) (P*Q*C) (A*(P*P))=(P*Q)*(P*Q)*mZ A B C E:=by unfold mZ; grind
 rw [e]
 have n:P*Q≠0:=Int.mul_ne_zero P0 Q0
 have:0 < (P*Q)*(P*Q):=by
  rw [<- Int.natAbs_mul_self (a:=P*Q)]
  have:=Int.natAbs_pos.mpr n
  exact Int.natCast_pos.mpr (Nat.mul_pos this this)
 exact Int.mul_pos this h
theorem ut {B C E P Q:Int} (h:0 < mZ 0 B C E) (P0:P≠0):0 < mZ (E*Q) (P*B) (P*C) 0:=by
 have e:mZ (E*Q) (P*B) (P*C) 0=P*P*mZ 0 B C E:=by unfold mZ; grind
 rw [e]
 have:0 < P*P:=by
  rw [<- Int.natAbs_mul_self (a:=P)]
  have:=Int.natAbs_pos.mpr P0
  exact Int.natCast_pos.mpr (Nat.mul_pos this this)
 exact Int.mul_pos this h
def fS:b_:=fun ds S k=>∃ (a:Addr) (t:List (List Int×Int)) (e:Nat) (A B C E P Q:Int) (n:Nat),ds=[.ref a,.tup [.int P,.int Q]]/\S a=some (bN (aX t) e)/\GC t A B C E/\0 < mZ A B C E/\P≠0/\Q≠0/\(∀ p∈t,Bt n p.2)/\n<=8000/\Bt 400 P/\Bt 400 Q/\∀ S' p ep g,aN S S'->(A≠0->GC g (E*(Q*Q)) (P*Q*B) (P*Q*C) (A*(P*P)))->(A=0->GC g (E*Q) (P*B) (P*C) 0)->S' p=some (bN (aX g) ep)->k (.ref p) S'
theorem a8:ar ["tops","power","degree","powers","grown_round","told","level","part","key","top"] ["tops","power"] (ap i6):=dN
theorem o_ (Fn:cT K "turned_over" "turned_over" i6 f fd) (cc:aQ P w K mg base "degree_of" 1 fi) (cR:aQ P w K mg base "powers_up_to" 1 fu) (cM:aQ P w K mg base "sum_of_tops" 1 fU) (bF:aQ P w K mg base "product_of_tops" 1 dy) (fG:aQ P w K mg base "without_rounds" 3 fF) (aY:aQ P w K mg base "without_nought_tops" 1 cx) (br:mg "range"=none):
  aH P w K mg base cQ 4 f fd ["tops","power"] (cY K fS):=by
 refine Fn.okJ a8 (fun ds S k h=>?_) (fun cdv A outer s H E hr=>⟨_,(af (ag (i:=2) a8.nd (dq cc hr (aa (ac 0) ae))) (af (ag (i:=3) a8.nd (dq cR hr (aa (ai aj (ac 1) ad (fun _ _=>rfl)) (aa (ac 2) ae)))) (af (ag (i:=4) a8.nd (fW hr (a_ (aq (aa ad (aa ad ae))) (ai aj (ac 1) ad (fun _ _=>rfl)) (a_ (aq (aa ad (aa ad ae))) (ai aj (ac 1) ad (fun _ _=>rfl)) iQ)))) (af (ag (i:=5) a8.nd fT) (af (jd PassesOwn.never rfl rfl br (aa (au cB (ac 2) ad) ae) (aw (i:=6) a8.nd) (af (ag (i:=7) a8.nd fT) (af (dc PassesOwn.never rfl (ff (ac 0)) (fC (n:=2) rfl (aJ (aw (i:=8) a8.nd) (aJ (aw (i:=9) a8.nd) dP))) (ah (aE (ax gE (au cB (ai aj (ac 8) ad (fun _ _=>rfl)) (ai aj (ac 8) ad (fun _ _=>rfl))) (ac 6) (ay _)) (ah (cS (au aV (ac 9) (ai aj (ac 3) (ac 6) (fun _ _=>rfl))) (fX hr (ac 7) (ac 8)))) aD))) (ah (ag (i:=5) a8.nd (dq cM hr (aa (dq bF hr (aa (ac 5) (aa (ac 4) ae))) (aa (ac 7) ae)))))))) (ah (am (dq fG hr (aa (dq aY hr (aa (ac 5) ae)) ae))))))))),fun ds S k h=>?_⟩)
 ·obtain⟨_,_,_,_,_,_,_,_,_,_,rfl,_⟩:=h
  rfl
 ·obtain⟨a,t,e,A,B,C,E',P,Q,n,rfl,ha,ht,ds,P0,Q0,bt,hn,bP,bQ,w⟩:=h
  obtain⟨d,hd,hdA⟩:=wD ht ds
  have d2:d<=2:=by rcases hdA with z | z <;> omega
  have h2:=ht.ci2
  have lt:t.length<=9:=Ci.len (b:=2) h2
  refine⟨a,t,e,rfl,ha,by omega,fun p hp=>?_,fun z=>?_,fun S1 d' x1 hd'=>?_⟩
  ·obtain⟨i,j,e,i0,j0,i1,j1⟩:=h2.sm p hp
   exact⟨i,j,e,i0,j0,by omega,by omega⟩
  ·obtain⟨⟨p,hp,_⟩,_⟩:=hd
   rw [z] at hp
   cases hp
  have ed:=hd'.uniq hd
  subst ed
  refine⟨P,d,rfl,by omega,bP.mono (by omega),fun S2 p3 x2 h3 hp3=>fun p4 hp4 e4=>⟨few,few,e4,aX (xo Q),ak,rfl,by show 2<=15; decide,fun e5=>fun p5 hp5 e6=>⟨⟨by omega,by omega⟩,?_⟩⟩⟩
  have X2:aN S S2:=x1.trans x2
  have X4:aN S2 (put (put (put S2 p4 (.gen (.dT [] e4))) p4 (.gen (.dT (bw [] (aX (xo Q))) e5))) p5 (.gen (.dT [] e6))):=((aN.new hp4).put hp4).trans (aN.new hp5)
  have h5:put (put (put S2 p4 (.gen (.dT [] e4))) p4 (.gen (.dT (bw [] (aX (xo Q))) e5))) p5 (.gen (.dT [] e6)) p5=some (bN (aX []) e6):=ak
  have h4:put (put (put S2 p4 (.gen (.dT [] e4))) p4 (.gen (.dT (bw [] (aX (xo Q))) e5))) p5 (.gen (.dT [] e6)) p4=some (bN (aX (xo Q)) e5):=by
   rw [av hp5 ak,fK (f:=D.int) (l:=xo Q) wn.nd]
  rw [show ((d:Int)+1).toNat=d+1 by omega,List.range_eq_range']
  generalize put (put (put S2 p4 (.gen (.dT [] e4))) p4 (.gen (.dT (bw [] (aX (xo Q))) e5))) p5 (.gen (.dT [] e6))=S4 at X4 h4 h5 ⊢
  refine bh (fun r L S'=>aN S4 S'/\∃ (s:Nat) (g:List (List Int×Int)) (q:Addr) (eq:Nat) (l6 l7 l8 l9:Option D),s<=d+1/\r=(List.range' s (d+1 - s)).map (fun k:Nat=>D.int (k:Int))/\L=[some (.ref a),some (.tup [.int P,.int Q]),some (.int d),some (.ref p3),some (.ref p4),some (.ref q),l6,l7,l8,l9]/\S' q=some (bN (aX g) eq)/\Ci (2*(s:Int) - 2) g/\(∀ p∈g,Bt (n+s*900) p.2)/\∀ X Y,vl g X Y=tO t P Q X Y s) (fun _ _ _ _=>trivial) ?_ ?_ _ _ _ ⟨aN.refl _,0,[],p5,e6,none,none,none,none,Nat.zero_le _,rfl,rfl,h5,Ci.nil,fun p h=>(nomatch h),fun X Y=>rfl⟩
  ·rintro dd r L S5 N1 ⟨x5,s,g,q,eq,l6,l7,l8,l9,hs,er,rfl,hq,hg,bg,vg⟩ hN
   cases hds:d+1 - s with
   | zero=>rw [hds] at er; cases er
   | succ s'=>
    rw [hds,List.range'_succ,List.map_cons] at er
    cases er
    have X5:aN S S5:=X2.trans (X4.trans x5)
    refine fun p7 hp7 e7=>⟨_,_,av hp7 (X5 _ _ ha),?_⟩
    have n7a:a≠p7:=gJ (X5 _ _ ha) hp7
    have n37:p3≠p7:=gJ (x5 _ _ (X4 _ _ hp3)) hp7
    have hat:L2.atI ((List.range (d+1)).map fun i=>D.int (P ^ i)) (s:Int)=some (.int (P ^ s)):=L2.jv (by rw [List.getElem?_map,List.getElem?_range (by omega)]; rfl)
    refine bh (fun r L S'=>∃ (don ao:List (List Int×Int)) (e1:Nat) (l8 l9:Option D),t=don++ao/\r=dL (aX ao)/\L=[some (.ref a),some (.tup [.int P,.int Q]),some (.int d),some (.ref p3),some (.ref p4),some (.ref q),some (.int (s:Int)),some (.ref p7),l8,l9]/\aN S5 S'/\S' a=some (bN (aX t) e)/\S' p7=some (bN (aX (om P s don)) e1)) (fun r L S' ⟨_,_,_,_,_,_,_,_,_,h,_⟩=>h) ?_ ?_ _ _ _ ⟨[],t,e7,l8,l9,rfl,rfl,rfl,aN.new hp7,av hp7 (X5 _ _ ha),ak⟩
    ·rintro dd r L S6 N2 ⟨don,ao,e8,l8,l9,ec,er,rfl,x6,a6,h67⟩ hN2
     cases ao with
     | nil=>cases er
     | cons u ao=>
      cases er
      have mu:u∈t:=by rw [ec]; simp
      have nu:=mt (p:=u) (ec▸h2.nd)
      obtain⟨i,j,ek,i0,j0,i1,j1⟩:=h2.sm u mu
      have lz:(om P s don).length<=don.length:=by unfold om; rw [List.length_map]; exact List.length_filter_le _ _
      have hd9:don.length < 10:=by have:=congrArg List.length ec; rw [List.length_append,List.length_cons] at this; omega
      have nk:u.1∉(om P s don).map (·.1):=fun z=>by
       rw [k9] at z
       obtain⟨p,hp,e⟩:=List.mem_map.mp z
       exact nu (List.mem_map.mpr ⟨p,(List.mem_filter.mp hp).1,e⟩)
      have gd:dg u.1=i+j:=by rw [ek]; rfl
      have go:∀ e9:Nat,dg u.1=(s:Int)->N2 [some (.ref a),some (.tup [.int P,.int Q]),some (.int d),some (.ref p3),some (.ref p4),some (.ref q),some (.int (s:Int)),some (.ref p7),some (cL u.1),some (.int u.2)] (put S6 p7 (bN (iw (aX (om P s don)) u.1 (.int (u.2*P ^ s))) e9)):=fun e9 hu=>hN2 _ _ ⟨don++[u],ao,e9,_,_,by rw [ec]; simp,rfl,rfl,x6.put hp7,by rw [bo n7a]; exact a6,by
       rw [ak,uw,if_pos hu,show iw (aX (om P s don)) u.1 (D.int (u.2*P ^ s))=_ from gx (f:=D.int) (x:=u.2*P ^ s) nk]⟩
      have no:dg u.1≠(s:Int)->N2 [some (.ref a),some (.tup [.int P,.int Q]),some (.int d),some (.ref p3),some (.ref p4),some (.ref q),some (.int (s:Int)),some (.ref p7),some (cL u.1),some (.int u.2)] S6:=fun hu=>hN2 _ _ ⟨don++[u],ao,e8,_,_,by rw [ec]; simp,rfl,rfl,x6,a6,by rw [h67,uw,if_neg hu]⟩
      refine⟨([cL u.1,.int u.2],none),rfl,rfl,?_⟩
      rw [gd] at go no
      rw [ek] at go no ⊢
      refine⟨rfl,lJ (fun t1=>?_) (fun t1=>no ?_)⟩
      case refine_2=>simpa using t1
      refine⟨_,_,x6 _ _ (x5 _ _ (X4 _ _ hp3)),hat,iB (bt u mu) (lQ bP s) (by omega),_,_,[i,j],h67,rfl,by rw [eI]; exact lim (by omega),fun e9=>go e9 (by simpa using t1)⟩
    ·rintro L S6 ⟨don,ao,e8,l8,l9,ec,er,rfl,x6,a6,h67⟩
     cases ao with
     | cons u ao=>cases er
     | nil=>
      rw [List.append_nil] at ec
      subst ec
      have hpt:Ci (2*(s:Int)) (om P s t):=(Cy h2).up (by omega)
      have lpt:(om P s t).length<=9:=by unfold om; rw [List.length_map]; exact Nat.le_trans (List.length_filter_le _ _) lt
      have lg:g.length<=9:=by
       rcases Nat.eq_zero_or_pos s with z | z
       ·cases g with
        | nil=>exact Nat.zero_le _
        | cons u g=>
         obtain⟨i,j,_,i0,j0,i1,j1⟩:=hg.sm u List.mem_cons_self
         omega
       ·exact Ci.len (b:=2) (hg.up (by omega))
      refine⟨q,p4,g,xo Q,eq,e5,2*(s:Int) - 2,2,rfl,x6 _ _ hq,x6 _ _ (x5 _ _ h4),hg,wn,by omega,by decide,by omega,by show 2<=10; decide,fun p hp=>(bg p hp).mono (by omega),fun p hp=>?_,fun S7 p9 e9 g7 x7 h9 hg7 l7 gf7 hp9=>?_⟩
      ·have:p.2=Q:=by
        simp only [xo,List.mem_cons,List.not_mem_nil,or_false] at hp
        rcases hp with rfl | rfl <;> rfl
       rw [this]
       exact bQ.mono (by decide)
      have hg7':Ci (2*(s:Int)) g7:=hg7.up (by omega)
      have l7':g7.length<=25:=Ci.len (b:=4) (hg7.up (by omega))
      refine⟨p9,p7,g7,om P s t,e9,e8,2*(s:Int),rfl,hp9,x7 _ _ h67,hg7',hpt,by omega,by omega,fun S8 p10 e10 g8 x8 h10 hg8 l8 gf8 hp10=>?_⟩
      have bb:∀ k,Bt (n+(s+1)*900) (gI g8 k):=fun k=>by
       rw [gf8 k,gf7 k]
       have b1:=tS (k:=k) (by omega) (by show 2<=10; decide) bg (t':=xo Q) (n':=400) (fun p hp=>by
        simp only [xo,List.mem_cons,List.not_mem_nil,or_false] at hp
        rcases hp with rfl | rfl <;> exact bQ)
       have b2:=u7 hpt.nd (n:=n+(s*400+1)) (fun p hp=>by
        obtain⟨u,hu,rfl⟩:=List.mem_map.mp hp
        exact(bt u (List.mem_filter.mp hu).1).mul (lQ bP s)) k
       exact(b1.add b2).mono (by omega)
      refine hN _ _ ⟨x5.trans (x6.trans (x7.trans x8)),s+1,g8,p10,e10,_,_,_,_,by omega,by rw [show d+1 - (s+1)=s' by omega],rfl,hp10,by rw [show 2*((s+1:Nat):Int) - 2=2*(s:Int) by omega]; exact hg8,pK hg8.nd bb,fun X Y=>?_⟩
      rw [vW hg7' hpt hg8 gf8,wz hg wn hg7 (Int.le_refl _) gf7,vg,IA]
      rfl
  ·rintro L S5 ⟨x5,s,g,q,eq,l6,l7,l8,l9,hs,er,rfl,hq,hg,bg,vg⟩
   cases hds:d+1 - s with
   | succ s'=>rw [hds,List.range'_succ] at er; cases er
   | zero=>
    have es:s=d+1:=by omega
    subst es
    have hg4:Ci 4 g:=hg.up (by omega)
    have lg:g.length<=25:=Ci.len (b:=4) hg4
    have X5:aN S S5:=X2.trans (X4.trans x5)
    refine⟨q,g,eq,rfl,hq,hg.nd,by omega,fun S6 p6 e6' x6 h6 hp6=>?_⟩
    have cn:Ci 4 (oY g):=⟨pE hg.nd,fun p hp=>hg4.sm p (List.mem_filter.mp hp).1⟩
    have nzn:∀ p∈oY g,p.2≠0:=fun p hp=>by simpa using (List.mem_filter.mp hp).2
    have vn:∀ X Y,vl (oY g) X Y=tO t P Q X Y (d+1):=fun X Y=>by rw [wX,vg]
    rcases hdA with ⟨rfl,rfl⟩ | ⟨a0,rfl⟩
    ·have vn':∀ X Y,vl (oY g) X Y=E'*Q*(X*X+Y*Y)+P*B*X+P*C*Y+0:=fun X Y=>by rw [vn]; exact Kg ht
     have tg:Tg 2 (oY g):=⟨cn.nd,fun p hp=>G5.sm p (zR cn (mE.up (by decide)) (fun X Y _=>by rw [vn' X Y]; exact wO.symm) nzn p hp)⟩
     refine⟨p6,oY g,e6',E'*Q,P*B,P*C,0,0,0,rfl,hp6,tg,by decide,nzn,fun X Y _=>by rw [vn' X Y,Int.pow_zero,Int.mul_one],ut ds P0,fun S7 p7 e7 g7 x7 hg7 hp7=>w S7 p7 e7 g7 (X5.trans (x6.trans x7)) (fun z=>absurd rfl z) (fun _=>hg7) hp7⟩
    ·have vn':∀ X Y,vl (oY g) X Y=(E'*(Q*Q)*(X*X+Y*Y)+P*Q*B*X+P*Q*C*Y+A*(P*P))*(X*X+Y*Y):=fun X Y=>by rw [vn]; exact KO ht
     have tg:Tg 4 (oY g):=⟨cn.nd,fun p hp=>B'.sm p (zR cn (B'.ci) (fun X Y _=>by rw [vn' X Y]; exact IO.symm) nzn p hp)⟩
     refine⟨p6,oY g,e6',E'*(Q*Q),P*Q*B,P*Q*C,A*(P*P),1,0,rfl,hp6,tg,by decide,nzn,fun X Y _=>by rw [vn' X Y,Int.pow_succ,Int.pow_zero,Int.one_mul],uz ds P0 Q0,fun S7 p7 e7 g7 x7 hg7 hp7=>w S7 p7 e7 g7 (X5.trans (x6.trans x7)) (fun _=>hg7) (fun z=>absurd z a0) hp7⟩
set_option maxHeartbeats 4000000
theorem eq_int {n:Nat} {i j:Int}:mF n (.int i) (.int j)=some (i == j):=by cases n <;> rfl
theorem ET {n:Nat} {p q:Rat}:mF (n+1) (fr p) (fr q)=some (decide (p=q)):=by
 show j_ (mF n) [.int p.num,.int (p.den:Int)] [.int q.num,.int (q.den:Int)]=_
 show(match mF n (.int p.num) (.int q.num),(match mF n (.int (p.den:Int)) (.int (q.den:Int)),some true with | some a,some b=>some (a && b) | _,_=>none) with | some a,some b=>some (a && b) | _,_=>none)=_
 rw [eq_int,eq_int]
 show some ((p.num == q.num) && (((p.den:Int) == (q.den:Int)) && true))=_
 congr 1
 rw [Bool.and_true,Bool.eq_iff_iff]
 simp only [Bool.and_eq_true,beq_iff_eq,decide_eq_true_eq]
 exact⟨fun ⟨a,b⟩=>Rat.ext a (by exact_mod_cast b),fun h=>by subst h; exact⟨rfl,rfl⟩⟩
theorem GT {n:Nat} {a b c d:D} {p q:Bool} (h1:mF n a c=some p) (h2:mF n b d=some q):mF (n+1) (.tup [a,b]) (.tup [c,d])=some (p && q):=by
 show(match mF n a c,(match mF n b d,some true with | some a,some b=>some (a && b) | _,_=>none) with | some a,some b=>some (a && b) | _,_=>none)=_
 rw [h1,h2]
 show some (p && (q && true))=_
 rw [Bool.and_true]
def eW (U:Int) (x y:Int×Int):Int×Int:=(x.1*y.1+x.2*y.2*U,x.1*y.2+x.2*y.1)
def iH (U:Int) (x:Int×Int):Nat->Int×Int
 | 0=>(1,0)
 | n+1=>eW U (iH U x n) x
def iD (x:Int×Int):D:=.tup [.int x.1,.int x.2]
structure B2 (n:Nat) (x:Int×Int):Prop where
 a:Bt n x.1
 b:Bt n x.2
theorem vK (U:Int) (x y z:Int×Int):eW U (eW U x y) z=eW U x (eW U y z):=by
 unfold eW
 apply Prod.ext <;> dsimp only <;> grind
theorem B9 (U:Int) (x:Int×Int):eW U x (1,0)=x:=by
 unfold eW
 apply Prod.ext <;> dsimp only <;> grind
theorem zN (U:Int) (x:Int×Int):eW U (1,0) x=x:=by
 unfold eW
 apply Prod.ext <;> dsimp only <;> grind
theorem DM (U:Int) (x:Int×Int):iH U x 1=x:=zN U x
theorem sO (U:Int) (x:Int×Int) (m:Nat):∀ n,iH U x (m+n)=eW U (iH U x m) (iH U x n)
 | 0=>(B9 U _).symm
 | n+1=>by
  show eW U (iH U x (m+n)) x=eW U (iH U x m) (eW U (iH U x n) x)
  rw [sO U x m n,vK]
theorem nN (U b:Int):∀ n,iH U (b,0) n=(b ^ n,0)
 | 0=>by show((1:Int),(0:Int))=_; rw [Int.pow_zero]
 | n+1=>by
  show eW U (iH U (b,0) n) (b,0)=_
  rw [nN U b n,Int.pow_succ]
  unfold eW
  apply Prod.ext <;> dsimp only <;> grind
theorem B2.mono {m n:Nat} {x:Int×Int} (h:B2 m x) (hm:m<=n):B2 n x:=⟨h.a.mono hm,h.b.mono hm⟩
theorem B2.mul {m n k:Nat} {U:Int} {x y:Int×Int} (hx:B2 m x) (hy:B2 n y) (hU:Bt k U):B2 (m+n+k+1) (eW U x y):=
 ⟨((hx.a.mul hy.a).add ((hx.b.mul hy.b).mul hU)).mono (by omega),((hx.a.mul hy.b).add (hx.b.mul hy.a)).mono (by omega)⟩
theorem GS:B2 1 ((1:Int),(0:Int)):=⟨by decide,by decide⟩
theorem B2.pw {n k:Nat} {U:Int} {x:Int×Int} (hx:B2 n x) (hU:Bt k U):∀ p,B2 (p*(n+k+1)+1) (iH U x p)
 | 0=>GS.mono (by omega)
 | p+1=>((B2.pw hx hU p).mul hx hU).mono (by rw [Nat.add_mul]; omega)
def zu (u:Rat) (x:Q):Nat->Q
 | 0=>(1,0)
 | n+1=>qm u (zu u x n) x
def mon (u:Rat) (x y:Q) (k:List Int):Q:=qm u (zu u x (k.getD 0 0).toNat) (zu u y (k.getD 1 0).toNat)
def qk (t:Rat) (x:Q):Q:=(t*x.1,t*x.2)
def nr (u:Rat) (x y:Q) (c:List (List Int×Rat)) (s:Q):Q:=c.foldl (fun s p=>qa s (qk p.2 (mon u x y p.1))) s
def qc (x:Int×Int):Q:=((x.1:Rat),(x.2:Rat))
theorem wE (U:Int) (x y:Int×Int):qc (eW U x y)=qm (U:Rat) (qc x) (qc y):=by
 unfold qc eW qm
 apply Prod.ext <;> dsimp only <;> simp only [Rat.intCast_add,Rat.intCast_mul]
theorem F3 (u s t:Rat) (x y:Q):qm u (qk s x) (qk t y)=qk (s*t) (qm u x y):=by
 unfold qm qk
 apply Prod.ext <;> dsimp only <;> grind
theorem Kn (s t:Rat) (x:Q):qk s (qk t x)=qk (s*t) x:=by
 unfold qk
 apply Prod.ext <;> dsimp only <;> grind
theorem K7 (t:Rat) (x y:Q):qk t (qa x y)=qa (qk t x) (qk t y):=by
 unfold qk qa
 apply Prod.ext <;> dsimp only <;> grind
theorem E3 {U M:Int} {X:Int×Int} {x:Q} (h:qc X=qk (M:Rat) x):∀ n,qc (iH U X n)=qk ((M:Rat) ^ n) (zu (U:Rat) x n)
 | 0=>by
  show(((1:Int):Rat),((0:Int):Rat))=qk ((M:Rat) ^ 0) (1,0)
  rw [Rat.pow_zero]
  unfold qk
  apply Prod.ext <;> dsimp only <;> grind
 | n+1=>by
  show qc (eW U (iH U X n) X)=qk _ (qm (U:Rat) (zu (U:Rat) x n) x)
  rw [wE,E3 h n,h,F3,Rat.pow_succ]
theorem vq (x:Rat) (m:Nat):∀ n,x ^ (m+n)=x ^ m*x ^ n
 | 0=>by rw [Nat.add_zero,Rat.pow_zero,Rat.mul_one]
 | n+1=>by rw [<- Nat.add_assoc,Rat.pow_succ,Rat.pow_succ,vq x m n,Rat.mul_assoc]
theorem w6 {U M:Int} {X:Int×Int} {x:Q} (h:qc X=qk (M:Rat) x) {m n:Nat} (hn:n<=m):qc (eW U (iH U X n) (iH U (M,0) (m - n)))=qk ((M:Rat) ^ m) (zu (U:Rat) x n):=by
 have e:qc (iH U (M,0) (m - n))=qk ((M:Rat) ^ (m - n)) (1,0):=by
  rw [nN]
  unfold qc qk
  apply Prod.ext <;> dsimp only
  ·rw [Rat.intCast_pow]; grind
  ·grind
 have e1:qm (U:Rat) (zu (U:Rat) x n) (1,0)=zu (U:Rat) x n:=by
  unfold qm
  apply Prod.ext <;> dsimp only <;> grind
 rw [wE,E3 h n,e,F3,e1,<- vq,show n+(m - n)=m by omega]
structure Rl (κ:Rat) (x x':Q):Prop where
 a:x'.1=x.1
 b:x.2=κ*x'.2
 z:κ=0->x'.2=0
theorem Rl.mul {κ u U:Rat} {x x' y y':Q} (hU:κ*κ*u=U) (h:Rl κ x x') (h':Rl κ y y'):Rl κ (qm u x y) (qm U x' y'):=by
 obtain⟨a1,b1,z1⟩:=h
 obtain⟨a2,b2,z2⟩:=h'
 unfold qm
 refine⟨?_,?_,fun k0=>?_⟩
 ·show x'.1*y'.1+x'.2*y'.2*U=x.1*y.1+x.2*y.2*u
  rw [a1,a2,b1,b2,<- hU]
  grind
 ·show x.1*y.2+x.2*y.1=κ*(x'.1*y'.2+x'.2*y'.1)
  rw [a1,a2,b1,b2]
  grind
 ·show x'.1*y'.2+x'.2*y'.1=0
  rw [z1 k0,z2 k0]
  grind
theorem Rl.one {κ:Rat}:Rl κ (1,0) (1,0):=⟨rfl,(Rat.mul_zero κ).symm,fun _=>rfl⟩
theorem Rl.zero {κ:Rat}:Rl κ (0,0) (0,0):=⟨rfl,(Rat.mul_zero κ).symm,fun _=>rfl⟩
theorem Rl.pw {κ u U:Rat} {x x':Q} (hU:κ*κ*u=U) (h:Rl κ x x'):∀ n,Rl κ (zu u x n) (zu U x' n)
 | 0=>Rl.one
 | n+1=>(Rl.pw hU h n).mul hU h
theorem Rl.add {κ:Rat} {x x' y y':Q} (h:Rl κ x x') (h':Rl κ y y'):Rl κ (qa x y) (qa x' y'):=by
 obtain⟨a1,b1,z1⟩:=h
 obtain⟨a2,b2,z2⟩:=h'
 unfold qa
 refine⟨?_,?_,fun k0=>?_⟩
 ·show x'.1+y'.1=x.1+y.1
  rw [a1,a2]
 ·show x.2+y.2=κ*(x'.2+y'.2)
  rw [b1,b2]
  grind
 ·show x'.2+y'.2=0
  rw [z1 k0,z2 k0]
  grind
theorem Rl.k {κ t:Rat} {x x':Q} (h:Rl κ x x'):Rl κ (qk t x) (qk t x'):=by
 obtain⟨a1,b1,z1⟩:=h
 unfold qk
 refine⟨?_,?_,fun k0=>?_⟩
 ·show t*x'.1=t*x.1
  rw [a1]
 ·show t*x.2=κ*(t*x'.2)
  rw [b1]
  grind
 ·show t*x'.2=0
  rw [z1 k0]
  grind
theorem Rl.mon {κ u U:Rat} {x x' y y':Q} (hU:κ*κ*u=U) (h:Rl κ x x') (h':Rl κ y y') (k:List Int):Rl κ (mon u x y k) (mon U x' y' k):=(h.pw hU _).mul hU (h'.pw hU _)
theorem Rl.val {κ u U:Rat} {x x' y y':Q} (hU:κ*κ*u=U) (h:Rl κ x x') (h':Rl κ y y'):∀ (c:List (List Int×Rat)) {s s':Q},Rl κ s s'->Rl κ (nr u x y c s) (nr U x' y' c s')
 | [],_,_,hs=>hs
 | p::c,s,s',hs=>Rl.val hU h h' c (hs.add ((h.mon hU h' p.1).k (t:=p.2)))
structure SO (κ:Rat) (n:Nat) (x:Q) (X:Int×Int) (M:Int):Prop where
 M0:0 < M
 bM:Bt n M
 bX:B2 n X
 rel:∃ x',Rl κ x x'/\qc X=qk (M:Rat) x'
theorem CQ {β:Rat} {e u:Rat} (h:β=e*e*u):(ab e*(β.den:Int))*(ab e*(β.den:Int))*u=((β.num*(β.den:Int):Int):Rat):=by
 have d:=pf β
 have s:=uO e
 rw [Rat.intCast_mul,<- d]
 have:((β.den:Int):Rat)*β*((β.den:Int):Rat)=ab e*((β.den:Int):Rat)*(ab e*((β.den:Int):Rat))*u:=by
  rw [h]
  grind
 exact this.symm
set_option maxHeartbeats 4000000
theorem Dl {c:DT} {t e b2:DS} {M:nh} {L:Lo} {S:DH} (P:Lo->DH->Prop) (h2:∀ L S,P L S->b2 M L S) (h1:(∀ L S,P L S->b2 M L S)->C' c t e {M with nx:=b2 M} L S):rb (C' c t e) b2 M L S:=h1 h2
theorem Li (u:Int):D.tup [.int u,.int 1]=fr (u:Rat):=by
 show _=D.tup [.int (u:Rat).num,.int ((u:Rat).den:Int)]
 rw [Rat.num_intCast,Rat.den_intCast]
 rfl
def fb:b_:=fun ds S k=>∃ (x y:Int×Int) (U:Int) (n:Nat),ds=[iD x,iD y,.int U]/\B2 n x/\B2 n y/\Bt n U/\n<=1000000/\k (iD (eW U x y)) S
theorem rA:ar ["one","other","base"] ["one","other","base"] (ap jI):=dN
theorem rk (Fn:cT K "surd_times" "surd_times" jI f fd):
  aH P w K mg base cQ 1 f fd ["one","other","base"] (cY K fb):=by
 refine Fn.okJ rA (fun ds S k h=>?_) (fun cdv A outer s H E hr=>⟨_,(ah (am (aq (aa (au cB (au aV (ai aj (ac 0) ad (fun _ _=>rfl)) (ai aj (ac 1) ad (fun _ _=>rfl))) (au aV (au aV (ai aj (ac 0) ad (fun _ _=>rfl)) (ai aj (ac 1) ad (fun _ _=>rfl))) (ac 2))) (aa (au cB (au aV (ai aj (ac 0) ad (fun _ _=>rfl)) (ai aj (ac 1) ad (fun _ _=>rfl))) (au aV (ai aj (ac 0) ad (fun _ _=>rfl)) (ai aj (ac 1) ad (fun _ _=>rfl)))) ae))))),fun ds S k h=>?_⟩)
 ·obtain⟨_,_,_,_,rfl,_⟩:=h
  rfl
 ·obtain⟨x,y,U,n,rfl,hx,hy,hU,hn,w⟩:=h
  exact⟨iB hx.a hy.a (by omega),iB hx.b hy.b (by omega),iB (hx.b.mul hy.b) hU (by omega),iB hx.a hy.b (by omega),iB hx.b hy.a (by omega),few,w⟩
def jr:b_:=fun ds S k=>∃ (x:Int×Int) (U:Int) (P:Nat) (n:Nat),ds=[iD x,.int P,.int U]/\B2 n x/\Bt n U/\n<=10000/\P<=12/\k (iD (iH U x P)) S
theorem eD:ar ["one","power","base","told"] ["one","power","base"] (ap jJ):=dN
theorem q_ (Fn:cT K "surd_power" "surd_power" jJ f fd) (bI:aQ P w K mg base "surd_times" 1 fb):
  aH P w K mg base cQ 2 f fd ["one","power","base"] (cY K jr):=by
 refine Fn.okJ eD (fun ds S k h=>?_) (fun cdv A outer s H E hr=>⟨_,(af (ag (i:=3) eD.nd (aq (aa ad (aa ad ae)))) (af (ir PassesOwn.never (ax AG (ac 1) ad (ay _)) (af (aE (ax gE (au mK (ac 1) ad) ad (ay _)) (ah (ag (i:=3) eD.nd (dq bI hr (aa (ac 3) (aa (ac 0) (aa (ac 2) ae)))))) aD) (af (ag (i:=1) eD.nd (au lK (ac 1) ad)) (ah (aE (ax AG (ac 1) ad (ay _)) (ah (ag (i:=0) eD.nd (dq bI hr (aa (ac 0) (aa (ac 0) (aa (ac 2) ae)))))) aD))))) (ah (am (ac 3))))),fun ds S k h=>?_⟩)
 ·obtain⟨_,_,_,_,rfl,_⟩:=h
  rfl
 ·obtain⟨x,U,P,n,rfl,hx,hU,hn,hP,w⟩:=h
  refine⟨few,fun m L S'=>S'=S/\∃ p q:Nat,L=[some (iD (iH U x q)),some (.int (m:Nat)),some (.int U),some (iD (iH U x p))]/\p+q*m=P/\1<=q,⟨P,rfl,0,1,by rw [DM]; rfl,by omega,by decide⟩,?_⟩
  rintro m L S' ⟨rfl,p,q,rfl,hpq,q1⟩
  have bd:∀ t,t<=12->B2 300000 (iH U x t):=fun t ht=>(hx.pw hU t).mono (by
   have:t*(n+n+1)<=12*(n+n+1):=Nat.mul_le_mul_right _ ht
   omega)
  have bU':Bt 300000 U:=hU.mono (by omega)
  refine bj (fun h0=>?_) (fun h0=>?_)
  ·have m0:0 < m:=by omega
   have qP:q*1<=q*m:=Nat.mul_le_mul_left _ m0
   refine⟨fun L' S''=>∃ m',m' < m/\S''=S'/\∃ p q:Nat,L'=[some (iD (iH U x q)),some (.int (m':Nat)),some (.int U),some (iD (iH U x p))]/\p+q*m'=P/\1<=q,fun _ _ z=>z,?_⟩
   have em:(m:Int).fmod 2=((m % 2:Nat):Int):=by
    rw [Int.fmod_eq_emod_of_nonneg _ (by decide)]
    omega
   have ed:(m:Int).fdiv 2=((m / 2:Nat):Int):=by
    rw [Int.fdiv_eq_ediv_of_nonneg _ (by decide)]
    omega
   have hm2:2*(m / 2)+m % 2=m:=Nat.div_add_mod m 2
   refine Dl (fun L S2=>S2=S'/\∃ p':Nat,L=[some (iD (iH U x q)),some (.int (m:Nat)),some (.int U),some (iD (iH U x p'))]/\p'+q*(2*(m / 2))=P) ?_ (fun go=>?_)
   rotate_left
   ·refine⟨by show(2:Int)≠0; decide,?_⟩
    show(if decide ((m:Int).fmod 2=1)=true then _ else _)
    rw [em]
    refine bj (fun h1=>?_) (fun h1=>?_)
    ·have e1:m % 2=1:=by omega
     refine⟨iH U x p,iH U x q,U,300000,rfl,bd p (by omega),bd q (by omega),bU',by decide,go _ _ ⟨rfl,p+q,by rw [sO],?_⟩⟩
     have e2:q*(2*(m / 2)+1)=q*m:=by congr 1; omega
     rw [Nat.mul_add] at e2
     omega
    ·have e1:m % 2=0:=by omega
     refine go _ _ ⟨rfl,p,rfl,?_⟩
     have e2:q*(2*(m / 2))=q*m:=by congr 1; omega
     omega
   ·rintro L2 S2 ⟨rfl,p',rfl,hp'⟩
    refine⟨Cg (m:=2) (by decide) (by decide),?_⟩
    dsimp only
    rw [ed]
    refine bj (fun h1=>?_) (fun h1=>?_)
    ·have d1:0 < m / 2:=by omega
     have:q*2<=q*(2*(m / 2)):=Nat.mul_le_mul_left _ (by omega)
     refine⟨iH U x q,iH U x q,U,300000,rfl,bd q (by omega),bd q (by omega),bU',by decide,m / 2,by omega,rfl,p',q+q,by rw [sO]; rfl,?_,by omega⟩
     rw [<- hp']
     have:(q+q)*(m / 2)=q*(2*(m / 2)):=by rw [<- Nat.mul_assoc]; congr 1; omega
     omega
    ·have d1:m / 2=0:=by omega
     refine⟨m / 2,by omega,rfl,p',q,rfl,?_,q1⟩
     rw [<- hp',d1]
  ·have m0:m=0:=by omega
   subst m0
   have e:p=P:=by omega
   subst e
   exact w
def kO:b_:=fun ds S k=>∃ (u a b e:Rat) (s τ:Nat),ds=[N u a b,fr (e*e*u)]/\0 < u/\Sz τ u/\τ<=600/\(b=0\/e≠0)/\Sz s a/\Sz s b/\Sz s e/\1<=s/\s<=830/\∀ X M,SO (ab e*(((e*e*u).den:Int):Rat)) (9*s+2*τ+2) (a,b) X M->k (.tup [iD X,.int M]) S
theorem gZ:ar ["number","base","portion","bottom","surd"] ["number","base"] (ap kI):=dN
theorem tJ (Fn:cT K "surd_over" "surd_over" kI f fd) (dk:aQ P w K mg base "over" 35 mf) (sV:aQ P w K mg base "share" 37 tV) (aO:aQ P w K mg base "common_multiple" 34 cK):
  aH P w K mg base cQ 38 f fd ["number","base"] (cY K kO):=by
 refine Fn.okJ gZ (fun ds S k h=>?_) (fun cdv A outer s H E hr=>⟨_,(af (ag (i:=2) gZ.nd (dq dk hr (aa (dq sV hr (aa (ac 0) (aa (ac 1) ae))) (aa (aq (aa (ai aj (ac 1) ad (fun _ _=>rfl)) (aa ad ae))) ae)))) (af (ag (i:=3) gZ.nd (dq aO hr (aa (ai aj (ai aj (ac 0) ad (fun _ _=>rfl)) ad (fun _ _=>rfl)) (aa (ai aj (ac 2) ad (fun _ _=>rfl)) ae)))) (af (ag (i:=4) gZ.nd (aq (aa (au aV (ai aj (ai aj (ac 0) ad (fun _ _=>rfl)) ad (fun _ _=>rfl)) (au lK (ac 3) (ai aj (ai aj (ac 0) ad (fun _ _=>rfl)) ad (fun _ _=>rfl)))) (aa (au aV (ai aj (ac 2) ad (fun _ _=>rfl)) (au lK (ac 3) (ai aj (ac 2) ad (fun _ _=>rfl)))) ae)))) (ah (am (aq (aa (ac 4) (aa (ac 3) ae)))))))),fun ds S k h=>?_⟩)
 ·obtain⟨_,_,_,_,_,_,rfl,_⟩:=h
  rfl
 ·obtain⟨u,a,b,e,s,τ,rfl,u0,su,ht6,be,sa,sb,se,s1,s100,w⟩:=h
  have d0:(((e*e*u).den:Int):Rat)≠0:=fun z=>by
   have:=Rat.intCast_inj.mp (show (((e*e*u).den:Int):Rat)=((0:Int):Rat) from z)
   have:=gN (e*e*u)
   omega
  have sB:=(se.mul se).mul su
  have s1':=sb.div' se.ab
  have sd:Sz (s+s+τ) (((e*e*u).den:Int):Rat):=⟨by rw [Rat.num_intCast]; exact sB.den,by rw [Rat.den_intCast]; exact(show Bt 1 1 by decide).mono (by omega)⟩
  have sP:=s1'.div sd d0
  generalize hP:b / ab e / (((e*e*u).den:Int):Rat)=P at sP
  have dv1:(a.den:Int) ∣ ((Int.lcm (a.den:Int) (P.den:Int):Nat):Int):=Int.dvd_lcm_left _ _
  have dv2:(P.den:Int) ∣ ((Int.lcm (a.den:Int) (P.den:Int):Nat):Int):=Int.dvd_lcm_right _ _
  have M0:=ni (gN a) (gN P)
  have bM:Bt (5*s+τ+1) ((Int.lcm (a.den:Int) (P.den:Int):Nat):Int):=kf (x:=(a.den:Int)*(P.den:Int)) (Int.coe_lcm_dvd (Int.dvd_mul_right _ _) (Int.dvd_mul_left _ _)) (by have:=Int.mul_pos (gN a) (gN P); omega) ((sa.den.mul sP.den).mono (by omega))
  have bf1:Bt (5*s+τ+1) (((Int.lcm (a.den:Int) (P.den:Int):Nat):Int).fdiv (a.den:Int)):=bM.le (HM.aC _ _)
  have bf2:Bt (5*s+τ+1) (((Int.lcm (a.den:Int) (P.den:Int):Nat):Int).fdiv (P.den:Int)):=bM.le (HM.aC _ _)
  refine⟨u,a,b,e,rfl,u0,be,⟨sb.mono (by omega),se.mono (by omega)⟩,su.mono (by omega),few,b / ab e,(((e*e*u).den:Int):Rat),congrArg (fun z=>[fr (b / ab e),z]) (Li _),d0,s1'.mono (by omega),sd.mono (by omega),?_⟩
  rw [hP]
  refine⟨(a.den:Int),(P.den:Int),rfl,gN a,gN P,sa.den.mono (by omega),sP.den.mono (by omega),?_⟩
  refine⟨Cg (by have:=gN a; omega) sa.den (by omega),iB sa.num bf1 (by omega),Cg (by have:=gN P; omega) sP.den (by omega),iB sP.num bf2 (by omega),few,few,?_⟩
  refine w (dZ _ a,dZ _ P) _ ⟨M0,bM.mono (by omega),⟨(sa.num.mul bf1).mono (by omega),(sP.num.mul bf2).mono (by omega)⟩,(a,P),⟨rfl,?_,fun k0=>?_⟩,?_⟩
  ·show b=ab e*_*P
   rw [<- hP]
   rcases be with b0 | e0
   ·rw [b0]
    grind
   ·have:=wV e0
    grind
  ·show P=0
   rw [<- hP]
   rcases be with b0 | e0
   ·rw [b0]
    grind
   ·have:=wV e0
    grind
  ·unfold qc qk
   apply Prod.ext
   ·exact lu dv1
   ·exact lu dv2
abbrev bU (e u:Rat):Int:=(e*e*u).num*((e*e*u).den:Int)
def Dz (U:Int) (X:Int×Int) (M:Int) (mx:Nat) (l:List Int):List (L2.dG×D):=l.map fun n=>(Sum.inl n,iD (eW U (iH U X n.toNat) (iH U (M,0) (mx - n.toNat))))
theorem AB (ns:List Int):(m_ ns).length<=7:=by
 unfold m_ PySem.subI PySem.subM
 rw [List.length_map]
 exact Nat.le_trans (List.length_filter_le _ _) (by decide)
theorem DR {U:Int} {X:Int×Int} {M:Int} {mx:Nat} {l:List Int} {n:Int} (h:n∉l):Ao (Dz U X M mx l) (.inl n) (iD (eW U (iH U X n.toNat) (iH U (M,0) (mx - n.toNat))))=Dz U X M mx (l++[n]):=by
 unfold Ao Dz
 rw [if_neg,List.map_append]
 ·rfl
 ·intro z
  obtain⟨x,hx,e⟩:=List.any_eq_true.mp z
  obtain⟨k,hk,rfl⟩:=List.mem_map.mp hx
  simp only [decide_eq_true_eq] at e
  cases e
  exact h hk
theorem sI {U:Int} {X:Int×Int} {M:Int} {mx:Nat} {n:Int}:∀ {l:List Int},n∈l->uJ (Dz U X M mx l) (.inl n)=some (iD (eW U (iH U X n.toNat) (iH U (M,0) (mx - n.toNat))))
 | k::l,h=>by
  by_cases e:k=n
  ·subst e
   simp [uJ,Dz,List.find?_cons]
  ·have h':n∈l:=by
    rcases List.mem_cons.mp h with q | q
    ·exact absurd q.symm e
    ·exact q
   have:=sI (U:=U) (X:=X) (M:=M) (mx:=mx) h'
   simp only [uJ,Dz,List.map_cons,List.find?_cons] at this ⊢
   have ne:(decide ((Sum.inl k:L2.dG)=Sum.inl n))=false:=by
    simp
    exact e
   rw [ne]
   exact this
def iV:b_:=fun ds S k=>∃ (u a b e:Rat) (s τ:Nat) (q:Addr) (ns:List Int),ds=[N u a b,.ref q,fr (e*e*u)]/\S q=some (.lst (ns.map D.int))/\ns≠[]/\ns.length<=100/\(∀ n∈ns,0<=n/\n < 7)/\0 < u/\Sz τ u/\τ<=600/\(b=0\/e≠0)/\Sz s a/\Sz s b/\Sz s e/\1<=s/\s<=830/\
 ∀ S' p X M mx,aN S S'->SO (ab e*(((e*e*u).den:Int):Rat)) (9*s+2*τ+2) (a,b) X M->(∀ n∈ns,n.toNat<=mx)->mx < 7->S' p=some (.gen (.dK (Dz (bU e u) X M mx (m_ ns))))->k (.tup [.ref p,.int (M ^ mx)]) S'
theorem cu:ar ["number","powers","base","found","under","bottom","most","told","power"] ["number","powers","base"] (ap i5):=dN
theorem p_ (Fn:cT K "powers_over" "powers_over" i5 f fd) (k7:aQ P w K mg base "surd_over" 38 kO) (bI:aQ P w K mg base "surd_times" 1 fb) (fB:aQ P w K mg base "surd_power" 2 jr) (hZ:mg "max"=none) (qG:mg "sorted"=none) (z7:mg "set"=none):
  aH P w K mg base cQ 39 f fd ["number","powers","base"] (cY K iV):=by
 refine Fn.okJ cu (fun ds S k h=>?_) (fun cdv A outer s H E hr=>⟨_,(af (ag (i:=3) cu.nd (dq k7 hr (aa (ac 0) (aa (ac 2) ae)))) (af (ag (i:=4) cu.nd (au aV (ai aj (ac 2) ad (fun _ _=>rfl)) (ai aj (ac 2) ad (fun _ _=>rfl)))) (af (ag (i:=5) cu.nd (aq (aa (ai aj (ac 3) ad (fun _ _=>rfl)) (aa ad ae)))) (af (ag (i:=6) cu.nd (cU G0 rfl hZ pj (aa (ac 1) ae))) (af (ag (i:=7) cu.nd Dm) (af (eS PassesOwn.never rfl (vQ rfl rfl qG yH rfl z7 HB (ac 1)) (aw (i:=8) cu.nd) (ah (cS (dq bI hr (aa (dq fB hr (aa (ai aj (ac 3) ad (fun _ _=>rfl)) (aa (ac 8) (aa (ac 4) ae)))) (aa (dq fB hr (aa (ac 5) (aa (au j6 (ac 6) (ac 8)) (aa (ac 4) ae)))) (aa (ac 4) ae)))) (Eu hr (ac 7) (ac 8))))) (ah (am (aq (aa (ac 7) (aa (ai aj (dq fB hr (aa (ac 5) (aa (ac 6) (aa (ac 4) ae)))) ad (fun _ _=>rfl)) ae))))))))))),fun ds S k h=>?_⟩)
 ·obtain⟨_,_,_,_,_,_,_,_,rfl,_⟩:=h
  rfl
 ·obtain⟨u,a,b,e,s,τ,q,ns,rfl,hq,hne,hl,hb,u0,su,ht6,be,sa,sb,se,s1,s100,w⟩:=h
  have sB:=(se.mul se).mul su
  have bUU:Bt (9*s+2*τ+2) (bU e u):=(sB.num.mul sB.den).mono (by omega)
  refine⟨u,a,b,e,s,τ,rfl,u0,su,ht6,be,sa,sb,se,s1,s100,fun X M so=>⟨iB sB.num sB.den (by omega),few,ns,hq,hne,fun m hm hx p hp=>⟨ns,av hp hq,hb,fun q2 hq2=>⟨((m_ ns).map D.int,some q2),by simp only [aU,ak],?_⟩⟩⟩⟩
  have bm:=hb m hm
  have sM:B2 (9*s+2*τ+2) (M,(0:Int)):=⟨so.bM,(show Bt 1 0 by decide).mono (by omega)⟩
  have bd:∀ {x:Int×Int} t,B2 (9*s+2*τ+2) x->t<=7->B2 200000 (iH (bU e u) x t):=fun t h ht=>(h.pw bUU t).mono (by
   have:t*(9*s+2*τ+2+(9*s+2*τ+2)+1)<=7*(9*s+2*τ+2+(9*s+2*τ+2)+1):=Nat.mul_le_mul_right _ ht
   omega)
  have lt:=DU ns
  have npq:p≠q2:=fun z=>by rw [<- z,ak] at hq2; cases hq2
  refine bh (fun r L S'=>∃ (don ao:List Int) (l8:Option D),m_ ns=don++ao/\r=ao.map D.int/\L=[some (N u a b),some (.ref q),some (fr (e*e*u)),some (.tup [iD X,.int M]),some (.int (bU e u)),some (.tup [.int M,.int 0]),some (.int m),some (.ref p),l8]/\aN S S'/\S' q2=some (.lst ((m_ ns).map D.int))/\S' p=some (.gen (.dK (Dz (bU e u) X M m.toNat don)))) (fun r L S' ⟨_,_,_,_,_,_,_,h,_⟩=>h) ?_ ?_ _ _ _ ⟨[],m_ ns,none,rfl,rfl,rfl,(aN.new hp).trans (aN.new hq2),ak,by rw [bo npq,ak]; rfl⟩
  ·rintro d r L S1 N1 ⟨don,ao,l8,ec,er,rfl,x1,h2,h1⟩ hN
   cases ao with
   | nil=>cases er
   | cons n ao=>
    cases er
    have mn:n∈ns:=(ke hb).mp (by rw [ec]; simp)
    have bn:=hb n mn
    have nm:=hx n mn
    have dl:don.length < 100:=by
     have l7:(m_ ns).length<=7:=AB ns
     have:=congrArg List.length ec
     rw [List.length_append,List.length_cons] at this
     omega
    have nin:n∉don:=fun z=>by
     rw [ec] at lt
     have:=(List.pairwise_append.mp lt).2.2 n z n (by simp)
     omega
    refine⟨X,bU e u,n.toNat,9*s+2*τ+2,congrArg (fun z=>[iD X,z,.int (bU e u)]) (congrArg D.int (by omega)),so.bX,bUU,by omega,by omega,(M,0),bU e u,m.toNat - n.toNat,9*s+2*τ+2,congrArg (fun z=>[iD (M,0),z,.int (bU e u)]) (congrArg D.int (by omega)),sM,bUU,by omega,by omega,?_⟩
    refine⟨_,_,bU e u,200000,rfl,bd _ so.bX (by omega),bd _ sM (by omega),bUU.mono (by omega),by decide,_,h1,by unfold Dz; rw [List.length_map]; exact lim (by omega),hN _ _ ⟨don++[n],ao,_,by rw [ec]; simp,rfl,rfl,x1.put hp,by rw [bo (Ne.symm npq)]; exact h2,?_⟩⟩
    rw [ak,DR nin]
  ·rintro L S1 ⟨don,ao,l8,ec,er,rfl,x1,h2,h1⟩
   cases ao with
   | cons n ao=>cases er
   | nil=>
    rw [List.append_nil] at ec
    subst ec
    refine⟨(M,0),bU e u,m.toNat,9*s+2*τ+2,congrArg (fun z=>[iD (M,0),z,.int (bU e u)]) (congrArg D.int (by omega)),sM,bUU,by omega,by omega,few,?_⟩
    rw [nN]
    exact w S1 p X M m.toNat x1 so (fun n hn=>by have:=hx n hn; have:=hb n hn; omega) (by omega) h1
theorem Aq {S:DH} {f:Addr} {c:List (List Int×Rat)} {e1:Nat} {p:Addr} {k:DK} (j:Int) (g:List Int->Int) (hg:∀ x∈c,L2.atI (x.1.map D.int) j=some (.int (g x.1))) (hp:S p=none) (hf:S f=some (bN (lq c) e1)) (hl:c.length<=100) (kk:∀ S2,aN S S2->S2 p=some (.lst ((c.map fun x=>g x.1).map D.int))->k (.ref p) S2):
  ∀ (ao don:List (List Int×Rat)) (l0:Option D) (S1:DH),c=don++ao->aN S S1->S1 p=some (.lst ((don.map fun x=>g x.1).map D.int))->
   cw (fun S=>S f=some (bN (lq c) e1)) p (iR 0) (gL (kB kg (cP 0) (dC (.int j)))) k (ao.map fun x=>cL x.1) ((don.map fun x=>g x.1).map D.int) [l0] S1
 | [],don,l0,S1,ec,x1,h1=>by
  rw [List.append_nil] at ec
  subst ec
  exact⟨x1 _ _ hf,kk S1 x1 h1⟩
 | q::ao,don,l0,S1,ec,x1,h1=>by
  have e0:=hg q (by rw [ec]; simp)
  refine⟨x1 _ _ hf,?_⟩
  show(match L2.atI (q.1.map D.int) j with | some c=>_ | none=>False)
  rw [e0]
  refine⟨h1,?_,?_⟩
  ·rw [List.length_map,List.length_map]
   have:=congrArg List.length ec
   rw [List.length_append,List.length_cons] at this
   exact lim (by omega)
  ·have ea:(don.map fun x=>g x.1).map D.int++[D.int (g q.1)]=((don++[q]).map fun x=>g x.1).map D.int:=by simp
   rw [ea]
   exact Aq j g hg hp hf hl kk ao (don++[q]) _ _ (by rw [ec]; simp) (x1.put hp) ak
theorem yY {u:Rat} {x y:Q} {c:List (List Int×Rat)} {p:List Int×Rat} {s:Q}:nr u x y (c++[p]) s=qa (nr u x y c s) (qk p.2 (mon u x y p.1)):=by
 unfold nr
 rw [List.foldl_append]
 rfl
theorem xk (b d:Rat):(b=0\/pick b d≠0)/\(d=0\/pick b d≠0):=by
 unfold pick
 by_cases h:b=0
 ·rw [if_pos h]
  exact⟨.inl h,Classical.em _⟩
 ·rw [if_neg h]
  exact⟨.inr h,.inr h⟩
def lc:b_:=fun ds S k=>∃ (u e:Rat) (x y:Q) (s τ:Nat) (a:Addr) (c:List (List Int×Rat)) (ep:Nat) (B:Int) (nB:Nat),ds=[.ref a,Pq u x y,fr (e*e*u)]/\S a=some (bN (lq c) ep)/\Cv 28 900 6 c/\c≠[]/\0 < B/\Bt nB B/\nB<=3000/\(∀ p∈c,(p.2.den:Int) ∣ B)/\0 < u/\Sz τ u/\τ<=600/\(x.2=0\/e≠0)/\(y.2=0\/e≠0)/\Sq s x/\Sq s y/\Sz s e/\1<=s/\s<=830/\
 ∀ S' P M v',aN S S'->0 < M->Bt (nB+13*(9*s+2*τ+2)) M->Rl (ab e*(((e*e*u).den:Int):Rat)) (nr u x y c (0,0)) v'->qc P=qk (M:Rat) v'->k (.tup [iD P,.int M]) S'
theorem bD:ar ["curve","point","base","xs","ys","bottom","part","portion","key","top","surd"] ["curve","point","base"] (ap ko):=dN
theorem sQ (Fn:cT K "side_over" "side_over" ko f fd) (fV:aQ P w K mg base "powers_over" 39 iV) (cF:aQ P w K mg base "common_bottom" 35 eF) (cI:aQ P w K mg base "tops_over" 1 gj) (bI:aQ P w K mg base "surd_times" 1 fb) (nU:mg "list"=none):
  aH P w K mg base cQ 40 f fd ["curve","point","base"] (cY K lc):=by
 refine Fn.okJ bD (fun ds S k h=>?_) (fun cdv A outer s H E hr=>⟨_,(af (ag (i:=3) bD.nd (dq fV hr (aa (ai aj (ac 1) ad (fun _ _=>rfl)) (aa (ld rfl (jz (N:=["key"]) (cap:=[none]) rfl rfl rfl rfl trivial rfl rfl trivial) (nC (ac 0)) (fun _ _ _ _=>(aw (i:=0) (show List.Nodup (["key"]:List Str) from by decide +kernel))) (fun _ _ _ _=>(ai aj (ac 0) ad (fun _ _=>rfl)))) (aa (ac 2) ae))))) (af (ag (i:=4) bD.nd (dq fV hr (aa (ai aj (ac 1) ad (fun _ _=>rfl)) (aa (ld rfl (jz (N:=["key"]) (cap:=[none]) rfl rfl rfl rfl trivial rfl rfl trivial) (nC (ac 0)) (fun _ _ _ _=>(aw (i:=0) (show List.Nodup (["key"]:List Str) from by decide +kernel))) (fun _ _ _ _=>(ai aj (ac 0) ad (fun _ _=>rfl)))) (aa (ac 2) ae))))) (af (ag (i:=5) bD.nd (dq cF hr (aa (uK rfl rfl nU (ac 0)) ae))) (af (ag (i:=6) bD.nd ad) (af (ag (i:=7) bD.nd ad) (af (dc PassesOwn.never rfl (ff (dq cI hr (aa (ac 0) (aa (ac 5) ae)))) (fC (n:=2) rfl (aJ (aw (i:=8) bD.nd) (aJ (aw (i:=9) bD.nd) dP))) (af (ag (i:=10) bD.nd (dq bI hr (aa (xQ hr (ai aj (ac 3) ad (fun _ _=>rfl)) (ai aj (ac 8) ad (fun _ _=>rfl)) (fun _ _=>rfl)) (aa (xQ hr (ai aj (ac 4) ad (fun _ _=>rfl)) (ai aj (ac 8) ad (fun _ _=>rfl)) (fun _ _=>rfl)) (aa (au aV (ai aj (ac 2) ad (fun _ _=>rfl)) (ai aj (ac 2) ad (fun _ _=>rfl))) ae))))) (af (ag (i:=6) bD.nd (au cB (ac 6) (au aV (ac 9) (ai aj (ac 10) ad (fun _ _=>rfl))))) (ah (ag (i:=7) bD.nd (au cB (ac 7) (au aV (ac 9) (ai aj (ac 10) ad (fun _ _=>rfl))))))))) (ah (am (aq (aa (aq (aa (ac 6) (aa (ac 7) ae))) (aa (au aV (au aV (ac 5) (ai aj (ac 3) ad (fun _ _=>rfl))) (ai aj (ac 4) ad (fun _ _=>rfl))) ae))))))))))),fun ds S k h=>?_⟩)
 ·obtain⟨_,_,_,_,_,_,_,_,_,_,_,rfl,_⟩:=h
  rfl
 ·obtain⟨u,e,x,y,s,τ,a,c,ep,B,nB,rfl,ha,hc,hne,B0,bB,hnB,hdv,u0,su,ht6,bx,by_,sx,sy,se,s1,s100,w⟩:=h
  have key:∀ q∈c,∃ i j:Int,q.1=[i,j]/\(0<=i/\i < 7)/\(0<=j/\j < 7):=fun q hq=>by
   obtain⟨i,j,ek,i0,j0,i1,j1⟩:=hc.sm q hq
   exact⟨i,j,ek,⟨i0,by omega⟩,⟨j0,by omega⟩⟩
  have hl:=hc.hl
  have c0:∀ (g:List Int->Int),(c.map fun x=>g x.1)≠[]:=fun g z=>hne (by simpa using z)
  have b0:∀ n∈c.map (fun x=>x.1.getD 0 0),0<=n/\n < 7:=fun n hn=>by
   obtain⟨q,hq,rfl⟩:=List.mem_map.mp hn
   obtain⟨i,j,ek,hi,hj⟩:=key q hq
   rw [ek]
   exact hi
  have b1:∀ n∈c.map (fun x=>x.1.getD 1 0),0<=n/\n < 7:=fun n hn=>by
   obtain⟨q,hq,rfl⟩:=List.mem_map.mp hn
   obtain⟨i,j,ek,hi,hj⟩:=key q hq
   rw [ek]
   exact hj
  refine⟨_,_,ha,fun p1 hp1=>?_⟩
  rw [GW]
  refine Aq (S:=S) 0 (fun k=>k.getD 0 0) (fun q hq=>by obtain⟨i,j,ek,_⟩:=key q hq; rw [ek]; rfl) hp1 ha (by omega) (fun S1 x1 h1=>?_) c [] none _ rfl (aN.new hp1) ak
  refine⟨u,x.1,x.2,e,s,τ,p1,_,rfl,h1,c0 (fun k=>k.getD 0 0),by rw [List.length_map]; omega,b0,u0,su,ht6,bx,sx.a,sx.b,se,s1,s100,fun S2 q1 X MX mx x2 soX hmx mx7 hX=>?_⟩
  have ha2:=x2 _ _ (x1 _ _ ha)
  refine⟨_,_,ha2,fun p2 hp2=>?_⟩
  rw [GW]
  refine Aq (S:=S2) 1 (fun k=>k.getD 1 0) (fun q hq=>by obtain⟨i,j,ek,_⟩:=key q hq; rw [ek]; rfl) hp2 ha2 (by omega) (fun S3 x3 h3=>?_) c [] none _ rfl (aN.new hp2) ak
  refine⟨u,y.1,y.2,e,s,τ,p2,_,rfl,h3,c0 (fun k=>k.getD 1 0),by rw [List.length_map]; omega,b1,u0,su,ht6,by_,sy.a,sy.b,se,s1,s100,fun S4 q2 Y MY my x4 soY hmy my7 hY=>?_⟩
  have X4:=(x1.trans x2).trans (x3.trans x4)
  have ha4:=X4 _ _ ha
  have hX4:=x4 _ _ (x3 _ _ hX)
  refine⟨_,_,ha4,fun p3 hp3=>⟨p3,c.map (·.2),B,rfl,?_,B0,bB.mono (by omega),fun q hq=>?_,?_⟩⟩
  ·rw [ak]
   congr 2
   show List.map _ (List.map _ c)=List.map _ (List.map _ c)
   rw [List.map_map,List.map_map]
   rfl
  ·obtain⟨r,hr,rfl⟩:=List.mem_map.mp hq
   exact hdv r hr
  have X5:aN S (put S4 p3 (.lst ((lq c).map (·.2)))):=X4.trans (aN.new hp3)
  have ha5:put S4 p3 (.lst ((lq c).map (·.2))) a=_:=av hp3 ha4
  have hX5:put S4 p3 (.lst ((lq c).map (·.2))) q1=_:=av hp3 hX4
  have hY5:put S4 p3 (.lst ((lq c).map (·.2))) q2=_:=av hp3 hY
  generalize put S4 p3 (.lst ((lq c).map (·.2)))=S5 at X5 ha5 hX5 hY5 ⊢
  have Bp:0 < sJ 1 (c.map (·.2)):=sK (by decide)
  have Bd:sJ 1 (c.map (·.2)) ∣ B:=wH (Int.one_dvd B) fun q hq=>by
   obtain⟨r,hr,rfl⟩:=List.mem_map.mp hq
   exact hdv r hr
  have Bb:=kf Bd (by omega) bB
  have Bq:∀ q∈c,(q.2.den:Int) ∣ sJ 1 (c.map (·.2)):=fun q hq=>(o7 (m:=1)).2 _ (List.mem_map_of_mem hq)
  generalize sJ 1 (c.map (·.2))=Bc at Bp Bd Bb Bq ⊢
  refine⟨a,c,ep,Bc,rfl,ha5,hc.nd,by omega,fun q hq=>(hc.hz q hq).mono (by decide),Bb.mono (by omega),fun S6 pt et x6 ht=>⟨_,_,ht,?_⟩⟩
  have hX6:=x6 _ _ hX5
  have hY6:=x6 _ _ hY5
  have sB:=(se.mul se).mul su
  have bUU:Bt (9*s+2*τ+2) (bU e u):=(sB.num.mul sB.den).mono (by omega)
  have hU:=CQ (β:=e*e*u) (e:=e) (u:=u) rfl
  obtain⟨x',rx,eX⟩:=soX.rel
  obtain⟨y',ry,eY⟩:=soY.rel
  have bd:∀ {x:Int×Int} {t:Nat},B2 (9*s+2*τ+2) x->t<=7->B2 200000 (iH (bU e u) x t):=fun {x t} h ht=>(h.pw bUU t).mono (by
   have:t*(9*s+2*τ+2+(9*s+2*τ+2)+1)<=7*(9*s+2*τ+2+(9*s+2*τ+2)+1):=Nat.mul_le_mul_right _ ht
   omega)
  have sMX:B2 (9*s+2*τ+2) (MX,(0:Int)):=⟨soX.bM,(show Bt 1 0 by decide).mono (by omega)⟩
  have sMY:B2 (9*s+2*τ+2) (MY,(0:Int)):=⟨soY.bM,(show Bt 1 0 by decide).mono (by omega)⟩
  have pX:∀ t,mx - t<=7:=fun t=>by omega
  have pY:∀ t,my - t<=7:=fun t=>by omega
  have bX:=lQ soX.bM mx
  have bY:=lQ soY.bM my
  have bX':Bt (6*(9*s+2*τ+2)+1) (MX ^ mx):=bX.mono (by have:mx*(9*s+2*τ+2)<=6*(9*s+2*τ+2):=Nat.mul_le_mul_right _ (by omega); omega)
  have bY':Bt (6*(9*s+2*τ+2)+1) (MY ^ my):=bY.mono (by have:my*(9*s+2*τ+2)<=6*(9*s+2*τ+2):=Nat.mul_le_mul_right _ (by omega); omega)
  refine bh (fun r L S'=>S'=S6/\∃ (don ao:List (List Int×Rat)) (l8 l9 l10:Option D) (P:Int×Int),c=don++ao/\r=dL (aX (ao.map fun x=>(x.1,dZ Bc x.2)))/\L=[some (.ref a),some (Pq u x y),some (fr (e*e*u)),some (.tup [.ref q1,.int (MX ^ mx)]),some (.tup [.ref q2,.int (MY ^ my)]),some (.int Bc),some (.int P.1),some (.int P.2),l8,l9,l10]/\qc P=qk ((Bc:Rat)*((MX:Rat) ^ mx*(MY:Rat) ^ my)) (nr ((bU e u:Int):Rat) x' y' don (0,0))) (fun r L S' ⟨h,_⟩=>by rw [h]; exact ht) ?_ ?_ _ _ _ ⟨rfl,[],c,none,none,none,(0,0),rfl,rfl,rfl,by show(((0:Int):Rat),((0:Int):Rat))=qk _ ((0:Rat),(0:Rat)); unfold qk; apply Prod.ext <;> dsimp only <;> rw [Rat.mul_zero] <;> rfl⟩
  ·rintro d r L S' N1 ⟨rfl,don,ao,l8,l9,l10,P,ec,er,rfl,eP⟩ hN
   cases ao with
   | nil=>cases er
   | cons q ao=>
    cases er
    have mq:q∈c:=by rw [ec]; simp
    obtain⟨i,j,ek,hi,hj⟩:=key q mq
    obtain⟨k0,t0⟩:=q
    have ek:k0=[i,j]:=ek
    subst ek
    have mi:i∈m_ (c.map fun x=>x.1.getD 0 0):=(ke b0).mpr (List.mem_map.mpr ⟨_,mq,rfl⟩)
    have mj:j∈m_ (c.map fun x=>x.1.getD 1 0):=(ke b1).mpr (List.mem_map.mpr ⟨_,mq,rfl⟩)
    have li:=hmx i ((ke b0).mp mi)
    have lj:=hmy j ((ke b1).mp mj)
    have z1:=(bd soX.bX (show i.toNat<=7 by omega)).mul (bd sMX (pX i.toNat)) bUU
    have z2:=(bd soY.bX (show j.toNat<=7 by omega)).mul (bd sMY (pY j.toNat)) bUU
    have z1':=z1.mono (show 200000+200000+(9*s+2*τ+2)+1<=500000 by omega)
    have z2':=z2.mono (show 200000+200000+(9*s+2*τ+2)+1<=500000 by omega)
    have z3:=z1'.mul z2' bUU
    have bt:Bt (900+nB) (dZ Bc t0):=(hc.hz _ mq).num.mul (Bb.le (HM.aC _ _))
    refine⟨([cL [i,j],.int (dZ Bc t0)],none),rfl,rfl,rfl,_,_,hX6,sI mi,_,_,hY6,sI mj,iB sB.num sB.den (by omega),_,_,bU e u,500000,rfl,z1',z2',bUU.mono (by omega),by decide,iB bt z3.a (by omega),iB bt z3.b (by omega),hN _ _ ⟨rfl,don++[([i,j],t0)],ao,_,_,_,(P.1+dZ Bc t0*_,P.2+dZ Bc t0*_),by rw [ec]; simp,rfl,rfl,?_⟩⟩
    have e1:=w6 (U:=bU e u) eX li
    have e2:=w6 (U:=bU e u) eY lj
    have e3:=wE (bU e u) (eW (bU e u) (iH (bU e u) X i.toNat) (iH (bU e u) (MX,0) (mx - i.toNat))) (eW (bU e u) (iH (bU e u) Y j.toNat) (iH (bU e u) (MY,0) (my - j.toNat)))
    rw [e1,e2,F3] at e3
    have e4:qm ((bU e u:Int):Rat) (zu ((bU e u:Int):Rat) x' i.toNat) (zu ((bU e u:Int):Rat) y' j.toNat)=mon ((bU e u:Int):Rat) x' y' [i,j]:=rfl
    rw [e4] at e3
    generalize eW (bU e u) (eW (bU e u) (iH (bU e u) X i.toNat) (iH (bU e u) (MX,0) (mx - i.toNat))) (eW (bU e u) (iH (bU e u) Y j.toNat) (iH (bU e u) (MY,0) (my - j.toNat)))=Zp at e3 ⊢
    have et:=lu (Bq _ mq)
    have et:((dZ Bc t0:Int):Rat)=Bc*t0:=et
    rw [yY,K7,<- eP,Kn]
    show(((P.1+dZ Bc t0*Zp.1:Int):Rat),((P.2+dZ Bc t0*Zp.2:Int):Rat))=qa (qc P) (qk _ (mon ((bU e u:Int):Rat) x' y' [i,j]))
    have f1:((Zp.1:Int):Rat)=_:=congrArg Prod.fst e3
    have f2:((Zp.2:Int):Rat)=_:=congrArg Prod.snd e3
    unfold qk at f1 f2
    dsimp only at f1 f2
    unfold qa qk qc
    apply Prod.ext <;> dsimp only <;> rw [Rat.intCast_add,Rat.intCast_mul,et]
    ·rw [f1]
     grind
    ·rw [f2]
     grind
  ·rintro L S' ⟨rfl,don,ao,l8,l9,l10,P,ec,er,rfl,eP⟩
   cases ao with
   | cons q ao=>cases er
   | nil=>
    rw [List.append_nil] at ec
    subst ec
    have M0:0 < Bc*MX ^ mx*MY ^ my:=Int.mul_pos (Int.mul_pos Bp (Int.pow_pos soX.M0)) (Int.pow_pos soY.M0)
    refine⟨few,iB Bb bX' (by omega),iB (Bb.mul bX') bY' (by omega),few,w S' P _ _ (X5.trans x6) M0 (((Bb.mul bX').mul bY').mono (by omega)) (rx.val hU ry c Rl.zero) ?_⟩
    have eM:((Bc*MX ^ mx*MY ^ my:Int):Rat)=(Bc:Rat)*((MX:Rat) ^ mx*(MY:Rat) ^ my):=by rw [Rat.intCast_mul,Rat.intCast_mul,Rat.intCast_pow,Rat.intCast_pow,Rat.mul_assoc]
    rw [eP,eM]
theorem HQ {a b:Int}:mF 8 (.tup [.int a,.int b]) (.tup [.int 0,.int 0])=some (decide (a=0/\b=0)):=by
 rw [GT (n:=7) eq_int eq_int]
 congr 1
 by_cases h1:a=0 <;> by_cases h2:b=0 <;> simp [h1,h2]
def ip:b_:=fun ds S k=>∃ (u:Rat) (x y:Q) (s τ:Nat) (a:Addr) (c:List (List Int×Rat)) (ep:Nat) (B:Int) (nB:Nat),ds=[.ref a,Pq u x y]/\S a=some (bN (lq c) ep)/\Cv 28 900 6 c/\0 < B/\Bt nB B/\nB<=3000/\(∀ p∈c,(p.2.den:Int) ∣ B)/\0 < u/\Sz τ u/\τ<=600/\Sq s x/\Sq s y/\1<=s/\s<=830/\∀ S',aN S S'->k (.bl (decide (nr u x y c (0,0)=(0,0)))) S'
theorem uo:ar ["curve","point"] ["curve","point"] (ap lY):=dN
theorem u5 (Fn:cT K "on_curve" "on_curve" lY f fd) (kP:aQ P w K mg base "side_over" 40 lc) (jD:aQ P w K mg base "field_base" 2 jM) (j4:mg "len"=none):
  aH P w K mg base cQ 41 f fd ["curve","point"] (cY K ip):=by
 refine Fn.okJ uo (fun ds S k h=>?_) (fun cdv A outer s H E hr=>⟨_,(af (aE (ax (rN hr) (cU CD rfl j4 tL (aa (ac 0) ae)) ad (ay _)) (ah (am kJ)) aD) (ah (am (kK (rN hr) (ai aj (dq kP hr (aa (ac 0) (aa (ac 1) (aa (dq jD hr (aa (ai aj (ac 1) ad (fun _ _=>rfl)) (aa (ai aj (ac 1) ad (fun _ _=>rfl)) ae))) ae)))) ad (fun _ _=>rfl)) (aq (aa ad (aa ad ae))) (ay _))))),fun ds S k h=>?_⟩)
 ·obtain⟨_,_,_,_,_,_,_,_,_,_,rfl,_⟩:=h
  rfl
 ·obtain⟨u,x,y,s,τ,a,c,ep,B,nB,rfl,ha,hc,B0,bB,hnB,hdv,u0,su,ht6,sx,sy,s1,s100,w⟩:=h
  by_cases hne:c=[]
  ·subst hne
   exact⟨_,_,ha,true,rfl,lJ (fun _=>w S (aN.refl S)) (fun z=>by cases z)⟩
  ·have l0:mF 8 (.int (((lq c).length:Nat):Int)) (.int 0)=some false:=by
    rw [eI]
    cases c with
    | nil=>exact absurd rfl hne
    | cons p c=>
     show some (decide (((c.length+1:Nat):Int)=0))=some false
     rw [decide_eq_false (by omega)]
   refine⟨_,_,ha,false,l0,lJ (fun z=>by cases z) (fun _=>?_)⟩
   have se:=Sz.pick sx.b sy.b
   refine⟨u,x.1,x.2,y.1,y.2,rfl,u0,?_⟩
   refine⟨u,pick x.2 y.2,x,y,s,τ,a,c,ep,B,nB,rfl,ha,hc,hne,B0,bB,hnB,hdv,u0,su,ht6,(xk _ _).1,(xk _ _).2,sx,sy,se,s1,by omega,fun S1 P M v' x1 M0 bM rl eP=>⟨few,decide (nr u x y c (0,0)=(0,0)),?_,w S1 x1⟩⟩
   have m0:(M:Rat)≠0:=fun z=>by
    have:=Rat.intCast_inj.mp (show (M:Rat)=((0:Int):Rat) from z)
    omega
   have q1:(P.1:Rat)=M*v'.1:=congrArg Prod.fst eP
   have q2:(P.2:Rat)=M*v'.2:=congrArg Prod.snd eP
   have zz:∀ {t:Int} {q:Rat},(t:Rat)=M*q->(t=0↔q=0):=fun {t q} h=>by
    constructor
    ·intro e
     rw [e] at h
     have h:(0:Rat)=M*q:=h
     grind
    ·intro e
     rw [e,Rat.mul_zero] at h
     exact Rat.intCast_inj.mp (by rw [h]; rfl)
   have i1:=zz q1
   have i2:=zz q2
   have i3:v'.2=0↔(nr u x y c (0,0)).2=0:=by
    have b:=rl.b
    have z:=rl.z
    constructor
    ·intro e
     rw [b,e,Rat.mul_zero]
    ·intro e
     rw [e] at b
     grind
   have fin:(P.1=0/\P.2=0)↔nr u x y c (0,0)=(0,0):=by
    rw [i1,i2,i3,rl.a]
    exact⟨fun h=>Prod.ext h.1 h.2,fun h=>by rw [h]; exact⟨rfl,rfl⟩⟩
   rw [<- decide_eq_decide.mpr fin]
   exact HQ
set_option maxHeartbeats 4000000
structure V4 where
 a:Rat
 b:Rat
 c:Rat
 d:Rat
structure Rp (u h x1 x2 y1 y2:Rat) (t b:V4):Prop where
 e1:t.a=x1*b.a+x2*(b.b*h)*u - (y1*b.c+y2*(b.d*h)*u)
 e2:t.b*h=x1*(b.b*h)+x2*b.a - (y1*(b.d*h)+y2*b.c)
 e3:t.c=x1*b.c+x2*(b.d*h)*u+(y1*b.a+y2*(b.b*h)*u)
 e4:t.d*h=x1*(b.d*h)+x2*b.c+(y1*(b.b*h)+y2*b.a)
def Nz (h:Rat) (v:V4):Prop:=¬ (v.a=0/\v.b*h=0/\v.c=0/\v.d*h=0)
def LX (b:V4):Rat:=(b.a*b.b+b.b*b.a)+(b.c*b.d+b.d*b.c)
theorem Jy {x:Rat} (h:x*x=0):x=0:=by
 rcases Rat.mul_eq_zero.mp h with z | z <;> exact z
inductive Ld where
 | shift (x y:Rat)
 | grow (x y b:Rat)
 | turn (x y p q:Rat)
 | mirror (a b c:Rat)
 | invert (x y p:Rat)
abbrev Z4:=Q×Q
structure Fl where
 p:Rat
 q:Rat
 r:Rat
 s:Rat
 m:Bool
noncomputable def wk:Ld->Fl
 | .shift x y=>⟨1,0,x,y,false⟩
 | .mirror a b c=>⟨0+(a*a - b*b)*(-1 / (a*a+b*b)),0+(b*a+a*b)*(-1 / (a*a+b*b)),0+a*(-2*c / (a*a+b*b)),0+b*(-2*c / (a*a+b*b)),true⟩
 | .grow x y b=>⟨b,0,x - (b*x - 0*y),y - (0*x+b*y),false⟩
 | .turn x y p q=>⟨p,q,x - (p*x - q*y),y - (q*x+p*y),false⟩
 | .invert _ _ _=>⟨0,0,0,0,false⟩
def gP:Ld->Bool
 | .invert _ _ _=>true
 | _=>false
def lB:Ld->Prop
 | .turn _ _ p q=>p*p+q*q=1
 | .mirror a b _=>a*a+b*b≠0
 | .grow _ _ b=>b≠0
 | .invert _ _ p=>p≠0
 | _=>True
abbrev Rz (u h:Rat) (z:Z4) (t b:V4):Prop:=Rp u h z.1.1 z.1.2 z.2.1 z.2.2 t b
structure I4 where
 a:Int
 b:Int
 c:Int
 d:Int
def I4.v (i:I4):V4:=⟨i.a,i.b,i.c,i.d⟩
structure B4 (n:Nat) (i:I4):Prop where
 a:Bt n i.a
 b:Bt n i.b
 c:Bt n i.c
 d:Bt n i.d
def K' (h:Rat) (i:I4):Prop:=h=0->i.b=0/\i.d=0
theorem Hv {a b:Int} (ha:0 < a) (hb:0 < b):a.fdiv ((Int.gcd a b:Nat):Int)*b=((Int.lcm a b:Nat):Int):=by
 have g0:0 < ((Int.gcd a b:Nat):Int):=by
  have:=Int.gcd_pos_of_ne_zero_left (a:=a) b (by omega)
  omega
 rw [ow _ g0]
 have h1:((Int.gcd a b:Nat):Int)*((Int.lcm a b:Nat):Int)=a*b:=by
  have:=Int.gcd_mul_lcm a b
  have e:((Int.gcd a b*Int.lcm a b:Nat):Int)=(((a*b).natAbs:Nat):Int):=by rw [this,Int.natAbs_mul]
  rw [Int.natCast_mul] at e
  rw [e]
  have:=Int.mul_pos ha hb
  omega
 have h2:((Int.gcd a b:Nat):Int) ∣ a:=Int.gcd_dvd_left ..
 have h3:((Int.gcd a b:Nat):Int)*(a / ((Int.gcd a b:Nat):Int))=a:=Int.mul_ediv_cancel' h2
 have h4:((Int.gcd a b:Nat):Int)*(a / ((Int.gcd a b:Nat):Int)*b)=((Int.gcd a b:Nat):Int)*((Int.lcm a b:Nat):Int):=by
  rw [h1,<- Int.mul_assoc,h3]
 exact Int.eq_of_mul_eq_mul_left (by omega) h4
theorem lcm_pos {a b:Int} (ha:0 < a) (hb:0 < b):0 < ((Int.lcm a b:Nat):Int):=by
 have:=Int.lcm_pos (m:=a) (n:=b) (by omega) (by omega)
 omega
theorem Ft {m n:Nat} {a b:Int} (ha:Bt m a) (hb:Bt n b) (pa:0 < a) (pb:0 < b):Bt (m+n) ((Int.lcm a b:Nat):Int):=by
 rw [<- Hv pa pb]
 exact Bt.mul (ha.le (HM.aC _ _)) hb
def jL (m:Int):List Rat->Int
 | []=>m
 | q::qs=>jL ((Int.lcm m (q.den:Int):Nat):Int) qs
theorem kG (q:Rat):0 < (q.den:Int):=by have:=q.den_pos; omega
theorem qz:∀ {qs:List Rat} {m:Int},0 < m->0 < jL m qs
 | [],_,h=>h
 | q::qs,_,h=>qz (qs:=qs) (lcm_pos h (kG q))
theorem qD:∀ {qs:List Rat} {m:Int},m ∣ jL m qs/\∀ q∈qs,(q.den:Int) ∣ jL m qs
 | [],m=>⟨Int.dvd_refl _,fun _ h=>nomatch h⟩
 | p::qs,m=>by
  obtain⟨h1,h2⟩:=qD (qs:=qs) (m:=((Int.lcm m (p.den:Int):Nat):Int))
  refine⟨Int.dvd_trans (Int.dvd_lcm_left ..) h1,fun q hq=>?_⟩
  rcases List.mem_cons.mp hq with rfl | hq
  ·exact Int.dvd_trans (Int.dvd_lcm_right ..) h1
  ·exact h2 q hq
theorem mC:∀ {qs:List Rat} {m k:Int},m ∣ k->(∀ q∈qs,(q.den:Int) ∣ k)->jL m qs ∣ k
 | [],_,_,h,_=>h
 | p::qs,m,k,h,hq=>mC (qs:=qs) (Int.coe_lcm_dvd h (hq p List.mem_cons_self)) fun q h=>hq q (List.mem_cons_of_mem _ h)
theorem oV {q:Rat} {k P:Int} (e:q*k=P):(q.den:Int) ∣ k:=by
 have h1:(q.num:Rat)=q*(q.den:Rat):=iG q
 have h2:((q.num*k:Int):Rat)=((P*(q.den:Int):Int):Rat):=by
  rw [Rat.intCast_mul,Rat.intCast_mul,h1,<- e]
  show q*(q.den:Rat)*(k:Rat)=q*(k:Rat)*((q.den:Int):Rat)
  rw [show (((q.den:Nat):Int):Rat)=(q.den:Rat) from rfl]
  grind
 have h3:q.num*k=P*(q.den:Int):=by exact_mod_cast h2
 have h4:(q.den:Int) ∣ q.num*k:=⟨P,by rw [h3,Int.mul_comm]⟩
 have h5:q.den ∣ q.num.natAbs*k.natAbs:=by
  rw [<- Int.natAbs_mul]
  exact Int.ofNat_dvd_left.mp h4
 exact Int.ofNat_dvd_left.mpr (Nat.Coprime.dvd_of_dvd_mul_left q.reduced.symm h5)
def dO (q:Rat) (m:Int):Int:=q.num*m.fdiv (q.den:Int)
theorem lS {q:Rat} {m:Int} (h:(q.den:Int) ∣ m):(dO q m:Rat)=q*(m:Rat):=by
 obtain⟨j,rfl⟩:=h
 unfold dO
 rw [ow _ (kG q),Int.mul_ediv_cancel_left _ (fE q),Rat.intCast_mul,Rat.intCast_mul,iG q]
 show q*(q.den:Rat)*(j:Rat)=q*((((q.den:Nat):Int):Rat)*(j:Rat))
 rw [show (((q.den:Nat):Int):Rat)=(q.den:Rat) from rfl]
 grind
theorem tD {n:Nat} {q:Rat} {m k P:Int} (e:q*k=P) (h:(q.den:Int) ∣ m) (hm:m ∣ k) (k0:k≠0) (hP:Bt n P):Bt n (dO q m):=by
 refine hP.le ?_
 have e1:=lS h
 have e2:dO q m*k=P*m:=by
  have:((dO q m*k:Int):Rat)=((P*m:Int):Rat):=by
   rw [Rat.intCast_mul,Rat.intCast_mul,e1,<- e]; grind
  exact_mod_cast this
 have e3:(dO q m).natAbs*k.natAbs=P.natAbs*m.natAbs:=by rw [<- Int.natAbs_mul,<- Int.natAbs_mul,e2]
 have h4:m.natAbs<=k.natAbs:=Nat.le_of_dvd (by omega) (Int.natAbs_dvd_natAbs.mpr hm)
 have h5:=Nat.mul_le_mul_left P.natAbs h4
 rw [<- e3] at h5
 exact Nat.le_of_mul_le_mul_right h5 (by omega)
theorem nd (q:Rat):((q.num:Int):Rat)=q*(((q.den:Nat):Int):Rat):=iG q
theorem dn (q:Rat):(((q.den:Nat):Int):Rat)≠0:=pe q
def oD:Ld->Prop
 | .shift x y=>Sz 24 x/\Sz 24 y
 | .grow x y b=>Sz 24 x/\Sz 24 y/\Sz 24 b
 | .turn x y p q=>Sz 24 x/\Sz 24 y/\∃ P Q E:Int,E≠0/\Bt 40 P/\Bt 40 Q/\Bt 40 E/\p*E=P/\q*E=Q
 | .mirror a b c=>Sz 24 a/\Sz 24 b/\Sz 24 c
 | .invert x y p=>Sz 24 x/\Sz 24 y/\Sz 26 p
structure B6 (f:Fl) (k P Q R S:Int):Prop where
 k0:k≠0
 bk:Bt 136 k
 bP:Bt 136 P
 bQ:Bt 136 Q
 bR:Bt 136 R
 bS:Bt 136 S
 p:f.p*k=P
 q:f.q*k=Q
 r:f.r*k=R
 s:f.s*k=S
theorem pD {x y p q:Rat} {P Q E:Int} (hx:Sz 24 x) (hy:Sz 24 y) (e0:E≠0) (bP:Bt 40 P) (bQ:Bt 40 Q) (bE:Bt 40 E) (hp:p*E=P) (hq:q*E=Q):
  B6 ⟨p,q,x - (p*x - q*y),y - (q*x+p*y),false⟩ (E*((x.den:Int)*(y.den:Int))) (P*((x.den:Int)*(y.den:Int))) (Q*((x.den:Int)*(y.den:Int)))
   (x.num*E*(y.den:Int) - (P*x.num*(y.den:Int) - Q*y.num*(x.den:Int))) (y.num*E*(x.den:Int) - (Q*x.num*(y.den:Int)+P*y.num*(x.den:Int))) where
 k0:=Int.mul_ne_zero e0 (aI x y)
 bk:=(bE.mul (hx.den.mul hy.den)).mono (by decide)
 bP:=(bP.mul (hx.den.mul hy.den)).mono (by decide)
 bQ:=(bQ.mul (hx.den.mul hy.den)).mono (by decide)
 bR:=(((hx.num.mul bE).mul hy.den).sub (((bP.mul hx.num).mul hy.den).sub ((bQ.mul hy.num).mul hx.den))).mono (by decide)
 bS:=(((hy.num.mul bE).mul hx.den).sub (((bQ.mul hx.num).mul hy.den).add ((bP.mul hy.num).mul hx.den))).mono (by decide)
 p:=by simp only [Rat.intCast_mul,Rat.intCast_sub,Rat.intCast_add]; rw [<- hp]; grind
 q:=by simp only [Rat.intCast_mul,Rat.intCast_sub,Rat.intCast_add]; rw [<- hq]; grind
 r:=by simp only [Rat.intCast_mul,Rat.intCast_sub,Rat.intCast_add]; rw [<- hp,<- hq,nd x,nd y]; grind
 s:=by simp only [Rat.intCast_mul,Rat.intCast_sub,Rat.intCast_add]; rw [<- hp,<- hq,nd x,nd y]; grind
theorem vL {a b c:Rat} (ha:Sz 24 a) (hb:Sz 24 b) (hc:Sz 24 c) (n:a*a+b*b≠0):∃ k P Q R S,B6 (wk (.mirror a b c)) k P Q R S:=by
 have dA:=dn a
 have dB:=dn b
 have dC:=dn c
 have bA:Bt 48 (a.num*(b.den:Int)):=ha.num.mul hb.den
 have bB:Bt 48 (b.num*(a.den:Int)):=hb.num.mul ha.den
 have eA:((a.num*(b.den:Int):Int):Rat)=a*(((a.den:Int):Rat)*((b.den:Int):Rat)):=by rw [Rat.intCast_mul,nd a]; grind
 have eB:((b.num*(a.den:Int):Int):Rat)=b*(((a.den:Int):Rat)*((b.den:Int):Rat)):=by rw [Rat.intCast_mul,nd b]; grind
 generalize a.num*(b.den:Int)=A at bA eA
 generalize b.num*(a.den:Int)=B at bB eB
 have eC:=nd c
 have dd:(((a.den:Int)*(b.den:Int):Int):Rat)=((a.den:Int):Rat)*((b.den:Int):Rat):=by rw [Rat.intCast_mul]
 have bd:Bt 48 ((a.den:Int)*(b.den:Int)):=ha.den.mul hb.den
 have dne:((a.den:Int):Rat)*((b.den:Int):Rat)≠0:=fun z=>by rcases Rat.mul_eq_zero.mp z with q | q; exact dA q; exact dB q
 rw [<- dd] at eA eB dne
 generalize (a.den:Int)*(b.den:Int)=d at bd eA eB dne
 have es:((A*A+B*B:Int):Rat)=(a*a+b*b)*((d:Rat)*(d:Rat)):=by
  rw [Rat.intCast_add,Rat.intCast_mul,Rat.intCast_mul,eA,eB]; grind
 have sne:((A*A+B*B:Int):Rat)≠0:=fun z=>by
  rw [es] at z
  rcases Rat.mul_eq_zero.mp z with q | q
  ·exact n q
  ·rcases Rat.mul_eq_zero.mp q with q | q <;> exact dne q
 have s0:A*A+B*B≠0:=fun z=>sne (by rw [z]; rfl)
 refine⟨(A*A+B*B)*(c.den:Int),-(A*A - B*B)*(c.den:Int),-(B*A+A*B)*(c.den:Int),-(A*d*c.num+A*d*c.num),-(B*d*c.num+B*d*c.num),⟨Int.mul_ne_zero s0 (fE c),?_,?_,?_,?_,?_,?_,?_,?_,?_⟩⟩
 ·exact(((bA.mul bA).add (bB.mul bB)).mul hc.den).mono (by decide)
 ·exact(((bA.mul bA).sub (bB.mul bB)).neg.mul hc.den).mono (by decide)
 ·exact(((bB.mul bA).add (bA.mul bB)).neg.mul hc.den).mono (by decide)
 ·exact((((bA.mul bd).mul hc.num).add ((bA.mul bd).mul hc.num)).neg).mono (by decide)
 ·exact((((bB.mul bd).mul hc.num).add ((bB.mul bd).mul hc.num)).neg).mono (by decide)
 all_goals
  simp only [wk]
  rw [Rat.intCast_mul] <;> rw [es]
  simp only [Rat.intCast_mul,Rat.intCast_sub,Rat.intCast_add,Rat.intCast_neg]
  try rw [eA]
  try rw [eB]
  try rw [eC]
  generalize a*a+b*b=k at n
  grind
theorem K4:Bt 1 0:=by show(0:Int).natAbs < 2 ^ 1; decide
theorem EK:Bt 1 1:=by show(1:Int).natAbs < 2 ^ 1; decide
theorem Ap {l:Ld} (ok:lB l) (sz:oD l) (hl:gP l=false):∃ k P Q R S,B6 (wk l) k P Q R S:=by
 cases l with
 | shift x y=>
  have h:=pD (p:=1) (q:=0) (P:=1) (Q:=0) (E:=1) sz.1 sz.2 (by decide) (EK.mono (by decide)) (K4.mono (by decide)) (EK.mono (by decide)) (by show(1:Rat)*1=1; grind) (by show(0:Rat)*1=0; grind)
  obtain⟨k0,bk,bP,bQ,_,_,p,q,_,_⟩:=h
  simp only at p q
  refine⟨_,_,_,x.num*(y.den:Int),y.num*(x.den:Int),⟨k0,bk,bP,bQ,(sz.1.num.mul sz.2.den).mono (by decide),(sz.2.num.mul sz.1.den).mono (by decide),p,q,?_,?_⟩⟩
  ·simp only [wk,Rat.intCast_mul]; rw [nd x]; show x*(1*_)=_; grind
  ·simp only [wk,Rat.intCast_mul]; rw [nd y]; show y*(1*_)=_; grind
 | grow x y b=>exact⟨_,_,_,_,_,pD (p:=b) (q:=0) (P:=b.num) (Q:=0) (E:=(b.den:Int)) sz.1 sz.2.1 (fE b) (sz.2.2.num.mono (by decide)) (K4.mono (by decide)) (sz.2.2.den.mono (by decide)) (nd b).symm (by show(0:Rat)*_=0; grind)⟩
 | turn x y p q=>
  obtain⟨hx,hy,P,Q,E,e0,bP,bQ,bE,hp,hq⟩:=sz
  exact⟨_,_,_,_,_,pD hx hy e0 bP bQ bE hp hq⟩
 | mirror a b c=>exact vL sz.1 sz.2.1 sz.2.2 ok
 | invert x y p=>cases hl
theorem ov {n:Nat} {x:Rat} {D k:Int} (d0:D≠0) (bd:Bt n D) (e:x*D=k) (bk:Bt n k):Sz n x:=by
 have h:x=Rat.divInt k D:=by
  have dr:(D:Rat)≠0:=fun z=>d0 (by exact_mod_cast z)
  rw [Rat.divInt_eq_div,<- e]; grind
 rw [h]; exact Sz.divInt bk bd d0
def dQ (f:Fl):Int:=jL 1 [f.p,f.q,f.r,f.s]
structure aA (u h:Rat) (n:Nat) (z:Z4) (t b:I4):Prop where
 bt:B4 n t
 bb:B4 n b
 pt:K' h t
 pb:K' h b
 nz:Nz h b.v
 r:Rz u h z t.v b.v
theorem EB {f:Fl} {k P Q R S:Int} (F:B6 f k P Q R S):B6 f (dQ f) (dO f.p (dQ f)) (dO f.q (dQ f)) (dO f.r (dQ f)) (dO f.s (dQ f)):=by
 have hd:dQ f ∣ k:=mC (Int.one_dvd k) fun q h=>by
  simp only [List.mem_cons,List.not_mem_nil,or_false] at h
  rcases h with rfl | rfl | rfl | rfl
  ·exact oV F.p
  ·exact oV F.q
  ·exact oV F.r
  ·exact oV F.s
 have hq:=(qD (qs:=[f.p,f.q,f.r,f.s]) (m:=1)).2
 have h0:0 < dQ f:=qz (by decide)
 have d1:(f.p.den:Int) ∣ dQ f:=hq f.p (by simp)
 have d2:(f.q.den:Int) ∣ dQ f:=hq f.q (by simp)
 have d3:(f.r.den:Int) ∣ dQ f:=hq f.r (by simp)
 have d4:(f.s.den:Int) ∣ dQ f:=hq f.s (by simp)
 exact⟨by omega,kf hd F.k0 F.bk,tD F.p d1 hd F.k0 F.bP,tD F.q d2 hd F.k0 F.bQ,tD F.r d3 hd F.k0 F.bR,tD F.s d4 hd F.k0 F.bS,(lS d1).symm,(lS d2).symm,(lS d3).symm,(lS d4).symm⟩
theorem JJ {l:Ld} (ok:lB l) (sz:oD l) (hl:gP l=false):Sz 160 (wk l).p/\Sz 160 (wk l).q/\Sz 160 (wk l).r/\Sz 160 (wk l).s:=by
 obtain⟨k,P,Q,R,S,F⟩:=Ap ok sz hl
 exact⟨(ov F.k0 F.bk F.p F.bP).mono (by decide),(ov F.k0 F.bk F.q F.bQ).mono (by decide),(ov F.k0 F.bk F.r F.bR).mono (by decide),(ov F.k0 F.bk F.s F.bS).mono (by decide)⟩
set_option maxHeartbeats 4000000
theorem GB {n:Nat} (h:n < 300):n < sizeLine:=Nat.lt_of_lt_of_le h (Nat.le_of_ble_eq_true (rfl:Nat.ble 300 sizeLine=true))
abbrev LA (f:Fl):D:=.tup [W f.p f.q,W f.r f.s,.bl f.m]
def pQ:Ld->D
 | .shift x y=>.tup [.str "shift",fr x,fr y]
 | .grow x y b=>.tup [.str "grow",fr x,fr y,fr b]
 | .turn x y p q=>.tup [.str "turn",fr x,fr y,fr p,fr q]
 | .mirror a b c=>.tup [.str "mirror",fr a,fr b,fr c]
 | .invert x y p=>.tup [.str "invert",fr x,fr y,fr p]
def dR:b_:=fun ds S k=>∃ qs:List Rat,ds=[.tup (qs.map fr)]/\(∀ q∈qs,Sz 480 q)/\qs.length<=4/\k (.int (jL 1 qs)) S
theorem fD:ar ["fractions","bottom","fraction"] ["fractions"] (ap jc):=dN
theorem m3 (Fn:cT K "common_bottom" "common_bottom" jc f fd) (aO:aQ P w K mg base "common_multiple" 34 cK):
  aH P w K mg base cQ 35 f fd ["fractions"] (cY K dR):=by
 refine Fn.okJ fD (fun ds S k h=>?_) (fun cdv A outer s H E hr=>⟨_,(af (ag (i:=1) fD.nd ad) (af (eS PassesOwn.never rfl (ac 0) (aw (i:=2) cX.nd) (ah (ag (i:=1) fD.nd (dq aO hr (aa (ac 1) (aa (ai aj (ac 2) ad (fun _ _=>rfl)) ae)))))) (ah (am (ac 1))))),fun ds S k h=>?_⟩)
 ·obtain⟨_,rfl,_⟩:=h
  rfl
 ·obtain⟨qs,rfl,hq,hl,w⟩:=h
  refine⟨(qs.map fr,none),rfl,?_⟩
  refine bh (fun r L S'=>S'=S/\∃ (rs:List Rat) (m:Int) (n:Nat) (l2:Option D),L=[some (.tup (qs.map fr)),some (.int m),l2]/\r=rs.map fr/\jL 1 qs=jL m rs/\0 < m/\Bt n m/\n+480*rs.length<=2400/\∀ q∈rs,Sz 480 q) (fun _ _ _ _=>trivial) ?_ ?_ _ _ _ ⟨rfl,qs,1,1,none,rfl,rfl,rfl,by decide,EK,by omega,hq⟩
  ·rintro d r L S1 N1 ⟨rfl,rs,m,n,l2,rfl,er,hm,m0,bm,hn,hr⟩ hN
   cases rs with
   | nil=>cases er
   | cons q rs=>
    cases er
    have hn:n+480*(rs.length+1)<=2400:=hn
    have hq:=hr q List.mem_cons_self
    exact⟨m,(q.den:Int),rfl,m0,kG q,bm.mono (by omega),hq.den.mono (by decide),hN _ _ ⟨rfl,rs,_,n+480,_,rfl,rfl,hm,lcm_pos m0 (kG q),Ft bm hq.den m0 (kG q),by omega,fun p hp=>hr p (List.mem_cons_of_mem _ hp)⟩⟩
  ·rintro L S1 ⟨rfl,rs,m,n,l2,rfl,er,hm,_⟩
   cases rs with
   | nil=>rw [hm] at w; exact w
   | cons _ _=>cases er
def fY:b_:=fun ds S k=>∃ (x y:Rat) (m:Int),ds=[W x y,.int m]/\Sz 480 x/\Sz 480 y/\Bt 8000 m/\∀ S' p,aN S S'->S' p=some (.lst [.int (dO x m),.int (dO y m)])->k (.ref p) S'
theorem qt:ar ["fractions","bottom"] ["fractions","bottom"] (ap iW):=dN
theorem pG (Fn:cT K "wholes_over" "wholes_over" iW f fd):
  aH P w K mg base cQ 1 f fd ["fractions","bottom"] (cY K fY):=by
 refine Fn.okJ qt (fun ds S k h=>?_) (fun cdv A outer s H E hr=>⟨_,(ah (am (Ch rfl (jz (N:=["fraction","bottom"]) (cap:=[none,some 1]) rfl rfl rfl rfl ⟨rfl,trivial⟩ rfl rfl ⟨⟨rfl,.inl rfl,.inl rfl⟩,trivial⟩) (ac 0) (fun _ _ _ _=>(aw (i:=0) (show List.Nodup (["fraction","bottom"]:List Str) from by decide +kernel))) (fun _ _ _ _=>(au aV (ai aj (ac 0) ad (fun _ _=>rfl)) (au lK (ac 1) (ai aj (ac 0) ad (fun _ _=>rfl)))))))),fun ds S k h=>?_⟩)
 ·obtain⟨_,_,_,rfl,_⟩:=h
  rfl
 ·obtain⟨x,y,m,rfl,hx,hy,hm,w⟩:=h
  refine⟨([fr x,fr y],none),rfl,fun p hp=>?_⟩
  refine⟨trivial,Cg (fE x) hx.den,iB hx.num (hm.le (HM.aC _ _)),ak,GB (by show 0 < 300; decide),?_⟩
  refine⟨trivial,Cg (fE y) hy.den,iB hy.num (hm.le (HM.aC _ _)),ak,GB (by show 1 < 300; decide),?_⟩
  exact⟨trivial,w _ p (((aN.new hp).put hp).put hp) ak⟩
def pN:b_:=fun ds S k=>∃ x y p q:Rat,ds=[W x y,W p q]/\Sz 800 x/\Sz 800 y/\Sz 800 p/\Sz 800 q/\k (W (p*x - q*y) (q*x+p*y)) S
theorem yt:ar ["way","by"] ["way","by"] (ap qA):=dN
theorem yX (Fn:cT K "turned" "turned" qA f fd) (ft:aQ P w K mg base "plus" 35 n6) (bO:aQ P w K mg base "times" 35 jx) (dW:aQ P w K mg base "minus" 35 lr):
  aH P w K mg base cQ 36 f fd ["way","by"] (cY K pN):=by
 refine Fn.okJ yt (fun ds S k h=>?_) (fun cdv A outer s H E hr=>⟨_,(ah (am (aq (aa (dq dW hr (aa (dq bO hr (aa (ai aj (ac 1) ad (fun _ _=>rfl)) (aa (ai aj (ac 0) ad (fun _ _=>rfl)) ae))) (aa (dq bO hr (aa (ai aj (ac 1) ad (fun _ _=>rfl)) (aa (ai aj (ac 0) ad (fun _ _=>rfl)) ae))) ae))) (aa (dq ft hr (aa (dq bO hr (aa (ai aj (ac 1) ad (fun _ _=>rfl)) (aa (ai aj (ac 0) ad (fun _ _=>rfl)) ae))) (aa (dq bO hr (aa (ai aj (ac 1) ad (fun _ _=>rfl)) (aa (ai aj (ac 0) ad (fun _ _=>rfl)) ae))) ae))) ae))))),fun ds S k h=>?_⟩)
 ·obtain⟨_,_,_,_,rfl,_⟩:=h
  rfl
 ·obtain⟨x,y,p,q,rfl,hx,hy,hp,hq,w⟩:=h
  exact⟨p,x,rfl,hp.mono (by decide),hx.mono (by decide),q,y,rfl,hq.mono (by decide),hy.mono (by decide),_,_,rfl,(hp.mul hx).mono (by decide),(hq.mul hy).mono (by decide),q,x,rfl,hq.mono (by decide),hx.mono (by decide),p,y,rfl,hp.mono (by decide),hy.mono (by decide),_,_,rfl,(hq.mul hx).mono (by decide),(hp.mul hy).mono (by decide),few,w⟩
def vH:b_:=fun ds S k=>∃ l:Ld,ds=[pQ l]/\gP l=false/\lB l/\oD l/\k (LA (wk l)) S
theorem ny:ar ["lead","by","across","square"] ["lead"] (ap wJ):=dN
theorem En (Fn:cT K "flat" "flat" wJ f fd) (az:aQ P w K mg base "product_of_ways" 36 bG) (o6:aQ P w K mg base "moved" 36 t9) (dk:aQ P w K mg base "over" 35 mf) (mP:aQ P w K mg base "turned" 36 pN) (bO:aQ P w K mg base "times" 35 jx) (eV:aQ P w K mg base "plain_way" 36 iN) (mQ:AW K mg "ORIGIN" [[0,1],[0,1]]) (bK:qU K mg "NOUGHT" [0,1]) (lG:qU K mg "ONE" [1,1]):
  aH P w K mg base cQ 37 f fd ["lead"] (cY K vH):=by
 refine Fn.okJ ny (fun ds S k h=>?_) (fun cdv A outer s H E hr=>⟨_,(af (aE (ax gE (ai aj (ac 0) ad (fun _ _=>rfl)) cE (ay _)) (ah (am (aq (aa (aq (aa (fM lG rfl) (aa (fM bK rfl) ae))) (aa (jE (ac 0) (c9 ad) vm) (aa kJ ae)))))) aD) (af (aE (ax gE (ai aj (ac 0) ad (fun _ _=>rfl)) cE (ay _)) (af (ag (i:=2) ny.nd (jE (ac 0) (c9 ad) (c9 ad))) (af (ag (i:=3) ny.nd (dq az hr (aa (ac 2) (aa (ac 2) ae)))) (af (ag (i:=1) ny.nd (dq o6 hr (aa (wQ mQ rfl) (aa (dq mP hr (aa (ac 2) (aa (ac 2) ae))) (aa (dq dk hr (aa (aq (aa (fv fg ad) (aa ad ae))) (aa (ac 3) ae))) ae))))) (ah (am (aq (aa (ac 1) (aa (dq o6 hr (aa (wQ mQ rfl) (aa (ac 2) (aa (dq dk hr (aa (dq bO hr (aa (aq (aa (fv fg ad) (aa ad ae))) (aa (ai aj (ac 0) ad (fun _ _=>rfl)) ae))) (aa (ac 3) ae))) ae)))) (aa kJ ae))))))))) aD) (af (ag (i:=1) ny.nd (lM (ax gE (ai aj (ac 0) ad (fun _ _=>rfl)) cE (ay _)) (aq (aa (ai aj (ac 0) ad (fun _ _=>rfl)) (aa (fM bK rfl) ae))) (jE (ac 0) (c9 ad) vm))) (ah (am (aq (aa (ac 1) (aa (dq eV hr (aa (dq mP hr (aa (jE (ac 0) (c9 ad) (c9 ad)) (aa (ac 1) ae))) (aa (jE (ac 0) (c9 ad) (c9 ad)) ae))) (aa kJ ae))))))))),fun ds S k h=>?_⟩)
 ·obtain⟨_,rfl,_⟩:=h
  rfl
 ·obtain⟨l,rfl,hl,ok,sz,w⟩:=h
  have c31:¬ (HT.eu 3 0 (some 1)=0/\HT.eu 3 3 none=3):=by decide
  have c4:¬ (HT.eu 4 0 (some 1)=0/\HT.eu 4 4 (some 3)=4):=by decide
  have c5:¬ (HT.eu 5 0 (some 1)=0/\HT.eu 5 5 (some 3)=5):=by decide
  have c53:¬ (HT.eu 5 0 (some 3)=0/\HT.eu 5 5 none=5):=by decide
  have s1:Sz 2 (-1:Rat):=⟨by decide,by decide⟩
  have s2:Sz 2 (-2:Rat):=⟨by decide,by decide⟩
  cases l with
  | shift x y=>exact⟨few,c31,few,w⟩
  | mirror a b c=>
   obtain⟨ha,hb,hc⟩:=sz
   have n:a*a+b*b≠0:=ok
   have sA:=(ha.mul ha).add (hb.mul hb)
   have t1:=(ha.mul ha).sub (hb.mul hb)
   have t2:=(hb.mul ha).add (ha.mul hb)
   have v1:=s1.div sA n
   have v2:=(s2.mul hc).div sA n
   exact⟨c4,a,b,a,b,rfl,ha.mono (by decide),hb.mono (by decide),ha.mono (by decide),hb.mono (by decide),a,b,a,b,rfl,ha.mono (by decide),hb.mono (by decide),ha.mono (by decide),hb.mono (by decide),few,-1,_,rfl,n,s1.mono (by decide),sA.mono (by decide),0,0,_,_,_,rfl,Sz.zero.mono (by decide),Sz.zero.mono (by decide),t1.mono (by decide),t2.mono (by decide),v1.mono (by decide),few,-2,c,rfl,s2.mono (by decide),hc.mono (by decide),_,_,rfl,n,(s2.mul hc).mono (by decide),sA.mono (by decide),0,0,a,b,_,rfl,Sz.zero.mono (by decide),Sz.zero.mono (by decide),ha.mono (by decide),hb.mono (by decide),v2.mono (by decide),few,w⟩
  | grow x y b=>
   obtain⟨hx,hy,hb⟩:=sz
   have z0:Sz 24 (0:Rat):=Sz.zero.mono (by decide)
   exact⟨few,c4,x,y,b,0,rfl,hx.mono (by decide),hy.mono (by decide),hb.mono (by decide),z0.mono (by decide),c4,_,_,x,y,rfl,((hb.mul hx).sub (z0.mul hy)).mono (by decide),((z0.mul hx).add (hb.mul hy)).mono (by decide),hx.mono (by decide),hy.mono (by decide),few,w⟩
  | turn x y p q=>
   obtain⟨hx,hy,P,Q,E,e0,bP,bQ,bE,ep,eq⟩:=sz
   have hp:Sz 40 p:=ov e0 bE ep bP
   have hq:Sz 40 q:=ov e0 bE eq bQ
   exact⟨c53,c5,x,y,p,q,rfl,hx.mono (by decide),hy.mono (by decide),hp.mono (by decide),hq.mono (by decide),c5,_,_,x,y,rfl,((hp.mul hx).sub (hq.mul hy)).mono (by decide),((hq.mul hx).add (hp.mul hy)).mono (by decide),hx.mono (by decide),hy.mono (by decide),few,w⟩
  | invert x y p=>cases hl
def bk:Ld->Ld
 | .shift x y=>.shift (-x) (-y)
 | .grow x y b=>.grow x y (1 / b)
 | .turn x y p q=>.turn x y p (-q)
 | l=>l
theorem Fo {n:Nat} {b:Rat} (h:Sz n b) (b0:b≠0):Sz n (1 / b):=by
 rw [show 1 / b=b⁻¹ by grind]
 refine⟨?_,?_⟩
 ·rw [Rat.num_inv]
  refine h.den.le ?_
  rw [Int.natAbs_mul]
  have:b.num.sign.natAbs<=1:=by
   rcases Int.lt_trichotomy b.num 0 with z | z | z
   ·rw [Int.sign_eq_neg_one_of_neg z]; decide
   ·rw [z]; decide
   ·rw [Int.sign_eq_one_of_pos z]; decide
  calc b.num.sign.natAbs*(b.den:Int).natAbs<=1*(b.den:Int).natAbs:=Nat.mul_le_mul_right _ this
   _=_:=Nat.one_mul _
 ·rw [Rat.den_inv,if_neg (fun z=>b0 (Rat.num_eq_zero.mp z))]
  exact h.num.le (by omega)
theorem Jn {l:Ld} (h:lB l):lB (bk l):=by
 cases l with
 | shift x y=>trivial
 | grow x y b=>
  have h:b≠0:=h
  show 1 / b≠0
  grind
 | turn x y p q=>
  have h:p*p+q*q=1:=h
  show p*p+-q*-q=1
  grind
 | mirror a b c=>exact h
 | invert x y p=>exact h
theorem Iw {l:Ld} (ok:lB l) (h:oD l):oD (bk l):=by
 cases l with
 | shift x y=>exact⟨h.1.neg,h.2.neg⟩
 | grow x y b=>exact⟨h.1,h.2.1,Fo h.2.2 ok⟩
 | turn x y p q=>
  obtain⟨hx,hy,P,Q,E,e0,bP,bQ,bE,ep,eq⟩:=h
  exact⟨hx,hy,P,-Q,E,e0,bP,bQ.neg,bE,ep,by rw [Rat.intCast_neg,<- eq]; grind⟩
 | mirror a b c=>exact h
 | invert x y p=>exact h
def vM:b_:=fun ds S k=>∃ l:Ld,ds=[pQ l]/\lB l/\oD l/\k (pQ (bk l)) S
theorem C2:ar ["lead"] ["lead"] (ap wb):=dN
theorem CZ (Fn:cT K "back" "back" wb f fd) (aM:aQ P w K mg base "negative" 1 eO) (dk:aQ P w K mg base "over" 35 mf) (lG:qU K mg "ONE" [1,1]):
  aH P w K mg base cQ 36 f fd ["lead"] (cY K vM):=by
 refine Fn.okJ C2 (fun ds S k h=>?_) (fun cdv A outer s H E hr=>⟨_,(af (aE (ax gE (ai aj (ac 0) ad (fun _ _=>rfl)) cE (ay _)) (ah (am (aq (aa cE (aa (dq aM hr (aa (ai aj (ac 0) ad (fun _ _=>rfl)) ae)) (aa (dq aM hr (aa (ai aj (ac 0) ad (fun _ _=>rfl)) ae)) ae)))))) aD) (af (aE (ax gE (ai aj (ac 0) ad (fun _ _=>rfl)) cE (ay _)) (ah (am (aq (aa cE (aa (ai aj (ac 0) ad (fun _ _=>rfl)) (aa (ai aj (ac 0) ad (fun _ _=>rfl)) (aa (dq dk hr (aa (fM lG rfl) (aa (ai aj (ac 0) ad (fun _ _=>rfl)) ae))) ae))))))) aD) (af (aE (ax gE (ai aj (ac 0) ad (fun _ _=>rfl)) cE (ay _)) (ah (am (aq (aa cE (aa (ai aj (ac 0) ad (fun _ _=>rfl)) (aa (ai aj (ac 0) ad (fun _ _=>rfl)) (aa (ai aj (ac 0) ad (fun _ _=>rfl)) (aa (dq aM hr (aa (ai aj (ac 0) ad (fun _ _=>rfl)) ae)) ae)))))))) aD) (ah (am (ac 0)))))),fun ds S k h=>?_⟩)
 ·obtain⟨_,rfl,_⟩:=h
  rfl
 ·obtain⟨l,rfl,ok,sz,w⟩:=h
  cases l with
  | shift x y=>exact⟨_,rfl,_,rfl,few,w⟩
  | grow x y b=>exact⟨1,b,rfl,ok,(show Sz 1 (1:Rat) from⟨by decide,by decide⟩).mono (by decide),sz.2.2.mono (by decide),few,w⟩
  | turn x y p q=>exact⟨_,rfl,few,w⟩
  | mirror a b c=>exact w
  | invert x y p=>exact w
set_option maxHeartbeats 4000000
def HJ (c:List (List Int×Rat)) (m:Int):Prop:=(∃ p∈c,dg p.1=m)/\∀ p∈c,dg p.1<=m
def BS (c:List (List Int×Rat)):Prop:=∀ p∈c,∃ i j:Int,p.1=[i,j]/\0<=i/\0<=j/\i<=20/\j<=20
theorem wZ {S:DH} {p f:Addr} {c:List (List Int×Rat)} {e1:Nat} {k:DK} (hp:S p=none) (hf:S f=some (bN (lq c) e1)) (sm:BS c) (kk:∀ S2,aN S S2->S2 p=some (.lst ((c.map fun x=>dg x.1).map D.int))->k (.ref p) S2):
  ∀ (ao don:List (List Int×Rat)) (l0:Option D) (S1:DH),c=don++ao->aN S S1->S1 p=some (.lst ((don.map fun x=>dg x.1).map D.int))->c.length<=100->
   cw (fun S=>S f=some (bN (lq c) e1)) p (iR 0) (gL (kB CA (kB kg (cP 0) (dC (D.int 0))) (kB kg (cP 0) (dC (D.int 1))))) k (ao.map fun x=>cL x.1) ((don.map fun x=>dg x.1).map D.int) [l0] S1
 | [],don,l0,S1,ec,x1,h1,_=>by
  rw [List.append_nil] at ec
  subst ec
  exact⟨x1 _ _ hf,kk S1 x1 h1⟩
 | q::ao,don,l0,S1,ec,x1,h1,hl=>by
  have f1:=x1 _ _ hf
  have hd:don.length < 100:=by have:=congrArg List.length ec; rw [List.length_append,List.length_cons] at this; omega
  have ec':c=(don++[q])++ao:=by rw [ec]; simp
  obtain⟨i,j,e,_⟩:=sm q (by rw [ec]; simp)
  have ea:(don.map fun x=>dg x.1).map D.int++[D.int (i+j)]=((don++[q]).map fun x=>dg x.1).map D.int:=by simp [dg,e]
  rw [List.map_cons,e]
  refine⟨f1,h1,by rw [List.length_map,List.length_map]; exact lim (by omega),?_⟩
  show cw _ _ _ _ _ _ ((don.map fun x=>dg x.1).map D.int++[D.int (i+j)]) _ (put S1 p (.lst ((don.map fun x=>dg x.1).map D.int++[D.int (i+j)])))
  rw [ea]
  exact wZ hp hf sm kk ao (don++[q]) _ _ ec' (x1.put hp) ak hl
theorem FI {c:List (List Int×Rat)} {m:Int} (h1:m∈c.map fun x=>dg x.1) (h2:∀ x∈c.map fun x=>dg x.1,x<=m):HJ c m:=by
 obtain⟨p,hp,e⟩:=List.mem_map.mp h1
 exact⟨⟨p,hp,e⟩,fun q hq=>h2 _ (List.mem_map.mpr ⟨q,hq,rfl⟩)⟩
def kL:b_:=fun ds S k=>∃ (a:Addr) (c:List (List Int×Rat)) (ep:Nat),ds=[.ref a]/\S a=some (bN (lq c) ep)/\c.length<=10/\c≠[]/\BS c/\∀ S' m,aN S S'->HJ c m->k (.int m) S'
theorem tQ:ar ["curve"] ["curve"] (ap kD):=dN
theorem sR (Fn:cT K "degree_of" "degree_of" kD f fd) (hZ:mg "max"=none):
  aH P w K mg base cQ 1 f fd ["curve"] (cY K kL):=by
 refine Fn.okJ tQ (fun ds S k h=>?_) (fun cdv A outer s H E hr=>⟨_,(ah (am (wN rfl hZ pj (aa (ld rfl (jz (N:=["key"]) (cap:=[none]) rfl rfl rfl rfl trivial rfl rfl trivial) (nC (ac 0)) (fun _ _ _ _=>(aw (i:=0) (show List.Nodup (["key"]:List Str) from by decide +kernel))) (fun _ _ _ _=>(au cB (ai aj (ac 0) ad (fun _ _=>rfl)) (ai aj (ac 0) ad (fun _ _=>rfl))))) ae) eo))),fun ds S k h=>?_⟩)
 ·obtain⟨_,_,_,rfl,_⟩:=h
  rfl
 ·obtain⟨a,c,ep,rfl,ha,hl,ne,sm,w⟩:=h
  refine⟨_,_,ha,fun p hp=>?_⟩
  rw [GW]
  refine wZ (S:=S) hp ha sm (fun S2 x2 h2=>⟨_,h2,fun e=>absurd (List.map_eq_nil_iff.mp e) ne,fun m h1 h2=>w S2 m x2 (FI h1 h2)⟩) c [] none _ rfl (aN.new hp) ak (by omega)
def xM (g a b r:Rat):D:=if 0 < (a / (-2*g))*(a / (-2*g))+(b / (-2*g))*(b / (-2*g)) - r / g then .tup [.str "circle",fr (a / (-2*g)),fr (b / (-2*g)),fr ((a / (-2*g))*(a / (-2*g))+(b / (-2*g))*(b / (-2*g)) - r / g)] else .non
structure ou (c:List (List Int×Rat)):Prop where
 nd:(c.map (·.1)).Nodup
 hl:c.length<=10
 ne:c≠[]
 sm:BS c
 hz:∀ p∈c,p.2≠0/\Sz 3000 p.2
 dn:Dn 1 3000 c
theorem ou.sz {c:List (List Int×Rat)} (h:ou c) (k:List Int):Sz 3000 (gR c k):=by
 rcases d_ (z:=(0:Rat)) k h.nd with n | m
 ·rw [show gR c k=0 from aK n]
  exact Sz.mono (m:=1) ⟨by decide,by decide⟩ (by decide)
 ·exact(h.hz _ m).2
theorem ou.nz {c:List (List Int×Rat)} (h:ou c) {k:List Int}:(gR c k=0/\df (lq c) k=none)\/(gR c k≠0/\df (lq c) k=some (fr (gR c k))):=by
 rcases d_ (z:=(0:Rat)) k h.nd with n | m
 ·exact .inl ⟨aK n,n_ n⟩
 ·exact .inr ⟨(h.hz _ m).1,hG h.nd m⟩
def Am (c:List (List Int×Rat)):Prop:=gR c [2,0]≠0/\gR c [0,2]=gR c [2,0]/\gR c [1,1]=0
instance (c:List (List Int×Rat)):Decidable (Am c):=inferInstanceAs (Decidable (_/\_/\_))
theorem Ez {c:List (List Int×Rat)} (ok:ou c) (h:HJ c 2) (h1:gR c [2,0]=0) (h2:gR c [0,2]=0) (h3:gR c [1,1]=0):False:=by
 obtain⟨⟨p,hp,e⟩,_⟩:=h
 obtain⟨i,j,ek,i0,j0,_⟩:=ok.sm p hp
 have hv:=(ok.hz p hp).1
 have g:∀ k,p.1=k->gR c k=0->False:=fun k ek e0=>hv (by rw [<- e0]; exact(cZ ok.nd (by rw [<- ek]; exact hp)).symm)
 rw [ek] at e
 have e:i+j=2:=e
 have:i=0\/i=1\/i=2:=by omega
 rcases this with rfl | rfl | rfl
 ·have:j=2:=by omega
  subst this
  exact g _ ek h2
 ·have:j=1:=by omega
  subst this
  exact g _ ek h3
 ·have:j=0:=by omega
  subst this
  exact g _ ek h1
def kQ:b_:=fun ds S k=>∃ (a:Addr) (c:List (List Int×Rat)) (ep:Nat),ds=[.ref a]/\S a=some (bN (lq c) ep)/\ou c/\HJ c 2/\k (if Am c then xM (gR c [2,0]) (gR c [1,0]) (gR c [0,1]) (gR c [0,0]) else .non) S
theorem fe:ar ["curve","grown","twice","middle","square"] ["curve"] (ap kE):=dN
theorem tZ (Fn:cT K "circle_of" "circle_of" kE f fd) (bO:aQ P w K mg base "times" 35 jx) (dk:aQ P w K mg base "over" 35 mf) (dW:aQ P w K mg base "minus" 35 lr) (az:aQ P w K mg base "product_of_ways" 36 bG) (bK:qU K mg "NOUGHT" [0,1]):
  aH P w K mg base cQ 37 f fd ["curve"] (cY K kQ):=by
 refine Fn.okJ fe (fun ds S k h=>?_) (fun cdv A outer s H E hr=>⟨_,(af (ag (i:=1) fe.nd (xB hr (ac 0) (aq (aa ad (aa ad ae))))) (af (aE (WJ.pt (AR (ax (Ij hr) (xB hr (ac 0) (aq (aa ad (aa ad ae)))) (ac 1) (ay _)) (w4 (ax (I9 hr) (aq (aa ad (aa ad ae))) (ac 0) (by with_unfolding_all rfl))))) (ah (am eo)) aD) (af (ag (i:=2) fe.nd (dq bO hr (aa (aq (aa (fv fg ad) (aa ad ae))) (aa (ac 1) ae)))) (af (ag (i:=3) fe.nd (aq (aa (dq dk hr (aa (fZ hr (ac 0) (aq (aa ad (aa ad ae))) (fM bK rfl)) (aa (ac 2) ae))) (aa (dq dk hr (aa (fZ hr (ac 0) (aq (aa ad (aa ad ae))) (fM bK rfl)) (aa (ac 2) ae))) ae)))) (af (ag (i:=4) fe.nd (dq dW hr (aa (dq az hr (aa (ac 3) (aa (ac 3) ae))) (aa (dq dk hr (aa (fZ hr (ac 0) (aq (aa ad (aa ad ae))) (fM bK rfl)) (aa (ac 1) ae))) ae)))) (ah (am (lM (ax AG (ai aj (ac 4) ad (fun _ _=>rfl)) ad (ay _)) (aq (aa cE (aa (ai aj (ac 3) ad (fun _ _=>rfl)) (aa (ai aj (ac 3) ad (fun _ _=>rfl)) (aa (ac 4) ae))))) eo)))))))),fun ds S k h=>?_⟩)
 ·obtain⟨_,_,_,rfl,_⟩:=h
  rfl
 ·obtain⟨a,c,ep,rfl,ha,ok,dg2,w⟩:=h
  have non:¬ Am c->k .non S:=fun n=>by rw [if_neg n] at w; exact w
  refine⟨⟨_,_,ha⟩,few,_,_,[2,0],ha,rfl,⟨_,_,ha⟩,few,_,_,[0,2],ha,rfl,?_⟩
  rcases ok.nz (k:=[2,0]) with ⟨z1,g1⟩ | ⟨z1,g1⟩ <;> rcases ok.nz (k:=[0,2]) with ⟨z2,g2⟩ | ⟨z2,g2⟩ <;> rw [g1,g2]
  ·refine⟨true,rfl,AI ⟨few,_,_,[1,1],ha,rfl,lJ (fun _=>non fun h=>h.1 z1) (fun f=>?_)⟩⟩
   rcases ok.nz (k:=[1,1]) with ⟨z3,g3⟩ | ⟨z3,g3⟩
   ·exact(Ez ok dg2 z1 z2 z3).elim
   ·rw [g3] at f
    cases f
  ·exact non fun h=>h.1 z1
  ·exact non fun h=>z1 (by rw [<- h.2.1]; exact z2)
  ·refine⟨_,ET,uC (fun ne=>non fun h=>ne h.2.1) (fun eq=>⟨few,_,_,[1,1],ha,rfl,lJ (fun t=>non fun h=>?_) (fun f=>?_)⟩)⟩
   ·rcases ok.nz (k:=[1,1]) with ⟨z3,g3⟩ | ⟨z3,g3⟩
    ·rw [g3] at t
     cases t
    ·exact z3 h.2.2
   ·have z3:gR c [1,1]=0:=by
     rcases ok.nz (k:=[1,1]) with ⟨z3,g3⟩ | ⟨z3,g3⟩
     ·exact z3
     ·rw [g3] at f
      cases f
    rw [if_pos ⟨z1,eq,z3⟩] at w
    have n2:-2*gR c [2,0]≠0:=fun z=>by
     rcases Rat.mul_eq_zero.mp z with y | y
     ·exact absurd y (by decide)
     ·exact z1 y
    have s2:Sz 2 (-2:Rat):=⟨by decide,by decide⟩
    have sg:=s2.mul (ok.sz [2,0])
    have sx:=(ok.sz [1,0]).div sg n2
    have sy:=(ok.sz [0,1]).div sg n2
    have sr:=(ok.sz [0,0]).div (ok.sz [2,0]) z1
    have sp:=(sx.mul sx).add (sy.mul sy)
    have G:∀ k,(df (lq c) k).getD (.tup (List.map D.int [0,1]))=fr (gR c k):=fun k=>lw (f:=fr) (z:=0)
    refine⟨few,-2,gR c [2,0],rfl,s2.mono (by decide),(ok.sz _).mono (by decide),⟨_,_,ha⟩,few,_,_,[1,0],ha,rfl,gR c [1,0],-2*gR c [2,0],congrArg (fun z=>[z,fr (-2*gR c [2,0])]) (G _),n2,(ok.sz _).mono (by decide),sg.mono (by decide),⟨_,_,ha⟩,few,_,_,[0,1],ha,rfl,gR c [0,1],-2*gR c [2,0],congrArg (fun z=>[z,fr (-2*gR c [2,0])]) (G _),n2,(ok.sz _).mono (by decide),sg.mono (by decide),few,?_⟩
    refine⟨_,_,_,_,rfl,sx.mono (by decide),sy.mono (by decide),sx.mono (by decide),sy.mono (by decide),⟨_,_,ha⟩,few,_,_,[0,0],ha,rfl,gR c [0,0],gR c [2,0],congrArg (fun z=>[z,fr (gR c [2,0])]) (G _),z1,(ok.sz _).mono (by decide),(ok.sz _).mono (by decide),_,_,rfl,sp.mono (by decide),sr.mono (by decide),?_⟩
    unfold xM at w
    refine bj (fun h=>?_) (fun h=>?_)
    ·rw [if_pos ((oy _).mp h)] at w
     exact⟨few,w⟩
    ·rw [if_neg (fun z=>h ((oy _).mpr z))] at w
     exact w
def Kd (c:List (List Int×Rat)) (d:D):Prop:=∃ m,HJ c m/\((m=1/\∃ ns,BQ c ns/\d=.tup [.str "line",fr (gI ns [1,0]),fr (gI ns [0,1]),fr (gI ns [0,0])])\/(m=2/\d=if Am c then xM (gR c [2,0]) (gR c [1,0]) (gR c [0,1]) (gR c [0,0]) else .non)\/(m≠1/\m≠2/\d=.non))
def i7:b_:=fun ds S k=>∃ (a:Addr) (c:List (List Int×Rat)) (ep:Nat),ds=[.ref a]/\S a=some (bN (lq c) ep)/\ou c/\∀ S' d,aN S S'->Kd c d->k d S'
theorem lX:ar ["curve","degree","told"] ["curve"] (ap nX):=dN
theorem wB (Fn:cT K "kind_of" "kind_of" nX f fd) (kN:aQ P w K mg base "degree_of" 1 kL) (c_:aQ P w K mg base "normal" 36 i9) (kX:aQ P w K mg base "circle_of" 37 kQ) (bK:qU K mg "NOUGHT" [0,1]):
  aH P w K mg base cQ 38 f fd ["curve"] (cY K i7):=by
 refine Fn.okJ lX (fun ds S k h=>?_) (fun cdv A outer s H E hr=>⟨_,(af (ag (i:=1) lX.nd (dq kN hr (aa (ac 0) ae))) (af (aE (ax gE (ac 1) ad (ay _)) (af (ag (i:=2) lX.nd (dq c_ hr (aa (ac 0) ae))) (ah (am (aq (aa cE (aa (fZ hr (ac 2) (aq (aa ad (aa ad ae))) (fM bK rfl)) (aa (fZ hr (ac 2) (aq (aa ad (aa ad ae))) (fM bK rfl)) (aa (fZ hr (ac 2) (aq (aa ad (aa ad ae))) (fM bK rfl)) ae)))))))) aD) (ah (am (lM (ax gE (ac 1) ad (ay _)) (dq kX hr (aa (ac 0) ae)) eo))))),fun ds S k h=>?_⟩)
 ·obtain⟨_,_,_,rfl,_⟩:=h
  rfl
 ·obtain⟨a,c,ep,rfl,ha,ok,w⟩:=h
  refine⟨a,c,ep,rfl,ha,ok.hl,ok.ne,ok.sm,fun S1 m x1 hd=>lJ (fun e1=>?_) (fun e1=>?_)⟩
  ·refine⟨a,c,ep,1,rfl,x1 _ _ ha,ok.nd,Nat.le_trans ok.hl (by decide),ok.ne,fun p hp=>?_,fun p hp=>(ok.hz p hp).1,by decide,EK.mono (by decide),ok.dn,fun S2 p2 e2 ns x2 hn h2=>?_⟩
   ·obtain⟨i,j,e,_⟩:=ok.sm p hp
    exact⟨i,j,e⟩
   ·refine⟨⟨_,_,h2⟩,few,_,_,[1,0],h2,rfl,⟨_,_,h2⟩,few,_,_,[0,1],h2,rfl,⟨_,_,h2⟩,few,_,_,[0,0],h2,rfl,few,?_⟩
    have G:∀ k,(df (wq ns) k).getD (.tup (List.map D.int [0,1]))=fr (gI ns k):=fun k=>lw (f:=fun n:Int=>D.tup [.int n,.int 1]) (z:=0)
    rw [G,G,G]
    exact w S2 _ (x1.trans x2) ⟨m,hd,.inl ⟨by simpa using e1,ns,hn,rfl⟩⟩
  ·refine lJ (fun e2=>?_) (fun e2=>w S1 _ x1 ⟨m,hd,.inr (.inr ⟨by simpa using e1,by simpa using e2,rfl⟩)⟩)
   have e3:m=2:=by simpa using e2
   subst e3
   exact⟨a,c,ep,rfl,x1 _ _ ha,ok,hd,w S1 _ x1 ⟨2,hd,.inr (.inl ⟨rfl,rfl⟩)⟩⟩
set_option maxHeartbeats 4000000
structure Qc where
 a:Int
 b:Int
 c:Int
 e:Int
def Qc.D (q:Qc):Rat:=(q.b:Rat)*q.b+q.c*q.c - 4*(q.a*q.e)
def Qc.at (q:Qc) (x y:Rat):Rat:=q.a*(x*x+y*y)+q.b*x+q.c*y+q.e
theorem mW {q:Qc}:((mZ q.a q.b q.c q.e:Int):Rat)=q.D:=by
 unfold mZ Qc.D
 rw [Rat.intCast_sub,Rat.intCast_add,Rat.intCast_mul,Rat.intCast_mul,Rat.intCast_mul,Rat.intCast_mul]
 rfl
theorem fQ {q:Qc}:0 < q.D↔0 < mZ q.a q.b q.c q.e:=by
 rw [<- mW]
 exact Rat.intCast_pos
abbrev GQ (t:List (List Int×Int)) (q:Qc):Prop:=GC t q.a q.b q.c q.e
theorem GC.of_gI {t:List (List Int×Int)} {a b c d:Int} (ht:Ci 3 t) (nz:∀ p∈t,p.2≠0) (e:∀ k,gI t k=gI (qK a b c d) k):GC t a b c d:=⟨ht,fun X Y _=>by rw [uI ht (mE.up (by decide)) e,wO],nz⟩
def CI (q q':Qc):Prop:=∃ t:Rat,t≠0/\(q'.a:Rat)=t*q.a/\(q'.b:Rat)=t*q.b/\(q'.c:Rat)=t*q.c/\(q'.e:Rat)=t*q.e
theorem GC.scale {t t':List (List Int×Int)} {q:Qc} {τ:Rat} (h:GQ t q) (hc:Ci 3 t') (nz:∀ p∈t',p.2≠0) (τ0:τ≠0) (e:∀ k,(gI t' k:Rat)=τ*gI t k):∃ q',GQ t' q'/\CI q q':=by
 have e':∀ k,(gI t' k:Rat)=τ*gI (qK q.a q.b q.c q.e) k:=fun k=>by rw [e,h.at]
 have z:∀ {k},gI (qK q.a q.b q.c q.e) k=0->gI t' k=0:=fun {k} y=>by
  have:=e' k
  rw [y] at this
  have h0:((gI t' k:Int):Rat)=((0:Int):Rat):=by rw [this]; show τ*0=0; grind
  exact Rat.intCast_inj.mp h0
 refine⟨⟨gI t' [2,0],gI t' [1,0],gI t' [0,1],gI t' [0,0]⟩,GC.of_gI hc nz fun k=>?_,τ,τ0,e' [2,0],e' [1,0],e' [0,1],e' [0,0]⟩
 rw [m9]
 by_cases h1:k=[2,0]
 ·rw [if_pos h1,h1]
 rw [if_neg h1]
 by_cases h2:k=[0,2]
 ·rw [if_pos h2,h2]
  exact Rat.intCast_inj.mp ((e' [0,2]).trans (e' [2,0]).symm)
 rw [if_neg h2]
 by_cases h3:k=[1,0]
 ·rw [if_pos h3,h3]
 rw [if_neg h3]
 by_cases h4:k=[0,1]
 ·rw [if_pos h4,h4]
 rw [if_neg h4]
 by_cases h5:k=[0,0]
 ·rw [if_pos h5,h5]
 rw [if_neg h5]
 exact z (by rw [m9,if_neg h1,if_neg h2,if_neg h3,if_neg h4,if_neg h5])
theorem i0 {z:Int}:(z:Rat)=0↔z=0:=⟨fun h=>Rat.intCast_inj.mp (by rw [h]; rfl),fun h=>by rw [h]; rfl⟩
theorem CI.a0 {q q':Qc} (h:CI q q'):q'.a=0↔q.a=0:=by
 obtain⟨t,t0,ea,_⟩:=h
 rw [<- i0,<- i0,ea]
 constructor
 ·intro z
  rcases Rat.mul_eq_zero.mp z with y | y
  ·exact absurd y t0
  ·exact y
 ·intro z
  rw [z]
  grind
theorem nA {t:Rat} (t0:t≠0):0 < t*t:=by
 have:0<=t*t:=by
  rcases Rat.le_total (a:=0) (b:=t) with z | z
  ·exact Rat.mul_nonneg z z
  ·have:0<=-t*-t:=Rat.mul_nonneg (by grind) (by grind)
   grind
 have n:t*t≠0:=fun z=>by rcases Rat.mul_eq_zero.mp z with y | y <;> exact t0 y
 grind
theorem CI.D {q q':Qc} (h:CI q q') (d:0 < q.D):0 < q'.D:=by
 obtain⟨t,t0,ea,eb,ec,ee⟩:=h
 have:q'.D=t*t*q.D:=by unfold Qc.D; rw [ea,eb,ec,ee]; grind
 rw [this]
 exact Rat.mul_pos (nA t0) d
theorem CI.at0 {q q':Qc} (h:CI q q') (x y:Rat):q'.at x y=0↔q.at x y=0:=by
 obtain⟨t,t0,ea,eb,ec,ee⟩:=h
 have:q'.at x y=t*q.at x y:=by unfold Qc.at; rw [ea,eb,ec,ee]; grind
 rw [this]
 constructor
 ·intro z
  rcases Rat.mul_eq_zero.mp z with y | y
  ·exact absurd y t0
  ·exact y
 ·intro z
  rw [z]
  grind
def gw:Ld->Rat
 | .grow _ _ b=>b
 | _=>1
structure xn (l:Ld) (q q':Qc):Prop where
 d:0 < q'.D
 mv:gP l=false->(q'.a=0↔q.a=0)/\q'.D*((q.a:Rat)*q.a)=gw l*gw l*q.D*(q'.a*q'.a)
 iv:∀ x y p,l=.invert x y p->(q'.a=0↔q.at x y=0)
theorem xn.sm {l:Ld} {q q' q'':Qc} (h:xn l q q') (s:CI q' q''):xn l q q'':=⟨s.D h.d,fun hl=>⟨s.a0.trans (h.mv hl).1,by
 have e:=(h.mv hl).2
 obtain⟨t,t0,ea,eb,ec,ee⟩:=s
 have:q''.D=t*t*q'.D:=by unfold Qc.D; rw [ea,eb,ec,ee]; grind
 rw [this,ea]
 grind⟩,fun x y p e=>s.a0.trans (h.iv x y p e)⟩
def rf (ls:List Ld):Rat:=ls.foldl (fun g l=>g*(gw l*gw l)) 1
structure vi (ls:List Ld) (q q':Qc):Prop where
 d:0 < q'.D
 mv:(∀ l∈ls,gP l=false)->(q'.a=0↔q.a=0)/\q'.D*((q.a:Rat)*q.a)=rf ls*q.D*(q'.a*q'.a)
 nl:ls=[]->∀ x y,q'.at x y=0↔q.at x y=0
 iv:∀ x y p,ls=[.invert x y p]->(q'.a=0↔q.at x y=0)
theorem vi.nil {q q':Qc} (s:CI q q') (d:0 < q.D):vi [] q q':=⟨s.D d,fun _=>⟨s.a0,by
 obtain⟨t,t0,ea,eb,ec,ee⟩:=s
 have:q'.D=t*t*q.D:=by unfold Qc.D; rw [ea,eb,ec,ee]; grind
 rw [this,ea]
 show _=1*_*_
 grind⟩,fun _=>s.at0,fun x y p e=>by cases e⟩
theorem vi.snoc {ls:List Ld} {l:Ld} {q q' q'':Qc} (h:vi ls q q') (r:xn l q' q''):vi (ls++[l]) q q'':=by
 refine⟨r.d,fun hl=>?_,fun z=>by simp at z,fun x y p e=>?_⟩
 ·have h1:=h.mv fun m hm=>hl m (List.mem_append_left _ hm)
  have h2:=r.mv (hl l (by simp))
  refine⟨h2.1.trans h1.1,?_⟩
  have eg:rf (ls++[l])=rf ls*(gw l*gw l):=by unfold rf; rw [List.foldl_append]; rfl
  rw [eg]
  by_cases z:q'.a=0
  ·have z1:=h1.1.mp z
   have z2:=h2.1.mpr z
   rw [z1,z2]
   show _*(0*0)=_*(0*0)
   grind
  ·have z':(q'.a:Rat)*q'.a≠0:=fun y=>by rcases Rat.mul_eq_zero.mp y with y | y <;> exact z (i0.mp y)
   have e1:=h1.2
   have e2:=h2.2
   generalize (q'.a:Rat)*q'.a=u at*
   generalize (q.a:Rat)*q.a=v at*
   generalize (q''.a:Rat)*q''.a=w at*
   generalize q.D=d at*
   generalize q'.D=d' at*
   generalize q''.D=d'' at*
   generalize gw l*gw l=g at*
   generalize rf ls=G at*
   have:u*(d''*v - G*g*d*w)=0:=by grind
   rcases Rat.mul_eq_zero.mp this with y | y
   ·exact absurd y z'
   ·grind
 ·cases ls with
  | nil=>
   have e:l=.invert x y p:=by simpa using e
   exact(r.iv x y p e).trans (h.nl rfl x y)
  | cons m ls=>
   have:=congrArg List.length e
   simp at this
theorem Es {l:Ld} (ok:lB l) (hl:gP l=false):(wk l).p*(wk l).p+(wk l).q*(wk l).q=gw l*gw l:=by
 cases l with
 | shift x y=>show(1:Rat)*1+0*0=1*1; grind
 | grow x y b=>show b*b+0*0=b*b; grind
 | turn x y p q=>
  have ok:p*p+q*q=1:=ok
  show p*p+q*q=1*1
  grind
 | mirror a b c=>
  have ok:a*a+b*b≠0:=ok
  show(0+(a*a - b*b)*(-1 / (a*a+b*b)))*(0+(a*a - b*b)*(-1 / (a*a+b*b)))+(0+(b*a+a*b)*(-1 / (a*a+b*b)))*(0+(b*a+a*b)*(-1 / (a*a+b*b)))=1*1
  have e:-1 / (a*a+b*b)*(a*a+b*b)=-1:=by generalize a*a+b*b=s at ok; grind
  generalize -1 / (a*a+b*b)=r at e
  grind
 | invert x y p=>cases hl
theorem FR {l:Ld}:gP (bk l)=gP l:=by cases l <;> rfl
theorem Ih {l:Ld} (ok:lB l):gw (bk l)*gw l=1:=by
 cases l with
 | grow x y b=>
  have ok:b≠0:=ok
  show 1 / b*b=1
  grind
 | shift x y=>show(1:Rat)*1=1; grind
 | turn x y p q=>show(1:Rat)*1=1; grind
 | mirror x y p=>show(1:Rat)*1=1; grind
 | invert x y p=>show(1:Rat)*1=1; grind
theorem GC.bts {t:List (List Int×Int)} {n:Nat} {a b c d:Int} (h:GC t a b c d) (bt:∀ p∈t,Bt n p.2):Bt n a/\Bt n b/\Bt n c/\Bt n d:=by
 have f:=u7 h.ci.nd bt
 refine⟨?_,?_,?_,?_⟩
 ·have:=f [2,0]; rw [h.at] at this; exact this
 ·have:=f [1,0]; rw [h.at] at this; exact this
 ·have:=f [0,1]; rw [h.at] at this; exact this
 ·have:=f [0,0]; rw [h.at] at this; exact this
theorem GC.of_bts {t:List (List Int×Int)} {n:Nat} {a b c d:Int} (h:GC t a b c d) (ha:Bt n a) (hb:Bt n b) (hc:Bt n c) (hd:Bt n d):∀ p∈t,Bt n p.2:=fun p hp=>by
 have:=h.mem hp
 simp only [qK,List.mem_cons,List.not_mem_nil,or_false] at this
 rcases this with rfl | rfl | rfl | rfl | rfl <;> assumption
theorem xn.move {l:Ld} {q q':Qc} {m P Q R S s:Int} (ok:lB l) (hl:gP l=false) (d:0 < q.D) (m0:m≠0) (ss:s*s=1) (np:((P*P+Q*Q:Int):Rat)*(gw l*gw l)=m*m)
  (h:(q.a≠0/\q'=⟨q.a*(P*P+Q*Q),2*q.a*(P*R+Q*S)+m*(q.b*P+q.c*Q),s*(2*q.a*(P*S - Q*R)+m*(q.c*P - q.b*Q)),q.a*(R*R+S*S)+m*(q.b*R+q.c*S)+m*m*q.e⟩)\/(q.a=0/\q'=⟨0,q.b*P+q.c*Q,s*(q.c*P - q.b*Q),q.b*R+q.c*S+m*q.e⟩)):xn l q q':=by
 have N0:P*P+Q*Q≠0:=fun z=>by
  rw [z] at np
  have:(m:Rat)*m=0:=by rw [<- np]; show(0:Rat)*_=0; grind
  rcases Rat.mul_eq_zero.mp this with y | y <;> exact m0 (i0.mp y)
 have Np:0 < P*P+Q*Q:=by
  have h1:0<=P*P:=by rw [<- Int.natAbs_mul_self (a:=P)]; exact Int.natCast_nonneg _
  have h2:0<=Q*Q:=by rw [<- Int.natAbs_mul_self (a:=Q)]; exact Int.natCast_nonneg _
  omega
 have mp:0 < m*m:=by
  rw [<- Int.natAbs_mul_self (a:=m)]
  have:=Int.natAbs_pos.mpr m0
  exact Int.natCast_pos.mpr (Nat.mul_pos this this)
 have di:=fQ.mp d
 refine⟨fQ.mpr ?_,fun _=>?_,fun x y p e=>by rw [e] at hl; cases hl⟩
 ·rcases h with ⟨_,rfl⟩ | ⟨a0,rfl⟩
  ·show 0 < mZ _ _ _ _
   rw [vd ss]
   exact Int.mul_pos (Int.mul_pos mp Np) di
  ·show 0 < mZ _ _ _ _
   rw [AQ ss]
   rw [a0] at di
   exact Int.mul_pos Np di
 ·rcases h with ⟨a0,rfl⟩ | ⟨a0,rfl⟩
  ·refine⟨⟨fun z=>?_,fun z=>absurd z a0⟩,?_⟩
   ·rcases Int.mul_eq_zero.mp z with y | y
    ·exact y
    ·exact absurd y N0
   ·rw [<- mW,<- mW]
    show((mZ _ _ _ _:Int):Rat)*_=_
    rw [vd ss]
    simp only [Rat.intCast_mul]
    generalize ((P*P+Q*Q:Int):Rat)=N at np
    generalize ((mZ q.a q.b q.c q.e:Int):Rat)=δ
    generalize (q.a:Rat)=α
    generalize (m:Rat)=μ at np
    generalize gw l*gw l=g at np
    rw [<- np]
    grind
  ·refine⟨⟨fun _=>a0,fun _=>rfl⟩,?_⟩
   rw [a0]
   show _*(0*0)=_*(0*0)
   grind
theorem wF {c:List (List Int×Rat)} {ns:List (List Int×Int)} {B:Int} {T:Nat} (h:BQ c ns) (B0:0 < B) (hd:Dn B T c):∀ p∈ns,Bt T p.2:=by
 obtain⟨t,t0,f1,f2⟩:=h.sc
 have b0:(B:Rat)≠0:=fun z=>by
  have:=Rat.intCast_inj.mp (show (B:Rat)=((0:Int):Rat) from z)
  omega
 generalize hr:(B:Rat) / t=r
 have r0:r≠0:=by
  rw [<- hr]
  intro z
  exact b0 (by grind)
 have key:∀ p∈ns,∃ τ:Int,Bt T τ/\r*(p.2:Rat)=τ:=fun p hp=>by
  obtain⟨q,hq,e⟩:=f1 p hp
  obtain⟨τ,bt,et⟩:=hd _ hq
  refine⟨τ,bt,?_⟩
  have et:(B:Rat)*q=τ:=et
  rw [<- et,e,<- hr]
  grind
 have ex:∀ p∈ns,∃ τ:Int,Bt T τ/\r.num*p.2=τ*(r.den:Int):=fun p hp=>by
  obtain⟨τ,bt,e⟩:=key p hp
  refine⟨τ,bt,Rat.intCast_inj.mp ?_⟩
  rw [Rat.intCast_mul,Rat.intCast_mul,<- e,<- pf r]
  grind
 have dv:∀ p∈ns,(r.den:Int) ∣ p.2:=fun p hp=>by
  obtain⟨τ,_,e⟩:=ex p hp
  have:(r.den:Int) ∣ r.num*p.2:=⟨τ,by rw [e,Int.mul_comm]⟩
  have t1:=Int.natAbs_dvd_natAbs.mpr this
  rw [Int.natAbs_mul] at t1
  have t1:r.den ∣ r.num.natAbs*p.2.natAbs:=t1
  refine Int.natAbs_dvd_natAbs.mp ?_
  show r.den ∣ p.2.natAbs
  exact(Nat.Coprime.symm r.reduced).dvd_of_dvd_mul_left t1
 have one:=h.co (r.den:Int) dv
 have d1:(r.den:Int)=1:=by
  have:=gN r
  have:=Int.le_of_dvd (by decide) one
  omega
 intro p hp
 obtain⟨τ,bt,e⟩:=ex p hp
 rw [d1,Int.mul_one] at e
 refine bt.le ?_
 rw [<- e,Int.natAbs_mul]
 have:r.num.natAbs≠0:=fun z=>r0 (Rat.num_eq_zero.mp (Int.natAbs_eq_zero.mp z))
 exact Nat.le_mul_of_pos_left _ (by omega)
set_option maxHeartbeats 4000000
def J8 (m P Q R T s:Int) (q q':Qc):Prop:=(q.a≠0/\q'=⟨q.a*(P*P+Q*Q),2*q.a*(P*R+Q*T)+m*(q.b*P+q.c*Q),s*(2*q.a*(P*T - Q*R)+m*(q.c*P - q.b*Q)),q.a*(R*R+T*T)+m*(q.b*R+q.c*T)+m*m*q.e⟩)\/(q.a=0/\q'=⟨0,q.b*P+q.c*Q,s*(q.c*P - q.b*Q),q.b*R+q.c*T+m*q.e⟩)
theorem zI {S:DH} {k:DK} {a b c:Addr} {t tx ty:List (List Int×Int)} {e e1 e2 n c':Nat} {m P Q R T s:Int} {q:Qc} (ha:S a=some (bN (aX t) e)) (hb:S b=some (bN (aX tx) e1)) (hc:S c=some (bN (aX ty) e2)) (ht:GQ t q) (qd:0 < q.D) (hx:Ci 1 tx) (hy:Ci 1 ty) (hn:n<=8000) (n1:1<=n) (hc':c'<=2000) (bt:∀ p∈t,Bt n p.2) (bx:∀ p∈tx,Bt c' p.2) (by_:∀ p∈ty,Bt c' p.2) (bm:Bt c' m) (ss:s*s=1)
  (vx:∀ X Y,vl tx X Y=P*X+-s*Q*Y+R) (vy:∀ X Y,vl ty X Y=Q*X+s*P*Y+T) (w:∀ S' p ep g q',aN S S'->S p=none->GQ g q'->J8 m P Q R T s q q'->(∀ p∈g,Bt (n+3*(c'+9)) p.2)->S' p=some (bN (aX g) ep)->k (.ref p) S'):gq [.ref a,.ref b,.ref c,.int m] S k:=by
 obtain⟨d,hd,hdA⟩:=wD ht (fQ.mp qd)
 have d2:d<=2:=by rcases hdA with z | z <;> omega
 refine⟨a,b,c,t,tx,ty,e,e1,e2,m,n,c',d,rfl,ha,hb,hc,ht.ci2,hd,d2,hx,hy,hn,hc',bt,bx,by_,bm,n1,fun S' p ep g x hp hg nb v hh=>?_⟩
 rcases hdA with ⟨a0,rfl⟩ | ⟨a0,rfl⟩
 ·have ht':GC t 0 q.b q.c q.e:=by
   have:=ht
   unfold GQ at this
   rw [a0] at this
   exact this
  have h1:=GC.set1 (m:=m) (p:=P) (q:=Q) (e:=R) (f:=T) (s:=s) ht' hg (fun p hp=>(nb p hp).1) (fun X Y=>by rw [v X Y,vx,vy])
  exact w S' p ep g ⟨0,q.b*P+q.c*Q,s*(q.c*P - q.b*Q),q.b*R+q.c*T+m*q.e⟩ x hp h1 (.inr ⟨a0,rfl⟩) (fun p hp=>(nb p hp).2) hh
 ·have h1:=GC.set2 (m:=m) (p:=P) (q:=Q) (e:=R) (f:=T) (s:=s) ht ss hg (fun p hp=>(nb p hp).1) (fun X Y=>by rw [v X Y,vx,vy])
  exact w S' p ep g ⟨q.a*(P*P+Q*Q),2*q.a*(P*R+Q*T)+m*(q.b*P+q.c*Q),s*(2*q.a*(P*T - Q*R)+m*(q.c*P - q.b*Q)),q.a*(R*R+T*T)+m*(q.b*R+q.c*T)+m*m*q.e⟩ x hp h1 (.inl ⟨a0,rfl⟩) (fun p hp=>(nb p hp).2) hh
abbrev rq (u v r:Int):List (List Int×Int):=[([1,0],u),([0,1],v),([0,0],r)]
theorem wm {u v r:Int}:Ci 1 (rq u v r):=⟨by show([[1,0],[0,1],[0,0]]:List (List Int)).Nodup; decide,fun p hp=>by
 simp only [rq,List.mem_cons,List.not_mem_nil,or_false] at hp
 rcases hp with rfl | rfl | rfl
 ·exact⟨1,0,rfl,by decide,by decide,by decide,by decide⟩
 ·exact⟨0,1,rfl,by decide,by decide,by decide,by decide⟩
 ·exact⟨0,0,rfl,by decide,by decide,by decide,by decide⟩⟩
theorem EL {u v r X Y:Int}:vl (rq u v r) X Y=u*X+v*Y+r:=by
 show u*(X ^ 1*Y ^ 0)+(v*(X ^ 0*Y ^ 1)+(r*(X ^ 0*Y ^ 0)+0))=_
 grind
theorem AY {n:Nat} {u v r:Int} (hu:Bt n u) (hv:Bt n v) (hr:Bt n r):∀ p∈rq u v r,Bt n p.2:=fun p hp=>by
 simp only [rq,List.mem_cons,List.not_mem_nil,or_false] at hp
 rcases hp with rfl | rfl | rfl <;> assumption
theorem xy {S:DH} {p:Addr} {e0 e1:Nat} {u v r:Int}:put (put S p (.gen (.dT [] e0))) p (.gen (.dT (bw [] (aX (rq u v r))) e1)) p=some (bN (aX (rq u v r)) e1):=by rw [ak,fK (f:=D.int) (l:=rq u v r) wm.nd]
theorem BL {n:Nat} {s x:Int} (h:s=1\/s=-1) (hx:Bt n x):Bt n (s*x):=by
 rcases h with rfl | rfl
 ·rw [Int.one_mul]; exact hx
 ·rw [Int.neg_mul,Int.one_mul]; exact hx.neg
def gW:b_:=fun ds S k=>∃ (l:Ld) (a:Addr) (t:List (List Int×Int)) (e:Nat) (q:Qc) (n z:Nat),ds=[pQ l,.ref a]/\gP l=false/\lB l/\oD l/\S a=some (bN (aX t) e)/\GQ t q/\0 < q.D/\(∀ p∈t,Bt n p.2)/\1<=n/\n<=2500/\∀ S' p ep g q',aN S S'->S p=none->GQ g q'->xn l q q'->(∀ p∈g,Bt (n+800) p.2)->S' p=some (bN (aX g) ep)->k (.ref p) S'
theorem cj:ar ["lead","tops","found","bottom","by","shift","sign","x","y"] ["lead","tops"] (ap jq):=dN
theorem qZ (Fn:cT K "tops_moved" "tops_moved" jq f fd) (wC:aQ P w K mg base "flat" 37 vH) (wo:aQ P w K mg base "back" 36 vM) (cq:aQ P w K mg base "common_bottom" 35 dR) (cO:aQ P w K mg base "wholes_over" 1 fY) (ib:aQ P w K mg base "set_in" 2 gq):
  aH P w K mg base cQ 38 f fd ["lead","tops"] (cY K gW):=by
 refine Fn.okJ cj (fun ds S k h=>?_) (fun cdv A outer s H E hr=>⟨_,(af (ag (i:=2) cj.nd (dq wC hr (aa (dq wo hr (aa (ac 0) ae)) ae))) (af (ag (i:=3) cj.nd (dq cq hr (aa (au Hw (ai aj (ac 2) ad (fun _ _=>rfl)) (ai aj (ac 2) ad (fun _ _=>rfl))) ae))) (af (ag (i:=4) cj.nd (dq cO hr (aa (ai aj (ac 2) ad (fun _ _=>rfl)) (aa (ac 3) ae)))) (af (ag (i:=5) cj.nd (dq cO hr (aa (ai aj (ac 2) ad (fun _ _=>rfl)) (aa (ac 3) ae)))) (af (ag (i:=6) cj.nd (lM (lh (ai aj (ac 2) ad (fun _ _=>rfl))) (fv fg ad) ad)) (af (ag (i:=7) cj.nd (fW hr (a_ (aq (aa ad (aa ad ae))) (ai aj (ac 4) ad (fun _ _=>rfl)) (a_ (aq (aa ad (aa ad ae))) (au aV (fv fg (ac 6)) (ai aj (ac 4) ad (fun _ _=>rfl))) (a_ (aq (aa ad (aa ad ae))) (ai aj (ac 5) ad (fun _ _=>rfl)) iQ))))) (af (ag (i:=8) cj.nd (fW hr (a_ (aq (aa ad (aa ad ae))) (ai aj (ac 4) ad (fun _ _=>rfl)) (a_ (aq (aa ad (aa ad ae))) (au aV (ac 6) (ai aj (ac 4) ad (fun _ _=>rfl))) (a_ (aq (aa ad (aa ad ae))) (ai aj (ac 5) ad (fun _ _=>rfl)) iQ))))) (ah (am (dq ib hr (aa (ac 1) (aa (ac 7) (aa (ac 8) (aa (ac 3) ae)))))))))))))),fun ds S k h=>?_⟩)
 ·obtain⟨_,_,_,_,_,_,_,rfl,_⟩:=h
  rfl
 ·obtain⟨l,a,t,e,q,n,z,rfl,hl,ok,sz,ha,ht,qd,bt,n1,hn,w⟩:=h
  have ok':=Jn ok
  have sz':=Iw ok sz
  have hl':gP (bk l)=false:=FR.trans hl
  obtain⟨_,_,_,_,_,F0⟩:=Ap ok' sz' hl'
  have F:=EB F0
  obtain⟨s1,s2,s3,s4⟩:=JJ ok' sz' hl'
  have nm:=Es ok' hl'
  refine⟨l,rfl,ok,sz,bk l,rfl,hl',ok',sz',?_⟩
  have gwb:=Ih ok
  clear F0
  generalize wk (bk l)=f at F s1 s2 s3 s4 nm ⊢
  have np:((dO f.p (dQ f)*dO f.p (dQ f)+dO f.q (dQ f)*dO f.q (dQ f):Int):Rat)*(gw l*gw l)=(dQ f:Rat)*(dQ f:Rat):=by
   rw [Rat.intCast_add,Rat.intCast_mul,Rat.intCast_mul,<- F.p,<- F.q]
   generalize ((dQ f:Int):Rat)=m
   generalize gw (bk l)=g at nm gwb
   generalize gw l=g' at gwb
   have:f.p*m*(f.p*m)+f.q*m*(f.q*m)=m*m*(g*g):=by rw [<- nm]; grind
   rw [this]
   have e2:g*g*(g'*g')=1:=by rw [show g*g*(g'*g')=(g*g')*(g*g') by grind,gwb]; grind
   grind
  refine⟨Nat.le_of_ble_eq_true rfl,[f.p,f.q,f.r,f.s],rfl,fun q h=>?_,by show 4<=4; decide,?_⟩
  ·simp only [List.mem_cons,List.not_mem_nil,or_false] at h
   rcases h with rfl | rfl | rfl | rfl
   ·exact s1.mono (by decide)
   ·exact s2.mono (by decide)
   ·exact s3.mono (by decide)
   ·exact s4.mono (by decide)
  refine⟨f.p,f.q,dQ f,rfl,s1.mono (by decide),s2.mono (by decide),F.bk.mono (by decide),fun S1 p1 x1 h1=>?_⟩
  refine⟨f.r,f.s,dQ f,rfl,s3.mono (by decide),s4.mono (by decide),F.bk.mono (by decide),fun S2 p2 x2 h2=>?_⟩
  have go:∀ s:Int,s=1\/s=-1->∀ p3,S2 p3=none->∀ e3 e4 p4,put (put S2 p3 (.gen (.dT [] e3))) p3 (.gen (.dT (bw [] (aX (rq (dO f.p (dQ f)) (-s*dO f.q (dQ f)) (dO f.r (dQ f))))) e4)) p4=none->∀ e5 e6,gq [.ref a,.ref p3,.ref p4,.int (dQ f)] (put (put (put (put S2 p3 (.gen (.dT [] e3))) p3 (.gen (.dT (bw [] (aX (rq (dO f.p (dQ f)) (-s*dO f.q (dQ f)) (dO f.r (dQ f))))) e4))) p4 (.gen (.dT [] e5))) p4 (.gen (.dT (bw [] (aX (rq (dO f.q (dQ f)) (s*dO f.p (dQ f)) (dO f.s (dQ f))))) e6))) k:=by
   intro s hs p3 hp3 e3 e4 p4 hp4 e5 e6
   have x3:aN S2 (put (put S2 p3 (.gen (.dT [] e3))) p3 (.gen (.dT (bw [] (aX (rq (dO f.p (dQ f)) (-s*dO f.q (dQ f)) (dO f.r (dQ f))))) e4))):=(aN.new hp3).put hp3
   have h3:=xy (S:=S2) (p:=p3) (e0:=e3) (e1:=e4) (u:=dO f.p (dQ f)) (v:=-s*dO f.q (dQ f)) (r:=dO f.r (dQ f))
   generalize put (put S2 p3 (.gen (.dT [] e3))) p3 (.gen (.dT (bw [] (aX (rq (dO f.p (dQ f)) (-s*dO f.q (dQ f)) (dO f.r (dQ f))))) e4))=S3 at x3 h3 hp4 ⊢
   have x4:aN S3 (put (put S3 p4 (.gen (.dT [] e5))) p4 (.gen (.dT (bw [] (aX (rq (dO f.q (dQ f)) (s*dO f.p (dQ f)) (dO f.s (dQ f))))) e6))):=(aN.new hp4).put hp4
   have h4:=xy (S:=S3) (p:=p4) (e0:=e5) (e1:=e6) (u:=dO f.q (dQ f)) (v:=s*dO f.p (dQ f)) (r:=dO f.s (dQ f))
   generalize put (put S3 p4 (.gen (.dT [] e5))) p4 (.gen (.dT (bw [] (aX (rq (dO f.q (dQ f)) (s*dO f.p (dQ f)) (dO f.s (dQ f))))) e6))=S4 at x4 h4 ⊢
   have X4:aN S S4:=x1.trans (x2.trans (x3.trans x4))
   have ns:-s=1\/-s=-1:=by omega
   have ss:s*s=1:=by rcases hs with rfl | rfl <;> decide
   refine zI (P:=dO f.p (dQ f)) (Q:=dO f.q (dQ f)) (R:=dO f.r (dQ f)) (T:=dO f.s (dQ f)) (s:=s) (n:=n) (c':=136) (X4 _ _ ha) (x4 _ _ h3) h4 ht qd wm wm (by omega) n1 (by decide) bt (AY F.bP (BL ns F.bQ) F.bR) (AY F.bQ (BL hs F.bP) F.bS) F.bk ss (fun X Y=>EL) (fun X Y=>EL) fun S5 p5 e7 g q' x5 h5 hg hm bg hp5=>?_
   exact w S5 p5 e7 g q' (X4.trans x5) (jo X4 h5) hg (xn.move ok hl qd F.k0 ss np hm) (fun p hp=>(bg p hp).mono (by omega)) hp5
  have at0:∀ {x y:Int},L2.atI [D.int x,D.int y] 0=some (.int x):=fun {x y}=>rfl
  have at1:∀ {x y:Int},L2.atI [D.int x,D.int y] 1=some (.int y):=fun {x y}=>rfl
  have h1':=x2 _ _ h1
  refine lJ (fun _=>?_) (fun _=>?_)
  ·refine fun p3 hp3 e3=>⟨few,_,_,av hp3 h1',at0,few,_,_,av hp3 h1',at1,iB (m:=1) (by decide) F.bQ (by decide),few,_,_,av hp3 h2,at0,e3,aX (rq (dO f.p (dQ f)) (-(-1)*dO f.q (dQ f)) (dO f.r (dQ f))),ak,rfl,by show 3<=15; decide,fun e4=>fun p4 hp4 e5=>?_⟩
   have x3:aN S2 (put (put S2 p3 (.gen (.dT [] e3))) p3 (.gen (.dT (bw [] (aX (rq (dO f.p (dQ f)) (-(-1)*dO f.q (dQ f)) (dO f.r (dQ f))))) e4))):=(aN.new hp3).put hp3
   refine⟨few,_,_,av hp4 (x3 _ _ h1'),at1,few,_,_,av hp4 (x3 _ _ h1'),at0,iB (m:=1) (by decide) F.bP (by decide),few,_,_,av hp4 (x3 _ _ h2),at1,e5,aX (rq (dO f.q (dQ f)) ((-1)*dO f.p (dQ f)) (dO f.s (dQ f))),ak,rfl,by show 3<=15; decide,fun e6=>?_⟩
   exact go (-1) (.inr rfl) p3 hp3 e3 e4 p4 hp4 e5 e6
  ·refine fun p3 hp3 e3=>⟨few,_,_,av hp3 h1',at0,few,_,_,av hp3 h1',at1,iB (m:=1) (by decide) F.bQ (by decide),few,_,_,av hp3 h2,at0,e3,aX (rq (dO f.p (dQ f)) (-1*dO f.q (dQ f)) (dO f.r (dQ f))),ak,rfl,by show 3<=15; decide,fun e4=>fun p4 hp4 e5=>?_⟩
   have x3:aN S2 (put (put S2 p3 (.gen (.dT [] e3))) p3 (.gen (.dT (bw [] (aX (rq (dO f.p (dQ f)) (-1*dO f.q (dQ f)) (dO f.r (dQ f))))) e4))):=(aN.new hp3).put hp3
   refine⟨few,_,_,av hp4 (x3 _ _ h1'),at1,few,_,_,av hp4 (x3 _ _ h1'),at0,iB (m:=1) (by decide) F.bP (by decide),few,_,_,av hp4 (x3 _ _ h2),at1,e5,aX (rq (dO f.q (dQ f)) (1*dO f.p (dQ f)) (dO f.s (dQ f))),ak,rfl,by show 3<=15; decide,fun e6=>?_⟩
   exact go 1 (.inl rfl) p3 hp3 e3 e4 p4 hp4 e5 e6
set_option maxHeartbeats 4000000
abbrev xP (u r:Int):List (List Int×Int):=[([1,0],u),([0,0],r)]
abbrev yA (u r:Int):List (List Int×Int):=[([0,1],u),([0,0],r)]
theorem Cp {u r:Int}:Ci 1 (xP u r):=⟨by show([[1,0],[0,0]]:List (List Int)).Nodup; decide,fun p hp=>by
 simp only [xP,List.mem_cons,List.not_mem_nil,or_false] at hp
 rcases hp with rfl | rfl
 ·exact⟨1,0,rfl,by decide,by decide,by decide,by decide⟩
 ·exact⟨0,0,rfl,by decide,by decide,by decide,by decide⟩⟩
theorem BR {u r:Int}:Ci 1 (yA u r):=⟨by show([[0,1],[0,0]]:List (List Int)).Nodup; decide,fun p hp=>by
 simp only [yA,List.mem_cons,List.not_mem_nil,or_false] at hp
 rcases hp with rfl | rfl
 ·exact⟨0,1,rfl,by decide,by decide,by decide,by decide⟩
 ·exact⟨0,0,rfl,by decide,by decide,by decide,by decide⟩⟩
theorem Ju {u r X Y:Int}:vl (xP u r) X Y=u*X+-1*0*Y+r:=by
 show u*(X ^ 1*Y ^ 0)+(r*(X ^ 0*Y ^ 0)+0)=_
 grind
theorem Jf {u r X Y:Int}:vl (yA u r) X Y=0*X+1*u*Y+r:=by
 show u*(X ^ 0*Y ^ 1)+(r*(X ^ 0*Y ^ 0)+0)=_
 grind
theorem GD {n:Nat} {u r:Int} (hu:Bt n u) (hr:Bt n r):∀ p∈xP u r,Bt n p.2:=fun p hp=>by
 simp only [xP,List.mem_cons,List.not_mem_nil,or_false] at hp
 rcases hp with rfl | rfl <;> assumption
theorem Fm {n:Nat} {u r:Int} (hu:Bt n u) (hr:Bt n r):∀ p∈yA u r,Bt n p.2:=fun p hp=>by
 simp only [yA,List.mem_cons,List.not_mem_nil,or_false] at hp
 rcases hp with rfl | rfl <;> assumption
theorem wR {S:DH} {k:DK} {a:Addr} {t:List (List Int×Int)} {e n:Nat} {m u v:Int} {q:Qc} (ha:S a=some (bN (aX t) e)) (ht:GQ t q) (qd:0 < q.D) (hn:n<=8000) (n1:1<=n) (bt:∀ p∈t,Bt n p.2) (bm:Bt 100 m) (bu:Bt 100 u) (bv:Bt 100 v) (m0:m≠0)
  (w:∀ S' p ep g q',aN S S'->S p=none->GQ g q'->J8 m m 0 u v 1 q q'->xn (.shift 0 0) q q'->(∀ p∈g,Bt (n+327) p.2)->S' p=some (bN (aX g) ep)->k (.ref p) S'):
  ∀ p3,S p3=none->∀ e3 e4 p4,put (put S p3 (.gen (.dT [] e3))) p3 (.gen (.dT (bw [] (aX (xP m u))) e4)) p4=none->∀ e5 e6,gq [.ref a,.ref p3,.ref p4,.int m] (put (put (put (put S p3 (.gen (.dT [] e3))) p3 (.gen (.dT (bw [] (aX (xP m u))) e4))) p4 (.gen (.dT [] e5))) p4 (.gen (.dT (bw [] (aX (yA m v))) e6))) k:=by
 intro p3 hp3 e3 e4 p4 hp4 e5 e6
 have x3:aN S (put (put S p3 (.gen (.dT [] e3))) p3 (.gen (.dT (bw [] (aX (xP m u))) e4))):=(aN.new hp3).put hp3
 have h3:put (put S p3 (.gen (.dT [] e3))) p3 (.gen (.dT (bw [] (aX (xP m u))) e4)) p3=some (bN (aX (xP m u)) e4):=by rw [ak,fK (f:=D.int) (l:=xP m u) Cp.nd]
 generalize put (put S p3 (.gen (.dT [] e3))) p3 (.gen (.dT (bw [] (aX (xP m u))) e4))=S3 at x3 h3 hp4 ⊢
 have x4:aN S3 (put (put S3 p4 (.gen (.dT [] e5))) p4 (.gen (.dT (bw [] (aX (yA m v))) e6))):=(aN.new hp4).put hp4
 have h4:put (put S3 p4 (.gen (.dT [] e5))) p4 (.gen (.dT (bw [] (aX (yA m v))) e6)) p4=some (bN (aX (yA m v)) e6):=by rw [ak,fK (f:=D.int) (l:=yA m v) BR.nd]
 generalize put (put S3 p4 (.gen (.dT [] e5))) p4 (.gen (.dT (bw [] (aX (yA m v))) e6))=S4 at x4 h4 ⊢
 have X4:aN S S4:=x3.trans x4
 refine zI (P:=m) (Q:=0) (R:=u) (T:=v) (s:=1) (n:=n) (c':=100) (X4 _ _ ha) (x4 _ _ h3) h4 ht qd Cp BR hn n1 (by decide) bt (GD bm bu) (Fm bm bv) bm (by decide) (fun X Y=>Ju) (fun X Y=>Jf) fun S5 p5 e7 g q' x5 h5 hg hm bg hp5=>?_
 refine w S5 p5 e7 g q' (X4.trans x5) (jo X4 h5) hg hm (xn.move (l:=.shift 0 0) trivial rfl qd m0 (by decide) ?_ hm) bg hp5
 rw [Int.mul_zero,Int.add_zero,Rat.intCast_mul]
 show _*((1:Rat)*1)=_
 grind
theorem xn.a0 {q q':Qc} (h:xn (.shift 0 0) q q'):q'.a=0↔q.a=0:=(h.mv rfl).1
theorem J6 {m u v:Int} {q q':Qc} {x y:Rat} (m0:m≠0) (hu:(u:Rat)=x*m) (hv:(v:Rat)=y*m) (h:J8 m m 0 u v 1 q q'):q'.e=0↔q.at x y=0:=by
 have m0':(m:Rat)≠0:=fun z=>m0 (i0.mp z)
 rw [<- i0]
 have key:∃ μ:Rat,μ≠0/\(q'.e:Rat)=μ*q.at x y:=by
  rcases h with ⟨a0,rfl⟩ | ⟨a0,rfl⟩
  ·refine⟨m*m,fun z=>by rcases Rat.mul_eq_zero.mp z with y | y <;> exact m0' y,?_⟩
   show((q.a*(u*u+v*v)+m*(q.b*u+q.c*v)+m*m*q.e:Int):Rat)=_
   simp only [Rat.intCast_add,Rat.intCast_mul]
   rw [hu,hv]
   unfold Qc.at
   grind
  ·refine⟨m,m0',?_⟩
   show((q.b*u+q.c*v+m*q.e:Int):Rat)=_
   simp only [Rat.intCast_add,Rat.intCast_mul]
   rw [hu,hv]
   unfold Qc.at
   rw [a0]
   show _=_*((0:Rat)*_+_+_+_)
   grind
 obtain⟨μ,μ0,e⟩:=key
 rw [e]
 constructor
 ·intro z
  rcases Rat.mul_eq_zero.mp z with y | y
  ·exact absurd y μ0
  ·exact y
 ·intro z
  rw [z]
  grind
def gG:b_:=fun ds S k=>∃ (x y p:Rat) (a:Addr) (t:List (List Int×Int)) (e:Nat) (q:Qc) (n z:Nat),ds=[pQ (.invert x y p),.ref a]/\lB (.invert x y p)/\oD (.invert x y p)/\S a=some (bN (aX t) e)/\GQ t q/\0 < q.D/\(∀ p∈t,Bt n p.2)/\1<=n/\n<=2500/\∀ S' p' ep g q',aN S S'->S p'=none->GQ g q'->xn (.invert x y p) q q'->(∀ p∈g,Bt (n+800) p.2)->S' p'=some (bN (aX g) ep)->k (.ref p') S'
theorem cW:ar ["lead","tops","bottom","middle","from_middle","told"] ["lead","tops"] (ap gy):=dN
theorem nT (Fn:cT K "tops_inverted" "tops_inverted" gy f fd) (cq:aQ P w K mg base "common_bottom" 35 dR) (cO:aQ P w K mg base "wholes_over" 1 fY) (ib:aQ P w K mg base "set_in" 2 gq) (iT:aQ P w K mg base "turned_over" 4 fS):
  aH P w K mg base cQ 36 f fd ["lead","tops"] (cY K gG):=by
 refine Fn.okJ cW (fun ds S k h=>?_) (fun cdv A outer s H E hr=>⟨_,(af (ag (i:=2) cW.nd (dq cq hr (aa (jE (ac 0) (c9 ad) (c9 ad)) ae))) (af (ag (i:=3) cW.nd (dq cO hr (aa (jE (ac 0) (c9 ad) (c9 ad)) (aa (ac 2) ae)))) (af (ag (i:=4) cW.nd (dq ib hr (aa (ac 1) (aa (fW hr (a_ (aq (aa ad (aa ad ae))) (ac 2) (a_ (aq (aa ad (aa ad ae))) (ai aj (ac 3) ad (fun _ _=>rfl)) iQ))) (aa (fW hr (a_ (aq (aa ad (aa ad ae))) (ac 2) (a_ (aq (aa ad (aa ad ae))) (ai aj (ac 3) ad (fun _ _=>rfl)) iQ))) (aa (ac 2) ae)))))) (af (ag (i:=5) cW.nd (dq iT hr (aa (ac 4) (aa (ai aj (ac 0) ad (fun _ _=>rfl)) ae)))) (ah (am (dq ib hr (aa (ac 5) (aa (fW hr (a_ (aq (aa ad (aa ad ae))) (ac 2) (a_ (aq (aa ad (aa ad ae))) (fv fg (ai aj (ac 3) ad (fun _ _=>rfl))) iQ))) (aa (fW hr (a_ (aq (aa ad (aa ad ae))) (ac 2) (a_ (aq (aa ad (aa ad ae))) (fv fg (ai aj (ac 3) ad (fun _ _=>rfl))) iQ))) (aa (ac 2) ae))))))))))),fun ds S k h=>?_⟩)
 ·obtain⟨_,_,_,_,_,_,_,_,_,rfl,_⟩:=h
  rfl
 ·obtain⟨x,y,p,a,t,e,q,n,z,rfl,ok,sz,ha,ht,qd,bt,n1,hn,w⟩:=h
  obtain⟨hx,hy,hp⟩:=sz
  have p0:p≠0:=ok
  have c4:¬ (HT.eu 4 0 (some 1)=0/\HT.eu 4 4 (some 3)=4):=by decide
  have hxy:∀ q∈[x,y],Sz 480 q:=fun q h=>by
   simp only [List.mem_cons,List.not_mem_nil,or_false] at h
   rcases h with rfl | rfl
   ·exact hx.mono (by decide)
   ·exact hy.mono (by decide)
  have dvd:jL 1 [x,y] ∣ (x.den:Int)*(y.den:Int):=mC (Int.one_dvd _) fun q h=>by
   simp only [List.mem_cons,List.not_mem_nil,or_false] at h
   rcases h with rfl | rfl
   ·exact⟨_,rfl⟩
   ·exact⟨_,Int.mul_comm _ _⟩
  have bm:Bt 48 (jL 1 [x,y]):=kf dvd (aI x y) (hx.den.mul hy.den)
  have m0:jL 1 [x,y]≠0:=by have:=qz (qs:=[x,y]) (m:=1) (by decide); omega
  have dv:=(qD (qs:=[x,y]) (m:=1)).2
  have hu:((dO x (jL 1 [x,y]):Int):Rat)=x*(jL 1 [x,y]:Int):=lS (dv x (by simp))
  have hv:((dO y (jL 1 [x,y]):Int):Rat)=y*(jL 1 [x,y]:Int):=lS (dv y (by simp))
  have bu:Bt 100 (dO x (jL 1 [x,y])):=(hx.num.mul (bm.le (HM.aC _ _))).mono (by decide)
  have bv:Bt 100 (dO y (jL 1 [x,y])):=(hy.num.mul (bm.le (HM.aC _ _))).mono (by decide)
  refine⟨c4,[x,y],rfl,hxy,by show 2<=4; decide,c4,x,y,_,rfl,hx.mono (by decide),hy.mono (by decide),bm.mono (by decide),fun S1 p1 x1 h1=>?_⟩
  have at0:∀ {x y:Int},L2.atI [D.int x,D.int y] 0=some (.int x):=fun {x y}=>rfl
  have at1:∀ {x y:Int},L2.atI [D.int x,D.int y] 1=some (.int y):=fun {x y}=>rfl
  generalize jL 1 [x,y]=m at*
  generalize dO x m=u at*
  generalize dO y m=v at*
  have bm':=bm.mono (show 48<=100 by decide)
  refine fun p3 hp3 e3=>⟨few,few,_,_,av hp3 h1,at0,e3,aX (xP m u),ak,rfl,by show 2<=15; decide,fun e4=>fun p4 hp4 e5=>⟨few,few,_,_,av hp4 (((aN.new hp3).put hp3) _ _ h1),at1,e5,aX (yA m v),ak,rfl,by show 2<=15; decide,fun e6=>?_⟩⟩
  refine wR (n:=n) (k:=(fun d T=>(rb (qY 5 (fz fS (bq (cP 4) (bq (kB kg (cP 0) (dC (D.int 3))) iS)))) (Ck (fz gq (bq (cP 5) (bq (zH (pP (vC (bq (dC (D.int 1)) (bq (dC (D.int 0)) iS))) (cP 2) (pP (vC (bq (dC (D.int 0)) (bq (dC (D.int 0)) iS))) (HF Fj (kB kg (cP 3) (dC (D.int 0)))) Ab))) (bq (zH (pP (vC (bq (dC (D.int 0)) (bq (dC (D.int 1)) iS))) (cP 2) (pP (vC (bq (dC (D.int 0)) (bq (dC (D.int 0)) iS))) (HF Fj (kB kg (cP 3) (dC (D.int 1)))) Ab))) (bq (cP 2) iS))))))) {nx:=fun _ S'=>k D.non S',rt:=k} [some (pQ (Ld.invert x y p)),some (D.ref a),some (D.int m),some (D.ref p1),some d,none] T)) (x1 _ _ ha) ht qd (by omega) n1 bt bm' bu bv m0 (fun S2 p5 e7 g1 q1 x2 h5 hg1 hm1 hr1 bg1 hp5=>?_) p3 hp3 e3 e4 p4 hp4 e5 e6
  have P0:p.num≠0:=fun z=>p0 (Rat.num_eq_zero.mp z)
  obtain⟨ba,bb,bc,be⟩:=hg1.bts bg1
  refine⟨p5,g1,e7,q1.a,q1.b,q1.c,q1.e,p.num,(p.den:Int),n+327,rfl,hp5,hg1,fQ.mp hr1.d,P0,fE p,bg1,by omega,hp.num.mono (by decide),hp.den.mono (by decide),fun S3 p6 e8 g2 x3 gA gB hp6=>?_⟩
  have e0:=J6 m0 hu hv hm1
  have q2:∃ q2:Qc,GQ g2 q2/\0 < q2.D/\(q2.a=0↔q1.e=0)/\∀ z∈g2,Bt (n+380) z.2:=by
   by_cases a0:q1.a=0
   ·have gb:=gB a0
    have dd:=fQ.mp hr1.d
    rw [a0] at dd
    refine⟨⟨q1.e*(p.den:Int),p.num*q1.b,p.num*q1.c,0⟩,gb,fQ.mpr (ut dd P0),⟨fun z=>?_,fun z=>?_⟩,gb.of_bts ((be.mul hp.den).mono (by omega)) ((hp.num.mul bb).mono (by omega)) ((hp.num.mul bc).mono (by omega)) (K4.mono (by omega))⟩
    ·rcases Int.mul_eq_zero.mp z with y | y
     ·exact y
     ·exact absurd y (fE p)
    ·show q1.e*_=0
     rw [z,Int.zero_mul]
   ·have ga:=gA a0
    refine⟨⟨q1.e*((p.den:Int)*(p.den:Int)),p.num*(p.den:Int)*q1.b,p.num*(p.den:Int)*q1.c,q1.a*(p.num*p.num)⟩,ga,fQ.mpr (uz (fQ.mp hr1.d) P0 (fE p)),⟨fun z=>?_,fun z=>?_⟩,ga.of_bts ((be.mul (hp.den.mul hp.den)).mono (by omega)) (((hp.num.mul hp.den).mul bb).mono (by omega)) (((hp.num.mul hp.den).mul bc).mono (by omega)) ((ba.mul (hp.num.mul hp.num)).mono (by omega))⟩
    ·rcases Int.mul_eq_zero.mp z with y | y
     ·exact y
     ·exact absurd y (Int.mul_ne_zero (fE p) (fE p))
    ·show q1.e*_=0
     rw [z,Int.zero_mul]
  obtain⟨q2,hg2,d2,a2,bg2⟩:=q2
  have X3:aN S1 S3:=x2.trans x3
  have h13:=X3 _ _ h1
  refine fun p7 hp7 e9=>⟨few,few,_,_,av hp7 h13,at0,e9,aX (xP m (-u)),ak,rfl,by show 2<=15; decide,fun e10=>fun p8 hp8 e11=>⟨few,few,_,_,av hp8 (((aN.new hp7).put hp7) _ _ h13),at1,e11,aX (yA m (-v)),ak,rfl,by show 2<=15; decide,fun e12=>?_⟩⟩
  refine wR (n:=n+380) (k:=k) hp6 hg2 d2 (by omega) (by omega) bg2 bm' bu.neg bv.neg m0 (fun S4 p9 e13 g3 q3 x4 h9 hg3 hm3 hr3 bg3 hp9=>?_) p7 hp7 e9 e10 p8 hp8 e11 e12
  refine w S4 p9 e13 g3 q3 (x1.trans (X3.trans x4)) (jo (x1.trans X3) h9) hg3 ⟨hr3.d,fun z=>(nomatch z),fun x' y' p' e'=>?_⟩ (fun z hz=>(bg3 z hz).mono (by omega)) hp9
  cases e'
  exact hr3.a0.trans (a2.trans e0)
set_option maxHeartbeats 4000000
def FB (S:DH) (y:D) (ds:List D):Prop:=y=.tup ds\/∃ a,y=.ref a/\S a=some (.lst ds)
theorem vX {S:DH} {y:D} {ds:List D} (h:FB S y ds):∃ o,aU S y=some (ds,o)/\∀ S',aN S S'->mX (ds,o) S':=by
 rcases h with rfl | ⟨a,rfl,e⟩
 ·exact⟨none,rfl,fun _ _=>trivial⟩
 ·exact⟨some a,by simp only [aU,e],fun S' x=>x _ _ e⟩
abbrev oI (ns:List (List Int×Int)):List (List Int×Rat):=ns.map fun p=>(p.1,(p.2:Rat))
theorem qh {ns:List (List Int×Int)}:wq ns=lq (oI ns):=by
 show ns.map _=List.map _ (ns.map _)
 rw [List.map_map]
 rfl
theorem kT {ns:List (List Int×Int)}:(oI ns).map (·.1)=ns.map (·.1):=by
 rw [List.map_map]
 rfl
theorem vS {ns:List (List Int×Int)} {n:Nat} (b:∀ p∈ns,Bt n p.2):Dn 1 n (oI ns):=fun p hp=>by
 obtain⟨q,hq,rfl⟩:=List.mem_map.mp hp
 exact⟨q.2,b q hq,by show(1:Rat)*_=_; grind⟩
theorem wK {ns:List (List Int×Int)} {n:Nat} (n1:1<=n) (b:∀ p∈ns,Bt n p.2):∀ p∈oI ns,Sz n p.2:=fun p hp=>by
 obtain⟨q,hq,rfl⟩:=List.mem_map.mp hp
 exact⟨b q hq,EK.mono n1⟩
theorem BE {ns:List (List Int×Int)} (h:∀ p∈ns,p.2≠0):∀ p∈oI ns,p.2≠0:=fun p hp=>by
 obtain⟨q,hq,rfl⟩:=List.mem_map.mp hp
 exact fun z=>h q hq (i0.mp z)
theorem DQ {ns:List (List Int×Int)} {b:Int} (h:Ci b ns):∀ p∈oI ns,∃ i j,p.1=[i,j]:=fun p hp=>by
 obtain⟨q,hq,rfl⟩:=List.mem_map.mp hp
 obtain⟨i,j,e,_⟩:=h.sm q hq
 exact⟨i,j,e⟩
theorem Ak {n:Int}:dZ 1 (n:Rat)=n:=by
 show n*Int.fdiv 1 1=n
 rw [show Int.fdiv 1 1=1 by decide,Int.mul_one]
theorem DX {g:List (List Int×Int)}:((oI g).map fun x=>(x.1,dZ 1 x.2))=g:=by
 rw [List.map_map]
 conv=>rhs; rw [<- List.map_id g]
 exact List.map_congr_left fun p _=>by
  show(p.1,dZ 1 (p.2:Rat))=p
  rw [Ak]
theorem zD {q:Qc} (d:0 < q.D):¬ (q.a=0/\q.b=0/\q.c=0/\q.e=0):=by
 rintro⟨a0,b0,c0,e0⟩
 have:=fQ.mp d
 rw [a0,b0,c0,e0] at this
 exact absurd this (by decide)
theorem GC.len {t:List (List Int×Int)} {a b c d:Int} (h:GC t a b c d):t.length<=9:=Ci.len (b:=2) h.ci2
theorem Hd {g:List (List Int×Int)} {q:Qc} {γ:Int} {n:Nat} (h:GQ g q) (γ0:γ≠0) (γd:∀ p∈g,γ ∣ p.2) (b:∀ p∈g,Bt n p.2):∃ q',GQ (g.map fun x=>(x.1,x.2.fdiv γ)) q'/\CI q q'/\∀ p∈g.map fun x=>(x.1,x.2.fdiv γ),Bt n p.2:=by
 have ex:∀ {x:Int},γ ∣ x->((x.fdiv γ:Int):Rat)=1 / (γ:Rat)*x:=fun {x} hx=>by
  obtain⟨c,rfl⟩:=hx
  rw [Int.mul_fdiv_cancel_left _ γ0,Rat.intCast_mul]
  have:(γ:Rat)≠0:=fun z=>γ0 (i0.mp z)
  grind
 have γ0':(γ:Rat)≠0:=fun z=>γ0 (i0.mp z)
 obtain⟨q',h1,h2⟩:=GC.scale (t':=g.map fun x=>(x.1,x.2.fdiv γ)) (τ:=1 / (γ:Rat)) h ⟨by rw [List.map_map]; exact h.ci.nd,fun p hp=>by
  obtain⟨x,hx,rfl⟩:=List.mem_map.mp hp
  exact h.ci.sm x hx⟩ (fun p hp z=>by
  obtain⟨x,hx,rfl⟩:=List.mem_map.mp hp
  have e:=ex (γd x hx)
  rw [show x.2.fdiv γ=0 from z] at e
  have e:(0:Rat)=1 / (γ:Rat)*x.2:=e
  rcases Rat.mul_eq_zero.mp e.symm with y | y
  ·grind
  ·exact h.nz x hx (i0.mp y)) (by grind) (fun k=>by
  have e:=vU (φ:=fun x:Int=>x.fdiv γ) (z:=(0:Int)) (k:=k) (c:=g)
  rw [Int.zero_fdiv] at e
  rw [show gI (g.map fun x=>(x.1,x.2.fdiv γ)) k=(gA 0 g k).fdiv γ from e]
  refine ex ?_
  rcases d_ (z:=(0:Int)) k h.ci.nd with y | y
  ·rw [show gA 0 g k=0 from aK y]
   exact Int.dvd_zero _
  ·exact γd _ y)
 refine⟨q',h1,h2,fun p hp=>?_⟩
 obtain⟨x,hx,rfl⟩:=List.mem_map.mp hp
 exact(b x hx).le (HM.aC _ _)
theorem Ed {ns ns':List (List Int×Int)} {q:Qc} {n:Nat} (h:GQ ns q) (hN:BQ (oI ns) ns') (b:∀ p∈ns,Bt n p.2):∃ q',GQ ns' q'/\CI q q'/\∀ p∈ns',Bt n p.2:=by
 have bt:=wF hN (by decide) (vS b)
 obtain⟨t,t0,f1,f2⟩:=hN.sc
 have hk:ns'.map (·.1)=ns.map (·.1):=hN.keys.trans kT
 have nd':(ns'.map (·.1)).Nodup:=by rw [hk]; exact h.ci.nd
 have mem:∀ p∈ns',∃ m:Int,(p.1,m)∈ns/\(p.2:Rat)=t*m:=fun p hp=>by
  obtain⟨x,hx,e⟩:=f1 p hp
  obtain⟨y,hy,ey⟩:=List.mem_map.mp hx
  have e1:y.1=p.1:=(Prod.mk.inj ey).1
  have e2:(y.2:Rat)=x:=(Prod.mk.inj ey).2
  exact⟨y.2,by rw [<- e1]; exact hy,by rw [e2]; exact e⟩
 obtain⟨q',h1,h2⟩:=GC.scale (t':=ns') (τ:=t) h ⟨nd',fun p hp=>by
  obtain⟨m,hm,_⟩:=mem p hp
  exact h.ci.sm (p.1,m) hm⟩ (fun p hp z=>by
  obtain⟨m,hm,e⟩:=mem p hp
  rw [z] at e
  have e:(0:Rat)=t*m:=e
  rcases Rat.mul_eq_zero.mp e.symm with y | y
  ·exact t0 y
  ·exact h.nz _ hm (i0.mp y)) t0 (fun k=>by
  rcases d_ (z:=(0:Int)) k nd' with y | y
  ·rw [show gI ns' k=0 from aK y,show gI ns k=0 from aK (by rw [<- hk]; exact y)]
   show(0:Rat)=t*0
   grind
  ·obtain⟨m,hm,e⟩:=mem _ y
   rw [show gI ns k=m from cZ h.ci.nd hm]
   exact e)
 exact⟨q',h1,h2,bt⟩
def gh:b_:=fun ds S k=>∃ (y:D) (ls:List Ld) (a:Addr) (ns:List (List Int×Int)) (e:Nat) (q:Qc) (z:Nat),ds=[y,.ref a]/\FB S y (ls.map pQ)/\(∀ l∈ls,lB l/\oD l)/\ls.length<=3/\S a=some (bN (wq ns) e)/\GQ ns q/\0 < q.D/\(∀ p∈ns,Bt 500 p.2)/\∀ S' p ep g q',aN S S'->GQ g q'->vi ls q q'->(∀ p∈g,Bt 2900 p.2)->S' p=some (bN (wq g) ep)->k (.ref p) S'
theorem eZ:ar ["leads","curve","told","lead","tops"] ["leads","curve"] (ap kS):=dN
theorem ub (Fn:cT K "curve_led" "curve_led" kS f fd) (c_:aQ P w K mg base "normal" 36 i9) (cI:aQ P w K mg base "tops_over" 1 gj) (cp:aQ P w K mg base "normal_of_tops" 2 cr) (gF:aQ P w K mg base "tops_inverted" 36 gG) (jt:aQ P w K mg base "tops_moved" 38 gW):
  aH P w K mg base cQ 39 f fd ["leads","curve"] (cY K gh):=by
 refine Fn.okJ eZ (fun ds S k h=>?_) (fun cdv A outer s H E hr=>⟨_,(af (ag (i:=2) eZ.nd (dq c_ hr (aa (ac 1) ae))) (af (eS PassesOwn.never rfl (ac 0) (aw (i:=3) eZ.nd) (af (ag (i:=4) eZ.nd (dq cI hr (aa (ac 2) (aa ad ae)))) (ah (ag (i:=2) eZ.nd (dq cp hr (aa (lM (ax gE (ai aj (ac 3) ad (fun _ _=>rfl)) cE (ay _)) (dq gF hr (aa (ac 3) (aa (ac 4) ae))) (dq jt hr (aa (ac 3) (aa (ac 4) ae)))) ae)))))) (ah (am (ac 2))))),fun ds S k h=>?_⟩)
 ·obtain⟨_,_,_,_,_,_,_,rfl,_⟩:=h
  rfl
 ·obtain⟨y,ls,a,ns,e,q,z,rfl,hy,hok,hl,ha,ht,qd,bt,w⟩:=h
  refine⟨a,oI ns,e,1,rfl,by rw [<- qh]; exact ha,by rw [kT]; exact ht.ci.nd,by rw [List.length_map]; have:=ht.len; omega,fun z=>ht.ne (zD qd) (List.map_eq_nil_iff.mp z),DQ ht.ci,BE ht.nz,by decide,EK.mono (by decide),(vS bt).up (by decide),fun S1 p1 e1 ns1 x1 hN h1=>?_⟩
  obtain⟨q1,hg1,sm1,bt1⟩:=Ed ht hN bt
  have hy1:FB S1 y (ls.map pQ):=by
   rcases hy with r | ⟨b,r,hb⟩
   ·exact .inl r
   ·exact .inr ⟨b,r,x1 _ _ hb⟩
  obtain⟨o,hi,ho⟩:=vX hy1
  refine⟨_,hi,?_⟩
  refine bh (fun r L S'=>aN S1 S'/\∃ (don ao:List Ld) (g:List (List Int×Int)) (q':Qc) (p:Addr) (e2:Nat) (l3 l4:Option D),ls=don++ao/\r=ao.map pQ/\L=[some y,some (.ref a),some (.ref p),l3,l4]/\S' p=some (bN (wq g) e2)/\GQ g q'/\vi don q q'/\∀ p∈g,Bt (500+800*don.length) p.2) (fun r L S' h=>ho S' h.1) ?_ ?_ _ _ _ ⟨aN.refl _,[],ls,ns1,q1,p1,e1,none,none,rfl,rfl,rfl,h1,hg1,vi.nil sm1 qd,bt1⟩
  ·rintro dd r L S2 N1 ⟨x2,don,ao,g,q',p,e2,l3,l4,ec,er,rfl,hp,hg,hR,bg⟩ hN1
   cases ao with
   | nil=>cases er
   | cons l ao=>
    cases er
    have hd:don.length < 3:=by have:=congrArg List.length ec; rw [List.length_append,List.length_cons] at this; omega
    obtain⟨ok,sz⟩:=hok l (by rw [ec]; simp)
    refine⟨p,oI g,e2,1,rfl,by rw [<- qh]; exact hp,by rw [kT]; exact hg.ci.nd,by rw [List.length_map]; have:=hg.len; omega,fun p hp=>(wK (by omega) bg p hp).mono (by omega),EK.mono (by decide),fun S3 p3 e3 x3 h3=>?_⟩
    rw [DX] at h3
    have nt:∀ S4 p4 e4 g4 q4,aN S3 S4->GQ g4 q4->xn l q' q4->(∀ p∈g4,Bt (500+800*don.length+800) p.2)->S4 p4=some (bN (aX g4) e4)->cr [.ref p4] S4 (fun d S5=>N1 [some y,some (.ref a),some d,some (pQ l),some (.ref p3)] S5):=fun S4 p4 e4 g4 q4 x4 hg4 r4 b4 hp4=>by
     refine⟨p4,g4,e4,rfl,hp4,hg4.ci.nd,by have:=hg4.len; omega,hg4.ne (zD r4.d),fun p hp=>?_,fun p hp=>⟨hg4.nz p hp,(b4 p hp).mono (by omega)⟩,fun S5 p5 e5 γ x5 γ0 γd _ _ hp5=>?_⟩
     ·obtain⟨i,j,e,_⟩:=hg4.ci.sm p hp
      exact⟨i,j,e⟩
     obtain⟨q5,hg5,sm5,b5⟩:=Hd hg4 γ0 γd b4
     exact hN1 _ _ ⟨x2.trans (x3.trans (x4.trans x5)),don++[l],ao,_,q5,p5,e5,_,_,by rw [ec]; simp,rfl,rfl,hp5,hg5,hR.snoc (r4.sm sm5),fun p hp=>(b5 p hp).mono (by rw [List.length_append]; show _<=500+800*(don.length+1); omega)⟩
    have mv:gP l=false->gW [pQ l,.ref p3] S3 (fun d S4=>cr [d] S4 (fun d S5=>N1 [some y,some (.ref a),some d,some (pQ l),some (.ref p3)] S5)):=fun hl=>⟨l,p3,g,e3,q',500+800*don.length,0,rfl,hl,ok,sz,h3,hg,hR.d,bg,by omega,by omega,fun S4 p4 e4 g4 q4 x4 _ hg4 r4 b4 hp4=>nt S4 p4 e4 g4 q4 x4 hg4 r4 b4 hp4⟩
    cases l with
    | shift x y'=>exact mv rfl
    | grow x y' b=>exact mv rfl
    | turn x y' u v=>exact mv rfl
    | mirror x y' c=>exact mv rfl
    | invert x y' u=>exact⟨x,y',u,p3,g,e3,q',500+800*don.length,0,rfl,ok,sz,h3,hg,hR.d,bg,by omega,by omega,fun S4 p4 e4 g4 q4 x4 _ hg4 r4 b4 hp4=>nt S4 p4 e4 g4 q4 x4 hg4 r4 b4 hp4⟩
  ·rintro L S2 ⟨x2,don,ao,g,q',p,e2,l3,l4,ec,er,rfl,hp,hg,hR,bg⟩
   cases ao with
   | cons l ao=>cases er
   | nil=>
    rw [List.append_nil] at ec
    subst ec
    exact w S2 p e2 g q' (x1.trans x2) hg hR (fun p hp=>(bg p hp).mono (by omega)) hp
set_option maxHeartbeats 4000000
def iC:b_:=fun ds S k=>∃ (ns:List Int) (i:Int),ds=[.rl (List.map D.int ns),.int i]/\0<=i/\∀ c:Int,k (.int c) S
theorem oQ:ar ["script","k"] ["script","k"] (ap ie):=dN
theorem oK (Fn:cT K "_law_cell_at" "_law_cell_at" ie f fd) (j4:mg "len"=none):
  aH P w K mg base cQ 1 f fd ["script","k"] (cY K iC):=by
 refine Fn.okJ oQ (fun ds S k h=>?_) (fun cdv A outer s H E hr=>⟨_,(af (aE (ax xY (ac 1) (cU BP rfl j4 tL (aa (ac 0) ae)) (ay _)) (ah (am (ai aj (ac 0) (ac 1) (fun _ _=>rfl)))) aD) (ah (am ad))),fun ds S k h=>?_⟩)
 ·obtain⟨_,_,rfl,_⟩:=h
  rfl
 ·obtain⟨ns,i,rfl,h0,q⟩:=h
  refine bj (fun hl=>?_) (fun _=>q 0)
  obtain⟨n,rfl⟩:=Int.eq_ofNat_of_zero_le h0
  have hn:n < ns.length:=by rw [List.length_map] at hl; omega
  have e:L2.atI (List.map D.int ns) (n:Int)=some (.int ns[n]):=jv (by rw [List.getElem?_map,List.getElem?_eq_getElem hn] <;> rfl)
  exact⟨_,e,q _⟩
def ji:b_:=fun ds S k=>∃ ns i,ds=[.rl (List.map D.int ns),.int i]/\0<=i/\∀ (p:Addr) (n:Int) (b:Bool),S p=none->(b=false->0<=n/\n < 2147483647)->k (.ref p) (put S p (.lst [.int n,.bl b]))
theorem lP:ar ["script","k","cell"] ["script","k"] (ap jN):=dN
theorem qV (Fn:cT K "_law_state" "_law_state" jN f fd) (io:aQ P w K mg base "_law_cell_at" 1 iC):
  aH P w K mg base cQ 2 f fd ["script","k"] (cY K ji):=by
 refine Fn.okJ lP (fun ds S k h=>?_) (fun cdv A outer s H E hr=>⟨_,(af (ag (i:=2) lP.nd (dq io hr (aa (ac 0) (aa (ac 1) ae)))) (af (aE (ax KZ (ac 2) (au EG ad ad) (ay _)) (ah (am (fN (aa (au j6 (ac 2) (au EG ad ad)) (aa kJ ae))))) aD) (ah (am (fN (aa (au mK (ac 2) ad) (aa kJ ae))))))),fun ds S k h=>?_⟩)
 ·obtain⟨_,_,rfl,_⟩:=h
  rfl
 ·obtain⟨ns,i,rfl,h0,q⟩:=h
  have hp:yj 10 18:=⟨by decide,by decide,by decide⟩
  refine⟨ns,i,rfl,h0,fun c=>⟨hp,bj (fun hl=>⟨hp,few,fun p hn=>?_⟩) (fun hl=>⟨(by show(2147483647:Int)≠0; decide),few,fun p hn=>?_⟩)⟩⟩
  ·exact q p _ _ hn (fun z=>by cases z)
  ·exact q p _ _ hn (fun _=>⟨Int.fmod_nonneg_of_pos _ (by decide),Int.fmod_lt_of_pos _ (by decide)⟩)
def dJ:b_:=fun ds S k=>∃ a m,ds=[.ref a,.int m]/\0 < m/\Bt 200 m/\tK S a/\∀ r S',0<=r->r < m->Dr a S S'->k (.int r) S'
theorem g9:ar ["state","many","mixed","found"] ["state","many"] (ap km):=dN
theorem sZ (Fn:cT K "_law_take" "_law_take" km f fd):
  aH P w K mg base cQ 1 f fd ["state","many"] (cY K dJ):=by
 refine Fn.okJ g9 (fun ds S k h=>?_) (fun cdv A outer s H E hr=>⟨_,(af (aE (lh (ai aj (ac 0) ad (fun _ _=>rfl))) (af (ag (i:=3) g9.nd (au mK (ai aj (ac 0) ad (fun _ _=>rfl)) (ac 1))) (af (cS (au lK (ai aj (ac 0) ad (fun _ _=>rfl)) (ac 1)) (xJ (ac 0) ad)) (ah (am (ac 3))))) aD) (af (cS (au mK (au cB (au aV (ai aj (ac 0) ad (fun _ _=>rfl)) ad) ad) ad) (xJ (ac 0) ad)) (af (ag (i:=2) g9.nd (au mK (au cB (au cB (au aV (ai aj (ac 0) ad (fun _ _=>rfl)) (ai aj (ac 0) ad (fun _ _=>rfl))) (au aV ad (ai aj (ac 0) ad (fun _ _=>rfl)))) ad) ad)) (af (ag (i:=2) g9.nd (au mK (au cB (au aV (ac 2) (ac 2)) (au aV ad (ac 2))) ad)) (ah (am (au mK (au lK (ac 2) ad) (ac 1)))))))),fun ds S k h=>?_⟩)
 ·obtain⟨_,_,rfl,_⟩:=h
  rfl
 ·obtain⟨a,m,rfl,hm,hb,⟨n,b,hS,hn⟩,q⟩:=h
  have put_dr:∀ (n':Int) (b':Bool),(b'=false->0<=n'/\n' < 2147483647)->Dr a S (put S a (.lst [.int n',.bl b'])):=fun n' b' h'=>
   ⟨⟨n',b',ak,h'⟩,fun c o z e=>by rw [bo z]; exact e⟩
  refine⟨_,_,hS,Kh,?_⟩
  cases b with
  | true=>
   refine⟨_,_,hS,ye,(show m≠0 by omega),_,_,hS,ye,Cg (by omega) hb,_,_,hS,Ic,?_⟩
   exact q _ _ (Int.fmod_nonneg_of_pos _ hm) (Int.fmod_lt_of_pos _ hm) (put_dr _ _ fun z=>by cases z)
  | false=>
   obtain⟨n0,n1⟩:=hn rfl
   have b31:=yD n0 (by omega)
   refine⟨_,_,hS,ye,iB (n:=31) b31 (yD (by decide) (by decide)),(show (2147483647:Int)≠0 by decide),_,_,hS,Ic,?_⟩
   have c0:0<=(n*48271+29).fmod 2147483647:=Int.fmod_nonneg_of_pos _ (by decide)
   have c1:(n*48271+29).fmod 2147483647 < 2147483647:=Int.fmod_lt_of_pos _ (by decide)
   have bx:=yD c0 (by omega)
   refine⟨_,_,ak,ye,_,_,ak,ye,iB bx bx,_,_,ak,ye,iB (m:=31) (yD (by decide) (by decide)) bx,(show (2147483629:Int)≠0 by decide),?_⟩
   have d0:0<=((n*48271+29).fmod 2147483647*(n*48271+29).fmod 2147483647+39373*(n*48271+29).fmod 2147483647+7).fmod 2147483629:=Int.fmod_nonneg_of_pos _ (by decide)
   have d1:((n*48271+29).fmod 2147483647*(n*48271+29).fmod 2147483647+39373*(n*48271+29).fmod 2147483647+7).fmod 2147483629 < 2147483629:=Int.fmod_lt_of_pos _ (by decide)
   have by':=yD d0 (by omega)
   refine⟨iB by' by',iB (m:=31) (yD (by decide) (by decide)) by',(show (2147483587:Int)≠0 by decide),⟨by decide,by decide +kernel⟩,(show m≠0 by omega),?_⟩
   exact q _ _ (Int.fmod_nonneg_of_pos _ hm) (Int.fmod_lt_of_pos _ hm) (put_dr _ _ fun _=>⟨c0,c1⟩)
theorem Ex (a b:Int):Int.gcd (rC a) (rC b)=Int.gcd a b:=by
 have e:∀ x:Int,(rC x).natAbs=x.natAbs:=fun x=>by unfold rC; split <;> omega
 unfold Int.gcd
 rw [e,e]
def h_:b_:=fun ds S k=>∃ a b,ds=[.int a,.int b]/\k (.int ((Int.gcd a b:Nat):Int)) S
theorem eJ:ar ["one","other"] ["one","other"] (ap ig):=dN
theorem oB (Fn:cT K "_law_divisor" "_law_divisor" ig f fd) (lL:mg "abs"=none):
  aH P w K mg base cQ 1 f fd ["one","other"] (cY K h_):=by
 refine Fn.okJ eJ (fun ds S k h=>?_) (fun cdv A outer s H E hr=>⟨_,(af (ag (i:=0) eJ.nd (cU wU rfl lL sD (aa (ac 0) ae))) (af (ag (i:=1) eJ.nd (cU wU rfl lL sD (aa (ac 1) ae))) (af (ir PassesOwn.never (ax AG (ac 1) ad (ay _)) (ah (Cm (i:=0) (j:=1) rfl eJ.nd (by decide) (aa (ac 1) (aa (au mK (ac 0) (ac 1)) ae))))) (ah (am (ac 0)))))),fun ds S k h=>?_⟩)
 ·obtain⟨_,_,rfl,_⟩:=h
  rfl
 ·obtain⟨a,b,rfl,q⟩:=h
  refine⟨fun m L S'=>S'=S/\∃ x y,L=[some (.int x),some (.int y)]/\m=y.natAbs/\0<=x/\0<=y/\Int.gcd x y=Int.gcd a b,⟨_,rfl,rC a,rC b,rfl,rfl,xc a,xc b,Ex a b⟩,?_⟩
  rintro m L S' ⟨rfl,x,y,rfl,rfl,hx,hy,e⟩
  refine bj (fun hl=>⟨fun L' S''=>∃ m',m' < y.natAbs/\S''=S'/\∃ x y,L'=[some (.int x),some (.int y)]/\m'=y.natAbs/\0<=x/\0<=y/\Int.gcd x y=Int.gcd a b,fun _ _ z=>z,by omega,?_⟩) (fun hl=>?_)
  ·exact⟨_,wP x y (by omega),rfl,y,x.fmod y,rfl,rfl,hy,Int.fmod_nonneg_of_pos _ hl,(vB x y).trans e⟩
  ·have z:y=0:=by omega
   subst z
   have e2:=uy x
   rw [e,if_neg (by omega)] at e2
   rw [e2] at q
   exact q
def dU:b_:=fun ds S k=>∃ t b,ds=[.int t,.int b]/\b≠0/\Bt 8000 b/\k (fr (Rat.divInt t b)) S
theorem iX:ar ["top","bottom","by"] ["top","bottom"] (ap jy):=dN
theorem qN (Fn:cT K "_law_ratio" "_law_ratio" jy f fd) (ii:aQ P w K mg base "_law_divisor" 1 h_):
  aH P w K mg base cQ 2 f fd ["top","bottom"] (cY K dU):=by
 refine Fn.okJ iX (fun ds S k h=>?_) (fun cdv A outer s H E hr=>⟨_,(af (ag (i:=2) iX.nd (dq ii hr (aa (ac 0) (aa (ac 1) ae)))) (af (aE (ax xY (ac 1) ad (ay _)) (ah (ag (i:=2) iX.nd (au j6 ad (ac 2)))) aD) (ah (am (aq (aa (au lK (ac 0) (ac 2)) (aa (au lK (ac 1) (ac 2)) ae))))))),fun ds S k h=>?_⟩)
 ·obtain⟨_,_,rfl,_⟩:=h
  rfl
 ·obtain⟨t,b,rfl,h0,hb,q⟩:=h
  have hg:=An (t:=t) h0 hb
  have hs:=Bz (t:=t) h0
  have e1:=sH (t:=t) h0
  have e2:=ua (t:=t) h0
  have qq:k (.tup [.int (t.fdiv (zq t b)),.int (b.fdiv (zq t b))]) S:=by rw [e1,e2]; exact q
  unfold zq at qq hs
  refine⟨t,b,rfl,bj (fun hl=>?_) (fun hl=>?_)⟩
  ·rw [if_pos hl] at qq hs
   rw [<- Int.zero_sub] at qq hs
   have hd:∀ x:Int,xj x (0 - ((Int.gcd t b:Nat):Int)):=fun x=>Cg hs (by rw [Int.zero_sub]; exact hg.neg)
   exact⟨hd _,hd _,few,qq⟩
  ·rw [if_neg hl] at qq hs
   exact⟨Cg hs hg,Cg hs hg,few,qq⟩
def gQ:b_:=fun ds S k=>∃ (a b c d:Int) (q:Rat),ds=[pr a b,pr c d]/\b*d≠0/\Bt 4000 a/\Bt 4000 b/\Bt 4000 c/\Bt 4000 d/\Rat.divInt (a*c) (b*d)=q/\k (fr q) S
theorem ra:ar ["one","other"] ["one","other"] (ap jp):=dN
theorem rE (Fn:cT K "_law_times" "_law_times" jp f fd) (ce:aQ P w K mg base "_law_ratio" 2 dU):
  aH P w K mg base cQ 3 f fd ["one","other"] (cY K gQ):=by
 refine Fn.okJ ra (fun ds S k h=>?_) (fun cdv A outer s H E hr=>⟨_,(ah (am (dq ce hr (aa (au aV (ai aj (ac 0) ad (fun _ _=>rfl)) (ai aj (ac 1) ad (fun _ _=>rfl))) (aa (au aV (ai aj (ac 0) ad (fun _ _=>rfl)) (ai aj (ac 1) ad (fun _ _=>rfl))) ae))))),fun ds S k h=>?_⟩)
 ·obtain⟨_,_,_,_,_,rfl,_⟩:=h
  rfl
 ·obtain⟨a,b,c,d,_,rfl,h0,h1,h2,h3,h4,rfl,q⟩:=h
  exact⟨iB h1 h3,iB h2 h4,_,_,rfl,h0,(h2.mul h4).mono (by decide),q⟩
def B (x:Q):D:=.tup [fr x.1,fr x.2]
theorem zd {S:DH} {k:DK} {t b:Int} {q:Rat} (e:Rat.divInt t b=q) (h0:b≠0) (hb:Bt 8000 b) (h:k (fr q) S):dU [.int t,.int b] S k:=by subst e; exact⟨_,_,rfl,h0,hb,h⟩
theorem tK.set {a q:Addr} {S:DH} {o:DO} (h:tK S a) (z:q≠a):tK (put S q o) a:=by
 obtain⟨n,b,e,w⟩:=h
 exact⟨n,b,by rw [bo (Ne.symm z)]; exact e,w⟩
set_option maxHeartbeats 4000000
def kC:b_:=fun ds S k=>∃ (a b c d:Int) (q:Rat),ds=[pr a b,pr c d]/\b*d≠0/\Bt 4000 a/\Bt 4000 b/\Bt 4000 c/\Bt 4000 d/\Rat.divInt (a*d+c*b) (b*d)=q/\k (fr q) S
theorem tU:ar ["one","other"] ["one","other"] (ap ki):=dN
theorem sL (Fn:cT K "_law_plus" "_law_plus" ki f fd) (ce:aQ P w K mg base "_law_ratio" 2 dU):
  aH P w K mg base cQ 3 f fd ["one","other"] (cY K kC):=by
 refine Fn.okJ tU (fun ds S k h=>?_) (fun cdv A outer s H E hr=>⟨_,(ah (am (dq ce hr (aa (au cB (au aV (ai aj (ac 0) ad (fun _ _=>rfl)) (ai aj (ac 1) ad (fun _ _=>rfl))) (au aV (ai aj (ac 1) ad (fun _ _=>rfl)) (ai aj (ac 0) ad (fun _ _=>rfl)))) (aa (au aV (ai aj (ac 0) ad (fun _ _=>rfl)) (ai aj (ac 1) ad (fun _ _=>rfl))) ae))))),fun ds S k h=>?_⟩)
 ·obtain⟨_,_,_,_,_,rfl,_⟩:=h
  rfl
 ·obtain⟨a,b,c,d,q,rfl,h0,h1,h2,h3,h4,e,w⟩:=h
  exact⟨iB h1 h4,iB h3 h2,iB h2 h4,zd e h0 ((h2.mul h4).mono (by decide)) w⟩
set_option maxHeartbeats 4000000
def aS:b_:=fun ds S k=>∃ (a:Addr) (m:Int),ds=[.ref a,.int m]/\1<=m/\m<=4/\tK S a/\∀ q S',Sz 3 q->Dr a S S'->k (fr q) S'
theorem nY:ar ["state","most"] ["state","most"] (ap gK):=dN
theorem oe (Fn:cT K "_law_fraction" "_law_fraction" gK f fd) (ce:aQ P w K mg base "_law_ratio" 2 dU) (aR:aQ P w K mg base "_law_take" 1 dJ):
  aH P w K mg base cQ 3 f fd ["state","most"] (cY K aS):=by
 refine Fn.okJ nY (fun ds S k h=>?_) (fun cdv A outer s H E hr=>⟨_,(ah (am (dq ce hr (aa (au j6 (dq aR hr (aa (ac 0) (aa (au cB (au aV ad (ac 1)) ad) ae))) (ac 1)) (aa (au cB ad (dq aR hr (aa (ac 0) (aa (ai aj (fN (aa ad (aa ad (aa ad (aa ad ae))))) (dq aR hr (aa (ac 0) (aa ad ae))) (fun _ _=>rfl)) ae)))) ae))))),fun ds S k h=>?_⟩)
 ·obtain⟨_,_,rfl,_⟩:=h
  rfl
 ·obtain⟨a,m,rfl,m1,m4,hS,w⟩:=h
  have bm:Bt 4 m:=by unfold Bt; omega
  have b9:Bt 5 (2*m+1):=by unfold Bt; omega
  refine⟨iB (show Bt 2 2 by decide) bm,a,2*m+1,rfl,by omega,b9.mono (by decide),hS,fun r1 S1 h1 h1' d1=>⟨few,fun p hp=>⟨a,4,rfl,by decide,by decide,d1.1.new hp,fun r2 S2 h2 h2' d2=>?_⟩⟩⟩
  have hp3:=d2.2 p _ (d1.1.ne hp) ak
  obtain⟨c,hc,hm⟩:=tG (ds:=[.int 1,.int 1,.int 1,.int 4]) h2 h2'
  have hc2:∃ s:Int,c=.int s/\1<=s/\s<=4:=by
   simp only [List.mem_cons,List.not_mem_nil,or_false] at hm
   rcases hm with rfl | rfl | rfl | rfl
   ·exact⟨1,rfl,by decide,by decide⟩
   ·exact⟨1,rfl,by decide,by decide⟩
   ·exact⟨1,rfl,by decide,by decide⟩
   ·exact⟨4,rfl,by decide,by decide⟩
  obtain⟨s,rfl,s0,s1⟩:=hc2
  have bs:Bt 4 s:=by unfold Bt; omega
  refine⟨_,_,hp3,hc,a,s,rfl,by omega,bs.mono (by decide),d2.1,fun r3 S3 h3 h3' d3=>?_⟩
  have b1:Bt 3 (r1 - m):=by unfold Bt; omega
  have b2:Bt 3 (1+r3):=by unfold Bt; omega
  exact⟨_,_,rfl,by omega,b2.mono (by decide),w _ _ (Sz.divInt b1 b2 (by omega)) (d1.trans ((Dr.new d1.1 hp).trans (d2.trans d3)))⟩
def db:b_:=fun ds S k=>∃ (a:Addr) (m:Int),ds=[.ref a,.int m]/\1<=m/\m<=4/\tK S a/\∀ q S',Sz 3 q->q≠0->Dr a S S'->k (fr q) S'
theorem kl:ar ["state","most","found"] ["state","most"] (ap i4):=dN
theorem o8 (Fn:cT K "_law_nought" "_law_nought" i4 f fd) (aB:aQ P w K mg base "_law_fraction" 3 aS):
  aH P w K mg base cQ 4 f fd ["state","most"] (cY K db):=by
 refine Fn.okJ kl (fun ds S k h=>?_) (fun cdv A outer s H E hr=>⟨_,(af (ag (i:=2) kl.nd (dq aB hr (aa (ac 0) (aa (ac 1) ae)))) (ah (am (lM (ax yl (ai aj (ac 2) ad (fun _ _=>rfl)) ad (ay _)) (ac 2) (aq (aa ad (aa ad ae))))))),fun ds S k h=>?_⟩)
 ·obtain⟨_,_,rfl,_⟩:=h
  rfl
 ·obtain⟨a,m,rfl,m1,m4,hS,w⟩:=h
  refine⟨a,m,rfl,m1,m4,hS,fun q S1 hq d1=>uC (fun n=>w q S1 hq (fun z=>n (by rw [z]; rfl)) d1) (fun _=>⟨few,w 1 S1 ⟨by decide,by decide⟩ (by decide) d1⟩)⟩
theorem Dr.put {a q:Addr} {S S1:DH} {o:DO} (h:Dr a S S1) (hq:S q=none) (z:q≠a):Dr a S (put S1 q o):=⟨h.1.set z,fun b u n e=>by rw [bo (gJ e hq)]; exact h.2 b u n e⟩
def B7:List (Rat×Rat):=[(⟨3,5,by decide,by decide⟩,⟨4,5,by decide,by decide⟩),(0,1),(⟨-5,13,by decide,by decide⟩,⟨12,13,by decide,by decide⟩),(-1,0),(⟨8,17,by decide,by decide⟩,⟨-15,17,by decide,by decide⟩)]
theorem Gc {p:Rat×Rat} (h:p∈B7):∃ P Q E:Int,E≠0/\Bt 40 P/\Bt 40 Q/\Bt 40 E/\p.1*E=P/\p.2*E=Q:=by
 unfold B7 at h
 simp only [List.mem_cons,List.not_mem_nil,or_false] at h
 rcases h with rfl | rfl | rfl | rfl | rfl
 ·exact⟨3,4,5,by decide,by decide,by decide,by decide,by decide +kernel,by decide +kernel⟩
 ·exact⟨0,1,1,by decide,by decide,by decide,by decide,by decide +kernel,by decide +kernel⟩
 ·exact⟨-5,12,13,by decide,by decide,by decide,by decide,by decide +kernel,by decide +kernel⟩
 ·exact⟨-1,0,1,by decide,by decide,by decide,by decide,by decide +kernel,by decide +kernel⟩
 ·exact⟨8,-15,17,by decide,by decide,by decide,by decide,by decide +kernel,by decide +kernel⟩
theorem Dg {p:Rat×Rat} (h:p∈B7):p.1*p.1+p.2*p.2=1:=by
 unfold B7 at h
 simp only [List.mem_cons,List.not_mem_nil,or_false] at h
 rcases h with rfl | rfl | rfl | rfl | rfl <;> decide +kernel
theorem Ku {a b:Rat} (h:¬ (a=0/\b=0)):a*a+b*b≠0:=fun z=>by
 have n1:=ck a
 have n2:=ck b
 exact h ⟨Jy (by grind),Jy (by grind)⟩
def kM:b_:=fun ds S k=>∃ (a:Addr) (i:Int),ds=[.ref a,.int i]/\0<=i/\i<=1/\tK S a/\∀ l S',lB l->oD l->(i=0->gP l=false)->Dr a S S'->k (pQ l) S'
theorem dS:ar ["state","inverts","way","x","y","some"] ["state","inverts"] (ap kj):=dN
theorem tX (Fn:cT K "_law_lead" "_law_lead" kj f fd) (aR:aQ P w K mg base "_law_take" 1 dJ) (aB:aQ P w K mg base "_law_fraction" 3 aS) (aZ:aQ P w K mg base "_law_nought" 4 db):
  aH P w K mg base cQ 5 f fd ["state","inverts"] (cY K kM):=by
 refine Fn.okJ dS (fun ds S k h=>?_) (fun cdv A outer s H E hr=>⟨_,(af (ag (i:=2) dS.nd (dq aR hr (aa (ac 0) (aa (au cB ad (ac 1)) ae)))) (af (ag (i:=3) dS.nd (dq aB hr (aa (ac 0) (aa ad ae)))) (af (ag (i:=4) dS.nd (dq aB hr (aa (ac 0) (aa ad ae)))) (af (aE (ax gE (ac 2) ad (ay _)) (ah (am (aq (aa cE (aa (ac 3) (aa (ac 4) ae)))))) aD) (af (aE (ax gE (ac 2) ad (ay _)) (ah (am (aq (aa cE (aa (ac 3) (aa (ac 4) (aa (dq aZ hr (aa (ac 0) (aa ad ae))) ae))))))) aD) (af (aE (ax gE (ac 2) ad (ay _)) (af (ag (i:=5) dS.nd (fN (aa (aq (aa (aq (aa ad (aa ad ae))) (aa (aq (aa ad (aa ad ae))) ae))) (aa (aq (aa (aq (aa ad (aa ad ae))) (aa (aq (aa ad (aa ad ae))) ae))) (aa (aq (aa (aq (aa (fv fg ad) (aa ad ae))) (aa (aq (aa ad (aa ad ae))) ae))) (aa (aq (aa (aq (aa (fv fg ad) (aa ad ae))) (aa (aq (aa ad (aa ad ae))) ae))) (aa (aq (aa (aq (aa ad (aa ad ae))) (aa (aq (aa (fv fg ad) (aa ad ae))) ae))) ae))))))) (ah (am (au cB (aq (aa cE (aa (ac 3) (aa (ac 4) ae)))) (ai aj (ac 5) (dq aR hr (aa (ac 0) (aa ad ae))) (fun _ _=>rfl)))))) aD) (af (aE (ax gE (ac 2) ad (ay _)) (af (aE (WJ.pt (tN (ax gE (ai aj (ac 3) ad (fun _ _=>rfl)) ad (ay _)) (po (ax gE (ai aj (ac 4) ad (fun _ _=>rfl)) ad (ay _))))) (ah (ag (i:=3) dS.nd (aq (aa ad (aa ad ae))))) aD) (ah (am (aq (aa cE (aa (ac 3) (aa (ac 4) (aa (dq aB hr (aa (ac 0) (aa ad ae))) ae)))))))) aD) (ah (am (aq (aa cE (aa (ac 3) (aa (ac 4) (aa (dq aZ hr (aa (ac 0) (aa ad ae))) ae)))))))))))))),fun ds S k h=>?_⟩)
 ·obtain⟨_,_,rfl,_⟩:=h
  rfl
 ·obtain⟨a,i,rfl,i0,i1,hS,w⟩:=h
  refine⟨a,4+i,rfl,by omega,Bt.mono (m:=4) (by unfold Bt; omega) (by decide),hS,fun r S1 h1 h1' d1=>⟨a,3,rfl,by decide,by decide,d1.1,fun x S2 hx d2=>⟨a,3,rfl,by decide,by decide,d2.1,fun y S3 hy d3=>?_⟩⟩⟩
  have D3:=d1.trans (d2.trans d3)
  refine bj (fun _=>⟨few,w (.shift x y) S3 trivial ⟨hx.mono (by decide),hy.mono (by decide)⟩ (fun _=>rfl) D3⟩) (fun q0=>bj (fun _=>⟨a,2,rfl,by decide,by decide,d3.1,fun b S4 hb b0 d4=>⟨few,w (.grow x y b) S4 b0 ⟨hx.mono (by decide),hy.mono (by decide),hb.mono (by decide)⟩ (fun _=>rfl) (D3.trans d4)⟩⟩) (fun q1=>bj (fun _=>?_) (fun q2=>bj (fun _=>?_) (fun q3=>⟨a,4,rfl,by decide,by decide,d3.1,fun b S4 hb b0 d4=>⟨few,w (.invert x y b) S4 b0 ⟨hx.mono (by decide),hy.mono (by decide),hb.mono (by decide)⟩ (fun z=>by omega) (D3.trans d4)⟩⟩))))
  ·refine⟨few,few,few,few,few,few,few,few,few,few,few,few,few,few,few,few,fun p hp=>⟨few,a,5,rfl,by decide,by decide,d3.1.new hp,fun r4 S4 h4 h4' d4=>?_⟩⟩
   have hp4:=d4.2 p _ (d3.1.ne hp) ak
   obtain⟨c,hc,hm⟩:=tG (ds:=B7.map fun p=>W p.1 p.2) h4 h4'
   obtain⟨pq,hpq,rfl⟩:=List.mem_map.mp hm
   refine⟨_,_,hp4,hc,by simp,by simp,Nat.le_of_ble_eq_true rfl,w (.turn x y pq.1 pq.2) S4 (Dg hpq) ⟨hx.mono (by decide),hy.mono (by decide),Gc hpq⟩ (fun _=>rfl) (D3.trans ((Dr.new d3.1 hp).trans d4))⟩
  ·have fin:∀ x':Rat,Sz 3 x'->x'*x'+y*y≠0->aS [.ref a,.int 3] S3 fun d S'=>k (.tup [.str "mirror",fr x',fr y,d]) S':=fun x' hx' n=>⟨a,3,rfl,by decide,by decide,d3.1,fun c S4 hc d4=>w (.mirror x' y c) S4 n ⟨hx'.mono (by decide),hy.mono (by decide),hc.mono (by decide)⟩ (fun _=>rfl) (D3.trans d4)⟩
   refine bj (fun zx=>bj (fun zy=>?_) (fun zy=>?_)) (fun zx=>?_)
   ·obtain⟨a',m',e',r1,r2,r3,r4⟩:=fin 1 ⟨by decide,by decide⟩ (Ku fun z=>absurd z.1 (by decide))
    exact⟨few,a',m',e',r1,r2,r3,fun q S' hq d=>⟨few,r4 q S' hq d⟩⟩
   ·obtain⟨a',m',e',r1,r2,r3,r4⟩:=fin x hx (Ku fun z=>zy (by rw [z.2]; rfl))
    exact⟨a',m',e',r1,r2,r3,fun q S' hq d=>⟨few,r4 q S' hq d⟩⟩
   ·obtain⟨a',m',e',r1,r2,r3,r4⟩:=fin x hx (Ku fun z=>zx (by rw [z.1]; rfl))
    exact AI ⟨a',m',e',r1,r2,r3,fun q S' hq d=>⟨few,r4 q S' hq d⟩⟩
def g_:b_:=fun ds S k=>∃ (a:Addr) (m n:Int),ds=[.ref a,.int m,.int n]/\1<=m/\m<=6/\tK S a/\∀ (ls:List Ld) S' p,(∀ l∈ls,lB l/\oD l)->(n<=0->∀ l∈ls,gP l=false)->1<=ls.length->(ls.length:Int)<=m->Dr a S S'->S' p=some (.lst (ls.map pQ))->p≠a->k (.ref p) S'
theorem de:ar ["state","most","inverts","found","left","k","lead"] ["state","most","inverts"] (ap jT):=dN
theorem rn (Fn:cT K "_law_leads" "_law_leads" jT f fd) (aR:aQ P w K mg base "_law_take" 1 dJ) (ky:aQ P w K mg base "_law_lead" 5 kM) (br:mg "range"=none) (wS:mg "int"=none):
  aH P w K mg base cQ 6 f fd ["state","most","inverts"] (cY K g_):=by
 refine Fn.okJ de (fun ds S k h=>?_) (fun cdv A outer s H E hr=>⟨_,(af (ag (i:=3) de.nd (fN ae)) (af (ag (i:=4) de.nd (ac 2)) (af (jd PassesOwn.never rfl rfl br (aa (au cB ad (dq aR hr (aa (ac 0) (aa (ac 1) ae)))) ae) (aw (i:=5) de.nd) (af (ag (i:=6) de.nd (dq ky hr (aa (ac 0) (aa (m8 Fe rfl wS Br (aa (kK AG (ac 4) ad (ay _)) ae)) ae)))) (af (ag (i:=4) de.nd (au j6 (ac 4) (m8 Fe rfl wS Br (aa (kK gE (ai aj (ac 6) ad (fun _ _=>rfl)) cE (ay _)) ae)))) (ah (ja (uh (ac 3) (ac 6))))))) (ah (am (ac 3)))))),fun ds S k h=>?_⟩)
 ·obtain⟨_,_,_,rfl,_⟩:=h
  rfl
 ·obtain⟨a,m,n,rfl,m1,m6,hS,w⟩:=h
  refine⟨few,fun q hq=>⟨a,m,rfl,by omega,Bt.mono (m:=4) (by unfold Bt; omega) (by decide),hS.new hq,fun r S1 h1 h1' d1=>⟨⟨by omega,by omega⟩,?_⟩⟩⟩
  have qa':q≠a:=hS.ne hq
  have D1:=(Dr.new (o:=.lst []) hS hq).trans d1
  refine bh (fun r' L S'=>∃ (j:Int) (ls:List Ld) (l5 l6:Option D),L=[some (.ref a),some (.int m),some (.int n),some (.ref q),some (.int j),l5,l6]/\Dr a S S'/\S' q=some (.lst (ls.map pQ))/\(∀ l∈ls,lB l/\oD l)/\(n<=0->∀ l∈ls,gP l=false)/\(n<=0->j<=0)/\ls.length+r'.length=(1+r).toNat/\∀ d∈r',∃ i:Int,d=.int i) (fun _ _ _ _=>trivial) ?_ ?_ _ _ _ ⟨n,[],_,_,rfl,D1,d1.2 q _ qa' ak,(fun _ h=>nomatch h),(fun _ _ h=>nomatch h),(fun h=>h),?_,?_⟩
  ·rintro d r' L S2 N1 ⟨j,ls,l5,l6,rfl,D2,hq2,hok,hni,hj,hlen,hr⟩ hN
   obtain⟨i,rfl⟩:=hr d List.mem_cons_self
   refine⟨a,_,rfl,(by split <;> omega),(by split <;> omega),D2.1,fun l S3 lo lz li d3=>?_⟩
   have hq3:=d3.2 q _ qa' hq2
   have hl:ls.length+(r'.length+1)=(1+r).toNat:=hlen
   have ea:ls.map pQ++[pQ l]=(ls++[l]).map pQ:=by rw [List.map_append]; rfl
   have li':n<=0->gP l=false:=fun z=>li (by have h0:=hj z; rw [if_neg (by simp; omega)])
   have fin:∀ (j':Int),(n<=0->j'<=0)->∃ ds,S3 q=some (.lst ds)/\ds.length < sizeLine/\N1 [some (.ref a),some (.int m),some (.int n),some (.ref q),some (.int j'),some (.int i),some (pQ l)] (put S3 q (.lst (ds++[pQ l]))):=fun j' hj'=>by
    refine⟨_,hq3,by rw [List.length_map]; exact GB (by omega),hN _ _ ⟨j',ls++[l],_,_,rfl,Dr.put (D2.trans d3) hq qa',by rw [ak,ea],fun m hm=>?_,fun z m hm=>?_,hj',by rw [List.length_append]; show ls.length+1+r'.length=_; omega,fun d hd=>hr d (List.mem_cons_of_mem _ hd)⟩⟩
    ·rcases List.mem_append.mp hm with h | h
     ·exact hok m h
     ·rw [List.mem_singleton.mp h]; exact⟨lo,lz⟩
    ·rcases List.mem_append.mp hm with h | h
     ·exact hni z m h
     ·rw [List.mem_singleton.mp h]; exact li' z
   cases l with
   | shift x y=>exact⟨⟨_,hq3⟩,fin _ fun z=>by have:=hj z; simp; omega⟩
   | grow x y b=>exact⟨⟨_,hq3⟩,fin _ fun z=>by have:=hj z; simp; omega⟩
   | turn x y p q=>exact⟨⟨_,hq3⟩,fin _ fun z=>by have:=hj z; simp; omega⟩
   | mirror x y p=>exact⟨⟨_,hq3⟩,fin _ fun z=>by have:=hj z; simp; omega⟩
   | invert x y p=>exact⟨⟨_,hq3⟩,fin _ fun z=>by have:=hj z; simp; omega⟩
  ·rintro L S2 ⟨j,ls,l5,l6,rfl,D2,hq2,hok,hni,hj,hlen,_⟩
   have hlen:ls.length+0=(1+r).toNat:=hlen
   exact w ls S2 q hok hni (by omega) (by omega) D2 hq2 qa'
  ·rw [List.length_map,List.length_range]; show 0+_=_; omega
  ·intro d hd
   obtain⟨z,_,rfl⟩:=List.mem_map.mp hd
   exact⟨_,rfl⟩
set_option maxHeartbeats 4000000
theorem Ii {f:List Int->Rat}:∀ {t:List (List Int×Int)} {s:Rat},(t.map (·.1)).Nodup->(∀ p∈t,p.1=[2,0]\/p.1=[0,2]\/p.1=[1,0]\/p.1=[0,1]\/p.1=[0,0])->t.foldl (fun s p=>s+(p.2:Rat)*f p.1) s=s+((gI t [2,0]:Rat)*f [2,0]+gI t [0,2]*f [0,2]+gI t [1,0]*f [1,0]+gI t [0,1]*f [0,1]+gI t [0,0]*f [0,0])
 | [],s,_,_=>by
  show s=s+((0:Rat)*_+0*_+0*_+0*_+0*_)
  grind
 | q::t,s,nd,h=>by
  have nd:=List.nodup_cons.mp (show (q.1::t.map (·.1)).Nodup from nd)
  have ih:=Ii (f:=f) (t:=t) (s:=s+(q.2:Rat)*f q.1) nd.2 fun p hp=>h p (List.mem_cons_of_mem _ hp)
  show t.foldl _ (s+(q.2:Rat)*f q.1)=_
  rw [ih,lp nd.1,lp nd.1,lp nd.1,lp nd.1,lp nd.1]
  have z:((0:Int):Rat)=0:=rfl
  rcases h q List.mem_cons_self with e | e | e | e | e <;> rw [e] <;> simp [Rat.intCast_add] <;> grind
def fR (x y:Rat) (k:List Int):Rat:=(mon 1 (qo x) (qo y) k).1
theorem F6 {u x y:Rat}:∀ {k:List Int},(k=[2,0]\/k=[0,2]\/k=[1,0]\/k=[0,1]\/k=[0,0])->mon u (qo x) (qo y) k=(fR x y k,0):=by
 rintro k (rfl | rfl | rfl | rfl | rfl)
 ·show qm u (qm u (qm u (1,0) (qo x)) (qo x)) (1,0)=((qm 1 (qm 1 (qm 1 (1,0) (qo x)) (qo x)) (1,0)).1,0)
  unfold qm qo
  apply Prod.ext <;> dsimp only <;> grind
 ·show qm u (1,0) (qm u (qm u (1,0) (qo y)) (qo y))=((qm 1 (1,0) (qm 1 (qm 1 (1,0) (qo y)) (qo y))).1,0)
  unfold qm qo
  apply Prod.ext <;> dsimp only <;> grind
 ·show qm u (qm u (1,0) (qo x)) (1,0)=((qm 1 (qm 1 (1,0) (qo x)) (1,0)).1,0)
  unfold qm qo
  apply Prod.ext <;> dsimp only <;> grind
 ·show qm u (1,0) (qm u (1,0) (qo y))=((qm 1 (1,0) (qm 1 (1,0) (qo y))).1,0)
  unfold qm qo
  apply Prod.ext <;> dsimp only <;> grind
 ·show qm u (1,0) (1,0)=((qm 1 (1,0) (1,0)).1,0)
  unfold qm
  apply Prod.ext <;> dsimp only <;> grind
theorem Kv {x y:Rat}:fR x y [2,0]=x*x/\fR x y [0,2]=y*y/\fR x y [1,0]=x/\fR x y [0,1]=y/\fR x y [0,0]=1:=by
 refine⟨?_,?_,?_,?_,?_⟩
 ·show(qm 1 (qm 1 (qm 1 (1,0) (qo x)) (qo x)) (1,0)).1=_
  unfold qm qo; dsimp only; grind
 ·show(qm 1 (1,0) (qm 1 (qm 1 (1,0) (qo y)) (qo y))).1=_
  unfold qm qo; dsimp only; grind
 ·show(qm 1 (qm 1 (1,0) (qo x)) (1,0)).1=_
  unfold qm qo; dsimp only; grind
 ·show(qm 1 (1,0) (qm 1 (1,0) (qo y))).1=_
  unfold qm qo; dsimp only; grind
 ·show(qm 1 (1,0) (1,0)).1=_
  unfold qm; dsimp only; grind
theorem xw {u x y:Rat}:∀ {t:List (List Int×Int)} {s:Rat},(∀ p∈t,p.1=[2,0]\/p.1=[0,2]\/p.1=[1,0]\/p.1=[0,1]\/p.1=[0,0])->nr u (qo x) (qo y) (oI t) (s,0)=(t.foldl (fun s p=>s+(p.2:Rat)*fR x y p.1) s,0)
 | [],s,_=>rfl
 | q::t,s,h=>by
  have ih:=xw (u:=u) (x:=x) (y:=y) (t:=t) (s:=s+(q.2:Rat)*fR x y q.1) fun p hp=>h p (List.mem_cons_of_mem _ hp)
  show nr u (qo x) (qo y) (oI t) (qa (s,0) (qk (q.2:Rat) (mon u (qo x) (qo y) q.1)))=_
  rw [F6 (h q List.mem_cons_self),show qa (s,0) (qk (q.2:Rat) (fR x y q.1,0))=(s+(q.2:Rat)*fR x y q.1,0) from Prod.ext rfl (by show(0:Rat)+(q.2:Rat)*0=0; grind),ih]
  rfl
theorem GC.keys5 {t:List (List Int×Int)} {a b c d:Int} (h:GC t a b c d):∀ p∈t,p.1=[2,0]\/p.1=[0,2]\/p.1=[1,0]\/p.1=[0,1]\/p.1=[0,0]:=fun p hp=>by
 have:=h.mem hp
 simp only [qK,List.mem_cons,List.not_mem_nil,or_false] at this
 rcases this with rfl | rfl | rfl | rfl | rfl <;> simp
theorem Gw {ns:List (List Int×Int)} {q:Qc} {u x y:Rat} (h:GQ ns q):nr u (qo x) (qo y) (oI ns) (0,0)=(q.at x y,0):=by
 rw [xw h.keys5,Ii h.ci.nd h.keys5,h.at,h.at,h.at,h.at,h.at]
 obtain⟨e1,e2,e3,e4,e5⟩:=Kv (x:=x) (y:=y)
 rw [e1,e2,e3,e4,e5]
 refine Prod.ext ?_ rfl
 show(0:Rat)+((q.a:Rat)*(x*x)+q.a*(y*y)+q.b*x+q.c*y+q.e*1)=q.at x y
 unfold Qc.at
 grind
theorem Fp {ns:List (List Int×Int)} {k:List Int}:gR (oI ns) k=((gI ns k:Int):Rat):=vU (φ:=fun n:Int=>(n:Rat)) (z:=(0:Int)) (c:=ns)
def KG (q:Qc) (d:D):Prop:=(q.a=0/\∃ x y z:Rat,d=.tup [.str "line",fr x,fr y,fr z])\/(q.a≠0/\∃ x y:Rat,d=.tup [.str "circle",fr x,fr y,fr (q.D / (4*((q.a:Rat)*q.a)))])
theorem D9 {ns:List (List Int×Int)} {m:Int} (h:HJ (oI ns) m):qM ns m:=by
 obtain⟨⟨p,hp,e⟩,h2⟩:=h
 obtain⟨x,hx,rfl⟩:=List.mem_map.mp hp
 exact⟨⟨x,hx,e⟩,fun y hy=>h2 _ (List.mem_map.mpr ⟨y,hy,rfl⟩)⟩
theorem xG {ns:List (List Int×Int)} {q:Qc} {d:D} (h:GQ ns q) (qd:0 < q.D) (hk:Kd (oI ns) d):KG q d:=by
 obtain⟨m,hm,r⟩:=hk
 obtain⟨d',hd,hdA⟩:=wD h (fQ.mp qd)
 have em:=(D9 hm).uniq hd
 rcases hdA with ⟨a0,rfl⟩ | ⟨a0,rfl⟩
 ·rcases r with ⟨_,ns',_,rfl⟩ | ⟨z,_⟩ | ⟨z,_⟩
  ·exact .inl ⟨a0,_,_,_,rfl⟩
  ·rw [em] at z; cases z
  ·exact absurd em z
 ·rcases r with ⟨z,_⟩ | ⟨_,rfl⟩ | ⟨_,z,_⟩
  ·rw [em] at z; cases z
  ·refine .inr ⟨a0,?_⟩
   have a0':(q.a:Rat)≠0:=fun z=>a0 (i0.mp z)
   have f:∀ {k:List Int} {v:Int},gI (qK q.a q.b q.c q.e) k=v->gR (oI ns) k=(v:Rat):=fun {k v} e=>by rw [Fp,h.at,e]
   have f1:=f (k:=[2,0]) (v:=q.a) rfl
   have f2:=f (k:=[0,2]) (v:=q.a) rfl
   have f3:=f (k:=[1,1]) (v:=0) rfl
   have f4:=f (k:=[1,0]) (v:=q.b) rfl
   have f5:=f (k:=[0,1]) (v:=q.c) rfl
   have f6:=f (k:=[0,0]) (v:=q.e) rfl
   rw [if_pos (show Am (oI ns) from⟨by rw [f1]; exact a0',by rw [f1,f2],by rw [f3]; rfl⟩),f1,f4,f5,f6]
   unfold xM
   have ev:(q.b:Rat) / (-2*q.a)*(q.b / (-2*q.a))+q.c / (-2*q.a)*(q.c / (-2*q.a)) - q.e / q.a=q.D / (4*((q.a:Rat)*q.a)):=by
    unfold Qc.D
    generalize (q.a:Rat)=a at a0'
    grind
   rw [ev]
   have pos:0 < q.D / (4*((q.a:Rat)*q.a)):=by
    have h4:0 < 4*((q.a:Rat)*q.a):=Rat.mul_pos (by decide) (nA a0')
    rw [Rat.div_def]
    exact Rat.mul_pos qd (Rat.inv_pos.mpr h4)
   rw [if_pos pos]
   exact⟨_,_,rfl⟩
  ·exact absurd em z
theorem w9 {ns:List (List Int×Int)} {q:Qc} (h:GQ ns q) (qd:0 < q.D) (b:∀ p∈ns,Bt 2900 p.2):ou (oI ns) where
 nd:=by rw [kT]; exact h.ci.nd
 hl:=by rw [List.length_map]; have:=h.len; omega
 ne:=fun z=>h.ne (zD qd) (List.map_eq_nil_iff.mp z)
 sm:=fun p hp=>by
  obtain⟨x,hx,rfl⟩:=List.mem_map.mp hp
  obtain⟨i,j,e,i0,j0,i1,j1⟩:=h.ci.sm x hx
  exact⟨i,j,e,i0,j0,by omega,by omega⟩
 hz:=fun p hp=>⟨BE h.nz p hp,(wK (by decide) b p hp).mono (by decide)⟩
 dn:=(vS b).up (by decide)
def Fd (α β γ ε:Rat) (k:List Int):Rat:=if k=[2,0] then α else if k=[0,2] then α else if k=[1,0] then β else if k=[0,1] then γ else if k=[0,0] then ε else 0
theorem zY {c:List (List Int×Rat)} {ns:List (List Int×Int)} {α β γ ε:Rat} (nd:(c.map (·.1)).Nodup) (hk:∀ k,gR c k=Fd α β γ ε k) (hN:BQ (nz c) ns) (dp:0 < β*β+γ*γ - 4*(α*ε)):∃ q,GQ ns q/\0 < q.D:=by
 obtain⟨t,t0,f1,f2⟩:=hN.sc
 have nd':(ns.map (·.1)).Nodup:=by rw [hN.keys]; exact jb nd
 have ndz:((nz c).map (·.1)).Nodup:=jb nd
 have at_:∀ k,(gI ns k:Rat)=t*Fd α β γ ε k:=fun k=>by
  rw [<- hk k,<- IS nd k]
  rcases d_ (z:=(0:Int)) k nd' with y | y
  ·rw [show gI ns k=0 from aK y,show gR (nz c) k=0 from aK (by rw [<- hN.keys]; exact y)]
   show(0:Rat)=t*0
   grind
  ·obtain⟨x,hx,e⟩:=f1 _ y
   rw [show gR (nz c) k=x from cZ ndz hx]
   exact e
 have nzn:∀ p∈ns,p.2≠0:=fun p hp z=>by
  obtain⟨x,hx,e⟩:=f1 p hp
  rw [z] at e
  have e:(0:Rat)=t*x:=e
  rcases Rat.mul_eq_zero.mp e.symm with y | y
  ·exact t0 y
  ·exact(fc.mp hx).2 y
 have k5:∀ p∈ns,p.1=[2,0]\/p.1=[0,2]\/p.1=[1,0]\/p.1=[0,1]\/p.1=[0,0]:=fun p hp=>by
  by_cases h1:p.1=[2,0]
  ·exact .inl h1
  by_cases h2:p.1=[0,2]
  ·exact .inr (.inl h2)
  by_cases h3:p.1=[1,0]
  ·exact .inr (.inr (.inl h3))
  by_cases h4:p.1=[0,1]
  ·exact .inr (.inr (.inr (.inl h4)))
  by_cases h5:p.1=[0,0]
  ·exact .inr (.inr (.inr (.inr h5)))
  refine absurd (i0.mp ?_) (nzn p hp)
  have e:=at_ p.1
  rw [show gI ns p.1=p.2 from cZ nd' hp] at e
  rw [e]
  unfold Fd
  rw [if_neg h1,if_neg h2,if_neg h3,if_neg h4,if_neg h5]
  grind
 have ci:Ci 3 ns:=⟨nd',fun p hp=>by
  rcases k5 p hp with e | e | e | e | e
  ·exact⟨2,0,e,by decide,by decide,by decide,by decide⟩
  ·exact⟨0,2,e,by decide,by decide,by decide,by decide⟩
  ·exact⟨1,0,e,by decide,by decide,by decide,by decide⟩
  ·exact⟨0,1,e,by decide,by decide,by decide,by decide⟩
  ·exact⟨0,0,e,by decide,by decide,by decide,by decide⟩⟩
 refine⟨⟨gI ns [2,0],gI ns [1,0],gI ns [0,1],gI ns [0,0]⟩,GC.of_gI ci nzn fun k=>?_,?_⟩
 ·rw [m9]
  by_cases h1:k=[2,0]
  ·rw [if_pos h1,h1]
  rw [if_neg h1]
  by_cases h2:k=[0,2]
  ·rw [if_pos h2,h2]
   exact Rat.intCast_inj.mp ((at_ [0,2]).trans (at_ [2,0]).symm)
  rw [if_neg h2]
  by_cases h3:k=[1,0]
  ·rw [if_pos h3,h3]
  rw [if_neg h3]
  by_cases h4:k=[0,1]
  ·rw [if_pos h4,h4]
  rw [if_neg h4]
  by_cases h5:k=[0,0]
  ·rw [if_pos h5,h5]
  rw [if_neg h5]
  have e:=at_ k
  unfold Fd at e
  rw [if_neg h1,if_neg h2,if_neg h3,if_neg h4,if_neg h5] at e
  exact i0.mp (by rw [e]; grind)
 ·have e1:(gI ns [2,0]:Rat)=t*α:=at_ [2,0]
  have e2:(gI ns [1,0]:Rat)=t*β:=at_ [1,0]
  have e3:(gI ns [0,1]:Rat)=t*γ:=at_ [0,1]
  have e4:(gI ns [0,0]:Rat)=t*ε:=at_ [0,0]
  show 0 < (gI ns [1,0]:Rat)*gI ns [1,0]+gI ns [0,1]*gI ns [0,1] - 4*(gI ns [2,0]*gI ns [0,0])
  rw [e1,e2,e3,e4]
  have:t*β*(t*β)+t*γ*(t*γ) - 4*(t*α*(t*ε))=t*t*(β*β+γ*γ - 4*(α*ε)):=by grind
  rw [this]
  exact Rat.mul_pos (nA t0) dp
theorem F' {a b r:Rat} (k:List Int):gR (zp a b r) k=Fd 0 a b r k:=by
 unfold Fd
 by_cases h1:k=[2,0]
 ·subst h1; rfl
 rw [if_neg h1]
 by_cases h2:k=[0,2]
 ·subst h2; rfl
 rw [if_neg h2]
 by_cases h3:k=[1,0]
 ·subst h3; rfl
 rw [if_neg h3]
 by_cases h4:k=[0,1]
 ·subst h4; rfl
 rw [if_neg h4]
 by_cases h5:k=[0,0]
 ·subst h5; rfl
 rw [if_neg h5]
 exact aK (by simp [h3,h4,h5])
theorem FY {x y s:Rat} (k:List Int):gR (yU x y s) k=Fd 1 (-(x+x)) (-(y+y)) (x*x+y*y - s) k:=by
 unfold Fd
 by_cases h1:k=[2,0]
 ·subst h1; rfl
 rw [if_neg h1]
 by_cases h2:k=[0,2]
 ·subst h2; rfl
 rw [if_neg h2]
 by_cases h3:k=[1,0]
 ·subst h3; rfl
 rw [if_neg h3]
 by_cases h4:k=[0,1]
 ·subst h4; rfl
 rw [if_neg h4]
 by_cases h5:k=[0,0]
 ·subst h5; rfl
 rw [if_neg h5]
 exact aK (by simp [h1,h2,h3,h4,h5])
structure Fk (ns:List (List Int×Int)) (q:Qc):Prop where
 g:GQ ns q
 d:0 < q.D
 b:∀ p∈ns,Bt 500 p.2
theorem FV {a b r:Rat} {ns:List (List Int×Int)} (hN:BQ (nz (zp a b r)) ns) (h0:a*a+b*b≠0) (ha:Sz 60 a) (hb:Sz 60 b) (hr:Sz 60 r):∃ q,Fk ns q:=by
 obtain⟨q,h1,h2⟩:=zY AU F' hN (by
  have n1:=ck a
  have n2:=ck b
  grind)
 obtain⟨B1,B1p,bB1,hD⟩:=xl (w:=60) (m:=3) (c:=nz (zp a b r)) (fun p hp=>JC (P:=Sz 60) ha hb hr p (fc.mp hp).1) nS
 exact⟨q,h1,h2,fun p hp=>(wF hN B1p hD p hp).mono (by decide)⟩
theorem Cq {x y s:Rat} {ns:List (List Int×Int)} (hN:BQ (nz (yU x y s)) ns) (s0:0 < s) (hx:Sz 10 x) (hy:Sz 10 y) (hs:Sz 10 s):∃ q,Fk ns q:=by
 obtain⟨q,h1,h2⟩:=zY tF FY hN (by grind)
 have s1:Sz 60 (1:Rat):=⟨by decide,by decide⟩
 obtain⟨B1,B1p,bB1,hD⟩:=xl (w:=60) (m:=5) (c:=nz (yU x y s)) (fun p hp=>Jv (P:=Sz 60) s1 ((hx.add hx).neg.mono (by decide)) ((hy.add hy).neg.mono (by decide)) ((((hx.mul hx).add (hy.mul hy)).sub hs).mono (by decide)) p (fc.mp hp).1) nS
 exact⟨q,h1,h2,fun p hp=>(wF hN B1p hD p hp).mono (by decide)⟩
set_option maxHeartbeats 4000000
def fq:b_:=fun ds S k=>∃ x y:Rat,ds=[fr x,fr y]/\k (PP x y) S
theorem qS:ar ["x","y"] ["x","y"] (ap jA):=dN
theorem qX (Fn:cT K "_law_plain" "_law_plain" jA f fd):
  aH P w K mg base cQ 1 f fd ["x","y"] (cY K fq):=by
 refine Fn.okJ qS (fun ds S k h=>?_) (fun cdv A outer s H E hr=>⟨_,(ah (am (aq (aa (aq (aa (ac 0) (aa (aq (aa ad (aa ad ae))) ae))) (aa (aq (aa (ac 1) (aa (aq (aa ad (aa ad ae))) ae))) ae))))),fun ds S k h=>?_⟩)
 ·obtain⟨_,_,rfl,_⟩:=h
  rfl
 ·obtain⟨x,y,rfl,w⟩:=h
  exact⟨few,few,few,few,few,w⟩
abbrev tw (p:Rat×Rat):D:=PP p.1 p.2
theorem Az {a p:Addr} {S:DH} {k:DK} (pa:p≠a) (hp:S p=none) (kk:∀ (S':DH) (qs:List Rat),Dr a S S'->S' p=some (.lst (qs.map fr))->qs.length=4->(∀ q∈qs,Sz 3 q)->k (.ref p) S'):
  ∀ (r:List D) (qs:List Rat) (l0:Option D) (S1:DH),Dr a S S1->S1 p=some (.lst (qs.map fr))->(∀ q∈qs,Sz 3 q)->qs.length+r.length=4->cw (fun _=>True) p (iR 0) (gL (fz aS (bq (cP 1) (bq (dC (D.int 3)) iS)))) k r (qs.map fr) [l0,some (.ref a)] S1
 | [],qs,l0,S1,d1,h1,hz,hl=>⟨trivial,kk S1 qs d1 h1 (by simpa using hl) hz⟩
 | d::r,qs,l0,S1,d1,h1,hz,hl=>by
  have hl:qs.length+(r.length+1)=4:=hl
  refine⟨trivial,a,3,rfl,by decide,by decide,d1.1,fun q S2 hq d2=>⟨d2.2 p _ pa h1,by rw [List.length_map]; exact lim (by omega),?_⟩⟩
  have ea:qs.map fr++[fr q]=(qs++[q]).map fr:=by simp
  rw [ea]
  exact Az pa hp kk r (qs++[q]) _ _ ((d1.trans d2).put hp pa) ak (fun z hz'=>by
   rcases List.mem_append.mp hz' with m | m
   ·exact hz z m
   ·rw [List.mem_singleton.mp m]; exact hq) (by rw [List.length_append]; show qs.length+1+r.length=4; omega)
theorem Dr.ext {a:Addr} {S S':DH} (h:tK S a) (x:aN S S'):Dr a S S':=⟨by
 obtain⟨n,b,e,z⟩:=h
 exact⟨n,b,x _ _ e,z⟩,fun b o _ e=>x b o e⟩
def jY:List (Rat×Rat):=[(⟨3,5,by decide,by decide⟩,⟨4,5,by decide,by decide⟩),(-1,0),(0,1)]
theorem u_:∀ p∈jY,Sz 3 p.1/\Sz 3 p.2:=fun p hp=>by
 simp only [jY,List.mem_cons,List.not_mem_nil,or_false] at hp
 rcases hp with rfl | rfl | rfl <;> exact⟨⟨by decide,by decide⟩,⟨by decide,by decide⟩⟩
theorem zC {i:Int} (h0:0<=i) (h1:i<=3):Sz 2 (i:Rat):=⟨by show i.natAbs < 2 ^ 2; omega,by show(1:Int).natAbs < 2 ^ 2; decide⟩
theorem Bn {w0 w1:Rat} (h:w0≠0):w0*w0+w1*w1≠0:=by
 have:=nA h
 have:=ck w1
 grind
def kA:b_:=fun ds S k=>∃ a:Addr,ds=[.ref a]/\tK S a/\∀ (S':DH) (p l1 l2 c1 c2:Addr) (n1 n2:List (List Int×Int)) (e1 e2:Nat) (q1 q2:Qc) (ps os:List (Rat×Rat)),Dr a S S'->S' p=some (.lst [.tup [.ref l1,.ref l2],.tup [.ref c1,.ref c2]])->p≠a->l1≠a->l2≠a->c1≠a->c2≠a->S' l1=some (bN (wq n1) e1)->S' l2=some (.lst (ps.map tw))->S' c1=some (bN (wq n2) e2)->S' c2=some (.lst (os.map tw))->Fk n1 q1->Fk n2 q2->ps.length=3->os.length=3->(∀ z∈ps,Sz 20 z.1/\Sz 20 z.2)->(∀ z∈os,Sz 20 z.1/\Sz 20 z.2)->k (.ref p) S'
theorem bf:ar ["state","x","way","points","far","radius","others","line","circle","ahead","p","q"] ["state"] (ap kR):=dN
theorem sU (Fn:cT K "_law_some" "_law_some" kR f fd) (aB:aQ P w K mg base "_law_fraction" 3 aS) (aZ:aQ P w K mg base "_law_nought" 4 db) (f_:aQ P w K mg base "_law_plus" 3 kC) (bz:aQ P w K mg base "_law_times" 3 gQ) (cG:aQ P w K mg base "_law_plain" 1 fq) (ic:aQ P w K mg base "line_through" 38 hV) (iq:aQ P w K mg base "circle_about" 38 iy) (br:mg "range"=none):
  aH P w K mg base cQ 39 f fd ["state"] (cY K kA):=by
 refine Fn.okJ bf (fun ds S k h=>?_) (fun cdv A outer s H E hr=>⟨_,(af (ag (i:=1) bf.nd (Cd rfl (jz (N:=["k","state"]) (cap:=[none,some 0]) rfl rfl rfl rfl ⟨rfl,trivial⟩ rfl rfl ⟨⟨rfl,.inl rfl,.inl rfl⟩,trivial⟩) rfl br (aa ad ae) (fun _ _ _ _=>(aw (i:=0) (show List.Nodup (["k","state"]:List Str) from by decide +kernel))) (fun _ _ _ _=>(dq aB hr (aa (ac 1) (aa ad ae)))))) (af (ag (i:=2) bf.nd (fN (aa (dq aZ hr (aa (ac 0) (aa ad ae))) (aa (dq aB hr (aa (ac 0) (aa ad ae))) ae)))) (af (ag (i:=3) bf.nd (fN ae)) (af (jd PassesOwn.never rfl rfl br (aa ad ae) (aw (i:=4) bf.nd) (af (uY (iv:=9) bf.nd rfl (jz (N:=["k","x","way","far"]) (cap:=[none,some 1,some 2,some 4]) rfl rfl rfl rfl ⟨rfl,rfl,rfl,trivial⟩ rfl rfl ⟨⟨rfl,.inl rfl,.inl rfl⟩,⟨rfl,.inl rfl,.inl rfl⟩,⟨rfl,.inl rfl,.inl rfl⟩,trivial⟩) rfl br (aa ad ae) (fun _ _ _ _=>(aw (i:=0) (show List.Nodup (["k","x","way","far"]:List Str) from by decide +kernel))) (fun _ _ _ _=>(dq f_ hr (aa (ai aj (ac 1) (ac 0) (fun _ _=>rfl)) (aa (dq bz hr (aa (ai aj (ac 2) (ac 0) (fun _ _=>rfl)) (aa (aq (aa (ac 3) (aa ad ae))) ae))) ae))))) (ah (ja (uh (ac 3) (dq cG hr (aa (ai aj (ac 9) ad (fun _ _=>rfl)) (aa (ai aj (ac 9) ad (fun _ _=>rfl)) ae)))))))) (af (ag (i:=5) bf.nd (dq aZ hr (aa (ac 0) (aa ad ae)))) (af (ag (i:=6) bf.nd (fN ae)) (af (eS PassesOwn.never rfl (fN (aa (aq (aa (aq (aa ad (aa ad ae))) (aa (aq (aa ad (aa ad ae))) ae))) (aa (aq (aa (aq (aa (fv fg ad) (aa ad ae))) (aa (aq (aa ad (aa ad ae))) ae))) (aa (aq (aa (aq (aa ad (aa ad ae))) (aa (aq (aa ad (aa ad ae))) ae))) ae)))) (fC (n:=2) rfl (aJ (aw (i:=10) bf.nd) (aJ (aw (i:=11) bf.nd) dP))) (ah (ja (uh (ac 6) (dq cG hr (aa (dq f_ hr (aa (ai aj (ac 1) ad (fun _ _=>rfl)) (aa (dq bz hr (aa (ac 5) (aa (ac 10) ae))) ae))) (aa (dq f_ hr (aa (ai aj (ac 1) ad (fun _ _=>rfl)) (aa (dq bz hr (aa (ac 5) (aa (ac 11) ae))) ae))) ae))))))) (af (ag (i:=7) bf.nd (dq ic hr (aa (ai aj (ac 3) ad (fun _ _=>rfl)) (aa (ai aj (ac 3) ad (fun _ _=>rfl)) ae)))) (af (ag (i:=8) bf.nd (dq iq hr (aa (dq cG hr (aa (ai aj (ac 1) ad (fun _ _=>rfl)) (aa (ai aj (ac 1) ad (fun _ _=>rfl)) ae))) (aa (dq bz hr (aa (ac 5) (aa (ac 5) ae))) ae)))) (ah (am (fN (aa (aq (aa (ac 7) (aa (ac 3) ae))) (aa (aq (aa (ac 8) (aa (ac 6) ae))) ae)))))))))))))),fun ds S k h=>?_⟩)
 ·obtain⟨_,rfl,_⟩:=h
  rfl
 ·obtain⟨a,rfl,hS,w⟩:=h
  refine⟨⟨by decide,by decide⟩,fun p1 hp1=>?_⟩
  have pa1:p1≠a:=hS.ne hp1
  refine Az (S:=S) pa1 hp1 (fun S1 qs d1 h1 hl hz=>?_) _ [] none _ (Dr.new hS hp1) ak (fun _ h=>nomatch h) (by decide)
  obtain⟨x0,x1,x2,x3,rfl⟩:∃ x0 x1 x2 x3,qs=[x0,x1,x2,x3]:=by
   match qs,hl with
   | [x0,x1,x2,x3],_=>exact⟨x0,x1,x2,x3,rfl⟩
  have z0:=hz x0 (by simp)
  have z1:=hz x1 (by simp)
  have z2:=hz x2 (by simp)
  have z3:=hz x3 (by simp)
  refine⟨a,2,rfl,by decide,by decide,d1.1,fun w0 S2 zw0 w0n d2=>⟨a,2,rfl,by decide,by decide,d2.1,fun w1 S3 zw1 d3=>⟨few,fun p2 hp2=>⟨few,fun p3 hp3=>⟨⟨by decide,by decide⟩,?_⟩⟩⟩⟩⟩
  have D3:Dr a S S3:=d1.trans (d2.trans d3)
  have h13:S3 p1=some (.lst [fr x0,fr x1,fr x2,fr x3]):=d3.2 p1 _ pa1 (d2.2 p1 _ pa1 h1)
  have pa2:p2≠a:=d3.1.ne hp2
  have n32:p3≠p2:=fun z=>by rw [z,ak] at hp3; cases hp3
  have hp3':S3 p3=none:=by rw [bo n32] at hp3; exact hp3
  have pa3:p3≠a:=d3.1.ne hp3'
  have X5:aN S3 (put (put S3 p2 (.lst [fr w0,fr w1])) p3 (.lst [])):=(aN.new hp2).trans (aN.new hp3)
  have h25:put (put S3 p2 (.lst [fr w0,fr w1])) p3 (.lst []) p2=some (.lst [fr w0,fr w1]):=av hp3 ak
  have h35:put (put S3 p2 (.lst [fr w0,fr w1])) p3 (.lst []) p3=some (.lst []):=ak
  generalize put (put S3 p2 (.lst [fr w0,fr w1])) p3 (.lst [])=S5 at X5 h25 h35 ⊢
  refine bh (fun r L S'=>aN S3 S'/\∃ (i:Nat) (l4 l9:Option D),i<=3/\r=(List.range' i (3 - i)).map (fun k:Nat=>D.int (k:Int))/\L=[some (.ref a),some (.ref p1),some (.ref p2),some (.ref p3),l4,none,none,none,none,l9,none,none]/\S' p2=some (.lst [fr w0,fr w1])/\S' p3=some (.lst (((List.range i).map fun j:Nat=>((x0+w0*((j:Int):Rat),x1+w1*((j:Int):Rat)):Rat×Rat)).map tw))) (fun _ _ _ _=>trivial) ?_ ?_ _ _ _ ⟨X5,0,none,none,by decide,rfl,rfl,h25,h35⟩
  ·rintro dd r L S6 N1 ⟨x6,i,l4,l9,hi,er,rfl,h26,h36⟩ hN
   cases hmi:3 - i with
   | zero=>rw [hmi] at er; cases er
   | succ i'=>
    rw [hmi,List.range'_succ,List.map_cons] at er
    cases er
    have zi:Sz 2 (((i:Nat):Int):Rat):=zC (by omega) (by omega)
    have h16:=x6 _ _ h13
    have s0:=z0.add (zw0.mul zi)
    have s1:=z1.add (zw1.mul zi)
    refine⟨⟨by decide,by decide⟩,fun p9 hp9=>?_⟩
    have n93:p9≠p3:=fun z=>by rw [z,h36] at hp9; cases hp9
    have n92:p9≠p2:=fun z=>by rw [z,h26] at hp9; cases hp9
    have K1:∀ o:DO,put S6 p9 o p1=some (.lst [fr x0,fr x1,fr x2,fr x3]):=fun o=>av hp9 h16
    have K2:∀ o:DO,put S6 p9 o p2=some (.lst [fr w0,fr w1]):=fun o=>av hp9 h26
    refine⟨trivial,_,_,K1 _,rfl,_,_,K2 _,rfl,few,_,_,_,_,_,rfl,aI (w0) ((((i:Nat):Int):Rat)),(zw0).num.mono (by decide),(zw0).den.mono (by decide),(zi).num.mono (by decide),(zi).den.mono (by decide),iO (w0) ((((i:Nat):Int):Rat)),_,_,_,_,_,rfl,aI (x0) (w0*(((i:Nat):Int):Rat)),(z0).num.mono (by decide),(z0).den.mono (by decide),(zw0.mul zi).num.mono (by decide),(zw0.mul zi).den.mono (by decide),nZ (x0) (w0*(((i:Nat):Int):Rat)),ak,lim (by decide),?_⟩
    rw [wY]
    refine⟨trivial,_,_,K1 _,rfl,_,_,K2 _,rfl,few,_,_,_,_,_,rfl,aI (w1) ((((i:Nat):Int):Rat)),(zw1).num.mono (by decide),(zw1).den.mono (by decide),(zi).num.mono (by decide),(zi).den.mono (by decide),iO (w1) ((((i:Nat):Int):Rat)),_,_,_,_,_,rfl,aI (x1) (w1*(((i:Nat):Int):Rat)),(z1).num.mono (by decide),(z1).den.mono (by decide),(zw1.mul zi).num.mono (by decide),(zw1.mul zi).den.mono (by decide),nZ (x1) (w1*(((i:Nat):Int):Rat)),ak,lim (by show 1<=100; decide),?_⟩
    rw [wY]
    refine⟨trivial,⟨_,av hp9 h36⟩,_,_,ak,rfl,_,_,ak,rfl,_,_,rfl,_,av hp9 h36,by rw [List.length_map,List.length_map,List.length_range]; exact lim (by omega),?_⟩
    refine hN _ _ ⟨(x6.put (jo x6 hp9)).put hp3',i+1,_,_,by omega,by rw [show 3 - (i+1)=i' by omega],rfl,by rw [bo (Ne.symm n32)]; exact K2 _,?_⟩
    rw [ak,List.range_succ,List.map_append,List.map_append]
    rfl
  ·rintro L S6 ⟨x6,i,l4,l9,hi,er,rfl,h26,h36⟩
   cases hmi:3 - i with
   | succ i'=>rw [hmi,List.range'_succ] at er; cases er
   | zero=>
    have ei:i=3:=by omega
    subst ei
    have D6:Dr a S3 S6:=Dr.ext d3.1 x6
    have h16:=x6 _ _ h13
    refine⟨a,3,rfl,by decide,by decide,D6.1,fun ρ S7 zρ ρn d7=>⟨few,fun p6 hp6=>⟨few,few,few,few,few,few,few,few,few,few,fun pL hpL=>⟨(jY.map fun p=>.tup [fr p.1,fr p.2],some pL),by show(match put _ pL _ pL with | some (.lst ds)=>some (ds,some pL) | _=>none)=_; rw [ak]; rfl,?_⟩⟩⟩⟩
    have pa6:p6≠a:=d7.1.ne hp6
    have h17:=d7.2 p1 _ pa1 h16
    have h37:=d7.2 p3 _ pa3 h36
    have nL6:pL≠p6:=fun z=>by rw [z,ak] at hpL; cases hpL
    have X8:aN S7 (put (put S7 p6 (.lst [])) pL (.lst (jY.map fun p=>.tup [fr p.1,fr p.2]))):=(aN.new hp6).trans (aN.new hpL)
    have h68:put (put S7 p6 (.lst [])) pL (.lst (jY.map fun p=>.tup [fr p.1,fr p.2])) p6=some (.lst []):=av hpL ak
    have hL8:put (put S7 p6 (.lst [])) pL (.lst (jY.map fun p=>.tup [fr p.1,fr p.2])) pL=some (.lst (jY.map fun p=>.tup [fr p.1,fr p.2])):=ak
    refine bh (fun r L S'=>aN S7 S'/\∃ (don ao:List (Rat×Rat)) (l10 l11:Option D),jY=don++ao/\r=ao.map (fun p=>.tup [fr p.1,fr p.2])/\L=[some (.ref a),some (.ref p1),some (.ref p2),some (.ref p3),l4,some (fr ρ),some (.ref p6),none,none,l9,l10,l11]/\S' pL=some (.lst (jY.map fun p=>.tup [fr p.1,fr p.2]))/\S' p6=some (.lst ((don.map fun p=>((x2+ρ*p.1,x3+ρ*p.2):Rat×Rat)).map tw))) (fun r L S' ⟨_,_,_,_,_,_,_,_,h,_⟩=>h) ?_ ?_ _ _ _ ⟨X8,[],jY,none,none,rfl,rfl,rfl,hL8,h68⟩
    ·rintro dd r L S8 N1 ⟨x8,don,ao,l10,l11,ec,er,rfl,hL,h6⟩ hN
     cases ao with
     | nil=>cases er
     | cons u ao=>
      cases er
      have hd:don.length < 3:=by have:=congrArg List.length ec; rw [List.length_append,List.length_cons] at this; have e3:jY.length=3:=rfl; omega
      obtain⟨u1,u2⟩:=u_ u (by rw [ec]; simp)
      have h18:=x8 _ _ h17
      refine⟨([fr u.1,fr u.2],none),rfl,rfl,rfl,⟨_,h6⟩,_,_,h18,rfl,_,_,_,_,_,rfl,aI (ρ) (u.1),(zρ).num.mono (by decide),(zρ).den.mono (by decide),(u1).num.mono (by decide),(u1).den.mono (by decide),iO (ρ) (u.1),_,_,_,_,_,rfl,aI (x2) (ρ*u.1),(z2).num.mono (by decide),(z2).den.mono (by decide),(zρ.mul u1).num.mono (by decide),(zρ.mul u1).den.mono (by decide),nZ (x2) (ρ*u.1),_,_,h18,rfl,_,_,_,_,_,rfl,aI (ρ) (u.2),(zρ).num.mono (by decide),(zρ).den.mono (by decide),(u2).num.mono (by decide),(u2).den.mono (by decide),iO (ρ) (u.2),_,_,_,_,_,rfl,aI (x3) (ρ*u.2),(z3).num.mono (by decide),(z3).den.mono (by decide),(zρ.mul u2).num.mono (by decide),(zρ.mul u2).den.mono (by decide),nZ (x3) (ρ*u.2),_,_,rfl,_,h6,by rw [List.length_map,List.length_map]; exact lim (by omega),hN _ _ ⟨x8.put hp6,don++[u],ao,_,_,by rw [ec]; simp,rfl,rfl,by rw [bo nL6]; exact hL,?_⟩⟩
      rw [ak,List.map_append,List.map_append]
      rfl
    ·rintro L S8 ⟨x8,don,ao,l10,l11,ec,er,rfl,hL,h6⟩
     cases ao with
     | cons u ao=>cases er
     | nil=>
      rw [List.append_nil] at ec
      subst ec
      have h18:=x8 _ _ h17
      have h38:=x8 _ _ h37
      have D8:Dr a S S8:=D3.trans (D6.trans (d7.trans (Dr.ext d7.1 x8)))
      have zi:∀ j:Nat,j<=3->Sz 2 (((j:Nat):Int):Rat):=fun j hj=>zC (by omega) (by omega)
      have s0:∀ j:Nat,j<=3->Sz 9 (x0+w0*(((j:Nat):Int):Rat)):=fun j hj=>z0.add (zw0.mul (zi j hj))
      have s1:∀ j:Nat,j<=3->Sz 9 (x1+w1*(((j:Nat):Int):Rat)):=fun j hj=>z1.add (zw1.mul (zi j hj))
      have e0:(x0+w0*(((1:Nat):Int):Rat)) - (x0+w0*(((0:Nat):Int):Rat))=w0:=by show x0+w0*1 - (x0+w0*0)=w0; grind
      have e1:(x1+w1*(((1:Nat):Int):Rat)) - (x1+w1*(((0:Nat):Int):Rat))=w1:=by show x1+w1*1 - (x1+w1*0)=w1; grind
      refine⟨_,_,h38,rfl,_,_,h38,rfl,x0+w0*(((0:Nat):Int):Rat),x1+w1*(((0:Nat):Int):Rat),x0+w0*(((1:Nat):Int):Rat),x1+w1*(((1:Nat):Int):Rat),rfl,(s0 0 (by decide)).mono (by decide),(s1 0 (by decide)).mono (by decide),(s0 1 (by decide)).mono (by decide),(s1 1 (by decide)).mono (by decide),by rw [e0,e1]; exact Bn w0n,fun S9 pl el n1 x9 hN9 h9=>?_⟩
      refine⟨_,_,x9 _ _ h18,rfl,_,_,x9 _ _ h18,rfl,x2,x3,rfl,_,_,_,_,_,rfl,aI (ρ) (ρ),(zρ).num.mono (by decide),(zρ).den.mono (by decide),(zρ).num.mono (by decide),(zρ).den.mono (by decide),iO (ρ) (ρ),x2,x3,ρ*ρ,rfl,z2.mono (by decide),z3.mono (by decide),(zρ.mul zρ).mono (by decide),fun S10 pc ecc n2 x10 hN10 h10=>⟨few,few,few,fun p hp=>?_⟩⟩
      have D10:Dr a S S10:=D8.trans (Dr.ext D8.1 (x9.trans x10))
      obtain⟨q1,hq1⟩:=FV hN9 (by rw [e0,e1]; have:=Bn (w1:=w1) w0n; grind) (((s1 1 (by decide)).sub (s1 0 (by decide))).neg.mono (by decide)) (((s0 1 (by decide)).sub (s0 0 (by decide))).mono (by decide)) ((((s0 0 (by decide)).mul ((s1 1 (by decide)).sub (s1 0 (by decide))).neg).add ((s1 0 (by decide)).mul ((s0 1 (by decide)).sub (s0 0 (by decide))))).neg.mono (by decide))
      obtain⟨q2,hq2⟩:=Cq hN10 (nA ρn) (z2.mono (by decide)) (z3.mono (by decide)) ((zρ.mul zρ).mono (by decide))
      have nd:∀ {p:Addr} {n:List (List Int×Int)} {e:Nat},S10 p=some (bN (wq n) e)->p≠a:=fun {p n e} h z=>by
       obtain⟨n0,b0,ha,_⟩:=D10.1
       rw [z,ha] at h
       cases h
      refine w _ p pl p3 pc p6 n1 n2 el ecc q1 q2 ((List.range 3).map fun j:Nat=>((x0+w0*((j:Int):Rat),x1+w1*((j:Int):Rat)):Rat×Rat)) (jY.map fun p=>((x2+ρ*p.1,x3+ρ*p.2):Rat×Rat)) (D10.trans (Dr.new D10.1 hp)) ak (D10.1.ne hp) (nd (x10 _ _ h9)) pa3 (nd h10) pa6 (av hp (x10 _ _ h9)) (av hp (x10 _ _ (x9 _ _ h38))) (av hp h10) (av hp (x10 _ _ (x9 _ _ h6))) hq1 hq2 rfl rfl (fun z hz=>?_) (fun z hz=>?_)
      ·obtain⟨j,hj,rfl⟩:=List.mem_map.mp hz
       have:=List.mem_range.mp hj
       exact⟨(s0 j (by omega)).mono (by decide),(s1 j (by omega)).mono (by decide)⟩
      ·obtain⟨u,hu,rfl⟩:=List.mem_map.mp hz
       obtain⟨u1,u2⟩:=u_ u hu
       exact⟨(z2.add (zρ.mul u1)).mono (by decide),(z3.add (zρ.mul u2)).mono (by decide)⟩
set_option maxHeartbeats 4000000
theorem JF {u x y:Rat}:PP x y=Pq u (qo x) (qo y):=by
 unfold PP Pq N qo
 dsimp only
 rw [show ss 0*u=0 by show(0:Rat)*_*u=0; grind]
theorem qf {ls:List Ld} {l:Ld}:rf (ls++[l])=rf ls*(gw l*gw l):=by unfold rf; rw [List.foldl_append]; rfl
theorem xq {ls:List Ld} {l:Ld} (h:gw l=1):rf (ls++[l])=rf ls:=by rw [qf,h]; grind
theorem Gy {ns:List (List Int×Int)} {q:Qc} (h:Fk ns q):Cv 28 900 6 (oI ns) where
 nd:=by rw [kT]; exact h.g.ci.nd
 hl:=by rw [List.length_map]; have:=h.g.len; omega
 sm:=fun p hp=>by
  obtain⟨x,hx,rfl⟩:=List.mem_map.mp hp
  obtain⟨i,j,e,i0,j0,i1,j1⟩:=h.g.ci.sm x hx
  exact⟨i,j,e,i0,j0,by omega,by omega⟩
 hz:=fun p hp=>(wK (by decide) h.b p hp).mono (by decide)
theorem HN {n:Nat} {q:Qc} (hb:Bt n q.b) (hc:Bt n q.c) (ha:Bt n q.a) (he:Bt n q.e) (a0:q.a≠0):Sz (2*n+10) (q.D / (4*((q.a:Rat)*q.a))):=by
 have e:q.D / (4*((q.a:Rat)*q.a))=Rat.divInt (mZ q.a q.b q.c q.e) (4*(q.a*q.a)):=by
  rw [Rat.divInt_eq_div,mW,Rat.intCast_mul,Rat.intCast_mul]
  rfl
 rw [e]
 have b4:Bt 3 4:=by decide
 refine Sz.divInt (((hb.mul hb).add (hc.mul hc)).sub (b4.mul (ha.mul he)) |>.mono (by omega)) ((b4.mul (ha.mul ha)).mono (by omega)) (Int.mul_ne_zero (by decide) (Int.mul_ne_zero a0 a0))
def mz:b_:=fun ds S k=>∃ (a c l:Addr) (ns:List (List Int×Int)) (e:Nat) (q:Qc) (ps:List (Rat×Rat)),ds=[.ref a,.ref c,.ref l]/\tK S a/\c≠a/\l≠a/\S c=some (bN (wq ns) e)/\S l=some (.lst (ps.map tw))/\Fk ns q/\ps.length=3/\(∀ z∈ps,Sz 20 z.1/\Sz 20 z.2)/\∀ S',Dr a S S'->k (.bl true) S'
theorem cm:ar ["state","curve","points","leads","by","lead","kind","found","middle"] ["state","curve","points"] (ap mh):=dN
theorem uB (Fn:cT K "_law_one" "_law_one" mh f fd) (dY:aQ P w K mg base "_law_leads" 6 g_) (bz:aQ P w K mg base "_law_times" 3 gQ) (eU:aQ P w K mg base "kind_of" 38 i7) (dM:aQ P w K mg base "curve_led" 39 gh) (cG:aQ P w K mg base "_law_plain" 1 fq) (aB:aQ P w K mg base "_law_fraction" 3 aS) (aR:aQ P w K mg base "_law_take" 1 dJ) (aZ:aQ P w K mg base "_law_nought" 4 db) (mB:aQ P w K mg base "on_curve" 41 ip):
  aH P w K mg base cQ 42 f fd ["state","curve","points"] (cY K mz):=by
 refine Fn.okJ cm (fun ds S k h=>?_) (fun cdv A outer s H E hr=>⟨_,(af (ag (i:=3) cm.nd (dq dY hr (aa (ac 0) (aa ad (aa ad ae))))) (af (ag (i:=4) cm.nd (aq (aa ad (aa ad ae)))) (af (eS PassesOwn.never rfl (ac 3) (aw (i:=5) cm.nd) (ah (aE (ax (rN hr) (ai aj (ac 5) ad (fun _ _=>rfl)) cE (ay _)) (ah (ag (i:=4) cm.nd (dq bz hr (aa (ac 4) (aa (dq bz hr (aa (ai aj (ac 5) ad (fun _ _=>rfl)) (aa (ai aj (ac 5) ad (fun _ _=>rfl)) ae))) ae))))) aD))) (af (ag (i:=6) cm.nd (dq eU hr (aa (ac 1) ae))) (af (ag (i:=7) cm.nd (dq eU hr (aa (dq dM hr (aa (ac 3) (aa (ac 1) ae))) ae))) (af (aE (WJ.pt (AR (ax BV (ac 7) eo (ay _)) (w4 (ax (AO hr) (ai aj (ac 7) ad (fun _ _=>rfl)) (ai aj (ac 6) ad (fun _ _=>rfl)) (ay _))))) (ah (am kJ)) aD) (af (aE (WJ.pt (tN (ax (rN hr) (ai aj (ac 6) ad (fun _ _=>rfl)) cE (ay _)) (po (ax (AO hr) (ai aj (ac 7) ad (fun _ _=>rfl)) (dq bz hr (aa (ai aj (ac 6) ad (fun _ _=>rfl)) (aa (ac 4) ae))) (ay _))))) (ah (am kJ)) aD) (af (ag (i:=8) cm.nd (ai aj (au cB (ac 2) (au Gb (fN (aa (dq cG hr (aa (dq aB hr (aa (ac 0) (aa ad ae))) (aa (dq aB hr (aa (ac 0) (aa ad ae))) ae))) ae)) ad)) (dq aR hr (aa (ac 0) (aa ad ae))) (fun _ _=>rfl))) (af (ag (i:=5) cm.nd (aq (aa cE (aa (ai aj (ai aj (ac 8) ad (fun _ _=>rfl)) ad (fun _ _=>rfl)) (aa (ai aj (ai aj (ac 8) ad (fun _ _=>rfl)) ad (fun _ _=>rfl)) (aa (dq aZ hr (aa (ac 0) (aa ad ae))) ae)))))) (af (ag (i:=7) cm.nd (dq eU hr (aa (dq dM hr (aa (fN (aa (ac 5) ae)) (aa (ac 1) ae))) ae))) (ah (am (GE (kK xK (ac 7) eo (ay _)) (GA (kK (rN hr) (kK (rN hr) (ai aj (ac 7) ad (fun _ _=>rfl)) cE (ay _)) (dq mB hr (aa (ac 1) (aa (ac 8) ae))) (ay _)))))))))))))))),fun ds S k h=>?_⟩)
 ·obtain⟨_,_,_,_,_,_,_,rfl,_⟩:=h
  rfl
 ·obtain⟨a,c,l,ns,e,q,ps,rfl,hS,ca,la,hc,hl,hq,hps,hsz,w⟩:=h
  refine⟨a,3,0,rfl,by decide,by decide,hS,fun ls S1 p3 hok hni l1 l3 d1 hp3 pa3=>⟨few,(ls.map pQ,some p3),by show(match S1 p3 with | some (.lst ds)=>some (ds,some p3) | _=>none)=_; rw [hp3],?_⟩⟩
  have ll:ls.length<=3:=by omega
  refine bh (fun r L S'=>S'=S1/\∃ (don ao:List Ld) (l5:Option D),ls=don++ao/\r=ao.map pQ/\L=[some (.ref a),some (.ref c),some (.ref l),some (.ref p3),some (fr (rf don)),l5,none,none,none]/\Sz (2+50*don.length) (rf don)) (fun r L S' h=>by rw [h.1]; exact hp3) ?_ ?_ _ _ _ ⟨rfl,[],ls,none,rfl,rfl,rfl,⟨by decide,by decide⟩⟩
  ·rintro dd r L S2 N1 ⟨rfl,don,ao,l5,ec,er,rfl,hg⟩ hN
   cases ao with
   | nil=>cases er
   | cons m ao=>
    cases er
    have hd:don.length < 3:=by have:=congrArg List.length ec; rw [List.length_append,List.length_cons] at this; omega
    obtain⟨ok,sz⟩:=hok m (by rw [ec]; simp)
    have go1:gw m=1->N1 [some (.ref a),some (.ref c),some (.ref l),some (.ref p3),some (fr (rf don)),some (pQ m),none,none,none] S2:=fun h1=>hN _ _ ⟨rfl,don++[m],ao,_,by rw [ec]; simp,rfl,by rw [xq h1],by rw [xq h1,List.length_append]; exact hg.mono (by omega)⟩
    cases m with
    | shift x y=>exact⟨false,rfl,go1 rfl⟩
    | turn x y u v=>exact⟨false,rfl,go1 rfl⟩
    | mirror x y u=>exact⟨false,rfl,go1 rfl⟩
    | invert x y u=>exact⟨false,rfl,go1 rfl⟩
    | grow x y b=>
     have zb:Sz 24 b:=sz.2.2
     refine⟨true,rfl,_,_,_,_,_,rfl,aI (b) (b),(zb).num.mono (by decide),(zb).den.mono (by decide),(zb).num.mono (by decide),(zb).den.mono (by decide),iO (b) (b),_,_,_,_,_,rfl,aI (rf don) (b*b),(hg).num.mono (by omega),(hg).den.mono (by omega),(zb.mul zb).num.mono (by omega),(zb.mul zb).den.mono (by omega),iO (rf don) (b*b),hN _ _ ⟨rfl,don++[.grow x y b],ao,_,by rw [ec]; simp,rfl,by rw [qf]; rfl,?_⟩⟩
     rw [qf]
     exact(hg.mul (zb.mul zb)).mono (by rw [List.length_append]; show _<=2+50*(don.length+1); omega)
  ·rintro L S2 ⟨rfl,don,ao,l5,ec,er,rfl,hg⟩
   cases ao with
   | cons m ao=>cases er
   | nil=>
    rw [List.append_nil] at ec
    subst ec
    have hg:Sz 152 (rf ls):=hg.mono (by omega)
    have hc1:=d1.2 c _ ca hc
    have hl1:=d1.2 l _ la hl
    have b29:∀ p∈ns,Bt 2900 p.2:=fun p hp=>(hq.b p hp).mono (by decide)
    refine⟨c,oI ns,e,rfl,by rw [<- qh]; exact hc1,w9 hq.g hq.d b29,fun S3 kd x3 hkd=>?_⟩
    have hk:=xG hq.g hq.d hkd
    refine⟨.ref p3,ls,c,ns,e,q,0,rfl,.inr ⟨p3,rfl,x3 _ _ hp3⟩,hok,ll,x3 _ _ hc1,hq.g,hq.d,hq.b,fun S4 pg eg g q' x4 hg' hR bg hpg=>?_⟩
    refine⟨pg,oI g,eg,rfl,by rw [<- qh]; exact hpg,w9 hg' hR.d bg,fun S5 fd x5 hfd=>?_⟩
    have hf:=xG hg' hR.d hfd
    obtain⟨m1,m2⟩:=hR.mv (hni (by decide))
    have X5:aN S2 S5:=x3.trans (x4.trans x5)
    have D5:Dr a S S5:=d1.trans (Dr.ext d1.1 X5)
    have hc5:=X5 _ _ hc1
    have hl5:=X5 _ _ hl1
    clear hkd hfd x3 x4 x5 hpg
    obtain⟨u1,u2,u3,rfl⟩:∃ u1 u2 u3,ps=[u1,u2,u3]:=by
     match ps,hps with
     | [u1,u2,u3],_=>exact⟨u1,u2,u3,rfl⟩
    have fin:∀ kd fd:D,(rb (qY 8 (kB kg (kB CA (cP 2) (kB Ag (Ds (bq (fz fq (bq (fz aS (bq (cP 0) (bq (dC (D.int 3)) iS))) (bq (fz aS (bq (cP 0) (bq (dC (D.int 3)) iS))) iS))) iS)) (dC (D.int 3)))) (fz dJ (bq (cP 0) (bq (dC (D.int 6)) iS))))) (rb (qY 5 (vC (bq (dC (D.str (Str.ofString "invert"))) (bq (kB kg (kB kg (cP 8) (dC (D.int 0))) (dC (D.int 0))) (bq (kB kg (kB kg (cP 8) (dC (D.int 1))) (dC (D.int 0))) (bq (fz db (bq (cP 0) (bq (dC (D.int 4)) iS))) iS)))))) (rb (qY 7 (fz i7 (bq (fz gh (bq (Ds (bq (cP 5) iS)) (bq (cP 1) iS))) iS))) (Ck (BK (kB wl (cP 7) (dC D.non)) (kB yi (kB yi (kB kg (cP 7) (dC (D.int 0))) (dC (D.str (Str.ofString "line")))) (fz ip (bq (cP 1) (bq (cP 8) iS))))))))) {nx:=fun _ S'=>k D.non S',rt:=k} [some (.ref a),some (.ref c),some (.ref l),some (.ref p3),some (fr (rf ls)),l5,some kd,some fd,none] S5:=by
     intro kd fd
     refine⟨a,3,rfl,by decide,by decide,D5.1,fun f1 S6 zf1 d6=>⟨a,3,rfl,by decide,by decide,d6.1,fun f2 S7 zf2 d7=>⟨f1,f2,rfl,few,fun pm hpm=>⟨[PP f1 f2],ak,by decide,by decide,Nat.le_of_ble_eq_true rfl,fun pn hpn=>?_⟩⟩⟩⟩
     have hl7:=d7.2 l _ la (d6.2 l _ la hl5)
     have hc7:=d7.2 c _ ca (d6.2 c _ ca hc5)
     refine⟨[tw u1,tw u2,tw u3],_,av hpn (av hpm hl7),ak,Nat.le_of_ble_eq_true rfl,fun pq hpq=>?_⟩
     have so:=((d7.1.new (o:=.lst [PP f1 f2]) hpm).new (o:=.lst (List.replicate (3:Int).toNat [PP f1 f2]).flatten) hpn)
     have pqa:pq≠a:=so.ne hpq
     have so2:=so.new (o:=.lst ([tw u1,tw u2,tw u3]++(List.replicate (3:Int).toNat [PP f1 f2]).flatten)) hpq
     have X8:aN S7 (put (put (put S7 pm (.lst [PP f1 f2])) pn (.lst (List.replicate (3:Int).toNat [PP f1 f2]).flatten)) pq (.lst ([tw u1,tw u2,tw u3]++(List.replicate (3:Int).toNat [PP f1 f2]).flatten))):=(aN.new hpm).trans ((aN.new hpn).trans (aN.new hpq))
     refine⟨a,6,rfl,by decide,Bt.mono (m:=4) (by decide) (by decide),so2,fun r S8 r0 r6 d8=>?_⟩
     have hq8:=d8.2 pq _ pqa ak
     have hc8:=d8.2 c _ ca (X8 _ _ hc7)
     have D8:Dr a S S8:=D5.trans (d6.trans (d7.trans ((Dr.ext d7.1 X8).trans d8)))
     obtain⟨d,hat,hm⟩:=tG (ds:=[tw u1,tw u2,tw u3,PP f1 f2,PP f1 f2,PP f1 f2]) r0 r6
     have hmid:∃ x y:Rat,d=PP x y/\Sz 20 x/\Sz 20 y:=by
      simp only [List.mem_cons,List.not_mem_nil,or_false] at hm
      rcases hm with rfl | rfl | rfl | rfl | rfl | rfl
      ·exact⟨_,_,rfl,hsz u1 (by simp)⟩
      ·exact⟨_,_,rfl,hsz u2 (by simp)⟩
      ·exact⟨_,_,rfl,hsz u3 (by simp)⟩
      ·exact⟨_,_,rfl,zf1.mono (by decide),zf2.mono (by decide)⟩
      ·exact⟨_,_,rfl,zf1.mono (by decide),zf2.mono (by decide)⟩
      ·exact⟨_,_,rfl,zf1.mono (by decide),zf2.mono (by decide)⟩
     obtain⟨x,y,rfl,zx,zy⟩:=hmid
     refine⟨_,_,hq8,hat,a,4,rfl,by decide,by decide,d8.1,fun v S9 zv v0 d9=>⟨few,few,fun pz hpz=>?_⟩⟩
     have hc9:=d9.2 c _ ca hc8
     refine⟨.ref pz,[.invert x y v],c,ns,e,q,0,rfl,.inr ⟨pz,rfl,ak⟩,fun m hm=>?_,by show 1<=3; decide,av hpz hc9,hq.g,hq.d,hq.b,fun S10 pg eg g q2 x10 hg2 hR2 bg2 hpg2=>?_⟩
     ·rw [List.mem_singleton.mp hm]
      exact⟨v0,zx.mono (by decide),zy.mono (by decide),zv.mono (by decide)⟩
     refine⟨pg,oI g,eg,rfl,by rw [<- qh]; exact hpg2,w9 hg2 hR2.d bg2,fun S11 fd2 x11 hfd2=>?_⟩
     have X11:aN S9 S11:=(aN.new hpz).trans (x10.trans x11)
     have D11:Dr a S S11:=D8.trans (d9.trans (Dr.ext d9.1 X11))
     have hc11:=X11 _ _ hc9
     have iv:=hR2.iv x y v rfl
     have on:∀ (K:DK),(∀ S',aN S11 S'->K (.bl (decide (q.at x y=0))) S')->ip [.ref c,PP x y] S11 K:=fun K hK=>by
      refine⟨((2:Int):Rat),qo x,qo y,20,3,c,oI ns,e,1,1,by rw [JF (u:=((2:Int):Rat))],by rw [<- qh]; exact hc11,Gy hq,by decide,EK,by decide,fun p hp=>?_,by decide,⟨by decide,by decide⟩,by decide,⟨zx,Sz.zero.mono (by decide)⟩,⟨zy,Sz.zero.mono (by decide)⟩,by decide,by decide,fun S' x'=>?_⟩
      ·obtain⟨z,hz,rfl⟩:=List.mem_map.mp hp
       exact Int.dvd_refl _
      ·have:=hK S' x'
       rw [Gw hq.g]
       have ee:decide ((q.at x y,(0:Rat))=(0,0))=decide (q.at x y=0):=decide_eq_decide.mpr ⟨fun h=>congrArg Prod.fst h,fun h=>by rw [h]⟩
       rw [ee]
       exact this
     rcases xG hg2 hR2.d hfd2 with ⟨a0,x',y',z',rfl⟩ | ⟨a0,x',y',rfl⟩
     ·refine⟨true,rfl,on (fun d S'=>yi (.bl true) d S' k) fun S' x'=>?_⟩
      rw [decide_eq_true (iv.mp a0)]
      exact⟨true,rfl,w S' (D11.trans (Dr.ext D11.1 x'))⟩
     ·refine⟨false,rfl,on (fun d S'=>yi (.bl false) d S' k) fun S' x'=>?_⟩
      rw [decide_eq_false (fun z=>a0 (iv.mpr z))]
      exact⟨true,rfl,w S' (D11.trans (Dr.ext D11.1 x'))⟩
    rcases hk with ⟨a0,x,y,z,rfl⟩ | ⟨a0,x,y,rfl⟩
    ·rcases hf with ⟨a0',x',y',z',rfl⟩ | ⟨a0',x',y',rfl⟩
     ·exact⟨true,rfl,false,rfl,fin _ _⟩
     ·exact absurd (m1.mpr a0) a0'
    ·rcases hf with ⟨a0',x',y',z',rfl⟩ | ⟨a0',x',y',rfl⟩
     ·exact absurd (m1.mp a0') a0
     ·obtain⟨ba,bb,bc,be⟩:=hq.g.bts hq.b
      have zk:=HN bb bc ba be a0
      have ev:q'.D / (4*((q'.a:Rat)*q'.a))=q.D / (4*((q.a:Rat)*q.a))*rf ls:=by
       have a1:(q.a:Rat)≠0:=fun z=>a0 (i0.mp z)
       have a2:(q'.a:Rat)≠0:=fun z=>a0' (i0.mp z)
       generalize (q.a:Rat)=α at*
       generalize (q'.a:Rat)=β at*
       generalize q.D=δ at*
       generalize q'.D=δ' at*
       generalize rf ls=γ at*
       grind
      exact⟨true,rfl,true,rfl,_,_,_,_,_,rfl,aI (q.D / (4*((q.a:Rat)*q.a))) (rf ls),(zk).num.mono (by decide),(zk).den.mono (by decide),(hg).num.mono (by decide),(hg).den.mono (by decide),iO (q.D / (4*((q.a:Rat)*q.a))) (rf ls),_,ET (n:=7),Hn (fun h=>absurd ev (of_decide_eq_false h)) (fun _=>fin _ _)⟩
set_option maxHeartbeats 4000000
def Kj (s:Addr) (S:DH) (d:D):Prop:=∃ (c l:Addr) (ns:List (List Int×Int)) (e:Nat) (q:Qc) (ps:List (Rat×Rat)),d=.tup [.ref c,.ref l]/\c≠s/\l≠s/\S c=some (bN (wq ns) e)/\S l=some (.lst (ps.map tw))/\Fk ns q/\ps.length=3/\∀ z∈ps,Sz 20 z.1/\Sz 20 z.2
def vo:b_:=fun ds S k=>∃ ns:List Int,ds=[.rl (List.map D.int ns)]/\ns.length<=63/\∀ S',k (.bl true) S'
theorem qC:ar ["script","k","state","curve","points"] ["script"] (ap AM):=dN
theorem Fs (Fn:cT K "law" "law" AM f fd) (jP:aQ P w K mg base "_law_state" 2 ji) (kZ:aQ P w K mg base "_law_some" 39 kA) (mD:aQ P w K mg base "_law_one" 42 mz) (eU:aQ P w K mg base "kind_of" 38 i7) (dM:aQ P w K mg base "curve_led" 39 gh) (dY:aQ P w K mg base "_law_leads" 6 g_) (br:mg "range"=none) (hZ:mg "max"=none) (BF:mg "min"=none) (j4:mg "len"=none):
  aH P w K mg base cQ 43 f fd ["script"] (cY K vo):=by
 refine Fn.okJ qC (fun ds S k h=>?_) (fun cdv A outer s H E hr=>⟨_,(af (jd PassesOwn.never rfl rfl br (aa (cU E6 rfl hZ pj (aa ad (aa (cU Ja rfl BF FL (aa (cU BP rfl j4 tL (aa (ac 0) ae)) (aa ad ae))) ae))) ae) (aw (i:=1) qC.nd) (af (ag (i:=2) qC.nd (dq jP hr (aa (ac 0) (aa (ac 1) ae)))) (ah (eS PassesOwn.never rfl (dq kZ hr (aa (ac 2) ae)) (fC (n:=2) rfl (aJ (aw (i:=3) qC.nd) (aJ (aw (i:=4) qC.nd) dP))) (af (aE (Dd (lh (dq mD hr (aa (ac 2) (aa (ac 3) (aa (ac 4) ae)))))) (ah (am kJ)) aD) (ah (aE (ax BV (dq eU hr (aa (dq dM hr (aa (dq dY hr (aa (ac 2) (aa ad (aa ad ae)))) (aa (ac 3) ae))) ae)) eo (ay _)) (ah (am kJ)) aD))))))) (ah (am kJ))),fun ds S k h=>?_⟩)
 ·obtain⟨_,rfl,_⟩:=h
  rfl
 ·obtain⟨ns,rfl,hl,w⟩:=h
  have hb:∀ z:Int,0<=z->z<=63->-(2 ^ 62)<=z/\z < 2 ^ 62:=fun z _ _=>by omega
  refine⟨hb _ (by split <;> (try split) <;> omega) (by rw [List.length_map]; split <;> (try split) <;> omega),?_⟩
  refine pM (P:=fun d=>∃ i:Int,d=.int i/\0<=i) (fun L S'=>∃ r1 r2 r3 r4,L=[some (.rl (List.map D.int ns)),r1,r2,r3,r4]) (fun _ _ _=>trivial) ?_ (fun L S' _=>w S') _ ?_ _ _ ⟨_,_,_,_,rfl⟩
  ·rintro d L S1 Nx ⟨i,rfl,hi⟩ ⟨r1,r2,r3,r4,rfl⟩ hN
   refine⟨ns,i,rfl,hi,fun s n0 b hs hnb=>?_⟩
   have hS:tK (put S1 s (.lst [.int n0,.bl b])) s:=⟨n0,b,ak,hnb⟩
   generalize put S1 s (.lst [.int n0,.bl b])=T1 at hS ⊢
   refine⟨s,rfl,hS,fun T2 p l1 l2 c1 c2 n1 n2 e1 e2 q1 q2 ps os d2 hp pn l1n l2n c1n c2n h1 h2 h3 h4 g1 g2 hps hos zps zos=>⟨([.tup [.ref l1,.ref l2],.tup [.ref c1,.ref c2]],some p),by show(match T2 p with | some (.lst ds)=>some (ds,some p) | _=>none)=_; rw [hp],?_⟩⟩
   refine pM (P:=Kj s T2) (fun L S'=>Dr s T2 S'/\∃ r3 r4,L=[some (.rl (List.map D.int ns)),some (.int i),some (.ref s),r3,r4]) (fun L S' h=>h.1.2 p _ pn hp) ?_ (fun L S' h=>?_) _ ?_ _ _ ⟨Dr.ext d2.1 (aN.refl _),r3,r4,rfl⟩
   ·rintro d L T3 N1 ⟨c,l,ms,e,q,us,rfl,cn,ln,hc,hl,g,hus,zus⟩ ⟨d3,r3,r4,rfl⟩ hN1
    refine⟨([.ref c,.ref l],none),rfl,rfl,rfl,s,c,l,ms,e,q,us,rfl,d3.1,cn,ln,d3.2 c _ cn hc,d3.2 l _ ln hl,g,hus,zus,fun T4 d4=>?_⟩
    have D4:=d3.trans d4
    refine⟨s,3,2,rfl,by decide,by decide,d4.1,fun ls T5 p5 hok hni k1 k3 d5 hp5 pa5=>?_⟩
    have D5:=D4.trans d5
    refine⟨.ref p5,ls,c,ms,e,q,0,rfl,.inr ⟨p5,rfl,hp5⟩,hok,by omega,D5.2 c _ cn hc,g.g,g.d,g.b,fun T6 pg eg gg q' x6 hg hR bg hpg=>?_⟩
    refine⟨pg,oI gg,eg,rfl,by rw [<- qh]; exact hpg,w9 hg hR.d bg,fun T7 fd x7 hfd=>?_⟩
    have D7:Dr s T2 T7:=D5.trans (Dr.ext D5.1 (x6.trans x7))
    rcases xG hg hR.d hfd with ⟨_,x',y',z',rfl⟩ | ⟨_,x',y',rfl⟩
    ·exact hN1 _ _ ⟨D7,_,_,rfl⟩
    ·exact hN1 _ _ ⟨D7,_,_,rfl⟩
   ·obtain⟨_,r3,r4,rfl⟩:=h
    exact hN _ _ ⟨_,_,_,_,rfl⟩
   ·intro d hd
    simp only [List.mem_cons,List.not_mem_nil,or_false] at hd
    rcases hd with rfl | rfl
    ·exact⟨l1,l2,n1,e1,q1,ps,rfl,l1n,l2n,h1,h2,g1,hps,zps⟩
    ·exact⟨c1,c2,n2,e2,q2,os,rfl,c1n,c2n,h3,h4,g2,hos,zos⟩
  ·intro d hd
   obtain⟨z,_,rfl⟩:=List.mem_map.mp hd
   exact⟨_,rfl,by omega⟩
theorem Em (ns:List Int) (h:ns.length<=63):vo [.rl (List.map D.int ns)] (D' []) (fun d _=>d=.bl true):=⟨ns,rfl,h,fun _=>rfl⟩
end My
def PySem.W.Fast.tw15128532601226420152:Unit:=()
def PySem.W.Fast.tw3197961904460285210:Unit:=()
def PySem.W.Fast.tw3486860572327054965:Unit:=()
def PySem.W.Fast.tw5258883638782396326:Unit:=()
def PySem.W.Fast.tw5138198972915116589:Unit:=()
def PySem.W.Fast.tw16998148225599804560:Unit:=()
def PySem.W.Fast.tw4532923084155130089:Unit:=()
def PySem.W.Fast.tw15360669975576290182:Unit:=()
def PySem.W.Fast.tw4390974651835639183:Unit:=()
def PySem.W.Fast.tw8073756632678251669:Unit:=()
def PySem.W.Fast.tw8581909606671698722:Unit:=()
def PySem.W.Fast.tw10017809872406144375:Unit:=()
def PySem.W.Fast.tw12874561493315802226:Unit:=()
def PySem.W.Fast.tw6120462831551521001:Unit:=()
def PySem.W.Fast.tw17126249378793813141:Unit:=()
def PySem.W.Fast.tw14191563364645106294:Unit:=()
def PySem.W.Fast.tw11072169415450778756:Unit:=()
def PySem.W.Fast.tw14754866314791878388:Unit:=()
def PySem.W.Fast.tw2240545178950115378:Unit:=()
def PySem.W.Fast.tw15765294568846922591:Unit:=()
def PySem.W.Fast.tw13380349823449203255:Unit:=()
def PySem.W.Fast.tw8184979099791236773:Unit:=()
def PySem.W.Fast.tw9399565716721740414:Unit:=()
def PySem.W.Fast.tw6315701792205274496:Unit:=()
def PySem.W.Fast.tw15828790242174685653:Unit:=()
def PySem.W.Fast.tw2879130413224384749:Unit:=()
def PySem.W.Fast.tw13814304347547026112:Unit:=()
def PySem.W.Fast.tw12853014724297001457:Unit:=()
def PySem.W.Fast.tw18207951366802791857:Unit:=()
def PySem.W.Fast.tw9895104601883415549:Unit:=()
def PySem.W.Fast.tw15891713825314509456:Unit:=()
def PySem.W.Fast.tw14053638607945933973:Unit:=()
def PySem.W.Fast.tw8129998613135431488:Unit:=()
def PySem.W.Fast.tw1507961413079735016:Unit:=()
def PySem.W.Fast.tw5930033038754816352:Unit:=()
def PySem.W.Fast.tw10016801223036721135:Unit:=()
def PySem.W.Fast.tw10125333451558948618:Unit:=()
def PySem.W.Fast.tw4703115759193406965:Unit:=()
def PySem.W.Fast.tw4028660299555834389:Unit:=()
def PySem.W.Fast.tw12388660458891846309:Unit:=()
def PySem.W.Fast.tw133480396341517198:Unit:=()
def PySem.W.Fast.tw9244626672112646396:Unit:=()
namespace My
open PySem PySem.Spec PyProof.Rows L2 DL HM
set_option maxHeartbeats 4000000
theorem Ho {l:PySem.W.OpenLaw} {w:World} {K:Fg} {h:Heap} {mg:Str->Option Value} {fa:Addr} (X:K.In h) (G:h.Ns mainGlobals mg) (hfa:mg "law"=some (.ref fa))
  {f1 f2 f3 f4 f5 f6 f7 f8 f9 f10 f11 f12 f13 f14 f15 f16 f17 f18 f19 f20 f21 f22 f23 f24 f25 f26 f27 f28 f29 f30 f31 f32 f33 f34 f35 f36 f37 f38 f39 f40 f41 f42 f43 f44 f45 f46 f47 f48 f49 f50 f51 f52 f53 f54 f55 f56 f57 f58 f59 f60 f61 f62 f63 f64 f65 f66 f67 f68 f69:Addr} {cd1 cd2 cd3 cd4 cd5 cd6 cd7 cd8 cd9 cd10 cd11 cd12 cd13 cd14 cd15 cd16 cd17 cd18 cd19 cd20 cd21 cd22 cd23 cd24 cd25 cd26 cd27 cd28 cd29 cd30 cd31 cd32 cd33 cd34 cd35 cd36 cd37 cd38 cd39 cd40 cd41 cd42 cd43 cd44 cd45 cd46 cd47 cd48 cd49 cd50 cd51 cd52 cd53 cd54 cd55 cd56 cd57 cd58 cd59 cd60 cd61 cd62 cd63 cd64 cd65 cd66 cd67 cd68 cd69:Value}
  {pU:Addr} {xT:Option Addr} {yk:Array (Option Value)} {Cs:Nat} {p0_ORIGIN:Addr} {od0_ORIGIN:Option Addr} {sl0_ORIGIN:Array (Option Value)} {n0_ORIGIN:Nat} {t0_0_ORIGIN t1_0_ORIGIN:Tok} {p1_ORIGIN:Addr} {od1_ORIGIN:Option Addr} {sl1_ORIGIN:Array (Option Value)} {n1_ORIGIN:Nat} {t0_1_ORIGIN t1_1_ORIGIN:Tok}
  {pB:Addr} {yf:Option Addr} {xX:Array (Option Value)} {AV:Nat} {yO yz:Tok}
  {Bj:Addr} {Gr:Option Addr} {GX:Array (Option Value)} {IR:Nat} {FQ Hc:Tok}
  (d1:DI K "common_divisor" fP f1 cd1)
  (d2:DI K "ratio" t_ f2 cd2)
  (d3:DI K "plus" wA f3 cd3)
  (d4:DI K "minus" sW f4 cd4)
  (d5:DI K "times" tI f5 cd5)
  (d6:DI K "over" vZ f6 cd6)
  (d7:DI K "negative" lW f7 cd7)
  (d8:DI K "without_sign" iz f8 cd8)
  (d9:DI K "whole_root" jH f9 cd9)
  (d10:DI K "square_root_or_none" du f10 cd10)
  (d11:DI K "root_in" nP f11 cd11)
  (d12:DI K "is_plain" mr f12 cd12)
  (d13:DI K "with_sign_of" iE f13 cd13)
  (d14:DI K "field_base" jG f14 cd14)
  (d15:DI K "share" tR f15 cd15)
  (d16:DI K "place_of" l_ f16 cd16)
  (d17:DI K "plain_way" kr f17 cd17)
  (d18:DI K "product_of_ways" fy f18 cd18)
  (d19:DI K "moved" uj f19 cd19)
  (d20:DI K "square_of_unlike" eR f20 cd20)
  (d21:DI K "without_noughts" fj f21 cd21)
  (d22:DI K "common_multiple" fm f22 cd22)
  (d23:DI K "common_bottom" gz f23 cd23)
  (d24:DI K "tops_over" kh f24 cd24)
  (d25:DI K "normal_of_tops" fJ f25 cd25)
  (d26:DI K "normal" qx f26 cd26)
  (d27:DI K "line_from" kz f27 cd27)
  (d28:DI K "round_about" iZ f28 cd28)
  (d29:DI K "line_through" il f29 cd29)
  (d30:DI K "circle_about" hJ f30 cd30)
  (d31:DI K "product_of_tops" fw f31 cd31)
  (d32:DI K "sum_of_tops" iP f32 cd32)
  (d33:DI K "without_nought_tops" dj f33 cd33)
  (d34:DI K "powers_up_to" iu f34 cd34)
  (d35:DI K "set_in" pi f35 cd35)
  (d36:DI K "over_round" ju f36 cd36)
  (d37:DI K "without_rounds" fL f37 cd37)
  (d38:DI K "turned_over" i6 f38 cd38)
  (d39:DI K "surd_times" jI f39 cd39)
  (d40:DI K "surd_power" jJ f40 cd40)
  (d41:DI K "surd_over" kI f41 cd41)
  (d42:DI K "powers_over" i5 f42 cd42)
  (d43:DI K "side_over" ko f43 cd43)
  (d44:DI K "on_curve" lY f44 cd44)
  (d45:DI K "wholes_over" iW f45 cd45)
  (d46:DI K "turned" qA f46 cd46)
  (d47:DI K "flat" wJ f47 cd47)
  (d48:DI K "back" wb f48 cd48)
  (d49:DI K "degree_of" kD f49 cd49)
  (d50:DI K "circle_of" kE f50 cd50)
  (d51:DI K "kind_of" nX f51 cd51)
  (d52:DI K "tops_moved" jq f52 cd52)
  (d53:DI K "tops_inverted" gy f53 cd53)
  (d54:DI K "curve_led" kS f54 cd54)
  (d55:DI K "_law_cell_at" ie f55 cd55)
  (d56:DI K "_law_state" jN f56 cd56)
  (d57:DI K "_law_take" km f57 cd57)
  (d58:DI K "_law_divisor" ig f58 cd58)
  (d59:DI K "_law_ratio" jy f59 cd59)
  (d60:DI K "_law_times" jp f60 cd60)
  (d61:DI K "_law_plus" ki f61 cd61)
  (d62:DI K "_law_fraction" gK f62 cd62)
  (d63:DI K "_law_nought" i4 f63 cd63)
  (d64:DI K "_law_lead" kj f64 cd64)
  (d65:DI K "_law_leads" jT f65 cd65)
  (d66:DI K "_law_plain" jA f66 cd66)
  (d67:DI K "_law_some" kR f67 cd67)
  (d68:DI K "_law_one" mh f68 cd68)
  (d69:DI K "law" AM f69 cd69)
  (oh:PySem.W.nsIn K mainGlobals "ORIGIN"=some (some (.ref pU))) (oj:K.lookup pU=some ⟨.type "tuple",xT,.seq #[.ref p0_ORIGIN,.ref p1_ORIGIN] Cs,yk⟩) (lg0_ORIGIN:K.lookup p0_ORIGIN=some ⟨.type "tuple",od0_ORIGIN,.seq #[.int 0 t0_0_ORIGIN,.int 1 t1_0_ORIGIN] n0_ORIGIN,sl0_ORIGIN⟩) (lg1_ORIGIN:K.lookup p1_ORIGIN=some ⟨.type "tuple",od1_ORIGIN,.seq #[.int 0 t0_1_ORIGIN,.int 1 t1_1_ORIGIN] n1_ORIGIN,sl1_ORIGIN⟩)
  (n9:PySem.W.nsIn K mainGlobals "NOUGHT"=some (some (.ref pB))) (n4:K.lookup pB=some ⟨.type "tuple",yf,.seq #[.int 0 yO,.int 1 yz] AV,xX⟩)
  (vJ:PySem.W.nsIn K mainGlobals "ONE"=some (some (.ref Bj))) (vG:K.lookup Bj=some ⟨.type "tuple",Gr,.seq #[.int 1 FQ,.int 1 Hc] IR,GX⟩)
  (hTr:l.prog.given.tree=none)
  (Ct:PySem.W.nsIn K mainGlobals "abs"=some none) (BH:PySem.W.nsIn K mainGlobals "max"=some none) (B8:PySem.W.nsIn K mainGlobals "len"=some none) (vY:PySem.W.nsIn K mainGlobals "list"=some none) (vF:PySem.W.nsIn K mainGlobals "dict"=some none) (tT:PySem.W.nsIn K mainGlobals "range"=some none) (Cu:PySem.W.nsIn K mainGlobals "any"=some none) (qy:PySem.W.nsIn K mainGlobals "sorted"=some none) (zJ:PySem.W.nsIn K mainGlobals "set"=some none) (BA:PySem.W.nsIn K mainGlobals "int"=some none) (Aj:PySem.W.nsIn K mainGlobals "min"=some none):
  ∃ fd:FuncData,(∀ (s:Shared) (v:Value),BindsTo s fd ⟨[v],[]⟩ [("script",v)])/\∀ base:Heap,K.In base->base.Ns mainGlobals mg->oS mg base->PySem.W.CodeAll [] base->aH l.prog w K mg base cQ 43 fa fd ["script"] (cY K vo):=by
 have e:=hfa.symm.trans (PySem.W.mg_of X G d69.a)
 cases e
 have lL:=PySem.W.mg_none_of X G Ct
 have hZ:=PySem.W.mg_none_of X G BH
 have j4:=PySem.W.mg_none_of X G B8
 have nU:=PySem.W.mg_none_of X G vY
 have nW:=PySem.W.mg_none_of X G vF
 have br:=PySem.W.mg_none_of X G tT
 have BM:=PySem.W.mg_none_of X G Cu
 have qG:=PySem.W.mg_none_of X G qy
 have z7:=PySem.W.mg_none_of X G zJ
 have wS:=PySem.W.mg_none_of X G BA
 have BF:=PySem.W.mg_none_of X G Aj
 have mQ:AW K mg "ORIGIN" [[0,1],[0,1]]:=⟨pU,_,_,_,PySem.W.mg_of X G oh,oj,rfl,rfl,Nat.le_of_ble_eq_true rfl,.cons lg0_ORIGIN rfl rfl (Nat.le_of_ble_eq_true rfl) (.cons ⟨_,rfl⟩ (.cons ⟨_,rfl⟩ (.nil))) (.cons lg1_ORIGIN rfl rfl (Nat.le_of_ble_eq_true rfl) (.cons ⟨_,rfl⟩ (.cons ⟨_,rfl⟩ (.nil))) (.nil))⟩
 have bK:qU K mg "NOUGHT" [0,1]:=⟨pB,_,_,_,PySem.W.mg_of X G n9,n4,rfl,rfl,Nat.le_of_ble_eq_true rfl,.cons ⟨_,rfl⟩ (.cons ⟨_,rfl⟩ (.nil))⟩
 have lG:qU K mg "ONE" [1,1]:=⟨Bj,_,_,_,PySem.W.mg_of X G vJ,vG,rfl,rfl,Nat.le_of_ble_eq_true rfl,.cons ⟨_,rfl⟩ (.cons ⟨_,rfl⟩ (.nil))⟩
 obtain⟨fd,Fn,hc,hb⟩:=d69.fn
 refine⟨fd,hb,fun base _ _ hBl hCA=>?_⟩
 have aT:=d1.own (P:=l.prog) (w:=w) (base:=base) (ps:=["one","other"]) (k:=1) (F:=bH) X G fun _ F _=>mH F lL
 have eG:=d2.own (P:=l.prog) (w:=w) (base:=base) (ps:=["top","bottom"]) (k:=34) (F:=hE) X G fun _ F _=>BC F aT hBl hTr
 have ft:=d3.own (P:=l.prog) (w:=w) (base:=base) (ps:=["one","other"]) (k:=35) (F:=n6) X G fun _ F _=>DC F eG
 have dW:=d4.own (P:=l.prog) (w:=w) (base:=base) (ps:=["one","other"]) (k:=35) (F:=lr) X G fun _ F _=>By F eG
 have bO:=d5.own (P:=l.prog) (w:=w) (base:=base) (ps:=["one","other"]) (k:=35) (F:=jx) X G fun _ F _=>BI F eG
 have dk:=d6.own (P:=l.prog) (w:=w) (base:=base) (ps:=["one","other"]) (k:=35) (F:=mf) X G fun _ F _=>CV F eG
 have aM:=d7.own (P:=l.prog) (w:=w) (base:=base) (ps:=["one"]) (k:=1) (F:=eO) X G fun _ F _=>um F
 have cV:=d8.own (P:=l.prog) (w:=w) (base:=base) (ps:=["one"]) (k:=1) (F:=fo) X G fun _ F _=>oC F lL
 have jK:=d9.own (P:=l.prog) (w:=w) (base:=base) (ps:=["number"]) (k:=34) (F:=jS) X G fun _ F _=>rF F hBl hTr
 have cy:=d10.own (P:=l.prog) (w:=w) (base:=base) (ps:=["number"]) (k:=35) (F:=dh) X G fun _ F _=>jO F jK
 have nM:=d11.own (P:=l.prog) (w:=w) (base:=base) (ps:=["one"]) (k:=36) (F:=og) X G fun _ F _=>v5 F cy
 have fO:=d12.own (P:=l.prog) (w:=w) (base:=base) (ps:=["one"]) (k:=1) (F:=jn) X G fun _ F _=>uX F
 have im:=d13.own (P:=l.prog) (w:=w) (base:=base) (ps:=["one","other"]) (k:=2) (F:=iA) X G fun _ F _=>oN F aM
 have jD:=d14.own (P:=l.prog) (w:=w) (base:=base) (ps:=["one","other"]) (k:=2) (F:=jM) X G fun _ F _=>q9 F cV fO
 have sV:=d15.own (P:=l.prog) (w:=w) (base:=base) (ps:=["one","base"]) (k:=37) (F:=tV) X G fun _ F _=>B_ F fO nM dk cV im bK
 have eN:=d16.own (P:=l.prog) (w:=w) (base:=base) (ps:=["point"]) (k:=1) (F:=jw) X G fun _ F _=>uu F
 have eV:=d17.own (P:=l.prog) (w:=w) (base:=base) (ps:=["one","other"]) (k:=36) (F:=iN) X G fun _ F _=>sE F dW
 have az:=d18.own (P:=l.prog) (w:=w) (base:=base) (ps:=["one","other"]) (k:=36) (F:=bG) X G fun _ F _=>ml F ft bO
 have o6:=d19.own (P:=l.prog) (w:=w) (base:=base) (ps:=["place","way","by"]) (k:=36) (F:=t9) X G fun _ F _=>Au F ft bO
 have eQ:=d20.own (P:=l.prog) (w:=w) (base:=base) (ps:=["way"]) (k:=37) (F:=eK) X G fun _ F _=>lC F az
 have bV:=d21.own (P:=l.prog) (w:=w) (base:=base) (ps:=["sums"]) (k:=1) (F:=dz) X G fun _ F _=>lR F
 have aO:=d22.own (P:=l.prog) (w:=w) (base:=base) (ps:=["one","other"]) (k:=34) (F:=cK) X G fun _ F _=>lZ F aT hBl hTr
 have cF:=d23.own (P:=l.prog) (w:=w) (base:=base) (ps:=["fractions"]) (k:=35) (F:=eF) X G fun _ F _=>nR F aO
 have cI:=d24.own (P:=l.prog) (w:=w) (base:=base) (ps:=["curve","bottom"]) (k:=1) (F:=gj) X G fun _ F _=>ui F
 have cp:=d25.own (P:=l.prog) (w:=w) (base:=base) (ps:=["tops"]) (k:=2) (F:=cr) X G fun _ F _=>nj F aT hZ
 have c_:=d26.own (P:=l.prog) (w:=w) (base:=base) (ps:=["curve"]) (k:=36) (F:=i9) X G fun _ F _=>yZ F cp cI cF j4 nU
 have k_:=d27.own (P:=l.prog) (w:=w) (base:=base) (ps:=["place","across"]) (k:=37) (F:=kF) X G fun _ F _=>tE F bV aM az
 have iU:=d28.own (P:=l.prog) (w:=w) (base:=base) (ps:=["place","square"]) (k:=37) (F:=iY) X G fun _ F _=>pV F ft dW az bV aM lG
 have ic:=d29.own (P:=l.prog) (w:=w) (base:=base) (ps:=["one","other"]) (k:=38) (F:=hV) X G fun _ F _=>oP F eN eV eQ c_ k_ aM
 have iq:=d30.own (P:=l.prog) (w:=w) (base:=base) (ps:=["middle","square"]) (k:=38) (F:=iy) X G fun _ F _=>oH F c_ iU eN
 have bF:=d31.own (P:=l.prog) (w:=w) (base:=base) (ps:=["one","other"]) (k:=1) (F:=dy) X G fun _ F _=>lV F
 have cM:=d32.own (P:=l.prog) (w:=w) (base:=base) (ps:=["one","other"]) (k:=1) (F:=fU) X G fun _ F _=>pk F nW
 have cc:=d49.own (P:=l.prog) (w:=w) (base:=base) (ps:=["curve"]) (k:=1) (F:=fi) X G fun _ F _=>qR F hZ
 have aY:=d33.own (P:=l.prog) (w:=w) (base:=base) (ps:=["tops"]) (k:=1) (F:=cx) X G fun _ F _=>jR F
 have cR:=d34.own (P:=l.prog) (w:=w) (base:=base) (ps:=["number","most"]) (k:=1) (F:=fu) X G fun _ F _=>oT F br
 have ib:=d35.own (P:=l.prog) (w:=w) (base:=base) (ps:=["tops","x","y","bottom"]) (k:=2) (F:=gq) X G fun _ F _=>yr F cc cR cM bF aY br
 have jU:=d36.own (P:=l.prog) (w:=w) (base:=base) (ps:=["tops"]) (k:=2) (F:=jF) X G fun _ F _=>rp F cc nW br BM
 have fG:=d37.own (P:=l.prog) (w:=w) (base:=base) (ps:=["tops"]) (k:=3) (F:=fF) X G fun _ F _=>nE F jU
 have iT:=d38.own (P:=l.prog) (w:=w) (base:=base) (ps:=["tops","power"]) (k:=4) (F:=fS) X G fun _ F _=>o_ F cc cR cM bF fG aY br
 have bI:=d39.own (P:=l.prog) (w:=w) (base:=base) (ps:=["one","other","base"]) (k:=1) (F:=fb) X G fun _ F _=>rk F
 have fB:=d40.own (P:=l.prog) (w:=w) (base:=base) (ps:=["one","power","base"]) (k:=2) (F:=jr) X G fun _ F _=>q_ F bI
 have k7:=d41.own (P:=l.prog) (w:=w) (base:=base) (ps:=["number","base"]) (k:=38) (F:=kO) X G fun _ F _=>tJ F dk sV aO
 have fV:=d42.own (P:=l.prog) (w:=w) (base:=base) (ps:=["number","powers","base"]) (k:=39) (F:=iV) X G fun _ F _=>p_ F k7 bI fB hZ qG z7
 have kP:=d43.own (P:=l.prog) (w:=w) (base:=base) (ps:=["curve","point","base"]) (k:=40) (F:=lc) X G fun _ F _=>sQ F fV cF cI bI nU
 have mB:=d44.own (P:=l.prog) (w:=w) (base:=base) (ps:=["curve","point"]) (k:=41) (F:=ip) X G fun _ F _=>u5 F kP jD j4
 have cq:=d23.own (P:=l.prog) (w:=w) (base:=base) (ps:=["fractions"]) (k:=35) (F:=dR) X G fun _ F _=>m3 F aO
 have cO:=d45.own (P:=l.prog) (w:=w) (base:=base) (ps:=["fractions","bottom"]) (k:=1) (F:=fY) X G fun _ F _=>pG F
 have mP:=d46.own (P:=l.prog) (w:=w) (base:=base) (ps:=["way","by"]) (k:=36) (F:=pN) X G fun _ F _=>yX F ft bO dW
 have wC:=d47.own (P:=l.prog) (w:=w) (base:=base) (ps:=["lead"]) (k:=37) (F:=vH) X G fun _ F _=>En F az o6 dk mP bO eV mQ bK lG
 have wo:=d48.own (P:=l.prog) (w:=w) (base:=base) (ps:=["lead"]) (k:=36) (F:=vM) X G fun _ F _=>CZ F aM dk lG
 have kN:=d49.own (P:=l.prog) (w:=w) (base:=base) (ps:=["curve"]) (k:=1) (F:=kL) X G fun _ F _=>sR F hZ
 have kX:=d50.own (P:=l.prog) (w:=w) (base:=base) (ps:=["curve"]) (k:=37) (F:=kQ) X G fun _ F _=>tZ F bO dk dW az bK
 have eU:=d51.own (P:=l.prog) (w:=w) (base:=base) (ps:=["curve"]) (k:=38) (F:=i7) X G fun _ F _=>wB F kN c_ kX bK
 have jt:=d52.own (P:=l.prog) (w:=w) (base:=base) (ps:=["lead","tops"]) (k:=38) (F:=gW) X G fun _ F _=>qZ F wC wo cq cO ib
 have gF:=d53.own (P:=l.prog) (w:=w) (base:=base) (ps:=["lead","tops"]) (k:=36) (F:=gG) X G fun _ F _=>nT F cq cO ib iT
 have dM:=d54.own (P:=l.prog) (w:=w) (base:=base) (ps:=["leads","curve"]) (k:=39) (F:=gh) X G fun _ F _=>ub F c_ cI cp gF jt
 have io:=d55.own (P:=l.prog) (w:=w) (base:=base) (ps:=["script","k"]) (k:=1) (F:=iC) X G fun _ F _=>oK F j4
 have jP:=d56.own (P:=l.prog) (w:=w) (base:=base) (ps:=["script","k"]) (k:=2) (F:=ji) X G fun _ F _=>qV F io
 have aR:=d57.own (P:=l.prog) (w:=w) (base:=base) (ps:=["state","many"]) (k:=1) (F:=dJ) X G fun _ F _=>sZ F
 have ii:=d58.own (P:=l.prog) (w:=w) (base:=base) (ps:=["one","other"]) (k:=1) (F:=h_) X G fun _ F _=>oB F lL
 have ce:=d59.own (P:=l.prog) (w:=w) (base:=base) (ps:=["top","bottom"]) (k:=2) (F:=dU) X G fun _ F _=>qN F ii
 have bz:=d60.own (P:=l.prog) (w:=w) (base:=base) (ps:=["one","other"]) (k:=3) (F:=gQ) X G fun _ F _=>rE F ce
 have f_:=d61.own (P:=l.prog) (w:=w) (base:=base) (ps:=["one","other"]) (k:=3) (F:=kC) X G fun _ F _=>sL F ce
 have aB:=d62.own (P:=l.prog) (w:=w) (base:=base) (ps:=["state","most"]) (k:=3) (F:=aS) X G fun _ F _=>oe F ce aR
 have aZ:=d63.own (P:=l.prog) (w:=w) (base:=base) (ps:=["state","most"]) (k:=4) (F:=db) X G fun _ F _=>o8 F aB
 have ky:=d64.own (P:=l.prog) (w:=w) (base:=base) (ps:=["state","inverts"]) (k:=5) (F:=kM) X G fun _ F _=>tX F aR aB aZ
 have dY:=d65.own (P:=l.prog) (w:=w) (base:=base) (ps:=["state","most","inverts"]) (k:=6) (F:=g_) X G fun _ F _=>rn F aR ky br wS
 have cG:=d66.own (P:=l.prog) (w:=w) (base:=base) (ps:=["x","y"]) (k:=1) (F:=fq) X G fun _ F _=>qX F
 have kZ:=d67.own (P:=l.prog) (w:=w) (base:=base) (ps:=["state"]) (k:=39) (F:=kA) X G fun _ F _=>sU F aB aZ f_ bz cG ic iq br
 have mD:=d68.own (P:=l.prog) (w:=w) (base:=base) (ps:=["state","curve","points"]) (k:=42) (F:=mz) X G fun _ F _=>uB F dY bz eU dM cG aB aR aZ mB
 exact Fs Fn jP kZ mD eU dM dY br hZ BF j4
theorem walk {l:PySem.W.OpenLaw} {q:Program} {loose:List Str} {XP:(Str->Option Value)->Heap->Prop} {YP:World->Heap->Prop} {d:DefRec} {K:Params->Fg} (himp:importsNone q=true) (hn:l.most=some 63) (hdf:d.params.defaults=[])
  (hY:∀ (w:World) (h:Heap),YP w h->(K w.params).In h)
  (hnK:∀ w:World,PySem.W.noTabs (K w.params)=true) (hT:∀ (w:World) (h:Heap),YP w h->PySem.W.TabsAt [] h)
  (F:∀ (w:World) (mg:Str->Option Value) (fa:Addr) (h:Heap),(K w.params).In h->h.Ns mainGlobals mg->mg d.name=some (.ref fa)->
   ∃ fd:FuncData,(∀ (s:Shared) (u:Value),BindsTo s fd ⟨[u],[]⟩ [("script",u)])/\∀ base:Heap,(K w.params).In base->base.Ns mainGlobals mg->oS mg base->PySem.W.CodeAll [] base->aH l.prog w (K w.params) mg base cQ 43 fa fd ["script"] (cY (K w.params) vo)):
  PySem.W.WalkO q loose XP YP l.row.toRowW d [] (fun f vs=>PySem.call f vs):=
 L2.Bl (n:=63) (k:=43) (x:="script") (CX:=fun _=>cQ) (sp:=fun w=>cY (K w.params) vo) himp hn (by decide) hdf ⟨rfl,by decide,by decide⟩ hY hnK hT F
  (fun w H a ns hl ho hS=>DL.Db (tq:=[]) ho hS (by simp) (Em ns hl)) fun _ _ _ _ _ z=>z
end My
open PySem PySem.W PyProof.Rows
set_option maxRecDepth 100000 in
set_option maxHeartbeats 0 in
theorem PySem.Challenge.cw_hingedraw_k76_whole_lines_and_circles_holds : PySem.Challenge.rw_hingedraw_k76_whole_lines_and_circles.Holds := by
 w_on; o_law; k_head; (case hw=>w_witness2)
 k_fill
 refine My.walk (l := PySem.Challenge.rw_hingedraw_k76_whole_lines_and_circles) ?imp rfl rfl (fun w h Y => PySem.W.kIn_of Y) ?nK ?xs ?F
 case imp=>kernel_rfl
 case nK=>intro w; kernel_rfl
 case xs=>intro w h Y; exact fun _ h=>nomatch h
 case F=>
  intro w mg fa h KX G hmg
  refine' My.Ho KX G hmg ?d1 ?d2 ?d3 ?d4 ?d5 ?d6 ?d7 ?d8 ?d9 ?d10 ?d11 ?d12 ?d13 ?d14 ?d15 ?d16 ?d17 ?d18 ?d19 ?d20 ?d21 ?d22 ?d23 ?d24 ?d25 ?d26 ?d27 ?d28 ?d29 ?d30 ?d31 ?d32 ?d33 ?d34 ?d35 ?d36 ?d37 ?d38 ?d39 ?d40 ?d41 ?d42 ?d43 ?d44 ?d45 ?d46 ?d47 ?d48 ?d49 ?d50 ?d51 ?d52 ?d53 ?d54 ?d55 ?d56 ?d57 ?d58 ?d59 ?d60 ?d61 ?d62 ?d63 ?d64 ?d65 ?d66 ?d67 ?d68 ?d69 ?oh ?oj ?lg0_ORIGIN ?lg1_ORIGIN ?n9 ?n4 ?vJ ?vG ?hTr ?Ct ?BH ?B8 ?vY ?vF ?tT ?Cu ?qy ?zJ ?BA ?Aj
  case d1 | d2 | d3 | d4 | d5 | d6 | d7 | d8 | d9 | d10 | d11 | d12 | d13 | d14 | d15 | d16 | d17 | d18 | d19 | d20 | d21 | d22 | d23 | d24 | d25 | d26 | d27 | d28 | d29 | d30 | d31 | d32 | d33 | d34 | d35 | d36 | d37 | d38 | d39 | d40 | d41 | d42 | d43 | d44 | d45 | d46 | d47 | d48 | d49 | d50 | d51 | d52 | d53 | d54 | d55 | d56 | d57 | d58 | d59 | d60 | d61 | d62 | d63 | d64 | d65 | d66 | d67 | d68 | d69=>refine' ⟨?a,.mk ?l,?e,?k⟩; (case a=>k_is); (case l=>k_is); (case e=>k_is); (case k=>k_is)
  (case oh=>k_is)
  (case oj=>k_is)
  (case lg0_ORIGIN=>k_is)
  (case lg1_ORIGIN=>k_is)
  (case n9=>k_is)
  (case n4=>k_is)
  (case vJ=>k_is)
  (case vG=>k_is)
  (case hTr=>exact rfl)
  (case Ct=>k_is)
  (case BH=>k_is)
  (case B8=>k_is)
  (case vY=>k_is)
  (case vF=>k_is)
  (case tT=>k_is)
  (case Cu=>k_is)
  (case qy=>k_is)
  (case zJ=>k_is)
  (case BA=>k_is)
  (case Aj=>k_is)
